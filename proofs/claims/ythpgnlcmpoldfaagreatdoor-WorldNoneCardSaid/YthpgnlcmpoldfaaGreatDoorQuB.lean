/-
  A queue in memory; class.Is; New, Len, Open, Rests, Done, Put, Take, of every queue that there is, and of none.
-/
import Derived.Test.YthpgnlcmpoldfaaGreatDoorQuA
import Derived.WalkMore
namespace Go.Proofs.YthpgnlcmpoldfaaGreatDoor.Qu
open Go.RowKit
open Go.Proofs.YthpgnlcmpoldfaaGreatDoor.Row

def upd {α : Type} (f : Nat → α) (k : Nat) (v : α) : Nat → α := fun j => if j = k then v else f j
theorem upd_same {α : Type} (f : Nat → α) (k : Nat) (v : α) : upd f k v k = v := by simp [upd]
theorem upd_other {α : Type} (f : Nat → α) {k j : Nat} (v : α) (h : j ≠ k) : upd f k v j = f j := by simp [upd, h]

/-- A queue in memory: of each class its row; how many are open. -/
structure QuIs (w : World) (Q base : Nat) (ps : Nat → Option Addr) (cs : Nat → Nat) (rv : Nat → List Int) (op : Nat) : Prop where
  cv : ∀ k, k < 4 → w.cell? ⟨Q, k, none⟩ = some (.slice (ps k) (rv k).length (cs k))
  co : w.cell? ⟨Q, 4, none⟩ = some (.int .i64 op)
  f : ∀ o, o < 5 → w.frozen? ⟨Q, o, none⟩ = false
  rm : ∀ k, k < 4 → Rm w base (ps k) (cs k) (rv k)
  ne : ∀ k, k < 4 → ¬ rowB (ps k) Q
  ap : ∀ i j, i < 4 → j < 4 → i ≠ j → ∀ g, rowB (ps i) g → ¬ rowB (ps j) g
  base : base ≤ Q
/-- Its blocks. -/
def Own (Q : Nat) (ps : Nat → Option Addr) (g : Nat) : Prop := g = Q ∨ ∃ i, i < 4 ∧ rowB (ps i) g
section
variable {w w' : World} {Q base op : Nat} {ps : Nat → Option Addr} {cs : Nat → Nat} {rv : Nat → List Int}
theorem QuIs.lt (h : QuIs w Q base ps cs rv op) : Q < w.heap.size := World.block_lt_of_cell? w _ h.co
theorem QuIs.ltO (h : QuIs w Q base ps cs rv op) {g : Nat} (hg : Own Q ps g) : base ≤ g ∧ g < w.heap.size := by
  rcases hg with rfl | ⟨i, hi, hg⟩
  · exact ⟨h.base, h.lt⟩
  · exact (h.rm i hi).lt hg
theorem QuIs.kept (h : QuIs w Q base ps cs rv op) (hg : ∀ g, Own Q ps g → w'.heap[g]? = w.heap[g]?) : QuIs w' Q base ps cs rv op :=
  ⟨fun k hk => (cell_of_block (a := ⟨Q, k, none⟩) (hg Q (.inl rfl))).trans (h.cv k hk), (cell_of_block (a := ⟨Q, 4, none⟩) (hg Q (.inl rfl))).trans h.co, fun o ho => (frozen_of_block (a := ⟨Q, o, none⟩) (hg Q (.inl rfl))).trans (h.f o ho),
    fun k hk => (h.rm k hk).kept (fun g hr => hg g (.inr ⟨k, hk, hr⟩)), h.ne, h.ap, h.base⟩
theorem QuIs.later (h : QuIs w Q base ps cs rv op) (hb : Below w.heap.size w w') : QuIs w' Q base ps cs rv op := h.kept fun g hg => hb.block g (h.ltO hg).2
theorem QuIs.chg {S : Nat → Prop} (h : QuIs w Q base ps cs rv op) (hc : Chg S w w') (hS : ∀ g, Own Q ps g → ¬ S g) : QuIs w' Q base ps cs rv op := h.kept fun g hg => hc.block g (h.ltO hg).2 (hS g hg)
theorem QuIs.drewN (h : QuIs w Q base ps cs rv op) (n : Nat) : QuIs (w.drewN n) Q base ps cs rv op := h.kept fun _ _ => rfl
/-- Another number of open ones. -/
theorem QuIs.opened (h : QuIs w Q base ps cs rv op) (n : Nat) : QuIs (w.setCell ⟨Q, 4, none⟩ (.int .i64 n)) Q base ps cs rv n :=
  ⟨fun k hk => (other (by first | (simp; done) | (simp; omega))).trans (h.cv k hk), same h.co, fun o ho => (World.frozen?_setCell ..).trans (h.f o ho),
    fun k hk => (h.rm k hk).kept (fun g hr => Below.heap_setCell _ _ _ _ (fun e => h.ne k hk (by rw [← (show g = Q from e)]; exact hr))), h.ne, h.ap, h.base⟩
/-- One class's row turned. -/
theorem QuIs.lay (h : QuIs w Q base ps cs rv op) {k : Nat} (hk : k < 4) {p' : Option Addr} {c' : Nat} {l' : List Int} (hC : Chg (rowB (ps k)) w w') (hr : Rm w' base p' c' l') (hR : ∀ g, rowB p' g → rowB (ps k) g ∨ w.heap.size ≤ g) :
    QuIs (w'.setCell ⟨Q, k, none⟩ (.slice p' l'.length c')) Q base (upd ps k p') (upd cs k c') (upd rv k l') op := by
  have hQ : w'.heap[Q]? = w.heap[Q]? := hC.block Q h.lt (h.ne k hk)
  have hp'Q : ¬ rowB p' Q := fun e => (hR Q e).elim (h.ne k hk) (fun x => by have := h.lt; omega)
  have hsb : ∀ g, g ≠ Q → (w'.setCell ⟨Q, k, none⟩ (.slice p' l'.length c')).heap[g]? = w'.heap[g]? := fun g hg => Below.heap_setCell _ _ _ _ (fun e => hg e)
  have far : ∀ j, j < 4 → j ≠ k → ∀ g, rowB (ps j) g → ¬ rowB p' g := fun j hj hjk g hg e => (hR g e).elim (fun x => h.ap j k hj hk hjk g hg x) (fun x => by have := ((h.rm j hj).lt hg).2; omega)
  refine ⟨fun j hj => ?_, ?_, fun o ho => (World.frozen?_setCell ..).trans ((frozen_of_block (a := ⟨Q, o, none⟩) hQ).trans (h.f o ho)), fun j hj => ?_, fun j hj => ?_, fun i j hi hj hij g hg => ?_, h.base⟩
  · by_cases e : j = k
    · subst e; rw [upd_same, upd_same, upd_same]; exact same ((cell_of_block (a := ⟨Q, j, none⟩) hQ).trans (h.cv j hj))
    · rw [upd_other _ _ e, upd_other _ _ e, upd_other _ _ e]
      exact (other (by first | (simp; done) | (simp; omega))).trans ((cell_of_block (a := ⟨Q, j, none⟩) hQ).trans (h.cv j hj))
  · exact (other (by first | (simp; done) | (simp; omega))).trans ((cell_of_block (a := ⟨Q, 4, none⟩) hQ).trans h.co)
  · by_cases e : j = k
    · subst e; rw [upd_same, upd_same, upd_same]
      exact hr.kept (fun g hg => hsb g (fun e => hp'Q (e ▸ hg)))
    · rw [upd_other _ _ e, upd_other _ _ e, upd_other _ _ e]
      exact (h.rm j hj).kept (fun g hg => (hsb g (fun e2 => h.ne j hj (e2 ▸ hg))).trans (hC.block g ((h.rm j hj).lt hg).2 (h.ap j k hj hk e g hg)))
  · by_cases e : j = k
    · subst e; rw [upd_same]; exact hp'Q
    · rw [upd_other _ _ e]; exact h.ne j hj
  · by_cases e1 : i = k
    · subst e1
      rw [upd_same] at hg
      rw [upd_other _ _ (fun e => hij e.symm)]
      exact fun x => far j hj (fun e => hij e.symm) g x hg
    · rw [upd_other _ _ e1] at hg
      by_cases e2 : j = k
      · subst e2; rw [upd_same]; exact far i hi e1 g hg
      · rw [upd_other _ _ e2]; exact h.ap i j hi hj hij g hg
theorem Own.upd {k : Nat} {p' : Option Addr} {N : Nat} (hk : k < 4) (hR : ∀ g, rowB p' g → rowB (ps k) g ∨ N ≤ g) {g : Nat} (hg : Own Q (upd ps k p') g) : Own Q ps g ∨ N ≤ g := by
  rcases hg with rfl | ⟨i, hi, hg⟩
  · exact .inl (.inl rfl)
  · by_cases e : i = k
    · subst e; rw [upd_same] at hg
      exact (hR g hg).imp (fun x => .inr ⟨i, hi, x⟩) id
    · rw [upd_other _ _ e] at hg; exact .inl (.inr ⟨i, hi, hg⟩)
end

/-- Whether there is such a class. -/
def clsB (k : Int) : Bool := decide (0 ≤ k ∧ k < 4)
theorem is_any (k : Int) (w : World) : Calls Tryz.prog 215 #[.int .i64 k] w fun e w' => e = .returned (.bool (clsB k)) ∧ w = w' := by
  by_cases h0 : 0 ≤ k
  · by_cases h4 : k < 4
    · have e : clsB k = true := by simp [clsB, h0, h4]
      rw [e]
      go_enter Tryz.func215, Tryz.ntmps215
      go_wp2
      go_ret
      exact ⟨rfl, rfl⟩
    · have e : clsB k = false := by simp [clsB, h4]
      rw [e]
      go_enter Tryz.func215, Tryz.ntmps215
      go_wp2
      go_ret
      exact ⟨rfl, rfl⟩
  · have e : clsB k = false := by simp [clsB, h0]
    rw [e]
    go_enter Tryz.func215, Tryz.ntmps215
    go_wp2
    go_ret
    exact ⟨rfl, rfl⟩

theorem new_any (w : World) : Calls Tryz.prog 53 #[] w fun e w' => e = .returned (.pointer (some ⟨w.heap.size, 0, none⟩)) ∧ QuIs w' w.heap.size w.heap.size (fun _ => none) (fun _ => 0) (fun _ => []) 0 ∧ Below w.heap.size w w' ∧ w'.heap.size = w.heap.size + 1 := by
  go_enter Tryz.func53, Tryz.ntmps53
  go_wp2
  go_ret
  refine ⟨rfl, ⟨fun k hk => ?_, by simp, fun o ho => by simp, fun k _ => Rm.nil _ _, fun k _ => rowB_none _, fun i j _ _ _ g hg => absurd hg (rowB_none g), Nat.le_refl _⟩, (Below.refl _ _).alloc (Nat.le_refl _) _, by simp⟩
  match k, hk with
  | 0, _ => simp
  | 1, _ => simp
  | 2, _ => simp
  | 3, _ => simp

theorem open_nil (w : World) : Calls Tryz.prog 283 #[.pointer none] w fun e w' => e = .returned (.int .i64 0) ∧ w = w' := by
  go_enter Tryz.func283, Tryz.ntmps283
  go_wp2
  go_ret
  exact ⟨rfl, rfl⟩
theorem len_nil (k : Int) (w : World) : Calls Tryz.prog 330 #[.pointer none, .int .i64 k] w fun e w' => e = .returned (.int .i64 0) ∧ w = w' := by
  go_enter Tryz.func330, Tryz.ntmps330
  go_wp2_with (go_at_call 215; refine (is_any _ _).mono ?_; rintro e w' ⟨rfl, rfl⟩)
  go_ret
  exact ⟨rfl, rfl⟩
theorem rests_nil (w : World) : Calls Tryz.prog 325 #[.pointer none] w fun e w' => e = .returned (.bool false) ∧ w = w' := by
  go_enter Tryz.func325, Tryz.ntmps325
  go_wp2
  go_ret
  exact ⟨rfl, rfl⟩
theorem done_nil (w : World) : Calls Tryz.prog 247 #[.pointer none] w fun e w' => e = .returned (.int .i64 11) ∧ w = w' := by
  go_enter Tryz.func247, Tryz.ntmps247
  go_wp2_with (go_at_call 283; refine (open_nil _).mono ?_; rintro e w' ⟨rfl, rfl⟩)
  go_ret
  exact ⟨rfl, rfl⟩
theorem put_nil (k b : Int) (w : World) : Calls Tryz.prog 324 #[.pointer none, .int .i64 k, .int .i64 b] w fun e w' => e = .returned (.int .i64 11) ∧ w = w' := by
  go_enter Tryz.func324, Tryz.ntmps324
  go_wp2
  go_ret
  exact ⟨rfl, rfl⟩
theorem take_nil (k : Int) (w : World) : Calls Tryz.prog 243 #[.pointer none, .int .i64 k] w fun e w' => e = .returned (.tuple #[.int .i64 0, .int .i64 11]) ∧ w = w' := by
  go_enter Tryz.func243, Tryz.ntmps243
  go_wp2
  go_ret2
  exact ⟨rfl, rfl⟩

section
variable {Q base op : Nat} {ps : Nat → Option Addr} {cs : Nat → Nat} {rv : Nat → List Int}
theorem open_any (w : World) (h : QuIs w Q base ps cs rv op) : Calls Tryz.prog 283 #[.pointer (some ⟨Q, 0, none⟩)] w fun e w' => e = .returned (.int .i64 op) ∧ w = w' := by
  have hc := h.co
  clear h
  go_enter Tryz.func283, Tryz.ntmps283
  go_wp2
  go_ret
  exact ⟨rfl, rfl⟩
theorem len_bad (k : Int) (w : World) (hk : clsB k = false) : Calls Tryz.prog 330 #[.pointer (some ⟨Q, 0, none⟩), .int .i64 k] w fun e w' => e = .returned (.int .i64 0) ∧ w = w' := by
  go_enter Tryz.func330, Tryz.ntmps330
  go_wp2_with (go_at_call 215; refine (is_any _ _).mono ?_; rw [hk]; rintro e w' ⟨rfl, rfl⟩)
  go_ret
  exact ⟨rfl, rfl⟩
theorem cls_yes {k : Nat} (hk : k < 4) : clsB (k : Int) = true := by simp [clsB]; omega
theorem len_any (k : Nat) (hk : k < 4) (w : World) (h : QuIs w Q base ps cs rv op) : Calls Tryz.prog 330 #[.pointer (some ⟨Q, 0, none⟩), .int .i64 k] w fun e w' => e = .returned (.int .i64 (rv k).length) ∧ w = w' := by
  have hc := h.cv k hk
  have k0 : (0 : Int) ≤ (k : Int) := Int.natCast_nonneg _
  have k4 : (k : Int) < 4 := by omega
  have hcl := cls_yes hk
  clear h
  go_enter Tryz.func330, Tryz.ntmps330
  go_wp2_with (go_at_call 215; refine (is_any _ _).mono ?_; rw [hcl]; rintro e w' ⟨rfl, rfl⟩)
  go_ret
  exact ⟨rfl, rfl⟩
theorem done_bad (w : World) (h : QuIs w Q base ps cs rv 0) : Calls Tryz.prog 247 #[.pointer (some ⟨Q, 0, none⟩)] w fun e w' => e = .returned (.int .i64 11) ∧ w = w' := by
  have H := Lib.hid h
  clear h
  go_enter Tryz.func247, Tryz.ntmps247
  go_wp2_with (go_at_call 283; refine (open_any _ H.out).mono ?_; rintro e w' ⟨rfl, rfl⟩)
  go_ret
  exact ⟨rfl, rfl⟩
theorem done_good (n : Nat) (w : World) (h : QuIs w Q base ps cs rv (n + 1)) (hn : n ≤ 1000000) : Calls Tryz.prog 247 #[.pointer (some ⟨Q, 0, none⟩)] w fun e w' => e = .returned (.int .i64 0) ∧ QuIs w' Q base ps cs rv n ∧ Chg (fun g => g = Q) w w' := by
  have hc := h.co
  have hf := h.f 4 (by decide)
  have H := Lib.hid h
  have hne : (((n + 1 : Nat) : Int) == 0) = false := by rw [beq_eq_false_iff_ne]; omega
  clear h
  go_enter Tryz.func247, Tryz.ntmps247
  go_wp2_with (go_at_call 283; refine (open_any _ H.out).mono ?_; rintro e w' ⟨rfl, rfl⟩)
  go_ret
  exact ⟨rfl, by simpa using H.out.opened n, Chg.set (S := fun g => g = Q) (Chg.refl _ _) (.inl rfl) _⟩
theorem put_bad (k b : Int) (w : World) (hk : clsB k = false ∨ b < 0) : Calls Tryz.prog 324 #[.pointer (some ⟨Q, 0, none⟩), .int .i64 k, .int .i64 b] w fun e w' => e = .returned (.int .i64 1) ∧ w = w' := by
  by_cases hc : clsB k = true
  · have hb : b < 0 := hk.elim (fun e => by rw [hc] at e; cases e) id
    clear hk
    go_enter Tryz.func324, Tryz.ntmps324
    go_wp2_with (go_at_call 215; refine (is_any _ _).mono ?_; rw [hc]; rintro e w' ⟨rfl, rfl⟩)
    go_ret
    exact ⟨rfl, rfl⟩
  · have hc : clsB k = false := by simpa using hc
    clear hk
    go_enter Tryz.func324, Tryz.ntmps324
    go_wp2_with (go_at_call 215; refine (is_any _ _).mono ?_; rw [hc]; rintro e w' ⟨rfl, rfl⟩)
    go_ret
    exact ⟨rfl, rfl⟩
theorem take_bad (k : Int) (w : World) (hc : clsB k = false) : Calls Tryz.prog 243 #[.pointer (some ⟨Q, 0, none⟩), .int .i64 k] w fun e w' => e = .returned (.tuple #[.int .i64 0, .int .i64 1]) ∧ w = w' := by
  go_enter Tryz.func243, Tryz.ntmps243
  go_wp2_with (go_at_call 215; refine (is_any _ _).mono ?_; rw [hc]; rintro e w' ⟨rfl, rfl⟩)
  go_ret2
  exact ⟨rfl, rfl⟩
theorem take_none (k : Nat) (hk : k < 4) (w : World) (h : QuIs w Q base ps cs rv op) (he : rv k = []) : Calls Tryz.prog 243 #[.pointer (some ⟨Q, 0, none⟩), .int .i64 k] w fun e w' => e = .returned (.tuple #[.int .i64 0, .int .i64 12]) ∧ w = w' := by
  have hc := h.cv k hk
  rw [he, List.length_nil] at hc
  have k0 : (0 : Int) ≤ (k : Int) := Int.natCast_nonneg _
  have k4 : (k : Int) < 4 := by omega
  have hcl := cls_yes hk
  clear h he
  go_enter Tryz.func243, Tryz.ntmps243
  go_wp2_with (go_at_call 215; refine (is_any _ _).mono ?_; rw [hcl]; rintro e w' ⟨rfl, rfl⟩)
  go_ret2
  exact ⟨rfl, rfl⟩
/-- What a Take leaves. -/
theorem QuIs.took {w : World} (h : QuIs w Q base ps cs rv op) {k : Nat} (hk : k < 4) {p' : Option Addr} {c' : Nat} {l : List Int} (hr : Rm w base p' c' l) (hR : ∀ g, rowB p' g → rowB (ps k) g) :
    QuIs (((w.setCell ⟨Q, k, none⟩ (.slice p' l.length c')).setCell ⟨Q, 4, none⟩ (.int .i64 ((op : Int) + 1))).drew) Q base (upd ps k p') (upd cs k c') (upd rv k l) (op + 1) ∧
    Chg (fun g => g = Q) w (((w.setCell ⟨Q, k, none⟩ (.slice p' l.length c')).setCell ⟨Q, 4, none⟩ (.int .i64 ((op : Int) + 1))).drew) := by
  have h1 := h.lay hk (Chg.refl _ w) hr (fun g hg => .inl (hR g hg))
  have h2 := (h1.opened (op + 1)).drewN 1
  rw [show ((op + 1 : Nat) : Int) = (op : Int) + 1 by omega] at h2
  exact ⟨h2, ((Chg.set (S := fun g => g = Q) (Chg.refl _ w) (.inl rfl) _).set (.inl rfl) _).drewN 1⟩
set_option maxHeartbeats 1000000 in
theorem take_good (k : Nat) (hk : k < 4) (x : Int) (l : List Int) (w : World) (h : QuIs w Q base ps cs rv op) (he : rv k = x :: l) (hop : op ≤ 1000000) : Calls Tryz.prog 243 #[.pointer (some ⟨Q, 0, none⟩), .int .i64 k] w fun e w' => e = .returned (.tuple #[.int .i64 x, .int .i64 0]) ∧
    ∃ p' c', QuIs w' Q base (upd ps k p') (upd cs k c') (upd rv k l) (op + 1) ∧ Chg (fun g => g = Q) w w' ∧ ∀ g, rowB p' g → rowB (ps k) g := by
  have hc := h.cv k hk
  have co := h.co
  have hr := h.rm k hk
  have f1 := h.f k (by omega)
  have f2 := h.f 4 (by omega)
  rw [he] at hc hr
  obtain ⟨g, off, hp, hx⟩ := hr.at (j := 0) (by simp)
  rw [List.getD_cons_zero, Nat.add_zero] at hx
  have hgQ : g ≠ Q := fun e => h.ne k hk (by rw [hp, e]; rfl)
  rw [hp] at hc hr
  have k0 : (0 : Int) ≤ (k : Int) := Int.natCast_nonneg _
  have k4 : (k : Int) < 4 := by omega
  have hcl := cls_yes hk
  have hlen : (x :: l).length = l.length + 1 := rfl
  have hlc := hr.le
  rw [hlen] at hc hlc
  have hl0 : ((l.length + 1 : Nat) : Int) ≠ 0 := by omega
  by_cases hc1 : cs k = 1
  · rw [hc1] at hc hr
    obtain ⟨hr', rfl⟩ := hr.last
    have H := Lib.hid h
    have HR := Lib.hid hr'
    clear h he hr hr' hlen hlc
    go_enter Tryz.func243, Tryz.ntmps243
    go_wp2_with (go_at_call 215; refine (is_any _ _).mono ?_; rw [hcl]; rintro e w' ⟨rfl, rfl⟩)
    go_region
    go_wp2
    go_ret2
    have hQ := H.out.took hk HR.out (fun g hg => by rw [hp]; exact hg)
    exact ⟨rfl, _, _, hQ.1, hQ.2, fun g hg => by rw [hp]; exact hg⟩
  · have hr' := hr.tail
    have H := Lib.hid h
    have HR := Lib.hid hr'
    clear h he hr hr' hlen
    go_enter Tryz.func243, Tryz.ntmps243
    go_wp2_with (go_at_call 215; refine (is_any _ _).mono ?_; rw [hcl]; rintro e w' ⟨rfl, rfl⟩)
    go_region
    go_wp2
    go_ret2
    have hQ := H.out.took hk HR.out (fun g hg => by rw [hp]; exact hg)
    exact ⟨rfl, _, _, hQ.1, hQ.2, fun g hg => by rw [hp]; exact hg⟩
set_option maxHeartbeats 1000000 in
theorem put_good (k : Nat) (hk : k < 4) (b : Int) (hb : 0 ≤ b) (w : World) (h : QuIs w Q base ps cs rv op) (hl : (rv k).length ≤ 1000000) : Calls Tryz.prog 324 #[.pointer (some ⟨Q, 0, none⟩), .int .i64 k, .int .i64 b] w fun e w' => e = .returned (.int .i64 0) ∧
    ∃ p' c', QuIs w' Q base (upd ps k p') (upd cs k c') (upd rv k (rv k ++ [b])) op ∧ Chg (Own Q ps) w w' ∧ ∀ g, rowB p' g → rowB (ps k) g ∨ w.heap.size ≤ g := by
  have hc := h.cv k hk
  have f1 := h.f k (by omega)
  have k0 : (0 : Int) ≤ (k : Int) := Int.natCast_nonneg _
  have k4 : (k : Int) < 4 := by omega
  have hb0 : ¬ b < 0 := by omega
  have hcl := cls_yes hk
  have hbs : base ≤ w.heap.size := by have := h.base; have := h.lt; omega
  have HL := Lib.hid (fun n => longer_any b (w.drewN n) ((h.drewN n).rm k hk) hl (by simpa using hbs))
  have HK3 := Lib.hid (fun n (W : World) (hC : Chg (rowB (ps k)) (w.drewN n) W) => (hC.cell (p := ⟨Q, k, none⟩) h.lt (h.ne k hk)).trans hc)
  have HF3 := Lib.hid (fun n (W : World) (hC : Chg (rowB (ps k)) (w.drewN n) W) => (hC.frozen (p := ⟨Q, k, none⟩) h.lt (h.ne k hk)).trans f1)
  have H := Lib.hid h
  clear h
  go_enter Tryz.func324, Tryz.ntmps324
  go_wp2_with (go_at_call 215; refine (is_any _ _).mono ?_; rw [hcl]; rintro e w' ⟨rfl, rfl⟩)
  go_region_law ((go_simp; go_at_call 329; refine (HL.out _).mono ?_; rintro e w3 ⟨p', c', rfl, hR3, hC3, hB3⟩; have hf3 := HF3.out _ _ hC3; have hc3 := HK3.out _ _ hC3; try go_simp))
  have hC := ((Chg.refl (rowB (ps k)) w).drewN 1).trans hC3 (fun _ e => .inl e)
  have hQ := H.out.lay hk hC hR3 hB3
  rw [List.length_append, List.length_singleton] at hQ
  have HQ := Lib.hid hQ
  have HC := Lib.hid ((hC.mono (fun g hg => (.inr ⟨k, hk, hg⟩ : Own Q ps g))).set (p := ⟨Q, k, none⟩) (.inl (.inl rfl)) (.slice p' ((rv k).length + 1) c'))
  have HB := Lib.hid hB3
  clear hQ hC hR3 hC3 hB3 hf3 hc3 HL HK3 HF3
  go_wp2
  go_ret
  exact ⟨rfl, p', c', HQ.out, HC.out, HB.out⟩

/-- How many wait. -/
def nAll (rv : Nat → List Int) : Nat := (rv 0).length + (rv 1).length + (rv 2).length + (rv 3).length
theorem nAll_zero (rv : Nat → List Int) : nAll rv = 0 ↔ ∀ k, k < 4 → rv k = [] := by
  unfold nAll
  constructor
  · intro h k hk
    apply List.eq_nil_of_length_eq_zero
    match k, hk with
    | 0, _ => omega
    | 1, _ => omega
    | 2, _ => omega
    | 3, _ => omega
  · intro h
    rw [h 0 (by decide), h 1 (by decide), h 2 (by decide), h 3 (by decide)]
    rfl
/-- Whether none waits, and none is open. -/
def restB (rv : Nat → List Int) (op : Nat) : Bool := decide (nAll rv + op = 0)
theorem rests_any (w : World) (h : QuIs w Q base ps cs rv op) : Calls Tryz.prog 325 #[.pointer (some ⟨Q, 0, none⟩)] w fun e w' => e = .returned (.bool (restB rv op)) ∧ w = w' := by
  have hco := h.co
  have HL := Lib.hid (fun k hk => len_any k hk w h)
  clear h
  by_cases h0 : op = 0
  · subst h0
    go_enter Tryz.func325, Tryz.ntmps325
    go_wp2
    go_loopw [13] (fun i wr => ∃ c : Nat, c ≤ 4 ∧ i = .int .i64 c ∧ wr = w ∧ ∀ k, k < c → rv k = []) (fun i _ => 4 - (intOf i).toNat)
    case atStart => exact ⟨0, by omega, rfl, rfl, fun k hk => by omega⟩
    case round =>
      obtain ⟨c, hc, rfl, rfl, hn⟩ := hrel
      have HN := Lib.hid hn
      clear hn
      by_cases hlt : c < 4
      · have c4 : (c : Int) < 4 := by omega
        by_cases he : rv c = []
        · have hl : (rv c).length = 0 := by rw [he]; rfl
          have HC := HL.out c hlt
          rw [hl] at HC
          have HC2 := Lib.hid HC
          clear HC hl
          go_wp2_with (go_at_call 330; refine HC2.out.mono ?_; rintro e w' ⟨rfl, rfl⟩)
          go_roundw
          case rel => exact ⟨c + 1, by omega, by go_num, by trivial, fun k hk => by
            by_cases e : k < c
            · exact HN.out k e
            · obtain rfl : k = c := by omega
              exact he⟩
          case measure => simp [intOf]; omega
        · have hl : (0 : Int) < (rv c).length := by
            have := List.length_pos_iff.2 he
            omega
          have HC2 := Lib.hid (HL.out c hlt)
          have e : restB rv 0 = false := by
            simp only [restB, decide_eq_false_iff_not]
            exact fun x => he ((nAll_zero rv).1 x c hlt)
          go_wp2_with (go_at_call 330; refine HC2.out.mono ?_; rintro e w' ⟨rfl, rfl⟩)
          go_ret
          exact ⟨by rw [e]; rfl, rfl⟩
      · obtain rfl : c = 4 := by omega
        have e : restB rv 0 = true := by
          simp only [restB, decide_eq_true_eq]
          exact (nAll_zero rv).2 HN.out
        go_wp2
        go_ret
        exact ⟨by rw [e]; rfl, rfl⟩
  · have hp : (0 : Int) < (op : Int) := by omega
    have e : restB rv op = false := by
      simp only [restB, decide_eq_false_iff_not]
      omega
    rw [e]
    go_enter Tryz.func325, Tryz.ntmps325
    go_wp2
    go_ret
    exact ⟨rfl, rfl⟩
theorem any_nil (w : World) : Calls Tryz.prog 320 #[.pointer none] w fun e w' => e = .returned (.tuple #[.int .i64 0, .int .i64 0, .int .i64 11]) ∧ w = w' := by
  go_enter Tryz.func320, Tryz.ntmps320
  go_wp2
  go_step3
  go_wp2
  go_step3
  go_wp2
  go_loopw [5, 6, 7, 9] (fun b o e i wr => ∃ c : Nat, c ≤ 4 ∧ i = .int .i64 c ∧ b = .int .i64 0 ∧ o = .int .i64 0 ∧ wr = w ∧ (c = 0 ∧ e = .int .i64 0 ∨ 0 < c ∧ e = .int .i64 11)) (fun _ _ _ i _ => 4 - (intOf i).toNat)
  case atStart => exact ⟨0, by omega, rfl, rfl, rfl, rfl, .inl ⟨rfl, rfl⟩⟩
  case round =>
    obtain ⟨c, hc, rfl, rfl, rfl, rfl, he⟩ := hrel
    by_cases hlt : c < 4
    · have c4 : (c : Int) < 4 := by omega
      clear he
      go_wp2_with (go_at_call 243; refine (take_nil _ _).mono ?_; rintro e w' ⟨rfl, rfl⟩)
      go_roundw
      case rel => exact ⟨c + 1, by omega, by go_num, by trivial, by trivial, by trivial, .inr ⟨by omega, rfl⟩⟩
      case measure => simp [intOf]; omega
    · obtain rfl : c = 4 := by omega
      obtain ⟨_, rfl⟩ : 0 < 4 ∧ u7 = .int .i64 11 := he.elim (fun x => by have := x.1; omega) id
      go_wp2
      go_ret3
      exact ⟨rfl, rfl⟩
theorem any_none (w : World) (h : QuIs w Q base ps cs rv op) (hn : ∀ k, k < 4 → rv k = []) : Calls Tryz.prog 320 #[.pointer (some ⟨Q, 0, none⟩)] w fun e w' => e = .returned (.tuple #[.int .i64 0, .int .i64 0, .int .i64 12]) ∧ w = w' := by
  have HT := Lib.hid (fun k hk => take_none k hk w h (hn k hk))
  clear h hn
  go_enter Tryz.func320, Tryz.ntmps320
  go_wp2
  go_step3
  go_wp2
  go_step3
  go_wp2
  go_loopw [5, 6, 7, 9] (fun b o e i wr => ∃ c : Nat, c ≤ 4 ∧ i = .int .i64 c ∧ b = .int .i64 0 ∧ o = .int .i64 0 ∧ wr = w ∧ (c = 0 ∧ e = .int .i64 0 ∨ 0 < c ∧ e = .int .i64 12)) (fun _ _ _ i _ => 4 - (intOf i).toNat)
  case atStart => exact ⟨0, by omega, rfl, rfl, rfl, rfl, .inl ⟨rfl, rfl⟩⟩
  case round =>
    obtain ⟨c, hc, rfl, rfl, rfl, rfl, he⟩ := hrel
    by_cases hlt : c < 4
    · have c4 : (c : Int) < 4 := by omega
      have HC := Lib.hid (HT.out c hlt)
      clear he
      go_wp2_with (go_at_call 243; refine HC.out.mono ?_; rintro e w' ⟨rfl, rfl⟩)
      go_roundw
      case rel => exact ⟨c + 1, by omega, by go_num, by trivial, by trivial, by trivial, .inr ⟨by omega, rfl⟩⟩
      case measure => simp [intOf]; omega
    · obtain rfl : c = 4 := by omega
      obtain ⟨_, rfl⟩ : 0 < 4 ∧ u7 = .int .i64 12 := he.elim (fun x => by have := x.1; omega) id
      go_wp2
      go_ret3
      exact ⟨rfl, rfl⟩
theorem any_good (k : Nat) (hk : k < 4) (x : Int) (l : List Int) (w : World) (h : QuIs w Q base ps cs rv op) (hn : ∀ j, j < k → rv j = []) (he : rv k = x :: l) (hop : op ≤ 1000000) : Calls Tryz.prog 320 #[.pointer (some ⟨Q, 0, none⟩)] w fun e w' => e = .returned (.tuple #[.int .i64 x, .int .i64 k, .int .i64 0]) ∧
    ∃ p' c', QuIs w' Q base (upd ps k p') (upd cs k c') (upd rv k l) (op + 1) ∧ Chg (fun g => g = Q) w w' ∧ ∀ g, rowB p' g → rowB (ps k) g := by
  have HT := Lib.hid (fun j hj => take_none j (by omega) w h (hn j hj))
  have HG := Lib.hid (take_good k hk x l w h he hop)
  clear h hn he
  go_enter Tryz.func320, Tryz.ntmps320
  go_wp2
  go_step3
  go_wp2
  go_step3
  go_wp2
  go_loopw [5, 9] (fun b i wr => ∃ c : Nat, c ≤ k ∧ i = .int .i64 c ∧ b = .int .i64 0 ∧ wr = w) (fun _ i _ => 4 - (intOf i).toNat)
  case atStart => exact ⟨0, by omega, rfl, rfl, rfl⟩
  case round =>
    obtain ⟨c, hc, rfl, rfl, rfl⟩ := hrel
    have c4 : (c : Int) < 4 := by omega
    by_cases hlt : c < k
    · have HC := Lib.hid (HT.out c hlt)
      go_wp2_with (go_at_call 243; refine HC.out.mono ?_; rintro e w' ⟨rfl, rfl⟩)
      go_roundw
      case rel => exact ⟨c + 1, by omega, by go_num, by trivial, by trivial⟩
      case measure => simp [intOf]; omega
    · obtain rfl : c = k := by omega
      go_wp2_with (go_at_call 243; refine HG.out.mono ?_; rintro e w' ⟨rfl, p', c', hQ, hC, hB⟩; have HQ := Lib.hid hQ; have HC := Lib.hid hC; have HB := Lib.hid hB; clear hQ hC hB)
      rw [Exit.noGoto_ret]
      go_ret3
      exact ⟨rfl, p', c', HQ.out, HC.out, HB.out⟩
end
end Go.Proofs.YthpgnlcmpoldfaaGreatDoor.Qu
