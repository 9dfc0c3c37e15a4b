/-
  A row in memory to which nothing is added but in new memory: count, give, next, add, all.
-/
import Derived.Test.YthpgnlcmpoldfaaGreatDoorRow
import Derived.Deep.RegionLawGrows
namespace Go.Proofs.YthpgnlcmpoldfaaGreatDoor.Lg
open Go.RowKit
open Go.Proofs.YthpgnlcmpoldfaaGreatDoor.Row

theorem owns_none {w : World} {base cap k n : Nat} {e : TypeId} {xs : List Value} (h : w.ownsRow base e 1 (.slice none n cap) k xs) : cap = 0 := by
  obtain ⟨_, ⟨h2, h3⟩ | ⟨g, c, cur, e1, r⟩⟩ := h
  · cases h2; rfl
  · cases e1
theorem rd_nil {w : World} {l : List Int} (h : Rd w none l) : l.length = 0 := by
  rcases h with ⟨_, rfl⟩ | ⟨g, off, e, _⟩
  · rfl
  · cases e
/-- A row's cells, for an append. -/
theorem rd_cells {w Y : World} {p : Option Addr} {l : List Int} (h : Rd w p l) (hb : Below w.heap.size w Y) : ∀ b, p = some b → ∀ j u, (cellsZ l)[j]? = some u → Y.cell? (b.add j) = some u := fun b hb' j u hj => by
  have hjl : j < l.length := by have := (List.getElem?_eq_some_iff.1 hj).1; rwa [cellsZ_length] at this
  obtain ⟨g, off, e, hc⟩ := (h.later hb).at hjl
  rw [hb'] at e
  cases e
  rw [cellsZ_at l hjl] at hj
  cases hj
  rw [Addr.add_lit]
  exact hc

/-- A row in memory, none of whose numbers lies in one of some blocks. -/
structure RwIs (T : Nat → Prop) (w : World) (B cap : Nat) (p : Option Addr) (xs : List Int) : Prop where
  len : xs.length ≤ 1000000
  c : w.cell? ⟨B, 0, none⟩ = some (.slice p xs.length cap)
  f : w.frozen? ⟨B, 0, none⟩ = false
  rd : Rd w p xs
  nc : p = none → cap = 0
  le : xs.length ≤ cap
  ap : ∀ g, rowB p g → ¬ T g ∧ g < w.heap.size
  tb : T B
theorem RwIs.ltB {T : Nat → Prop} {w : World} {B cap : Nat} {p : Option Addr} {xs : List Int} (h : RwIs T w B cap p xs) : B < w.heap.size := World.block_lt_of_cell? w _ h.c
theorem RwIs.chg {T S : Nat → Prop} {w w' : World} {B cap : Nat} {p : Option Addr} {xs : List Int} (h : RwIs T w B cap p xs) (hc : Chg S w w') (hS : ∀ k, S k → T k) (hB : ¬ S B) : RwIs T w' B cap p xs :=
  ⟨h.len, (hc.cell (p := ⟨B, 0, none⟩) h.ltB hB).trans h.c, (hc.frozen (p := ⟨B, 0, none⟩) h.ltB hB).trans h.f, h.rd.chg hc (fun g hg e => (h.ap g hg).1 (hS g e)), h.nc, h.le, fun g hg => ⟨(h.ap g hg).1, Nat.lt_of_lt_of_le (h.ap g hg).2 hc.size⟩, h.tb⟩
theorem RwIs.later {T : Nat → Prop} {w w' : World} {B cap : Nat} {p : Option Addr} {xs : List Int} (h : RwIs T w B cap p xs) (hb : Below w.heap.size w w') : RwIs T w' B cap p xs :=
  h.chg (S := fun _ => False) (Chg.of_below hb) (fun _ e => e.elim) (fun e => e)
/-- Another row laid. -/
theorem RwIs.lay {T : Nat → Prop} {w : World} {B cap cap' : Nat} {p p' : Option Addr} {xs ys : List Int} (h : RwIs T w B cap p xs) (hl : ys.length ≤ 1000000) (hr : Rd w p' ys) (hn : p' = none → cap' = 0) (hle : ys.length ≤ cap') (ha : ∀ g, rowB p' g → ¬ T g ∧ g < w.heap.size) :
    RwIs T (w.setCell ⟨B, 0, none⟩ (.slice p' ys.length cap')) B cap' p' ys :=
  ⟨hl, same h.c, (World.frozen?_setCell ..).trans h.f, hr.chg (Chg.set (S := fun k => k = B) (Chg.refl _ w) (.inl rfl) _) (fun g hg e => (ha g hg).1 (e ▸ h.tb)), hn, hle, fun g hg => ⟨(ha g hg).1, by rw [size_setCell]; exact (ha g hg).2⟩, h.tb⟩

theorem count_any {T : Nat → Prop} {B cap : Nat} {p : Option Addr} {xs : List Int} (w : World) (h : RwIs T w B cap p xs) : Calls Tryz.prog 270 #[.pointer (some ⟨B, 0, none⟩)] w fun e w' => e = .returned (.int .i64 xs.length) ∧ w = w' := by
  have hc := h.c
  clear h
  go_enter Tryz.func270, Tryz.ntmps270
  go_wp2
  go_ret
  exact ⟨rfl, rfl⟩
theorem give_any {T : Nat → Prop} {B cap : Nat} {p : Option Addr} {xs : List Int} (w : World) (h : RwIs T w B cap p xs) : Calls Tryz.prog 229 #[.pointer (some ⟨B, 0, none⟩)] w fun e w' => e = .returned (.slice p xs.length cap) ∧ w' = w.setCell ⟨B, 0, none⟩ (.slice none 0 0) := by
  have hc := h.c
  have hf := h.f
  clear h
  go_enter Tryz.func229, Tryz.ntmps229
  go_wp2
  go_ret
  exact ⟨rfl, rfl⟩
theorem next_none {T : Nat → Prop} {B cap : Nat} {p : Option Addr} (w : World) (h : RwIs T w B cap p []) : Calls Tryz.prog 291 #[.pointer (some ⟨B, 0, none⟩)] w fun e w' => e = .returned (.tuple #[.int .i64 0, .bool false]) ∧ w = w' := by
  have hc : w.cell? ⟨B, 0, none⟩ = some (.slice p 0 cap) := h.c
  clear h
  go_enter Tryz.func291, Tryz.ntmps291
  go_wp2
  go_ret2
  exact ⟨rfl, rfl⟩
set_option maxHeartbeats 1000000 in
theorem next_some {T : Nat → Prop} {B cap : Nat} {p : Option Addr} {x : Int} {xs : List Int} (w : World) (h : RwIs T w B cap p (x :: xs)) : Calls Tryz.prog 291 #[.pointer (some ⟨B, 0, none⟩)] w fun e w' => e = .returned (.tuple #[.int .i64 x, .bool true]) ∧
    ∃ p' cap', w' = w.setCell ⟨B, 0, none⟩ (.slice p' xs.length cap') ∧ RwIs T w' B cap' p' xs := by
  have hc := h.c
  have hf := h.f
  have hl := h.len
  have hle := h.le
  rw [List.length_cons] at hc hl hle
  obtain ⟨g, off, rfl, hx⟩ := h.rd.at (j := 0) (by simp)
  rw [Nat.add_zero, List.getD_cons_zero] at hx
  have hgB : g ≠ B := fun e => (h.ap g rfl).1 (e ▸ h.tb)
  have hrd : Rd w (some ⟨g, off + 1, none⟩) xs := .inr ⟨g, off + 1, rfl, fun j hj => by
    obtain ⟨g', off', e, hc⟩ := h.rd.at (j := j + 1) (by simp; omega)
    cases e
    rw [List.getD_cons_succ, ← Nat.add_assoc, Nat.add_right_comm] at hc
    exact hc⟩
  have ha : ∀ o, ∀ k, rowB (some ⟨g, o, none⟩) k → ¬ T k ∧ k < w.heap.size := fun o k hk => h.ap k hk
  have hl2 : xs.length ≤ 1000000 := by have := h.len; rw [List.length_cons] at this; omega
  have F1 : cap = 1 → RwIs T (w.setCell ⟨B, 0, none⟩ (.slice (some ⟨g, off, none⟩) xs.length 0)) B 0 (some ⟨g, off, none⟩) xs := fun e =>
    h.lay hl2 (.inr ⟨g, off, rfl, fun j hj => by omega⟩) (fun e => by cases e) (by omega) (ha off)
  have F2 : RwIs T (w.setCell ⟨B, 0, none⟩ (.slice (some ⟨g, off + 1, none⟩) xs.length (cap - 1))) B (cap - 1) (some ⟨g, off + 1, none⟩) xs :=
    h.lay hl2 hrd (fun e => by cases e) (by omega) (ha (off + 1))
  have H1 := Lib.hid F1
  have H2 := Lib.hid F2
  clear h hrd ha F1 F2
  generalize xs.length = m at *
  go_enter Tryz.func291, Tryz.ntmps291
  go_wp2
  all_goals go_ret2
  · exact ⟨rfl, _, _, rfl, H1.out (by omega)⟩
  · exact ⟨rfl, _, _, rfl, H2.out⟩

/-- What an addition leaves. -/
theorem add_fin {T : Nat → Prop} {w Y0 w3 : World} {B cap : Nat} {p : Option Addr} {xs : List Int} {x : Int} {v' : Value} (h : RwIs T w B cap p xs) (hT : ∀ k, T k → k < w.heap.size) (hl : xs.length < 1000000) (hb0 : Below w.heap.size w Y0)
    (hown : w3.ownsRow Y0.heap.size 3 1 v' (xs.length + 1) (cellsZ xs ++ [.int .i64 x])) (hg : Y0.grownBy w3 none) :
    ∃ p' cap', v' = .slice p' (xs.length + 1) cap' ∧ w3.cell? ⟨B, 0, none⟩ = some (.slice p xs.length cap) ∧ w3.frozen? ⟨B, 0, none⟩ = false ∧
      RwIs T (w3.setCell ⟨B, 0, none⟩ v') B cap' p' (xs ++ [x]) ∧ Chg (fun k => k = B) w (w3.setCell ⟨B, 0, none⟩ v') ∧ ∀ j, j ≠ 0 → (w3.setCell ⟨B, 0, none⟩ v').cell? ⟨B, j, none⟩ = w.cell? ⟨B, j, none⟩ := by
  obtain ⟨p', cap', rfl, hb3, ho3⟩ := grow_row hb0 hown hg
  have h3 := h.later hb3
  have hlen : (xs ++ [x]).length = xs.length + 1 := by simp
  rw [← hlen] at ho3 ⊢
  rw [← cellsZ_snoc] at ho3
  refine ⟨p', cap', rfl, h3.c, h3.f, h3.lay (by omega) (Rd.of_owns ho3) (fun e => by subst e; exact owns_none ho3) (owns_cap ho3).1 (fun g hg' => ⟨fun e => ?_, (owns_lt ho3 hg').2⟩), Chg.set (S := fun k => k = B) (Chg.of_below hb3) (.inl rfl) _, fun j hj => ?_⟩
  · have := hT g e
    have := (owns_lt ho3 hg').1
    omega
  · exact (other (by intro e; exact hj (by simpa using (congrArg Addr.off e).symm))).trans (hb3.cell (p := ⟨B, j, none⟩) h.ltB)

set_option maxHeartbeats 2000000 in
theorem add_any {T : Nat → Prop} {B cap : Nat} {p : Option Addr} {x : Int} {xs : List Int} (w : World) (h : RwIs T w B cap p xs) (hT : ∀ k, T k → k < w.heap.size) (hl : xs.length < 1000000) : Calls Tryz.prog 267 #[.pointer (some ⟨B, 0, none⟩), .int .i64 x] w fun e w' => e = .returned (.tuple #[]) ∧
    ∃ p' cap', RwIs T w' B cap' p' (xs ++ [x]) ∧ Chg (fun k => k = B) w w' ∧ ∀ j, j ≠ 0 → w'.cell? ⟨B, j, none⟩ = w.cell? ⟨B, j, none⟩ := by
  obtain ⟨i0, hinf, hz0, hz1, hz2⟩ := info_parts infoInt
  have hc := h.c
  have hf := h.f
  have hle := h.le
  have hlB := h.ltB
  have hcB : (w.alloc (.cells #[.int .i64 x] 3)).cell? ⟨B, 0, none⟩ = some (.slice p xs.length cap) := ((((Below.refl _ w).alloc (Nat.le_refl _)) _).cell (p := ⟨B, 0, none⟩) hlB).trans hc
  have H := Lib.hid h
  have HT := Lib.hid hT
  have HB0 : Hid (Below w.heap.size w (w.alloc (.cells #[.int .i64 x] 3))) := Lib.hid ((Below.refl _ w).alloc (Nat.le_refl _) _)
  have RC : Hid (∀ Y, Below w.heap.size w Y → ∀ b, p = some b → ∀ j u, (cellsZ xs)[j]? = some u → Y.cell? (b.add j) = some u) := Lib.hid fun _ h' => rd_cells h.rd h'
  have RN : Hid (p = none → xs.length = 0 ∧ xs.length = 0) := Lib.hid (by rintro rfl; have := rd_nil h.rd; omega)
  clear h hT
  go_enter Tryz.func267, Tryz.ntmps267
  go_wp2_with (at_builtin; refine wpList_append_grows _ rfl _ _ 40 rfl 3 i0 (.int .i64 0) 1 8 Tryz.underlying40 hinf hz0 hz1 hz2 rfl (by decide) p xs.length xs.length (cellsZ xs) rfl RN.out (by rw [cellsZ_length]; simp) (RC.out _ HB0.out) ⟨w.heap.size, 0, none⟩ 1 1 [.int .i64 x] rfl rfl (one_at rfl) (by simp [Value.oneCell']) (by omega) (by unfold maxLen; omega) (by omega) ?_)
  intro v' w3 hown hgrow
  obtain ⟨p', cap', rfl, hc3, hf3, hP, hC, hj⟩ := add_fin H.out HT.out hl HB0.out (by simpa using hown) hgrow
  have HP := Lib.hid hP
  have HC := Lib.hid hC
  have HJ := Lib.hid hj
  clear hown hgrow hP hC hj
  go_wp2
  exact bodyPost_end (results_none rfl _ _ _) rfl ⟨rfl, p', cap', HP.out, HC.out, HJ.out⟩
end Go.Proofs.YthpgnlcmpoldfaaGreatDoor.Lg
