/-
  Rows of numbers that are read, wherever they lie; slices.Clone, and the reference's Same.
-/
import Derived.Test.YthofknjdmfpbeaaRowA
namespace Go.Proofs.Ythofknjdmfpbeaa.Row
open Go.RowKit
attribute [local go_sem] Oper.semAt_some

/-- A row of numbers reads so. -/
def Rd (w : World) (p : Option Addr) (l : List Int) : Prop := (p = none ∧ l = []) ∨ ∃ g off, p = some ⟨g, off, none⟩ ∧ ∀ j, j < l.length → w.cell? ⟨g, off + j, none⟩ = some (.int .i64 (l.getD j 0))
theorem Rd.nil (w : World) : Rd w none [] := .inl ⟨rfl, rfl⟩
theorem Rd.kept {w w' : World} {p : Option Addr} {l : List Int} (h : Rd w p l) (hg : ∀ g, rowB p g → 0 < l.length → w'.heap[g]? = w.heap[g]?) : Rd w' p l :=
  h.imp id fun ⟨g, off, e, hc⟩ => ⟨g, off, e, fun j hj => (cell_of_block (a := ⟨g, off + j, none⟩) (hg g (by rw [e]; rfl) (by omega))).trans (hc j hj)⟩
theorem Rd.lt {w : World} {p : Option Addr} {l : List Int} (h : Rd w p l) {g : Nat} (hg : rowB p g) (hl : 0 < l.length) : g < w.heap.size := by
  rcases h with ⟨_, rfl⟩ | ⟨g', off, rfl, hc⟩
  · simp at hl
  · cases hg
    exact World.block_lt_of_cell? w _ (hc 0 hl)
theorem Rd.later {w w' : World} {p : Option Addr} {l : List Int} (h : Rd w p l) (hb : Below w.heap.size w w') : Rd w' p l := h.kept fun g hg hl => hb.block g (h.lt hg hl)
theorem Rd.chg {S : Nat → Prop} {w w' : World} {p : Option Addr} {l : List Int} (h : Rd w p l) (hc : Chg S w w') (hS : ∀ g, rowB p g → ¬ S g) : Rd w' p l := h.kept fun g hg hl => hc.block g (h.lt hg hl) (hS g hg)
theorem Rd.drewN {w : World} {p : Option Addr} {l : List Int} (h : Rd w p l) (n : Nat) : Rd (w.drewN n) p l := h.kept fun _ _ _ => rfl
theorem Rd.of_owns {w : World} {base cap : Nat} {p : Option Addr} {l : List Int} (h : w.ownsRow base 3 1 (.slice p l.length cap) l.length (cellsZ l)) : Rd w p l := by
  have h' := h
  obtain ⟨_, ⟨h2, h3⟩ | ⟨g, c, cur, e1, r⟩⟩ := h
  · obtain rfl := List.eq_nil_of_length_eq_zero h3
    cases h2
    exact .inl ⟨rfl, rfl⟩
  · cases e1
    exact .inr ⟨g, 0, rfl, fun j hj => by rw [Nat.zero_add]; exact owns_cell h' j _ (cellsZ_at l hj)⟩
theorem Rd.at {w : World} {p : Option Addr} {l : List Int} (h : Rd w p l) {j : Nat} (hj : j < l.length) : ∃ g off, p = some ⟨g, off, none⟩ ∧ w.cell? ⟨g, off + j, none⟩ = some (.int .i64 (l.getD j 0)) := by
  rcases h with ⟨_, rfl⟩ | ⟨g, off, e, hc⟩
  · simp at hj
  · exact ⟨g, off, e, hc j hj⟩

theorem clone_nil (w : World) : Calls Try.prog 21 #[.slice none 0 0] w fun e w' => e = .returned (.slice none 0 0) ∧ w = w' := by
  have q22 : ∀ (w : World) (a : Option Addr) (n c n' c' : Nat), (binOp .eql 22 (.slice a n c) (.slice none n' c')).run Try.prog w = .ok (.bool a.isNone) w := fun w a n c n' c' => Lib.run_eql_slice_nil w _ _ a n c n' c' Try.underlying22
  go_enter Try.func21, Try.ntmps21
  go_wp2
  go_ret
  exact ⟨rfl, rfl⟩

set_option maxHeartbeats 2000000 in
set_option maxRecDepth 100000 in
theorem clone_some (g off cap : Nat) (l : List Int) (w : World) (hlen : l.length ≤ 2097152) (hc : ∀ j, j < l.length → w.cell? ⟨g, off + j, none⟩ = some (.int .i64 (l.getD j 0))) :
    Calls Try.prog 21 #[.slice (some ⟨g, off, none⟩) l.length cap] w fun e w' => ∃ p' cap', e = .returned (.slice p' l.length cap') ∧ w'.ownsRow w.heap.size 3 1 (.slice p' l.length cap') l.length (cellsZ l) ∧ Below w.heap.size w w' := by
  obtain ⟨i0, hi, hz0, hz1, hz2⟩ := info_parts infoInt
  have q22 : ∀ (w : World) (a : Option Addr) (n c n' c' : Nat), (binOp .eql 22 (.slice a n c) (.slice none n' c')).run Try.prog w = .ok (.bool a.isNone) w := fun w a n c n' c' => Lib.run_eql_slice_nil w _ _ a n c n' c' Try.underlying22
  have A := Lib.hid hc
  clear hc
  go_enter Try.func21, Try.ntmps21
  go_wp2_with (at_builtin; refine wpList_append_own _ rfl _ _ 22 rfl w.heap.size 3 i0 (.int .i64 0) 1 8 Try.underlying22 hi hz0 hz1 hz2 rfl (by decide) _ _ _ rfl (World.ownsRow_made w #[] 0 (Nat.le_refl _) (Nat.zero_le _) rfl) ⟨g, off, none⟩ l.length cap (cellsZ l) rfl ?qc1 ?qc2 ?qc3 ?qc4 ?qc5 ?qc6 ?_)
  case qc1 => simp [cellsZ]
  case qc2 =>
    intro j u hj
    have hjl : j < l.length := by have := (List.getElem?_eq_some_iff.1 hj).1; rwa [cellsZ_length] at this
    rw [cellsZ_at l hjl] at hj
    cases hj
    rw [Addr.add_lit]
    exact Lib.cell?_alloc_some _ (A.out j hjl)
  case qc3 => intro u hu; obtain ⟨x, _, rfl⟩ := List.mem_map.1 hu; rfl
  case qc4 => unfold maxLen; omega
  case qc5 => omega
  case qc6 => simp
  intro v' w1 hown hgrow _
  have hown : w1.ownsRow w.heap.size 3 1 v' l.length (cellsZ l) := by simpa using hown
  obtain ⟨p', cap', rfl⟩ := owns_slice hown
  go_wp2
  go_ret
  refine ⟨p', cap', rfl, hown, ?_⟩
  exact ((Below.refl _ w).alloc (Nat.le_refl _) _).grown hgrow (by simp) (by intro k hk; simp [Value.ownBlock] at hk; omega)

theorem clone_any {cap : Nat} (p : Option Addr) (l : List Int) (w : World) (hlen : l.length ≤ 2097152) (hp : p = none → cap = 0) (h : Rd w p l) :
    Calls Try.prog 21 #[.slice p l.length cap] w fun e w' => ∃ p' cap', e = .returned (.slice p' l.length cap') ∧ w'.ownsRow w.heap.size 3 1 (.slice p' l.length cap') l.length (cellsZ l) ∧ Below w.heap.size w w' := by
  rcases h with ⟨rfl, rfl⟩ | ⟨g, off, rfl, hc⟩
  · rw [hp rfl]
    exact (clone_nil w).mono fun e w' ⟨he, hw⟩ => ⟨none, 0, he, by subst hw; exact ⟨rfl, .inl ⟨rfl, rfl⟩⟩, hw ▸ Below.refl _ _⟩
  · exact clone_some g off cap l w hlen hc

/-- Each number of a row reads so. -/
def Rd0 (w : World) (p : Option Addr) (l : List Int) : Prop := ∀ j, j < l.length → ∃ g off, p = some ⟨g, off, none⟩ ∧ w.cell? ⟨g, off + j, none⟩ = some (.int .i64 (l.getD j 0))
theorem Rd.rd0 {w : World} {p : Option Addr} {l : List Int} (h : Rd w p l) : Rd0 w p l := fun _ hj => h.at hj
set_option maxHeartbeats 1000000 in
theorem same_ints (p q : Option Addr) (cp cq : Nat) (l : List Int) (w : World) (hp : Rd0 w p l) (hq : Rd0 w q l) (hl : l.length ≤ 1048576) :
    Calls Try.prog 14 #[.slice p l.length cp, .slice q l.length cq] w fun e w' => e = .returned (.bool true) ∧ ∃ n, w' = w.drewN n := by
  have HP := Lib.hid hp
  have HQ := Lib.hid hq
  clear hp hq
  go_enter Try.func14, Try.ntmps14
  go_wp2
  go_loopw [5] (fun i wr => ∃ c : Nat, c ≤ l.length ∧ i = .int .i64 c ∧ ∃ n, wr = w.drewN n) (fun i _ => l.length - (intOf i).toNat)
  case atStart => exact ⟨0, by omega, rfl, 0, rfl⟩
  case round =>
    obtain ⟨c, hc, rfl, n, rfl⟩ := hrel
    by_cases hlt : c < l.length
    · obtain ⟨b, off, rfl, h1⟩ := HP.out c hlt
      obtain ⟨b', off', rfl, h1'⟩ := HQ.out c hlt
      have i0 : (0 : Int) ≤ (c : Int) := Int.natCast_nonneg _
      have i1 : (c : Int) < (l.length : Int) := by omega
      go_wp2
      go_quiet (fail)
      go_wp2
      go_roundw
      case rel => exact ⟨c + 1, by omega, by go_num, _, rfl⟩
      case measure => simp [intOf]; omega
    · go_wp2
      go_ret
      exact ⟨rfl, _, rfl⟩
theorem same_any (p q : Option Addr) (cp cq : Nat) (l : List Int) (w : World) (hp : Rd w p l) (hq : Rd w q l) (hl : l.length ≤ 1048576) :
    Calls Try.prog 14 #[.slice p l.length cp, .slice q l.length cq] w fun e w' => e = .returned (.bool true) ∧ ∃ n, w' = w.drewN n := same_ints p q cp cq l w hp.rd0 hq.rd0 hl
end Go.Proofs.Ythofknjdmfpbeaa.Row
