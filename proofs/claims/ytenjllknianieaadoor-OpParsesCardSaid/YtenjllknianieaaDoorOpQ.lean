/-
  What an operation doesn't use counts nowhere; two operations that aren't the same.
-/
import Derived.Test.YtenjllknianieaaDoorOpN
namespace Go.Proofs.YtenjllknianieaaDoor.Opr
open Go.RowKit

theorem run_ne_op (k a b c k' a' b' c' : Int) (w : World) :
    (binOp .neq 23 (.agg #[.int .i64 k, .int .i64 a, .int .i64 b, .int .i64 c]) (.agg #[.int .i64 k', .int .i64 a', .int .i64 b', .int .i64 c'])).run Tryd.prog w
      = .ok (.bool (!eqOp k a b c k' a' b' c')) w := by
  have hp : Tryd.prog.stoodInHeld 23 = false := by kernel_rfl
  have hu := Tryd.underlying23
  have h3 := Tryd.underlying3
  have c3 : Tryd.prog.cellsOf 3 = 1 := by kernel_rfl
  rw [run_neq_struct, run_equalIn_agg _ _ _ _ _ (by unfold Program.fieldsOf; rw [hu]) hp]
  unfold Program.fieldsOf
  rw [hu]
  simp only [Op.eqFields]
  simp [go_sem, h3, part]
  unfold eqOp
  (repeat' split) <;> simp [*]

/-- Cells as they lie. -/
def CellsAt (W : World) (g : Nat) (l : List Value) : Prop := ∀ j v, l[j]? = some v → W.cell? ⟨g, j, none⟩ = some v
theorem CellsAt.later {W W' : World} {g : Nat} {l : List Value} (h : CellsAt W g l) (hb : Below W.heap.size W W') : CellsAt W' g l := fun j v hv => (hb.cell (p := ⟨g, j, none⟩) (lt_of_cell (h j v hv))).trans (h j v hv)
theorem CellsAt.new (W : World) (a : Array Value) (t : TypeId) : CellsAt (W.alloc (.cells a t)) W.heap.size a.toList := fun j v hv => by
  rw [World.cell?_alloc_new]
  rw [Array.getElem?_toList] at hv
  exact hv
theorem CellsAt.at {W : World} {g g' : Nat} {l : List Value} (h : CellsAt W g l) (e : g = g') : CellsAt W g' l := e ▸ h

/-! What isn't used. -/
def bK (k : Int) : Int := if isK k then k else 0
def bN (k : Int) (f : Nat → Int) (p : Nat) : Int := if isK k then pk (usesI k) f p else 0
theorem bareV_eq (k a b c : Int) : bareV k a b c = opV (bK k) (bN k (numAt a b c) 0) (bN k (numAt a b c) 1) (bN k (numAt a b c) 2) := by
  unfold bareV bK bN
  split <;> rfl
theorem numAt_three (f : Nat → Int) {p : Nat} (hp : p < 3) : numAt (f 0) (f 1) (f 2) p = f p := by
  have h3 : p = 0 ∨ p = 1 ∨ p = 2 := by omega
  rcases h3 with rfl | rfl | rfl <;> rfl
theorem bN_used {k : Int} (hk : isK k = true) {f : Nat → Int} {p : Nat} (hp : p < usesI k) : bN k f p = f p := by
  unfold bN
  rw [hk, if_pos rfl, pk_yes hp]
theorem bN_congr {k : Int} {f g : Nat → Int} (h : ∀ p, p < usesI k → f p = g p) (p : Nat) : bN k f p = bN k g p := by
  unfold bN
  split
  · exact pk_congr h p
  · rfl
theorem bare_bare (k : Int) (f : Nat → Int) : bareV (bK k) (bN k f 0) (bN k f 1) (bN k f 2) = opV (bK k) (bN k f 0) (bN k f 1) (bN k f 2) := by
  rw [bareV_eq]
  cases hk : isK k with
  | false =>
    have e : bK k = 0 := by unfold bK; rw [hk]; rfl
    have e2 : ∀ p, bN k f p = 0 := fun p => by unfold bN; rw [hk]; rfl
    rw [e, e2, e2, e2]; rfl
  | true =>
    have e : bK k = k := by unfold bK; rw [hk]; rfl
    have hu := usesI_le k
    have e3 : ∀ p, p < 3 → bN k (numAt (bN k f 0) (bN k f 1) (bN k f 2)) p = bN k f p := fun p hp => by
      by_cases hq : p < usesI k
      · rw [bN_used hk hq, numAt_three _ hp]
      · unfold bN; simp only [hk, if_true]; rw [pk_no hq, pk_no hq]
    rw [e, e, e3 0 (by omega), e3 1 (by omega), e3 2 (by omega)]
theorem firstF_congr {r ce : Int} {k : Nat} {f g : Nat → Int} : ∀ (n p : Nat), (∀ j, p ≤ j → j < p + n → f j = g j) → firstF r ce k f n p = firstF r ce k g n p
  | 0, _, _ => rfl
  | n + 1, p, h => by
    unfold firstF
    rw [h p (by omega) (by omega), firstF_congr n (p + 1) (fun j h1 h2 => h j (by omega) (by omega))]
theorem check_congr {b wd m r ce lg st k a x c a' x' c' : Int} (h : ∀ p, p < usesI k → numAt a x c p = numAt a' x' c' p) : checkE b wd m r ce lg st k a x c = checkE b wd m r ce lg st k a' x' c' := by
  unfold checkE
  split
  · rename_i hk
    have e : usesI k = usesK k.toNat := by unfold usesI; rw [hk.2]; rfl
    exact firstF_congr _ _ (fun j _ h2 => h j (by omega))
  · rfl
theorem check_bare {b wd m r ce lg st k : Int} (f : Nat → Int) : checkE b wd m r ce lg st (bK k) (bN k f 0) (bN k f 1) (bN k f 2) = checkE b wd m r ce lg st k (f 0) (f 1) (f 2) := by
  cases hk : isK k with
  | false =>
    have e : bK k = 0 := by unfold bK; rw [hk]; rfl
    unfold checkE
    rw [e, hk]
    have h0 : isK 0 = false := by decide
    rw [h0]
    simp
  | true =>
    have e : bK k = k := by unfold bK; rw [hk]; rfl
    rw [e]
    have hu := usesI_le k
    refine check_congr (fun p hp => ?_)
    rw [numAt_three _ (by omega), numAt_three _ (by omega), bN_used hk hp]
theorem line_congr {k a x c a' x' c' : Int} (h : ∀ p, p < usesI k → numAt a x c p = numAt a' x' c' p) : lineI k a x c = lineI k a' x' c' := by
  unfold lineI
  split
  · rename_i hk
    have e : usesI k = usesK k.toNat := by unfold usesI; rw [hk]; rfl
    rw [e] at h
    unfold lineK numsK
    congr 2
    rcases uses_cases k.toNat with hu | hu | hu | hu <;> rw [hu] at h ⊢
    · rfl
    · have h0 := h 0 (by omega)
      simp only [numAt] at h0
      rw [h0]; rfl
    · have h0 := h 0 (by omega)
      have h1 := h 1 (by omega)
      simp only [numAt] at h0 h1
      rw [h0, h1]; rfl
    · have h0 := h 0 (by omega)
      have h1 := h 1 (by omega)
      have h2 := h 2 (by omega)
      simp only [numAt] at h0 h1 h2
      rw [h0, h1, h2]
  · rfl
end Go.Proofs.YtenjllknianieaaDoor.Opr
