/-
  The law's list of lists that are there, and of none.
-/
import Derived.Test.YtooojajagkbhiaaDoorLisI
import Derived.Test.YtooojajagkbhiaaDoorLisG
namespace Go.Proofs.YtooojajagkbhiaaDoor.Lis
open Go.RowKit Go.Shelf
open Blk (rowB other same cellsF cellsK)
open Go.Proofs.YtooojajagkbhiaaDoor.Row (Rd cellsZ)

/-- A row's numbers, as ints. -/
def intsN (l : List Nat) : List Int := l.map fun n => ((n : Nat) : Int)
theorem intsN_length (l : List Nat) : (intsN l).length = l.length := by simp [intsN]
theorem cellsZ_ints (l : List Nat) : cellsZ (intsN l) = cellsK l := by simp [cellsZ, intsN, cellsK]
theorem told_rev (l : List Nat) : cellsF (tellB (intsN l.reverse)) l.length = cellsK l := by
  apply List.ext_getElem?
  intro i
  by_cases h : i < l.length
  · have e : tellB (intsN l.reverse) i = ((l[i] : Nat) : Int) := by
      unfold tellB
      rw [intsN_length, List.length_reverse, List.getD_eq_getElem?_getD, intsN, List.getElem?_map, List.getElem?_reverse (by omega)]
      rw [show l.length - 1 - (l.length - 1 - i) = i by omega]
      simp [h]
    simp [cellsF, cellsK, h, e]
  · rw [List.getElem?_eq_none (by simp [cellsF]; omega), List.getElem?_eq_none (by simp [cellsK]; omega)]

theorem list_held {w : World} {L A G T I J n m baseL : Nat} {ps : Nat → Option Addr} {hv : Nat → List Nat} (h : HasL w L A G T I J n baseL ps hv m) (hm : m ≤ 1048576) (k : Nat) (hk : k < 4) (most : Nat) (hmo : (hv k).length ≤ most) :
    Calls Tryd.prog 16 #[.pointer (some ⟨L, 0, none⟩), .int .i64 k, .int .i64 most] w fun e w' => ∃ p cap, e = .returned (.slice p (hv k).length cap) ∧ w'.ownsRow w.heap.size 3 1 (.slice p (hv k).length cap) (hv k).length (cellsK (hv k)) ∧ Below w.heap.size w w' := by
  obtain ⟨cap, capS, cs, ws, sw, ld, st, h1, h2, h3, h4, h5, h6, h7⟩ := h
  have hl := h7 k hk
  have hlen : (intsN (hv k).reverse).length = (hv k).length := by simp [intsN]
  have hq := list_gen (some ⟨L, 0, none⟩) (k : Int) (hv k).length most (tellB (intsN (hv k).reverse)) w (by omega) (fun W hW c1 c2 => by
    have hLs := h1.ls.later hW
    have hown := hLs.own k hk
    have hsl : ∀ W1, Below W.heap.size W W1 → Calls Tryd.prog 39 #[.pointer (some ⟨L, 0, none⟩), .int .i64 k] W1 fun e w' => e = .returned (.slice (ps k) (intsN (hv k).reverse).length (cs k)) ∧ Below W1.heap.size W1 w' := fun W1 hW1 => by
      have := slots_good W1 (hLs.later hW1) k hk
      rw [List.length_reverse] at this
      rw [hlen]
      exact this
    have hrd : Rd W (ps k) (intsN (hv k).reverse) := Rd.of_owns (base := baseL) (cap := cs k) (by rw [cellsZ_ints, intsN_length]; exact hown)
    have := all1_told 4 (w.heap.size + 1) (w.heap.size + 2) (some ⟨L, 0, none⟩) (k : Int) (ps k) (cs k) (intsN (hv k).reverse) (by rw [hlen]; omega) W c1 c2 hsl hrd (fun e => by
      obtain ⟨_, ⟨h8, _⟩ | ⟨g, c, cur, e1, r⟩⟩ := hown
      · simp only [Value.slice.injEq] at h8; exact h8.2.2
      · rw [e] at e1; simp at e1)
    rw [hlen] at this
    exact this)
  rw [Nat.min_eq_left hmo, told_rev] at hq
  exact hq
theorem list_nil (k : Int) (most : Nat) (w : World) :
    Calls Tryd.prog 16 #[.pointer none, .int .i64 k, .int .i64 most] w fun e w' => (∃ p cap, e = .returned (.slice p 0 cap)) ∧ Below w.heap.size w w' := by
  have hq := list_gen none k 0 most (tellB []) w (by omega) (fun W hW c1 c2 => all1_told 4 (w.heap.size + 1) (w.heap.size + 2) none k none 0 [] (by simp) W c1 c2 (fun W1 _ => slots_nil k W1) (Rd.nil _) (fun _ => rfl))
  refine hq.mono ?_
  rintro e w' ⟨p, cap, rfl, _, hb⟩
  rw [Nat.zero_min]
  exact ⟨⟨p, cap, rfl⟩, hb⟩
end Go.Proofs.YtooojajagkbhiaaDoor.Lis
