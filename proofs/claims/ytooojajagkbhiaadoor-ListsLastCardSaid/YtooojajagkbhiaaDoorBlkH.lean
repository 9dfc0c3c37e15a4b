/-
  chosen, Of, Unassigned: the blocks for which something holds.
-/
import Derived.Test.YtooojajagkbhiaaDoorBlkG
namespace Go.Proofs.YtooojajagkbhiaaDoor.Blk
open Go.RowKit Go.Shelf
open Class (isB isB_true isB_false sizI perI SizTab)
open Go.Proofs.YtooojajagkbhiaaDoor.Addr (Tabs)

/-- The numbers for which something holds. -/
def pick (h : Nat → Bool) (m : Nat) : List Nat := (List.range m).filter h
theorem pick_yes {h : Nat → Bool} {m : Nat} (hm : h m = true) : pick h (m + 1) = pick h m ++ [m] := by simp [pick, List.range_succ, hm]
theorem pick_no {h : Nat → Bool} {m : Nat} (hm : h m = false) : pick h (m + 1) = pick h m := by simp [pick, List.range_succ, hm]
theorem pick_len (h : Nat → Bool) (m : Nat) : (pick h m).length ≤ m := by simpa [pick] using List.length_filter_le h (List.range m)

/-- What an append of one number to a slot's row leaves. -/
theorem push_slot {W Y w3 : World} {base n cap : Nat} {p : Option Addr} {v' : Value} {x : Value} {xs : List Value} (hb : Below W.heap.size W Y) (hW : W.heap.size ≤ base)
    (ho : Y.ownsRow base 3 1 (.slice p n cap) n xs) (hown : w3.ownsRow base 3 1 v' (n + 1) (xs ++ [x])) (hg : (Y.alloc (.cells #[x] 3)).grownBy w3 (Value.slice p n cap).ownBlock) :
    ∃ p' cap', v' = .slice p' (n + 1) cap' ∧ w3.ownsRow base 3 1 (.slice p' (n + 1) cap') (n + 1) (xs ++ [x]) ∧ Below W.heap.size W w3 := by
  obtain ⟨g, cap', rfl⟩ := ownsRow_succ hown
  exact ⟨_, _, rfl, hown, (hb.alloc hb.size _).grown hg (by have := hb.size; simp; omega) (fun k e => by have := (owns_lt ho ((ownBlock_slice p n cap k).1 e)).1; omega)⟩

/-- Is a block of a class? -/
def isOf (ks : List Nat) (k : Int) (b : Nat) : Bool := decide (b < ks.length) && (((kAt ks b : Nat) : Int) == k)

/-- The blocks of a class. -/
def ofK (c : Cfg) (ks : List Nat) (k : Int) : List Nat := pick (isOf ks k) c.b.toNat
/-- The blocks that aren't assigned. -/
def unK (c : Cfg) (ks : List Nat) : List Nat := pick (fun b => decide (ks.length ≤ b)) c.b.toNat

theorem one_new {w : World} {q : Option Addr} : ∃ W0, w.alloc (.cells #[.pointer q] 29) = W0 ∧ Below w.heap.size w W0 ∧ W0.cell? ⟨w.heap.size, 0, none⟩ = some (.pointer q) ∧ W0.heap.size = w.heap.size + 1 :=
  ⟨_, rfl, (Below.refl _ _).alloc (Nat.le_refl _) _, (Boxed.new w _ _).cell, by simp⟩
end Go.Proofs.YtooojajagkbhiaaDoor.Blk
