/-
  A queue above what lay; the document's example; the law QueueNone answers true, for every two numbers.
-/
import Derived.Test.YtadkmidipjlcjaaQuB
namespace Go.Proofs.Ytadkmidipjlcjaa.Qu
open Go.RowKit
open Go.Proofs.Ytadkmidipjlcjaa.Row

/-- A queue, above what lay. -/
structure Qn (S : Nat) (w wr : World) (Q : Nat) (rv : Nat → List Int) (op : Nat) : Prop where
  st : ∃ ps cs, QuIs wr Q S ps cs rv op
  bel : Below S w wr
section
variable {S Q op : Nat} {w wr w' : World} {rv : Nat → List Int}
theorem Qn.later (h : Qn S w wr Q rv op) (hS : S ≤ w.heap.size) (hb : Below wr.heap.size wr w') : Qn S w w' Q rv op :=
  have ⟨ps, cs, hs⟩ := h.st
  ⟨⟨ps, cs, hs.later hb⟩, h.bel.trans (hb.mono (Nat.le_trans hS h.bel.size))⟩
theorem Qn.drewN (h : Qn S w wr Q rv op) (n : Nat) : Qn S w (wr.drewN n) Q rv op :=
  have ⟨ps, cs, hs⟩ := h.st
  ⟨⟨ps, cs, hs.drewN n⟩, below_drewN h.bel n⟩
theorem new_qn (w : World) : Calls Try.prog 5 #[] w fun e w' => e = .returned (.pointer (some ⟨w.heap.size, 0, none⟩)) ∧ Qn w.heap.size w w' w.heap.size (fun _ => []) 0 ∧ w'.heap.size = w.heap.size + 1 := by
  refine (new_any w).mono ?_
  rintro e w' ⟨rfl, hq, hb, hz⟩
  exact ⟨rfl, ⟨⟨_, _, hq⟩, hb⟩, hz⟩
theorem Qn.put (h : Qn S w wr Q rv op) (hS : S ≤ w.heap.size) (k : Nat) (hk : k < 4) (z : Int) (hz : z = k) (b : Int) (hb : 0 ≤ b) (hl : (rv k).length ≤ 1000000) :
    Calls Try.prog 9 #[.pointer (some ⟨Q, 0, none⟩), .int .i64 z, .int .i64 b] wr fun e w' => e = .returned (.int .i64 0) ∧ Qn S w w' Q (upd rv k (rv k ++ [b])) op := by
  subst hz
  obtain ⟨ps, cs, hs⟩ := h.st
  refine (put_good k hk b hb wr hs hl).mono ?_
  rintro e w' ⟨rfl, p', c', hQ, hC, _⟩
  exact ⟨rfl, ⟨⟨_, _, hQ⟩, h.bel.trans (hC.below (fun g hg => (hs.ltO hg).1) (Nat.le_trans hS h.bel.size))⟩⟩
theorem Qn.takeNo (h : Qn S w wr Q rv op) (k : Nat) (hk : k < 4) (z : Int) (hz : z = k) (he : rv k = []) :
    Calls Try.prog 6 #[.pointer (some ⟨Q, 0, none⟩), .int .i64 z] wr fun e w' => e = .returned (.tuple #[.int .i64 0, .int .i64 12]) ∧ wr = w' := by
  subst hz
  obtain ⟨ps, cs, hs⟩ := h.st
  exact take_none k hk wr hs he
theorem Qn.take (h : Qn S w wr Q rv op) (hS : S ≤ w.heap.size) (k : Nat) (hk : k < 4) (z : Int) (hz : z = k) (x : Int) (l : List Int) (he : rv k = x :: l) (hop : op ≤ 1000000) :
    Calls Try.prog 6 #[.pointer (some ⟨Q, 0, none⟩), .int .i64 z] wr fun e w' => e = .returned (.tuple #[.int .i64 x, .int .i64 0]) ∧ Qn S w w' Q (upd rv k l) (op + 1) := by
  subst hz
  obtain ⟨ps, cs, hs⟩ := h.st
  refine (take_good k hk x l wr hs he hop).mono ?_
  rintro e w' ⟨rfl, p', c', hQ, hC, _⟩
  exact ⟨rfl, ⟨⟨_, _, hQ⟩, h.bel.trans (hC.below (fun g hg => hg ▸ hs.base) (Nat.le_trans hS h.bel.size))⟩⟩
theorem Qn.anyNo (h : Qn S w wr Q rv op) (hn : ∀ k, k < 4 → rv k = []) :
    Calls Try.prog 7 #[.pointer (some ⟨Q, 0, none⟩)] wr fun e w' => e = .returned (.tuple #[.int .i64 0, .int .i64 0, .int .i64 12]) ∧ wr = w' := by
  obtain ⟨ps, cs, hs⟩ := h.st
  exact any_none wr hs hn
theorem Qn.any (h : Qn S w wr Q rv op) (hS : S ≤ w.heap.size) (k : Nat) (hk : k < 4) (x : Int) (l : List Int) (hn : ∀ j, j < k → rv j = []) (he : rv k = x :: l) (hop : op ≤ 1000000) :
    Calls Try.prog 7 #[.pointer (some ⟨Q, 0, none⟩)] wr fun e w' => e = .returned (.tuple #[.int .i64 x, .int .i64 k, .int .i64 0]) ∧ Qn S w w' Q (upd rv k l) (op + 1) := by
  obtain ⟨ps, cs, hs⟩ := h.st
  refine (any_good k hk x l wr hs hn he hop).mono ?_
  rintro e w' ⟨rfl, p', c', hQ, hC, _⟩
  exact ⟨rfl, ⟨⟨_, _, hQ⟩, h.bel.trans (hC.below (fun g hg => hg ▸ hs.base) (Nat.le_trans hS h.bel.size))⟩⟩
theorem Qn.doneNo (h : Qn S w wr Q rv 0) :
    Calls Try.prog 8 #[.pointer (some ⟨Q, 0, none⟩)] wr fun e w' => e = .returned (.int .i64 11) ∧ wr = w' := by
  obtain ⟨ps, cs, hs⟩ := h.st
  exact done_bad wr hs
theorem Qn.done (n : Nat) (h : Qn S w wr Q rv (n + 1)) (hS : S ≤ w.heap.size) (hn : n ≤ 1000000) :
    Calls Try.prog 8 #[.pointer (some ⟨Q, 0, none⟩)] wr fun e w' => e = .returned (.int .i64 0) ∧ Qn S w w' Q rv n := by
  obtain ⟨ps, cs, hs⟩ := h.st
  refine (done_good n wr hs hn).mono ?_
  rintro e w' ⟨rfl, hQ, hC⟩
  exact ⟨rfl, ⟨⟨_, _, hQ⟩, h.bel.trans (hC.below (fun g hg => hg ▸ hs.base) (Nat.le_trans hS h.bel.size))⟩⟩
theorem Qn.len (h : Qn S w wr Q rv op) (k : Nat) (hk : k < 4) (z : Int) (hz : z = k) :
    Calls Try.prog 10 #[.pointer (some ⟨Q, 0, none⟩), .int .i64 z] wr fun e w' => e = .returned (.int .i64 (rv k).length) ∧ wr = w' := by
  subst hz
  obtain ⟨ps, cs, hs⟩ := h.st
  exact len_any k hk wr hs
theorem Qn.opens (h : Qn S w wr Q rv op) :
    Calls Try.prog 11 #[.pointer (some ⟨Q, 0, none⟩)] wr fun e w' => e = .returned (.int .i64 op) ∧ wr = w' := by
  obtain ⟨ps, cs, hs⟩ := h.st
  exact open_any wr hs
theorem Qn.rests (h : Qn S w wr Q rv op) :
    Calls Try.prog 12 #[.pointer (some ⟨Q, 0, none⟩)] wr fun e w' => e = .returned (.bool (restB rv op)) ∧ wr = w' := by
  obtain ⟨ps, cs, hs⟩ := h.st
  exact rests_any wr hs
end

set_option maxHeartbeats 1000000 in
theorem awake_any (w : World) : Calls Try.prog 4 #[] w fun e w' => e = .returned (.bool true) ∧ Below w.heap.size w w' := by
  go_enter Try.func4, Try.ntmps4
  go_wp2_with fail
  refine (new_qn _).mono ?_
  rintro e w1 ⟨rfl, hs, hz1⟩
  have HS1 := Lib.hid hs
  clear hs hz1
  go_wp2_with fail
  refine (HS1.out.put (Nat.le_refl _) 2 (by decide) 2 rfl 5 (by decide) (by decide)).mono ?_
  rintro e w2 ⟨rfl, hs⟩
  have HS2 := Lib.hid hs
  clear hs HS1
  go_wp2_with fail
  refine (HS2.out.put (Nat.le_refl _) 0 (by decide) 0 rfl 7 (by decide) (by decide)).mono ?_
  rintro e w3 ⟨rfl, hs⟩
  have HS3 := Lib.hid hs
  clear hs HS2
  go_wp2_with fail
  refine (HS3.out.any (Nat.le_refl _) 0 (by decide) 7 [] (fun j hj => absurd hj (Nat.not_lt_zero j)) rfl (by decide)).mono ?_
  rintro e w4 ⟨rfl, hs⟩
  have HS4 := Lib.hid hs
  clear hs HS3
  go_wp2_with fail
  refine HS4.out.opens.mono ?_
  rintro e wa ⟨rfl, rfl⟩
  go_wp2
  go_ret
  exact ⟨rfl, HS4.out.bel⟩

end Go.Proofs.Ytadkmidipjlcjaa.Qu
