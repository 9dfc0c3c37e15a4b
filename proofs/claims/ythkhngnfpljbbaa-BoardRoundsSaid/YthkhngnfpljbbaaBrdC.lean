/-
  The document's example; the law BoardNone answers true, for every number of mutators and every number.
-/
import Derived.Test.YthkhngnfpljbbaaBrdB
namespace Go.Proofs.Ythkhngnfpljbbaa.Brd
open Go.RowKit
open Go.Proofs.Ythkhngnfpljbbaa.Row

/-- A board in memory, above what lay. -/
structure Bd (S : Nat) (w wr : World) (B n : Nat) (kind count : Int) (ow : Nat → Bool) : Prop where
  st : BdIs wr B S n kind count ow
  bel : Below S w wr
theorem Bd.new {w w1 : World} {n : Nat} (h : BdIs w1 w.heap.size w.heap.size n 0 0 (fun _ => false)) (hb : Below w.heap.size w w1) : Bd w.heap.size w w1 w.heap.size n 0 0 (fun _ => false) := ⟨h, hb⟩
theorem Bd.later {S : Nat} {w wr w' : World} {B n : Nat} {kind count : Int} {ow : Nat → Bool} (h : Bd S w wr B n kind count ow) (hS : S ≤ w.heap.size) (hb : Below wr.heap.size wr w') : Bd S w w' B n kind count ow :=
  ⟨h.st.later hb, h.bel.trans (hb.mono (Nat.le_trans hS h.bel.size))⟩
theorem Bd.ask {S : Nat} {w wr : World} {B n : Nat} {kind count : Int} {ow : Nat → Bool} (h : Bd S w wr B n kind count ow) (hS : S ≤ w.heap.size) (k : Int) (ho : allB n ow = true) (h0 : 0 ≤ count) (h1 : count ≤ 1000000) :
    Calls Try.prog 9 #[.pointer (some ⟨B, 0, none⟩), .int .i64 k] wr fun e w' => e = .returned (.int .i64 0) ∧ Bd S w w' B n k (count + 1) (fun m => decide (m < n) || ow m) := by
  refine (ask_yes k wr h.st ho h0 h1).mono ?_
  rintro e w' ⟨rfl, hs, hc⟩
  exact ⟨rfl, hs, h.bel.trans (hc.below (fun k hk => hk ▸ h.st.base) (Nat.le_trans hS h.bel.size))⟩
theorem Bd.askNo {S : Nat} {w wr : World} {B n : Nat} {kind count : Int} {ow : Nat → Bool} (h : Bd S w wr B n kind count ow) (hS : S ≤ w.heap.size) (k : Int) (ho : allB n ow = false) :
    Calls Try.prog 9 #[.pointer (some ⟨B, 0, none⟩), .int .i64 k] wr fun e w' => e = .returned (.int .i64 11) ∧ Bd S w w' B n kind count ow := by
  refine (ask_no k wr h.st ho).mono ?_
  rintro e w' ⟨rfl, hb⟩
  exact ⟨rfl, h.later hS hb⟩
theorem Bd.all {S : Nat} {w wr : World} {B n : Nat} {kind count : Int} {ow : Nat → Bool} (h : Bd S w wr B n kind count ow) (hS : S ≤ w.heap.size) :
    Calls Try.prog 13 #[.pointer (some ⟨B, 0, none⟩)] wr fun e w' => e = .returned (.bool (allB n ow)) ∧ Bd S w w' B n kind count ow := by
  refine (all_any wr h.st).mono ?_
  rintro e w' ⟨rfl, hb⟩
  exact ⟨rfl, h.later hS hb⟩
theorem Bd.answer {S : Nat} {w wr : World} {B n : Nat} {kind count : Int} {ow : Nat → Bool} (h : Bd S w wr B n kind count ow) (hS : S ≤ w.heap.size) (m : Nat) (hm : m < n) (ho : ow m = true) :
    Calls Try.prog 10 #[.pointer (some ⟨B, 0, none⟩), .int .i64 m] wr fun e w' => e = .returned (.int .i64 0) ∧ Bd S w w' B n kind count (upd ow m false) := by
  refine (ans_open m wr h.st hm ho).mono ?_
  rintro e w' ⟨rfl, hs, hc⟩
  exact ⟨rfl, hs, h.bel.trans (hc.below (fun k hk => hk ▸ h.st.base) (Nat.le_trans hS h.bel.size))⟩

set_option maxHeartbeats 1000000 in
theorem awake_any (w : World) : Calls Try.prog 7 #[] w fun e w' => e = .returned (.bool true) ∧ Below w.heap.size w w' := by
  go_enter Try.func7, Try.ntmps7
  go_wp2_with fail
  refine (new_good 2 2 rfl _ (by decide) (by decide)).mono ?_
  rintro e w1 ⟨rfl, hs, hb1, hz1⟩
  have HS1 := Lib.hid (Bd.new hs hb1)
  clear hs hb1 hz1
  go_wp2_with fail
  refine (HS1.out.ask (Nat.le_refl _) 1 (by decide) (by decide) (by decide)).mono ?_
  rintro e w2 ⟨rfl, hs⟩
  have HS2 := Lib.hid hs
  clear hs HS1
  go_wp2_with fail
  refine (HS2.out.answer (Nat.le_refl _) 0 (by decide) (by decide)).mono ?_
  rintro e w3 ⟨rfl, hs⟩
  have HS3 := Lib.hid hs
  clear hs HS2
  go_wp2_with fail
  refine (HS3.out.askNo (Nat.le_refl _) 2 (by decide)).mono ?_
  rintro e w4 ⟨rfl, hs⟩
  have HS4 := Lib.hid hs
  clear hs HS3
  go_wp2_with fail
  refine (pend_open 1 _ HS4.out.st (by decide) (by decide)).mono ?_
  rintro e wa ⟨rfl, rfl⟩
  go_wp2
  go_ret
  exact ⟨rfl, HS4.out.bel⟩

set_option maxHeartbeats 2000000 in
theorem none_walk (n m : Int) (w : World) :
    Calls Try.prog 4 #[.int .i64 n, .int .i64 m] w fun e w' => e = .returned (.bool true) ∧ Below w.heap.size w w' := by
  by_cases hz : n < 1
  · have HSZ : Hid (n < 1 ∨ 8 < n) := Lib.hid (Or.inl hz)
    go_enter Try.func4, Try.ntmps4
    go_wp2_with fail
    refine (new_bad n _ HSZ.out).mono ?_
    rintro e wa ⟨rfl, rfl⟩
    go_wp2_with fail
    refine (pend_nil m _).mono ?_
    rintro e wa ⟨rfl, rfl⟩
    go_wp2_with fail
    refine (ask_nil m _).mono ?_
    rintro e w1 ⟨rfl, hb1⟩
    have HB1 := Lib.hid hb1
    clear hb1
    go_wp2_with fail
    refine (ans_nil m _).mono ?_
    rintro e wa ⟨rfl, rfl⟩
    go_wp2_with fail
    refine (answered_nil m _).mono ?_
    rintro e wa ⟨rfl, rfl⟩
    go_wp2_with fail
    refine (all_nil _).mono ?_
    rintro e w2 ⟨rfl, hb2⟩
    have HB2 := Lib.hid (HB1.out.trans (hb2.mono HB1.out.size))
    clear hb2
    go_wp2_with fail
    refine (count_nil _).mono ?_
    rintro e wa ⟨rfl, rfl⟩
    go_wp2_with fail
    refine (awake_any _).mono ?_
    rintro e w5 ⟨rfl, hb5⟩
    have HB5 := Lib.hid hb5
    clear hb5
    go_wp2
    go_ret
    exact ⟨rfl, HB2.out.trans (HB5.out.mono HB2.out.size)⟩
  by_cases hz2 : 8 < n
  · have HSZ : Hid (n < 1 ∨ 8 < n) := Lib.hid (Or.inr hz2)
    go_enter Try.func4, Try.ntmps4
    go_wp2_with fail
    refine (new_bad n _ HSZ.out).mono ?_
    rintro e wa ⟨rfl, rfl⟩
    go_wp2_with fail
    refine (pend_nil m _).mono ?_
    rintro e wa ⟨rfl, rfl⟩
    go_wp2_with fail
    refine (ask_nil m _).mono ?_
    rintro e w1 ⟨rfl, hb1⟩
    have HB1 := Lib.hid hb1
    clear hb1
    go_wp2_with fail
    refine (ans_nil m _).mono ?_
    rintro e wa ⟨rfl, rfl⟩
    go_wp2_with fail
    refine (answered_nil m _).mono ?_
    rintro e wa ⟨rfl, rfl⟩
    go_wp2_with fail
    refine (all_nil _).mono ?_
    rintro e w2 ⟨rfl, hb2⟩
    have HB2 := Lib.hid (HB1.out.trans (hb2.mono HB1.out.size))
    clear hb2
    go_wp2_with fail
    refine (count_nil _).mono ?_
    rintro e wa ⟨rfl, rfl⟩
    go_wp2_with fail
    refine (awake_any _).mono ?_
    rintro e w5 ⟨rfl, hb5⟩
    have HB5 := Lib.hid hb5
    clear hb5
    go_wp2
    go_ret
    exact ⟨rfl, HB2.out.trans (HB5.out.mono HB2.out.size)⟩
  · have h1 : 1 ≤ n := by omega
    have h2 : n ≤ 8 := by omega
    go_enter Try.func4, Try.ntmps4
    go_wp2_with fail
    refine (pend_nil m _).mono ?_
    rintro e wa ⟨rfl, rfl⟩
    go_wp2_with fail
    refine (ask_nil m _).mono ?_
    rintro e w1 ⟨rfl, hb1⟩
    have HB1 := Lib.hid hb1
    clear hb1
    go_wp2_with fail
    refine (ans_nil m _).mono ?_
    rintro e wa ⟨rfl, rfl⟩
    go_wp2_with fail
    refine (answered_nil m _).mono ?_
    rintro e wa ⟨rfl, rfl⟩
    go_wp2_with fail
    refine (all_nil _).mono ?_
    rintro e w2 ⟨rfl, hb2⟩
    have HB2 := Lib.hid (HB1.out.trans (hb2.mono HB1.out.size))
    clear hb2
    go_wp2_with fail
    refine (count_nil _).mono ?_
    rintro e wa ⟨rfl, rfl⟩
    go_wp2_with fail
    refine (awake_any _).mono ?_
    rintro e w5 ⟨rfl, hb5⟩
    have HB5 := Lib.hid hb5
    clear hb5
    go_wp2
    go_ret
    exact ⟨rfl, HB2.out.trans (HB5.out.mono HB2.out.size)⟩
end Go.Proofs.Ythkhngnfpljbbaa.Brd
