/-
  The document's example of an arena; the law ArenaNone answers true, for every size, address and word.
-/
import Derived.Test.YtibnbbachoignaaArC
namespace Go.Proofs.Ytibnbbachoignaa.Arena
open Go.RowKit

theorem new_lit (n : Nat) (z : Int) (hz : z = n) (w : World) (h : 1 ≤ n) (h2 : n ≤ 1048576) : Calls Try.prog 8 #[.int .i64 z] w fun e w' => ∃ B G, e = .returned (.tuple #[.pointer (some ⟨B, 0, none⟩), .int .i64 0]) ∧
    ArIs w' B G n (List.replicate n 0) 0 0 ∧ w.heap.size ≤ B ∧ w.heap.size ≤ G ∧ B < w'.heap.size ∧ G < w'.heap.size ∧ Below w.heap.size w w' := by
  subst hz
  exact new_good n w h h2
theorem store_at {B G cap ld st : Nat} {ws : List Nat} (w : World) (h : ArIs w B G cap ws ld st) (hG : G < w.heap.size) (hst : st < 1000000) (a : Int) (x : Nat) (z y : Int) (hz : z = x) (hy : codeN ws.length a = y) :
    Calls Try.prog 10 #[.pointer (some ⟨B, 0, none⟩), .int .i64 a, .int .u64 z] w fun e w' => e = .returned (.int .i64 y) ∧ ArIs w' B G cap (putS ws a x) ld (st + oneN ws.length a) ∧ Two B G w w' := by
  subst hz hy
  exact store_any w h hG hst a x

set_option maxHeartbeats 1000000 in
theorem awake_any (w : World) : Calls Try.prog 7 #[] w fun e w' => e = .returned (.bool true) ∧ Below w.heap.size w w' := by
  go_enter Try.func7, Try.ntmps7
  go_wp2_with fail
  refine (new_lit 4 4 rfl _ (by decide) (by decide)).mono ?_
  rintro e w1 ⟨B, G, rfl, ha1, hB1, hG1, hB2, hG2, hb1⟩
  have HA1 := Lib.hid ha1
  have HB1 := Lib.hid hb1
  clear ha1 hb1
  go_wp2_with fail
  refine (store_at _ HA1.out hG2 (by decide) 5 1 1 4 rfl (by decide)).mono ?_
  rintro e w2 ⟨rfl, ha2, ht2⟩
  have HA2 := Lib.hid ha2
  have HT2 := Lib.hid ht2
  clear ha2 ht2
  go_wp2_with fail
  refine (store_at _ HA2.out (Nat.lt_of_lt_of_le hG2 HT2.out.size) (by decide) 4 1 1 0 rfl (by decide)).mono ?_
  rintro e w3 ⟨rfl, ha3, ht3⟩
  have HT3 := Lib.hid (HT2.out.trans ht3)
  clear ha3 ht3
  go_wp2
  go_ret
  exact ⟨rfl, HB1.out.trans (HT3.out.below hB1 hG1 HB1.out.size)⟩

set_option maxRecDepth 100000 in
set_option maxHeartbeats 4000000 in
theorem none_walk (size a x : Int) (w : World) :
    Calls Try.prog 4 #[.int .i64 size, .int .i64 a, .int .u64 x] w fun e w' => e = .returned (.bool true) ∧ Below w.heap.size w w' := by
  by_cases hz : size < 1
  · have HSZ : Hid (size < 1 ∨ 1048576 < size) := Or.inl hz
    go_enter Try.func4, Try.ntmps4
    go_wp2_with fail
    refine (new_bad size _ HSZ.out).mono ?_
    rintro e wa ⟨rfl, rfl⟩
    go_wp2_with fail
    refine (load_nil a _).mono ?_
    rintro e w1 ⟨rfl, hb1⟩
    have HB1 := Lib.hid hb1
    clear hb1
    go_wp2_with fail
    refine (store_nil a x _).mono ?_
    rintro e w2 ⟨rfl, hb2⟩
    have HB2 := Lib.hid (HB1.out.trans (hb2.mono HB1.out.size))
    clear hb2
    go_wp2_with fail
    refine (len_nil _).mono ?_
    rintro e wa ⟨rfl, rfl⟩
    go_wp2_with fail
    refine (loads_nil _).mono ?_
    rintro e wa ⟨rfl, rfl⟩
    go_wp2_with fail
    refine (stores_nil _).mono ?_
    rintro e wa ⟨rfl, rfl⟩
    go_wp2_with fail
    refine (dump_nil _).mono ?_
    rintro e wa ⟨rfl, rfl⟩
    go_wp2_with fail
    refine (copy_nil _).mono ?_
    rintro e wa ⟨rfl, rfl⟩
    go_wp2_with fail
    refine (awake_any _).mono ?_
    rintro e w5 ⟨rfl, hb5⟩
    have HB5 := Lib.hid hb5
    clear hb5
    go_wp2
    go_ret
    exact ⟨rfl, HB2.out.trans (HB5.out.mono HB2.out.size)⟩
  by_cases hz2 : 1048576 < size
  · have HSZ : Hid (size < 1 ∨ 1048576 < size) := Or.inr hz2
    go_enter Try.func4, Try.ntmps4
    go_wp2_with fail
    refine (new_bad size _ HSZ.out).mono ?_
    rintro e wa ⟨rfl, rfl⟩
    go_wp2_with fail
    refine (load_nil a _).mono ?_
    rintro e w1 ⟨rfl, hb1⟩
    have HB1 := Lib.hid hb1
    clear hb1
    go_wp2_with fail
    refine (store_nil a x _).mono ?_
    rintro e w2 ⟨rfl, hb2⟩
    have HB2 := Lib.hid (HB1.out.trans (hb2.mono HB1.out.size))
    clear hb2
    go_wp2_with fail
    refine (len_nil _).mono ?_
    rintro e wa ⟨rfl, rfl⟩
    go_wp2_with fail
    refine (loads_nil _).mono ?_
    rintro e wa ⟨rfl, rfl⟩
    go_wp2_with fail
    refine (stores_nil _).mono ?_
    rintro e wa ⟨rfl, rfl⟩
    go_wp2_with fail
    refine (dump_nil _).mono ?_
    rintro e wa ⟨rfl, rfl⟩
    go_wp2_with fail
    refine (copy_nil _).mono ?_
    rintro e wa ⟨rfl, rfl⟩
    go_wp2_with fail
    refine (awake_any _).mono ?_
    rintro e w5 ⟨rfl, hb5⟩
    have HB5 := Lib.hid hb5
    clear hb5
    go_wp2
    go_ret
    exact ⟨rfl, HB2.out.trans (HB5.out.mono HB2.out.size)⟩
  go_enter Try.func4, Try.ntmps4
  go_wp2_with fail
  refine (load_nil a _).mono ?_
  rintro e w1 ⟨rfl, hb1⟩
  have HB1 := Lib.hid hb1
  clear hb1
  go_wp2_with fail
  refine (store_nil a x _).mono ?_
  rintro e w2 ⟨rfl, hb2⟩
  have HB2 := Lib.hid (HB1.out.trans (hb2.mono HB1.out.size))
  clear hb2
  go_wp2_with fail
  refine (len_nil _).mono ?_
  rintro e wa ⟨rfl, rfl⟩
  go_wp2_with fail
  refine (loads_nil _).mono ?_
  rintro e wa ⟨rfl, rfl⟩
  go_wp2_with fail
  refine (stores_nil _).mono ?_
  rintro e wa ⟨rfl, rfl⟩
  go_wp2_with fail
  refine (dump_nil _).mono ?_
  rintro e wa ⟨rfl, rfl⟩
  go_wp2_with fail
  refine (copy_nil _).mono ?_
  rintro e wa ⟨rfl, rfl⟩
  go_wp2_with fail
  refine (awake_any _).mono ?_
  rintro e w5 ⟨rfl, hb5⟩
  have HB5 := Lib.hid hb5
  clear hb5
  go_wp2
  go_ret
  exact ⟨rfl, HB2.out.trans (HB5.out.mono HB2.out.size)⟩
end Go.Proofs.Ytibnbbachoignaa.Arena
