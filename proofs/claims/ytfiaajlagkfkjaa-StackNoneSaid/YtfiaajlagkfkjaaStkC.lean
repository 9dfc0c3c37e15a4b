/-
  (*stack.Stack).All; the document's example; the law StackNone answers true, for every room and number.
-/
import Derived.Test.YtfiaajlagkfkjaaStkB
import Derived.Test.YtfiaajlagkfkjaaRowB
namespace Go.Proofs.Ytfiaajlagkfkjaa.Stk
open Go.RowKit
open Go.Proofs.Ytfiaajlagkfkjaa.Row

theorem owns_none {w : World} {base cap k n : Nat} {e : TypeId} {xs : List Value} (h : w.ownsRow base e 1 (.slice none n cap) k xs) : cap = 0 := by
  obtain ⟨_, ⟨h2, h3⟩ | ⟨g, c, cur, e1, r⟩⟩ := h
  · cases h2; rfl
  · cases e1
theorem all_any {B base room cap : Nat} {p : Option Addr} {ns : List Int} {over : Bool} (w : World) (h : StIs w B base room cap p ns over) : Calls Try.prog 18 #[.pointer (some ⟨B, 0, none⟩)] w fun e w' =>
    ∃ p' cap', e = .returned (.slice p' ns.length cap') ∧ w'.ownsRow w.heap.size 3 1 (.slice p' ns.length cap') ns.length (cellsZ ns) ∧ Below w.heap.size w w' := by
  have hc := h.c1
  have hl := h.len
  have hr := h.r2
  have H := Lib.hid h
  clear h
  go_enter Try.func18, Try.ntmps18
  go_wp2_with (first
    | go_enter Try.func36, Try.ntmps36
    | go_enter Try.func37, Try.ntmps37
    | (go_at_call 38; refine (clone_any p ns w (by omega) (fun e => by have ho := H.out.own; rw [e] at ho; exact owns_none ho) (Rd.of_owns H.out.own)).mono ?_; rintro e w' ⟨p', cap', rfl, ho, hb⟩))
  go_ret
  exact ⟨p', cap', rfl, ho, hb⟩

set_option maxHeartbeats 1000000 in
theorem awake_any (w : World) : Calls Try.prog 10 #[] w fun e w' => e = .returned (.bool true) ∧ Below w.heap.size w w' := by
  go_enter Try.func10, Try.ntmps10
  go_wp2_with fail
  refine (new_good 1 1 rfl _ (by decide) (by decide)).mono ?_
  rintro e w1 ⟨rfl, hs, hb1, hz1⟩
  have HS1 := Lib.hid hs
  have HB1 := Lib.hid hb1
  clear hs hb1
  go_wp2_with fail
  refine (push_good 5 _ HS1.out (by omega) (by decide)).mono ?_
  rintro e w2 ⟨rfl, p2, cap2, hs2, hc2, hr2⟩
  have HS2 := Lib.hid hs2
  have hb2 : Below w.heap.size w w2 := HB1.out.trans (hc2.below (fun k hk => hk.elim (fun e => by omega) (fun e => absurd e (rowB_none k))) (by omega))
  have HB2 := Lib.hid hb2
  clear hs2 hc2 hr2 HS1 HB1 hb2
  go_wp2_with fail
  refine (push_full 6 _ HS2.out (by decide)).mono ?_
  rintro e w3 ⟨rfl, hs3, hc3⟩
  have HS3 := Lib.hid hs3
  have HB3 := Lib.hid (HB2.out.trans (hc3.below (fun k hk => by omega) HB2.out.size))
  clear hs3 hc3 HS2 HB2
  go_wp2_with fail
  refine (over_any _ HS3.out).mono ?_
  rintro e wa ⟨rfl, rfl⟩
  go_wp2_with fail
  refine (pop_good (ns := []) _ HS3.out).mono ?_
  rintro e w4 ⟨rfl, hs4, hc4⟩
  have HB4 := Lib.hid (HB3.out.trans (hc4.below (fun k hk => by omega) HB3.out.size))
  clear hs4 hc4 HS3 HB3
  go_wp2
  go_ret
  exact ⟨rfl, HB4.out⟩

set_option maxHeartbeats 2000000 in
theorem none_walk (room n : Int) (w : World) :
    Calls Try.prog 4 #[.int .i64 room, .int .i64 n] w fun e w' => e = .returned (.bool true) ∧ Below w.heap.size w w' := by
  by_cases hz : room < 1
  · have HSZ : Hid (room < 1 ∨ 4096 < room) := Lib.hid (Or.inl hz)
    go_enter Try.func4, Try.ntmps4
    go_wp2_with fail
    refine (new_bad room _ HSZ.out).mono ?_
    rintro e wa ⟨rfl, rfl⟩
    go_wp2_with fail
    refine (pop_nil _).mono ?_
    rintro e w1 ⟨rfl, hb1⟩
    have HB1 := Lib.hid hb1
    clear hb1
    go_wp2_with fail
    refine (push_nil n _).mono ?_
    rintro e w2 ⟨rfl, hb2⟩
    have HB2 := Lib.hid (HB1.out.trans (hb2.mono HB1.out.size))
    clear hb2
    go_wp2_with fail
    refine (len_nil _).mono ?_
    rintro e wa ⟨rfl, rfl⟩
    go_wp2_with fail
    refine (over_nil _).mono ?_
    rintro e wa ⟨rfl, rfl⟩
    go_wp2_with fail
    refine (calm_nil _).mono ?_
    rintro e wa ⟨rfl, rfl⟩
    go_wp2_with fail
    refine (all_nil _).mono ?_
    rintro e wa ⟨rfl, rfl⟩
    go_wp2_with fail
    refine (awake_any _).mono ?_
    rintro e w5 ⟨rfl, hb5⟩
    have HB5 := Lib.hid hb5
    clear hb5
    go_wp2
    go_ret
    exact ⟨rfl, HB2.out.trans (HB5.out.mono HB2.out.size)⟩
  by_cases hz2 : 4096 < room
  · have HSZ : Hid (room < 1 ∨ 4096 < room) := Lib.hid (Or.inr hz2)
    go_enter Try.func4, Try.ntmps4
    go_wp2_with fail
    refine (new_bad room _ HSZ.out).mono ?_
    rintro e wa ⟨rfl, rfl⟩
    go_wp2_with fail
    refine (pop_nil _).mono ?_
    rintro e w1 ⟨rfl, hb1⟩
    have HB1 := Lib.hid hb1
    clear hb1
    go_wp2_with fail
    refine (push_nil n _).mono ?_
    rintro e w2 ⟨rfl, hb2⟩
    have HB2 := Lib.hid (HB1.out.trans (hb2.mono HB1.out.size))
    clear hb2
    go_wp2_with fail
    refine (len_nil _).mono ?_
    rintro e wa ⟨rfl, rfl⟩
    go_wp2_with fail
    refine (over_nil _).mono ?_
    rintro e wa ⟨rfl, rfl⟩
    go_wp2_with fail
    refine (calm_nil _).mono ?_
    rintro e wa ⟨rfl, rfl⟩
    go_wp2_with fail
    refine (all_nil _).mono ?_
    rintro e wa ⟨rfl, rfl⟩
    go_wp2_with fail
    refine (awake_any _).mono ?_
    rintro e w5 ⟨rfl, hb5⟩
    have HB5 := Lib.hid hb5
    clear hb5
    go_wp2
    go_ret
    exact ⟨rfl, HB2.out.trans (HB5.out.mono HB2.out.size)⟩
  · have h1 : 1 ≤ room := by omega
    have h2 : room ≤ 4096 := by omega
    go_enter Try.func4, Try.ntmps4
    go_wp2_with fail
    refine (pop_nil _).mono ?_
    rintro e w1 ⟨rfl, hb1⟩
    have HB1 := Lib.hid hb1
    clear hb1
    go_wp2_with fail
    refine (push_nil n _).mono ?_
    rintro e w2 ⟨rfl, hb2⟩
    have HB2 := Lib.hid (HB1.out.trans (hb2.mono HB1.out.size))
    clear hb2
    go_wp2_with fail
    refine (len_nil _).mono ?_
    rintro e wa ⟨rfl, rfl⟩
    go_wp2_with fail
    refine (over_nil _).mono ?_
    rintro e wa ⟨rfl, rfl⟩
    go_wp2_with fail
    refine (calm_nil _).mono ?_
    rintro e wa ⟨rfl, rfl⟩
    go_wp2_with fail
    refine (all_nil _).mono ?_
    rintro e wa ⟨rfl, rfl⟩
    go_wp2_with fail
    refine (awake_any _).mono ?_
    rintro e w5 ⟨rfl, hb5⟩
    have HB5 := Lib.hid hb5
    clear hb5
    go_wp2
    go_ret
    exact ⟨rfl, HB2.out.trans (HB5.out.mono HB2.out.size)⟩
end Go.Proofs.Ytfiaajlagkfkjaa.Stk
