/-
  The law HeapNone answers true, for every config and two numbers.
-/
import Derived.Test.YtcoolapancdioaaGreatDoorHpR
namespace Go.Proofs.YtcoolapancdioaaGreatDoor.Hp
open Go.RowKit
open Class (below_drewN)
open Blk (Cfg BoxIs)
open Go.Proofs.YtcoolapancdioaaGreatDoor.Addr (Tabs)

set_option maxRecDepth 100000 in
set_option maxHeartbeats 8000000 in
theorem none_walk (c : Cfg) (a n : Int) (w : World) (ht : Tabs w) :
    Calls Tryz.prog 6 #[(.agg #[.int .i64 c.b, .int .i64 c.wd, .int .i64 c.m, .int .i64 c.r, .int .i64 c.ce, .int .i64 c.lg, .int .i64 c.st]), .int .i64 a, .int .i64 n] w fun e w' => e = .returned (.bool true) ∧ Below w.heap.size w w' := by
  have HT := Lib.hid ht
  clear ht
  have HRR := Lib.hid (refright_any c.b c.wd c.m c.r c.ce c.lg c.st)
  cases hR : rightB c.b c.wd c.m c.r c.ce c.lg c.st with
  | true =>
    rw [← rightB_ref, hR] at HRR
    go_enter Tryz.func6, Tryz.ntmps6
    go_wp2_with fail
    refine (HRR.out _).mono ?_
    rintro e w1 ⟨rfl, hb1⟩
    have HB := Lib.hid (((Below.refl _ w).alloc (Nat.le_refl _) (.cells #[.int .i64 c.b, .int .i64 c.wd, .int .i64 c.m, .int .i64 c.r, .int .i64 c.ce, .int .i64 c.lg, .int .i64 c.st] 23)).trans (hb1.mono (by simp)))
    clear hb1 hR HRR
    go_wp2_with fail
    refine (take_nil n _).mono ?_
    rintro e w' ⟨rfl, rfl⟩
    go_wp2_with fail
    refine (assign_nil n _).mono ?_
    rintro e w' ⟨rfl, rfl⟩
    go_wp2_with fail
    refine (fields_nil a _).mono ?_
    rintro e w' ⟨rfl, rfl⟩
    go_wp2_with fail
    refine (load_nil a n _).mono ?_
    rintro e wn ⟨rfl, hbn⟩
    have HB' := Lib.hid (HB.out.trans (hbn.mono HB.out.size))
    clear hbn HB
    have HB := HB'
    clear HB'
    go_wp2_with fail
    refine (color_nil a _).mono ?_
    rintro e wn ⟨rfl, hbn⟩
    have HB' := Lib.hid (HB.out.trans (hbn.mono HB.out.size))
    clear hbn HB
    have HB := HB'
    clear HB'
    go_wp2_with fail
    refine (paint_nil a n _).mono ?_
    rintro e wn ⟨rfl, hbn⟩
    have HB' := Lib.hid (HB.out.trans (hbn.mono HB.out.size))
    clear hbn HB
    have HB := HB'
    clear HB'
    go_wp2_with fail
    refine (cell_nil n _).mono ?_
    rintro e wn ⟨rfl, hbn⟩
    have HB' := Lib.hid (HB.out.trans (hbn.mono HB.out.size))
    clear hbn HB
    have HB := HB'
    clear HB'
    go_wp2_with fail
    refine (make_nil n a _ (HT.out.later HB.out)).mono ?_
    rintro e w' ⟨rfl, rfl⟩
    go_wp2_with fail
    refine (put_nil a _).mono ?_
    rintro e w' ⟨rfl, rfl⟩
    go_wp2_with fail
    refine (begin_nil a n _).mono ?_
    rintro e wn ⟨rfl, hbn⟩
    have HB' := Lib.hid (HB.out.trans (hbn.mono HB.out.size))
    clear hbn HB
    have HB := HB'
    clear HB'
    go_wp2_with fail
    refine (bear_nil a n _).mono ?_
    rintro e wn ⟨rfl, hbn⟩
    have HB' := Lib.hid (HB.out.trans (hbn.mono HB.out.size))
    clear hbn HB
    have HB := HB'
    clear HB'
    go_wp2_with fail
    refine (free_nil a _).mono ?_
    rintro e wn ⟨rfl, hbn⟩
    have HB' := Lib.hid (HB.out.trans (hbn.mono HB.out.size))
    clear hbn HB
    have HB := HB'
    clear HB'
    go_wp2_with fail
    refine (store_nil a n n _).mono ?_
    rintro e wn ⟨rfl, hbn⟩
    have HB' := Lib.hid (HB.out.trans (hbn.mono HB.out.size))
    clear hbn HB
    have HB := HB'
    clear HB'
    go_wp2_with fail
    refine (setcell_nil n a _).mono ?_
    rintro e wn ⟨rfl, hbn⟩
    have HB' := Lib.hid (HB.out.trans (hbn.mono HB.out.size))
    clear hbn HB
    have HB := HB'
    clear HB'
    go_wp2_with fail
    refine (config_nil _).mono ?_
    rintro e wn ⟨rfl, hbn⟩
    have HB' := Lib.hid (HB.out.trans (hbn.mono HB.out.size))
    clear hbn HB
    have HB := HB'
    clear HB'
    go_wp2_with fail
    refine (table_nil _).mono ?_
    rintro e w' ⟨rfl, rfl⟩
    go_wp2_with fail
    refine (is_nil a _).mono ?_
    rintro e w' ⟨rfl, rfl⟩
    go_wp2_with fail
    refine (objects_nil _).mono ?_
    rintro e wn ⟨p', cap', rfl, hbn⟩
    have HB' := Lib.hid (HB.out.trans (hbn.mono HB.out.size))
    clear hbn HB
    have HB := HB'
    clear HB'
    go_wp2_with fail
    refine (frees_nil n _).mono ?_
    rintro e w' ⟨rfl, rfl⟩
    go_wp2_with fail
    refine (hands_nil _).mono ?_
    rintro e wn ⟨p', cap', rfl, hbn⟩
    have HB' := Lib.hid (HB.out.trans (hbn.mono HB.out.size))
    clear hbn HB
    have HB := HB'
    clear HB'
    go_wp2_with fail
    refine (awake_any _ (HT.out.later HB.out)).mono ?_
    rintro e wn ⟨rfl, hbn⟩
    have HB' := Lib.hid (HB.out.trans (hbn.mono HB.out.size))
    clear hbn HB
    have HB := HB'
    clear HB'
    go_wp2
    go_ret
    exact ⟨rfl, HB.out⟩
  | false =>
    have HR := Lib.hid hR
    rw [← rightB_ref, hR] at HRR
    go_enter Tryz.func6, Tryz.ntmps6
    go_wp2_with fail
    obtain ⟨w1, hw1⟩ : ∃ w1, w1 = w.alloc (.cells #[.int .i64 c.b, .int .i64 c.wd, .int .i64 c.m, .int .i64 c.r, .int .i64 c.ce, .int .i64 c.lg, .int .i64 c.st] 23) := ⟨_, rfl⟩
    rw [← hw1]
    have hb1 : Below w.heap.size w w1 := by rw [hw1]; exact (Below.refl _ _).alloc (Nat.le_refl _) _
    have hbox : BoxIs w1 w.heap.size c := by rw [hw1]; exact ⟨by simp, by simp, by simp, by simp, by simp, by simp, by simp⟩
    refine (HRR.out _).mono ?_
    rintro e w2 ⟨rfl, hb2⟩
    have HB0 := Lib.hid (hb1.trans (hb2.mono hb1.size))
    have HX := Lib.hid (hbox.later hb2)
    clear hw1 hb1 hb2 hbox hR HRR
    have c0 := HX.out.b0
    have c1 := HX.out.b1
    have c2 := HX.out.b2
    have c3 := HX.out.b3
    have c4 := HX.out.b4
    have c5 := HX.out.b5
    have c6 := HX.out.b6
    go_wp2_with fail
    refine (new_bad c _ (HT.out.later HB0.out) HR.out).mono ?_
    rintro e w3 ⟨rfl, hb3⟩
    have HB := Lib.hid (HB0.out.trans (hb3.mono HB0.out.size))
    clear hb3 HB0 HX c0 c1 c2 c3 c4 c5 c6
    go_wp2_with fail
    refine (take_nil n _).mono ?_
    rintro e w' ⟨rfl, rfl⟩
    go_wp2_with fail
    refine (assign_nil n _).mono ?_
    rintro e w' ⟨rfl, rfl⟩
    go_wp2_with fail
    refine (fields_nil a _).mono ?_
    rintro e w' ⟨rfl, rfl⟩
    go_wp2_with fail
    refine (load_nil a n _).mono ?_
    rintro e wn ⟨rfl, hbn⟩
    have HB' := Lib.hid (HB.out.trans (hbn.mono HB.out.size))
    clear hbn HB
    have HB := HB'
    clear HB'
    go_wp2_with fail
    refine (color_nil a _).mono ?_
    rintro e wn ⟨rfl, hbn⟩
    have HB' := Lib.hid (HB.out.trans (hbn.mono HB.out.size))
    clear hbn HB
    have HB := HB'
    clear HB'
    go_wp2_with fail
    refine (paint_nil a n _).mono ?_
    rintro e wn ⟨rfl, hbn⟩
    have HB' := Lib.hid (HB.out.trans (hbn.mono HB.out.size))
    clear hbn HB
    have HB := HB'
    clear HB'
    go_wp2_with fail
    refine (cell_nil n _).mono ?_
    rintro e wn ⟨rfl, hbn⟩
    have HB' := Lib.hid (HB.out.trans (hbn.mono HB.out.size))
    clear hbn HB
    have HB := HB'
    clear HB'
    go_wp2_with fail
    refine (make_nil n a _ (HT.out.later HB.out)).mono ?_
    rintro e w' ⟨rfl, rfl⟩
    go_wp2_with fail
    refine (put_nil a _).mono ?_
    rintro e w' ⟨rfl, rfl⟩
    go_wp2_with fail
    refine (begin_nil a n _).mono ?_
    rintro e wn ⟨rfl, hbn⟩
    have HB' := Lib.hid (HB.out.trans (hbn.mono HB.out.size))
    clear hbn HB
    have HB := HB'
    clear HB'
    go_wp2_with fail
    refine (bear_nil a n _).mono ?_
    rintro e wn ⟨rfl, hbn⟩
    have HB' := Lib.hid (HB.out.trans (hbn.mono HB.out.size))
    clear hbn HB
    have HB := HB'
    clear HB'
    go_wp2_with fail
    refine (free_nil a _).mono ?_
    rintro e wn ⟨rfl, hbn⟩
    have HB' := Lib.hid (HB.out.trans (hbn.mono HB.out.size))
    clear hbn HB
    have HB := HB'
    clear HB'
    go_wp2_with fail
    refine (store_nil a n n _).mono ?_
    rintro e wn ⟨rfl, hbn⟩
    have HB' := Lib.hid (HB.out.trans (hbn.mono HB.out.size))
    clear hbn HB
    have HB := HB'
    clear HB'
    go_wp2_with fail
    refine (setcell_nil n a _).mono ?_
    rintro e wn ⟨rfl, hbn⟩
    have HB' := Lib.hid (HB.out.trans (hbn.mono HB.out.size))
    clear hbn HB
    have HB := HB'
    clear HB'
    go_wp2_with fail
    refine (config_nil _).mono ?_
    rintro e wn ⟨rfl, hbn⟩
    have HB' := Lib.hid (HB.out.trans (hbn.mono HB.out.size))
    clear hbn HB
    have HB := HB'
    clear HB'
    go_wp2_with fail
    refine (table_nil _).mono ?_
    rintro e w' ⟨rfl, rfl⟩
    go_wp2_with fail
    refine (is_nil a _).mono ?_
    rintro e w' ⟨rfl, rfl⟩
    go_wp2_with fail
    refine (objects_nil _).mono ?_
    rintro e wn ⟨p', cap', rfl, hbn⟩
    have HB' := Lib.hid (HB.out.trans (hbn.mono HB.out.size))
    clear hbn HB
    have HB := HB'
    clear HB'
    go_wp2_with fail
    refine (frees_nil n _).mono ?_
    rintro e w' ⟨rfl, rfl⟩
    go_wp2_with fail
    refine (hands_nil _).mono ?_
    rintro e wn ⟨p', cap', rfl, hbn⟩
    have HB' := Lib.hid (HB.out.trans (hbn.mono HB.out.size))
    clear hbn HB
    have HB := HB'
    clear HB'
    go_wp2_with fail
    refine (awake_any _ (HT.out.later HB.out)).mono ?_
    rintro e wn ⟨rfl, hbn⟩
    have HB' := Lib.hid (HB.out.trans (hbn.mono HB.out.size))
    clear hbn HB
    have HB := HB'
    clear HB'
    go_wp2
    go_ret
    exact ⟨rfl, HB.out⟩
end Go.Proofs.YtcoolapancdioaaGreatDoor.Hp
