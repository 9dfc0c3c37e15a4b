/-
  The law BlockNone answers true, for every config and number.
-/
import Derived.Test.YtfifliepjmpgkaaDoorBlkJ
namespace Go.Proofs.YtfifliepjmpgkaaDoor.Blk
open Go.RowKit Go.Shelf
open Go.Proofs.YtfifliepjmpgkaaDoor.Addr (Tabs)

theorem eq_zero (w : World) : (binOp .eql 23 (.agg #[.int .i64 0, .int .i64 0, .int .i64 0, .int .i64 0, .int .i64 0, .int .i64 0, .int .i64 0]) (.agg #[.int .i64 0, .int .i64 0, .int .i64 0, .int .i64 0, .int .i64 0, .int .i64 0, .int .i64 0])).run Tryd.prog w = .ok (.bool true) w := by
  rw [run_eq_cfg]; rfl

set_option maxRecDepth 100000 in
set_option maxHeartbeats 4000000 in
theorem none_any (c : Cfg) (n : Int) (w : World) (ht : Tabs w) :
    Calls Tryd.prog 5 #[(.agg #[.int .i64 c.b, .int .i64 c.wd, .int .i64 c.m, .int .i64 c.r, .int .i64 c.ce, .int .i64 c.lg, .int .i64 c.st]), .int .i64 n] w fun e w' => e = .returned (.bool true) ∧ Below w.heap.size w w' := by
  have HT := Lib.hid ht
  have heq := eq_zero
  have hgd := guardCfg
  clear ht
  have HR := Lib.hid (rightB_ref c.b c.wd c.m c.r c.ce c.lg c.st)
  rcases hr : refRightB c.b c.wd c.m c.r c.ce c.lg c.st with _ | _
  all_goals
    go_enter Tryd.func5, Tryd.ntmps5
    go_wp2_with fail
    refine (refright_any _ _ _ _ _ _ _ _).mono ?_
    rintro e w1 ⟨rfl, hb1⟩
    rw [hr]
    obtain ⟨hc1, hf1⟩ := bcell hb1
    have HT1 := Lib.hid ((HT.out.alloc _).later hb1)
    have hz1 : w.heap.size < w1.heap.size := by have := hb1.size; simp at this; omega
    have HB1 := Lib.hid (((Below.refl _ w).alloc (Nat.le_refl _) _).trans (hb1.mono (by simp)))
    clear hb1
    go_wp2_with fail
  · refine (new_bad c _ HT1.out.lim (HR.out.trans hr)).mono ?_
    rintro e w2 ⟨rfl, hb2⟩
    have HT2 := Lib.hid (HT1.out.later hb2)
    have HB2 := Lib.hid (HB1.out.trans (hb2.mono HB1.out.size))
    clear hb2
    go_wp2_with fail
    refine (assign_nil n _).mono ?_
    rintro e w' ⟨rfl, rfl⟩
    go_wp2_with fail
    refine (class_nil n _).mono ?_
    rintro e w' ⟨rfl, rfl⟩
    go_wp2_with fail
    refine (owner_nil n _ HT2.out).mono ?_
    rintro e w3 ⟨rfl, hb3⟩
    have HT3 := Lib.hid (HT2.out.later hb3)
    have HB3 := Lib.hid (HB2.out.trans (hb3.mono HB2.out.size))
    clear hb3
    go_wp2_with fail
    refine (config_nil _).mono ?_
    rintro e w4 ⟨rfl, hb4⟩
    have HT4 := Lib.hid (HT3.out.later hb4)
    have HB4 := Lib.hid (HB3.out.trans (hb4.mono HB3.out.size))
    clear hb4
    go_wp2_with fail
    refine (unassigned_nil _).mono ?_
    rintro e w5 ⟨p1, cap1, rfl, hb5⟩
    have HT5 := Lib.hid (HT4.out.later hb5)
    have HB5 := Lib.hid (HB4.out.trans (hb5.mono HB4.out.size))
    clear hb5
    go_wp2_with fail
    refine (of_nil n _).mono ?_
    rintro e w6 ⟨p2, cap2, rfl, hb6⟩
    have HT6 := Lib.hid (HT5.out.later hb6)
    have HB6 := Lib.hid (HB5.out.trans (hb6.mono HB5.out.size))
    clear hb6
    go_wp2_with fail
    refine (slots_out none n _ (fun W _ => class_nil n W)).mono ?_
    rintro e w7 ⟨p3, cap3, rfl, hb7⟩
    have HT7 := Lib.hid (HT6.out.later hb7)
    have HB7 := Lib.hid (HB6.out.trans (hb7.mono HB6.out.size))
    clear hb7
    go_wp2_with fail
    refine (list_nil 9 _).mono ?_
    rintro e w8 ⟨p4, cap4, rfl, hb8⟩
    have HT8 := Lib.hid (HT7.out.later hb8)
    have HB8 := Lib.hid (HB7.out.trans (hb8.mono HB7.out.size))
    clear hb8
    go_wp2_with fail
    refine (copy_nil _).mono ?_
    rintro e w' ⟨rfl, rfl⟩
    go_wp2_with fail
    refine (awake_any _ HT8.out).mono ?_
    rintro e w9 ⟨rfl, hb9⟩
    have HT9 := Lib.hid (HT8.out.later hb9)
    have HB9 := Lib.hid (HB8.out.trans (hb9.mono HB8.out.size))
    clear hb9
    go_wp2
    go_ret
    exact ⟨rfl, HB9.out⟩
  · skip
    refine (assign_nil n _).mono ?_
    rintro e w' ⟨rfl, rfl⟩
    go_wp2_with fail
    refine (class_nil n _).mono ?_
    rintro e w' ⟨rfl, rfl⟩
    go_wp2_with fail
    refine (owner_nil n _ HT1.out).mono ?_
    rintro e w2 ⟨rfl, hb2⟩
    have HT2 := Lib.hid (HT1.out.later hb2)
    have HB2 := Lib.hid (HB1.out.trans (hb2.mono HB1.out.size))
    clear hb2
    go_wp2_with fail
    refine (config_nil _).mono ?_
    rintro e w3 ⟨rfl, hb3⟩
    have HT3 := Lib.hid (HT2.out.later hb3)
    have HB3 := Lib.hid (HB2.out.trans (hb3.mono HB2.out.size))
    clear hb3
    go_wp2_with fail
    refine (unassigned_nil _).mono ?_
    rintro e w4 ⟨p1, cap1, rfl, hb4⟩
    have HT4 := Lib.hid (HT3.out.later hb4)
    have HB4 := Lib.hid (HB3.out.trans (hb4.mono HB3.out.size))
    clear hb4
    go_wp2_with fail
    refine (of_nil n _).mono ?_
    rintro e w5 ⟨p2, cap2, rfl, hb5⟩
    have HT5 := Lib.hid (HT4.out.later hb5)
    have HB5 := Lib.hid (HB4.out.trans (hb5.mono HB4.out.size))
    clear hb5
    go_wp2_with fail
    refine (slots_out none n _ (fun W _ => class_nil n W)).mono ?_
    rintro e w6 ⟨p3, cap3, rfl, hb6⟩
    have HT6 := Lib.hid (HT5.out.later hb6)
    have HB6 := Lib.hid (HB5.out.trans (hb6.mono HB5.out.size))
    clear hb6
    go_wp2_with fail
    refine (list_nil 9 _).mono ?_
    rintro e w7 ⟨p4, cap4, rfl, hb7⟩
    have HT7 := Lib.hid (HT6.out.later hb7)
    have HB7 := Lib.hid (HB6.out.trans (hb7.mono HB6.out.size))
    clear hb7
    go_wp2_with fail
    refine (copy_nil _).mono ?_
    rintro e w' ⟨rfl, rfl⟩
    go_wp2_with fail
    refine (awake_any _ HT7.out).mono ?_
    rintro e w8 ⟨rfl, hb8⟩
    have HT8 := Lib.hid (HT7.out.later hb8)
    have HB8 := Lib.hid (HB7.out.trans (hb8.mono HB7.out.size))
    clear hb8
    go_wp2
    go_ret
    exact ⟨rfl, HB8.out⟩
end Go.Proofs.YtfifliepjmpgkaaDoor.Blk
