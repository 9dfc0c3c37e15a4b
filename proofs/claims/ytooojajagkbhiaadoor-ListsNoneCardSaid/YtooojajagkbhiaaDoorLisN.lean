/-
  The law ListsNone answers true, for every config, number and stop.
-/
import Derived.Test.YtooojajagkbhiaaDoorLisL
import Derived.Test.YtooojajagkbhiaaDoorBlkL
namespace Go.Proofs.YtooojajagkbhiaaDoor.Lis
open Go.RowKit
open Class (isB isB_true isB_false is_any)
open Blk (Cfg TbIs little little_any little_right little_b box7)
open Arena (ArIs)
open Go.Proofs.YtooojajagkbhiaaDoor.Addr (Tabs adrB_true)

set_option maxRecDepth 100000 in
set_option maxHeartbeats 4000000 in
theorem none_walk (c : Cfg) (k : Int) (stop : Nat) (hs : stop < 256) (w : World) (ht : Tabs w) :
    Calls Tryd.prog 4 #[(.agg #[.int .i64 c.b, .int .i64 c.wd, .int .i64 c.m, .int .i64 c.r, .int .i64 c.ce, .int .i64 c.lg, .int .i64 c.st]), .int .i64 k, .int .u8 stop] w fun e w' => e = .returned (.bool true) ∧ Below w.heap.size w w' := by
  have HT := Lib.hid ht
  have HR := Lib.hid (little_right c)
  have hRC : RightC (little c).b (little c).wd (little c).m (little c).r (little c).ce (little c).lg (little c).st := refRightB_true.1 ((rightB_ref ..).symm.trans (little_right c))
  have hw0 := hRC.words
  have hwl : (little c).b * (little c).wd ≤ 4 * 35 := by
    refine Int.mul_le_mul (little_b c).2 ?_ (by have := hRC.wd0; omega) (by decide)
    have h2 := Int.emod_lt_of_pos c.wd (show (0 : Int) < 20 by decide)
    unfold little; dsimp only; omega
  obtain ⟨hb0, hb1⟩ := little_b c
  clear ht hRC
  go_enter Tryd.func4, Tryd.ntmps4
  go_wp2_with fail
  refine (little_any c _).mono ?_
  rintro e w1 ⟨rfl, hb⟩
  have HW := Lib.hid (fun W2 hW => box7 (d := little c) (W2 := W2) (by simpa using hb) hW)
  obtain ⟨hc1, hf1⟩ := bcell hb
  have hz1 : w.heap.size < w1.heap.size := by have := hb.size; simp at this; omega
  clear hb
  generalize hL : little c = d at *
  obtain ⟨n, hn⟩ : ∃ n : Nat, d.b * d.wd = (n : Int) := ⟨(d.b * d.wd).toNat, by omega⟩
  have hn2 : n ≤ 140 := by omega
  clear hw0 hwl hL
  go_wp2_with fail
  generalize hW : World.setCell _ _ _ = W2
  obtain ⟨hbox, hb2⟩ := HW.out W2 hW
  have HB2 := Lib.hid hb2
  have HX2 := Lib.hid hbox
  clear hW HW hc1 hf1 hz1 hb2 hbox
  rw [show ((n : Int) + 1) = ((n + 1 : Nat) : Int) by omega]
  refine (Arena.new_good (n + 1) _ (by omega) (by omega)).mono ?_
  rintro e w3 ⟨A, G, rfl, hAr, hA1, hG1, hA2, hG2, hb3⟩
  have HB3 := Lib.hid (HB2.out.trans (hb3.mono HB2.out.size))
  have c0 := (HX2.out.later hb3).b0
  have c1 := (HX2.out.later hb3).b1
  have c2 := (HX2.out.later hb3).b2
  have c3 := (HX2.out.later hb3).b3
  have c4 := (HX2.out.later hb3).b4
  have c5 := (HX2.out.later hb3).b5
  have c6 := (HX2.out.later hb3).b6
  have HAr := Lib.hid hAr
  clear hAr hb3
  go_wp2_with fail
  refine (Blk.new_good d _ (HT.out.later HB3.out).lim HR.out).mono ?_
  rintro e w4 ⟨T, rfl, h4, hb4⟩
  have HT4 := Lib.hid h4
  have HAr4 := Lib.hid (HAr.out.below hb4 hA2 hG2)
  have HB4 := Lib.hid (HB3.out.trans (hb4.mono HB3.out.size))
  clear h4 hb4 c0 c1 c2 c3 c4 c5 c6
  go_wp2_with fail
  refine (new_odd _ HAr4.out HT4.out (HT.out.later HB4.out).lim HR.out (by rw [List.length_replicate]; omega)).mono ?_
  rintro e w5 ⟨rfl, hb5⟩
  have HB5 := Lib.hid (HB4.out.trans (hb5.mono HB4.out.size))
  clear hb5
  go_wp2_with fail
  refine (new_nilA _ _).mono ?_
  rintro e w' ⟨rfl, rfl⟩
  go_wp2_with fail
  refine (new_nilT _ _).mono ?_
  rintro e w' ⟨rfl, rfl⟩
  go_wp2_with fail
  refine (take_nil _ _).mono ?_
  rintro e w6 ⟨rfl, hb6⟩
  have HB6 := Lib.hid (HB5.out.trans (hb6.mono HB5.out.size))
  clear hb6
  go_wp2_with fail
  refine (put_nil _ _).mono ?_
  rintro e w7 ⟨rfl, hb7⟩
  have HB7 := Lib.hid (HB6.out.trans (hb7.mono HB6.out.size))
  clear hb7
  go_wp2_with fail
  refine (has_nil _ _).mono ?_
  rintro e w' ⟨rfl, rfl⟩
  go_wp2_with fail
  refine (len_nil _ _).mono ?_
  rintro e w8 ⟨rfl, hb8⟩
  have HB8 := Lib.hid (HB7.out.trans (hb8.mono HB7.out.size))
  clear hb8
  go_wp2_with fail
  refine (first_nil _ _).mono ?_
  rintro e w9 ⟨rfl, hb9⟩
  have HB9 := Lib.hid (HB8.out.trans (hb9.mono HB8.out.size))
  clear hb9
  go_wp2_with fail
  refine (list_nil k stop _).mono ?_
  rintro e wa ⟨⟨pp, cp, rfl⟩, hba⟩
  have HBa := Lib.hid (HB9.out.trans (hba.mono HB9.out.size))
  clear hba
  go_wp2_with fail
  refine (awake_any _ (HT.out.later HBa.out)).mono ?_
  rintro e wb ⟨rfl, hbb⟩
  have HBb := Lib.hid (HBa.out.trans (hbb.mono HBa.out.size))
  clear hbb
  go_wp2
  go_ret
  exact ⟨rfl, HBb.out⟩
end Go.Proofs.YtooojajagkbhiaaDoor.Lis
