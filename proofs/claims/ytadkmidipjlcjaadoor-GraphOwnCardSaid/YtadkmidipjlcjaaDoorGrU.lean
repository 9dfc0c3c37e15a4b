/-
  GraphNone.
-/
import Derived.Test.YtadkmidipjlcjaaDoorGrT
import Derived.Test.YtadkmidipjlcjaaDoorConfigR
namespace Go.Proofs.YtadkmidipjlcjaaDoor.Gra
open Go.RowKit Go.Proofs.YtadkmidipjlcjaaDoor.Opr

set_option maxRecDepth 2000000 in
set_option maxHeartbeats 4000000 in
theorem none_walk (b wd m r ce lg st k a x cc n : Int) (w : World) (ht : FormTab w) (hl : LimTab w) :
    Calls Tryd.prog 5 #[.agg #[.int .i64 b, .int .i64 wd, .int .i64 m, .int .i64 r, .int .i64 ce, .int .i64 lg, .int .i64 st], .agg #[.int .i64 k, .int .i64 a, .int .i64 x, .int .i64 cc], .int .i64 n] w fun e w' => e = .returned (.bool true) ∧ Below w.heap.size w w' := by
  obtain ⟨w0, hw0⟩ : ∃ w0, (w.alloc (.cells #[.int .i64 b, .int .i64 wd, .int .i64 m, .int .i64 r, .int .i64 ce, .int .i64 lg, .int .i64 st] 23)).alloc (.cells #[.int .i64 k, .int .i64 a, .int .i64 x, .int .i64 cc] 39) = w0 := ⟨_, rfl⟩
  have HA : Hid (Below w.heap.size w w0) := Lib.hid (by rw [← hw0]; exact ((Below.refl _ _).alloc (Nat.le_refl _) _).alloc (by simp) _)
  have HC0 : Hid (CellsAt w0 w.heap.size [.int .i64 b, .int .i64 wd, .int .i64 m, .int .i64 r, .int .i64 ce, .int .i64 lg, .int .i64 st]) := Lib.hid (by
    rw [← hw0]
    exact (CellsAt.new w #[.int .i64 b, .int .i64 wd, .int .i64 m, .int .i64 r, .int .i64 ce, .int .i64 lg, .int .i64 st] 23).later ((Below.refl _ _).alloc (Nat.le_refl _) _))
  have HO0 : Hid (CellsAt w0 (w.heap.size + 1) [.int .i64 k, .int .i64 a, .int .i64 x, .int .i64 cc]) := Lib.hid (by
    rw [← hw0]
    exact (CellsAt.new _ #[.int .i64 k, .int .i64 a, .int .i64 x, .int .i64 cc] 39).at (by simp))
  have HT := Lib.hid ht
  have HL := Lib.hid hl
  clear ht hl
  have HRR : Hid (∀ W, Calls Tryd.prog 25 #[.agg #[.int .i64 b, .int .i64 wd, .int .i64 m, .int .i64 r, .int .i64 ce, .int .i64 lg, .int .i64 st]] W fun e w' => e = .returned (.bool (rightB b wd m r ce lg st)) ∧ Below W.heap.size W w') := Lib.hid fun W => by
    rw [rightB_ref]; exact refright_any b wd m r ce lg st W
  have rest : ∀ W, Below w.heap.size w W → CellsAt W (w.heap.size + 1) [.int .i64 k, .int .i64 a, .int .i64 x, .int .i64 cc] → True := fun _ _ _ => trivial
  clear rest
  have c0 := HC0.out 0 _ rfl
  have c1 := HC0.out 1 _ rfl
  have c2 := HC0.out 2 _ rfl
  have c3 := HC0.out 3 _ rfl
  have c4 := HC0.out 4 _ rfl
  have c5 := HC0.out 5 _ rfl
  have c6 := HC0.out 6 _ rfl
  have hs1 : w.heap.size < w0.heap.size := lt_of_cell c0
  have AW : Hid (∀ W, Below w.heap.size w W → Calls Tryd.prog 10 #[] W fun e w' => e = .returned (.bool true) ∧ Below W.heap.size W w') := Lib.hid fun W hW => awake_any W (HT.out.later hW) (HL.out.later hW)
  have NB : Hid (∀ W, Below w.heap.size w W → rightB b wd m r ce lg st = false → Calls Tryd.prog 11 #[.agg #[.int .i64 b, .int .i64 wd, .int .i64 m, .int .i64 r, .int .i64 ce, .int .i64 lg, .int .i64 st]] W fun e w' => e = .returned (.tuple #[.pointer none, .int .i64 1]) ∧ Below W.heap.size W w') := Lib.hid fun W hW h => newBad_any h W (HL.out.later hW)
  cases hR : rightB b wd m r ce lg st with
  | true =>
    rw [hR] at HRR
    go_enter Tryd.func5, Tryd.ntmps5
    go_wp2_with (go_at_call 25; fail)
    refine (HRR.out _).mono ?_
    rintro e w1 ⟨rfl, hb1⟩
    have HB1 := Lib.hid (HA.out.trans (hb1.mono HA.out.size))
    have HO1 := Lib.hid (HO0.out.later hb1)
    clear hb1 c0 c1 c2 c3 c4 c5 c6
    have o0 := HO1.out 0 _ rfl
    have o1 := HO1.out 1 _ rfl
    have o2 := HO1.out 2 _ rfl
    have o3 := HO1.out 3 _ rfl
    go_wp2_with (first
      | (go_at_call 12; refine (nilDo_any _ _ _ _ _ _).mono ?_; rintro e w2 ⟨rfl, hb2⟩; have HB2 := Lib.hid (HB1.out.trans (hb2.mono HB1.out.size)); clear hb2)
      | (go_at_call 20; refine (nilReg_any _ _ _).mono ?_; rintro e w9 ⟨rfl, hw9⟩; obtain rfl : w2 = w9 := hw9.symm)
      | (go_at_call 22; refine (nilCell_any _ _).mono ?_; rintro e w9 ⟨rfl, hw9⟩; obtain rfl : w2 = w9 := hw9.symm)
      | (go_at_call 23; refine (nilFields_any _ _).mono ?_; rintro e w9 ⟨rfl, hw9⟩; obtain rfl : w2 = w9 := hw9.symm)
      | (go_at_call 14; refine (nilCount_any _).mono ?_; rintro e w9 ⟨rfl, hw9⟩; obtain rfl : w2 = w9 := hw9.symm)
      | (go_at_call 16; refine (nilRoots_any _).mono ?_; rintro e w9 ⟨rfl, hw9⟩; obtain rfl : w2 = w9 := hw9.symm)
      | (go_at_call 18; refine (nilReach_any _).mono ?_; rintro e w3 ⟨rfl, hb3⟩; have HB3 := Lib.hid (HB2.out.trans (hb3.mono HB2.out.size)); clear hb3)
      | (go_at_call 24; refine (nilCopy_any _).mono ?_; rintro e w9 ⟨rfl, hw9⟩; obtain rfl : w3 = w9 := hw9.symm)
      | (go_at_call 10; refine (AW.out _ HB3.out).mono ?_; rintro e w4 ⟨rfl, hb4⟩; have HB4 := Lib.hid (HB3.out.trans (hb4.mono HB3.out.size)); clear hb4))
    go_ret
    exact ⟨rfl, HB4.out⟩
  | false =>
    rw [hR] at HRR
    go_enter Tryd.func5, Tryd.ntmps5
    go_wp2_with (go_at_call 25; fail)
    refine (HRR.out _).mono ?_
    rintro e w11 ⟨rfl, hb1⟩
    have HB11 := Lib.hid (HA.out.trans (hb1.mono HA.out.size))
    have HO11 := Lib.hid (HO0.out.later hb1)
    have HC11 := Lib.hid (HC0.out.later hb1)
    clear hb1 c0 c1 c2 c3 c4 c5 c6
    have c0 := HC11.out 0 _ rfl
    have c1 := HC11.out 1 _ rfl
    have c2 := HC11.out 2 _ rfl
    have c3 := HC11.out 3 _ rfl
    have c4 := HC11.out 4 _ rfl
    have c5 := HC11.out 5 _ rfl
    have c6 := HC11.out 6 _ rfl
    go_wp2_with (go_at_call 11; fail)
    refine (NB.out _ HB11.out hR).mono ?_
    rintro e w1 ⟨rfl, hb1⟩
    have HB1 := Lib.hid (HB11.out.trans (hb1.mono HB11.out.size))
    have HO1 := Lib.hid (HO11.out.later hb1)
    clear hb1 c0 c1 c2 c3 c4 c5 c6
    have o0 := HO1.out 0 _ rfl
    have o1 := HO1.out 1 _ rfl
    have o2 := HO1.out 2 _ rfl
    have o3 := HO1.out 3 _ rfl
    go_wp2_with (first
      | (go_at_call 12; refine (nilDo_any _ _ _ _ _ _).mono ?_; rintro e w2 ⟨rfl, hb2⟩; have HB2 := Lib.hid (HB1.out.trans (hb2.mono HB1.out.size)); clear hb2)
      | (go_at_call 20; refine (nilReg_any _ _ _).mono ?_; rintro e w9 ⟨rfl, hw9⟩; obtain rfl : w2 = w9 := hw9.symm)
      | (go_at_call 22; refine (nilCell_any _ _).mono ?_; rintro e w9 ⟨rfl, hw9⟩; obtain rfl : w2 = w9 := hw9.symm)
      | (go_at_call 23; refine (nilFields_any _ _).mono ?_; rintro e w9 ⟨rfl, hw9⟩; obtain rfl : w2 = w9 := hw9.symm)
      | (go_at_call 14; refine (nilCount_any _).mono ?_; rintro e w9 ⟨rfl, hw9⟩; obtain rfl : w2 = w9 := hw9.symm)
      | (go_at_call 16; refine (nilRoots_any _).mono ?_; rintro e w9 ⟨rfl, hw9⟩; obtain rfl : w2 = w9 := hw9.symm)
      | (go_at_call 18; refine (nilReach_any _).mono ?_; rintro e w3 ⟨rfl, hb3⟩; have HB3 := Lib.hid (HB2.out.trans (hb3.mono HB2.out.size)); clear hb3)
      | (go_at_call 24; refine (nilCopy_any _).mono ?_; rintro e w9 ⟨rfl, hw9⟩; obtain rfl : w3 = w9 := hw9.symm)
      | (go_at_call 10; refine (AW.out _ HB3.out).mono ?_; rintro e w4 ⟨rfl, hb4⟩; have HB4 := Lib.hid (HB3.out.trans (hb4.mono HB3.out.size)); clear hb4))
    go_ret
    exact ⟨rfl, HB4.out⟩
end Go.Proofs.YtadkmidipjlcjaaDoor.Gra
