/-
  The law BitsNone answers true, for every size and every number, wherever the table of math/bits lies as it was laid.
-/
import Derived.Test.YtahhenbphnejiaaDoorBitsNil
namespace Go.Proofs.YtahhenbphnejiaaDoor.Bits
open Go.RowKit

theorem SetIs.below' {N : Nat} {w w' : World} {B G size cap : Nat} {ws : List Nat} (h : SetIs w B G size cap ws) (hb : Below N w w') (hB : B < N) (hG : G < N) : SetIs w' B G size cap ws :=
  ⟨h.small, h.row, h.capn, (hb.cell (p := ⟨B, 0, none⟩) hB).trans h.cs, (hb.cell (p := ⟨B, 1, none⟩) hB).trans h.cw, fun j hj => (hb.cell (p := ⟨G, j, none⟩) hG).trans (h.at_ j hj), fun j hj => (hb.frozen (p := ⟨G, j, none⟩) hG).trans (h.fz j hj)⟩

set_option maxRecDepth 100000 in
set_option maxHeartbeats 4000000 in
theorem none_walk (size n : Int) (w : World) (hT : TzTab w) (hTl : 1 < w.heap.size) :
    Calls Tryd.prog 5 #[.int .i64 size, .int .i64 n] w fun e w' => e = .returned (.bool true) ∧ Below w.heap.size w w' := by
  have HT := Lib.hid hT
  clear hT
  by_cases hz : size < 0
  · have HSZ : Hid (size < 0 ∨ 2097152 < size) := Or.inl hz
    go_enter Tryd.func5, Tryd.ntmps5
    go_wp2_with fail
    refine (new_bad size _ HSZ.out).mono ?_
    rintro e wa ⟨rfl, rfl⟩
    go_wp2_with fail
    refine (next_nil n _).mono ?_
    rintro e wa ⟨rfl, rfl⟩
    go_wp2_with fail
    refine (fill_nil true _).mono ?_
    rintro e wa ⟨rfl, rfl⟩
    go_wp2_with fail
    refine (new_lit 3 3 rfl _ (by decide)).mono ?_
    rintro e w1 ⟨B, G, rfl, hs1, hB1, hG1, hB2, hG2, hne1, hb1⟩
    have HS1 := Lib.hid hs1
    have HB1 := Lib.hid hb1
    clear hs1 hb1
    go_wp2_with fail
    refine (new_lit 4 4 rfl _ (by decide)).mono ?_
    rintro e w2 ⟨C, H, rfl, hs2, hC1, hH1, hC2, hH2, hne2, hb2⟩
    have HS2 := Lib.hid hs2
    have HB2 := Lib.hid hb2
    clear hs2 hb2
    have cB := (HS1.out.below' HB2.out hB2 hG2).cs
    have cC := HS2.out.cs
    go_wp2_with fail
    refine (size_nil _).mono ?_
    rintro e wa ⟨rfl, rfl⟩
    go_wp2_with fail
    refine (has_nil n _).mono ?_
    rintro e wa ⟨rfl, q, rfl⟩
    go_wp2_with fail
    refine (put_nil n true _).mono ?_
    rintro e wa ⟨rfl, rfl⟩
    go_wp2_with fail
    refine (count_nil _).mono ?_
    rintro e wa ⟨rfl, rfl⟩
    go_wp2_with fail
    refine (list_nil 9 _).mono ?_
    rintro e w3 ⟨rfl, hb3⟩
    have HB3 : Hid (Below w2.heap.size (w2.drewN q) w3) := hb3
    clear hb3
    go_wp2_with fail
    refine (copy_nil _).mono ?_
    rintro e wa ⟨rfl, rfl⟩
    go_wp2_with fail
    refine (same_nils _).mono ?_
    rintro e wa ⟨rfl, rfl⟩
    go_wp2_with fail
    refine (same_left _ _).mono ?_
    rintro e wa ⟨rfl, rfl⟩
    go_wp2_with fail
    refine (same_sizes B C 3 4 _ ((HB3.out.cell (p := ⟨B, 0, none⟩) (Nat.lt_of_lt_of_le hB2 HB2.out.size)).trans cB) ((HB3.out.cell (p := ⟨C, 0, none⟩) hC2).trans cC) (by decide)).mono ?_
    rintro e wa ⟨rfl, q2, rfl⟩
    have hbd : Below w.heap.size w (w3.drewN q2) := by
      have h1 : Below w.heap.size w w2 := HB1.out.trans (HB2.out.mono HB1.out.size)
      have h2 : Below w.heap.size w2 (w2.drewN q) := ⟨rfl, rfl, rfl, Nat.le_refl _, fun _ _ => rfl⟩
      have h3 : Below w.heap.size w w3 := (h1.trans h2).trans (HB3.out.mono h1.size)
      exact ⟨h3.os, h3.tape, h3.output, h3.size, h3.block⟩
    have HBD := Lib.hid hbd
    clear hbd
    go_wp2_with fail
    refine (awake_any _ (HT.out.below HBD.out hTl) (Nat.lt_of_lt_of_le hTl HBD.out.size)).mono ?_
    rintro e w5 ⟨rfl, hb5⟩
    have HB5 := Lib.hid hb5
    clear hb5
    go_wp2
    go_ret
    exact ⟨rfl, HBD.out.trans (HB5.out.mono HBD.out.size)⟩

  by_cases hz2 : 2097152 < size
  · have HSZ : Hid (size < 0 ∨ 2097152 < size) := Or.inr hz2
    go_enter Tryd.func5, Tryd.ntmps5
    go_wp2_with fail
    refine (new_bad size _ HSZ.out).mono ?_
    rintro e wa ⟨rfl, rfl⟩
    go_wp2_with fail
    refine (next_nil n _).mono ?_
    rintro e wa ⟨rfl, rfl⟩
    go_wp2_with fail
    refine (fill_nil true _).mono ?_
    rintro e wa ⟨rfl, rfl⟩
    go_wp2_with fail
    refine (new_lit 3 3 rfl _ (by decide)).mono ?_
    rintro e w1 ⟨B, G, rfl, hs1, hB1, hG1, hB2, hG2, hne1, hb1⟩
    have HS1 := Lib.hid hs1
    have HB1 := Lib.hid hb1
    clear hs1 hb1
    go_wp2_with fail
    refine (new_lit 4 4 rfl _ (by decide)).mono ?_
    rintro e w2 ⟨C, H, rfl, hs2, hC1, hH1, hC2, hH2, hne2, hb2⟩
    have HS2 := Lib.hid hs2
    have HB2 := Lib.hid hb2
    clear hs2 hb2
    have cB := (HS1.out.below' HB2.out hB2 hG2).cs
    have cC := HS2.out.cs
    go_wp2_with fail
    refine (size_nil _).mono ?_
    rintro e wa ⟨rfl, rfl⟩
    go_wp2_with fail
    refine (has_nil n _).mono ?_
    rintro e wa ⟨rfl, q, rfl⟩
    go_wp2_with fail
    refine (put_nil n true _).mono ?_
    rintro e wa ⟨rfl, rfl⟩
    go_wp2_with fail
    refine (count_nil _).mono ?_
    rintro e wa ⟨rfl, rfl⟩
    go_wp2_with fail
    refine (list_nil 9 _).mono ?_
    rintro e w3 ⟨rfl, hb3⟩
    have HB3 : Hid (Below w2.heap.size (w2.drewN q) w3) := hb3
    clear hb3
    go_wp2_with fail
    refine (copy_nil _).mono ?_
    rintro e wa ⟨rfl, rfl⟩
    go_wp2_with fail
    refine (same_nils _).mono ?_
    rintro e wa ⟨rfl, rfl⟩
    go_wp2_with fail
    refine (same_left _ _).mono ?_
    rintro e wa ⟨rfl, rfl⟩
    go_wp2_with fail
    refine (same_sizes B C 3 4 _ ((HB3.out.cell (p := ⟨B, 0, none⟩) (Nat.lt_of_lt_of_le hB2 HB2.out.size)).trans cB) ((HB3.out.cell (p := ⟨C, 0, none⟩) hC2).trans cC) (by decide)).mono ?_
    rintro e wa ⟨rfl, q2, rfl⟩
    have hbd : Below w.heap.size w (w3.drewN q2) := by
      have h1 : Below w.heap.size w w2 := HB1.out.trans (HB2.out.mono HB1.out.size)
      have h2 : Below w.heap.size w2 (w2.drewN q) := ⟨rfl, rfl, rfl, Nat.le_refl _, fun _ _ => rfl⟩
      have h3 : Below w.heap.size w w3 := (h1.trans h2).trans (HB3.out.mono h1.size)
      exact ⟨h3.os, h3.tape, h3.output, h3.size, h3.block⟩
    have HBD := Lib.hid hbd
    clear hbd
    go_wp2_with fail
    refine (awake_any _ (HT.out.below HBD.out hTl) (Nat.lt_of_lt_of_le hTl HBD.out.size)).mono ?_
    rintro e w5 ⟨rfl, hb5⟩
    have HB5 := Lib.hid hb5
    clear hb5
    go_wp2
    go_ret
    exact ⟨rfl, HBD.out.trans (HB5.out.mono HBD.out.size)⟩

  go_enter Tryd.func5, Tryd.ntmps5
  go_wp2_with fail
  refine (next_nil n _).mono ?_
  rintro e wa ⟨rfl, rfl⟩
  go_wp2_with fail
  refine (fill_nil true _).mono ?_
  rintro e wa ⟨rfl, rfl⟩
  go_wp2_with fail
  refine (new_lit 3 3 rfl _ (by decide)).mono ?_
  rintro e w1 ⟨B, G, rfl, hs1, hB1, hG1, hB2, hG2, hne1, hb1⟩
  have HS1 := Lib.hid hs1
  have HB1 := Lib.hid hb1
  clear hs1 hb1
  go_wp2_with fail
  refine (new_lit 4 4 rfl _ (by decide)).mono ?_
  rintro e w2 ⟨C, H, rfl, hs2, hC1, hH1, hC2, hH2, hne2, hb2⟩
  have HS2 := Lib.hid hs2
  have HB2 := Lib.hid hb2
  clear hs2 hb2
  have cB := (HS1.out.below' HB2.out hB2 hG2).cs
  have cC := HS2.out.cs
  go_wp2_with fail
  refine (size_nil _).mono ?_
  rintro e wa ⟨rfl, rfl⟩
  go_wp2_with fail
  refine (has_nil n _).mono ?_
  rintro e wa ⟨rfl, q, rfl⟩
  go_wp2_with fail
  refine (put_nil n true _).mono ?_
  rintro e wa ⟨rfl, rfl⟩
  go_wp2_with fail
  refine (count_nil _).mono ?_
  rintro e wa ⟨rfl, rfl⟩
  go_wp2_with fail
  refine (list_nil 9 _).mono ?_
  rintro e w3 ⟨rfl, hb3⟩
  have HB3 : Hid (Below w2.heap.size (w2.drewN q) w3) := hb3
  clear hb3
  go_wp2_with fail
  refine (copy_nil _).mono ?_
  rintro e wa ⟨rfl, rfl⟩
  go_wp2_with fail
  refine (same_nils _).mono ?_
  rintro e wa ⟨rfl, rfl⟩
  go_wp2_with fail
  refine (same_left _ _).mono ?_
  rintro e wa ⟨rfl, rfl⟩
  go_wp2_with fail
  refine (same_sizes B C 3 4 _ ((HB3.out.cell (p := ⟨B, 0, none⟩) (Nat.lt_of_lt_of_le hB2 HB2.out.size)).trans cB) ((HB3.out.cell (p := ⟨C, 0, none⟩) hC2).trans cC) (by decide)).mono ?_
  rintro e wa ⟨rfl, q2, rfl⟩
  have hbd : Below w.heap.size w (w3.drewN q2) := by
    have h1 : Below w.heap.size w w2 := HB1.out.trans (HB2.out.mono HB1.out.size)
    have h2 : Below w.heap.size w2 (w2.drewN q) := ⟨rfl, rfl, rfl, Nat.le_refl _, fun _ _ => rfl⟩
    have h3 : Below w.heap.size w w3 := (h1.trans h2).trans (HB3.out.mono h1.size)
    exact ⟨h3.os, h3.tape, h3.output, h3.size, h3.block⟩
  have HBD := Lib.hid hbd
  clear hbd
  go_wp2_with fail
  refine (awake_any _ (HT.out.below HBD.out hTl) (Nat.lt_of_lt_of_le hTl HBD.out.size)).mono ?_
  rintro e w5 ⟨rfl, hb5⟩
  have HB5 := Lib.hid hb5
  clear hb5
  go_wp2
  go_ret
  exact ⟨rfl, HBD.out.trans (HB5.out.mono HBD.out.size)⟩

end Go.Proofs.YtahhenbphnejiaaDoor.Bits
