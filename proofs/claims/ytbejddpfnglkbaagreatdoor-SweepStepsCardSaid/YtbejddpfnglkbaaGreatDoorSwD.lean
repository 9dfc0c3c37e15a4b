/-
  A cursor at a block's first slot; a block, swept.
-/
import Derived.Test.YtbejddpfnglkbaaGreatDoorSwC
namespace Go.Proofs.YtbejddpfnglkbaaGreatDoor.Sw
open Go.RowKit
open Blk (Cfg TbIs kAt seg seg_length perN)
open Hp (Ids St Wf Is To Mine bnI bn coE coV frE frS colB holdsF)
open Go.Proofs.YtbejddpfnglkbaaGreatDoor.Row (Chg Rd cell_of_block frozen_of_block other same rowB cellsZ cellsZ_snoc owns_lt owns_chg owns_slice owns_base owns_cap push_row info_parts infoInt one_at)
open Go.Proofs.YtbejddpfnglkbaaGreatDoor.Addr (Tabs)

theorem seg_le (s : St) (b : Nat) : (seg s.c s.ks b).length ≤ 128 := by rw [seg_length]; exact Blk.perN_le _ _
section
variable {H m : Nat} {d : Ids} {s : St}
theorem new_color (b c : Int) (w : World) (hc : colB c = false) : Calls Tryz.prog 15 #[.pointer (some ⟨H, 0, none⟩), .int .i64 b, .int .i64 c] w fun e w' => e = .returned (.tuple #[.pointer none, .int .i64 1]) ∧ w = w' := by
  go_enter Tryz.func15, Tryz.ntmps15
  go_wp2_with (go_at_call 44; refine (col_any _ _).mono ?_; rw [hc]; rintro e w' ⟨rfl, rfl⟩)
  go_ret2
  exact ⟨rfl, rfl⟩
theorem new_out (b c : Int) (w : World) (h : Is w H d s m) (hb : b < 0 ∨ (s.ks.length : Int) ≤ b) : Calls Tryz.prog 15 #[.pointer (some ⟨H, 0, none⟩), .int .i64 b, .int .i64 c] w fun e w' => e = .returned (.tuple #[.pointer none, .int .i64 1]) ∧ Below w.heap.size w w' := by
  cases hc : colB c with
  | false =>
    refine (new_color b c w hc).mono ?_
    rintro e w' ⟨rfl, rfl⟩
    exact ⟨rfl, Below.refl _ _⟩
  | true =>
    have HT := Lib.hid (Hp.table_any w h)
    have HB := Lib.hid hb
    clear h hb
    go_enter Tryz.func15, Tryz.ntmps15
    go_wp2_with (first
      | (go_at_call 44; refine (col_any _ _).mono ?_; rw [hc]; rintro e w' ⟨rfl, rfl⟩)
      | (go_at_call 45; refine HT.out.mono ?_; rintro e w1 ⟨B, pt, ct, rfl, htb, hb1⟩; have HT1 := Lib.hid htb; have HB1 := Lib.hid hb1; clear htb hb1)
      | (go_at_call 46; refine (Blk.slots_out (some ⟨B, 0, none⟩) b w1 (fun W hW => Blk.class_out b W (HT1.out.later hW) HB.out)).mono ?_; rintro e w2 ⟨p2, c2, rfl, hb2⟩; have HB2 := Lib.hid hb2; clear hb2))
    go_ret2
    exact ⟨rfl, HB1.out.trans (HB2.out.mono HB1.out.size)⟩
theorem new_good (b : Nat) (c : Int) (w : World) (h : Is w H d s m) (ht : Tabs w) (hb : b < s.ks.length) (hc : colB c = true) : Calls Tryz.prog 15 #[.pointer (some ⟨H, 0, none⟩), .int .i64 b, .int .i64 c] w fun e w' =>
    ∃ C p cap, e = .returned (.tuple #[.pointer (some ⟨C, 0, none⟩), .int .i64 0]) ∧ Hc w' H d C w' d s m b c p cap (seg s.c s.ks b) ∧ Below w.heap.size w w' ∧ w.heap.size ≤ C ∧ ∀ g, rowB p g → w.heap.size ≤ g := by
  have hR := h.wf.right
  have hfull := h.wf.full
  have hN1 : 1 ≤ perN s.c (kAt s.ks b) := Blk.perN_pos hR (h.tb.kLt b)
  have HT := Lib.hid (Hp.table_any w h)
  have HSL := Lib.hid (show ∀ (W1 : World) (B : Nat) (pt : Option Addr) (ct : Nat), TbIs W1 B w.heap.size s.c s.ks pt ct → Below w.heap.size w W1 → Calls Tryz.prog 46 #[.pointer (some ⟨B, 0, none⟩), .int .i64 (b : Int)] W1 fun e w' => ∃ p' cap', e = .returned (.slice p' (seg s.c s.ks b).length cap') ∧ w'.ownsRow W1.heap.size 3 1 (.slice p' (seg s.c s.ks b).length cap') (seg s.c s.ks b).length (cellsZ (seg s.c s.ks b)) ∧ Below W1.heap.size W1 w' from fun W1 B pt ct htb hb1 => by
    refine (Blk.slots_in (b := b) (N := perN s.c (kAt s.ks b)) W1 htb hR hb (by omega) (Blk.perN_eq s.c (kAt s.ks b)) hN1 (ht.later hb1)).mono ?_
    rintro e w' ⟨p', cap', rfl, ho, hb⟩
    rw [← Hp.cellsZ_seg, ← seg_length] at ho
    rw [← seg_length]
    exact ⟨p', cap', rfl, ho, hb⟩)
  have hn0 : (0 : Int) < (seg s.c s.ks b).length := by rw [seg_length]; omega
  have hn1 : (((seg s.c s.ks b).length : Int) == 0) = false := by rw [beq_eq_false_iff_ne]; omega
  have HH := Lib.hid h
  have HTB := Lib.hid ht
  clear h ht hR hN1
  go_enter Tryz.func15, Tryz.ntmps15
  go_wp2_with (first
    | (go_at_call 44; refine (col_any _ _).mono ?_; rw [hc]; rintro e w' ⟨rfl, rfl⟩)
    | (go_at_call 45; refine HT.out.mono ?_; rintro e w1 ⟨B, pt, ct, rfl, htb, hb1⟩; have HT1 := Lib.hid htb; have HB1 := Lib.hid hb1; clear htb hb1)
    | (go_at_call 46; refine (HSL.out w1 B pt ct HT1.out HB1.out).mono ?_; rintro e w2 ⟨p2, c2, rfl, ho2, hb2⟩; have HB2 := Lib.hid hb2; have HO2 := Lib.hid ho2; clear hb2 ho2))
  go_ret2
  have hb2 : Below w.heap.size w w2 := HB1.out.trans (HB2.out.mono HB1.out.size)
  have hI := HH.out.later hb2
  have hal := (Below.refl w2.heap.size w2).alloc (Nat.le_refl _) (.cells #[.pointer (some ⟨H, 0, none⟩), .int .i64 b, .int .i64 c, .slice p2 (seg s.c s.ks b).length c2] 82)
  have hr := Rd.of_owns HO2.out
  refine ⟨w2.heap.size, p2, c2, rfl, ⟨hI.later hal, (HTB.out.later hb2).later hal, ⟨by simp, by simp, by simp, by simp, by simp, hr.later hal, (owns_cap HO2.out).1, fun e => by have := (owns_lt HO2.out e).2; omega, fun g hg => by have := (owns_lt HO2.out hg).2; simp; omega⟩, fun e => by have := hI.lt e; omega, fun g hg e => ?_, ?_, Chg.refl _ _, fun _ e => .inl e⟩, hb2.alloc hb2.size _, hb2.size, fun g hg => ?_⟩
  · have := (owns_lt HO2.out hg).1
    have := HH.out.lt e
    have := HB1.out.size
    omega
  · have := hI.hi H (.inr (.inl (.inl rfl)))
    have := hI.ltH
    omega
  · have := (owns_lt HO2.out hg).1
    have := HB1.out.size
    omega
end
end Go.Proofs.YtbejddpfnglkbaaGreatDoor.Sw
