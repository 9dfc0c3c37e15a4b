/-
  (*bits.Set).Copy and Fill, of every set that there is.
-/
import Derived.Test.YtahhenbphnejiaaDoorBitsO
namespace Go.Proofs.YtahhenbphnejiaaDoor.Bits
open Go.RowKit Go.Shelf
attribute [local go_sem] Oper.semAt_some

/-- The words of a set that has all, or none. -/
def fillW (size : Nat) (x : Bool) (len : Nat) : List Nat := (List.range len).map fun j => if x = true then (if j + 1 = len ∧ size % 64 ≠ 0 then 2 ^ (size % 64) - 1 else 18446744073709551615) else 0
theorem fillW_length (size : Nat) (x : Bool) (len : Nat) : (fillW size x len).length = len := by simp [fillW]
theorem wd_fillW (size : Nat) (x : Bool) (len j : Nat) (h : j < len) : wd (fillW size x len) j = if x = true then (if j + 1 = len ∧ size % 64 ≠ 0 then 2 ^ (size % 64) - 1 else 18446744073709551615) else 0 := by
  simp [wd, fillW, List.getD_eq_getElem?_getD, h]
theorem has_fillW (size : Nat) (x : Bool) (n : Nat) : hasB (fillW size x ((size + 63) / 64)) n = (x && decide (n < size)) := by
  unfold hasB
  by_cases h : n / 64 < (size + 63) / 64
  · rw [wd_fillW _ _ _ _ h]
    cases x with
    | false => simp
    | true =>
      by_cases h2 : n / 64 + 1 = (size + 63) / 64 ∧ size % 64 ≠ 0
      · rw [if_pos rfl, if_pos h2, Nat.testBit_two_pow_sub_one, Bool.true_and]
        rw [decide_eq_decide]
        omega
      · rw [if_pos rfl, if_neg h2, show (18446744073709551615 : Nat) = 2 ^ 64 - 1 from rfl, Nat.testBit_two_pow_sub_one]
        have h3 : n % 64 < 64 := Nat.mod_lt _ (by decide)
        have h4 : n < size := by omega
        simp [h3, h4]
  · rw [wd_over (by rw [fillW_length]; omega), Nat.zero_testBit]
    have : ¬ n < size := by omega
    simp [this]
theorem setW_fillW (size : Nat) (x : Bool) : SetW size (fillW size x ((size + 63) / 64)) := by
  refine ⟨fillW_length _ _ _, fun j => ?_, fun n hn => ?_⟩
  · by_cases h : j < (size + 63) / 64
    · rw [wd_fillW _ _ _ _ h]
      have hp : 2 ^ (size % 64) < 18446744073709551616 := pow_lt64 size
      split
      · split <;> omega
      · decide
    · rw [wd_over (by rw [fillW_length]; omega)]; decide
  · rw [has_fillW]
    have : ¬ n < size := by omega
    simp [this]

theorem copy_fin {w w1 : World} {G' cap' size : Nat} {ws : List Nat} (hrow : SetW size ws) (hsm : size ≤ 2097152) (h1 : w.heap.size ≤ G') (h2 : G' < w1.heap.size) (hwat : WordsAt w1 G' cap' ws) (hb : Below w.heap.size w w1) :
    SetIs (w1.alloc (.cells #[.int .i64 size, .slice (some ⟨G', 0, none⟩) ws.length cap'] 62)) w1.heap.size G' size cap' ws ∧ w.heap.size ≤ w1.heap.size ∧ w.heap.size ≤ G' ∧
      w1.heap.size < (w1.alloc (.cells #[.int .i64 size, .slice (some ⟨G', 0, none⟩) ws.length cap'] 62)).heap.size ∧ G' < (w1.alloc (.cells #[.int .i64 size, .slice (some ⟨G', 0, none⟩) ws.length cap'] 62)).heap.size ∧ w1.heap.size ≠ G' ∧
      Below w.heap.size w (w1.alloc (.cells #[.int .i64 size, .slice (some ⟨G', 0, none⟩) ws.length cap'] 62)) := by
  have ba := (Below.refl w1.heap.size w1).alloc (Nat.le_refl _) (.cells #[.int .i64 size, .slice (some ⟨G', 0, none⟩) ws.length cap'] 62)
  refine ⟨⟨hsm, hrow, hwat.capn, by simp, by simp, fun j hj => (ba.cell (p := ⟨G', j, none⟩) h2).trans (hwat.at_ j hj), fun j hj => (ba.frozen (p := ⟨G', j, none⟩) h2).trans (hwat.fz j hj)⟩, hb.size, h1, by simp, by simp; omega, by omega, hb.trans (ba.mono hb.size)⟩

set_option maxHeartbeats 2000000 in
theorem copy_any (B G size cap : Nat) (ws : List Nat) (w : World) (hs : SetIs w B G size cap ws) (hBl : B < w.heap.size) :
    Calls Tryd.prog 25 #[.pointer (some ⟨B, 0, none⟩)] w fun e w' => ∃ C H cap', e = .returned (.pointer (some ⟨C, 0, none⟩)) ∧ SetIs w' C H size cap' ws ∧ w.heap.size ≤ C ∧ w.heap.size ≤ H ∧ C < w'.heap.size ∧ H < w'.heap.size ∧ C ≠ H ∧ Below w.heap.size w w' := by
  have hc := hs.cs
  have hcw := hs.cw
  have hlen : ws.length ≤ 2097152 := by have := hs.row.len; have := hs.small; omega
  have HS := Lib.hid hs
  clear hs
  go_enter Tryd.func25, Tryd.ntmps25
  have HC := Lib.hid (fun (W1 : World) (h : ∀ j, j < ws.length → W1.cell? ⟨G, j, none⟩ = some (.int .u64 (wd ws j))) => clone_any G cap ws W1 hlen h)
  go_wp2_with fail
  go_region_with (go_at_call 51; refine (HC.out w.drew (fun j hj => HS.out.at_ j hj)).mono ?_; rintro e w1 ⟨G', cap', rfl, hG1, hG2, hwat, hb1⟩; have hc1 := (hb1.cell (p := ⟨B, 0, none⟩) hBl).trans hc)
  all_goals have HF := Lib.hid (copy_fin (w := w) HS.out.row HS.out.small hG1 hG2 hwat ⟨hb1.os, hb1.tape, hb1.output, hb1.size, hb1.block⟩)
  all_goals clear hwat hb1 hG1 hG2 HC
  all_goals go_wp2
  all_goals go_ret
  all_goals exact ⟨_, _, _, rfl, HF.out⟩

end Go.Proofs.YtahhenbphnejiaaDoor.Bits
