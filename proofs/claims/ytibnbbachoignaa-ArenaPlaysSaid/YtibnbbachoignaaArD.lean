/-
  (*arena.Arena).Copy of an arena.
-/
import Derived.Test.YtibnbbachoignaaArC
namespace Go.Proofs.Ytibnbbachoignaa.Arena
open Go.RowKit
attribute [local go_sem] Oper.semAt_some

theorem copy_fin {w w1 : World} {G' cap' ld st : Nat} {ws : List Nat} (hsm : ws.length ≤ 1048576) (h1 : w.heap.size ≤ G') (h2 : G' < w1.heap.size) (hwat : WordsAt w1 G' cap' ws) (hb : Below w.heap.size w w1) :
    ArIs (w1.alloc (.cells #[.slice (some ⟨G', 0, none⟩) ws.length cap', .int .i64 ld, .int .i64 st] 45)) w1.heap.size G' cap' ws ld st ∧ w.heap.size ≤ w1.heap.size ∧ w.heap.size ≤ G' ∧
      w1.heap.size < (w1.alloc (.cells #[.slice (some ⟨G', 0, none⟩) ws.length cap', .int .i64 ld, .int .i64 st] 45)).heap.size ∧ G' < (w1.alloc (.cells #[.slice (some ⟨G', 0, none⟩) ws.length cap', .int .i64 ld, .int .i64 st] 45)).heap.size ∧
      Below w.heap.size w (w1.alloc (.cells #[.slice (some ⟨G', 0, none⟩) ws.length cap', .int .i64 ld, .int .i64 st] 45)) := by
  have ba := (Below.refl w1.heap.size w1).alloc (Nat.le_refl _) (.cells #[.slice (some ⟨G', 0, none⟩) ws.length cap', .int .i64 ld, .int .i64 st] 45)
  refine ⟨⟨hsm, hwat.capn, by omega, by simp, by simp, by simp, by simp, by simp, fun j hj => (ba.cell (p := ⟨G', j, none⟩) h2).trans (hwat.at_ j hj), fun j hj => (ba.frozen (p := ⟨G', j, none⟩) h2).trans (hwat.fz j hj)⟩, hb.size, h1, by simp, by simp; omega, hb.trans (ba.mono hb.size)⟩

set_option maxHeartbeats 2000000 in
theorem copy_any {B G cap ld st : Nat} {ws : List Nat} (w : World) (h : ArIs w B G cap ws ld st) :
    Calls Try.prog 12 #[.pointer (some ⟨B, 0, none⟩)] w fun e w' => ∃ C H cap', e = .returned (.pointer (some ⟨C, 0, none⟩)) ∧ ArIs w' C H cap' ws ld st ∧ w.heap.size ≤ C ∧ w.heap.size ≤ H ∧ C < w'.heap.size ∧ H < w'.heap.size ∧ Below w.heap.size w w' := by
  have hBl := h.ltB
  have hcw := h.cw
  have hcl := h.cl
  have hcs := h.cs
  have HS := Lib.hid h
  clear h
  go_enter Try.func12, Try.ntmps12
  have HC := Lib.hid (fun (W1 : World) (h : ∀ j, j < ws.length → W1.cell? ⟨G, j, none⟩ = some (.int .u64 (wd ws j))) => clone_any G cap ws W1 HS.out.small h)
  go_wp2_with fail
  go_region_with (go_at_call 19; refine (HC.out w.drew (fun j hj => HS.out.at_ j hj)).mono ?_; rintro e w1 ⟨G', cap', rfl, hG1, hG2, hwat, hb1⟩; have hc1 := (hb1.cell (p := ⟨B, 0, none⟩) hBl).trans hcw; have hc2 := (hb1.cell (p := ⟨B, 1, none⟩) hBl).trans hcl; have hc3 := (hb1.cell (p := ⟨B, 2, none⟩) hBl).trans hcs)
  all_goals have HF := Lib.hid (copy_fin (w := w) (ld := ld) (st := st) HS.out.small hG1 hG2 hwat ⟨hb1.os, hb1.tape, hb1.output, hb1.size, hb1.block⟩)
  all_goals clear hwat hb1 hG1 hG2 HC
  all_goals go_wp2
  all_goals go_ret
  all_goals exact ⟨_, _, _, rfl, HF.out⟩
end Go.Proofs.Ytibnbbachoignaa.Arena
