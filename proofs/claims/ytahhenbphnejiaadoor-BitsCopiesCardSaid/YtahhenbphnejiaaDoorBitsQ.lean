/-
  (*bits.Set).Fill, of every set that there is.
-/
import Derived.Test.YtahhenbphnejiaaDoorBitsP
import Derived.StillTailTactics
namespace Go.Proofs.YtahhenbphnejiaaDoor.Bits
open Go.RowKit Go.Shelf
attribute [local go_sem] Oper.semAt_some

/-- What Fill writes. -/
def fillV (x : Bool) : Nat := if x = true then 18446744073709551615 else 0
/-- The last word's mask; what is left of the last word. -/
def maskV (size : Nat) : Nat := 2 ^ (size % 64) - 1
def cutV (size : Nat) (x : Bool) : Nat := fillV x &&& (2 ^ (size % 64) - 1)
theorem fillV_lt (x : Bool) : fillV x < 18446744073709551616 := by cases x <;> decide

theorem mask_val1 (size : Nat) : IntKind.u64.wrap ((2 : Int) ^ (size % 64) - 1) = ((maskV size : Nat) : Int) := by
  have h1 := Nat.pow_pos (n := size % 64) (show 0 < 2 by decide)
  have h2 := pow_lt64 size
  have e2 : ((2 ^ (size % 64) : Nat) : Int) = 2 ^ (size % 64) := by simp
  rw [← e2, IntKind.wrap_u64, maskV]
  clear e2
  generalize 2 ^ (size % 64) = x at *
  omega
theorem cut_val (size : Nat) (x : Bool) : bits BinOp.and IntKind.u64 ((fillV x : Nat) : Int) ((maskV size : Nat) : Int) = ((cutV size x : Nat) : Int) := u64_and_nat _ _ (fillV_lt _) (by have := pow_lt64 size; unfold maskV; omega)

/-- So many words are written. -/
structure Filled (w wr : World) (G : Nat) (ws : List Nat) (x : Bool) (k : Nat) : Prop where
  grown : w.grownBy wr (some G)
  size : wr.heap.size = w.heap.size
  at_ : ∀ j, j < ws.length → wr.cell? ⟨G, j, none⟩ = some (.int .u64 ((if j < k then fillV x else wd ws j : Nat) : Int))
  fz : ∀ j, j < ws.length → wr.frozen? ⟨G, j, none⟩ = false
theorem Filled.step {w wr : World} {G k : Nat} {ws : List Nat} {x : Bool} (h : Filled w wr G ws x k) : Filled w (wr.setCell ⟨G, k, none⟩ (.int .u64 ((fillV x : Nat) : Int))) G ws x (k + 1) := by
  refine ⟨only_setCell h.grown rfl _, by rw [size_setCell]; exact h.size, fun j hj => ?_, fun j hj => by rw [World.frozen?_setCell]; exact h.fz j hj⟩
  by_cases e : j = k
  · subst e
    rw [if_pos (Nat.lt_succ_self _)]
    exact same (h.at_ j hj)
  · rw [other (a := ⟨G, k, none⟩) (b := ⟨G, j, none⟩) (fun x => e (congrArg Addr.off x).symm), h.at_ j hj]
    have : (j < k + 1) = (j < k) := by rw [eq_iff_iff]; omega
    simp only [this]
theorem Filled.set {w wr : World} {B G size cap : Nat} {ws : List Nat} {x : Bool} (h : Filled w wr G ws x ws.length) (hs : SetIs w B G size cap ws) (hBG : B ≠ G) (hBl : B < w.heap.size) (h0 : size % 64 = 0) : SetIs wr B G size cap (fillW size x ((size + 63) / 64)) := by
  have hl : (fillW size x ((size + 63) / 64)).length = ws.length := by rw [fillW_length, hs.row.len]
  have hb := h.grown.block B hBl (fun e => hBG (by injection e))
  refine ⟨hs.small, setW_fillW _ _, by rw [hl]; exact hs.capn, (World.cell?_of_block (a := ⟨B, 0, none⟩) hb).trans hs.cs, by rw [hl]; exact (World.cell?_of_block (a := ⟨B, 1, none⟩) hb).trans hs.cw, fun j hj => ?_, fun j hj => ?_⟩
  · rw [hl] at hj
    have hne : ¬ (j + 1 = (size + 63) / 64 ∧ size % 64 ≠ 0) := fun e => e.2 h0
    rw [h.at_ j hj, if_pos hj, wd_fillW _ _ _ _ (by rw [← hs.row.len]; exact hj), if_neg hne, fillV]
  · rw [hl] at hj
    exact h.fz j hj
/-- .. and the last one cut. -/
theorem Filled.cut {w wr : World} {B G size cap : Nat} {ws : List Nat} {x : Bool} (h : Filled w wr G ws x ws.length) (hs : SetIs w B G size cap ws) (hBG : B ≠ G) (hBl : B < w.heap.size) (h0 : size % 64 ≠ 0) :
    SetIs (wr.setCell ⟨G, ws.length - 1, none⟩ (.int .u64 ((cutV size x : Nat) : Int))) B G size cap (fillW size x ((size + 63) / 64)) := by
  have hl : (fillW size x ((size + 63) / 64)).length = ws.length := by rw [fillW_length, hs.row.len]
  have hp : 1 ≤ ws.length := by rw [hs.row.len]; omega
  have hb := h.grown.block B hBl (fun e => hBG (by injection e))
  refine ⟨hs.small, setW_fillW _ _, by rw [hl]; exact hs.capn, ?_, ?_, fun j hj => ?_, fun j hj => ?_⟩
  · rw [other (a := ⟨G, ws.length - 1, none⟩) (b := ⟨B, 0, none⟩) (fun e => hBG (congrArg Addr.block e).symm)]
    exact (World.cell?_of_block (a := ⟨B, 0, none⟩) hb).trans hs.cs
  · rw [other (a := ⟨G, ws.length - 1, none⟩) (b := ⟨B, 1, none⟩) (fun e => hBG (congrArg Addr.block e).symm), hl]
    exact (World.cell?_of_block (a := ⟨B, 1, none⟩) hb).trans hs.cw
  · rw [hl] at hj
    rw [wd_fillW _ _ _ _ (by rw [← hs.row.len]; exact hj)]
    by_cases e : j = ws.length - 1
    · subst e
      have hj1 : ws.length - 1 + 1 = (size + 63) / 64 := by rw [← hs.row.len]; omega
      rw [same (h.at_ _ hj), cutV]
      have hp64 : 2 ^ (size % 64) < 18446744073709551616 := pow_lt64 size
      cases x with
      | false => simp [fillV]
      | true =>
        have e2 : (18446744073709551615 &&& (2 ^ (size % 64) - 1) : Nat) = 2 ^ (size % 64) - 1 := by
          rw [Nat.and_two_pow_sub_one_eq_mod, show (18446744073709551615 : Nat) = 2 ^ 64 - 1 from rfl]
          refine Nat.eq_of_testBit_eq fun i => ?_
          rw [Nat.testBit_mod_two_pow, Nat.testBit_two_pow_sub_one, Nat.testBit_two_pow_sub_one]
          have : size % 64 < 64 := Nat.mod_lt _ (by decide)
          by_cases hi : i < size % 64
          · have : i < 64 := by omega
            simp [hi, this]
          · simp [hi]
        rw [if_pos rfl, if_pos ⟨hj1, h0⟩]
        simp only [fillV, if_true, e2]
    · have hne : ¬ (j + 1 = (size + 63) / 64 ∧ size % 64 ≠ 0) := fun x => e (by have := hs.row.len; omega)
      rw [other (a := ⟨G, ws.length - 1, none⟩) (b := ⟨G, j, none⟩) (fun x => e (congrArg Addr.off x).symm), h.at_ j hj, if_pos hj, if_neg hne, fillV]
  · rw [hl] at hj
    rw [World.frozen?_setCell]
    exact h.fz j hj

set_option maxHeartbeats 2000000 in
theorem fill_any (B G size cap : Nat) (ws : List Nat) (x : Bool) (w : World) (hs : SetIs w B G size cap ws) (hBG : B ≠ G) (hBl : B < w.heap.size) :
    Calls Tryd.prog 27 #[.pointer (some ⟨B, 0, none⟩), .bool x] w fun e w' => e = .returned (.tuple #[]) ∧ SetIs w' B G size cap (fillW size x ((size + 63) / 64)) ∧ w.grownBy w' (some G) ∧ w'.heap.size = w.heap.size := by
  have hc := hs.cs
  have hcw := hs.cw
  have hcap := hs.capn
  have hlen : ws.length ≤ 2097152 := by have := hs.row.len; have := hs.small; omega
  have hl := hs.row.len
  have h0 : Filled w w G ws x 0 := ⟨World.grownBy.refl _ _, rfl, fun j hj => by rw [if_neg (Nat.not_lt_zero _)]; exact hs.at_ j hj, hs.fz⟩
  have HS := Lib.hid hs
  have H0 := Lib.hid h0
  have HL := Lib.hid hl
  clear hs h0 hl
  have hx : bits BinOp.xor IntKind.u64 IntKind.u64.max 0 = 18446744073709551615 := by decide
  cases x
  all_goals
    go_enter Tryd.func27, Tryd.ntmps27
    go_wp2_with fail
  · go_loopw [16] (fun i wr => ∃ k : Nat, k ≤ ws.length ∧ i = .int .i64 k ∧ Filled w wr G ws false k) (fun i _ => ws.length - (intOf i).toNat)
    case atStart => exact ⟨0, Nat.zero_le _, rfl, H0.out⟩
    case round =>
      obtain ⟨k, hk, rfl, hf⟩ := hrel
      have hb := hf.grown.block B hBl (fun e => hBG (by injection e))
      have hc2 := (World.cell?_of_block (a := ⟨B, 0, none⟩) hb).trans hc
      have hcw2 := (World.cell?_of_block (a := ⟨B, 1, none⟩) hb).trans hcw
      have HF := Lib.hid hf
      by_cases hlt : k < ws.length
      · have hat := hf.at_ k hlt
        have hfz := hf.fz k hlt
        have i1 : (0 : Int) ≤ (k : Int) := Int.natCast_nonneg _
        have i2 : (k : Int) < (ws.length : Int) := by omega
        clear hf hb
        go_wp2
        go_roundw
        case rel => exact ⟨k + 1, by omega, by go_num, HF.out.step⟩
        case measure => simp [intOf]; omega
      · obtain rfl : k = ws.length := by omega
        clear hf hb hlt hk
        by_cases h64 : size % 64 = 0
        · have hb1 : (((size : Int) % 64) != 0) = false := by simp; omega
          have HX := Lib.hid (HF.out.set HS.out hBG hBl h64)
          clear h64
          go_wp2
          go_end0
          exact ⟨rfl, HX.out, HF.out.grown, HF.out.size⟩
        · have hb1 : (((size : Int) % 64) != 0) = true := by simp; omega
          have HX := Lib.hid (HF.out.cut HS.out hBG hBl h64)
          have hp : 1 ≤ ws.length := by have := HL.out; omega
          clear h64
          have hat := HF.out.at_ (ws.length - 1) (by omega)
          rw [if_pos (show ws.length - 1 < ws.length by omega)] at hat
          have hfz := HF.out.fz (ws.length - 1) (by omega)
          have hsm := HS.out.small
          have i1 : (0 : Int) ≤ (ws.length : Int) - 1 := by omega
          have i2 : (ws.length : Int) - 1 < (ws.length : Int) := by omega
          have hq2 : ((ws.length : Int) - 1).toNat = ws.length - 1 := by omega
          have hq3 : IntKind.i64.wrap ((ws.length : Int) - 1) = (ws.length : Int) - 1 := IntWalk.i64_in _ (by omega)
          have i3 : (1 : Int) ≤ (ws.length : Int) := by omega
          have hmk := mask_val1 size
          have hnd := cut_val size false
          have hGB : G ≠ B := fun e => hBG e.symm
          go_wp2
          go_still_tail 20, (by kernel_rfl)
          still_call ((bit_any _ (Int.natCast_nonneg _) _).mono fun _ _ h => ⟨h.1, h.2.symm⟩)
          repeat still_step
          refine wpStill_nil ?_
          change wpList _ _ _ _ _ wr.drew
          go_wp2
          go_end0
          exact ⟨rfl, ⟨HX.out.small, HX.out.row, HX.out.capn, HX.out.cs, HX.out.cw, HX.out.at_, HX.out.fz⟩, only_setCell (only_drew HF.out.grown) rfl _, (size_setCell _ _ _).trans HF.out.size⟩
  · go_loopw [16] (fun i wr => ∃ k : Nat, k ≤ ws.length ∧ i = .int .i64 k ∧ Filled w wr G ws true k) (fun i _ => ws.length - (intOf i).toNat)
    case atStart => exact ⟨0, Nat.zero_le _, rfl, H0.out⟩
    case round =>
      obtain ⟨k, hk, rfl, hf⟩ := hrel
      have hb := hf.grown.block B hBl (fun e => hBG (by injection e))
      have hc2 := (World.cell?_of_block (a := ⟨B, 0, none⟩) hb).trans hc
      have hcw2 := (World.cell?_of_block (a := ⟨B, 1, none⟩) hb).trans hcw
      have HF := Lib.hid hf
      by_cases hlt : k < ws.length
      · have hat := hf.at_ k hlt
        have hfz := hf.fz k hlt
        have i1 : (0 : Int) ≤ (k : Int) := Int.natCast_nonneg _
        have i2 : (k : Int) < (ws.length : Int) := by omega
        clear hf hb
        go_wp2
        go_roundw
        case rel => exact ⟨k + 1, by omega, by go_num, HF.out.step⟩
        case measure => simp [intOf]; omega
      · obtain rfl : k = ws.length := by omega
        clear hf hb hlt hk
        by_cases h64 : size % 64 = 0
        · have hb1 : (((size : Int) % 64) != 0) = false := by simp; omega
          have HX := Lib.hid (HF.out.set HS.out hBG hBl h64)
          clear h64
          go_wp2
          go_end0
          exact ⟨rfl, HX.out, HF.out.grown, HF.out.size⟩
        · have hb1 : (((size : Int) % 64) != 0) = true := by simp; omega
          have HX := Lib.hid (HF.out.cut HS.out hBG hBl h64)
          have hp : 1 ≤ ws.length := by have := HL.out; omega
          clear h64
          have hat := HF.out.at_ (ws.length - 1) (by omega)
          rw [if_pos (show ws.length - 1 < ws.length by omega)] at hat
          have hfz := HF.out.fz (ws.length - 1) (by omega)
          have hsm := HS.out.small
          have i1 : (0 : Int) ≤ (ws.length : Int) - 1 := by omega
          have i2 : (ws.length : Int) - 1 < (ws.length : Int) := by omega
          have hq2 : ((ws.length : Int) - 1).toNat = ws.length - 1 := by omega
          have hq3 : IntKind.i64.wrap ((ws.length : Int) - 1) = (ws.length : Int) - 1 := IntWalk.i64_in _ (by omega)
          have i3 : (1 : Int) ≤ (ws.length : Int) := by omega
          have hmk := mask_val1 size
          have hnd := cut_val size true
          have hGB : G ≠ B := fun e => hBG e.symm
          go_wp2
          go_still_tail 20, (by kernel_rfl)
          still_call ((bit_any _ (Int.natCast_nonneg _) _).mono fun _ _ h => ⟨h.1, h.2.symm⟩)
          repeat still_step
          refine wpStill_nil ?_
          change wpList _ _ _ _ _ wr.drew
          go_wp2
          go_end0
          exact ⟨rfl, ⟨HX.out.small, HX.out.row, HX.out.capn, HX.out.cs, HX.out.cw, HX.out.at_, HX.out.fz⟩, only_setCell (only_drew HF.out.grown) rfl _, (size_setCell _ _ _).trans HF.out.size⟩
end Go.Proofs.YtahhenbphnejiaaDoor.Bits
