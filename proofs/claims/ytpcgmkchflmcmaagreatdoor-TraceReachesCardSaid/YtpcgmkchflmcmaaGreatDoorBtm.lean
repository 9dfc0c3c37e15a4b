/-
  Texts of layer 1: trailing zeros, from, Next.
-/
import Derived.Test.YtpcgmkchflmcmaaGreatDoorBit
import Derived.Laws.Bits64b
import Derived.Lib.TrailingZeros
import Derived.RangeFuncNested
import Derived.RangeFuncBound
import Derived.RangeFuncCalls
import Derived.RangeFuncLeaves
import Derived.Shelf.Abstract
import Derived.Shelf.RegionOpen
import Derived.OwnWalkIn
import Derived.TacticsInMore
import Derived.LoopNIn
import Derived.LoopIn
namespace Go.Proofs.YtpcgmkchflmcmaaGreatDoor.Bits
open Go.RowKit

/-- The table in its variable. -/
def TzTab (w : World) : Prop := ∀ j, j < Lib.deBruijn64tab.length → w.cell? ⟨0, j, none⟩ = some (.int .u8 (Lib.deBruijn64tab.getD j 0))

theorem tz_zero (w : World) : Calls Tryz.prog 66 #[.int .u64 0] w fun e w' => e = .returned (.int .i64 64) ∧ w = w' := by
  go_enter Tryz.func66, Tryz.ntmps66
  go_wp2
  go_ret
  exact ⟨rfl, rfl⟩

set_option maxHeartbeats 1000000 in
theorem tz_core (x k idx : Nat) (w : World) (hx0 : ((x : Int) == 0) = false)
    (key : IntKind.u64.wrap (bits BinOp.and IntKind.u64 (x : Int) (IntKind.u64.wrap (-(x : Int))) * 285870213051353865) / 288230376151711744 = (idx : Int))
    (hi : idx < 64) (hk : k < 64) (hcell : w.cell? ⟨0, idx, none⟩ = some (.int .u8 k)) :
    Calls Tryz.prog 66 #[.int .u64 x] w fun e w' => e = .returned (.int .i64 k) ∧ w = w' := by
  go_enter Tryz.func66, Tryz.ntmps66
  go_wp2_with (simp only [key])
  go_ret
  exact ⟨rfl, rfl⟩

theorem tz_key (x a : Nat) (hx : x < 18446744073709551616) (hx0 : x ≠ 0) (hlow : x &&& (18446744073709551616 - x) = a) :
    IntKind.u64.wrap (bits BinOp.and IntKind.u64 (x : Int) (IntKind.u64.wrap (-(x : Int))) * 285870213051353865) / 288230376151711744 = ((a * 285870213051353865 % 18446744073709551616 / 288230376151711744 : Nat) : Int) := by
  have e1 : IntKind.u64.wrap (-(x : Int)) = ((18446744073709551616 - x : Nat) : Int) := by rw [IntKind.wrap_u64]; omega
  rw [e1, bits_and_u64_nat x _ hx (by omega), hlow, IntKind.wrap_u64]
  omega

theorem tz_any (x : Nat) (hx : x < 18446744073709551616) (hx0 : x ≠ 0) (w : World) (hT : TzTab w) :
    Calls Tryz.prog 66 #[.int .u64 x] w fun e w' => e = .returned (.int .i64 (Lib.ctz 64 x)) ∧ w = w' := by
  obtain ⟨hlow, hk⟩ := Lib.lowest_bit 64 x hx0 hx
  obtain ⟨hi, htab⟩ := Lib.deBruijn64_at _ hk
  have hcell := hT _ hi
  rw [htab] at hcell
  exact tz_core x _ _ w (by simp; omega) (tz_key x _ hx hx0 hlow) hi hk hcell
end Go.Proofs.YtpcgmkchflmcmaaGreatDoor.Bits

namespace Go.Proofs.YtpcgmkchflmcmaaGreatDoor.Bits
open Go.RowKit Go.Shelf

attribute [local go_sem] Oper.semAt_some

/-- The first k places from p on. -/
def upto (p k : Nat) : List Nat := (List.range k).map (p + ·)
theorem upto_succ (p k : Nat) : upto p (k + 1) = upto p k ++ [p + k] := by simp [upto, List.range_succ]
theorem upto_length (p k : Nat) : (upto p k).length = k := by simp [upto]

/-- What the body of a round keeps: whatever lay below n₀, and the cell of the words' box. -/
def KpF (n₀ Bs : Nat) (W W' : World) : Prop := Below n₀ W W' ∧ ∀ v, W.cell? ⟨Bs, 0, none⟩ = some v → W'.cell? ⟨Bs, 0, none⟩ = some v
theorem kpF_t {n₀ Bs : Nat} {A B C : World} (h : KpF n₀ Bs A B) (k : KpF n₀ Bs B C) : KpF n₀ Bs A C := ⟨h.1.trans k.1, fun v hv => k.2 v (h.2 v hv)⟩
theorem kpF_b {n₀ Bs : Nat} {w : World} (hn : n₀ ≤ w.heap.size) (W : World) (l : Nat) (o o' : Obj) (hl : w.heap.size ≤ l) (h : W.heap[l]? = some o) (hc : o.isCells = false) (hw : o.isWalk = false) : KpF n₀ Bs W (W.putObj l o') :=
  ⟨belowK_b hn W l o o' hl h hc hw, fun _ hv => cell_kept hv (grownBy_putObj' W l o') (fun r e => by cases e; exact ⟨o, h, hc⟩)⟩

/-- What a row of words is told as: the number that its first bit stands for, and the word. -/
def encW (ws : List Nat) (i : Nat) : Array Value := #[.int .i64 ((i : Int) * 64), .int .u64 (wd ws i)]

set_option maxRecDepth 100000 in
set_option maxHeartbeats 2000000 in
theorem from1_in (n : Nat) (hn : 1 ≤ n) (l Bp Bs n₀ G p cap : Nat) (ws : List Nat) (hlen : ws.length ≤ 2097152) (hG : G < n₀) (J Jx : List Nat → World → Prop)
    (hY : ∀ pre x W, J pre W → pre.length < ws.length - p → YieldAt Fence.wide (n - 1) Tryz.prog l (encW ws x) W fun e W' =>
      (e = .returned (.bool true) ∧ J (pre ++ [x]) W' ∧ KpF n₀ Bs W W') ∨ (e = .returned (.bool false) ∧ Jx (pre ++ [x]) W'))
    (W : World) (hBp : W.cell? ⟨Bp, 0, none⟩ = some (.int .i64 p)) (hBs : W.cell? ⟨Bs, 0, none⟩ = some (.slice (some ⟨G, 0, none⟩) ws.length cap)) (hc : ∀ j, j < ws.length → W.cell? ⟨G, j, none⟩ = some (.int .u64 (wd ws j))) (h0 : J [] W) :
    CallsIn Fence.wide n Tryz.prog 106 #[.func (.yield l) #[] #[], .pointer (some ⟨Bp, 0, none⟩), .pointer (some ⟨Bs, 0, none⟩)] W fun e W' => (∃ v, e = .returned v) ∧
      ((∃ ys, ys = upto p (ws.length - p) ∧ J ys W') ∨ (∃ pre, (∃ k, k ≤ ws.length - p ∧ pre = upto p k) ∧ Jx pre W')) := by
  refine callsIn_of_wp Tryz.func106 rfl trivial ?_ rfl
  simp only [Tryz.ntmps106, List.size_toArray, List.length_cons, List.length_nil, Nat.reduceAdd, Nat.reduceSub, Array.replicate_succ, Array.replicate_zero, List.push_toArray, List.append_toArray, List.nil_append, List.cons_append]
  gi_wp2
  gi_loopw [4] (fun i wr => ∃ k : Nat, k ≤ ws.length - p ∧ i = .int .i64 ((p + k : Nat) : Int) ∧ J (upto p k) wr ∧ KpF n₀ Bs W wr)
    (fun i _ => ws.length - (intOf i).toNat)
  case atStart => exact ⟨0, Nat.zero_le _, by simp, h0, Below.refl _ _, fun _ h => h⟩
  case round =>
    obtain ⟨k, hk, rfl, hJs, hnx⟩ := hrel
    have hBs' := hnx.2 _ hBs
    by_cases hlt : p + k < ws.length
    · obtain ⟨fn, tmps, assign, body, hy, hR⟩ := hY _ (p + k) wr hJs (by rw [upto_length]; omega)
      unfold encW at hy
      rw [Int.natCast_add] at hy
      have hcx : wr.cell? ⟨G, p + k, none⟩ = some (.int .u64 (wd ws (p + k))) := (hnx.1.cell (p := ⟨G, p + k, none⟩) hG).trans (hc _ hlt)
      gi_wp2
      refine hR.mono ?_
      rintro e W3 (⟨rfl, hJ3, hk3⟩ | ⟨rfl, hJx3⟩)
      · gi_wp2
        go_roundw
        case rel => exact ⟨k + 1, by omega, by simp; omega, by rw [upto_succ]; exact hJ3, kpF_t hnx hk3⟩
        case measure => simp [intOf]; omega
      · gi_wp2
        refine bodyPost_ret (results_none rfl _ _ _) rfl ?_
        exact ⟨⟨_, rfl⟩, .inr ⟨_, ⟨k + 1, by omega, (upto_succ _ _).symm⟩, hJx3⟩⟩
    · gi_wp2
      go_end0
      exact ⟨⟨_, rfl⟩, .inl ⟨_, rfl, by rw [show ws.length - p = k from by omega]; exact hJs⟩⟩

/-- The words from a place on, as whatever loop takes them. -/
theorem from_stops (n : Nat) (hn : 1 ≤ n) (Bp Bs n₀ G p cap : Nat) (ws : List Nat) (hlen : ws.length ≤ 2097152) (hG : G < n₀) (w : World) (hn₀ : n₀ ≤ w.heap.size) (hBp : w.cell? ⟨Bp, 0, none⟩ = some (.int .i64 p)) (hBs : w.cell? ⟨Bs, 0, none⟩ = some (.slice (some ⟨G, 0, none⟩) ws.length cap))
    (hBpl : Bp < w.heap.size) (hBsl : Bs < w.heap.size) (hc : ∀ j, j < ws.length → w.cell? ⟨G, j, none⟩ = some (.int .u64 (wd ws j))) :
    SeqStopsK Fence.wide n Tryz.prog 106 #[.pointer (some ⟨Bp, 0, none⟩), .pointer (some ⟨Bs, 0, none⟩)] (encW ws) (KpF n₀ Bs) (fun ys => ys = upto p (ws.length - p))
      (fun pre => ∃ k, k ≤ ws.length - p ∧ pre = upto p k) (ws.length - p) w := fun l J Jx W hW _ _ hY h0 =>
  from1_in n hn l Bp Bs n₀ G p cap ws hlen hG J Jx hY W ((hW.cell (p := ⟨Bp, 0, none⟩) hBpl).trans hBp) ((hW.cell (p := ⟨Bs, 0, none⟩) hBsl).trans hBs)
    (fun j hj => (hW.cell (p := ⟨G, j, none⟩) (Nat.lt_of_lt_of_le hG hn₀)).trans (hc j hj)) h0

/-- bits.from: two boxes are laid; the function value captures them. -/
theorem from_any (a : Option Addr) (len cap : Nat) (p : Int) (w : World) :
    Calls Tryz.prog 64 #[.slice a len cap, .int .i64 p] w fun e w' => e = .returned (.func (.func 106) #[] #[.pointer (some ⟨w.heap.size + 1, 0, none⟩), .pointer (some ⟨w.heap.size, 0, none⟩)])
      ∧ (w.alloc (.cells #[.slice a len cap] 117)).alloc (.cells #[.int .i64 p] 3) = w' := by
  go_enter Tryz.func64, Tryz.ntmps64
  go_wp2
  go_ret
  exact ⟨rfl, rfl⟩
end Go.Proofs.YtpcgmkchflmcmaaGreatDoor.Bits

namespace Go.Proofs.YtpcgmkchflmcmaaGreatDoor
/-- What is less than n, in the word that n is in: the first round's mask; none later. -/
def belowN (n k : Nat) : Nat := if k = 0 then 2 ^ (n % 64) - 1 else 0
/-- What a round looks at. -/
def maskN (ws : List Nat) (n k x : Nat) : Nat := wd ws x &&& (18446744073709551615 - belowN n k)

theorem testBit_ones (r i : Nat) (hr : r < 64) : (18446744073709551615 - (2 ^ r - 1)).testBit i = (decide (i < 64) && decide (r ≤ i)) := by
  have hp : 0 < 2 ^ r := Nat.pow_pos (by decide)
  have hlt : 2 ^ r - 1 < 2 ^ 64 := by
    have : 2 ^ r < 2 ^ 64 := Nat.pow_lt_pow_right (by decide) hr
    omega
  have h := Nat.testBit_two_pow_sub_succ hlt i
  rw [show 2 ^ 64 - (2 ^ r - 1 + 1) = 18446744073709551615 - (2 ^ r - 1) by omega] at h
  rw [h, Nat.testBit_two_pow_sub_one]
  by_cases h2 : i < r
  · simp [h2]
  · simp [h2]; omega
theorem testBit_full (i : Nat) : (18446744073709551615 - 0).testBit i = decide (i < 64) := by
  have h := testBit_ones 0 i (by decide)
  simpa using h
theorem testBit_mask (ws : List Nat) (n k x i : Nat) (hi : i < 64) : (maskN ws n k x).testBit i = ((wd ws x).testBit i && (decide (k ≠ 0) || decide (n % 64 ≤ i))) := by
  unfold maskN belowN
  rw [Nat.testBit_and]
  by_cases h : k = 0
  · rw [if_pos h, testBit_ones _ _ (Nat.mod_lt _ (by decide))]
    simp [h, hi]
  · rw [if_neg h, testBit_full]
    simp [h, hi]
theorem maskN_le (ws : List Nat) (n k x : Nat) : maskN ws n k x ≤ wd ws x := Nat.and_le_left
theorem maskN_pos {ws : List Nat} {n k x : Nat} (h : maskN ws n k x ≠ 0) : x < ws.length := by
  rcases Nat.lt_or_ge x ws.length with h1 | h1
  · exact h1
  · have := maskN_le ws n k x
    rw [wd_over h1] at this
    omega
theorem belowN_lt (n k : Nat) : belowN n k < 18446744073709551616 := by
  unfold belowN
  have := pow_lt64 n
  split <;> omega

theorem ctz_spec (x : Nat) (h0 : x ≠ 0) (h : x < 18446744073709551616) : x.testBit (Go.Lib.ctz 64 x) = true ∧ (∀ i, i < Go.Lib.ctz 64 x → x.testBit i = false) ∧ Go.Lib.ctz 64 x < 64 := by
  obtain ⟨m, hm, hc⟩ := Go.Lib.ctzFrom_spec 64 x (Nat.pos_of_ne_zero h0) h
  have e : Go.Lib.ctz 64 x = Go.Lib.ctzFrom 64 x := by unfold Go.Lib.ctz; rw [if_neg h0]
  rw [e]
  generalize Go.Lib.ctzFrom 64 x = c at *
  subst hm
  refine ⟨?_, fun i hi => ?_, hc⟩
  · rw [Nat.testBit_two_pow_mul]
    simp
  · rw [Nat.testBit_two_pow_mul]
    simp; omega

/-- What a search tells: the least number from n on; or that there is none. -/
def NextIs (ws : List Nat) (n : Nat) (v : Int) (ok : Bool) : Prop :=
  (v = 0 ∧ ok = false ∧ ∀ m, n ≤ m → hasB ws m = false) ∨ ∃ m : Nat, v = (m : Int) ∧ ok = true ∧ n ≤ m ∧ hasB ws m = true ∧ ∀ j, n ≤ j → j < m → hasB ws j = false

/-- The rounds so far have found nothing. -/
def clearP (ws : List Nat) (n : Nat) (pre : List Nat) : Prop := ∀ i x, pre[i]? = some x → maskN ws n i x = 0

theorem clear_snoc {ws : List Nat} {n x : Nat} {pre : List Nat} (h : clearP ws n pre) (hx : maskN ws n pre.length x = 0) : clearP ws n (pre ++ [x]) := by
  intro i y hy
  rcases Nat.lt_trichotomy i pre.length with h1 | h1 | h1
  · rw [List.getElem?_append_left h1] at hy
    exact h i y hy
  · subst h1
    simp at hy
    subst hy
    exact hx
  · rw [List.getElem?_eq_none (by simp; omega)] at hy
    cases hy
theorem clear_has {ws : List Nat} {n k : Nat} (h : clearP ws n ((List.range k).map (n / 64 + ·))) {m : Nat} (hm : n ≤ m) (hk : m / 64 < n / 64 + k) : hasB ws m = false := by
  obtain ⟨i, hi⟩ : ∃ i, m / 64 = n / 64 + i := ⟨m / 64 - n / 64, by omega⟩
  have h1 := h i (n / 64 + i) (by rw [List.getElem?_map, List.getElem?_range (by omega)]; rfl)
  have h2 := testBit_mask ws n i (n / 64 + i) (m % 64) (Nat.mod_lt _ (by decide))
  rw [h1, Nat.zero_testBit] at h2
  unfold hasB
  rw [hi]
  have h3 : (decide (i ≠ 0) || decide (n % 64 ≤ m % 64)) = true := by
    by_cases e : i = 0
    · have : n % 64 ≤ m % 64 := by omega
      simp [this]
    · simp [e]
  rw [h3, Bool.and_true] at h2
  exact h2.symm
theorem next_none {size : Nat} {ws : List Nat} {n : Nat} (hs : SetW size ws) (h : clearP ws n ((List.range (ws.length - n / 64)).map (n / 64 + ·))) : NextIs ws n 0 false := by
  refine .inl ⟨rfl, rfl, fun m hm => ?_⟩
  by_cases hk : m / 64 < n / 64 + (ws.length - n / 64)
  · exact clear_has h hm hk
  · refine hs.top m ?_
    have := hs.len
    omega
theorem next_some {size : Nat} {ws : List Nat} {n k : Nat} (hs : SetW size ws) (h : clearP ws n ((List.range k).map (n / 64 + ·))) (hx : maskN ws n k (n / 64 + k) ≠ 0) :
    NextIs ws n (((n / 64 + k) * 64 + Go.Lib.ctz 64 (maskN ws n k (n / 64 + k)) : Nat) : Int) true := by
  have hlt : maskN ws n k (n / 64 + k) < 18446744073709551616 := Nat.lt_of_le_of_lt (maskN_le _ _ _ _) (hs.lt _)
  obtain ⟨h1, h2, h3⟩ := ctz_spec _ hx hlt
  generalize hc : Go.Lib.ctz 64 (maskN ws n k (n / 64 + k)) = c at *
  rw [testBit_mask ws n k _ c h3, Bool.and_eq_true] at h1
  have e1 : ((n / 64 + k) * 64 + c) / 64 = n / 64 + k := by omega
  have e2 : ((n / 64 + k) * 64 + c) % 64 = c := by omega
  refine .inr ⟨_, rfl, rfl, ?_, ?_, fun j hj hjm => ?_⟩
  · by_cases e : k = 0
    · have := h1.2
      simp [e] at this
      omega
    · omega
  · unfold hasB
    rw [e1, e2]
    exact h1.1
  · by_cases hk : j / 64 < n / 64 + k
    · exact clear_has h hj hk
    · have e3 : j / 64 = n / 64 + k := by omega
      have e4 : j % 64 < c := by omega
      have h4 := h2 _ e4
      rw [testBit_mask ws n k _ _ (by omega)] at h4
      unfold hasB
      rw [e3]
      have h5 : (decide (k ≠ 0) || decide (n % 64 ≤ j % 64)) = true := by
        by_cases e : k = 0
        · have : n % 64 ≤ j % 64 := by omega
          simp [this]
        · simp [e]
      rw [h5, Bool.and_true] at h4
      exact h4
end Go.Proofs.YtpcgmkchflmcmaaGreatDoor

namespace Go.Proofs.YtpcgmkchflmcmaaGreatDoor.Bits
open Go.RowKit Go.Shelf
attribute [local go_sem] Oper.semAt_some

theorem wpIn_scope {n : Nat} {P : Program} {c : Code} {Q : Exit → Act → World → Prop} {a : Act} {w : World} (h : c.wpIn Fence.wide n P (Exit.noGoto Q) a w) : (Code.scope c).wpIn Fence.wide n P Q a w :=
  wpIn_wide.2 (wp_scope_straight (wpIn_wide.1 h))

theorem boxed_keep {W W' : World} {row : Option Nat} {B : Nat} {t : TypeId} {v : Value} (h : Boxed W B t v) (hg : W.grownBy W' row) (hr : ∀ r, row = some r → ∃ o : Obj, W.heap[r]? = some o ∧ o.isCells = false) : Boxed W' B t v :=
  h.kept hg (fun e => by obtain ⟨o, ho, hc⟩ := hr B e.symm; rw [show W.heap[B]? = _ from h] at ho; cases ho; cases hc)
theorem TzTab.below {n : Nat} {w w' : World} (h : TzTab w) (hb : Below n w w') (hn : 0 < n) : TzTab w' := fun j hj => (hb.cell (p := ⟨_, j, none⟩) hn).trans (h j hj)

theorem below_val (n : Nat) : IntKind.u64.wrap ((2 : Int) ^ (n % 64) - 1) = ((belowN n 0 : Nat) : Int) := by
  have h1 := Nat.pow_pos (n := n % 64) (show 0 < 2 by decide)
  have h2 := pow_lt64 n
  have e2 : ((2 ^ (n % 64) : Nat) : Int) = 2 ^ (n % 64) := by simp
  unfold belowN
  rw [if_pos rfl, ← e2, IntKind.wrap_u64]
  clear e2
  generalize 2 ^ (n % 64) = x at *
  omega

theorem mask_val (ws : List Nat) (n k x : Nat) (h : wd ws x < 18446744073709551616) : bits BinOp.andNot IntKind.u64 ((wd ws x : Nat) : Int) ((belowN n k : Nat) : Int) = ((maskN ws n k x : Nat) : Int) := by
  rw [u64_andNot_nat _ _ h (belowN_lt n k)]
  rfl

set_option maxRecDepth 100000 in
set_option maxHeartbeats 4000000 in
theorem next_in (B G size cap : Nat) (ws : List Nat) (z : Int) (n : Nat) (w : World) (hs : SetIs w B G size cap ws) (hmx : (if z < 0 then 0 else z) = (n : Int)) (hn : n < size) (hT : TzTab w) (hBl : B < w.heap.size) (hGl : G < w.heap.size) (hTl : 0 < w.heap.size) :
    Calls Tryz.prog 117 #[.pointer (some ⟨B, 0, none⟩), .int .i64 z] w fun e w' => ∃ v ok, e = .returned (.tuple #[.int .i64 v, .bool ok]) ∧ NextIs ws n v ok ∧ Below w.heap.size w w' := by
  have hm : mayB n size = true := by simp [mayB, hn]
  have hc := hs.cs
  have hcw := hs.cw
  have hsm := hs.small
  have hl := Lib.hid hs.row.len
  have HS := Lib.hid hs
  have hlen : ws.length ≤ 2097152 := by have := hs.row.len; omega
  have hat := hs.at_
  have HT := Lib.hid hT
  have hn0 : (0 : Int) ≤ (n : Int) := Int.natCast_nonneg _
  have hq := below_val n
  have B1 : B < w.heap.size + 1 := by omega
  have B2 : B < w.heap.size + 1 + 1 := by omega
  have B3 : B < w.heap.size + 1 + 1 + 1 := by omega
  refine (callsIn_wide (n := 5)).1 ?_
  refine callsIn_of_wp_marks Tryz.func117 rfl trivial ?_ rfl
  simp only [Tryz.ntmps117, List.size_toArray, List.length_cons, List.length_nil, Nat.reduceAdd, Nat.reduceSub, Array.replicate_succ, Array.replicate_zero, List.push_toArray, List.append_toArray, List.nil_append, List.cons_append]
  gi_wp2
  refine wpIn_scope ?_
  gi_wp2_with (first
    | (refine ⟨trivial, ?_⟩; gi_at_call 68; refine (callsIn_wide.2 (may_in B n size _ hc hm)).mono ?_; rintro e w' ⟨rfl, rfl⟩)
    | (refine ⟨trivial, ?_⟩; gi_at_call 69; refine (callsIn_wide.2 (bit_any _ hn0 _)).mono ?_; rintro e w' ⟨rfl, rfl⟩)
    | (refine ⟨trivial, ?_⟩; gi_at_call 64; refine (callsIn_wide.2 (from_any _ _ _ _ _)).mono ?_; rintro e w' ⟨rfl, rfl⟩)
    | (refine wpIn_label ?_))
  clear hq hc hcw hat hs hT hmx
  generalize hW : World.alloc _ _ = W0
  have c6 : Boxed W0 w.heap.size 78 (.int .u64 (belowN n 0)) := by rw [← hW]; exact ((((Boxed.new w _ _).alloc _).alloc _).alloc _).alloc _
  have c7 : Boxed W0 (w.heap.size + 1) 3 (.int .i64 0) := by
    have h := Boxed.new (w.alloc (.cells #[.int .u64 (belowN n 0)] 78)) 3 (.int .i64 0)
    simp only [World.size_alloc] at h
    rw [← hW]; exact ((h.alloc _).alloc _).alloc _
  have c8 : Boxed W0 (w.heap.size + 1 + 1) 4 (.bool false) := by
    have h := Boxed.new ((w.alloc (.cells #[.int .u64 (belowN n 0)] 78)).alloc (.cells #[.int .i64 0] 3)) 4 (.bool false)
    simp only [World.size_alloc] at h
    rw [← hW]; exact (h.alloc _).alloc _
  have c9 : Boxed W0 (w.heap.size + 1 + 1 + 1) 117 (.slice (some ⟨G, 0, none⟩) ws.length cap) := by
    have h := Boxed.new (((w.alloc (.cells #[.int .u64 (belowN n 0)] 78)).alloc (.cells #[.int .i64 0] 3)).alloc (.cells #[.bool false] 4)) 117 (.slice (some ⟨G, 0, none⟩) ws.length cap)
    simp only [World.size_alloc] at h
    rw [← hW]; exact h.alloc _
  have c10 : Boxed W0 (w.heap.size + 1 + 1 + 1 + 1) 3 (.int .i64 ((n / 64 : Nat) : Int)) := by
    have h := Boxed.new ((((w.alloc (.cells #[.int .u64 (belowN n 0)] 78)).alloc (.cells #[.int .i64 0] 3)).alloc (.cells #[.bool false] 4)).alloc (.cells #[.slice (some ⟨G, 0, none⟩) ws.length cap] 117)) 3 (.int .i64 ((n : Int) / 64))
    simp only [World.size_alloc] at h
    rw [← hW]; exact h
  have hsz : w.heap.size ≤ W0.heap.size := Nat.le_of_lt c6.lt
  have hB0 : Below w.heap.size w W0 := by
    rw [← hW]
    exact (((((Below.refl _ w).alloc (Nat.le_refl _) _).alloc (by simp) _).alloc (by simp; omega) _).alloc (by simp; omega) _).alloc (by simp; omega) _
  clear hW
  refine wpIn_rangeFunc_ownG rfl (by decide) (gf := 106) (lb := #[.pointer (some ⟨w.heap.size + 1 + 1 + 1 + 1, 0, none⟩), .pointer (some ⟨w.heap.size + 1 + 1 + 1, 0, none⟩)]) rfl trivial (enters_of Tryz.func106 (by kernel_rfl) rfl)
    (from_stops 4 (by decide) (w.heap.size + 1 + 1 + 1 + 1) (w.heap.size + 1 + 1 + 1) w.heap.size G (n / 64) cap ws hlen hGl _ hsz c10.cell c9.cell c10.lt c9.lt (fun j hj => (hB0.cell (p := ⟨G, j, none⟩) hGl).trans (HS.out.at_ j hj))) kpF_t (kpF_b hsz) (Below.refl _ _) (fun _ => rfl)
    (fun pre W => (Boxed W w.heap.size 78 (.int .u64 (belowN n pre.length)) ∧ Boxed W (w.heap.size + 1) 3 (.int .i64 0) ∧ Boxed W (w.heap.size + 1 + 1) 4 (.bool false)) ∧ clearP ws n pre ∧ Below w.heap.size w W)
    (fun c pre W => ∃ pre0 x, pre = pre0 ++ [x] ∧ c = Code.exit 0 ∧ clearP ws n pre0 ∧ maskN ws n pre0.length x ≠ 0 ∧ Boxed W (w.heap.size + 1) 3 (.int .i64 ((x : Int) * 64 + (Lib.ctz 64 (maskN ws n pre0.length x) : Nat))) ∧ Boxed W (w.heap.size + 1 + 1) 4 (.bool true) ∧ Below w.heap.size w W)
    (fun s X Y row hx hg hr => ⟨⟨boxed_keep hx.1.1 hg (fun r e => (hr r e).2), boxed_keep hx.1.2.1 hg (fun r e => (hr r e).2), boxed_keep hx.1.2.2 hg (fun r e => (hr r e).2)⟩, hx.2.1, hx.2.2.grown hg hx.2.2.size (fun k e => Nat.le_trans hsz (hr k e).1)⟩)
    (fun c s X Y row hx hg hr => by
      obtain ⟨pre0, x, e1, e2, e3, e4, e5, e6, e7⟩ := hx
      exact ⟨pre0, x, e1, e2, e3, e4, boxed_keep e5 hg (fun r e => (hr r e).2), boxed_keep e6 hg (fun r e => (hr r e).2), e7.grown hg e7.size (fun k e => Nat.le_trans hsz (hr k e).1)⟩)
    ⟨⟨c6, c7, c8⟩, (fun i x h => by simp at h), hB0⟩
    (fun x => { tmps := #[.pointer (some ⟨B, 0, none⟩), .int .i64 n, undef, undef, .int .i64 0, .bool false, .pointer (some ⟨w.heap.size, 0, none⟩), .pointer (some ⟨w.heap.size + 1, 0, none⟩), .pointer (some ⟨w.heap.size + 1 + 1, 0, none⟩), .int .i64 ((x : Int) * 64), .int .u64 (wd ws x), undef,
      .int .i64 z, .int .i64 n, .pointer (some ⟨B, 0, none⟩), .int .i64 n, .bool true, .bool false, .int .i64 n, .int .u64 (2 ^ (n % 64)), .int .u64 (belowN n 0), .pointer (some ⟨B, 0, none⟩), .pointer (some ⟨B, 0, none⟩), .pointer (some ⟨B, 1, none⟩), .slice (some ⟨G, 0, none⟩) ws.length cap, .int .i64 n, .int .i64 ((n : Int) / 64),
      .func (.func 106) #[] #[.pointer (some ⟨w.heap.size + 1 + 1 + 1 + 1, 0, none⟩), .pointer (some ⟨w.heap.size + 1 + 1 + 1, 0, none⟩)], .int .i64 ((x : Int) * 64), .int .u64 (wd ws x), undef, undef, undef, undef, undef, undef, undef, undef, undef, undef, undef, undef], defers := [] }) ?assign ?body ?done ?stop
  case assign =>
    intro l x W K hK
    unfold encW
    gi_wp2
    exact hK
  case body =>
    rintro l pre x W ⟨⟨b6, b7, b8⟩, hcl, hB⟩ hlt
    have hv := mask_val ws n pre.length x (HS.out.row.lt x)
    have k6 := b6.cell
    have f6 := b6.frozen
    have k7 := b7.cell
    have f7 := b7.frozen
    have k8 := b8.cell
    have f8 := b8.frozen
    have htz : TzTab W := HT.out.below hB hTl
    have hml : maskN ws n pre.length x < 18446744073709551616 := Nat.lt_of_le_of_lt (maskN_le _ _ _ _) (HS.out.row.lt _)
    by_cases hz : maskN ws n pre.length x = 0
    · have hzb : (((maskN ws n pre.length x : Nat) : Int) == 0) = true := by rw [hz]; rfl
      have HZ := Lib.hid hz
      have HTZ := Lib.hid htz
      clear hz htz
      gi_wp2
      refine ⟨(KeepsOthers.setCell _ _ _).from _, ⟨(Below.refl _ W).setCell (p := ⟨w.heap.size, 0, none⟩) (Nat.le_refl _) _, fun v hv => ?_⟩, ⟨?_, b7.other (by omega) _, b8.other (by omega) _⟩, clear_snoc hcl HZ.out, hB.setCell (p := ⟨w.heap.size, 0, none⟩) (Nat.le_refl _) _⟩
      · rw [other (a := ⟨w.heap.size, 0, none⟩) (b := ⟨w.heap.size + 1 + 1 + 1, 0, none⟩) (fun e => by have := congrArg Addr.block e; simp at this; omega)]
        exact hv
      · have := b6.set (.int .u64 0)
        simpa [belowN] using this
    · have hzb : (((maskN ws n pre.length x : Nat) : Int) == 0) = false := by simp; exact hz
      have hx : x < ws.length := maskN_pos hz
      have hct := (ctz_spec _ hz hml).2.2
      have HZ := Lib.hid hz
      have HTZ := Lib.hid htz
      have s0 : (0 : Int) ≤ (x : Int) * 64 := by omega
      have s1 : (x : Int) * 64 ≤ 134217728 := by omega
      clear hz htz
      gi_wp2_with (refine ⟨trivial, ?_⟩; gi_at_call 66; refine (CallsIn.inRound l (callsIn_wide.2 (tz_any _ hml HZ.out _ HTZ.out))).mono ?_; rintro e w' ⟨rfl, rfl⟩)
      exact ⟨((KeepsOthers.setCell _ _ _).trans (KeepsOthers.setCell _ _ _)).from _, pre, x, rfl, rfl, hcl, HZ.out, (b7.set _).other (by omega) _, (b8.other (by omega) _).set _, (hB.setCell (p := ⟨w.heap.size + 1, 0, none⟩) (by simp) _).setCell (p := ⟨w.heap.size + 1 + 1, 0, none⟩) (by simp; omega) _⟩
  case done =>
    rintro D ys W hD rfl ⟨⟨b6, b7, b8⟩, hcl, hB⟩ hK
    have k7 := b7.cell
    have k8 := b8.cell
    gi_wp2
    refine wpIn_wide.2 ?_
    go_quiet (fail)
    gi_wp2
    rw [Exit.noGoto_ret]
    have hBd : Below w.heap.size w (W.drewN nq) := ⟨hB.os, hB.tape, hB.output, hB.size, hB.block⟩
    refine ⟨by simp, .inl ⟨_, _, rfl, run_takeDeferred (w := W.drewN nq) hK, ?_⟩⟩
    exact ⟨_, results_tmp2 rfl _ _ _, 0, false, rfl, next_none HS.out.row hcl, hBd.trans (belowK_b (w := w) (Nat.le_refl _) (W.drewN nq) D _ _ (by omega) hK rfl rfl)⟩
  case stop =>
    rintro D c pre W hD ⟨k, hk, rfl⟩ ⟨pre0, x, e1, rfl, e3, e4, b7, b8, hB⟩ hK
    have hp0 : pre0 = upto (n / 64) pre0.length ∧ x = n / 64 + pre0.length := by
      have h1 := congrArg List.length e1
      rw [upto_length, List.length_append, List.length_singleton] at h1
      subst h1
      rw [upto_succ] at e1
      have h2 := List.append_inj e1 (by rw [upto_length])
      exact ⟨h2.1.symm, by simpa using h2.2.symm⟩
    obtain ⟨h1, rfl⟩ := hp0
    have hfin := next_some HS.out.row (k := pre0.length) (by rw [h1] at e3; exact e3) e4
    have k7 := b7.cell
    have k8 := b8.cell
    have HE := Lib.hid h1
    clear h1 e1
    gi_wp2
    refine wpIn_wide.2 ?_
    go_quiet (fail)
    gi_wp2
    rw [Exit.noGoto_ret]
    have hBd : Below w.heap.size w (W.drewN nq) := ⟨hB.os, hB.tape, hB.output, hB.size, hB.block⟩
    refine ⟨by simp, .inl ⟨_, _, rfl, run_takeDeferred (w := W.drewN nq) hK, ?_⟩⟩
    exact ⟨_, results_tmp2 rfl _ _ _, _, true, rfl, by simpa using hfin, hBd.trans (belowK_b (w := w) (Nat.le_refl _) (W.drewN nq) D _ _ (by omega) hK rfl rfl)⟩

theorem next_nil (z : Int) (w : World) : Calls Tryz.prog 117 #[.pointer none, .int .i64 z] w fun e w' => e = .returned (.tuple #[.int .i64 0, .bool false]) ∧ w = w' := by
  obtain ⟨y, hy⟩ : ∃ y, (if z < 0 then 0 else z) = y := ⟨_, rfl⟩
  go_enter Tryz.func117, Tryz.ntmps117
  go_wp2
  go_step3
  go_wp2_with (go_at_call 68; refine (may_nil _ _).mono ?_; rintro e w' ⟨rfl, rfl⟩)
  rw [Exit.noGoto_ret]
  go_ret2
  exact ⟨rfl, rfl⟩
theorem next_out (B : Nat) (z y size : Int) (w : World) (hc : w.cell? ⟨B, 0, none⟩ = some (.int .i64 size)) (hy : (if z < 0 then 0 else z) = y) (hm : mayB y size = false) :
    Calls Tryz.prog 117 #[.pointer (some ⟨B, 0, none⟩), .int .i64 z] w fun e w' => e = .returned (.tuple #[.int .i64 0, .bool false]) ∧ w = w' := by
  go_enter Tryz.func117, Tryz.ntmps117
  go_wp2
  go_step3
  go_wp2_with (go_at_call 68; refine (may_out B y size _ hc hm).mono ?_; rintro e w' ⟨rfl, rfl⟩)
  rw [Exit.noGoto_ret]
  go_ret2
  exact ⟨rfl, rfl⟩

/-- The least one from a number on, of whatever number is asked. -/
theorem next_any (B G size cap : Nat) (ws : List Nat) (z : Int) (w : World) (hs : SetIs w B G size cap ws) (hT : TzTab w) (hBl : B < w.heap.size) (hGl : G < w.heap.size) (hTl : 0 < w.heap.size) :
    Calls Tryz.prog 117 #[.pointer (some ⟨B, 0, none⟩), .int .i64 z] w fun e w' => ∃ v ok, e = .returned (.tuple #[.int .i64 v, .bool ok]) ∧ NextIs ws z.toNat v ok ∧ Below w.heap.size w w' := by
  have hy : (if z < 0 then 0 else z) = ((z.toNat : Nat) : Int) := by split <;> omega
  by_cases hn : z.toNat < size
  · exact next_in B G size cap ws z z.toNat w hs hy hn hT hBl hGl hTl
  · refine (next_out B z _ size w hs.cs hy (by simp [mayB]; omega)).mono fun e w' ⟨he, hw⟩ => ?_
    subst hw
    exact ⟨0, false, he, .inl ⟨rfl, rfl, fun m hm => hs.row.top m (by omega)⟩, Below.refl _ _⟩
end Go.Proofs.YtpcgmkchflmcmaaGreatDoor.Bits
