/-
  bits.from: each word from a place on, for every loop body that keeps what lay below a bound and the box of the words.
-/
import Derived.Test.YtahhenbphnejiaaDoorBitsC
import Derived.RangeFuncNested
import Derived.RangeFuncBound
import Derived.RangeFuncCalls
import Derived.RangeFuncLeaves
import Derived.Shelf.Abstract
import Derived.Shelf.RegionOpen
import Derived.OwnWalkIn
import Derived.TacticsInMore
import Derived.LoopNIn
import Derived.LoopIn
namespace Go.Proofs.YtahhenbphnejiaaDoor.Bits
open Go.RowKit Go.Shelf

attribute [local go_sem] Oper.semAt_some

/-- The first k places from p on. -/
def upto (p k : Nat) : List Nat := (List.range k).map (p + ·)
theorem upto_succ (p k : Nat) : upto p (k + 1) = upto p k ++ [p + k] := by simp [upto, List.range_succ]
theorem upto_length (p k : Nat) : (upto p k).length = k := by simp [upto]

/-- What the body of a round keeps: whatever lay below n₀, and the cell of the words' box. -/
def KpF (n₀ Bs : Nat) (W W' : World) : Prop := Below n₀ W W' ∧ ∀ v, W.cell? ⟨Bs, 0, none⟩ = some v → W'.cell? ⟨Bs, 0, none⟩ = some v
theorem kpF_t {n₀ Bs : Nat} {A B C : World} (h : KpF n₀ Bs A B) (k : KpF n₀ Bs B C) : KpF n₀ Bs A C := ⟨h.1.trans k.1, fun v hv => k.2 v (h.2 v hv)⟩
theorem kpF_b {n₀ Bs : Nat} {w : World} (hn : n₀ ≤ w.heap.size) (W : World) (l : Nat) (o o' : Obj) (hl : w.heap.size ≤ l) (h : W.heap[l]? = some o) (hc : o.isCells = false) (hw : o.isWalk = false) : KpF n₀ Bs W (W.putObj l o') :=
  ⟨belowK_b hn W l o o' hl h hc hw, fun _ hv => cell_kept hv (grownBy_putObj' W l o') (fun r e => by cases e; exact ⟨o, h, hc⟩)⟩

/-- What a row of words is told as: the number that its first bit stands for, and the word. -/
def encW (ws : List Nat) (i : Nat) : Array Value := #[.int .i64 ((i : Int) * 64), .int .u64 (wd ws i)]

set_option maxRecDepth 100000 in
set_option maxHeartbeats 2000000 in
theorem from1_in (n : Nat) (hn : 1 ≤ n) (l Bp Bs n₀ G p cap : Nat) (ws : List Nat) (hlen : ws.length ≤ 2097152) (hG : G < n₀) (J Jx : List Nat → World → Prop)
    (hY : ∀ pre x W, J pre W → pre.length < ws.length - p → YieldAt Fence.wide (n - 1) Tryd.prog l (encW ws x) W fun e W' =>
      (e = .returned (.bool true) ∧ J (pre ++ [x]) W' ∧ KpF n₀ Bs W W') ∨ (e = .returned (.bool false) ∧ Jx (pre ++ [x]) W'))
    (W : World) (hBp : W.cell? ⟨Bp, 0, none⟩ = some (.int .i64 p)) (hBs : W.cell? ⟨Bs, 0, none⟩ = some (.slice (some ⟨G, 0, none⟩) ws.length cap)) (hc : ∀ j, j < ws.length → W.cell? ⟨G, j, none⟩ = some (.int .u64 (wd ws j))) (h0 : J [] W) :
    CallsIn Fence.wide n Tryd.prog 68 #[.func (.yield l) #[] #[], .pointer (some ⟨Bp, 0, none⟩), .pointer (some ⟨Bs, 0, none⟩)] W fun e W' => (∃ v, e = .returned v) ∧
      ((∃ ys, ys = upto p (ws.length - p) ∧ J ys W') ∨ (∃ pre, (∃ k, k ≤ ws.length - p ∧ pre = upto p k) ∧ Jx pre W')) := by
  refine callsIn_of_wp Tryd.func68 rfl trivial ?_ rfl
  simp only [Tryd.ntmps68, List.size_toArray, List.length_cons, List.length_nil, Nat.reduceAdd, Nat.reduceSub, Array.replicate_succ, Array.replicate_zero, List.push_toArray, List.append_toArray, List.nil_append, List.cons_append]
  gi_wp2
  gi_loopw [4] (fun i wr => ∃ k : Nat, k ≤ ws.length - p ∧ i = .int .i64 ((p + k : Nat) : Int) ∧ J (upto p k) wr ∧ KpF n₀ Bs W wr)
    (fun i _ => ws.length - (intOf i).toNat)
  case atStart => exact ⟨0, Nat.zero_le _, by simp, h0, Below.refl _ _, fun _ h => h⟩
  case round =>
    obtain ⟨k, hk, rfl, hJs, hnx⟩ := hrel
    have hBs' := hnx.2 _ hBs
    by_cases hlt : p + k < ws.length
    · obtain ⟨fn, tmps, assign, body, hy, hR⟩ := hY _ (p + k) wr hJs (by rw [upto_length]; omega)
      unfold encW at hy
      rw [Int.natCast_add] at hy
      have hcx : wr.cell? ⟨G, p + k, none⟩ = some (.int .u64 (wd ws (p + k))) := (hnx.1.cell (p := ⟨G, p + k, none⟩) hG).trans (hc _ hlt)
      gi_wp2
      refine hR.mono ?_
      rintro e W3 (⟨rfl, hJ3, hk3⟩ | ⟨rfl, hJx3⟩)
      · gi_wp2
        go_roundw
        case rel => exact ⟨k + 1, by omega, by simp; omega, by rw [upto_succ]; exact hJ3, kpF_t hnx hk3⟩
        case measure => simp [intOf]; omega
      · gi_wp2
        refine bodyPost_ret (results_none rfl _ _ _) rfl ?_
        exact ⟨⟨_, rfl⟩, .inr ⟨_, ⟨k + 1, by omega, (upto_succ _ _).symm⟩, hJx3⟩⟩
    · gi_wp2
      go_end0
      exact ⟨⟨_, rfl⟩, .inl ⟨_, rfl, by rw [show ws.length - p = k from by omega]; exact hJs⟩⟩

/-- The words from a place on, as whatever loop takes them. -/
theorem from_stops (n : Nat) (hn : 1 ≤ n) (Bp Bs n₀ G p cap : Nat) (ws : List Nat) (hlen : ws.length ≤ 2097152) (hG : G < n₀) (w : World) (hn₀ : n₀ ≤ w.heap.size) (hBp : w.cell? ⟨Bp, 0, none⟩ = some (.int .i64 p)) (hBs : w.cell? ⟨Bs, 0, none⟩ = some (.slice (some ⟨G, 0, none⟩) ws.length cap))
    (hBpl : Bp < w.heap.size) (hBsl : Bs < w.heap.size) (hc : ∀ j, j < ws.length → w.cell? ⟨G, j, none⟩ = some (.int .u64 (wd ws j))) :
    SeqStopsK Fence.wide n Tryd.prog 68 #[.pointer (some ⟨Bp, 0, none⟩), .pointer (some ⟨Bs, 0, none⟩)] (encW ws) (KpF n₀ Bs) (fun ys => ys = upto p (ws.length - p))
      (fun pre => ∃ k, k ≤ ws.length - p ∧ pre = upto p k) (ws.length - p) w := fun l J Jx W hW _ _ hY h0 =>
  from1_in n hn l Bp Bs n₀ G p cap ws hlen hG J Jx hY W ((hW.cell (p := ⟨Bp, 0, none⟩) hBpl).trans hBp) ((hW.cell (p := ⟨Bs, 0, none⟩) hBsl).trans hBs)
    (fun j hj => (hW.cell (p := ⟨G, j, none⟩) (Nat.lt_of_lt_of_le hG hn₀)).trans (hc j hj)) h0

/-- bits.from: two boxes are laid; the function value captures them. -/
theorem from_any (a : Option Addr) (len cap : Nat) (p : Int) (w : World) :
    Calls Tryd.prog 47 #[.slice a len cap, .int .i64 p] w fun e w' => e = .returned (.func (.func 68) #[] #[.pointer (some ⟨w.heap.size + 1, 0, none⟩), .pointer (some ⟨w.heap.size, 0, none⟩)])
      ∧ (w.alloc (.cells #[.slice a len cap] 60)).alloc (.cells #[.int .i64 p] 3) = w' := by
  go_enter Tryd.func47, Tryd.ntmps47
  go_wp2
  go_ret
  exact ⟨rfl, rfl⟩
end Go.Proofs.YtahhenbphnejiaaDoor.Bits
