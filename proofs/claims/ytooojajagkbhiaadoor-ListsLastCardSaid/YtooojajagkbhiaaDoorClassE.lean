/-
  class.Starts: each slot's number and first word, for every loop body that keeps what lay below a bound and the box of the class.
-/
import Derived.Test.YtooojajagkbhiaaDoorClassD
import Derived.RangeFuncNested
import Derived.RangeFuncBound
import Derived.RangeFuncCalls
import Derived.RangeFuncLeaves
import Derived.Shelf.Abstract
import Derived.Shelf.RegionOpen
import Derived.OwnWalkIn
import Derived.TacticsInMore
import Derived.LoopNIn
import Derived.LoopIn
namespace Go.Proofs.YtooojajagkbhiaaDoor.Class
open Go.RowKit Go.Shelf

attribute [local go_sem] Oper.semAt_some

/-- What the body of a round keeps: whatever lay below n₀, and the cell of a box. -/
def KpF (n₀ Bs : Nat) (W W' : World) : Prop := Below n₀ W W' ∧ ∀ v, W.cell? ⟨Bs, 0, none⟩ = some v → W'.cell? ⟨Bs, 0, none⟩ = some v
theorem kpF_t {n₀ Bs : Nat} {A B C : World} (h : KpF n₀ Bs A B) (k : KpF n₀ Bs B C) : KpF n₀ Bs A C := ⟨h.1.trans k.1, fun v hv => k.2 v (h.2 v hv)⟩
theorem kpF_b {n₀ Bs : Nat} {w : World} (hn : n₀ ≤ w.heap.size) (W : World) (l : Nat) (o o' : Obj) (hl : w.heap.size ≤ l) (h : W.heap[l]? = some o) (hc : o.isCells = false) (hw : o.isWalk = false) : KpF n₀ Bs W (W.putObj l o') :=
  ⟨belowK_b hn W l o o' hl h hc hw, fun _ hv => cell_kept hv (grownBy_putObj' W l o') (fun r e => by cases e; exact ⟨o, h, hc⟩)⟩
theorem boxed_keep {W W' : World} {row : Option Nat} {B : Nat} {t : TypeId} {v : Value} (h : Boxed W B t v) (hg : W.grownBy W' row) (hr : ∀ r, row = some r → ∃ o : Obj, W.heap[r]? = some o ∧ o.isCells = false) : Boxed W' B t v :=
  h.kept hg (fun e => by obtain ⟨o, ho, hc⟩ := hr B e.symm; rw [show W.heap[B]? = _ from h] at ho; cases ho; cases hc)

/-- What a block's slots are told as: the number, and the first word. -/
def encS (k : Int) (i : Nat) : Array Value := #[.int .i64 (i : Int), .int .i64 ((i : Int) * sizI k)]

theorem per_bd (n k : Int) : 0 ≤ perI n k ∧ perI n k ≤ 128 := by
  by_cases h : isB k = true
  · by_cases h2 : wordsB n = true
    · obtain ⟨s0, s1⟩ := sizI_bd h
      obtain ⟨n0, n1⟩ := wordsB_true.1 h2
      rw [perI_yes h h2]
      refine ⟨Int.ediv_nonneg (by omega) (by omega), ?_⟩
      have : n / sizI k < 129 := Int.ediv_lt_of_lt_mul (by omega) (by have := Int.mul_le_mul (show (129:Int) ≤ 129 by omega) s0 (by omega) (by omega); omega)
      omega
    · rw [perI_noW (by simpa using h2)]; omega
  · rw [perI_noC (by simpa using h)]; omega
theorem siz_bd0 (k : Int) : 0 ≤ sizI k ∧ sizI k ≤ 16 := by unfold sizI; (repeat' split) <;> omega
theorem mul_bd (k : Int) {i : Nat} (hi : i ≤ 128) : 0 ≤ (i : Int) * sizI k ∧ (i : Int) * sizI k ≤ 100000 := by
  obtain ⟨s0, s1⟩ := siz_bd0 k
  exact ⟨Int.mul_nonneg (by omega) s0, Int.le_trans (Int.mul_le_mul (show (i : Int) ≤ 128 by omega) s1 s0 (by omega)) (by decide)⟩

set_option maxRecDepth 100000 in
set_option maxHeartbeats 2000000 in
theorem starts1_in (n : Nat) (hn : 1 ≤ n) (l Bw Bk n₀ : Nat) (words k : Int) (hg : 0 < n₀) (N : Nat) (hN : perI words k = (N : Int)) (J Jx : List Nat → World → Prop)
    (hY : ∀ pre x W, J pre W → pre.length < N → YieldAt Fence.wide (n - 1) Tryd.prog l (encS k x) W fun e W' =>
      (e = .returned (.bool true) ∧ J (pre ++ [x]) W' ∧ KpF n₀ Bk W W') ∨ (e = .returned (.bool false) ∧ Jx (pre ++ [x]) W'))
    (W : World) (hBw : W.cell? ⟨Bw, 0, none⟩ = some (.int .i64 words)) (hBk : W.cell? ⟨Bk, 0, none⟩ = some (.int .i64 k)) (ht : SizTab W) (h0 : J [] W) :
    CallsIn Fence.wide n Tryd.prog 74 #[.func (.yield l) #[] #[], .pointer (some ⟨Bw, 0, none⟩), .pointer (some ⟨Bk, 0, none⟩)] W fun e W' => (∃ v, e = .returned v) ∧
      ((∃ ys, ys = List.range N ∧ J ys W') ∨ (∃ pre, (∃ m, m ≤ N ∧ pre = List.range m) ∧ Jx pre W')) := by
  have HT := Lib.hid ht
  have HN := Lib.hid hN
  have hb := per_bd words k
  rw [hN] at hb
  clear ht hN
  refine callsIn_of_wp Tryd.func74 rfl trivial ?_ rfl
  simp only [Tryd.ntmps74, List.size_toArray, List.length_cons, List.length_nil, Nat.reduceAdd, Nat.reduceSub, Array.replicate_succ, Array.replicate_zero, List.push_toArray, List.append_toArray, List.nil_append, List.cons_append]
  gi_wp2_with (refine ⟨trivial, ?_⟩; gi_at_call 55; refine (callsIn_wide.2 (per_any _ _ _ HT.out)).mono ?_; rintro e w' ⟨rfl, rfl⟩; rw [HN.out])
  clear hBw
  gi_loopw [8] (fun i wr => ∃ m : Nat, m ≤ N ∧ i = .int .i64 (m : Int) ∧ J (List.range m) wr ∧ KpF n₀ Bk W wr)
    (fun i _ => N - (intOf i).toNat)
  case atStart => exact ⟨0, Nat.zero_le _, by simp, h0, Below.refl _ _, fun _ h => h⟩
  case round =>
    obtain ⟨m, hm, rfl, hJs, hnx⟩ := hrel
    have hBk' := hnx.2 _ hBk
    have HT' := Lib.hid (HT.out.below hnx.1 hg)
    by_cases hlt : m < N
    · obtain ⟨fn, tmps, assign, body, hy, hR⟩ := hY _ m wr hJs (by rw [List.length_range]; omega)
      unfold encS at hy
      obtain ⟨m0, m1⟩ := mul_bd k (i := m) (by omega)
      gi_wp2_with (refine ⟨trivial, ?_⟩; gi_at_call 54; refine (callsIn_wide.2 (size_any _ _ HT'.out)).mono ?_; rintro e w' ⟨rfl, rfl⟩)
      refine hR.mono ?_
      rintro e W3 (⟨rfl, hJ3, hk3⟩ | ⟨rfl, hJx3⟩)
      · gi_wp2
        go_roundw
        case rel => exact ⟨m + 1, by omega, by go_num, by rw [List.range_succ]; exact hJ3, kpF_t hnx hk3⟩
        case measure => simp [intOf]; omega
      · gi_wp2
        refine bodyPost_ret (results_none rfl _ _ _) rfl ?_
        exact ⟨⟨_, rfl⟩, .inr ⟨_, ⟨m + 1, by omega, List.range_succ.symm⟩, hJx3⟩⟩
    · gi_wp2
      go_end0
      exact ⟨⟨_, rfl⟩, .inl ⟨_, rfl, by rw [show N = m from by omega]; exact hJs⟩⟩

/-- A block's slots, as whatever loop takes them. -/
theorem starts_stops (n : Nat) (hn : 1 ≤ n) (Bw Bk n₀ : Nat) (words k : Int) (hg : 0 < n₀) (N : Nat) (hN : perI words k = (N : Int)) (w : World) (_ : n₀ ≤ w.heap.size)
    (hBw : w.cell? ⟨Bw, 0, none⟩ = some (.int .i64 words)) (hBk : w.cell? ⟨Bk, 0, none⟩ = some (.int .i64 k)) (hBwl : Bw < w.heap.size) (hBkl : Bk < w.heap.size) (ht : SizTab w) :
    SeqStopsK Fence.wide n Tryd.prog 74 #[.pointer (some ⟨Bw, 0, none⟩), .pointer (some ⟨Bk, 0, none⟩)] (encS k) (KpF n₀ Bk) (fun ys => ys = List.range N)
      (fun pre => ∃ m, m ≤ N ∧ pre = List.range m) N w := fun l J Jx W hW _ _ hY h0 =>
  starts1_in n hn l Bw Bk n₀ words k hg N hN J Jx hY W ((hW.cell (p := ⟨Bw, 0, none⟩) hBwl).trans hBw) ((hW.cell (p := ⟨Bk, 0, none⟩) hBkl).trans hBk) (ht.later hW) h0

/-- class.Starts: two boxes are laid; the function value captures them. -/
theorem starts_any (words k : Int) (w : World) :
    Calls Tryd.prog 68 #[.int .i64 words, .int .i64 k] w fun e w' => e = .returned (.func (.func 74) #[] #[.pointer (some ⟨w.heap.size, 0, none⟩), .pointer (some ⟨w.heap.size + 1, 0, none⟩)])
      ∧ (w.alloc (.cells #[.int .i64 words] 3)).alloc (.cells #[.int .i64 k] 3) = w' := by
  go_enter Tryd.func68, Tryd.ntmps68
  go_wp2
  go_ret
  exact ⟨rfl, rfl⟩
end Go.Proofs.YtooojajagkbhiaaDoor.Class
