/-
  class.Starts, whose told numbers are bounded: a loop body need not look at a number that no block has.
-/
import Derived.Test.YtgmakcoodgpjlaaDoorClassE
namespace Go.Proofs.YtgmakcoodgpjlaaDoor.Class
open Go.RowKit Go.Shelf

attribute [local go_sem] Oper.semAt_some

set_option maxRecDepth 100000 in
set_option maxHeartbeats 2000000 in
theorem starts1_len (n : Nat) (hn : 1 ≤ n) (l Bw Bk n₀ : Nat) (words k : Int) (hg : 0 < n₀) (N : Nat) (hN : perI words k = (N : Int)) (J Jx : List Nat → World → Prop)
    (hY : ∀ pre W, J pre W → pre.length < N → YieldAt Fence.wide (n - 1) Tryd.prog l (encS k pre.length) W fun e W' =>
      (e = .returned (.bool true) ∧ J (pre ++ [pre.length]) W' ∧ KpF n₀ Bk W W') ∨ (e = .returned (.bool false) ∧ Jx (pre ++ [pre.length]) W'))
    (W : World) (hBw : W.cell? ⟨Bw, 0, none⟩ = some (.int .i64 words)) (hBk : W.cell? ⟨Bk, 0, none⟩ = some (.int .i64 k)) (ht : SizTab W) (h0 : J [] W) :
    CallsIn Fence.wide n Tryd.prog 31 #[.func (.yield l) #[] #[], .pointer (some ⟨Bw, 0, none⟩), .pointer (some ⟨Bk, 0, none⟩)] W fun e W' => (∃ v, e = .returned v) ∧
      ((∃ ys, ys = List.range N ∧ J ys W') ∨ (∃ pre, (∃ m, m ≤ N ∧ pre = List.range m) ∧ Jx pre W')) := by
  have HT := Lib.hid ht
  have HN := Lib.hid hN
  have hb := per_bd words k
  rw [hN] at hb
  clear ht hN
  refine callsIn_of_wp Tryd.func31 rfl trivial ?_ rfl
  simp only [Tryd.ntmps31, List.size_toArray, List.length_cons, List.length_nil, Nat.reduceAdd, Nat.reduceSub, Array.replicate_succ, Array.replicate_zero, List.push_toArray, List.append_toArray, List.nil_append, List.cons_append]
  gi_wp2_with (refine ⟨trivial, ?_⟩; gi_at_call 18; refine (callsIn_wide.2 (per_any _ _ _ HT.out)).mono ?_; rintro e w' ⟨rfl, rfl⟩; rw [HN.out])
  clear hBw
  gi_loopw [8] (fun i wr => ∃ m : Nat, m ≤ N ∧ i = .int .i64 (m : Int) ∧ J (List.range m) wr ∧ KpF n₀ Bk W wr)
    (fun i _ => N - (intOf i).toNat)
  case atStart => exact ⟨0, Nat.zero_le _, by simp, h0, Below.refl _ _, fun _ h => h⟩
  case round =>
    obtain ⟨m, hm, rfl, hJs, hnx⟩ := hrel
    have hBk' := hnx.2 _ hBk
    have HT' := Lib.hid (HT.out.below hnx.1 hg)
    by_cases hlt : m < N
    · obtain ⟨fn, tmps, assign, body, hy, hR⟩ := hY _ wr hJs (by rw [List.length_range]; omega)
      rw [List.length_range] at hy hR
      unfold encS at hy
      obtain ⟨m0, m1⟩ := mul_bd k (i := m) (by omega)
      gi_wp2_with (refine ⟨trivial, ?_⟩; gi_at_call 14; refine (callsIn_wide.2 (size_any _ _ HT'.out)).mono ?_; rintro e w' ⟨rfl, rfl⟩)
      refine hR.mono ?_
      rintro e W3 (⟨rfl, hJ3, hk3⟩ | ⟨rfl, hJx3⟩)
      · gi_wp2
        go_roundw
        case rel => exact ⟨m + 1, by omega, by go_num, by rw [List.range_succ]; exact hJ3, kpF_t hnx hk3⟩
        case measure => simp [intOf]; omega
      · gi_wp2
        refine bodyPost_ret (results_none rfl _ _ _) rfl ?_
        exact ⟨⟨_, rfl⟩, .inr ⟨_, ⟨m + 1, by omega, List.range_succ.symm⟩, hJx3⟩⟩
    · gi_wp2
      go_end0
      exact ⟨⟨_, rfl⟩, .inl ⟨_, rfl, by rw [show N = m from by omega]; exact hJs⟩⟩

/-- A number, brought below 256. -/
def clip (x : Nat) : Nat := x % 256
theorem clip_lt (x : Nat) : clip x < 256 := Nat.mod_lt _ (by decide)
theorem clip_eq {x : Nat} (h : x < 256) : clip x = x := Nat.mod_eq_of_lt h
theorem mul_bdB (k : Int) (x : Nat) : 0 ≤ ((clip x : Nat) : Int) * sizI k ∧ ((clip x : Nat) : Int) * sizI k ≤ 4096 := by
  obtain ⟨s0, s1⟩ := siz_bd0 k
  have hc := clip_lt x
  exact ⟨Int.mul_nonneg (by omega) s0, Int.le_trans (Int.mul_le_mul (show ((clip x : Nat) : Int) ≤ 256 by omega) s1 s0 (by omega)) (by decide)⟩
/-- What is told, bounded. -/
def encB (k : Int) (i : Nat) : Array Value := #[.int .i64 ((clip i : Nat) : Int), .int .i64 (((clip i : Nat) : Int) * sizI k)]
theorem encB_eq (k : Int) {i : Nat} (h : i < 256) : encB k i = encS k i := by unfold encB encS; rw [clip_eq h]

theorem starts_stopsB (n : Nat) (hn : 1 ≤ n) (Bw Bk n₀ : Nat) (words k : Int) (hg : 0 < n₀) (N : Nat) (hN : perI words k = (N : Int)) (w : World)
    (hBw : w.cell? ⟨Bw, 0, none⟩ = some (.int .i64 words)) (hBk : w.cell? ⟨Bk, 0, none⟩ = some (.int .i64 k)) (hBwl : Bw < w.heap.size) (hBkl : Bk < w.heap.size) (ht : SizTab w) :
    SeqStopsK Fence.wide n Tryd.prog 31 #[.pointer (some ⟨Bw, 0, none⟩), .pointer (some ⟨Bk, 0, none⟩)] (encB k) (KpF n₀ Bk) (fun ys => ys = List.range N)
      (fun pre => ∃ m, m ≤ N ∧ pre = List.range m) N w := fun l J Jx W hW _ _ hY h0 =>
  starts1_len n hn l Bw Bk n₀ words k hg N hN J Jx (fun pre W1 hJ hl => by
      have := hY pre pre.length W1 hJ hl
      rwa [encB_eq k (by have := (per_bd words k).2; omega)] at this)
    W ((hW.cell (p := ⟨Bw, 0, none⟩) hBwl).trans hBw) ((hW.cell (p := ⟨Bk, 0, none⟩) hBkl).trans hBk) (ht.later hW) h0
end Go.Proofs.YtgmakcoodgpjlaaDoor.Class
