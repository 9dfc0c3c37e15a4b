/-
  class.Starts, as an iterator that tells a block's slots.
-/
import Derived.Test.YtooojajagkbhiaaDoorClassE
import Derived.Test.YtooojajagkbhiaaDoorTold
namespace Go.Proofs.YtooojajagkbhiaaDoor.Class
open Go.RowKit Go.Shelf

attribute [local go_sem] Oper.semAt_some

set_option maxRecDepth 100000 in
set_option maxHeartbeats 2000000 in
theorem starts_told (m Bw Bk : Nat) (words k : Int) (N : Nat) (hN : perI words k = (N : Int)) (w : World) (hBw : w.cell? ⟨Bw, 0, none⟩ = some (.int .i64 words)) (hBwl : Bw < w.heap.size) :
    SeqTold Fence.wide m Tryd.prog 74 #[.pointer (some ⟨Bw, 0, none⟩), .pointer (some ⟨Bk, 0, none⟩)] N (encS k) (fun W => SizTab W ∧ W.cell? ⟨Bk, 0, none⟩ = some (.int .i64 k)) w := by
  refine SeqTold.any (n := 4) ?_
  intro l J Jx W hW hJ hJx hT hY h0
  have hBw' : W.cell? ⟨Bw, 0, none⟩ = some (.int .i64 words) := (hW.cell (p := ⟨Bw, 0, none⟩) hBwl).trans hBw
  obtain ⟨O0, hj0, hO0⟩ := h0
  obtain ⟨ht, hBk⟩ := hT _ _ _ hj0
  have HT := Lib.hid ht
  have HN := Lib.hid hN
  have hb := per_bd words k
  rw [hN] at hb
  clear ht hN hJ hJx hBw hBwl
  refine callsIn_of_wp Tryd.func74 rfl trivial ?_ rfl
  simp only [Tryd.ntmps74, List.size_toArray, List.length_cons, List.length_nil, Nat.reduceAdd, Nat.reduceSub, Array.replicate_succ, Array.replicate_zero, List.push_toArray, List.append_toArray, List.nil_append, List.cons_append]
  gi_wp2_with (refine ⟨trivial, ?_⟩; gi_at_call 55; refine (callsIn_wide.2 (per_any _ _ _ HT.out)).mono ?_; rintro e w' ⟨rfl, rfl⟩; rw [HN.out])
  clear hBw'
  gi_loopw [8] (fun i wr => ∃ m : Nat, m ≤ N ∧ i = .int .i64 (m : Int) ∧ W.heap.size ≤ wr.heap.size ∧ ∃ O, J O m wr ∧ ∀ k, O k → k < wr.heap.size)
    (fun i _ => N - (intOf i).toNat)
  case atStart => exact ⟨0, Nat.zero_le _, by simp, Nat.le_refl _, O0, hj0, hO0⟩
  case round =>
    obtain ⟨m, hm, rfl, hsz, O, hJm, hOm⟩ := hrel
    obtain ⟨ht', hBk'⟩ := hT _ _ _ hJm
    have HT' := Lib.hid ht'
    clear ht'
    by_cases hlt : m < N
    · obtain ⟨fn, tmps, assign, body, hy, hR⟩ := hY O m wr hlt hJm hOm hsz
      unfold encS at hy
      obtain ⟨m0, m1⟩ := mul_bd k (i := m) (by omega)
      gi_wp2_with (refine ⟨trivial, ?_⟩; gi_at_call 54; refine (callsIn_wide.2 (size_any _ _ HT'.out)).mono ?_; rintro e w' ⟨rfl, rfl⟩)
      refine hR.mono ?_
      rintro e W3 ⟨O', ht3, (⟨rfl, hJ3⟩ | ⟨rfl, hJx3⟩)⟩
      · have hs3 := ht3.size
        have ho3 := ht3.lt
        gi_wp2
        go_roundw
        case rel => exact ⟨m + 1, by omega, by go_num, by omega, O', hJ3, ho3⟩
        case measure => simp [intOf]; omega
      · have hs3 := ht3.size
        have ho3 := ht3.lt
        gi_wp2
        refine bodyPost_ret (results_none rfl _ _ _) rfl ?_
        exact ⟨⟨_, rfl⟩, O', ho3, by omega, .inr ⟨m, hlt, hJx3⟩⟩
    · gi_wp2
      go_end0
      exact ⟨⟨_, rfl⟩, O, hOm, hsz, .inl (by rw [show N = m from by omega]; exact hJm)⟩
end Go.Proofs.YtooojajagkbhiaaDoor.Class
