/-
  bits.from, for every loop body that keeps the words' cells, and the cell of their box; slices.Clone of words.
-/
import Derived.Test.YtahhenbphnejiaaDoorBitsSeq
import Derived.Test.YtahhenbphnejiaaDoorBitsSames
namespace Go.Proofs.YtahhenbphnejiaaDoor.Bits
open Go.RowKit Go.Shelf

attribute [local go_sem] Oper.semAt_some

/-- What the body of a round keeps: the cells of two blocks. -/
def KpC (G Bs : Nat) (W W' : World) : Prop := ∀ p v, (p.block = G ∨ p.block = Bs) → W.cell? p = some v → W'.cell? p = some v
theorem kpC_t {G Bs : Nat} {A B C : World} (h : KpC G Bs A B) (k : KpC G Bs B C) : KpC G Bs A C := fun p v hp hv => k p v hp (h p v hp hv)
theorem kpC_b {G Bs : Nat} (W : World) (l : Nat) (o o' : Obj) (h : W.heap[l]? = some o) (hc : o.isCells = false) : KpC G Bs W (W.putObj l o') :=
  fun _ _ _ hv => cell_kept hv (grownBy_putObj' W l o') (fun r e => by cases e; exact ⟨o, h, hc⟩)

set_option maxRecDepth 100000 in
set_option maxHeartbeats 2000000 in
theorem from1_c (n : Nat) (hn : 1 ≤ n) (l Bp Bs G p cap : Nat) (ws : List Nat) (hlen : ws.length ≤ 2097152) (J Jx : List Nat → World → Prop)
    (hY : ∀ pre x W, J pre W → pre.length < ws.length - p → YieldAt Fence.wide (n - 1) Tryd.prog l (encW ws x) W fun e W' =>
      (e = .returned (.bool true) ∧ J (pre ++ [x]) W' ∧ KpC G Bs W W') ∨ (e = .returned (.bool false) ∧ Jx (pre ++ [x]) W'))
    (W : World) (hBp : W.cell? ⟨Bp, 0, none⟩ = some (.int .i64 p)) (hBs : W.cell? ⟨Bs, 0, none⟩ = some (.slice (some ⟨G, 0, none⟩) ws.length cap)) (hc : ∀ j, j < ws.length → W.cell? ⟨G, j, none⟩ = some (.int .u64 (wd ws j))) (h0 : J [] W) :
    CallsIn Fence.wide n Tryd.prog 68 #[.func (.yield l) #[] #[], .pointer (some ⟨Bp, 0, none⟩), .pointer (some ⟨Bs, 0, none⟩)] W fun e W' => (∃ v, e = .returned v) ∧
      ((∃ ys, ys = upto p (ws.length - p) ∧ J ys W') ∨ (∃ pre, (∃ k, k ≤ ws.length - p ∧ pre = upto p k) ∧ Jx pre W')) := by
  refine callsIn_of_wp Tryd.func68 rfl trivial ?_ rfl
  simp only [Tryd.ntmps68, List.size_toArray, List.length_cons, List.length_nil, Nat.reduceAdd, Nat.reduceSub, Array.replicate_succ, Array.replicate_zero, List.push_toArray, List.append_toArray, List.nil_append, List.cons_append]
  gi_wp2
  gi_loopw [4] (fun i wr => ∃ k : Nat, k ≤ ws.length - p ∧ i = .int .i64 ((p + k : Nat) : Int) ∧ J (upto p k) wr ∧ KpC G Bs W wr)
    (fun i _ => ws.length - (intOf i).toNat)
  case atStart => exact ⟨0, Nat.zero_le _, by simp, h0, fun _ _ _ h => h⟩
  case round =>
    obtain ⟨k, hk, rfl, hJs, hnx⟩ := hrel
    have hBs' := hnx ⟨Bs, 0, none⟩ _ (.inr rfl) hBs
    by_cases hlt : p + k < ws.length
    · obtain ⟨fn, tmps, assign, body, hy, hR⟩ := hY _ (p + k) wr hJs (by rw [upto_length]; omega)
      unfold encW at hy
      rw [Int.natCast_add] at hy
      have hcx : wr.cell? ⟨G, p + k, none⟩ = some (.int .u64 (wd ws (p + k))) := hnx ⟨G, p + k, none⟩ _ (.inl rfl) (hc _ hlt)
      gi_wp2
      refine hR.mono ?_
      rintro e W3 (⟨rfl, hJ3, hk3⟩ | ⟨rfl, hJx3⟩)
      · gi_wp2
        go_roundw
        case rel => exact ⟨k + 1, by omega, by simp; omega, by rw [upto_succ]; exact hJ3, kpC_t hnx hk3⟩
        case measure => simp [intOf]; omega
      · gi_wp2
        refine bodyPost_ret (results_none rfl _ _ _) rfl ?_
        exact ⟨⟨_, rfl⟩, .inr ⟨_, ⟨k + 1, by omega, (upto_succ _ _).symm⟩, hJx3⟩⟩
    · gi_wp2
      go_end0
      exact ⟨⟨_, rfl⟩, .inl ⟨_, rfl, by rw [show ws.length - p = k from by omega]; exact hJs⟩⟩

/-- The words from a place on, as whatever loop takes them that keeps the words' cells, and their box's. -/
theorem from_stops_c (n : Nat) (hn : 1 ≤ n) (Bp Bs G p cap : Nat) (ws : List Nat) (hlen : ws.length ≤ 2097152) (w : World) (hBp : w.cell? ⟨Bp, 0, none⟩ = some (.int .i64 p)) (hBs : w.cell? ⟨Bs, 0, none⟩ = some (.slice (some ⟨G, 0, none⟩) ws.length cap))
    (hBpl : Bp < w.heap.size) (hBsl : Bs < w.heap.size) (hGl : G < w.heap.size) (hc : ∀ j, j < ws.length → w.cell? ⟨G, j, none⟩ = some (.int .u64 (wd ws j))) :
    SeqStopsK Fence.wide n Tryd.prog 68 #[.pointer (some ⟨Bp, 0, none⟩), .pointer (some ⟨Bs, 0, none⟩)] (encW ws) (KpC G Bs) (fun ys => ys = upto p (ws.length - p))
      (fun pre => ∃ k, k ≤ ws.length - p ∧ pre = upto p k) (ws.length - p) w := fun l J Jx W hW _ _ hY h0 =>
  from1_c n hn l Bp Bs G p cap ws hlen J Jx hY W ((hW.cell (p := ⟨Bp, 0, none⟩) hBpl).trans hBp) ((hW.cell (p := ⟨Bs, 0, none⟩) hBsl).trans hBs)
    (fun j hj => (hW.cell (p := ⟨G, j, none⟩) hGl).trans (hc j hj)) h0
end Go.Proofs.YtahhenbphnejiaaDoor.Bits
