/-
  (*bits.Set).Count, of every set that there is: how many numbers it has.
-/
import Derived.Test.YtahhenbphnejiaaDoorBitsJ
namespace Go.Proofs.YtahhenbphnejiaaDoor.Bits
open Go.RowKit Go.Shelf
attribute [local go_sem] Oper.semAt_some

set_option maxRecDepth 100000 in
set_option maxHeartbeats 4000000 in
theorem count_any (B G size cap : Nat) (ws : List Nat) (w : World) (hs : SetIs w B G size cap ws) (hBl : B < w.heap.size) (hGl : G < w.heap.size) :
    Calls Tryd.prog 22 #[.pointer (some ⟨B, 0, none⟩)] w fun e w' => e = .returned (.int .i64 ((elems ws size).length : Nat)) ∧ Below w.heap.size w w' := by
  have hc := hs.cs
  have hcw := hs.cw
  have hl := Lib.hid hs.row.len
  have HS := Lib.hid hs
  have hlen : ws.length ≤ 2097152 := by have := hs.row.len; have := hs.small; omega
  have B1 : B < w.heap.size + 1 := by omega
  have B2 : B < w.heap.size + 1 + 1 := by omega
  refine (callsIn_wide (n := 5)).1 ?_
  refine callsIn_of_wp_marks Tryd.func22 rfl trivial ?_ rfl
  simp only [Tryd.ntmps22, List.size_toArray, List.length_cons, List.length_nil, Nat.reduceAdd, Nat.reduceSub, Array.replicate_succ, Array.replicate_zero, List.push_toArray, List.append_toArray, List.nil_append, List.cons_append]
  gi_wp2_with (refine ⟨trivial, ?_⟩; gi_at_call 47; refine (callsIn_wide.2 (from_any _ _ _ _ _)).mono ?_; rintro e w' ⟨rfl, rfl⟩)
  clear hc hcw hs
  generalize hW : World.alloc _ _ = W0
  have c3 : Boxed W0 w.heap.size 3 (.int .i64 0) := by rw [← hW]; exact ((Boxed.new w _ _).alloc _).alloc _
  have c9 : Boxed W0 (w.heap.size + 1) 60 (.slice (some ⟨G, 0, none⟩) ws.length cap) := by
    have h := Boxed.new (w.alloc (.cells #[.int .i64 0] 3)) 60 (.slice (some ⟨G, 0, none⟩) ws.length cap)
    simp only [World.size_alloc] at h
    rw [← hW]; exact h.alloc _
  have c10 : Boxed W0 (w.heap.size + 1 + 1) 3 (.int .i64 ((0 : Nat) : Int)) := by
    have h := Boxed.new ((w.alloc (.cells #[.int .i64 0] 3)).alloc (.cells #[.slice (some ⟨G, 0, none⟩) ws.length cap] 60)) 3 (.int .i64 0)
    simp only [World.size_alloc] at h
    rw [← hW]; exact h
  have hsz : w.heap.size ≤ W0.heap.size := Nat.le_of_lt c3.lt
  have hB0 : Below w.heap.size w W0 := by
    rw [← hW]
    exact (((Below.refl _ w).alloc (Nat.le_refl _) _).alloc (by simp) _).alloc (by simp; omega) _
  clear hW
  refine wpIn_rangeFunc_ownG rfl (by decide) (gf := 68) (lb := #[.pointer (some ⟨w.heap.size + 1 + 1, 0, none⟩), .pointer (some ⟨w.heap.size + 1, 0, none⟩)]) rfl trivial (enters_of Tryd.func68 (by kernel_rfl) rfl)
    (from_stops 4 (by decide) (w.heap.size + 1 + 1) (w.heap.size + 1) w.heap.size G 0 cap ws hlen hGl _ hsz c10.cell c9.cell c10.lt c9.lt (fun j hj => (hB0.cell (p := ⟨G, j, none⟩) hGl).trans (HS.out.at_ j hj))) kpF_t (kpF_b hsz) (Below.refl _ _) (fun _ => rfl)
    (fun pre W => Boxed W w.heap.size 3 (.int .i64 ((toldP ws pre).length : Nat)) ∧ Below w.heap.size w W)
    (fun _ _ _ => False)
    (fun s X Y row hx hg hr => ⟨boxed_keep hx.1 hg (fun r e => (hr r e).2), hx.2.grown hg hx.2.size (fun k e => Nat.le_trans hsz (hr k e).1)⟩)
    (fun _ _ _ _ _ hs _ _ => hs)
    ⟨c3, hB0⟩
    (fun x => { tmps := #[.pointer (some ⟨B, 0, none⟩), undef, .int .i64 0, .pointer (some ⟨w.heap.size, 0, none⟩), undef, .int .u64 (wd ws x), .pointer (some ⟨B, 0, none⟩), .bool false, .pointer (some ⟨B, 0, none⟩), .pointer (some ⟨B, 0, none⟩), .pointer (some ⟨B, 1, none⟩),
      .slice (some ⟨G, 0, none⟩) ws.length cap, .func (.func 68) #[] #[.pointer (some ⟨w.heap.size + 1 + 1, 0, none⟩), .pointer (some ⟨w.heap.size + 1, 0, none⟩)], .int .i64 ((x : Int) * 64), .int .u64 (wd ws x), undef, undef, undef, undef, undef], defers := [] }) ?assign ?body ?done ?stop
  case assign =>
    intro l x W K hK
    unfold encW
    gi_wp2
    exact hK
  case body =>
    rintro l pre x W ⟨b3, hB⟩ hlt
    have k3 := b3.cell
    have f3 := b3.frozen
    have hx := HS.out.row.lt x
    have hsum : IntKind.i64.wrap (((toldP ws pre).length : Nat) + ((bitsOf (wd ws x)).length : Nat)) = (((toldP ws (pre ++ [x])).length : Nat) : Int) := by
      have h1 := toldP_length_le ws pre
      have h2 := bitsOf_length_le (wd ws x)
      rw [toldP_snoc, List.length_append, List.length_map, IntKind.wrap_i64]
      omega
    have FIN : ∀ a, ownPostG W0.heap.size (KpF w.heap.size (w.heap.size + 1)) (fun pre W => Boxed W w.heap.size 3 (.int .i64 ((toldP ws pre).length : Nat)) ∧ Below w.heap.size w W) (fun _ _ _ => False) (pre ++ [x]) W .normal a
        (W.setCell ⟨w.heap.size, 0, none⟩ (.int .i64 ((toldP ws (pre ++ [x])).length : Nat))).drew := fun a => by
      have hb := ((Below.refl w.heap.size W).setCell (p := ⟨w.heap.size, 0, none⟩) (Nat.le_refl _) (.int .i64 ((toldP ws (pre ++ [x])).length : Nat))).drew
      refine ⟨⟨(KeepsOthers.setCell W _ _).size, fun k o _ => (KeepsOthers.setCell W _ _).same k o⟩, ⟨hb, fun v hv => ?_⟩, b3.set _, hB.trans hb⟩
      exact (other (fun e => by have := congrArg Addr.block e; simp at this)).trans hv
    gi_wp2
    refine wpIn_region_any (by kernel_rfl) ?_
    change wpAnyIn _ _ _ _ _ _ _ _ _ (World.drew _)
    refine wpAnyIn_ready (rs := [0, 1]) (by kernel_rfl) (by simp) ?_
    refine AllReadyIn.cons rfl (fun K hK => ?_) (AllReadyIn.cons rfl (fun K hK => ?_) AllReadyIn.nil)
    · go_simp
      refine hK _ _ ?_
      clear hK K
      refine wpAnyIn_ready (rs := [1]) (by kernel_rfl) (by simp) ?_
      refine AllReadyIn.cons rfl (fun K hK => ?_) AllReadyIn.nil
      go_simp
      refine hK _ _ ?_
      clear hK K
      refine wpAnyIn_ready (rs := [2]) (by kernel_rfl) (by simp) ?_
      refine AllReadyIn.cons rfl (fun K hK => ?_) AllReadyIn.nil
      go_simp
      refine ⟨trivial, ?_⟩
      refine (CallsIn.inRound l (callsIn_wide.2 (ones_any _ hx _))).mono ?_
      rintro e w' ⟨rfl, rfl⟩
      refine hK _ _ ?_
      clear hK K
      refine wpAnyIn_ready (rs := [3]) (by kernel_rfl) (by simp) ?_
      refine AllReadyIn.cons rfl (fun K hK => ?_) AllReadyIn.nil
      go_simp
      refine hK _ _ ?_
      clear hK K
      refine wpAnyIn_ready (rs := [4]) (by kernel_rfl) (by simp) ?_
      refine AllReadyIn.cons rfl (fun K hK => ?_) AllReadyIn.nil
      go_simp
      refine hK _ _ ?_
      clear hK K
      refine wpAnyIn_done (by kernel_rfl) ?_ _
      exact FIN { tmps := #[], defers := [] }
    · go_simp
      refine hK _ _ ?_
      clear hK K
      refine wpAnyIn_ready (rs := [0, 2]) (by kernel_rfl) (by simp) ?_
      refine AllReadyIn.cons rfl (fun K hK => ?_) (AllReadyIn.cons rfl (fun K hK => ?_) AllReadyIn.nil)
      · go_simp
        refine hK _ _ ?_
        clear hK K
        refine wpAnyIn_ready (rs := [2]) (by kernel_rfl) (by simp) ?_
        refine AllReadyIn.cons rfl (fun K hK => ?_) AllReadyIn.nil
        go_simp
        refine ⟨trivial, ?_⟩
        refine (CallsIn.inRound l (callsIn_wide.2 (ones_any _ hx _))).mono ?_
        rintro e w' ⟨rfl, rfl⟩
        refine hK _ _ ?_
        clear hK K
        refine wpAnyIn_ready (rs := [3]) (by kernel_rfl) (by simp) ?_
        refine AllReadyIn.cons rfl (fun K hK => ?_) AllReadyIn.nil
        go_simp
        refine hK _ _ ?_
        clear hK K
        refine wpAnyIn_ready (rs := [4]) (by kernel_rfl) (by simp) ?_
        refine AllReadyIn.cons rfl (fun K hK => ?_) AllReadyIn.nil
        go_simp
        refine hK _ _ ?_
        clear hK K
        refine wpAnyIn_done (by kernel_rfl) ?_ _
        exact FIN { tmps := #[], defers := [] }
      · go_simp
        refine ⟨trivial, ?_⟩
        refine (CallsIn.inRound l (callsIn_wide.2 (ones_any _ hx _))).mono ?_
        rintro e w' ⟨rfl, rfl⟩
        refine hK _ _ ?_
        clear hK K
        refine wpAnyIn_ready (rs := [0]) (by kernel_rfl) (by simp) ?_
        refine AllReadyIn.cons rfl (fun K hK => ?_) AllReadyIn.nil
        go_simp
        refine hK _ _ ?_
        clear hK K
        refine wpAnyIn_ready (rs := [3]) (by kernel_rfl) (by simp) ?_
        refine AllReadyIn.cons rfl (fun K hK => ?_) AllReadyIn.nil
        go_simp
        refine hK _ _ ?_
        clear hK K
        refine wpAnyIn_ready (rs := [4]) (by kernel_rfl) (by simp) ?_
        refine AllReadyIn.cons rfl (fun K hK => ?_) AllReadyIn.nil
        go_simp
        refine hK _ _ ?_
        clear hK K
        refine wpAnyIn_done (by kernel_rfl) ?_ _
        exact FIN { tmps := #[], defers := [] }
  case done =>
    rintro D ys W hD rfl ⟨b3, hB⟩ hK
    have k3 := b3.cell
    gi_wp2
    refine ⟨by simp, .inl ⟨_, _, rfl, run_takeDeferred hK, ?_⟩⟩
    refine ⟨_, results_tmp rfl _ _ _, ?_, hB.trans (belowK_b (w := w) (Nat.le_refl _) W D _ _ (by omega) hK rfl rfl)⟩
    have h : toldP ws (upto 0 ws.length) = elems ws size := toldP_elems HS.out.row
    exact ret_int (by rw [h])
  case stop =>
    rintro D c pre W _ _ h _
    exact h.elim
end Go.Proofs.YtahhenbphnejiaaDoor.Bits
