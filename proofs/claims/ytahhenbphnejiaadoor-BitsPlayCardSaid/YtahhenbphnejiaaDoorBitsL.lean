/-
  (*bits.Set).All, of every set that there is: what whoever ranges over it is told.
-/
import Derived.Test.YtahhenbphnejiaaDoorBitsK
namespace Go.Proofs.YtahhenbphnejiaaDoor.Bits
open Go.RowKit Go.Shelf
attribute [local go_sem] Oper.semAt_some

set_option maxRecDepth 100000 in
set_option maxHeartbeats 4000000 in
theorem all1_in (Br B G size cap l : Nat) (ws : List Nat) (W : World) (hs : SetIs W B G size cap ws) (hBr : W.cell? ⟨Br, 0, none⟩ = some (.pointer (some ⟨B, 0, none⟩))) (hBrl : Br < W.heap.size) (hBl : B < W.heap.size)
    (J : Nat → List Nat → World → Prop) (Jx : List Nat → World → Prop) (hJ : ∀ hi, OwnFrom W.heap.size (J hi)) (hJx : OwnFrom W.heap.size Jx) (hT : ∀ hi pre W1, J hi pre W1 → TzTab W1)
    (hY : ∀ m hi pre x W1, J hi pre W1 → hi ≤ W1.heap.size → pre.length < 64 * ws.length → YieldAt Fence.wide m Tryd.prog l #[.int .i64 ((x : Nat) : Int)] W1 fun e W' => KeepsFrom W.heap.size W1 W' ∧
      ((e = .returned (.bool true) ∧ J hi (pre ++ [x]) W' ∧ KeepsIn W.heap.size hi W1 W') ∨ (e = .returned (.bool false) ∧ Jx (pre ++ [x]) W')))
    (h0 : ∀ hi, J hi [] W) :
    CallsIn Fence.wide 5 Tryd.prog 69 #[.func (.yield l) #[] #[], .pointer (some ⟨Br, 0, none⟩)] W fun e W' => (∃ v, e = .returned v) ∧
      ((∃ hi xs, xs = elems ws size ∧ J hi xs W') ∨ (∃ pre, pre <+: elems ws size ∧ Jx pre W')) := by
  have hcw := hs.cw
  have HS := Lib.hid hs
  have hlen : ws.length ≤ 2097152 := by have := hs.row.len; have := hs.small; omega
  have B1 : B < W.heap.size + 1 := by omega
  have B3 : Br < W.heap.size + 1 := by omega
  clear hs
  refine callsIn_of_wp_marks Tryd.func69 rfl trivial ?_ rfl
  simp only [Tryd.ntmps69, List.size_toArray, List.length_cons, List.length_nil, Nat.reduceAdd, Nat.reduceSub, Array.replicate_succ, Array.replicate_zero, List.push_toArray, List.append_toArray, List.nil_append, List.cons_append]
  have HC := Lib.hid (fun (W1 : World) (h : ∀ j, j < ws.length → W1.cell? ⟨G, j, none⟩ = some (.int .u64 (wd ws j))) => clone_any G cap ws W1 hlen h)
  gi_wp2_with (first
    | (refine ⟨trivial, ?_⟩; gi_at_call 51; refine (callsIn_wide.2 (HC.out _ (fun j hj => Lib.cell?_alloc_some _ (HS.out.at_ j hj)))).mono ?_; rintro e w1 ⟨G', cap', rfl, hG1, hG2, hwat, hb1⟩)
    | (refine ⟨trivial, ?_⟩; gi_at_call 47; refine (callsIn_wide.2 (from_any _ _ _ _ _)).mono ?_; rintro e w' ⟨rfl, rfl⟩))
  clear hcw HC
  generalize hW : World.alloc _ _ = W0
  have hgA : W.grownBy (W.alloc (.cells #[.func (.yield l) #[] #[]] 34)) none := World.grownBy_alloc W _ none
  have hg1 : (W.alloc (.cells #[.func (.yield l) #[] #[]] 34)).grownBy w1 none := ⟨hb1.os, hb1.tape, hb1.output, hb1.size, fun k hk _ => hb1.block k hk⟩
  have hsA : W.heap.size + 1 ≤ w1.heap.size := by have := hb1.size; simpa using this
  have cY : Boxed W0 W.heap.size 34 (.func (.yield l) #[] #[]) := by
    have h : Boxed w1 W.heap.size 34 (.func (.yield l) #[] #[]) := boxed_keep (Boxed.new W _ _) hg1 (fun r e => by cases e)
    rw [← hW]; exact (h.alloc _).alloc _
  have cS : Boxed W0 w1.heap.size 60 (.slice (some ⟨G', 0, none⟩) ws.length cap') := by rw [← hW]; exact (Boxed.new w1 _ _).alloc _
  have cP : Boxed W0 (w1.heap.size + 1) 3 (.int .i64 ((0 : Nat) : Int)) := by
    have h := Boxed.new (w1.alloc (.cells #[.slice (some ⟨G', 0, none⟩) ws.length cap'] 60)) 3 (.int .i64 0)
    simp only [World.size_alloc] at h
    rw [← hW]; exact h
  have hs0 : W0.heap.size = w1.heap.size + 2 := by rw [← hW]; simp
  have hcW : ∀ j, j < ws.length → W0.cell? ⟨G', j, none⟩ = some (.int .u64 (wd ws j)) := fun j hj => by
    rw [← hW]; exact Lib.cell?_alloc_some _ (Lib.cell?_alloc_some _ (hwat.at_ j hj))
  have hJ0 : J W0.heap.size [] W0 := by
    have h := hJ W0.heap.size _ _ _ none (hJ W0.heap.size _ _ _ none (h0 _) hgA (fun r e => by cases e)) hg1 (fun r e => by cases e)
    rw [← hW] at h ⊢
    exact (hJ _).alloc _ ((hJ _).alloc _ h)
  simp only [World.size_alloc] at hG1
  have hSW := HS.out.row
  clear hW hwat hg1 hgA hb1
  have hmono : ∀ (hi : Nat), OwnFrom W0.heap.size (J hi) := fun hi s X Y row hs hg hr => hJ hi s X Y row hs hg (fun r e => ⟨by have := (hr r e).1; omega, (hr r e).2⟩)
  refine wpIn_rangeFunc_ownG rfl (by decide) (gf := 68) (lb := #[.pointer (some ⟨w1.heap.size + 1, 0, none⟩), .pointer (some ⟨w1.heap.size, 0, none⟩)]) rfl trivial (enters_of Tryd.func68 (by kernel_rfl) rfl)
    (from_stops_c 4 (by decide) (w1.heap.size + 1) w1.heap.size G' 0 cap' ws hlen W0 cP.cell cS.cell cP.lt cS.lt (by omega) hcW) kpC_t (fun W l o o' _ h hc _ => kpC_b W l o o' h hc) (Below.refl _ _) (fun _ => rfl)
    (fun pre X => J W0.heap.size (toldP ws pre) X ∧ W0.heap.size ≤ X.heap.size ∧ Boxed X W.heap.size 34 (.func (.yield l) #[] #[]))
    (fun c pre X => c = Code.ret ∧ ∃ pre0 x k, pre = pre0 ++ [x] ∧ k ≤ (bitsOf (wd ws x)).length ∧ Jx (toldP ws pre0 ++ ((bitsOf (wd ws x)).map (x * 64 + ·)).take k) X)
    (fun s X Y row hx hg hr => ⟨hmono _ _ _ _ _ hx.1 hg hr, Nat.le_trans hx.2.1 hg.size, boxed_keep hx.2.2 hg (fun r e => (hr r e).2)⟩)
    (fun c s X Y row hx hg hr => by
      obtain ⟨e1, pre0, x, k, e2, e3, e4⟩ := hx
      exact ⟨e1, pre0, x, k, e2, e3, hJx _ X Y row e4 hg (fun r e => ⟨by have := (hr r e).1; omega, (hr r e).2⟩)⟩)
    ⟨hJ0, Nat.le_refl _, cY⟩
    (fun x => { tmps := #[.func (.yield l) #[] #[], .pointer (some ⟨Br, 0, none⟩), .pointer (some ⟨W.heap.size, 0, none⟩), .int .i64 ((x : Int) * 64), .int .u64 (wd ws x), .pointer (some ⟨B, 0, none⟩), .bool false, .pointer (some ⟨B, 0, none⟩), .pointer (some ⟨B, 0, none⟩), .pointer (some ⟨B, 1, none⟩),
      .slice (some ⟨G, 0, none⟩) ws.length cap, .slice (some ⟨G', 0, none⟩) ws.length cap', .func (.func 68) #[] #[.pointer (some ⟨w1.heap.size + 1, 0, none⟩), .pointer (some ⟨w1.heap.size, 0, none⟩)], .int .i64 ((x : Int) * 64), .int .u64 (wd ws x), undef, undef, undef, undef, undef, undef, undef, undef, undef, undef, undef, undef, undef], defers := [] }) ?assign ?body ?done ?stop
  case assign =>
    intro l x W K hK
    unfold encW
    gi_wp2
    exact hK
  case body =>
    rintro l' pre x X ⟨hj, hx0, bY⟩ hlt
    have hvx := hSW.lt x
    gi_wp2
    gi_loopw [4] (fun i wr => ∃ (v : Nat) (dn : List Nat), i = .int .u64 v ∧ v < 18446744073709551616 ∧ bitsOf (wd ws x) = dn ++ bitsOf v ∧ J W0.heap.size (toldP ws pre ++ dn.map (x * 64 + ·)) wr ∧ KeepsFrom W0.heap.size X wr ∧ KpC G' w1.heap.size X wr ∧ W0.heap.size ≤ wr.heap.size ∧ Boxed wr W.heap.size 34 (.func (.yield l) #[] #[]))
      (fun i _ => (bitsOf (intOf i).toNat).length)
    case atStart => exact ⟨wd ws x, [], rfl, hvx, rfl, by simpa using hj, KeepsFrom.refl _ _, fun _ _ _ h => h, hx0, bY⟩
    case round =>
      obtain ⟨v, dn, rfl, hv, hd, hj2, hk, hkc, hsz, bY2⟩ := hrel
      have hcY := bY2.cell
      by_cases hv0 : v = 0
      · subst hv0
        have h00 : ((((0 : Nat) : Int)) != 0) = false := rfl
        gi_wp2
        rw [bitsOf_zero, List.append_nil] at hd
        exact ⟨hk, hkc, by rw [toldP_snoc, hd]; exact hj2, hsz, bY2⟩
      · have hv1 : (((v : Nat) : Int) != 0) = true := by simp; exact hv0
        have hst := bitsOf_step v hv0 hv
        have hct := (ctz_spec v hv0 hv).2.2
        have hxl : x < ws.length := by
          rcases Nat.lt_or_ge x ws.length with h | h
          · exact h
          · rw [wd_over h, bitsOf_zero, hst] at hd
            cases dn <;> cases hd
        have hbl := bitsOf_length_le (wd ws x)
        have htl := toldP_length_le ws pre
        have hlen2 : (toldP ws pre ++ dn.map (x * 64 + ·)).length < 64 * ws.length := by
          have h1 := congrArg List.length hd
          rw [List.length_append, hst, List.length_cons] at h1
          rw [List.length_append, List.length_map]
          omega
        have hsm : IntKind.i64.wrap ((x : Int) * 64 + ((Lib.ctz 64 v : Nat) : Int)) = (x : Int) * 64 + ((Lib.ctz 64 v : Nat) : Int) := by
          rw [IntKind.wrap_i64]; omega
        have hjd : J W0.heap.size (toldP ws pre ++ dn.map (x * 64 + ·)) wr.drew := hJ _ _ _ _ none hj2 ⟨rfl, rfl, rfl, Nat.le_refl _, fun _ _ _ => rfl⟩ (fun r e => by cases e)
        have hTz := hT _ _ _ hjd
        obtain ⟨fn, tmps, asg, bdy, hy, hR⟩ := hY 2 _ _ (x * 64 + Lib.ctz 64 v) wr.drew hjd hsz hlen2
        rw [Int.natCast_add, Int.natCast_mul, Int.cast_ofNat_Int] at hy
        gi_wp2
        obtain ⟨QM, hQM⟩ : ∃ QM : Exit → Act → World → Prop, QM = (fun e a' w' => e = .normal ∧ ∃ b, a' = ({ tmps := #[.func (.yield l) #[] #[], .pointer (some ⟨Br, 0, none⟩), .pointer (some ⟨W.heap.size, 0, none⟩), .int .i64 ((x : Int) * 64), .int .u64 v, .pointer (some ⟨B, 0, none⟩), .bool false, .pointer (some ⟨B, 0, none⟩), .pointer (some ⟨B, 0, none⟩), .pointer (some ⟨B, 1, none⟩),
          .slice (some ⟨G, 0, none⟩) ws.length cap, .slice (some ⟨G', 0, none⟩) ws.length cap', .func (.func 68) #[] #[.pointer (some ⟨w1.heap.size + 1, 0, none⟩), .pointer (some ⟨w1.heap.size, 0, none⟩)], .int .i64 ((x : Int) * 64), .int .u64 (wd ws x), .int .u64 v, .bool true, u17, u18, u19, u20, .func (.yield l) #[] #[], .int .i64 ((x : Int) * 64), .int .u64 v, .int .i64 (Lib.ctz 64 v), .int .i64 ((x : Int) * 64 + ((Lib.ctz 64 v : Nat) : Int)), .bool b, .bool (!b)], defers := [] } : Act) ∧ KeepsFrom W.heap.size wr.drew w' ∧ ((b = true ∧ J W0.heap.size (toldP ws pre ++ dn.map (x * 64 + ·) ++ [x * 64 + Lib.ctz 64 v]) w' ∧ KeepsIn W.heap.size W0.heap.size wr.drew w') ∨ (b = false ∧ Jx (toldP ws pre ++ dn.map (x * 64 + ·) ++ [x * 64 + Lib.ctz 64 v]) w'))) := ⟨_, rfl⟩
        have HQ := Lib.hid hQM
        have H0 := Lib.hid hs0
        clear hQM hs0
        refine wpIn_mono (Q := QM) ?region ?rest
        case region =>
          refine wpIn_region_any (by kernel_rfl) ?_
          change wpAnyIn _ _ _ _ _ _ _ _ _ (World.drew _)
          refine wpAnyIn_ready (rs := [0, 1, 2]) (by kernel_rfl) (by simp) ?_
          refine AllReadyIn.cons rfl (fun K hK => ?_) (AllReadyIn.cons rfl (fun K hK => ?_) (AllReadyIn.cons rfl (fun K hK => ?_) AllReadyIn.nil))
          · go_simp
            refine hK _ _ ?_
            clear hK K
            refine wpAnyIn_ready (rs := [1, 2]) (by kernel_rfl) (by simp) ?_
            refine AllReadyIn.cons rfl (fun K hK => ?_) (AllReadyIn.cons rfl (fun K hK => ?_) AllReadyIn.nil)
            · go_simp
              refine hK _ _ ?_
              clear hK K
              refine wpAnyIn_ready (rs := [2]) (by kernel_rfl) (by simp) ?_
              refine AllReadyIn.cons rfl (fun K hK => ?_) AllReadyIn.nil
              go_simp
              refine hK _ _ ?_
              clear hK K
              refine wpAnyIn_ready (rs := [3]) (by kernel_rfl) (by simp) ?_
              refine AllReadyIn.cons rfl (fun K hK => ?_) AllReadyIn.nil
              go_simp
              refine ⟨trivial, ?_⟩
              refine (CallsIn.inRound l' (callsIn_wide.2 (tz_any _ hv hv0 _ hTz))).mono ?_
              rintro e w' ⟨rfl, rfl⟩
              refine hK _ _ ?_
              clear hK K
              refine wpAnyIn_ready (rs := [4]) (by kernel_rfl) (by simp) ?_
              refine AllReadyIn.cons rfl (fun K hK => ?_) AllReadyIn.nil
              go_simp
              refine hK _ _ ?_
              clear hK K
              refine wpAnyIn_ready (rs := [5]) (by kernel_rfl) (by simp) ?_
              refine AllReadyIn.cons rfl (fun K hK => ?_) AllReadyIn.nil
              go_simp
              refine RoundIn.mono (F := Fence.wide.inRound l') hR ?_
              rintro e w' ⟨hkf, ⟨rfl, hj', hki⟩ | ⟨rfl, hjx⟩⟩
              all_goals
                refine hK _ _ ?_
                clear hK K
                refine wpAnyIn_ready (rs := [6]) (by kernel_rfl) (by simp) ?_
                refine AllReadyIn.cons rfl (fun K hK => ?_) AllReadyIn.nil
                go_simp
                refine hK _ _ ?_
                clear hK K
                refine wpAnyIn_done (by kernel_rfl) ?_ _
              · rw [HQ.out]
                exact ⟨rfl, true, rfl, hkf, .inl ⟨rfl, hj', hki⟩⟩
              · rw [HQ.out]
                exact ⟨rfl, false, rfl, hkf, .inr ⟨rfl, hjx⟩⟩
            · go_simp
              refine hK _ _ ?_
              clear hK K
              refine wpAnyIn_ready (rs := [1, 3]) (by kernel_rfl) (by simp) ?_
              refine AllReadyIn.cons rfl (fun K hK => ?_) (AllReadyIn.cons rfl (fun K hK => ?_) AllReadyIn.nil)
              · go_simp
                refine hK _ _ ?_
                clear hK K
                refine wpAnyIn_ready (rs := [3]) (by kernel_rfl) (by simp) ?_
                refine AllReadyIn.cons rfl (fun K hK => ?_) AllReadyIn.nil
                go_simp
                refine ⟨trivial, ?_⟩
                refine (CallsIn.inRound l' (callsIn_wide.2 (tz_any _ hv hv0 _ hTz))).mono ?_
                rintro e w' ⟨rfl, rfl⟩
                refine hK _ _ ?_
                clear hK K
                refine wpAnyIn_ready (rs := [4]) (by kernel_rfl) (by simp) ?_
                refine AllReadyIn.cons rfl (fun K hK => ?_) AllReadyIn.nil
                go_simp
                refine hK _ _ ?_
                clear hK K
                refine wpAnyIn_ready (rs := [5]) (by kernel_rfl) (by simp) ?_
                refine AllReadyIn.cons rfl (fun K hK => ?_) AllReadyIn.nil
                go_simp
                refine RoundIn.mono (F := Fence.wide.inRound l') hR ?_
                rintro e w' ⟨hkf, ⟨rfl, hj', hki⟩ | ⟨rfl, hjx⟩⟩
                all_goals
                  refine hK _ _ ?_
                  clear hK K
                  refine wpAnyIn_ready (rs := [6]) (by kernel_rfl) (by simp) ?_
                  refine AllReadyIn.cons rfl (fun K hK => ?_) AllReadyIn.nil
                  go_simp
                  refine hK _ _ ?_
                  clear hK K
                  refine wpAnyIn_done (by kernel_rfl) ?_ _
                · rw [HQ.out]
                  exact ⟨rfl, true, rfl, hkf, .inl ⟨rfl, hj', hki⟩⟩
                · rw [HQ.out]
                  exact ⟨rfl, false, rfl, hkf, .inr ⟨rfl, hjx⟩⟩
              · go_simp
                refine ⟨trivial, ?_⟩
                refine (CallsIn.inRound l' (callsIn_wide.2 (tz_any _ hv hv0 _ hTz))).mono ?_
                rintro e w' ⟨rfl, rfl⟩
                refine hK _ _ ?_
                clear hK K
                refine wpAnyIn_ready (rs := [1]) (by kernel_rfl) (by simp) ?_
                refine AllReadyIn.cons rfl (fun K hK => ?_) AllReadyIn.nil
                go_simp
                refine hK _ _ ?_
                clear hK K
                refine wpAnyIn_ready (rs := [4]) (by kernel_rfl) (by simp) ?_
                refine AllReadyIn.cons rfl (fun K hK => ?_) AllReadyIn.nil
                go_simp
                refine hK _ _ ?_
                clear hK K
                refine wpAnyIn_ready (rs := [5]) (by kernel_rfl) (by simp) ?_
                refine AllReadyIn.cons rfl (fun K hK => ?_) AllReadyIn.nil
                go_simp
                refine RoundIn.mono (F := Fence.wide.inRound l') hR ?_
                rintro e w' ⟨hkf, ⟨rfl, hj', hki⟩ | ⟨rfl, hjx⟩⟩
                all_goals
                  refine hK _ _ ?_
                  clear hK K
                  refine wpAnyIn_ready (rs := [6]) (by kernel_rfl) (by simp) ?_
                  refine AllReadyIn.cons rfl (fun K hK => ?_) AllReadyIn.nil
                  go_simp
                  refine hK _ _ ?_
                  clear hK K
                  refine wpAnyIn_done (by kernel_rfl) ?_ _
                · rw [HQ.out]
                  exact ⟨rfl, true, rfl, hkf, .inl ⟨rfl, hj', hki⟩⟩
                · rw [HQ.out]
                  exact ⟨rfl, false, rfl, hkf, .inr ⟨rfl, hjx⟩⟩
          · go_simp
            refine hK _ _ ?_
            clear hK K
            refine wpAnyIn_ready (rs := [0, 2]) (by kernel_rfl) (by simp) ?_
            refine AllReadyIn.cons rfl (fun K hK => ?_) (AllReadyIn.cons rfl (fun K hK => ?_) AllReadyIn.nil)
            · go_simp
              refine hK _ _ ?_
              clear hK K
              refine wpAnyIn_ready (rs := [2]) (by kernel_rfl) (by simp) ?_
              refine AllReadyIn.cons rfl (fun K hK => ?_) AllReadyIn.nil
              go_simp
              refine hK _ _ ?_
              clear hK K
              refine wpAnyIn_ready (rs := [3]) (by kernel_rfl) (by simp) ?_
              refine AllReadyIn.cons rfl (fun K hK => ?_) AllReadyIn.nil
              go_simp
              refine ⟨trivial, ?_⟩
              refine (CallsIn.inRound l' (callsIn_wide.2 (tz_any _ hv hv0 _ hTz))).mono ?_
              rintro e w' ⟨rfl, rfl⟩
              refine hK _ _ ?_
              clear hK K
              refine wpAnyIn_ready (rs := [4]) (by kernel_rfl) (by simp) ?_
              refine AllReadyIn.cons rfl (fun K hK => ?_) AllReadyIn.nil
              go_simp
              refine hK _ _ ?_
              clear hK K
              refine wpAnyIn_ready (rs := [5]) (by kernel_rfl) (by simp) ?_
              refine AllReadyIn.cons rfl (fun K hK => ?_) AllReadyIn.nil
              go_simp
              refine RoundIn.mono (F := Fence.wide.inRound l') hR ?_
              rintro e w' ⟨hkf, ⟨rfl, hj', hki⟩ | ⟨rfl, hjx⟩⟩
              all_goals
                refine hK _ _ ?_
                clear hK K
                refine wpAnyIn_ready (rs := [6]) (by kernel_rfl) (by simp) ?_
                refine AllReadyIn.cons rfl (fun K hK => ?_) AllReadyIn.nil
                go_simp
                refine hK _ _ ?_
                clear hK K
                refine wpAnyIn_done (by kernel_rfl) ?_ _
              · rw [HQ.out]
                exact ⟨rfl, true, rfl, hkf, .inl ⟨rfl, hj', hki⟩⟩
              · rw [HQ.out]
                exact ⟨rfl, false, rfl, hkf, .inr ⟨rfl, hjx⟩⟩
            · go_simp
              refine hK _ _ ?_
              clear hK K
              refine wpAnyIn_ready (rs := [0, 3]) (by kernel_rfl) (by simp) ?_
              refine AllReadyIn.cons rfl (fun K hK => ?_) (AllReadyIn.cons rfl (fun K hK => ?_) AllReadyIn.nil)
              · go_simp
                refine hK _ _ ?_
                clear hK K
                refine wpAnyIn_ready (rs := [3]) (by kernel_rfl) (by simp) ?_
                refine AllReadyIn.cons rfl (fun K hK => ?_) AllReadyIn.nil
                go_simp
                refine ⟨trivial, ?_⟩
                refine (CallsIn.inRound l' (callsIn_wide.2 (tz_any _ hv hv0 _ hTz))).mono ?_
                rintro e w' ⟨rfl, rfl⟩
                refine hK _ _ ?_
                clear hK K
                refine wpAnyIn_ready (rs := [4]) (by kernel_rfl) (by simp) ?_
                refine AllReadyIn.cons rfl (fun K hK => ?_) AllReadyIn.nil
                go_simp
                refine hK _ _ ?_
                clear hK K
                refine wpAnyIn_ready (rs := [5]) (by kernel_rfl) (by simp) ?_
                refine AllReadyIn.cons rfl (fun K hK => ?_) AllReadyIn.nil
                go_simp
                refine RoundIn.mono (F := Fence.wide.inRound l') hR ?_
                rintro e w' ⟨hkf, ⟨rfl, hj', hki⟩ | ⟨rfl, hjx⟩⟩
                all_goals
                  refine hK _ _ ?_
                  clear hK K
                  refine wpAnyIn_ready (rs := [6]) (by kernel_rfl) (by simp) ?_
                  refine AllReadyIn.cons rfl (fun K hK => ?_) AllReadyIn.nil
                  go_simp
                  refine hK _ _ ?_
                  clear hK K
                  refine wpAnyIn_done (by kernel_rfl) ?_ _
                · rw [HQ.out]
                  exact ⟨rfl, true, rfl, hkf, .inl ⟨rfl, hj', hki⟩⟩
                · rw [HQ.out]
                  exact ⟨rfl, false, rfl, hkf, .inr ⟨rfl, hjx⟩⟩
              · go_simp
                refine ⟨trivial, ?_⟩
                refine (CallsIn.inRound l' (callsIn_wide.2 (tz_any _ hv hv0 _ hTz))).mono ?_
                rintro e w' ⟨rfl, rfl⟩
                refine hK _ _ ?_
                clear hK K
                refine wpAnyIn_ready (rs := [0, 4]) (by kernel_rfl) (by simp) ?_
                refine AllReadyIn.cons rfl (fun K hK => ?_) (AllReadyIn.cons rfl (fun K hK => ?_) AllReadyIn.nil)
                · go_simp
                  refine hK _ _ ?_
                  clear hK K
                  refine wpAnyIn_ready (rs := [4]) (by kernel_rfl) (by simp) ?_
                  refine AllReadyIn.cons rfl (fun K hK => ?_) AllReadyIn.nil
                  go_simp
                  refine hK _ _ ?_
                  clear hK K
                  refine wpAnyIn_ready (rs := [5]) (by kernel_rfl) (by simp) ?_
                  refine AllReadyIn.cons rfl (fun K hK => ?_) AllReadyIn.nil
                  go_simp
                  refine RoundIn.mono (F := Fence.wide.inRound l') hR ?_
                  rintro e w' ⟨hkf, ⟨rfl, hj', hki⟩ | ⟨rfl, hjx⟩⟩
                  all_goals
                    refine hK _ _ ?_
                    clear hK K
                    refine wpAnyIn_ready (rs := [6]) (by kernel_rfl) (by simp) ?_
                    refine AllReadyIn.cons rfl (fun K hK => ?_) AllReadyIn.nil
                    go_simp
                    refine hK _ _ ?_
                    clear hK K
                    refine wpAnyIn_done (by kernel_rfl) ?_ _
                  · rw [HQ.out]
                    exact ⟨rfl, true, rfl, hkf, .inl ⟨rfl, hj', hki⟩⟩
                  · rw [HQ.out]
                    exact ⟨rfl, false, rfl, hkf, .inr ⟨rfl, hjx⟩⟩
                · go_simp
                  refine hK _ _ ?_
                  clear hK K
                  refine wpAnyIn_ready (rs := [0]) (by kernel_rfl) (by simp) ?_
                  refine AllReadyIn.cons rfl (fun K hK => ?_) AllReadyIn.nil
                  go_simp
                  refine hK _ _ ?_
                  clear hK K
                  refine wpAnyIn_ready (rs := [5]) (by kernel_rfl) (by simp) ?_
                  refine AllReadyIn.cons rfl (fun K hK => ?_) AllReadyIn.nil
                  go_simp
                  refine RoundIn.mono (F := Fence.wide.inRound l') hR ?_
                  rintro e w' ⟨hkf, ⟨rfl, hj', hki⟩ | ⟨rfl, hjx⟩⟩
                  all_goals
                    refine hK _ _ ?_
                    clear hK K
                    refine wpAnyIn_ready (rs := [6]) (by kernel_rfl) (by simp) ?_
                    refine AllReadyIn.cons rfl (fun K hK => ?_) AllReadyIn.nil
                    go_simp
                    refine hK _ _ ?_
                    clear hK K
                    refine wpAnyIn_done (by kernel_rfl) ?_ _
                  · rw [HQ.out]
                    exact ⟨rfl, true, rfl, hkf, .inl ⟨rfl, hj', hki⟩⟩
                  · rw [HQ.out]
                    exact ⟨rfl, false, rfl, hkf, .inr ⟨rfl, hjx⟩⟩
          · go_simp
            refine hK _ _ ?_
            clear hK K
            refine wpAnyIn_ready (rs := [0, 1, 3]) (by kernel_rfl) (by simp) ?_
            refine AllReadyIn.cons rfl (fun K hK => ?_) (AllReadyIn.cons rfl (fun K hK => ?_) (AllReadyIn.cons rfl (fun K hK => ?_) AllReadyIn.nil))
            · go_simp
              refine hK _ _ ?_
              clear hK K
              refine wpAnyIn_ready (rs := [1, 3]) (by kernel_rfl) (by simp) ?_
              refine AllReadyIn.cons rfl (fun K hK => ?_) (AllReadyIn.cons rfl (fun K hK => ?_) AllReadyIn.nil)
              · go_simp
                refine hK _ _ ?_
                clear hK K
                refine wpAnyIn_ready (rs := [3]) (by kernel_rfl) (by simp) ?_
                refine AllReadyIn.cons rfl (fun K hK => ?_) AllReadyIn.nil
                go_simp
                refine ⟨trivial, ?_⟩
                refine (CallsIn.inRound l' (callsIn_wide.2 (tz_any _ hv hv0 _ hTz))).mono ?_
                rintro e w' ⟨rfl, rfl⟩
                refine hK _ _ ?_
                clear hK K
                refine wpAnyIn_ready (rs := [4]) (by kernel_rfl) (by simp) ?_
                refine AllReadyIn.cons rfl (fun K hK => ?_) AllReadyIn.nil
                go_simp
                refine hK _ _ ?_
                clear hK K
                refine wpAnyIn_ready (rs := [5]) (by kernel_rfl) (by simp) ?_
                refine AllReadyIn.cons rfl (fun K hK => ?_) AllReadyIn.nil
                go_simp
                refine RoundIn.mono (F := Fence.wide.inRound l') hR ?_
                rintro e w' ⟨hkf, ⟨rfl, hj', hki⟩ | ⟨rfl, hjx⟩⟩
                all_goals
                  refine hK _ _ ?_
                  clear hK K
                  refine wpAnyIn_ready (rs := [6]) (by kernel_rfl) (by simp) ?_
                  refine AllReadyIn.cons rfl (fun K hK => ?_) AllReadyIn.nil
                  go_simp
                  refine hK _ _ ?_
                  clear hK K
                  refine wpAnyIn_done (by kernel_rfl) ?_ _
                · rw [HQ.out]
                  exact ⟨rfl, true, rfl, hkf, .inl ⟨rfl, hj', hki⟩⟩
                · rw [HQ.out]
                  exact ⟨rfl, false, rfl, hkf, .inr ⟨rfl, hjx⟩⟩
              · go_simp
                refine ⟨trivial, ?_⟩
                refine (CallsIn.inRound l' (callsIn_wide.2 (tz_any _ hv hv0 _ hTz))).mono ?_
                rintro e w' ⟨rfl, rfl⟩
                refine hK _ _ ?_
                clear hK K
                refine wpAnyIn_ready (rs := [1]) (by kernel_rfl) (by simp) ?_
                refine AllReadyIn.cons rfl (fun K hK => ?_) AllReadyIn.nil
                go_simp
                refine hK _ _ ?_
                clear hK K
                refine wpAnyIn_ready (rs := [4]) (by kernel_rfl) (by simp) ?_
                refine AllReadyIn.cons rfl (fun K hK => ?_) AllReadyIn.nil
                go_simp
                refine hK _ _ ?_
                clear hK K
                refine wpAnyIn_ready (rs := [5]) (by kernel_rfl) (by simp) ?_
                refine AllReadyIn.cons rfl (fun K hK => ?_) AllReadyIn.nil
                go_simp
                refine RoundIn.mono (F := Fence.wide.inRound l') hR ?_
                rintro e w' ⟨hkf, ⟨rfl, hj', hki⟩ | ⟨rfl, hjx⟩⟩
                all_goals
                  refine hK _ _ ?_
                  clear hK K
                  refine wpAnyIn_ready (rs := [6]) (by kernel_rfl) (by simp) ?_
                  refine AllReadyIn.cons rfl (fun K hK => ?_) AllReadyIn.nil
                  go_simp
                  refine hK _ _ ?_
                  clear hK K
                  refine wpAnyIn_done (by kernel_rfl) ?_ _
                · rw [HQ.out]
                  exact ⟨rfl, true, rfl, hkf, .inl ⟨rfl, hj', hki⟩⟩
                · rw [HQ.out]
                  exact ⟨rfl, false, rfl, hkf, .inr ⟨rfl, hjx⟩⟩
            · go_simp
              refine hK _ _ ?_
              clear hK K
              refine wpAnyIn_ready (rs := [0, 3]) (by kernel_rfl) (by simp) ?_
              refine AllReadyIn.cons rfl (fun K hK => ?_) (AllReadyIn.cons rfl (fun K hK => ?_) AllReadyIn.nil)
              · go_simp
                refine hK _ _ ?_
                clear hK K
                refine wpAnyIn_ready (rs := [3]) (by kernel_rfl) (by simp) ?_
                refine AllReadyIn.cons rfl (fun K hK => ?_) AllReadyIn.nil
                go_simp
                refine ⟨trivial, ?_⟩
                refine (CallsIn.inRound l' (callsIn_wide.2 (tz_any _ hv hv0 _ hTz))).mono ?_
                rintro e w' ⟨rfl, rfl⟩
                refine hK _ _ ?_
                clear hK K
                refine wpAnyIn_ready (rs := [4]) (by kernel_rfl) (by simp) ?_
                refine AllReadyIn.cons rfl (fun K hK => ?_) AllReadyIn.nil
                go_simp
                refine hK _ _ ?_
                clear hK K
                refine wpAnyIn_ready (rs := [5]) (by kernel_rfl) (by simp) ?_
                refine AllReadyIn.cons rfl (fun K hK => ?_) AllReadyIn.nil
                go_simp
                refine RoundIn.mono (F := Fence.wide.inRound l') hR ?_
                rintro e w' ⟨hkf, ⟨rfl, hj', hki⟩ | ⟨rfl, hjx⟩⟩
                all_goals
                  refine hK _ _ ?_
                  clear hK K
                  refine wpAnyIn_ready (rs := [6]) (by kernel_rfl) (by simp) ?_
                  refine AllReadyIn.cons rfl (fun K hK => ?_) AllReadyIn.nil
                  go_simp
                  refine hK _ _ ?_
                  clear hK K
                  refine wpAnyIn_done (by kernel_rfl) ?_ _
                · rw [HQ.out]
                  exact ⟨rfl, true, rfl, hkf, .inl ⟨rfl, hj', hki⟩⟩
                · rw [HQ.out]
                  exact ⟨rfl, false, rfl, hkf, .inr ⟨rfl, hjx⟩⟩
              · go_simp
                refine ⟨trivial, ?_⟩
                refine (CallsIn.inRound l' (callsIn_wide.2 (tz_any _ hv hv0 _ hTz))).mono ?_
                rintro e w' ⟨rfl, rfl⟩
                refine hK _ _ ?_
                clear hK K
                refine wpAnyIn_ready (rs := [0, 4]) (by kernel_rfl) (by simp) ?_
                refine AllReadyIn.cons rfl (fun K hK => ?_) (AllReadyIn.cons rfl (fun K hK => ?_) AllReadyIn.nil)
                · go_simp
                  refine hK _ _ ?_
                  clear hK K
                  refine wpAnyIn_ready (rs := [4]) (by kernel_rfl) (by simp) ?_
                  refine AllReadyIn.cons rfl (fun K hK => ?_) AllReadyIn.nil
                  go_simp
                  refine hK _ _ ?_
                  clear hK K
                  refine wpAnyIn_ready (rs := [5]) (by kernel_rfl) (by simp) ?_
                  refine AllReadyIn.cons rfl (fun K hK => ?_) AllReadyIn.nil
                  go_simp
                  refine RoundIn.mono (F := Fence.wide.inRound l') hR ?_
                  rintro e w' ⟨hkf, ⟨rfl, hj', hki⟩ | ⟨rfl, hjx⟩⟩
                  all_goals
                    refine hK _ _ ?_
                    clear hK K
                    refine wpAnyIn_ready (rs := [6]) (by kernel_rfl) (by simp) ?_
                    refine AllReadyIn.cons rfl (fun K hK => ?_) AllReadyIn.nil
                    go_simp
                    refine hK _ _ ?_
                    clear hK K
                    refine wpAnyIn_done (by kernel_rfl) ?_ _
                  · rw [HQ.out]
                    exact ⟨rfl, true, rfl, hkf, .inl ⟨rfl, hj', hki⟩⟩
                  · rw [HQ.out]
                    exact ⟨rfl, false, rfl, hkf, .inr ⟨rfl, hjx⟩⟩
                · go_simp
                  refine hK _ _ ?_
                  clear hK K
                  refine wpAnyIn_ready (rs := [0]) (by kernel_rfl) (by simp) ?_
                  refine AllReadyIn.cons rfl (fun K hK => ?_) AllReadyIn.nil
                  go_simp
                  refine hK _ _ ?_
                  clear hK K
                  refine wpAnyIn_ready (rs := [5]) (by kernel_rfl) (by simp) ?_
                  refine AllReadyIn.cons rfl (fun K hK => ?_) AllReadyIn.nil
                  go_simp
                  refine RoundIn.mono (F := Fence.wide.inRound l') hR ?_
                  rintro e w' ⟨hkf, ⟨rfl, hj', hki⟩ | ⟨rfl, hjx⟩⟩
                  all_goals
                    refine hK _ _ ?_
                    clear hK K
                    refine wpAnyIn_ready (rs := [6]) (by kernel_rfl) (by simp) ?_
                    refine AllReadyIn.cons rfl (fun K hK => ?_) AllReadyIn.nil
                    go_simp
                    refine hK _ _ ?_
                    clear hK K
                    refine wpAnyIn_done (by kernel_rfl) ?_ _
                  · rw [HQ.out]
                    exact ⟨rfl, true, rfl, hkf, .inl ⟨rfl, hj', hki⟩⟩
                  · rw [HQ.out]
                    exact ⟨rfl, false, rfl, hkf, .inr ⟨rfl, hjx⟩⟩
            · go_simp
              refine ⟨trivial, ?_⟩
              refine (CallsIn.inRound l' (callsIn_wide.2 (tz_any _ hv hv0 _ hTz))).mono ?_
              rintro e w' ⟨rfl, rfl⟩
              refine hK _ _ ?_
              clear hK K
              refine wpAnyIn_ready (rs := [0, 1]) (by kernel_rfl) (by simp) ?_
              refine AllReadyIn.cons rfl (fun K hK => ?_) (AllReadyIn.cons rfl (fun K hK => ?_) AllReadyIn.nil)
              · go_simp
                refine hK _ _ ?_
                clear hK K
                refine wpAnyIn_ready (rs := [1]) (by kernel_rfl) (by simp) ?_
                refine AllReadyIn.cons rfl (fun K hK => ?_) AllReadyIn.nil
                go_simp
                refine hK _ _ ?_
                clear hK K
                refine wpAnyIn_ready (rs := [4]) (by kernel_rfl) (by simp) ?_
                refine AllReadyIn.cons rfl (fun K hK => ?_) AllReadyIn.nil
                go_simp
                refine hK _ _ ?_
                clear hK K
                refine wpAnyIn_ready (rs := [5]) (by kernel_rfl) (by simp) ?_
                refine AllReadyIn.cons rfl (fun K hK => ?_) AllReadyIn.nil
                go_simp
                refine RoundIn.mono (F := Fence.wide.inRound l') hR ?_
                rintro e w' ⟨hkf, ⟨rfl, hj', hki⟩ | ⟨rfl, hjx⟩⟩
                all_goals
                  refine hK _ _ ?_
                  clear hK K
                  refine wpAnyIn_ready (rs := [6]) (by kernel_rfl) (by simp) ?_
                  refine AllReadyIn.cons rfl (fun K hK => ?_) AllReadyIn.nil
                  go_simp
                  refine hK _ _ ?_
                  clear hK K
                  refine wpAnyIn_done (by kernel_rfl) ?_ _
                · rw [HQ.out]
                  exact ⟨rfl, true, rfl, hkf, .inl ⟨rfl, hj', hki⟩⟩
                · rw [HQ.out]
                  exact ⟨rfl, false, rfl, hkf, .inr ⟨rfl, hjx⟩⟩
              · go_simp
                refine hK _ _ ?_
                clear hK K
                refine wpAnyIn_ready (rs := [0, 4]) (by kernel_rfl) (by simp) ?_
                refine AllReadyIn.cons rfl (fun K hK => ?_) (AllReadyIn.cons rfl (fun K hK => ?_) AllReadyIn.nil)
                · go_simp
                  refine hK _ _ ?_
                  clear hK K
                  refine wpAnyIn_ready (rs := [4]) (by kernel_rfl) (by simp) ?_
                  refine AllReadyIn.cons rfl (fun K hK => ?_) AllReadyIn.nil
                  go_simp
                  refine hK _ _ ?_
                  clear hK K
                  refine wpAnyIn_ready (rs := [5]) (by kernel_rfl) (by simp) ?_
                  refine AllReadyIn.cons rfl (fun K hK => ?_) AllReadyIn.nil
                  go_simp
                  refine RoundIn.mono (F := Fence.wide.inRound l') hR ?_
                  rintro e w' ⟨hkf, ⟨rfl, hj', hki⟩ | ⟨rfl, hjx⟩⟩
                  all_goals
                    refine hK _ _ ?_
                    clear hK K
                    refine wpAnyIn_ready (rs := [6]) (by kernel_rfl) (by simp) ?_
                    refine AllReadyIn.cons rfl (fun K hK => ?_) AllReadyIn.nil
                    go_simp
                    refine hK _ _ ?_
                    clear hK K
                    refine wpAnyIn_done (by kernel_rfl) ?_ _
                  · rw [HQ.out]
                    exact ⟨rfl, true, rfl, hkf, .inl ⟨rfl, hj', hki⟩⟩
                  · rw [HQ.out]
                    exact ⟨rfl, false, rfl, hkf, .inr ⟨rfl, hjx⟩⟩
                · go_simp
                  refine hK _ _ ?_
                  clear hK K
                  refine wpAnyIn_ready (rs := [0]) (by kernel_rfl) (by simp) ?_
                  refine AllReadyIn.cons rfl (fun K hK => ?_) AllReadyIn.nil
                  go_simp
                  refine hK _ _ ?_
                  clear hK K
                  refine wpAnyIn_ready (rs := [5]) (by kernel_rfl) (by simp) ?_
                  refine AllReadyIn.cons rfl (fun K hK => ?_) AllReadyIn.nil
                  go_simp
                  refine RoundIn.mono (F := Fence.wide.inRound l') hR ?_
                  rintro e w' ⟨hkf, ⟨rfl, hj', hki⟩ | ⟨rfl, hjx⟩⟩
                  all_goals
                    refine hK _ _ ?_
                    clear hK K
                    refine wpAnyIn_ready (rs := [6]) (by kernel_rfl) (by simp) ?_
                    refine AllReadyIn.cons rfl (fun K hK => ?_) AllReadyIn.nil
                    go_simp
                    refine hK _ _ ?_
                    clear hK K
                    refine wpAnyIn_done (by kernel_rfl) ?_ _
                  · rw [HQ.out]
                    exact ⟨rfl, true, rfl, hkf, .inl ⟨rfl, hj', hki⟩⟩
                  · rw [HQ.out]
                    exact ⟨rfl, false, rfl, hkf, .inr ⟨rfl, hjx⟩⟩
        case rest =>
          intro e a' w' hq
          rw [HQ.out] at hq
          obtain ⟨rfl, b, rfl, hkf, ⟨rfl, hj', hki⟩ | ⟨rfl, hjx⟩⟩ := hq
          · have hk3 : KeepsFrom W0.heap.size X w' := hk.trans ⟨hkf.size, fun k o hB => hkf.same k o (by have := H0.out; omega)⟩
            have hc3 : KpC G' w1.heap.size X w' := kpC_t hkc fun p u hp hu => by
              have hpb : W.heap.size ≤ p.block ∧ p.block < W0.heap.size := by have := H0.out; rcases hp with h | h <;> omega
              exact (World.cell?_of_block (hki p.block hpb.1 hpb.2)).trans hu
            have bY3 : Boxed w' W.heap.size 34 (.func (.yield l) #[] #[]) := (hki W.heap.size (Nat.le_refl _) (by have := H0.out; omega)).trans bY2
            have hsz3 : W0.heap.size ≤ w'.heap.size := Nat.le_trans hsz hkf.size
            have hsub : IntKind.u64.wrap ((v : Int) - 1) = ((v - 1 : Nat) : Int) := by rw [IntKind.wrap_u64]; omega
            have hand : bits BinOp.and IntKind.u64 (v : Int) ((v - 1 : Nat) : Int) = ((v &&& (v - 1) : Nat) : Int) := u64_and_nat _ _ hv (by omega)
            have HJ := Lib.hid hj'
            have HD := Lib.hid hd
            have HST := Lib.hid hst
            have HK := Lib.hid hk3
            have HC := Lib.hid hc3
            clear hk3 hc3
            clear hki hkf hk hkc hj' hjd hTz hR hY hj hj2 hlen2 HQ H0 hd hst hT hJ h0
            gi_wp2
            go_roundw
            case rel => exact ⟨v &&& (v - 1), dn ++ [Lib.ctz 64 v], rfl, drop_lt v hv, by rw [HD.out, HST.out, List.append_assoc]; rfl, by simpa [List.append_assoc] using HJ.out, HK.out, HC.out, hsz3, bY3⟩
            case measure =>
              have h1 := congrArg List.length HST.out
              simp only [List.length_cons] at h1
              simp only [intOf, Int.toNat_natCast]
              omega
          · have hkx : KeepsFrom W0.heap.size X w' := hk.trans ⟨hkf.size, fun k o hB => hkf.same k o (by have := H0.out; omega)⟩
            have hjx2 : Jx (toldP ws pre ++ ((bitsOf (wd ws x)).map (x * 64 + ·)).take (dn.length + 1)) w' := by
              have e : ((bitsOf (wd ws x)).map (x * 64 + ·)).take (dn.length + 1) = dn.map (x * 64 + ·) ++ [x * 64 + Lib.ctz 64 v] := by
                rw [hd, hst, List.map_append, List.map_cons, List.take_append, List.take_of_length_le (by simp)]
                simp
              rw [e, ← List.append_assoc]
              exact hjx
            have hle : dn.length + 1 ≤ (bitsOf (wd ws x)).length := by rw [hd, hst]; simp
            have HX := Lib.hid hjx2
            have HL := Lib.hid hle
            clear hjx hjx2 hle hk hkc hjd hTz hR hY hj hj2 hlen2 HQ H0 hd hst hT hJ h0 hkf
            gi_wp2
            first | exact ⟨hkx, rfl, pre, x, dn.length + 1, rfl, HL.out, HX.out⟩ | exact ⟨hkx, rfl, pre, x, rfl, dn.length + 1, HL.out, HX.out⟩
  case done =>
    rintro D ys X hD rfl ⟨hj, hx0, bY⟩ hK
    have hj3 : J W0.heap.size (elems ws size) (X.putObj D (.deferred none)) := by
      rw [← toldP_elems hSW]
      exact (hmono _).putObj _ hj hD hK rfl
    have HJ := Lib.hid hj3
    clear hj3 hj hT hJ h0 hY
    gi_wp2
    refine ⟨by simp, .inl ⟨_, _, rfl, run_takeDeferred hK, ?_⟩⟩
    exact ⟨_, results_none rfl _ _ _, ⟨_, rfl⟩, .inl ⟨_, _, rfl, HJ.out⟩⟩
  case stop =>
    rintro D c pre X hD ⟨k, hk, rfl⟩ ⟨rfl, pre0, x, kk, e1, hle, hjx⟩ hK
    have hp0 : pre0 = upto 0 pre0.length ∧ x = pre0.length ∧ pre0.length < ws.length := by
      have h1 := congrArg List.length e1
      rw [upto_length, List.length_append, List.length_singleton] at h1
      subst h1
      rw [upto_succ] at e1
      have h2 := List.append_inj e1 (by rw [upto_length])
      exact ⟨h2.1.symm, by simpa using h2.2.symm, by omega⟩
    obtain ⟨h1, rfl, h3⟩ := hp0
    have hpre : toldP ws pre0 ++ ((bitsOf (wd ws pre0.length)).map (pre0.length * 64 + ·)).take kk <+: elems ws size := by
      have e2 : elems ws size = toldP ws (pre0 ++ [pre0.length]) ++ toldP ws ((List.range (ws.length - (pre0.length + 1))).map (pre0.length + 1 + ·)) := by
        rw [← toldP_elems hSW]
        have e3 : (List.range ws.length).map (0 + ·) = (pre0 ++ [pre0.length]) ++ (List.range (ws.length - (pre0.length + 1))).map (pre0.length + 1 + ·) := by
          have e4 : ws.length = (pre0.length + 1) + (ws.length - (pre0.length + 1)) := by omega
          conv => lhs; rw [e4, List.range_add, List.map_append]
          congr 1
          · conv => rhs; rw [h1]
            rw [upto_length]
            simp [upto, List.range_succ]
          · simp
        rw [e3]
        simp [toldP]
      rw [e2, toldP_snoc, List.append_assoc]
      exact (List.prefix_append_right_inj _).2 ((List.take_prefix _ _).trans (List.prefix_append _ _))
    have hjx3 := hJx.putObj (.deferred none) hjx (show W.heap.size ≤ D by omega) hK rfl
    have HX := Lib.hid hjx3
    clear hjx hjx3 hT hJ h0 hY h1 e1
    gi_wp2
    refine ⟨by simp, .inl ⟨_, _, rfl, run_takeDeferred hK, ?_⟩⟩
    exact ⟨_, results_none rfl _ _ _, ⟨_, rfl⟩, .inr ⟨_, hpre, HX.out⟩⟩

theorem yieldAt_any {n m l : Nat} {args : Array Value} {W : World} {R : Ending → World → Prop} (h : YieldAt Fence.wide n Tryd.prog l args W R) : YieldAt Fence.wide m Tryd.prog l args W R := by
  obtain ⟨fn, tmps, asg, bdy, hy, hf, hr⟩ := h
  exact ⟨fn, tmps, asg, bdy, hy, hf, fun c cs _ => hr c cs (room_wide _)⟩

/-- What whoever ranges over a set is told: all that it has, rising; or the first of them. -/
theorem all_stops (n Br B G size cap : Nat) (ws : List Nat) (w : World) (hs : SetIs w B G size cap ws) (hBr : w.cell? ⟨Br, 0, none⟩ = some (.pointer (some ⟨B, 0, none⟩))) (hBrl : Br < w.heap.size) (hBl : B < w.heap.size) (hGl : G < w.heap.size) :
    SeqOwn Fence.wide n Tryd.prog 69 #[.pointer (some ⟨Br, 0, none⟩)] (fun x : Nat => #[.int .i64 ((x : Nat) : Int)]) TzTab (fun ys => ys = elems ws size) (fun pre => pre <+: elems ws size) (64 * ws.length) w :=
  fun l J Jx W hW hJ hJx hT hY h0 => callsIn_wide.2 (callsIn_wide.1 (all1_in Br B G size cap l ws W (hs.below hW hBl hGl) ((hW.cell (p := ⟨Br, 0, none⟩) hBrl).trans hBr) (Nat.lt_of_lt_of_le hBrl hW.size) (Nat.lt_of_lt_of_le hBl hW.size) J Jx hJ hJx hT
    (fun _ hi pre x W1 hj hhi hlen => yieldAt_any (hY hi pre x W1 hj hhi hlen)) h0))
end Go.Proofs.YtahhenbphnejiaaDoor.Bits
