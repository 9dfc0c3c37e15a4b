/-
  bits.from and (*bits.Set).All, as iterators that tell; what a set has, rising.
-/
import Derived.Test.YtpcgmkchflmcmaaGreatDoorBtm
import Derived.Test.YtpcgmkchflmcmaaGreatDoorBtn
import Derived.Test.YtpcgmkchflmcmaaGreatDoorTol
import Derived.Test.YtpcgmkchflmcmaaGreatDoorBk1
import Derived.Test.YtpcgmkchflmcmaaGreatDoorRow
namespace Go.Proofs.YtpcgmkchflmcmaaGreatDoor.Bits
open Go.RowKit Go.Shelf
attribute [local go_sem] Oper.semAt_some

set_option maxRecDepth 100000 in
set_option maxHeartbeats 2000000 in
theorem from_told (m Bp Bs G cap : Nat) (ws : List Nat) (hlen : ws.length ≤ 2097152) (w : World) :
    SeqTold Fence.wide m Tryz.prog 106 #[.pointer (some ⟨Bp, 0, none⟩), .pointer (some ⟨Bs, 0, none⟩)] ws.length (encW ws)
      (fun W => W.cell? ⟨Bp, 0, none⟩ = some (.int .i64 (0 : Nat)) ∧ W.cell? ⟨Bs, 0, none⟩ = some (.slice (some ⟨G, 0, none⟩) ws.length cap) ∧ ∀ j, j < ws.length → W.cell? ⟨G, j, none⟩ = some (.int .u64 (wd ws j))) w := by
  refine SeqTold.any (n := 4) ?_
  intro l J Jx W hW hJ hJx hT hY h0
  obtain ⟨O0, hj0, hO0⟩ := h0
  obtain ⟨hBp, hBs, hc⟩ := hT _ _ _ hj0
  clear hJ hJx hc
  refine callsIn_of_wp Tryz.func106 rfl trivial ?_ rfl
  simp only [Tryz.ntmps106, List.size_toArray, List.length_cons, List.length_nil, Nat.reduceAdd, Nat.reduceSub, Array.replicate_succ, Array.replicate_zero, List.push_toArray, List.append_toArray, List.nil_append, List.cons_append]
  gi_wp2
  clear hBp hBs
  gi_loopw [4] (fun i wr => ∃ k : Nat, k ≤ ws.length ∧ i = .int .i64 (k : Int) ∧ W.heap.size ≤ wr.heap.size ∧ ∃ O, J O k wr ∧ ∀ k, O k → k < wr.heap.size)
    (fun i _ => ws.length - (intOf i).toNat)
  case atStart => exact ⟨0, Nat.zero_le _, by simp, Nat.le_refl _, O0, hj0, hO0⟩
  case round =>
    obtain ⟨k, hk, rfl, hsz, O, hJm, hOm⟩ := hrel
    obtain ⟨hBp', hBs', hc'⟩ := hT _ _ _ hJm
    by_cases hlt : k < ws.length
    · obtain ⟨fn, tmps, assign, body, hy, hR⟩ := hY O k wr hlt hJm hOm hsz
      unfold encW at hy
      have hcx := hc' k hlt
      have k0 : (0 : Int) ≤ (k : Int) := Int.natCast_nonneg _
      have k1 : (k : Int) < (ws.length : Int) := by omega
      clear hc'
      gi_wp2
      refine hR.mono ?_
      rintro e W3 ⟨O', ht3, (⟨rfl, hJ3⟩ | ⟨rfl, hJx3⟩)⟩
      · have hs3 := ht3.size
        have ho3 := ht3.lt
        gi_wp2
        go_roundw
        case rel => exact ⟨k + 1, by omega, by go_num, by omega, O', hJ3, ho3⟩
        case measure => simp [intOf]; omega
      · have hs3 := ht3.size
        have ho3 := ht3.lt
        gi_wp2
        refine bodyPost_ret (results_none rfl _ _ _) rfl ?_
        exact ⟨⟨_, rfl⟩, O', ho3, by omega, .inr ⟨k, hlt, hJx3⟩⟩
    · have k1 : ¬ (k : Int) < (ws.length : Int) := by omega
      gi_wp2
      go_end0
      exact ⟨⟨_, rfl⟩, O, hOm, hsz, .inl (by rw [show ws.length = k from by omega]; exact hJm)⟩

theorem SetIs.kept' {w w' : World} {B G size cap : Nat} {ws : List Nat} (h : SetIs w B G size cap ws) (hB : w'.heap[B]? = w.heap[B]?) (hG : w'.heap[G]? = w.heap[G]?) : SetIs w' B G size cap ws :=
  ⟨h.small, h.row, h.capn, (World.cell?_of_block (a := ⟨B, 0, none⟩) hB).trans h.cs, (World.cell?_of_block (a := ⟨B, 1, none⟩) hB).trans h.cw, fun j hj => (World.cell?_of_block (a := ⟨G, j, none⟩) hG).trans (h.at_ j hj), fun j hj => (Go.Proofs.YtpcgmkchflmcmaaGreatDoor.Row.frozen_of_block (a := ⟨G, j, none⟩) hG).trans (h.fz j hj)⟩
theorem SetIs.below {N : Nat} {w w' : World} {B G size cap : Nat} {ws : List Nat} (h : SetIs w B G size cap ws) (hb : Below N w w') (hB : B < N) (hG : G < N) : SetIs w' B G size cap ws := h.kept' (hb.block B hB) (hb.block G hG)

/-- How many numbers the first words have. -/
def tn (ws : List Nat) (x : Nat) : Nat := (toldP ws (upto 0 x)).length
theorem tn_zero (ws : List Nat) : tn ws 0 = 0 := by simp [tn, upto, toldP]
theorem tn_succ (ws : List Nat) (x : Nat) : tn ws (x + 1) = tn ws x + (bitsOf (wd ws x)).length := by
  unfold tn
  rw [upto_succ, toldP_snoc]
  simp
theorem tn_all {size : Nat} {ws : List Nat} (h : SetW size ws) : tn ws ws.length = (elems ws size).length := by
  unfold tn upto
  rw [toldP_elems h]
theorem elem_at {size : Nat} {ws : List Nat} (h : SetW size ws) {x k : Nat} (hx : x < ws.length) (hk : k < (bitsOf (wd ws x)).length) :
    tn ws x + k < (elems ws size).length ∧ (elems ws size).getD (tn ws x + k) 0 = x * 64 + (bitsOf (wd ws x)).getD k 0 := by
  have e : elems ws size = toldP ws (upto 0 x) ++ ((bitsOf (wd ws x)).map (x * 64 + ·) ++ toldP ws ((List.range (ws.length - (x + 1))).map (x + 1 + ·))) := by
    rw [← toldP_elems h]
    have e3 : (List.range ws.length).map (0 + ·) = (upto 0 x ++ [x]) ++ (List.range (ws.length - (x + 1))).map (x + 1 + ·) := by
      have e4 : ws.length = (x + 1) + (ws.length - (x + 1)) := by omega
      conv => lhs; rw [e4, List.range_add, List.map_append]
      congr 1
      · simp [upto, List.range_succ]
      · simp
    rw [e3]
    simp [toldP]
  constructor
  · rw [e]
    simp only [List.length_append, List.length_map]
    unfold tn
    omega
  · rw [e, List.getD_eq_getElem?_getD, List.getD_eq_getElem?_getD, List.getElem?_append_right (by unfold tn; omega)]
    unfold tn
    rw [Nat.add_sub_cancel_left, List.getElem?_append_left (by simpa using hk), List.getElem?_map, List.getElem?_eq_getElem hk]
    rfl

theorem enters_from : ∀ args w, (callFunc 106 args).run Tryz.prog w = .ok (.enter 106 args) w := enters_of Tryz.func106 (by kernel_rfl) rfl

set_option maxRecDepth 100000 in
set_option maxHeartbeats 4000000 in
theorem all1_told (m Br B G size cap : Nat) (ws : List Nat) (w0 w : World) (hs : SetIs w0 B G size cap ws) (hTz : TzTab w0) (hBr : w0.cell? ⟨Br, 0, none⟩ = some (.pointer (some ⟨B, 0, none⟩))) (hBl : B < w0.heap.size) (hGl : G < w0.heap.size) (hTl : 0 < w0.heap.size) :
    SeqTold Fence.wide m Tryz.prog 63 #[.pointer (some ⟨Br, 0, none⟩)] (elems ws size).length (fun i => #[.int .i64 (((elems ws size).getD i 0 : Nat) : Int)]) (fun W => Below w0.heap.size w0 W) w := by
  refine SeqTold.any (n := 8) ?_
  intro l J Jx W hW hJ hJx hT hY h0
  obtain ⟨O0, hj0, hO0⟩ := h0
  have hTW := hT _ _ _ hj0
  have hBrl := World.block_lt_of_cell? w0 _ hBr
  simp only at hBrl
  have hW0 := hTW.size
  have HS := Lib.hid (hs.below hTW hBl hGl)
  have HTZ0 := Lib.hid (fun (Y : World) (hb : Below w0.heap.size w0 Y) => hTz.below hb hTl)
  have cBr : W.cell? ⟨Br, 0, none⟩ = some (.pointer (some ⟨B, 0, none⟩)) := (hTW.cell (p := ⟨Br, 0, none⟩) hBrl).trans hBr
  have hcw := HS.out.cw
  have hlen : ws.length ≤ 2097152 := by have := HS.out.row.len; have := HS.out.small; omega
  have A1 : B < W.heap.size := by omega
  have A3 : Br < W.heap.size := by omega
  have B1 : B < W.heap.size + 1 := by omega
  have B3 : Br < W.heap.size + 1 := by omega
  have HJ := Lib.hid hJ
  have HJX := Lib.hid hJx
  have HTT := Lib.hid hT
  have HY := Lib.hid hY
  have HO := Lib.hid hO0
  have HJ0 := Lib.hid hj0
  clear hs hTz hBr hW hJ hJx hT hY hO0 hj0 hTW
  refine callsIn_of_wp_marks Tryz.func63 rfl trivial ?_ rfl
  simp only [Tryz.ntmps63, List.size_toArray, List.length_cons, List.length_nil, Nat.reduceAdd, Nat.reduceSub, Array.replicate_succ, Array.replicate_zero, List.push_toArray, List.append_toArray, List.nil_append, List.cons_append]
  have HC := Lib.hid (fun (W1 : World) (h : ∀ j, j < ws.length → W1.cell? ⟨G, j, none⟩ = some (.int .u64 (wd ws j))) => clone_any G cap ws W1 hlen h)
  gi_wp2_with (first
    | (refine ⟨trivial, ?_⟩; gi_at_call 65; refine (callsIn_wide.2 (HC.out _ (fun j hj => Lib.cell?_alloc_some _ (HS.out.at_ j hj)))).mono ?_; rintro e w1 ⟨G', cap', rfl, hG1, hG2, hwat, hb1⟩)
    | (refine ⟨trivial, ?_⟩; gi_at_call 64; refine (callsIn_wide.2 (from_any _ _ _ _ _)).mono ?_; rintro e w' ⟨rfl, rfl⟩))
  clear hcw HC cBr
  generalize hX : World.alloc _ _ = X
  have hsA : W.heap.size + 1 ≤ w1.heap.size := by have := hb1.size; simpa using this
  have bA : Below W.heap.size W w1 := ((Below.refl _ W).alloc (Nat.le_refl _) (.cells #[.func (.yield l) #[] #[]] 74)).trans (hb1.mono (by simp))
  have bX : Below W.heap.size W X := by rw [← hX]; exact (bA.alloc (by omega) _).alloc (by simp; omega) _
  have hsX : X.heap.size = w1.heap.size + 2 := by rw [← hX]; simp
  have xY : Boxed X W.heap.size 74 (.func (.yield l) #[] #[]) := by
    have h : Boxed w1 W.heap.size 74 (.func (.yield l) #[] #[]) := Boxed.below (Boxed.new W _ _) hb1 (by simp)
    rw [← hX]; exact (h.alloc _).alloc _
  have xS : Boxed X w1.heap.size 117 (.slice (some ⟨G', 0, none⟩) ws.length cap') := by rw [← hX]; exact (Boxed.new w1 _ _).alloc _
  have xP : Boxed X (w1.heap.size + 1) 3 (.int .i64 ((0 : Nat) : Int)) := by rw [← hX]; exact boxed_new (by simp)
  have xW : ∀ j, j < ws.length → X.cell? ⟨G', j, none⟩ = some (.int .u64 (wd ws j)) := fun j hj => by
    rw [← hX]; exact Lib.cell?_alloc_some _ (Lib.cell?_alloc_some _ (hwat.at_ j hj))
  simp only [World.size_alloc] at hG1
  have hSW := HS.out.row
  clear hX hwat hb1 bA
  refine wpIn_rangeFunc_told rfl (by decide) (gf := 106) (lb := #[.pointer (some ⟨w1.heap.size + 1, 0, none⟩), .pointer (some ⟨w1.heap.size, 0, none⟩)]) rfl trivial enters_from
    (N := ws.length) (from_told 7 (w1.heap.size + 1) w1.heap.size G' cap' ws hlen X) (Below.refl _ _) (fun _ => rfl)
    (fun O i Y => J O (tn ws i) Y ∧ X.heap.size ≤ Y.heap.size ∧ (∀ k, W.heap.size ≤ k → k < X.heap.size → Y.heap[k]? = X.heap[k]?) ∧ ∀ k, O k → k < W.heap.size ∨ X.heap.size ≤ k)
    (fun cc O i Y => cc = .ret ∧ ∃ q, q < (elems ws size).length ∧ Jx O (q + 1) Y ∧ W.heap.size ≤ Y.heap.size)
    ?hI ?hIx ?hT ?h0
    (fun x => { tmps := #[.func (.yield l) #[] #[], .pointer (some ⟨Br, 0, none⟩), .pointer (some ⟨W.heap.size, 0, none⟩), .int .i64 ((x : Int) * 64), .int .u64 (wd ws x), .pointer (some ⟨B, 0, none⟩), .bool false, .pointer (some ⟨B, 0, none⟩), .pointer (some ⟨B, 0, none⟩), .pointer (some ⟨B, 1, none⟩),
      .slice (some ⟨G, 0, none⟩) ws.length cap, .slice (some ⟨G', 0, none⟩) ws.length cap', .func (.func 106) #[] #[.pointer (some ⟨w1.heap.size + 1, 0, none⟩), .pointer (some ⟨w1.heap.size, 0, none⟩)], .int .i64 ((x : Int) * 64), .int .u64 (wd ws x), undef, undef, undef, undef, undef, undef, undef, undef, undef, undef, undef, undef, undef], defers := [] }) ?assign ?body ?done ?stop
  case hI =>
    rintro O i X' Y ⟨h1, h2, h3, h4⟩ hb hk
    exact ⟨HJ.out O _ X' Y h1 (hb.mono (by omega)) hk, Nat.le_trans h2 hb.size, fun k a b => (hb.block k b).trans (h3 k a b), h4⟩
  case hIx =>
    rintro cc O i X' Y ⟨h1, q, hq, h2, h3⟩ hb hk
    exact ⟨h1, q, hq, HJX.out O _ X' Y h2 (hb.mono (by omega)) hk, Nat.le_trans h3 hb.size⟩
  case hT =>
    rintro O i Y ⟨h1, h2, h3, h4⟩
    have f : ∀ p : Addr, W.heap.size ≤ p.block → p.block < X.heap.size → Y.cell? p = X.cell? p := fun p a b => World.cell?_of_block (h3 p.block a b)
    exact ⟨(f ⟨w1.heap.size + 1, 0, none⟩ (by show W.heap.size ≤ w1.heap.size + 1; omega) (by show w1.heap.size + 1 < _; omega)).trans xP.cell, (f ⟨w1.heap.size, 0, none⟩ (by show W.heap.size ≤ w1.heap.size; omega) (by show w1.heap.size < _; omega)).trans xS.cell, fun j hj => (f ⟨G', j, none⟩ (by show W.heap.size ≤ G'; omega) (by show G' < _; omega)).trans (xW j hj)⟩
  case h0 => exact ⟨O0, ⟨by rw [tn_zero]; exact HJ.out.alloc HJ0.out HO.out (Nat.le_refl _) bX, Nat.le_refl _, fun _ _ _ => rfl, fun k hk => .inl (HO.out k hk)⟩, fun k hk => by have := HO.out k hk; omega⟩
  case assign =>
    intro l' x Y K hx hK
    unfold encW
    gi_wp2
    exact hK
  case body =>
    rintro l' O x Y _ _ hx ⟨hj, hsz0, hkeep, hon⟩ hlt _
    have hvx := hSW.lt x
    have HK0 := Lib.hid hkeep
    have HON := Lib.hid hon
    have HLT := Lib.hid hlt
    have HJ1 := Lib.hid hj
    clear hkeep hon hlt hj xS xP xW
    gi_wp2
    gi_loopw [4] (fun i wr => ∃ (v k : Nat) (O' : Nat → Prop), i = .int .u64 v ∧ v < 18446744073709551616 ∧ k ≤ (bitsOf (wd ws x)).length ∧ bitsOf v = (bitsOf (wd ws x)).drop k ∧ J O' (tn ws x + k) wr ∧ Turn X.heap.size O O' Y wr ∧ X.heap.size ≤ wr.heap.size ∧ (∀ k, W.heap.size ≤ k → k < X.heap.size → wr.heap[k]? = X.heap[k]?) ∧ ∀ k, O' k → k < W.heap.size ∨ X.heap.size ≤ k)
      (fun i _ => (bitsOf (intOf i).toNat).length)
    case atStart => exact ⟨wd ws x, 0, O, rfl, hvx, Nat.zero_le _, rfl, HJ1.out, Turn.of_below HLT.out (Below.refl _ _), hsz0, HK0.out, HON.out⟩
    case round =>
      clear HJ1 HK0 HON HLT
      obtain ⟨v, k, O', rfl, hv, hkl, hd, hj2, htu, hsz, hkp, hon⟩ := hrel
      have hcY : wr.cell? ⟨W.heap.size, 0, none⟩ = some (.func (.yield l) #[] #[]) := (World.cell?_of_block (a := ⟨W.heap.size, 0, none⟩) (hkp W.heap.size (Nat.le_refl _) (by omega))).trans xY.cell
      have HD := Lib.hid hd
      have HTU := Lib.hid htu
      have HKP := Lib.hid hkp
      have HON := Lib.hid hon
      have HJ2 := Lib.hid hj2
      clear hd htu hkp hon hj2
      by_cases hv0 : v = 0
      · subst hv0
        have h00 : ((((0 : Nat) : Int)) != 0) = false := rfl
        have hkk : k = (bitsOf (wd ws x)).length := by
          have h1 := congrArg List.length HD.out
          rw [bitsOf_zero, List.length_drop, List.length_nil] at h1
          omega
        have HFIN : Hid (J O' (tn ws (x + 1)) wr) := Lib.hid (by rw [tn_succ, ← hkk]; exact HJ2.out)
        clear HJ2 hkk HD
        gi_wp2
        exact ⟨O', HTU.out, HFIN.out, hsz, HKP.out, HON.out⟩
      · have hv1 : (((v : Nat) : Int) != 0) = true := by simp; exact hv0
        have hst := bitsOf_step v hv0 hv
        have hct := (ctz_spec v hv0 hv).2.2
        have hkl2 : k < (bitsOf (wd ws x)).length := by
          have h1 := congrArg List.length HD.out
          rw [hst, List.length_drop, List.length_cons] at h1
          omega
        have hget : (bitsOf (wd ws x)).getD k 0 = Lib.ctz 64 v := by
          have h1 := congrArg (fun l => l[0]?) HD.out
          simp only [hst, List.getElem?_cons_zero, List.getElem?_drop, Nat.add_zero] at h1
          rw [List.getD_eq_getElem?_getD, ← h1]
          rfl
        have hnext : bitsOf (v &&& (v - 1)) = (bitsOf (wd ws x)).drop (k + 1) := by
          have h1 := congrArg List.tail HD.out
          rw [hst, List.tail_cons, List.tail_drop] at h1
          exact h1
        obtain ⟨hq, hel⟩ := elem_at hSW hx hkl2
        rw [hget] at hel
        have HNX := Lib.hid hnext
        have HST := Lib.hid hst
        have hsm : IntKind.i64.wrap ((x : Int) * 64 + ((Lib.ctz 64 v : Nat) : Int)) = (x : Int) * 64 + ((Lib.ctz 64 v : Nat) : Int) := by
          rw [IntKind.wrap_i64]; omega
        have hjd : J O' (tn ws x + k) wr.drew := HJ.out _ _ _ _ HJ2.out ⟨rfl, rfl, rfl, Nat.le_refl _, fun _ _ => rfl⟩ (fun _ _ => rfl)
        have HTZ := Lib.hid (HTZ0.out _ (HTT.out _ _ _ hjd))
        obtain ⟨fn, tmps, asg, bdy, hy, hR⟩ := yieldAt_any (m := 5) (HY.out O' _ wr.drew hq hjd HTU.out.lt (by show W.heap.size ≤ wr.heap.size; omega))
        rw [hel, Int.natCast_add, Int.natCast_mul, Int.cast_ofNat_Int] at hy
        have HQL := Lib.hid hq
        have HV := Lib.hid hv
        clear hget hnext hst hel hjd hq HD
        gi_wp2
        obtain ⟨QM, hQM⟩ : ∃ QM : Exit → Act → World → Prop, QM = (fun e a' w' => e = .normal ∧ ∃ b, a' = ({ tmps := #[.func (.yield l) #[] #[], .pointer (some ⟨Br, 0, none⟩), .pointer (some ⟨W.heap.size, 0, none⟩), .int .i64 ((x : Int) * 64), .int .u64 v, .pointer (some ⟨B, 0, none⟩), .bool false, .pointer (some ⟨B, 0, none⟩), .pointer (some ⟨B, 0, none⟩), .pointer (some ⟨B, 1, none⟩),
          .slice (some ⟨G, 0, none⟩) ws.length cap, .slice (some ⟨G', 0, none⟩) ws.length cap', .func (.func 106) #[] #[.pointer (some ⟨w1.heap.size + 1, 0, none⟩), .pointer (some ⟨w1.heap.size, 0, none⟩)], .int .i64 ((x : Int) * 64), .int .u64 (wd ws x), .int .u64 v, .bool true, u17, u18, u19, u20, .func (.yield l) #[] #[], .int .i64 ((x : Int) * 64), .int .u64 v, .int .i64 (Lib.ctz 64 v), .int .i64 ((x : Int) * 64 + ((Lib.ctz 64 v : Nat) : Int)), .bool b, .bool (!b)], defers := [] } : Act) ∧ ∃ O2, Turn W.heap.size O' O2 wr.drew w' ∧ ((b = true ∧ J O2 (tn ws x + k + 1) w') ∨ (b = false ∧ Jx O2 (tn ws x + k + 1) w'))) := ⟨_, rfl⟩
        have HQ := Lib.hid hQM
        clear hQM
        refine wpIn_mono (Q := QM) ?region ?rest
        case region =>
          refine wpIn_region_any (by kernel_rfl) ?_
          change wpAnyIn _ _ _ _ _ _ _ _ _ (World.drew _)
          refine wpAnyIn_ready (rs := [0, 1, 2]) (by kernel_rfl) (by simp) ?_
          refine AllReadyIn.cons rfl (fun K hK => ?_) (AllReadyIn.cons rfl (fun K hK => ?_) (AllReadyIn.cons rfl (fun K hK => ?_) AllReadyIn.nil))
          · go_simp
            refine hK _ _ ?_
            clear hK K
            refine wpAnyIn_ready (rs := [1, 2]) (by kernel_rfl) (by simp) ?_
            refine AllReadyIn.cons rfl (fun K hK => ?_) (AllReadyIn.cons rfl (fun K hK => ?_) AllReadyIn.nil)
            · go_simp
              refine hK _ _ ?_
              clear hK K
              refine wpAnyIn_ready (rs := [2]) (by kernel_rfl) (by simp) ?_
              refine AllReadyIn.cons rfl (fun K hK => ?_) AllReadyIn.nil
              go_simp
              refine hK _ _ ?_
              clear hK K
              refine wpAnyIn_ready (rs := [3]) (by kernel_rfl) (by simp) ?_
              refine AllReadyIn.cons rfl (fun K hK => ?_) AllReadyIn.nil
              go_simp
              refine ⟨trivial, ?_⟩
              refine (CallsIn.inRound l' (callsIn_wide.2 (tz_any _ hv hv0 _ HTZ.out))).mono ?_
              rintro e w' ⟨rfl, rfl⟩
              refine hK _ _ ?_
              clear hK K
              refine wpAnyIn_ready (rs := [4]) (by kernel_rfl) (by simp) ?_
              refine AllReadyIn.cons rfl (fun K hK => ?_) AllReadyIn.nil
              go_simp
              refine hK _ _ ?_
              clear hK K
              refine wpAnyIn_ready (rs := [5]) (by kernel_rfl) (by simp) ?_
              refine AllReadyIn.cons rfl (fun K hK => ?_) AllReadyIn.nil
              go_simp
              refine RoundIn.mono (F := Fence.wide.inRound l') hR ?_
              rintro e w' ⟨O', ht', ⟨rfl, hj'⟩ | ⟨rfl, hjx⟩⟩
              all_goals
                refine hK _ _ ?_
                clear hK K
                refine wpAnyIn_ready (rs := [6]) (by kernel_rfl) (by simp) ?_
                refine AllReadyIn.cons rfl (fun K hK => ?_) AllReadyIn.nil
                go_simp
                refine hK _ _ ?_
                clear hK K
                refine wpAnyIn_done (by kernel_rfl) ?_ _
              · rw [HQ.out]
                exact ⟨rfl, true, rfl, O', ht', .inl ⟨rfl, hj'⟩⟩
              · rw [HQ.out]
                exact ⟨rfl, false, rfl, O', ht', .inr ⟨rfl, hjx⟩⟩
            · go_simp
              refine hK _ _ ?_
              clear hK K
              refine wpAnyIn_ready (rs := [1, 3]) (by kernel_rfl) (by simp) ?_
              refine AllReadyIn.cons rfl (fun K hK => ?_) (AllReadyIn.cons rfl (fun K hK => ?_) AllReadyIn.nil)
              · go_simp
                refine hK _ _ ?_
                clear hK K
                refine wpAnyIn_ready (rs := [3]) (by kernel_rfl) (by simp) ?_
                refine AllReadyIn.cons rfl (fun K hK => ?_) AllReadyIn.nil
                go_simp
                refine ⟨trivial, ?_⟩
                refine (CallsIn.inRound l' (callsIn_wide.2 (tz_any _ hv hv0 _ HTZ.out))).mono ?_
                rintro e w' ⟨rfl, rfl⟩
                refine hK _ _ ?_
                clear hK K
                refine wpAnyIn_ready (rs := [4]) (by kernel_rfl) (by simp) ?_
                refine AllReadyIn.cons rfl (fun K hK => ?_) AllReadyIn.nil
                go_simp
                refine hK _ _ ?_
                clear hK K
                refine wpAnyIn_ready (rs := [5]) (by kernel_rfl) (by simp) ?_
                refine AllReadyIn.cons rfl (fun K hK => ?_) AllReadyIn.nil
                go_simp
                refine RoundIn.mono (F := Fence.wide.inRound l') hR ?_
                rintro e w' ⟨O', ht', ⟨rfl, hj'⟩ | ⟨rfl, hjx⟩⟩
                all_goals
                  refine hK _ _ ?_
                  clear hK K
                  refine wpAnyIn_ready (rs := [6]) (by kernel_rfl) (by simp) ?_
                  refine AllReadyIn.cons rfl (fun K hK => ?_) AllReadyIn.nil
                  go_simp
                  refine hK _ _ ?_
                  clear hK K
                  refine wpAnyIn_done (by kernel_rfl) ?_ _
                · rw [HQ.out]
                  exact ⟨rfl, true, rfl, O', ht', .inl ⟨rfl, hj'⟩⟩
                · rw [HQ.out]
                  exact ⟨rfl, false, rfl, O', ht', .inr ⟨rfl, hjx⟩⟩
              · go_simp
                refine ⟨trivial, ?_⟩
                refine (CallsIn.inRound l' (callsIn_wide.2 (tz_any _ hv hv0 _ HTZ.out))).mono ?_
                rintro e w' ⟨rfl, rfl⟩
                refine hK _ _ ?_
                clear hK K
                refine wpAnyIn_ready (rs := [1]) (by kernel_rfl) (by simp) ?_
                refine AllReadyIn.cons rfl (fun K hK => ?_) AllReadyIn.nil
                go_simp
                refine hK _ _ ?_
                clear hK K
                refine wpAnyIn_ready (rs := [4]) (by kernel_rfl) (by simp) ?_
                refine AllReadyIn.cons rfl (fun K hK => ?_) AllReadyIn.nil
                go_simp
                refine hK _ _ ?_
                clear hK K
                refine wpAnyIn_ready (rs := [5]) (by kernel_rfl) (by simp) ?_
                refine AllReadyIn.cons rfl (fun K hK => ?_) AllReadyIn.nil
                go_simp
                refine RoundIn.mono (F := Fence.wide.inRound l') hR ?_
                rintro e w' ⟨O', ht', ⟨rfl, hj'⟩ | ⟨rfl, hjx⟩⟩
                all_goals
                  refine hK _ _ ?_
                  clear hK K
                  refine wpAnyIn_ready (rs := [6]) (by kernel_rfl) (by simp) ?_
                  refine AllReadyIn.cons rfl (fun K hK => ?_) AllReadyIn.nil
                  go_simp
                  refine hK _ _ ?_
                  clear hK K
                  refine wpAnyIn_done (by kernel_rfl) ?_ _
                · rw [HQ.out]
                  exact ⟨rfl, true, rfl, O', ht', .inl ⟨rfl, hj'⟩⟩
                · rw [HQ.out]
                  exact ⟨rfl, false, rfl, O', ht', .inr ⟨rfl, hjx⟩⟩
          · go_simp
            refine hK _ _ ?_
            clear hK K
            refine wpAnyIn_ready (rs := [0, 2]) (by kernel_rfl) (by simp) ?_
            refine AllReadyIn.cons rfl (fun K hK => ?_) (AllReadyIn.cons rfl (fun K hK => ?_) AllReadyIn.nil)
            · go_simp
              refine hK _ _ ?_
              clear hK K
              refine wpAnyIn_ready (rs := [2]) (by kernel_rfl) (by simp) ?_
              refine AllReadyIn.cons rfl (fun K hK => ?_) AllReadyIn.nil
              go_simp
              refine hK _ _ ?_
              clear hK K
              refine wpAnyIn_ready (rs := [3]) (by kernel_rfl) (by simp) ?_
              refine AllReadyIn.cons rfl (fun K hK => ?_) AllReadyIn.nil
              go_simp
              refine ⟨trivial, ?_⟩
              refine (CallsIn.inRound l' (callsIn_wide.2 (tz_any _ hv hv0 _ HTZ.out))).mono ?_
              rintro e w' ⟨rfl, rfl⟩
              refine hK _ _ ?_
              clear hK K
              refine wpAnyIn_ready (rs := [4]) (by kernel_rfl) (by simp) ?_
              refine AllReadyIn.cons rfl (fun K hK => ?_) AllReadyIn.nil
              go_simp
              refine hK _ _ ?_
              clear hK K
              refine wpAnyIn_ready (rs := [5]) (by kernel_rfl) (by simp) ?_
              refine AllReadyIn.cons rfl (fun K hK => ?_) AllReadyIn.nil
              go_simp
              refine RoundIn.mono (F := Fence.wide.inRound l') hR ?_
              rintro e w' ⟨O', ht', ⟨rfl, hj'⟩ | ⟨rfl, hjx⟩⟩
              all_goals
                refine hK _ _ ?_
                clear hK K
                refine wpAnyIn_ready (rs := [6]) (by kernel_rfl) (by simp) ?_
                refine AllReadyIn.cons rfl (fun K hK => ?_) AllReadyIn.nil
                go_simp
                refine hK _ _ ?_
                clear hK K
                refine wpAnyIn_done (by kernel_rfl) ?_ _
              · rw [HQ.out]
                exact ⟨rfl, true, rfl, O', ht', .inl ⟨rfl, hj'⟩⟩
              · rw [HQ.out]
                exact ⟨rfl, false, rfl, O', ht', .inr ⟨rfl, hjx⟩⟩
            · go_simp
              refine hK _ _ ?_
              clear hK K
              refine wpAnyIn_ready (rs := [0, 3]) (by kernel_rfl) (by simp) ?_
              refine AllReadyIn.cons rfl (fun K hK => ?_) (AllReadyIn.cons rfl (fun K hK => ?_) AllReadyIn.nil)
              · go_simp
                refine hK _ _ ?_
                clear hK K
                refine wpAnyIn_ready (rs := [3]) (by kernel_rfl) (by simp) ?_
                refine AllReadyIn.cons rfl (fun K hK => ?_) AllReadyIn.nil
                go_simp
                refine ⟨trivial, ?_⟩
                refine (CallsIn.inRound l' (callsIn_wide.2 (tz_any _ hv hv0 _ HTZ.out))).mono ?_
                rintro e w' ⟨rfl, rfl⟩
                refine hK _ _ ?_
                clear hK K
                refine wpAnyIn_ready (rs := [4]) (by kernel_rfl) (by simp) ?_
                refine AllReadyIn.cons rfl (fun K hK => ?_) AllReadyIn.nil
                go_simp
                refine hK _ _ ?_
                clear hK K
                refine wpAnyIn_ready (rs := [5]) (by kernel_rfl) (by simp) ?_
                refine AllReadyIn.cons rfl (fun K hK => ?_) AllReadyIn.nil
                go_simp
                refine RoundIn.mono (F := Fence.wide.inRound l') hR ?_
                rintro e w' ⟨O', ht', ⟨rfl, hj'⟩ | ⟨rfl, hjx⟩⟩
                all_goals
                  refine hK _ _ ?_
                  clear hK K
                  refine wpAnyIn_ready (rs := [6]) (by kernel_rfl) (by simp) ?_
                  refine AllReadyIn.cons rfl (fun K hK => ?_) AllReadyIn.nil
                  go_simp
                  refine hK _ _ ?_
                  clear hK K
                  refine wpAnyIn_done (by kernel_rfl) ?_ _
                · rw [HQ.out]
                  exact ⟨rfl, true, rfl, O', ht', .inl ⟨rfl, hj'⟩⟩
                · rw [HQ.out]
                  exact ⟨rfl, false, rfl, O', ht', .inr ⟨rfl, hjx⟩⟩
              · go_simp
                refine ⟨trivial, ?_⟩
                refine (CallsIn.inRound l' (callsIn_wide.2 (tz_any _ hv hv0 _ HTZ.out))).mono ?_
                rintro e w' ⟨rfl, rfl⟩
                refine hK _ _ ?_
                clear hK K
                refine wpAnyIn_ready (rs := [0, 4]) (by kernel_rfl) (by simp) ?_
                refine AllReadyIn.cons rfl (fun K hK => ?_) (AllReadyIn.cons rfl (fun K hK => ?_) AllReadyIn.nil)
                · go_simp
                  refine hK _ _ ?_
                  clear hK K
                  refine wpAnyIn_ready (rs := [4]) (by kernel_rfl) (by simp) ?_
                  refine AllReadyIn.cons rfl (fun K hK => ?_) AllReadyIn.nil
                  go_simp
                  refine hK _ _ ?_
                  clear hK K
                  refine wpAnyIn_ready (rs := [5]) (by kernel_rfl) (by simp) ?_
                  refine AllReadyIn.cons rfl (fun K hK => ?_) AllReadyIn.nil
                  go_simp
                  refine RoundIn.mono (F := Fence.wide.inRound l') hR ?_
                  rintro e w' ⟨O', ht', ⟨rfl, hj'⟩ | ⟨rfl, hjx⟩⟩
                  all_goals
                    refine hK _ _ ?_
                    clear hK K
                    refine wpAnyIn_ready (rs := [6]) (by kernel_rfl) (by simp) ?_
                    refine AllReadyIn.cons rfl (fun K hK => ?_) AllReadyIn.nil
                    go_simp
                    refine hK _ _ ?_
                    clear hK K
                    refine wpAnyIn_done (by kernel_rfl) ?_ _
                  · rw [HQ.out]
                    exact ⟨rfl, true, rfl, O', ht', .inl ⟨rfl, hj'⟩⟩
                  · rw [HQ.out]
                    exact ⟨rfl, false, rfl, O', ht', .inr ⟨rfl, hjx⟩⟩
                · go_simp
                  refine hK _ _ ?_
                  clear hK K
                  refine wpAnyIn_ready (rs := [0]) (by kernel_rfl) (by simp) ?_
                  refine AllReadyIn.cons rfl (fun K hK => ?_) AllReadyIn.nil
                  go_simp
                  refine hK _ _ ?_
                  clear hK K
                  refine wpAnyIn_ready (rs := [5]) (by kernel_rfl) (by simp) ?_
                  refine AllReadyIn.cons rfl (fun K hK => ?_) AllReadyIn.nil
                  go_simp
                  refine RoundIn.mono (F := Fence.wide.inRound l') hR ?_
                  rintro e w' ⟨O', ht', ⟨rfl, hj'⟩ | ⟨rfl, hjx⟩⟩
                  all_goals
                    refine hK _ _ ?_
                    clear hK K
                    refine wpAnyIn_ready (rs := [6]) (by kernel_rfl) (by simp) ?_
                    refine AllReadyIn.cons rfl (fun K hK => ?_) AllReadyIn.nil
                    go_simp
                    refine hK _ _ ?_
                    clear hK K
                    refine wpAnyIn_done (by kernel_rfl) ?_ _
                  · rw [HQ.out]
                    exact ⟨rfl, true, rfl, O', ht', .inl ⟨rfl, hj'⟩⟩
                  · rw [HQ.out]
                    exact ⟨rfl, false, rfl, O', ht', .inr ⟨rfl, hjx⟩⟩
          · go_simp
            refine hK _ _ ?_
            clear hK K
            refine wpAnyIn_ready (rs := [0, 1, 3]) (by kernel_rfl) (by simp) ?_
            refine AllReadyIn.cons rfl (fun K hK => ?_) (AllReadyIn.cons rfl (fun K hK => ?_) (AllReadyIn.cons rfl (fun K hK => ?_) AllReadyIn.nil))
            · go_simp
              refine hK _ _ ?_
              clear hK K
              refine wpAnyIn_ready (rs := [1, 3]) (by kernel_rfl) (by simp) ?_
              refine AllReadyIn.cons rfl (fun K hK => ?_) (AllReadyIn.cons rfl (fun K hK => ?_) AllReadyIn.nil)
              · go_simp
                refine hK _ _ ?_
                clear hK K
                refine wpAnyIn_ready (rs := [3]) (by kernel_rfl) (by simp) ?_
                refine AllReadyIn.cons rfl (fun K hK => ?_) AllReadyIn.nil
                go_simp
                refine ⟨trivial, ?_⟩
                refine (CallsIn.inRound l' (callsIn_wide.2 (tz_any _ hv hv0 _ HTZ.out))).mono ?_
                rintro e w' ⟨rfl, rfl⟩
                refine hK _ _ ?_
                clear hK K
                refine wpAnyIn_ready (rs := [4]) (by kernel_rfl) (by simp) ?_
                refine AllReadyIn.cons rfl (fun K hK => ?_) AllReadyIn.nil
                go_simp
                refine hK _ _ ?_
                clear hK K
                refine wpAnyIn_ready (rs := [5]) (by kernel_rfl) (by simp) ?_
                refine AllReadyIn.cons rfl (fun K hK => ?_) AllReadyIn.nil
                go_simp
                refine RoundIn.mono (F := Fence.wide.inRound l') hR ?_
                rintro e w' ⟨O', ht', ⟨rfl, hj'⟩ | ⟨rfl, hjx⟩⟩
                all_goals
                  refine hK _ _ ?_
                  clear hK K
                  refine wpAnyIn_ready (rs := [6]) (by kernel_rfl) (by simp) ?_
                  refine AllReadyIn.cons rfl (fun K hK => ?_) AllReadyIn.nil
                  go_simp
                  refine hK _ _ ?_
                  clear hK K
                  refine wpAnyIn_done (by kernel_rfl) ?_ _
                · rw [HQ.out]
                  exact ⟨rfl, true, rfl, O', ht', .inl ⟨rfl, hj'⟩⟩
                · rw [HQ.out]
                  exact ⟨rfl, false, rfl, O', ht', .inr ⟨rfl, hjx⟩⟩
              · go_simp
                refine ⟨trivial, ?_⟩
                refine (CallsIn.inRound l' (callsIn_wide.2 (tz_any _ hv hv0 _ HTZ.out))).mono ?_
                rintro e w' ⟨rfl, rfl⟩
                refine hK _ _ ?_
                clear hK K
                refine wpAnyIn_ready (rs := [1]) (by kernel_rfl) (by simp) ?_
                refine AllReadyIn.cons rfl (fun K hK => ?_) AllReadyIn.nil
                go_simp
                refine hK _ _ ?_
                clear hK K
                refine wpAnyIn_ready (rs := [4]) (by kernel_rfl) (by simp) ?_
                refine AllReadyIn.cons rfl (fun K hK => ?_) AllReadyIn.nil
                go_simp
                refine hK _ _ ?_
                clear hK K
                refine wpAnyIn_ready (rs := [5]) (by kernel_rfl) (by simp) ?_
                refine AllReadyIn.cons rfl (fun K hK => ?_) AllReadyIn.nil
                go_simp
                refine RoundIn.mono (F := Fence.wide.inRound l') hR ?_
                rintro e w' ⟨O', ht', ⟨rfl, hj'⟩ | ⟨rfl, hjx⟩⟩
                all_goals
                  refine hK _ _ ?_
                  clear hK K
                  refine wpAnyIn_ready (rs := [6]) (by kernel_rfl) (by simp) ?_
                  refine AllReadyIn.cons rfl (fun K hK => ?_) AllReadyIn.nil
                  go_simp
                  refine hK _ _ ?_
                  clear hK K
                  refine wpAnyIn_done (by kernel_rfl) ?_ _
                · rw [HQ.out]
                  exact ⟨rfl, true, rfl, O', ht', .inl ⟨rfl, hj'⟩⟩
                · rw [HQ.out]
                  exact ⟨rfl, false, rfl, O', ht', .inr ⟨rfl, hjx⟩⟩
            · go_simp
              refine hK _ _ ?_
              clear hK K
              refine wpAnyIn_ready (rs := [0, 3]) (by kernel_rfl) (by simp) ?_
              refine AllReadyIn.cons rfl (fun K hK => ?_) (AllReadyIn.cons rfl (fun K hK => ?_) AllReadyIn.nil)
              · go_simp
                refine hK _ _ ?_
                clear hK K
                refine wpAnyIn_ready (rs := [3]) (by kernel_rfl) (by simp) ?_
                refine AllReadyIn.cons rfl (fun K hK => ?_) AllReadyIn.nil
                go_simp
                refine ⟨trivial, ?_⟩
                refine (CallsIn.inRound l' (callsIn_wide.2 (tz_any _ hv hv0 _ HTZ.out))).mono ?_
                rintro e w' ⟨rfl, rfl⟩
                refine hK _ _ ?_
                clear hK K
                refine wpAnyIn_ready (rs := [4]) (by kernel_rfl) (by simp) ?_
                refine AllReadyIn.cons rfl (fun K hK => ?_) AllReadyIn.nil
                go_simp
                refine hK _ _ ?_
                clear hK K
                refine wpAnyIn_ready (rs := [5]) (by kernel_rfl) (by simp) ?_
                refine AllReadyIn.cons rfl (fun K hK => ?_) AllReadyIn.nil
                go_simp
                refine RoundIn.mono (F := Fence.wide.inRound l') hR ?_
                rintro e w' ⟨O', ht', ⟨rfl, hj'⟩ | ⟨rfl, hjx⟩⟩
                all_goals
                  refine hK _ _ ?_
                  clear hK K
                  refine wpAnyIn_ready (rs := [6]) (by kernel_rfl) (by simp) ?_
                  refine AllReadyIn.cons rfl (fun K hK => ?_) AllReadyIn.nil
                  go_simp
                  refine hK _ _ ?_
                  clear hK K
                  refine wpAnyIn_done (by kernel_rfl) ?_ _
                · rw [HQ.out]
                  exact ⟨rfl, true, rfl, O', ht', .inl ⟨rfl, hj'⟩⟩
                · rw [HQ.out]
                  exact ⟨rfl, false, rfl, O', ht', .inr ⟨rfl, hjx⟩⟩
              · go_simp
                refine ⟨trivial, ?_⟩
                refine (CallsIn.inRound l' (callsIn_wide.2 (tz_any _ hv hv0 _ HTZ.out))).mono ?_
                rintro e w' ⟨rfl, rfl⟩
                refine hK _ _ ?_
                clear hK K
                refine wpAnyIn_ready (rs := [0, 4]) (by kernel_rfl) (by simp) ?_
                refine AllReadyIn.cons rfl (fun K hK => ?_) (AllReadyIn.cons rfl (fun K hK => ?_) AllReadyIn.nil)
                · go_simp
                  refine hK _ _ ?_
                  clear hK K
                  refine wpAnyIn_ready (rs := [4]) (by kernel_rfl) (by simp) ?_
                  refine AllReadyIn.cons rfl (fun K hK => ?_) AllReadyIn.nil
                  go_simp
                  refine hK _ _ ?_
                  clear hK K
                  refine wpAnyIn_ready (rs := [5]) (by kernel_rfl) (by simp) ?_
                  refine AllReadyIn.cons rfl (fun K hK => ?_) AllReadyIn.nil
                  go_simp
                  refine RoundIn.mono (F := Fence.wide.inRound l') hR ?_
                  rintro e w' ⟨O', ht', ⟨rfl, hj'⟩ | ⟨rfl, hjx⟩⟩
                  all_goals
                    refine hK _ _ ?_
                    clear hK K
                    refine wpAnyIn_ready (rs := [6]) (by kernel_rfl) (by simp) ?_
                    refine AllReadyIn.cons rfl (fun K hK => ?_) AllReadyIn.nil
                    go_simp
                    refine hK _ _ ?_
                    clear hK K
                    refine wpAnyIn_done (by kernel_rfl) ?_ _
                  · rw [HQ.out]
                    exact ⟨rfl, true, rfl, O', ht', .inl ⟨rfl, hj'⟩⟩
                  · rw [HQ.out]
                    exact ⟨rfl, false, rfl, O', ht', .inr ⟨rfl, hjx⟩⟩
                · go_simp
                  refine hK _ _ ?_
                  clear hK K
                  refine wpAnyIn_ready (rs := [0]) (by kernel_rfl) (by simp) ?_
                  refine AllReadyIn.cons rfl (fun K hK => ?_) AllReadyIn.nil
                  go_simp
                  refine hK _ _ ?_
                  clear hK K
                  refine wpAnyIn_ready (rs := [5]) (by kernel_rfl) (by simp) ?_
                  refine AllReadyIn.cons rfl (fun K hK => ?_) AllReadyIn.nil
                  go_simp
                  refine RoundIn.mono (F := Fence.wide.inRound l') hR ?_
                  rintro e w' ⟨O', ht', ⟨rfl, hj'⟩ | ⟨rfl, hjx⟩⟩
                  all_goals
                    refine hK _ _ ?_
                    clear hK K
                    refine wpAnyIn_ready (rs := [6]) (by kernel_rfl) (by simp) ?_
                    refine AllReadyIn.cons rfl (fun K hK => ?_) AllReadyIn.nil
                    go_simp
                    refine hK _ _ ?_
                    clear hK K
                    refine wpAnyIn_done (by kernel_rfl) ?_ _
                  · rw [HQ.out]
                    exact ⟨rfl, true, rfl, O', ht', .inl ⟨rfl, hj'⟩⟩
                  · rw [HQ.out]
                    exact ⟨rfl, false, rfl, O', ht', .inr ⟨rfl, hjx⟩⟩
            · go_simp
              refine ⟨trivial, ?_⟩
              refine (CallsIn.inRound l' (callsIn_wide.2 (tz_any _ hv hv0 _ HTZ.out))).mono ?_
              rintro e w' ⟨rfl, rfl⟩
              refine hK _ _ ?_
              clear hK K
              refine wpAnyIn_ready (rs := [0, 1]) (by kernel_rfl) (by simp) ?_
              refine AllReadyIn.cons rfl (fun K hK => ?_) (AllReadyIn.cons rfl (fun K hK => ?_) AllReadyIn.nil)
              · go_simp
                refine hK _ _ ?_
                clear hK K
                refine wpAnyIn_ready (rs := [1]) (by kernel_rfl) (by simp) ?_
                refine AllReadyIn.cons rfl (fun K hK => ?_) AllReadyIn.nil
                go_simp
                refine hK _ _ ?_
                clear hK K
                refine wpAnyIn_ready (rs := [4]) (by kernel_rfl) (by simp) ?_
                refine AllReadyIn.cons rfl (fun K hK => ?_) AllReadyIn.nil
                go_simp
                refine hK _ _ ?_
                clear hK K
                refine wpAnyIn_ready (rs := [5]) (by kernel_rfl) (by simp) ?_
                refine AllReadyIn.cons rfl (fun K hK => ?_) AllReadyIn.nil
                go_simp
                refine RoundIn.mono (F := Fence.wide.inRound l') hR ?_
                rintro e w' ⟨O', ht', ⟨rfl, hj'⟩ | ⟨rfl, hjx⟩⟩
                all_goals
                  refine hK _ _ ?_
                  clear hK K
                  refine wpAnyIn_ready (rs := [6]) (by kernel_rfl) (by simp) ?_
                  refine AllReadyIn.cons rfl (fun K hK => ?_) AllReadyIn.nil
                  go_simp
                  refine hK _ _ ?_
                  clear hK K
                  refine wpAnyIn_done (by kernel_rfl) ?_ _
                · rw [HQ.out]
                  exact ⟨rfl, true, rfl, O', ht', .inl ⟨rfl, hj'⟩⟩
                · rw [HQ.out]
                  exact ⟨rfl, false, rfl, O', ht', .inr ⟨rfl, hjx⟩⟩
              · go_simp
                refine hK _ _ ?_
                clear hK K
                refine wpAnyIn_ready (rs := [0, 4]) (by kernel_rfl) (by simp) ?_
                refine AllReadyIn.cons rfl (fun K hK => ?_) (AllReadyIn.cons rfl (fun K hK => ?_) AllReadyIn.nil)
                · go_simp
                  refine hK _ _ ?_
                  clear hK K
                  refine wpAnyIn_ready (rs := [4]) (by kernel_rfl) (by simp) ?_
                  refine AllReadyIn.cons rfl (fun K hK => ?_) AllReadyIn.nil
                  go_simp
                  refine hK _ _ ?_
                  clear hK K
                  refine wpAnyIn_ready (rs := [5]) (by kernel_rfl) (by simp) ?_
                  refine AllReadyIn.cons rfl (fun K hK => ?_) AllReadyIn.nil
                  go_simp
                  refine RoundIn.mono (F := Fence.wide.inRound l') hR ?_
                  rintro e w' ⟨O', ht', ⟨rfl, hj'⟩ | ⟨rfl, hjx⟩⟩
                  all_goals
                    refine hK _ _ ?_
                    clear hK K
                    refine wpAnyIn_ready (rs := [6]) (by kernel_rfl) (by simp) ?_
                    refine AllReadyIn.cons rfl (fun K hK => ?_) AllReadyIn.nil
                    go_simp
                    refine hK _ _ ?_
                    clear hK K
                    refine wpAnyIn_done (by kernel_rfl) ?_ _
                  · rw [HQ.out]
                    exact ⟨rfl, true, rfl, O', ht', .inl ⟨rfl, hj'⟩⟩
                  · rw [HQ.out]
                    exact ⟨rfl, false, rfl, O', ht', .inr ⟨rfl, hjx⟩⟩
                · go_simp
                  refine hK _ _ ?_
                  clear hK K
                  refine wpAnyIn_ready (rs := [0]) (by kernel_rfl) (by simp) ?_
                  refine AllReadyIn.cons rfl (fun K hK => ?_) AllReadyIn.nil
                  go_simp
                  refine hK _ _ ?_
                  clear hK K
                  refine wpAnyIn_ready (rs := [5]) (by kernel_rfl) (by simp) ?_
                  refine AllReadyIn.cons rfl (fun K hK => ?_) AllReadyIn.nil
                  go_simp
                  refine RoundIn.mono (F := Fence.wide.inRound l') hR ?_
                  rintro e w' ⟨O', ht', ⟨rfl, hj'⟩ | ⟨rfl, hjx⟩⟩
                  all_goals
                    refine hK _ _ ?_
                    clear hK K
                    refine wpAnyIn_ready (rs := [6]) (by kernel_rfl) (by simp) ?_
                    refine AllReadyIn.cons rfl (fun K hK => ?_) AllReadyIn.nil
                    go_simp
                    refine hK _ _ ?_
                    clear hK K
                    refine wpAnyIn_done (by kernel_rfl) ?_ _
                  · rw [HQ.out]
                    exact ⟨rfl, true, rfl, O', ht', .inl ⟨rfl, hj'⟩⟩
                  · rw [HQ.out]
                    exact ⟨rfl, false, rfl, O', ht', .inr ⟨rfl, hjx⟩⟩
        case rest =>
          intro e a' w' hq
          rw [HQ.out] at hq
          obtain ⟨rfl, b, rfl, O2, ht2, ⟨rfl, hj'⟩ | ⟨rfl, hjx⟩⟩ := hq
          · have hno : ∀ k, W.heap.size ≤ k → k < X.heap.size → ¬ O' k := fun k a b c => by have := HON.out k c; omega
            have hk3 : ∀ k, W.heap.size ≤ k → k < X.heap.size → w'.heap[k]? = X.heap[k]? := fun k a b => (ht2.keep k a (by show k < wr.heap.size; omega) (hno k a b)).trans (HKP.out k a b)
            have ht3 : Turn X.heap.size O O2 Y w' := HTU.out.trans ⟨ht2.size, fun k a b c => ht2.keep k (by omega) b c, ht2.grow, ht2.lt⟩
            have ho3 : ∀ k, O2 k → k < W.heap.size ∨ X.heap.size ≤ k := fun k hk => (ht2.grow k hk).elim (HON.out k) (fun h => .inr (by have h' : wr.heap.size ≤ k := h; omega))
            have hsz3 : X.heap.size ≤ w'.heap.size := by have h' : wr.heap.size ≤ w'.heap.size := ht2.size; omega
            have hsub : IntKind.u64.wrap ((v : Int) - 1) = ((v - 1 : Nat) : Int) := by rw [IntKind.wrap_u64]; omega
            have hand : bits BinOp.and IntKind.u64 (v : Int) ((v - 1 : Nat) : Int) = ((v &&& (v - 1) : Nat) : Int) := u64_and_nat _ _ hv (by omega)
            have HF := Lib.hid (show v &&& (v - 1) < 18446744073709551616 ∧ k + 1 ≤ (bitsOf (wd ws x)).length ∧ bitsOf (v &&& (v - 1)) = (bitsOf (wd ws x)).drop (k + 1) ∧ J O2 (tn ws x + (k + 1)) w' ∧ Turn X.heap.size O O2 Y w' ∧ X.heap.size ≤ w'.heap.size ∧ (∀ k, W.heap.size ≤ k → k < X.heap.size → w'.heap[k]? = X.heap[k]?) ∧ ∀ k, O2 k → k < W.heap.size ∨ X.heap.size ≤ k from ⟨drop_lt v hv, by omega, HNX.out, hj', ht3, hsz3, hk3, ho3⟩)
            clear hno hk3 ht3 ho3 hj' ht2 HQ hR hy HJ2 HTZ
            gi_wp2
            go_roundw
            case rel => exact ⟨v &&& (v - 1), k + 1, O2, rfl, HF.out⟩
            case measure =>
              have h1 := congrArg List.length HST.out
              simp only [List.length_cons] at h1
              simp only [intOf, Int.toNat_natCast]
              omega
          · have ht3 : Turn X.heap.size O O2 Y w' := HTU.out.trans ⟨ht2.size, fun k a b c => ht2.keep k (by omega) b c, ht2.grow, ht2.lt⟩
            have HF := Lib.hid (show Turn X.heap.size O O2 Y w' ∧ ∃ q, q < (elems ws size).length ∧ Jx O2 (q + 1) w' ∧ W.heap.size ≤ w'.heap.size from ⟨ht3, _, HQL.out, hjx, by have h' : wr.heap.size ≤ w'.heap.size := ht2.size; omega⟩)
            clear ht3 hjx ht2 HQ hR hy HJ2 HTZ
            gi_wp2
            first | exact ⟨O2, HF.out.1, rfl, HF.out.2⟩ | (rw [← hsX]; exact ⟨O2, HF.out.1, rfl, HF.out.2⟩)
  case done =>
    rintro D O Y hD ⟨h1, h2, h3, h4⟩ hn hlt hK
    have hj3 : J O (elems ws size).length (Y.putObj D (.deferred none)) := by
      rw [← tn_all hSW]
      exact HJ.out.putObj h1 (by omega) hn _
    have HFn := Lib.hid hj3
    clear hj3 h1 h3 h4
    gi_wp2
    refine ⟨by simp, .inl ⟨_, _, rfl, run_takeDeferred hK, ?_⟩⟩
    exact ⟨_, results_none rfl _ _ _, ⟨_, rfl⟩, O, fun k hk => by simpa using hlt k hk, by simp; omega, .inl HFn.out⟩
  case stop =>
    rintro D cc O i Y hD hi ⟨rfl, q, hq, h1, h2⟩ hn hlt hK
    have hj3 : Jx O (q + 1) (Y.putObj D (.deferred none)) := HJX.out.putObj h1 (by omega) hn _
    have HFn := Lib.hid hj3
    clear hj3 h1
    gi_wp2
    refine ⟨by simp, .inl ⟨_, _, rfl, run_takeDeferred hK, ?_⟩⟩
    exact ⟨_, results_none rfl _ _ _, ⟨_, rfl⟩, O, fun k hk => by simpa using hlt k hk, by simpa using h2, .inr ⟨q, hq, HFn.out⟩⟩
end Go.Proofs.YtpcgmkchflmcmaaGreatDoor.Bits
