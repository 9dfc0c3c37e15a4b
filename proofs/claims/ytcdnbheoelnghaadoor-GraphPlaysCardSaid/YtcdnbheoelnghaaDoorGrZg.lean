/-
  The document's graph: Do, kind by kind.
-/
import Derived.Test.YtcdnbheoelnghaaDoorGrM6
import Derived.Lib.QuietBelow
import Derived.BigQuiet
import Derived.Deep.RegionHeld3
namespace Go.Proofs.YtcdnbheoelnghaaDoor.Gra
open Go.RowKit Go.Proofs.YtcdnbheoelnghaaDoor.Opr
open Go.Proofs.YtcdnbheoelnghaaDoor.Row (Chg rowB rowB_none Rd Rd0 cellsZ cellsZ_length cellsZ_at info_parts infoInt owns_lt owns_slice owns_chg owns_block owns_base push_row step_append_own one_at)
theorem three {t co t2 co2 : Int} {s s2 : GSt} (h : (t, co, s) = (t2, co2, s2)) : t = t2 ∧ co = co2 ∧ s = s2 := by
  simpa using h

set_option maxRecDepth 100000 in
set_option maxHeartbeats 4000000 in
theorem rdo_out {b wd lg st : Int} {M r nc : Nat} {W : World} {B base : Nat} {pz pp : Option Addr} {cz cp : Nat} {zs : List Int} {L : List Pl} {s : GSt} (h : Rg W B base ⟨b, wd, M, r, nc, lg, st⟩ pz cz zs pp cp L) (rel : Rel s zs L) (_wf : GWf M r nc s) (_hl : L.length ≤ 100000) (_hN : s.nO ≤ 100000) (m k a x cc : Int) (hm : ¬ (0 ≤ m ∧ m < (M : Int))) :
    Calls Tryd.prog 10 #[.pointer (some ⟨B, 0, none⟩), .int .i64 m, .agg #[.int .i64 k, .int .i64 a, .int .i64 x, .int .i64 cc]] W fun e w' => e = .returned (.tuple #[.int .i64 (gV ⟨b, wd, M, r, nc, lg, st⟩ s (m, k, a, x, cc)), .int .i64 (gE ⟨b, wd, M, r, nc, lg, st⟩ s (m, k, a, x, cc))]) ∧ RE W w' B base ⟨b, wd, M, r, nc, lg, st⟩ pz pp L.length (gS ⟨b, wd, M, r, nc, lg, st⟩ s (m, k, a, x, cc)) := by
  have e1 : gE ⟨b, wd, M, r, nc, lg, st⟩ s (m, k, a, x, cc) = 4 ∧ gV ⟨b, wd, M, r, nc, lg, st⟩ s (m, k, a, x, cc) = 0 ∧ gS ⟨b, wd, M, r, nc, lg, st⟩ s (m, k, a, x, cc) = s := by
    unfold gE gV gS gdo
    simp only
    rw [if_pos hm]
    exact ⟨rfl, rfl, rfl⟩
  rw [e1.1, e1.2.1, e1.2.2]
  have HH := Lib.hid (fun w' (hb : Below W.heap.size W w') => RE.same h rel hb)
  obtain ⟨w0, hw0⟩ : ∃ w0, W.alloc (.cells #[.int .i64 k, .int .i64 a, .int .i64 x, .int .i64 cc] 39) = w0 := ⟨_, rfl⟩
  have HA : Hid (Below W.heap.size W w0) := Lib.hid (by rw [← hw0]; exact (Below.refl _ _).alloc (Nat.le_refl _) _)
  have c2 := (h.later HA.out).cf 2 _ rfl
  simp only at c2
  clear h rel _wf _hl _hN e1
  by_cases h0 : m < 0
  · have hd : decide (m < 0) = true := decide_eq_true h0
    go_enter Tryd.func10, Tryd.ntmps10
    go_wp2_with fail
    go_ret2
    exact ⟨rfl, HH.out _ HA.out⟩
  · have h1 : (M : Int) ≤ m := by omega
    have hd : decide (m < 0) = false := decide_eq_false h0
    have hd2 : decide ((M : Int) ≤ m) = true := decide_eq_true h1
    go_enter Tryd.func10, Tryd.ntmps10
    go_wp2_with fail
    go_ret2
    exact ⟨rfl, HH.out _ HA.out⟩

set_option maxRecDepth 100000 in
set_option maxHeartbeats 4000000 in
theorem rdo_check {b wd lg st : Int} {M r nc : Nat} {W : World} {B base : Nat} {pz pp : Option Addr} {cz cp : Nat} {zs : List Int} {L : List Pl} {s : GSt} (h : Rg W B base ⟨b, wd, M, r, nc, lg, st⟩ pz cz zs pp cp L) (rel : Rel s zs L) (wf : GWf M r nc s) (hl : L.length ≤ 100000) (hN : s.nO ≤ 100000) (m k a x cc ce : Int) (hm : 0 ≤ m ∧ m < (M : Int)) (hck : checkE b wd M r nc lg st k a x cc = ce) (hce : ce ≠ 0) (t co : Int) (s' : GSt) (hgd : t = 0 ∧ co = ce ∧ s' = s) :
    Calls Tryd.prog 10 #[.pointer (some ⟨B, 0, none⟩), .int .i64 m, .agg #[.int .i64 k, .int .i64 a, .int .i64 x, .int .i64 cc]] W fun e w' => e = .returned (.tuple #[.int .i64 t, .int .i64 co]) ∧ RE W w' B base ⟨b, wd, M, r, nc, lg, st⟩ pz pp L.length s' := by
  have HT := Lib.hid hgd
  have H := Lib.hid h
  have HREL := Lib.hid rel
  have HWF := Lib.hid wf
  have HLN := Lib.hid hl
  have HNN := Lib.hid hN
  obtain ⟨w0, hw0⟩ : ∃ w0, W.alloc (.cells #[.int .i64 k, .int .i64 a, .int .i64 x, .int .i64 cc] 39) = w0 := ⟨_, rfl⟩
  have hA : Below W.heap.size W w0 := by rw [← hw0]; exact (Below.refl _ _).alloc (Nat.le_refl _) _
  have hO : CellsAt w0 W.heap.size [.int .i64 k, .int .i64 a, .int .i64 x, .int .i64 cc] := by rw [← hw0]; exact CellsAt.new _ _ _
  have HO := Lib.hid hO
  have hC := h.cf.later hA
  have HA := Lib.hid hA
  have HCK : Hid (∀ V, Below W.heap.size W V → Calls Tryd.prog 28 #[.agg #[.int .i64 b, .int .i64 wd, .int .i64 M, .int .i64 r, .int .i64 nc, .int .i64 lg, .int .i64 st], .agg #[.int .i64 k, .int .i64 a, .int .i64 x, .int .i64 cc]] V fun e w' => e = .returned (.int .i64 ce) ∧ Below V.heap.size V w') := Lib.hid fun V _ => by
    have := refcheck_any b wd M r nc lg st k a x cc V
    rw [hck] at this; exact this
  have c0 := hC 0 _ rfl
  have c1 := hC 1 _ rfl
  have c2 := hC 2 _ rfl
  have c3 := hC 3 _ rfl
  have c4 := hC 4 _ rfl
  have c5 := hC 5 _ rfl
  have c6 := hC 6 _ rfl
  have o0 := hO 0 _ rfl
  have o1 := hO 1 _ rfl
  have o2 := hO 2 _ rfl
  have o3 := hO 3 _ rfl
  have d0 := cell_regrown c0
  have d1 := cell_regrown c1
  have d2 := cell_regrown c2
  have d3 := cell_regrown c3
  have d4 := cell_regrown c4
  have d5 := cell_regrown c5
  have d6 := cell_regrown c6
  have e0 := cell_regrown o0
  have e1 := cell_regrown o1
  have e2 := cell_regrown o2
  have e3 := cell_regrown o3
  have HGR : Hid (∀ d os, Below W.heap.size W (Sort.grow (redrawn w0 d) os)) := Lib.hid fun d os => HA.out.trans ((below_regrown w0 d os).mono HA.out.size)
  have hd : decide (m < 0) = false := decide_eq_false (by omega)
  have hd2 : decide ((M : Int) ≤ m) = false := decide_eq_false (by omega)
  have hcz : (ce != 0) = true := bne_iff_ne.2 hce
  clear hA hO hC h rel wf hl hN hm hck hce hgd
  go_enter Tryd.func10, Tryd.ntmps10
  go_wp2_with fail
  refine wp_region_quiet_below (by kernel_rfl) (by kernel_rfl) ?_
  repeat (go_big_quiet_step (first
    | (go_at_call 28; exact Calls.regrown_of (HCK.out _ (HGR.out _ _)))))
  refine wpQuiet_nil ?_
  intro W5 hw'
  have HB5 := Lib.hid (below_of_regrown hw')
  clear hw' c0 c1 c2 c3 c4 c5 c6 d0 d1 d2 d3 d4 d5 d6 e0 e1 e2 e3 o0 o1 o2 o3 HGR HCK
  have HO5 := Lib.hid (HO.out.later HB5.out)
  have HBW := Lib.hid (HA.out.trans (HB5.out.mono HA.out.size))
  have o0 := HO5.out 0 _ rfl
  have o1 := HO5.out 1 _ rfl
  have o2 := HO5.out 2 _ rfl
  have o3 := HO5.out 3 _ rfl
  have hlo : W.heap.size < W5.heap.size := lt_of_cell o0
  have HR5 := Lib.hid (H.out.later HBW.out)
  have HAT := Lib.hid (fun V (hV : Below W5.heap.size W5 V) k m n => at_any (HR5.out.later hV) HLN.out k m n)
  have HLY := Lib.hid (fun V (hV : Below W5.heap.size W5 V) k m n v => lay_any (HR5.out.later hV) HLN.out k m n v)
  have HZ0 : Hid (Below W5.heap.size W5 W5) := Lib.hid (Below.refl _ _)
  clear HAT HLY o0 o1 o2 o3
  have HFI := Lib.hid (RE.same H.out HREL.out HBW.out)
  go_wp2_with fail
  go_ret2
  exact ⟨by rw [HT.out.1, HT.out.2.1]; rfl, by rw [HT.out.2.2]; exact HFI.out⟩

set_option maxRecDepth 100000 in
set_option maxHeartbeats 4000000 in
theorem rdo_safe {b wd lg st : Int} {M r nc : Nat} {W : World} {B base : Nat} {pz pp : Option Addr} {cz cp : Nat} {zs : List Int} {L : List Pl} {s : GSt} (h : Rg W B base ⟨b, wd, M, r, nc, lg, st⟩ pz cz zs pp cp L) (rel : Rel s zs L) (wf : GWf M r nc s) (hl : L.length ≤ 100000) (hN : s.nO ≤ 100000) (m a x cc : Int) (hm : 0 ≤ m ∧ m < (M : Int)) (hck : checkE b wd M r nc lg st 8 a x cc = 0) (t co : Int) (s' : GSt) (hgd : gd s m 8 a x cc = (t, co, s')) :
    Calls Tryd.prog 10 #[.pointer (some ⟨B, 0, none⟩), .int .i64 m, .agg #[.int .i64 8, .int .i64 a, .int .i64 x, .int .i64 cc]] W fun e w' => e = .returned (.tuple #[.int .i64 t, .int .i64 co]) ∧ RE W w' B base ⟨b, wd, M, r, nc, lg, st⟩ pz pp L.length s' := by
  have HT : Hid (t = ((0 : Int), (0 : Int), s).1 ∧ co = ((0 : Int), (0 : Int), s).2.1 ∧ s' = ((0 : Int), (0 : Int), s).2.2) := Lib.hid (by
    have e : gd s m 8 a x cc = ((0 : Int), (0 : Int), s) := rfl
    rw [e] at hgd
    exact ⟨(congrArg Prod.fst hgd).symm, (congrArg (fun q => q.2.1) hgd).symm, (congrArg (fun q => q.2.2) hgd).symm⟩)
  clear hgd
  have H := Lib.hid h
  have HREL := Lib.hid rel
  have HWF := Lib.hid wf
  have HLN := Lib.hid hl
  have HNN := Lib.hid hN
  obtain ⟨w0, hw0⟩ : ∃ w0, W.alloc (.cells #[.int .i64 8, .int .i64 a, .int .i64 x, .int .i64 cc] 39) = w0 := ⟨_, rfl⟩
  have hA : Below W.heap.size W w0 := by rw [← hw0]; exact (Below.refl _ _).alloc (Nat.le_refl _) _
  have hO : CellsAt w0 W.heap.size [.int .i64 8, .int .i64 a, .int .i64 x, .int .i64 cc] := by rw [← hw0]; exact CellsAt.new _ _ _
  have HO := Lib.hid hO
  have hC := h.cf.later hA
  have HA := Lib.hid hA
  have HCK : Hid (∀ V, Below W.heap.size W V → Calls Tryd.prog 28 #[.agg #[.int .i64 b, .int .i64 wd, .int .i64 M, .int .i64 r, .int .i64 nc, .int .i64 lg, .int .i64 st], .agg #[.int .i64 8, .int .i64 a, .int .i64 x, .int .i64 cc]] V fun e w' => e = .returned (.int .i64 0) ∧ Below V.heap.size V w') := Lib.hid fun V _ => by
    have := refcheck_any b wd M r nc lg st 8 a x cc V
    rw [hck] at this; exact this
  have c0 := hC 0 _ rfl
  have c1 := hC 1 _ rfl
  have c2 := hC 2 _ rfl
  have c3 := hC 3 _ rfl
  have c4 := hC 4 _ rfl
  have c5 := hC 5 _ rfl
  have c6 := hC 6 _ rfl
  have o0 := hO 0 _ rfl
  have o1 := hO 1 _ rfl
  have o2 := hO 2 _ rfl
  have o3 := hO 3 _ rfl
  have d0 := cell_regrown c0
  have d1 := cell_regrown c1
  have d2 := cell_regrown c2
  have d3 := cell_regrown c3
  have d4 := cell_regrown c4
  have d5 := cell_regrown c5
  have d6 := cell_regrown c6
  have e0 := cell_regrown o0
  have e1 := cell_regrown o1
  have e2 := cell_regrown o2
  have e3 := cell_regrown o3
  have HGR : Hid (∀ d os, Below W.heap.size W (Sort.grow (redrawn w0 d) os)) := Lib.hid fun d os => HA.out.trans ((below_regrown w0 d os).mono HA.out.size)
  have hd : decide (m < 0) = false := decide_eq_false (by omega)
  have hd2 : decide ((M : Int) ≤ m) = false := decide_eq_false (by omega)
  have HM := Lib.hid hm
  have HC0 := Lib.hid hck
  clear hA hO hC h rel wf hl hN hm hck
  go_enter Tryd.func10, Tryd.ntmps10
  go_wp2_with fail
  refine wp_region_quiet_below (by kernel_rfl) (by kernel_rfl) ?_
  repeat (go_big_quiet_step (first
    | (go_at_call 28; exact Calls.regrown_of (HCK.out _ (HGR.out _ _)))))
  refine wpQuiet_nil ?_
  intro W5 hw'
  have HB5 := Lib.hid (below_of_regrown hw')
  clear hw' c0 c1 c2 c3 c4 c5 c6 d0 d1 d2 d3 d4 d5 d6 e0 e1 e2 e3 o0 o1 o2 o3 HGR HCK
  have HO5 := Lib.hid (HO.out.later HB5.out)
  have HBW := Lib.hid (HA.out.trans (HB5.out.mono HA.out.size))
  have o0 := HO5.out 0 _ rfl
  have o1 := HO5.out 1 _ rfl
  have o2 := HO5.out 2 _ rfl
  have o3 := HO5.out 3 _ rfl
  have hlo : W.heap.size < W5.heap.size := lt_of_cell o0
  have HR5 := Lib.hid (H.out.later HBW.out)
  have HAT := Lib.hid (fun V (hV : Below W5.heap.size W5 V) k m n => at_any (HR5.out.later hV) HLN.out k m n)
  have HLY := Lib.hid (fun V (hV : Below W5.heap.size W5 V) k m n v => lay_any (HR5.out.later hV) HLN.out k m n v)
  have HZ0 : Hid (Below W5.heap.size W5 W5) := Lib.hid (Below.refl _ _)
  have HH := Lib.hid (RE.same H.out HREL.out HBW.out)
  clear HAT HLY
  go_wp2_with fail
  go_ret2
  exact ⟨by rw [HT.out.1, HT.out.2.1]; rfl, by rw [HT.out.2.2]; exact HH.out⟩

set_option maxRecDepth 100000 in
set_option maxHeartbeats 4000000 in
theorem rdo_drop {b wd lg st : Int} {M r nc : Nat} {W : World} {B base : Nat} {pz pp : Option Addr} {cz cp : Nat} {zs : List Int} {L : List Pl} {s : GSt} (h : Rg W B base ⟨b, wd, M, r, nc, lg, st⟩ pz cz zs pp cp L) (rel : Rel s zs L) (wf : GWf M r nc s) (hl : L.length ≤ 100000) (hN : s.nO ≤ 100000) (m a x cc : Int) (hm : 0 ≤ m ∧ m < (M : Int)) (hck : checkE b wd M r nc lg st 6 a x cc = 0) (t co : Int) (s' : GSt) (hgd : gd s m 6 a x cc = (t, co, s')) :
    Calls Tryd.prog 10 #[.pointer (some ⟨B, 0, none⟩), .int .i64 m, .agg #[.int .i64 6, .int .i64 a, .int .i64 x, .int .i64 cc]] W fun e w' => e = .returned (.tuple #[.int .i64 t, .int .i64 co]) ∧ RE W w' B base ⟨b, wd, M, r, nc, lg, st⟩ pz pp L.length s' := by
  have HT : Hid (t = ((0 : Int), (0 : Int), s.set (4 + 2 * m.toNat) a.toNat 0).1 ∧ co = ((0 : Int), (0 : Int), s.set (4 + 2 * m.toNat) a.toNat 0).2.1 ∧ s' = ((0 : Int), (0 : Int), s.set (4 + 2 * m.toNat) a.toNat 0).2.2) := Lib.hid (by
    have e : gd s m 6 a x cc = ((0 : Int), (0 : Int), s.set (4 + 2 * m.toNat) a.toNat 0) := rfl
    rw [e] at hgd
    exact ⟨(congrArg Prod.fst hgd).symm, (congrArg (fun q => q.2.1) hgd).symm, (congrArg (fun q => q.2.2) hgd).symm⟩)
  clear hgd
  have H := Lib.hid h
  have HREL := Lib.hid rel
  have HWF := Lib.hid wf
  have HLN := Lib.hid hl
  have HNN := Lib.hid hN
  obtain ⟨w0, hw0⟩ : ∃ w0, W.alloc (.cells #[.int .i64 6, .int .i64 a, .int .i64 x, .int .i64 cc] 39) = w0 := ⟨_, rfl⟩
  have hA : Below W.heap.size W w0 := by rw [← hw0]; exact (Below.refl _ _).alloc (Nat.le_refl _) _
  have hO : CellsAt w0 W.heap.size [.int .i64 6, .int .i64 a, .int .i64 x, .int .i64 cc] := by rw [← hw0]; exact CellsAt.new _ _ _
  have HO := Lib.hid hO
  have hC := h.cf.later hA
  have HA := Lib.hid hA
  have HCK : Hid (∀ V, Below W.heap.size W V → Calls Tryd.prog 28 #[.agg #[.int .i64 b, .int .i64 wd, .int .i64 M, .int .i64 r, .int .i64 nc, .int .i64 lg, .int .i64 st], .agg #[.int .i64 6, .int .i64 a, .int .i64 x, .int .i64 cc]] V fun e w' => e = .returned (.int .i64 0) ∧ Below V.heap.size V w') := Lib.hid fun V _ => by
    have := refcheck_any b wd M r nc lg st 6 a x cc V
    rw [hck] at this; exact this
  have c0 := hC 0 _ rfl
  have c1 := hC 1 _ rfl
  have c2 := hC 2 _ rfl
  have c3 := hC 3 _ rfl
  have c4 := hC 4 _ rfl
  have c5 := hC 5 _ rfl
  have c6 := hC 6 _ rfl
  have o0 := hO 0 _ rfl
  have o1 := hO 1 _ rfl
  have o2 := hO 2 _ rfl
  have o3 := hO 3 _ rfl
  have d0 := cell_regrown c0
  have d1 := cell_regrown c1
  have d2 := cell_regrown c2
  have d3 := cell_regrown c3
  have d4 := cell_regrown c4
  have d5 := cell_regrown c5
  have d6 := cell_regrown c6
  have e0 := cell_regrown o0
  have e1 := cell_regrown o1
  have e2 := cell_regrown o2
  have e3 := cell_regrown o3
  have HGR : Hid (∀ d os, Below W.heap.size W (Sort.grow (redrawn w0 d) os)) := Lib.hid fun d os => HA.out.trans ((below_regrown w0 d os).mono HA.out.size)
  have hd : decide (m < 0) = false := decide_eq_false (by omega)
  have hd2 : decide ((M : Int) ≤ m) = false := decide_eq_false (by omega)
  have HM := Lib.hid hm
  have HC0 := Lib.hid hck
  clear hA hO hC h rel wf hl hN hm hck
  go_enter Tryd.func10, Tryd.ntmps10
  go_wp2_with fail
  refine wp_region_quiet_below (by kernel_rfl) (by kernel_rfl) ?_
  repeat (go_big_quiet_step (first
    | (go_at_call 28; exact Calls.regrown_of (HCK.out _ (HGR.out _ _)))))
  refine wpQuiet_nil ?_
  intro W5 hw'
  have HB5 := Lib.hid (below_of_regrown hw')
  clear hw' c0 c1 c2 c3 c4 c5 c6 d0 d1 d2 d3 d4 d5 d6 e0 e1 e2 e3 o0 o1 o2 o3 HGR HCK
  have HO5 := Lib.hid (HO.out.later HB5.out)
  have HBW := Lib.hid (HA.out.trans (HB5.out.mono HA.out.size))
  have o0 := HO5.out 0 _ rfl
  have o1 := HO5.out 1 _ rfl
  have o2 := HO5.out 2 _ rfl
  have o3 := HO5.out 3 _ rfl
  have hlo : W.heap.size < W5.heap.size := lt_of_cell o0
  have HR5 := Lib.hid (H.out.later HBW.out)
  have HAT := Lib.hid (fun V (hV : Below W5.heap.size W5 V) k m n => at_any (HR5.out.later hV) HLN.out k m n)
  have HLY := Lib.hid (fun V (hV : Below W5.heap.size W5 V) k m n v => lay_any (HR5.out.later hV) HLN.out k m n v)
  have HZ0 : Hid (Below W5.heap.size W5 W5) := Lib.hid (Below.refl _ _)
  have ha := Lib.hid (ck6 HC0.out)
  have HH := Lib.hid (fun w' hE => RE.lay1 (w' := w') H.out HREL.out HWF.out HBW.out HM.out ha.out (v := 0) hE)
  clear HAT
  go_wp2_with (go_at_call 29; refine (HLY.out _ HZ0.out _ _ _ _).mono ?_; rintro e w7 ⟨rfl, hE⟩; have HE := Lib.hid hE; clear hE)
  go_ret2
  exact ⟨by rw [HT.out.1, HT.out.2.1]; rfl, by rw [HT.out.2.2]; exact HH.out _ HE.out⟩

set_option maxRecDepth 100000 in
set_option maxHeartbeats 4000000 in
theorem rdo_move {b wd lg st : Int} {M r nc : Nat} {W : World} {B base : Nat} {pz pp : Option Addr} {cz cp : Nat} {zs : List Int} {L : List Pl} {s : GSt} (h : Rg W B base ⟨b, wd, M, r, nc, lg, st⟩ pz cz zs pp cp L) (rel : Rel s zs L) (wf : GWf M r nc s) (hl : L.length ≤ 100000) (hN : s.nO ≤ 100000) (m a x cc : Int) (hm : 0 ≤ m ∧ m < (M : Int)) (hck : checkE b wd M r nc lg st 7 a x cc = 0) (t co : Int) (s' : GSt) (hgd : gd s m 7 a x cc = (t, co, s')) :
    Calls Tryd.prog 10 #[.pointer (some ⟨B, 0, none⟩), .int .i64 m, .agg #[.int .i64 7, .int .i64 a, .int .i64 x, .int .i64 cc]] W fun e w' => e = .returned (.tuple #[.int .i64 t, .int .i64 co]) ∧ RE W w' B base ⟨b, wd, M, r, nc, lg, st⟩ pz pp L.length s' := by
  have HT : Hid (t = ((rg s m x), (0 : Int), s.set (4 + 2 * m.toNat) a.toNat (rg s m x)).1 ∧ co = ((rg s m x), (0 : Int), s.set (4 + 2 * m.toNat) a.toNat (rg s m x)).2.1 ∧ s' = ((rg s m x), (0 : Int), s.set (4 + 2 * m.toNat) a.toNat (rg s m x)).2.2) := Lib.hid (by
    have e : gd s m 7 a x cc = ((rg s m x), (0 : Int), s.set (4 + 2 * m.toNat) a.toNat (rg s m x)) := rfl
    rw [e] at hgd
    exact ⟨(congrArg Prod.fst hgd).symm, (congrArg (fun q => q.2.1) hgd).symm, (congrArg (fun q => q.2.2) hgd).symm⟩)
  clear hgd
  have H := Lib.hid h
  have HREL := Lib.hid rel
  have HWF := Lib.hid wf
  have HLN := Lib.hid hl
  have HNN := Lib.hid hN
  obtain ⟨w0, hw0⟩ : ∃ w0, W.alloc (.cells #[.int .i64 7, .int .i64 a, .int .i64 x, .int .i64 cc] 39) = w0 := ⟨_, rfl⟩
  have hA : Below W.heap.size W w0 := by rw [← hw0]; exact (Below.refl _ _).alloc (Nat.le_refl _) _
  have hO : CellsAt w0 W.heap.size [.int .i64 7, .int .i64 a, .int .i64 x, .int .i64 cc] := by rw [← hw0]; exact CellsAt.new _ _ _
  have HO := Lib.hid hO
  have hC := h.cf.later hA
  have HA := Lib.hid hA
  have HCK : Hid (∀ V, Below W.heap.size W V → Calls Tryd.prog 28 #[.agg #[.int .i64 b, .int .i64 wd, .int .i64 M, .int .i64 r, .int .i64 nc, .int .i64 lg, .int .i64 st], .agg #[.int .i64 7, .int .i64 a, .int .i64 x, .int .i64 cc]] V fun e w' => e = .returned (.int .i64 0) ∧ Below V.heap.size V w') := Lib.hid fun V _ => by
    have := refcheck_any b wd M r nc lg st 7 a x cc V
    rw [hck] at this; exact this
  have c0 := hC 0 _ rfl
  have c1 := hC 1 _ rfl
  have c2 := hC 2 _ rfl
  have c3 := hC 3 _ rfl
  have c4 := hC 4 _ rfl
  have c5 := hC 5 _ rfl
  have c6 := hC 6 _ rfl
  have o0 := hO 0 _ rfl
  have o1 := hO 1 _ rfl
  have o2 := hO 2 _ rfl
  have o3 := hO 3 _ rfl
  have d0 := cell_regrown c0
  have d1 := cell_regrown c1
  have d2 := cell_regrown c2
  have d3 := cell_regrown c3
  have d4 := cell_regrown c4
  have d5 := cell_regrown c5
  have d6 := cell_regrown c6
  have e0 := cell_regrown o0
  have e1 := cell_regrown o1
  have e2 := cell_regrown o2
  have e3 := cell_regrown o3
  have HGR : Hid (∀ d os, Below W.heap.size W (Sort.grow (redrawn w0 d) os)) := Lib.hid fun d os => HA.out.trans ((below_regrown w0 d os).mono HA.out.size)
  have hd : decide (m < 0) = false := decide_eq_false (by omega)
  have hd2 : decide ((M : Int) ≤ m) = false := decide_eq_false (by omega)
  have HM := Lib.hid hm
  have HC0 := Lib.hid hck
  clear hA hO hC h rel wf hl hN hm hck
  go_enter Tryd.func10, Tryd.ntmps10
  go_wp2_with fail
  refine wp_region_quiet_below (by kernel_rfl) (by kernel_rfl) ?_
  repeat (go_big_quiet_step (first
    | (go_at_call 28; exact Calls.regrown_of (HCK.out _ (HGR.out _ _)))))
  refine wpQuiet_nil ?_
  intro W5 hw'
  have HB5 := Lib.hid (below_of_regrown hw')
  clear hw' c0 c1 c2 c3 c4 c5 c6 d0 d1 d2 d3 d4 d5 d6 e0 e1 e2 e3 o0 o1 o2 o3 HGR HCK
  have HO5 := Lib.hid (HO.out.later HB5.out)
  have HBW := Lib.hid (HA.out.trans (HB5.out.mono HA.out.size))
  have o0 := HO5.out 0 _ rfl
  have o1 := HO5.out 1 _ rfl
  have o2 := HO5.out 2 _ rfl
  have o3 := HO5.out 3 _ rfl
  have hlo : W.heap.size < W5.heap.size := lt_of_cell o0
  have HR5 := Lib.hid (H.out.later HBW.out)
  have HAT := Lib.hid (fun V (hV : Below W5.heap.size W5 V) k m n => at_any (HR5.out.later hV) HLN.out k m n)
  have HLY := Lib.hid (fun V (hV : Below W5.heap.size W5 V) k m n v => lay_any (HR5.out.later hV) HLN.out k m n v)
  have HZ0 : Hid (Below W5.heap.size W5 W5) := Lib.hid (Below.refl _ _)
  have ha := Lib.hid (ck7 HC0.out).1
  have HV : Hid (atL L 1 m x = (rg s m x)) := Lib.hid (by rw [HREL.out.a1]; exact rgI_in HWF.out HM.out (ck7 HC0.out).2)
  have HH := Lib.hid (fun w' hE => RE.lay1 (w' := w') H.out HREL.out HWF.out HBW.out HM.out ha.out (v := (rg s m x)) hE)
  generalize (rg s m x) = v at *
  go_wp2_with (first
    | (go_at_call 18; refine (HAT.out _ HZ0.out _ _ _).mono ?_; rintro e w9 ⟨rfl, hw9⟩; cases hw9)
    | (go_at_call 29; rw [HV.out]; refine (HLY.out _ HZ0.out _ _ _ _).mono ?_; rintro e w7 ⟨rfl, hE⟩; have HE := Lib.hid hE; clear hE))
  go_ret2
  exact ⟨by rw [HT.out.1, HT.out.2.1]; rfl, by rw [HT.out.2.2]; exact HH.out _ HE.out⟩

set_option maxRecDepth 100000 in
set_option maxHeartbeats 4000000 in
theorem rdo_get {b wd lg st : Int} {M r nc : Nat} {W : World} {B base : Nat} {pz pp : Option Addr} {cz cp : Nat} {zs : List Int} {L : List Pl} {s : GSt} (h : Rg W B base ⟨b, wd, M, r, nc, lg, st⟩ pz cz zs pp cp L) (rel : Rel s zs L) (wf : GWf M r nc s) (hl : L.length ≤ 100000) (hN : s.nO ≤ 100000) (m a x cc : Int) (hm : 0 ≤ m ∧ m < (M : Int)) (hck : checkE b wd M r nc lg st 4 a x cc = 0) (t co : Int) (s' : GSt) (hgd : gd s m 4 a x cc = (t, co, s')) :
    Calls Tryd.prog 10 #[.pointer (some ⟨B, 0, none⟩), .int .i64 m, .agg #[.int .i64 4, .int .i64 a, .int .i64 x, .int .i64 cc]] W fun e w' => e = .returned (.tuple #[.int .i64 t, .int .i64 co]) ∧ RE W w' B base ⟨b, wd, M, r, nc, lg, st⟩ pz pp L.length s' := by
  have HT : Hid (t = (((s.E 2).getD x.toNat 0), (0 : Int), s.set (4 + 2 * m.toNat) a.toNat ((s.E 2).getD x.toNat 0)).1 ∧ co = (((s.E 2).getD x.toNat 0), (0 : Int), s.set (4 + 2 * m.toNat) a.toNat ((s.E 2).getD x.toNat 0)).2.1 ∧ s' = (((s.E 2).getD x.toNat 0), (0 : Int), s.set (4 + 2 * m.toNat) a.toNat ((s.E 2).getD x.toNat 0)).2.2) := Lib.hid (by
    have e : gd s m 4 a x cc = (((s.E 2).getD x.toNat 0), (0 : Int), s.set (4 + 2 * m.toNat) a.toNat ((s.E 2).getD x.toNat 0)) := rfl
    rw [e] at hgd
    exact ⟨(congrArg Prod.fst hgd).symm, (congrArg (fun q => q.2.1) hgd).symm, (congrArg (fun q => q.2.2) hgd).symm⟩)
  clear hgd
  have H := Lib.hid h
  have HREL := Lib.hid rel
  have HWF := Lib.hid wf
  have HLN := Lib.hid hl
  have HNN := Lib.hid hN
  obtain ⟨w0, hw0⟩ : ∃ w0, W.alloc (.cells #[.int .i64 4, .int .i64 a, .int .i64 x, .int .i64 cc] 39) = w0 := ⟨_, rfl⟩
  have hA : Below W.heap.size W w0 := by rw [← hw0]; exact (Below.refl _ _).alloc (Nat.le_refl _) _
  have hO : CellsAt w0 W.heap.size [.int .i64 4, .int .i64 a, .int .i64 x, .int .i64 cc] := by rw [← hw0]; exact CellsAt.new _ _ _
  have HO := Lib.hid hO
  have hC := h.cf.later hA
  have HA := Lib.hid hA
  have HCK : Hid (∀ V, Below W.heap.size W V → Calls Tryd.prog 28 #[.agg #[.int .i64 b, .int .i64 wd, .int .i64 M, .int .i64 r, .int .i64 nc, .int .i64 lg, .int .i64 st], .agg #[.int .i64 4, .int .i64 a, .int .i64 x, .int .i64 cc]] V fun e w' => e = .returned (.int .i64 0) ∧ Below V.heap.size V w') := Lib.hid fun V _ => by
    have := refcheck_any b wd M r nc lg st 4 a x cc V
    rw [hck] at this; exact this
  have c0 := hC 0 _ rfl
  have c1 := hC 1 _ rfl
  have c2 := hC 2 _ rfl
  have c3 := hC 3 _ rfl
  have c4 := hC 4 _ rfl
  have c5 := hC 5 _ rfl
  have c6 := hC 6 _ rfl
  have o0 := hO 0 _ rfl
  have o1 := hO 1 _ rfl
  have o2 := hO 2 _ rfl
  have o3 := hO 3 _ rfl
  have d0 := cell_regrown c0
  have d1 := cell_regrown c1
  have d2 := cell_regrown c2
  have d3 := cell_regrown c3
  have d4 := cell_regrown c4
  have d5 := cell_regrown c5
  have d6 := cell_regrown c6
  have e0 := cell_regrown o0
  have e1 := cell_regrown o1
  have e2 := cell_regrown o2
  have e3 := cell_regrown o3
  have HGR : Hid (∀ d os, Below W.heap.size W (Sort.grow (redrawn w0 d) os)) := Lib.hid fun d os => HA.out.trans ((below_regrown w0 d os).mono HA.out.size)
  have hd : decide (m < 0) = false := decide_eq_false (by omega)
  have hd2 : decide ((M : Int) ≤ m) = false := decide_eq_false (by omega)
  have HM := Lib.hid hm
  have HC0 := Lib.hid hck
  clear hA hO hC h rel wf hl hN hm hck
  go_enter Tryd.func10, Tryd.ntmps10
  go_wp2_with fail
  refine wp_region_quiet_below (by kernel_rfl) (by kernel_rfl) ?_
  repeat (go_big_quiet_step (first
    | (go_at_call 28; exact Calls.regrown_of (HCK.out _ (HGR.out _ _)))))
  refine wpQuiet_nil ?_
  intro W5 hw'
  have HB5 := Lib.hid (below_of_regrown hw')
  clear hw' c0 c1 c2 c3 c4 c5 c6 d0 d1 d2 d3 d4 d5 d6 e0 e1 e2 e3 o0 o1 o2 o3 HGR HCK
  have HO5 := Lib.hid (HO.out.later HB5.out)
  have HBW := Lib.hid (HA.out.trans (HB5.out.mono HA.out.size))
  have o0 := HO5.out 0 _ rfl
  have o1 := HO5.out 1 _ rfl
  have o2 := HO5.out 2 _ rfl
  have o3 := HO5.out 3 _ rfl
  have hlo : W.heap.size < W5.heap.size := lt_of_cell o0
  have HR5 := Lib.hid (H.out.later HBW.out)
  have HAT := Lib.hid (fun V (hV : Below W5.heap.size W5 V) k m n => at_any (HR5.out.later hV) HLN.out k m n)
  have HLY := Lib.hid (fun V (hV : Below W5.heap.size W5 V) k m n v => lay_any (HR5.out.later hV) HLN.out k m n v)
  have HZ0 : Hid (Below W5.heap.size W5 W5) := Lib.hid (Below.refl _ _)
  have ha := Lib.hid (ck4 HC0.out).1
  have HV : Hid (atL L 2 0 x = ((s.E 2).getD x.toNat 0)) := Lib.hid (by rw [HREL.out.a2]; unfold atI; rw [if_pos (by rw [HWF.out.cel]; exact (ck4 HC0.out).2)])
  have HH := Lib.hid (fun w' hE => RE.lay1 (w' := w') H.out HREL.out HWF.out HBW.out HM.out ha.out (v := ((s.E 2).getD x.toNat 0)) hE)
  generalize ((s.E 2).getD x.toNat 0) = v at *
  go_wp2_with (first
    | (go_at_call 18; refine (HAT.out _ HZ0.out _ _ _).mono ?_; rintro e w9 ⟨rfl, hw9⟩; cases hw9)
    | (go_at_call 29; rw [HV.out]; refine (HLY.out _ HZ0.out _ _ _ _).mono ?_; rintro e w7 ⟨rfl, hE⟩; have HE := Lib.hid hE; clear hE))
  go_ret2
  exact ⟨by rw [HT.out.1, HT.out.2.1]; rfl, by rw [HT.out.2.2]; exact HH.out _ HE.out⟩

set_option maxRecDepth 100000 in
set_option maxHeartbeats 4000000 in
theorem rdo_set {b wd lg st : Int} {M r nc : Nat} {W : World} {B base : Nat} {pz pp : Option Addr} {cz cp : Nat} {zs : List Int} {L : List Pl} {s : GSt} (h : Rg W B base ⟨b, wd, M, r, nc, lg, st⟩ pz cz zs pp cp L) (rel : Rel s zs L) (wf : GWf M r nc s) (hl : L.length ≤ 100000) (hN : s.nO ≤ 100000) (m a x cc : Int) (hm : 0 ≤ m ∧ m < (M : Int)) (hck : checkE b wd M r nc lg st 5 a x cc = 0) (t co : Int) (s' : GSt) (hgd : gd s m 5 a x cc = (t, co, s')) :
    Calls Tryd.prog 10 #[.pointer (some ⟨B, 0, none⟩), .int .i64 m, .agg #[.int .i64 5, .int .i64 a, .int .i64 x, .int .i64 cc]] W fun e w' => e = .returned (.tuple #[.int .i64 t, .int .i64 co]) ∧ RE W w' B base ⟨b, wd, M, r, nc, lg, st⟩ pz pp L.length s' := by
  have HT : Hid (t = ((0 : Int), (0 : Int), s.set 2 a.toNat (rg s m x)).1 ∧ co = ((0 : Int), (0 : Int), s.set 2 a.toNat (rg s m x)).2.1 ∧ s' = ((0 : Int), (0 : Int), s.set 2 a.toNat (rg s m x)).2.2) := Lib.hid (by
    have e : gd s m 5 a x cc = ((0 : Int), (0 : Int), s.set 2 a.toNat (rg s m x)) := rfl
    rw [e] at hgd
    exact ⟨(congrArg Prod.fst hgd).symm, (congrArg (fun q => q.2.1) hgd).symm, (congrArg (fun q => q.2.2) hgd).symm⟩)
  clear hgd
  have H := Lib.hid h
  have HREL := Lib.hid rel
  have HWF := Lib.hid wf
  have HLN := Lib.hid hl
  have HNN := Lib.hid hN
  obtain ⟨w0, hw0⟩ : ∃ w0, W.alloc (.cells #[.int .i64 5, .int .i64 a, .int .i64 x, .int .i64 cc] 39) = w0 := ⟨_, rfl⟩
  have hA : Below W.heap.size W w0 := by rw [← hw0]; exact (Below.refl _ _).alloc (Nat.le_refl _) _
  have hO : CellsAt w0 W.heap.size [.int .i64 5, .int .i64 a, .int .i64 x, .int .i64 cc] := by rw [← hw0]; exact CellsAt.new _ _ _
  have HO := Lib.hid hO
  have hC := h.cf.later hA
  have HA := Lib.hid hA
  have HCK : Hid (∀ V, Below W.heap.size W V → Calls Tryd.prog 28 #[.agg #[.int .i64 b, .int .i64 wd, .int .i64 M, .int .i64 r, .int .i64 nc, .int .i64 lg, .int .i64 st], .agg #[.int .i64 5, .int .i64 a, .int .i64 x, .int .i64 cc]] V fun e w' => e = .returned (.int .i64 0) ∧ Below V.heap.size V w') := Lib.hid fun V _ => by
    have := refcheck_any b wd M r nc lg st 5 a x cc V
    rw [hck] at this; exact this
  have c0 := hC 0 _ rfl
  have c1 := hC 1 _ rfl
  have c2 := hC 2 _ rfl
  have c3 := hC 3 _ rfl
  have c4 := hC 4 _ rfl
  have c5 := hC 5 _ rfl
  have c6 := hC 6 _ rfl
  have o0 := hO 0 _ rfl
  have o1 := hO 1 _ rfl
  have o2 := hO 2 _ rfl
  have o3 := hO 3 _ rfl
  have d0 := cell_regrown c0
  have d1 := cell_regrown c1
  have d2 := cell_regrown c2
  have d3 := cell_regrown c3
  have d4 := cell_regrown c4
  have d5 := cell_regrown c5
  have d6 := cell_regrown c6
  have e0 := cell_regrown o0
  have e1 := cell_regrown o1
  have e2 := cell_regrown o2
  have e3 := cell_regrown o3
  have HGR : Hid (∀ d os, Below W.heap.size W (Sort.grow (redrawn w0 d) os)) := Lib.hid fun d os => HA.out.trans ((below_regrown w0 d os).mono HA.out.size)
  have hd : decide (m < 0) = false := decide_eq_false (by omega)
  have hd2 : decide ((M : Int) ≤ m) = false := decide_eq_false (by omega)
  have HM := Lib.hid hm
  have HC0 := Lib.hid hck
  clear hA hO hC h rel wf hl hN hm hck
  go_enter Tryd.func10, Tryd.ntmps10
  go_wp2_with fail
  refine wp_region_quiet_below (by kernel_rfl) (by kernel_rfl) ?_
  repeat (go_big_quiet_step (first
    | (go_at_call 28; exact Calls.regrown_of (HCK.out _ (HGR.out _ _)))))
  refine wpQuiet_nil ?_
  intro W5 hw'
  have HB5 := Lib.hid (below_of_regrown hw')
  clear hw' c0 c1 c2 c3 c4 c5 c6 d0 d1 d2 d3 d4 d5 d6 e0 e1 e2 e3 o0 o1 o2 o3 HGR HCK
  have HO5 := Lib.hid (HO.out.later HB5.out)
  have HBW := Lib.hid (HA.out.trans (HB5.out.mono HA.out.size))
  have o0 := HO5.out 0 _ rfl
  have o1 := HO5.out 1 _ rfl
  have o2 := HO5.out 2 _ rfl
  have o3 := HO5.out 3 _ rfl
  have hlo : W.heap.size < W5.heap.size := lt_of_cell o0
  have HR5 := Lib.hid (H.out.later HBW.out)
  have HAT := Lib.hid (fun V (hV : Below W5.heap.size W5 V) k m n => at_any (HR5.out.later hV) HLN.out k m n)
  have HLY := Lib.hid (fun V (hV : Below W5.heap.size W5 V) k m n v => lay_any (HR5.out.later hV) HLN.out k m n v)
  have HZ0 : Hid (Below W5.heap.size W5 W5) := Lib.hid (Below.refl _ _)
  have ha := Lib.hid (ck5 HC0.out)
  have HV : Hid (atL L 1 m x = rg s m x) := Lib.hid (by rw [HREL.out.a1]; exact rgI_in HWF.out HM.out (ck5 HC0.out).2)
  have HA1 := Lib.hid (fun V hV => HAT.out V hV 1 m x)
  have HL1 := Lib.hid (fun V hV => HLY.out V hV 2 0 a (rg s m x))
  rw [HV.out] at HA1
  have HH := Lib.hid (fun V w' hV hE => RE.lay2 (V := V) (w' := w') H.out HREL.out HWF.out hV ha.out.1 (v := rg s m x) hE)
  have HZ1 : Hid (Below W5.heap.size W5 W5.drew) := Lib.hid (Below.refl _ _).drew
  have HK0 : Hid (∀ V, Below W5.heap.size W5 V → V.cell? ⟨W.heap.size, 1, none⟩ = some (.int .i64 a) ∧ V.cell? ⟨W.heap.size, 2, none⟩ = some (.int .i64 x)) := Lib.hid fun V hV => ⟨(HO5.out.later hV) 1 _ rfl, (HO5.out.later hV) 2 _ rfl⟩
  have HBM : Hid (B < W.heap.size) := Lib.hid (H.out.ltM (.inl rfl)).2
  have HK1 : Hid (∀ V w', Below W5.heap.size W5 V → LayP V w' B base ⟨b, wd, M, r, nc, lg, st⟩ pz cz zs (layL L 2 0 a (rg s m x)) → w'.cell? ⟨W.heap.size, 1, none⟩ = some (.int .i64 a) ∧ w'.cell? ⟨W.heap.size, 2, none⟩ = some (.int .i64 x)) := Lib.hid fun V w' hV hE => by
    obtain ⟨p', cap', _, h2, _⟩ := hE
    have hlt : W.heap.size < V.heap.size := lt_of_cell (HK0.out V hV).1
    exact ⟨(h2.cell (p := ⟨W.heap.size, 1, none⟩) hlt (fun e => by have := HBM.out; simp only at e; omega)).trans (HK0.out V hV).1, (h2.cell (p := ⟨W.heap.size, 2, none⟩) hlt (fun e => by have := HBM.out; simp only at e; omega)).trans (HK0.out V hV).2⟩
  have HBZ := Lib.hid (fun V (hV : Below W5.heap.size W5 V) => HBW.out.trans (hV.mono HBW.out.size))
  clear HAT HLY
  generalize rg s m x = v at *
  go_wp2_with fail
  go_region_held3 (fun U => U.cell? ⟨W.heap.size, 1, none⟩ = some (.int .i64 a) ∧ U.cell? ⟨W.heap.size, 2, none⟩ = some (.int .i64 x))
    (first | exact HK0.out _ HZ0.out | exact HK0.out _ HZ1.out | exact HK1.out _ _ HZ1.out HE.out | exact HK1.out _ _ HZ0.out HE.out)
    (first
      | (go_at_call 18; refine (HA1.out _ (by first | exact HZ0.out | exact HZ1.out)).mono ?_; rintro e w9 ⟨rfl, hw9⟩; cases hw9)
      | (go_at_call 29; refine (HL1.out _ (by first | exact HZ0.out | exact HZ1.out)).mono ?_; rintro e w7 ⟨rfl, hE⟩; have HE := Lib.hid hE; clear hE))
  rename_i hdrop
  clear hdrop
  go_wp2_with fail
  go_ret2
  exact ⟨by rw [HT.out.1, HT.out.2.1]; rfl, by rw [HT.out.2.2]; exact HH.out _ _ (HBZ.out _ (by first | exact HZ1.out | exact HZ0.out)) HE.out⟩

set_option maxRecDepth 100000 in
set_option maxHeartbeats 4000000 in
theorem rdo_load {b wd lg st : Int} {M r nc : Nat} {W : World} {B base : Nat} {pz pp : Option Addr} {cz cp : Nat} {zs : List Int} {L : List Pl} {s : GSt} (h : Rg W B base ⟨b, wd, M, r, nc, lg, st⟩ pz cz zs pp cp L) (rel : Rel s zs L) (wf : GWf M r nc s) (hl : L.length ≤ 100000) (hN : s.nO ≤ 100000) (m a x cc : Int) (hm : 0 ≤ m ∧ m < (M : Int)) (hck : checkE b wd M r nc lg st 2 a x cc = 0) (t co : Int) (s' : GSt) (hgd : gd s m 2 a x cc = (t, co, s')) :
    Calls Tryd.prog 10 #[.pointer (some ⟨B, 0, none⟩), .int .i64 m, .agg #[.int .i64 2, .int .i64 a, .int .i64 x, .int .i64 cc]] W fun e w' => e = .returned (.tuple #[.int .i64 t, .int .i64 co]) ∧ RE W w' B base ⟨b, wd, M, r, nc, lg, st⟩ pz pp L.length s' := by
  have HG := Lib.hid hgd
  clear hgd
  have H := Lib.hid h
  have HREL := Lib.hid rel
  have HWF := Lib.hid wf
  have HLN := Lib.hid hl
  have HNN := Lib.hid hN
  obtain ⟨w0, hw0⟩ : ∃ w0, W.alloc (.cells #[.int .i64 2, .int .i64 a, .int .i64 x, .int .i64 cc] 39) = w0 := ⟨_, rfl⟩
  have hA : Below W.heap.size W w0 := by rw [← hw0]; exact (Below.refl _ _).alloc (Nat.le_refl _) _
  have hO : CellsAt w0 W.heap.size [.int .i64 2, .int .i64 a, .int .i64 x, .int .i64 cc] := by rw [← hw0]; exact CellsAt.new _ _ _
  have HO := Lib.hid hO
  have hC := h.cf.later hA
  have HA := Lib.hid hA
  have HCK : Hid (∀ V, Below W.heap.size W V → Calls Tryd.prog 28 #[.agg #[.int .i64 b, .int .i64 wd, .int .i64 M, .int .i64 r, .int .i64 nc, .int .i64 lg, .int .i64 st], .agg #[.int .i64 2, .int .i64 a, .int .i64 x, .int .i64 cc]] V fun e w' => e = .returned (.int .i64 0) ∧ Below V.heap.size V w') := Lib.hid fun V _ => by
    have := refcheck_any b wd M r nc lg st 2 a x cc V
    rw [hck] at this; exact this
  have c0 := hC 0 _ rfl
  have c1 := hC 1 _ rfl
  have c2 := hC 2 _ rfl
  have c3 := hC 3 _ rfl
  have c4 := hC 4 _ rfl
  have c5 := hC 5 _ rfl
  have c6 := hC 6 _ rfl
  have o0 := hO 0 _ rfl
  have o1 := hO 1 _ rfl
  have o2 := hO 2 _ rfl
  have o3 := hO 3 _ rfl
  have d0 := cell_regrown c0
  have d1 := cell_regrown c1
  have d2 := cell_regrown c2
  have d3 := cell_regrown c3
  have d4 := cell_regrown c4
  have d5 := cell_regrown c5
  have d6 := cell_regrown c6
  have e0 := cell_regrown o0
  have e1 := cell_regrown o1
  have e2 := cell_regrown o2
  have e3 := cell_regrown o3
  have HGR : Hid (∀ d os, Below W.heap.size W (Sort.grow (redrawn w0 d) os)) := Lib.hid fun d os => HA.out.trans ((below_regrown w0 d os).mono HA.out.size)
  have hd : decide (m < 0) = false := decide_eq_false (by omega)
  have hd2 : decide ((M : Int) ≤ m) = false := decide_eq_false (by omega)
  have HM := Lib.hid hm
  have HC0 := Lib.hid hck
  clear hA hO hC h rel wf hl hN hm hck
  go_enter Tryd.func10, Tryd.ntmps10
  go_wp2_with fail
  refine wp_region_quiet_below (by kernel_rfl) (by kernel_rfl) ?_
  repeat (go_big_quiet_step (first
    | (go_at_call 28; exact Calls.regrown_of (HCK.out _ (HGR.out _ _)))))
  refine wpQuiet_nil ?_
  intro W5 hw'
  have HB5 := Lib.hid (below_of_regrown hw')
  clear hw' c0 c1 c2 c3 c4 c5 c6 d0 d1 d2 d3 d4 d5 d6 e0 e1 e2 e3 o0 o1 o2 o3 HGR HCK
  have HO5 := Lib.hid (HO.out.later HB5.out)
  have HBW := Lib.hid (HA.out.trans (HB5.out.mono HA.out.size))
  have o0 := HO5.out 0 _ rfl
  have o1 := HO5.out 1 _ rfl
  have o2 := HO5.out 2 _ rfl
  have o3 := HO5.out 3 _ rfl
  have hlo : W.heap.size < W5.heap.size := lt_of_cell o0
  have HR5 := Lib.hid (H.out.later HBW.out)
  have HAT := Lib.hid (fun V (hV : Below W5.heap.size W5 V) k m n => at_any (HR5.out.later hV) HLN.out k m n)
  have HLY := Lib.hid (fun V (hV : Below W5.heap.size W5 V) k m n v => lay_any (HR5.out.later hV) HLN.out k m n v)
  have HZ0 : Hid (Below W5.heap.size W5 W5) := Lib.hid (Below.refl _ _)
  have ha := Lib.hid (ck2 HC0.out)
  have HUB : Hid (0 ≤ rg s m x ∧ rg s m x ≤ s.nO) := Lib.hid (HWF.out.rg HM.out (ck2 HC0.out).2)
  have HV : Hid (atL L 1 m x = rg s m x) := Lib.hid (by rw [HREL.out.a1]; exact rgI_in HWF.out HM.out (ck2 HC0.out).2)
  have HA1 := Lib.hid (fun V hV => HAT.out V hV 1 m x)
  rw [HV.out] at HA1
  have HZN : Hid (∀ n, Below W5.heap.size W5 (W5.drewN n)) := Lib.hid fun n => below_drewN (Below.refl _ _) n
  go_wp2_with fail
  go_quiet ((go_at_call 18; exact Calls.quiet_of_same (HA1.out _ (by first | exact HZN.out _ | exact HZ0.out))))
  have HB6 := Lib.hid (HZN.out nq)
  generalize W5.drewN nq = W6 at *
  have hlo6 : W.heap.size < W6.heap.size := Nat.lt_of_lt_of_le hlo HB6.out.size
  have HO6 := Lib.hid (HO5.out.later HB6.out)
  clear o0 o1 o2 o3
  have o0 := HO6.out 0 _ rfl
  have o1 := HO6.out 1 _ rfl
  have o3 := HO6.out 3 _ rfl
  obtain ⟨u, hu⟩ : ∃ u, rg s m x = u := ⟨_, rfl⟩
  have HU := Lib.hid hu
  rw [hu] at HUB
  rw [hu]
  clear hu
  by_cases hu0 : u = 0
  · have HGD : Hid (gd s m 2 a x cc = (0, 6, s)) := Lib.hid (by unfold gd; simp only [show ¬ (2 : Int) = 1 by decide, if_false, if_true]; rw [if_pos (by rw [HU.out]; exact hu0)])
    have HT := Lib.hid (three (HG.out.symm.trans HGD.out))
    subst hu0
    have HFI := Lib.hid (RE.same H.out HREL.out (HBW.out.trans (HB6.out.mono HBW.out.size)))
    go_wp2_with fail
    go_ret2
    exact ⟨by rw [HT.out.1, HT.out.2.1]; rfl, by rw [HT.out.2.2]; exact HFI.out⟩
  obtain ⟨un, rfl⟩ : ∃ q : Nat, u = (q : Int) + 1 := ⟨(u - 1).toNat, by have := HUB.out; omega⟩
  have hun : un < s.nO := by have := HUB.out; omega
  have HOB : Hid (ob (rg s m x) = 3 + 2 * un) := Lib.hid (by rw [HU.out]; unfold ob; omega)
  have HUN := Lib.hid hun
  have u0 : (0 : Int) ≤ (un : Int) := by omega
  have u1 : (un : Int) < (s.nO : Int) := by omega
  have u6 : (s.nO : Int) ≤ 100000 := by have := HNN.out; omega
  have hzl := HREL.out.size
  have hz := HREL.out.size_at hun
  have hr6 := H.out.later (HBW.out.trans (HB6.out.mono HBW.out.size))
  have z7 := hr6.c7
  obtain ⟨zg, hzg⟩ := owns_form hr6.oz (by omega)
  have hzo := hr6.oz
  rw [hzg] at hzo
  have zc := Row.owns_cell hzo un _ (cellsZ_at zs (by omega))
  rw [hz] at zc
  rw [hzg] at z7
  rw [hzl] at z7
  have hl0 : (0 : Int) ≤ ((s.E (3 + 2 * un)).length : Int) := by omega
  have hl15 : ((s.E (3 + 2 * un)).length : Int) ≤ 15 := by have := HWF.out.len un hun; omega
  have hb0 : (((un : Int) + 1) == 0) = false := by rw [beq_eq_false_iff_ne]; omega
  have hs1 : ((un : Int) + 1 - 1) = (un : Int) := by omega
  clear hzo hr6 hzg hz hzl hu0 hun
  by_cases hf : 0 ≤ cc ∧ cc < ((s.E (3 + 2 * un)).length : Int)
  rotate_left
  · have HGD : Hid (gd s m 2 a x cc = (0, 7, s)) := Lib.hid (by
      unfold gd
      simp only [show ¬ (2 : Int) = 1 by decide, if_false, if_true]
      rw [if_neg (by rw [HU.out]; omega), if_pos (by rw [HOB.out]; exact hf)])
    have HT := Lib.hid (three (HG.out.symm.trans HGD.out))
    have HFI := Lib.hid (RE.same H.out HREL.out (HBW.out.trans (HB6.out.mono HBW.out.size)))
    generalize (s.E (3 + 2 * un)).length = fl at *
    by_cases h0 : cc < 0
    · have g0 : decide (cc < 0) = true := decide_eq_true h0
      go_wp2_with fail
      go_ret2
      exact ⟨by rw [HT.out.1, HT.out.2.1]; rfl, by rw [HT.out.2.2]; exact HFI.out⟩
    · have g0 : decide (cc < 0) = false := decide_eq_false h0
      have g1 : decide ((fl : Int) ≤ cc) = true := decide_eq_true (by omega)
      clear hf h0
      go_wp2_with fail
      go_ret2
      exact ⟨by rw [HT.out.1, HT.out.2.1]; rfl, by rw [HT.out.2.2]; exact HFI.out⟩
  have g0 : decide (cc < 0) = false := decide_eq_false (by omega)
  have g1 : decide (((s.E (3 + 2 * un)).length : Int) ≤ cc) = false := decide_eq_false (by omega)
  have HF := Lib.hid hf
  have HVV : Hid (atL L 3 ((un : Int) + 1) cc = (s.E (3 + 2 * un)).getD cc.toNat 0) := Lib.hid (by
    rw [HREL.out.a3]
    have e : fdI s ((un : Int) + 1) = s.E (3 + 2 * un) := by
      unfold fdI
      have := HUN.out
      rw [if_pos (by omega), show 3 + 2 * ((un : Int) + 1 - 1).toNat = 3 + 2 * un by omega]
    rw [e]
    unfold atI
    rw [if_pos HF.out])
  have HGD : Hid (gd s m 2 a x cc = ((s.E (3 + 2 * un)).getD cc.toNat 0, 0, s.set (4 + 2 * m.toNat) a.toNat ((s.E (3 + 2 * un)).getD cc.toNat 0))) := Lib.hid (by
    unfold gd
    rw [if_neg (by decide), if_pos rfl, if_neg (by rw [HU.out]; omega), HOB.out, if_neg (fun e => e HF.out)])
  have HT := Lib.hid (three (HG.out.symm.trans HGD.out))
  have HA3 := Lib.hid (HAT.out W6 HB6.out 3 ((un : Int) + 1) cc)
  rw [HVV.out] at HA3
  have HL3 := Lib.hid (HLY.out W6 HB6.out 1 m a ((s.E (3 + 2 * un)).getD cc.toNat 0))
  have HH := Lib.hid (fun w' hE => RE.lay1 (w' := w') H.out HREL.out HWF.out (HBW.out.trans (HB6.out.mono HBW.out.size)) HM.out ha.out.1 (v := (s.E (3 + 2 * un)).getD cc.toNat 0) hE)
  generalize (s.E (3 + 2 * un)).getD cc.toNat 0 = v at *
  clear hf HAT HLY
  generalize (s.E (3 + 2 * un)).length = fl at *
  go_wp2_with (first
    | (go_at_call 18; refine HA3.out.mono ?_; rintro e w9 ⟨rfl, hw9⟩; cases hw9)
    | (go_at_call 29; refine HL3.out.mono ?_; rintro e w7 ⟨rfl, hE⟩; have HE := Lib.hid hE; clear hE))
  go_ret2
  exact ⟨by rw [HT.out.1, HT.out.2.1]; rfl, by rw [HT.out.2.2]; exact HH.out _ HE.out⟩

set_option maxRecDepth 100000 in
set_option maxHeartbeats 4000000 in
theorem rdo_store {b wd lg st : Int} {M r nc : Nat} {W : World} {B base : Nat} {pz pp : Option Addr} {cz cp : Nat} {zs : List Int} {L : List Pl} {s : GSt} (h : Rg W B base ⟨b, wd, M, r, nc, lg, st⟩ pz cz zs pp cp L) (rel : Rel s zs L) (wf : GWf M r nc s) (hl : L.length ≤ 100000) (hN : s.nO ≤ 100000) (m a x cc : Int) (hm : 0 ≤ m ∧ m < (M : Int)) (hck : checkE b wd M r nc lg st 3 a x cc = 0) (t co : Int) (s' : GSt) (hgd : gd s m 3 a x cc = (t, co, s')) :
    Calls Tryd.prog 10 #[.pointer (some ⟨B, 0, none⟩), .int .i64 m, .agg #[.int .i64 3, .int .i64 a, .int .i64 x, .int .i64 cc]] W fun e w' => e = .returned (.tuple #[.int .i64 t, .int .i64 co]) ∧ RE W w' B base ⟨b, wd, M, r, nc, lg, st⟩ pz pp L.length s' := by
  have HG := Lib.hid hgd
  clear hgd
  have H := Lib.hid h
  have HREL := Lib.hid rel
  have HWF := Lib.hid wf
  have HLN := Lib.hid hl
  have HNN := Lib.hid hN
  obtain ⟨w0, hw0⟩ : ∃ w0, W.alloc (.cells #[.int .i64 3, .int .i64 a, .int .i64 x, .int .i64 cc] 39) = w0 := ⟨_, rfl⟩
  have hA : Below W.heap.size W w0 := by rw [← hw0]; exact (Below.refl _ _).alloc (Nat.le_refl _) _
  have hO : CellsAt w0 W.heap.size [.int .i64 3, .int .i64 a, .int .i64 x, .int .i64 cc] := by rw [← hw0]; exact CellsAt.new _ _ _
  have HO := Lib.hid hO
  have hC := h.cf.later hA
  have HA := Lib.hid hA
  have HCK : Hid (∀ V, Below W.heap.size W V → Calls Tryd.prog 28 #[.agg #[.int .i64 b, .int .i64 wd, .int .i64 M, .int .i64 r, .int .i64 nc, .int .i64 lg, .int .i64 st], .agg #[.int .i64 3, .int .i64 a, .int .i64 x, .int .i64 cc]] V fun e w' => e = .returned (.int .i64 0) ∧ Below V.heap.size V w') := Lib.hid fun V _ => by
    have := refcheck_any b wd M r nc lg st 3 a x cc V
    rw [hck] at this; exact this
  have c0 := hC 0 _ rfl
  have c1 := hC 1 _ rfl
  have c2 := hC 2 _ rfl
  have c3 := hC 3 _ rfl
  have c4 := hC 4 _ rfl
  have c5 := hC 5 _ rfl
  have c6 := hC 6 _ rfl
  have o0 := hO 0 _ rfl
  have o1 := hO 1 _ rfl
  have o2 := hO 2 _ rfl
  have o3 := hO 3 _ rfl
  have d0 := cell_regrown c0
  have d1 := cell_regrown c1
  have d2 := cell_regrown c2
  have d3 := cell_regrown c3
  have d4 := cell_regrown c4
  have d5 := cell_regrown c5
  have d6 := cell_regrown c6
  have e0 := cell_regrown o0
  have e1 := cell_regrown o1
  have e2 := cell_regrown o2
  have e3 := cell_regrown o3
  have HGR : Hid (∀ d os, Below W.heap.size W (Sort.grow (redrawn w0 d) os)) := Lib.hid fun d os => HA.out.trans ((below_regrown w0 d os).mono HA.out.size)
  have hd : decide (m < 0) = false := decide_eq_false (by omega)
  have hd2 : decide ((M : Int) ≤ m) = false := decide_eq_false (by omega)
  have HM := Lib.hid hm
  have HC0 := Lib.hid hck
  clear hA hO hC h rel wf hl hN hm hck
  go_enter Tryd.func10, Tryd.ntmps10
  go_wp2_with fail
  refine wp_region_quiet_below (by kernel_rfl) (by kernel_rfl) ?_
  repeat (go_big_quiet_step (first
    | (go_at_call 28; exact Calls.regrown_of (HCK.out _ (HGR.out _ _)))))
  refine wpQuiet_nil ?_
  intro W5 hw'
  have HB5 := Lib.hid (below_of_regrown hw')
  clear hw' c0 c1 c2 c3 c4 c5 c6 d0 d1 d2 d3 d4 d5 d6 e0 e1 e2 e3 o0 o1 o2 o3 HGR HCK
  have HO5 := Lib.hid (HO.out.later HB5.out)
  have HBW := Lib.hid (HA.out.trans (HB5.out.mono HA.out.size))
  have o0 := HO5.out 0 _ rfl
  have o1 := HO5.out 1 _ rfl
  have o2 := HO5.out 2 _ rfl
  have o3 := HO5.out 3 _ rfl
  have hlo : W.heap.size < W5.heap.size := lt_of_cell o0
  have HR5 := Lib.hid (H.out.later HBW.out)
  have HAT := Lib.hid (fun V (hV : Below W5.heap.size W5 V) k m n => at_any (HR5.out.later hV) HLN.out k m n)
  have HLY := Lib.hid (fun V (hV : Below W5.heap.size W5 V) k m n v => lay_any (HR5.out.later hV) HLN.out k m n v)
  have HZ0 : Hid (Below W5.heap.size W5 W5) := Lib.hid (Below.refl _ _)
  have ha := Lib.hid (ck3 HC0.out)
  have HUB : Hid (0 ≤ rg s m a ∧ rg s m a ≤ s.nO) := Lib.hid (HWF.out.rg HM.out (ck3 HC0.out).1)
  have HV : Hid (atL L 1 m a = rg s m a) := Lib.hid (by rw [HREL.out.a1]; exact rgI_in HWF.out HM.out (ck3 HC0.out).1)
  have HA1 := Lib.hid (fun V hV => HAT.out V hV 1 m a)
  rw [HV.out] at HA1
  have HZN : Hid (∀ n, Below W5.heap.size W5 (W5.drewN n)) := Lib.hid fun n => below_drewN (Below.refl _ _) n
  have HA0 := Lib.hid (fun V hV => HAT.out V hV 1 m x)
  generalize atL L 1 m x = v0 at HA0
  have HVC : Hid (atL L 1 m cc = rg s m cc) := Lib.hid (by rw [HREL.out.a1]; exact rgI_in HWF.out HM.out (ck3 HC0.out).2)
  have HAC := Lib.hid (fun V hV => HAT.out V hV 1 m cc)
  rw [HVC.out] at HAC
  go_wp2_with fail
  go_quiet ((go_at_call 18; exact Calls.quiet_of_same (HA0.out _ (by first | exact HZN.out _ | exact HZ0.out))))
  have HB6 := Lib.hid (HZN.out nq)
  generalize W5.drewN nq = W7 at *
  have hlo7 : W.heap.size < W7.heap.size := Nat.lt_of_lt_of_le hlo HB6.out.size
  have HO7 := Lib.hid (HO5.out.later HB6.out)
  have HZM : Hid (∀ n, Below W5.heap.size W5 (W7.drewN n)) := Lib.hid fun n => below_drewN HB6.out n
  clear o0 o1 o2 o3 HA0
  have o0 := HO7.out 0 _ rfl
  have o1 := HO7.out 1 _ rfl
  have o2 := HO7.out 2 _ rfl
  have o3 := HO7.out 3 _ rfl
  go_wp2_with fail
  go_quiet ((go_at_call 18; exact Calls.quiet_of_same (HA1.out _ (by first | exact HZM.out _ | exact HB6.out))))
  have HB8 := Lib.hid (HZM.out nq)
  generalize W7.drewN nq = W6 at *
  clear HB6
  have HB6 := HB8
  have hlo6 : W.heap.size < W6.heap.size := Nat.lt_of_lt_of_le hlo HB6.out.size
  have HO6 := Lib.hid (HO5.out.later HB6.out)
  clear o0 o1 o2 o3
  have o0 := HO6.out 0 _ rfl
  have o1 := HO6.out 1 _ rfl
  have o2 := HO6.out 2 _ rfl
  have o3 := HO6.out 3 _ rfl
  obtain ⟨u, hu⟩ : ∃ u, rg s m a = u := ⟨_, rfl⟩
  have HU := Lib.hid hu
  rw [hu] at HUB
  rw [hu]
  clear hu
  by_cases hu0 : u = 0
  · have HGD : Hid (gd s m 3 a x cc = (0, 6, s)) := Lib.hid (by unfold gd; simp only [show ¬ (3 : Int) = 1 by decide, show ¬ (3 : Int) = 2 by decide, if_false, if_true]; rw [if_pos (by rw [HU.out]; exact hu0)])
    have HT := Lib.hid (three (HG.out.symm.trans HGD.out))
    subst hu0
    have HFI := Lib.hid (RE.same H.out HREL.out (HBW.out.trans (HB6.out.mono HBW.out.size)))
    go_wp2_with fail
    go_ret2
    exact ⟨by rw [HT.out.1, HT.out.2.1]; rfl, by rw [HT.out.2.2]; exact HFI.out⟩
  obtain ⟨un, rfl⟩ : ∃ q : Nat, u = (q : Int) + 1 := ⟨(u - 1).toNat, by have := HUB.out; omega⟩
  have hun : un < s.nO := by have := HUB.out; omega
  have HOB : Hid (ob (rg s m a) = 3 + 2 * un) := Lib.hid (by rw [HU.out]; unfold ob; omega)
  have HUN := Lib.hid hun
  have u0 : (0 : Int) ≤ (un : Int) := by omega
  have u1 : (un : Int) < (s.nO : Int) := by omega
  have u6 : (s.nO : Int) ≤ 100000 := by have := HNN.out; omega
  have hzl := HREL.out.size
  have hz := HREL.out.size_at hun
  have hr6 := H.out.later (HBW.out.trans (HB6.out.mono HBW.out.size))
  have z7 := hr6.c7
  obtain ⟨zg, hzg⟩ := owns_form hr6.oz (by omega)
  have hzo := hr6.oz
  rw [hzg] at hzo
  have zc := Row.owns_cell hzo un _ (cellsZ_at zs (by omega))
  rw [hz] at zc
  rw [hzg] at z7
  rw [hzl] at z7
  have hl0 : (0 : Int) ≤ ((s.E (3 + 2 * un)).length : Int) := by omega
  have hl15 : ((s.E (3 + 2 * un)).length : Int) ≤ 15 := by have := HWF.out.len un hun; omega
  have hb0 : (((un : Int) + 1) == 0) = false := by rw [beq_eq_false_iff_ne]; omega
  have hs1 : ((un : Int) + 1 - 1) = (un : Int) := by omega
  clear hzo hr6 hzg hz hzl hu0 hun
  by_cases hf : 0 ≤ x ∧ x < ((s.E (3 + 2 * un)).length : Int)
  rotate_left
  · have HGD : Hid (gd s m 3 a x cc = (0, 7, s)) := Lib.hid (by
      unfold gd
      simp only [show ¬ (3 : Int) = 1 by decide, show ¬ (3 : Int) = 2 by decide, if_false, if_true]
      rw [if_neg (by rw [HU.out]; omega), if_pos (by rw [HOB.out]; exact hf)])
    have HT := Lib.hid (three (HG.out.symm.trans HGD.out))
    have HFI := Lib.hid (RE.same H.out HREL.out (HBW.out.trans (HB6.out.mono HBW.out.size)))
    generalize (s.E (3 + 2 * un)).length = fl at *
    by_cases h0 : x < 0
    · have g0 : decide (x < 0) = true := decide_eq_true h0
      go_wp2_with fail
      go_ret2
      exact ⟨by rw [HT.out.1, HT.out.2.1]; rfl, by rw [HT.out.2.2]; exact HFI.out⟩
    · have g0 : decide (x < 0) = false := decide_eq_false h0
      have g1 : decide ((fl : Int) ≤ x) = true := decide_eq_true (by omega)
      clear hf h0
      go_wp2_with fail
      go_ret2
      exact ⟨by rw [HT.out.1, HT.out.2.1]; rfl, by rw [HT.out.2.2]; exact HFI.out⟩
  have g0 : decide (x < 0) = false := decide_eq_false (by omega)
  have g1 : decide (((s.E (3 + 2 * un)).length : Int) ≤ x) = false := decide_eq_false (by omega)
  have HF := Lib.hid hf
  have HGD : Hid (gd s m 3 a x cc = (0, 0, s.set (3 + 2 * un) x.toNat (rg s m cc))) := Lib.hid (by
    unfold gd
    rw [if_neg (by decide), if_neg (by decide), if_pos rfl, if_neg (by rw [HU.out]; omega), HOB.out, if_neg (fun e => e HF.out)])
  have HT := Lib.hid (three (HG.out.symm.trans HGD.out))
  have HA3 := Lib.hid (HAC.out W6 HB6.out)
  have HL3 := Lib.hid (HLY.out W6 HB6.out 3 ((un : Int) + 1) x (rg s m cc))
  have HH := Lib.hid (fun w' hE => RE.lay3 (w' := w') H.out HREL.out (HBW.out.trans (HB6.out.mono HBW.out.size)) HUN.out HF.out (v := rg s m cc) hE)
  generalize rg s m cc = v at *
  clear hf HAT HLY HAC
  generalize (s.E (3 + 2 * un)).length = fl at *
  go_wp2_with (first
    | (go_at_call 18; refine HA3.out.mono ?_; rintro e w9 ⟨rfl, hw9⟩; cases hw9)
    | (go_at_call 29; refine HL3.out.mono ?_; rintro e w7 ⟨rfl, hE⟩; have HE := Lib.hid hE; clear hE))
  go_ret2
  exact ⟨by rw [HT.out.1, HT.out.2.1]; rfl, by rw [HT.out.2.2]; exact HH.out _ HE.out⟩

set_option maxRecDepth 100000 in
set_option maxHeartbeats 4000000 in
theorem rdo_alloc {b wd lg st : Int} {M r nc : Nat} {W : World} {B base : Nat} {pz pp : Option Addr} {cz cp : Nat} {zs : List Int} {L : List Pl} {s : GSt} (h : Rg W B base ⟨b, wd, M, r, nc, lg, st⟩ pz cz zs pp cp L) (rel : Rel s zs L) (wf : GWf M r nc s) (hl : L.length ≤ 100000) (hN : s.nO ≤ 100000) (m a x cc : Int) (hm : 0 ≤ m ∧ m < (M : Int)) (hck : checkE b wd M r nc lg st 1 a x cc = 0) (t co : Int) (s' : GSt) (hgd : gd s m 1 a x cc = (t, co, s')) :
    Calls Tryd.prog 10 #[.pointer (some ⟨B, 0, none⟩), .int .i64 m, .agg #[.int .i64 1, .int .i64 a, .int .i64 x, .int .i64 cc]] W fun e w' => e = .returned (.tuple #[.int .i64 t, .int .i64 co]) ∧ RE W w' B base ⟨b, wd, M, r, nc, lg, st⟩ pz pp L.length s' := by
  have HT : Hid (t = ((s.nO : Int) + 1, (0 : Int), (s.add x.toNat).set (4 + 2 * m.toNat) a.toNat ((s.nO : Int) + 1)).1 ∧ co = ((s.nO : Int) + 1, (0 : Int), (s.add x.toNat).set (4 + 2 * m.toNat) a.toNat ((s.nO : Int) + 1)).2.1 ∧ s' = ((s.nO : Int) + 1, (0 : Int), (s.add x.toNat).set (4 + 2 * m.toNat) a.toNat ((s.nO : Int) + 1)).2.2) := Lib.hid (by
    have e : gd s m 1 a x cc = ((s.nO : Int) + 1, (0 : Int), (s.add x.toNat).set (4 + 2 * m.toNat) a.toNat ((s.nO : Int) + 1)) := rfl
    rw [e] at hgd
    exact ⟨(congrArg Prod.fst hgd).symm, (congrArg (fun q => q.2.1) hgd).symm, (congrArg (fun q => q.2.2) hgd).symm⟩)
  clear hgd
  have H := Lib.hid h
  have HREL := Lib.hid rel
  have HWF := Lib.hid wf
  have HLN := Lib.hid hl
  have HNN := Lib.hid hN
  obtain ⟨w0, hw0⟩ : ∃ w0, W.alloc (.cells #[.int .i64 1, .int .i64 a, .int .i64 x, .int .i64 cc] 39) = w0 := ⟨_, rfl⟩
  have hA : Below W.heap.size W w0 := by rw [← hw0]; exact (Below.refl _ _).alloc (Nat.le_refl _) _
  have hO : CellsAt w0 W.heap.size [.int .i64 1, .int .i64 a, .int .i64 x, .int .i64 cc] := by rw [← hw0]; exact CellsAt.new _ _ _
  have HO := Lib.hid hO
  have hC := h.cf.later hA
  have HA := Lib.hid hA
  have HCK : Hid (∀ V, Below W.heap.size W V → Calls Tryd.prog 28 #[.agg #[.int .i64 b, .int .i64 wd, .int .i64 M, .int .i64 r, .int .i64 nc, .int .i64 lg, .int .i64 st], .agg #[.int .i64 1, .int .i64 a, .int .i64 x, .int .i64 cc]] V fun e w' => e = .returned (.int .i64 0) ∧ Below V.heap.size V w') := Lib.hid fun V _ => by
    have := refcheck_any b wd M r nc lg st 1 a x cc V
    rw [hck] at this; exact this
  have c0 := hC 0 _ rfl
  have c1 := hC 1 _ rfl
  have c2 := hC 2 _ rfl
  have c3 := hC 3 _ rfl
  have c4 := hC 4 _ rfl
  have c5 := hC 5 _ rfl
  have c6 := hC 6 _ rfl
  have o0 := hO 0 _ rfl
  have o1 := hO 1 _ rfl
  have o2 := hO 2 _ rfl
  have o3 := hO 3 _ rfl
  have d0 := cell_regrown c0
  have d1 := cell_regrown c1
  have d2 := cell_regrown c2
  have d3 := cell_regrown c3
  have d4 := cell_regrown c4
  have d5 := cell_regrown c5
  have d6 := cell_regrown c6
  have e0 := cell_regrown o0
  have e1 := cell_regrown o1
  have e2 := cell_regrown o2
  have e3 := cell_regrown o3
  have HGR : Hid (∀ d os, Below W.heap.size W (Sort.grow (redrawn w0 d) os)) := Lib.hid fun d os => HA.out.trans ((below_regrown w0 d os).mono HA.out.size)
  have hd : decide (m < 0) = false := decide_eq_false (by omega)
  have hd2 : decide ((M : Int) ≤ m) = false := decide_eq_false (by omega)
  have HM := Lib.hid hm
  have HC0 := Lib.hid hck
  clear hA hO hC h rel wf hl hN hm hck
  go_enter Tryd.func10, Tryd.ntmps10
  go_wp2_with fail
  refine wp_region_quiet_below (by kernel_rfl) (by kernel_rfl) ?_
  repeat (go_big_quiet_step (first
    | (go_at_call 28; exact Calls.regrown_of (HCK.out _ (HGR.out _ _)))))
  refine wpQuiet_nil ?_
  intro W5 hw'
  have HB5 := Lib.hid (below_of_regrown hw')
  clear hw' c0 c1 c2 c3 c4 c5 c6 d0 d1 d2 d3 d4 d5 d6 e0 e1 e2 e3 o0 o1 o2 o3 HGR HCK
  have HO5 := Lib.hid (HO.out.later HB5.out)
  have HBW := Lib.hid (HA.out.trans (HB5.out.mono HA.out.size))
  have o0 := HO5.out 0 _ rfl
  have o1 := HO5.out 1 _ rfl
  have o2 := HO5.out 2 _ rfl
  have o3 := HO5.out 3 _ rfl
  have hlo : W.heap.size < W5.heap.size := lt_of_cell o0
  have HR5 := Lib.hid (H.out.later HBW.out)
  have HAT := Lib.hid (fun V (hV : Below W5.heap.size W5 V) k m n => at_any (HR5.out.later hV) HLN.out k m n)
  have HLY := Lib.hid (fun V (hV : Below W5.heap.size W5 V) k m n v => lay_any (HR5.out.later hV) HLN.out k m n v)
  have HZ0 : Hid (Below W5.heap.size W5 W5) := Lib.hid (Below.refl _ _)
  have ha := Lib.hid (ck1 HC0.out)
  have hzl := HREL.out.size
  have u6 : (s.nO : Int) ≤ 100000 := by have := HNN.out; omega
  have c7 := HR5.out.c7
  have f7 := HR5.out.fz 7
  rw [hzl] at c7
  have hlB : B < W5.heap.size := (HR5.out.ltM (.inl rfl)).2
  have hb1 : Below W5.heap.size W5 (W5.alloc (.cells #[.int .i64 x] 3)) := (Below.refl _ W5).alloc (Nat.le_refl _) _
  have c7a := (hb1.cell (p := ⟨B, 7, none⟩) hlB).trans c7
  obtain ⟨i0, hinf, hz0, hz1, hz2⟩ := info_parts infoInt
  have HOW : Hid ((W5.alloc (.cells #[.int .i64 x] 3)).ownsRow base 3 1 (.slice pz s.nO cz) s.nO (cellsZ zs)) := Lib.hid (by have := (HR5.out.later hb1).oz; rw [hzl] at this; exact this)
  have HOW2 : Hid ((W5.alloc (.cells #[.int .i64 x] 3)).drew.ownsRow base 3 1 (.slice pz s.nO cz) s.nO (cellsZ zs)) := Lib.hid HOW.out
  have HBY : Hid (Below (W5.alloc (.cells #[.int .i64 x] 3)).heap.size (W5.alloc (.cells #[.int .i64 x] 3)) (W5.alloc (.cells #[.int .i64 x] 3)).drew) := Lib.hid (Below.refl _ _).drew
  have HB20 := Lib.hid hb1
  have HBS : Hid (base ≤ (W5.alloc (.cells #[.int .i64 x] 3)).heap.size) := Lib.hid (by have := HR5.out.ge; rw [World.size_alloc]; omega)
  have nO1 : s.nO + 1 ≤ maxLen := by unfold maxLen; omega
  have nO2 : (s.nO + 1) * 8 ≤ 140737488355328 := by omega
  have hpB := HR5.out.ag.1
  have HGW := Lib.hid (fun w3 p' cap' h1 h2 h3 => Rg.grow (o := .cells #[.int .i64 x] 3) HR5.out hzl (x := x) (w3 := w3) (p' := p') (cap' := cap') h1 h2 h3)
  have HLN2 := HLN
  have HH := Lib.hid (fun w8 w' p' cap' h1 h2 h3 hE => RE.alloc (W8 := w8) (w' := w') (pz' := p') (cz' := cap') (x := x) (v := (s.nO : Int) + 1) H.out HREL.out HWF.out HBW.out HM.out ha.out.1 ha.out.2 h1 h2 h3 hE)
  have HZL := Lib.hid hzl
  clear HAT HLY hb1 hzl
  generalize s.nO = nO at *
  have n0 : (0 : Int) ≤ (nO : Int) := by omega
  go_wp2_with fail
  go_region_law (refine step_append_own rfl (.tmp 40) (.tmp 43) 32 rfl base 3 i0 (.int .i64 0) 1 8 Tryd.underlying32 hinf hz0 hz1 hz2 rfl (by decide) (.slice pz nO cz) nO (cellsZ zs) rfl (by first | exact HOW2.out | exact HOW.out) ⟨W5.heap.size, 0, none⟩ 1 1 [.int .i64 x] rfl rfl (one_at rfl) (by simp [Value.oneCell']) nO1 nO2 HBS.out ?_; intro v' w3 hown hgrow hat; obtain ⟨p', cap', rfl, hC, hR⟩ := push_row (Y := W5.alloc (.cells #[.int .i64 x] 3)) (p := pz) (cap := cz) (n := nO) (by first | exact HBY.out | exact Below.refl _ _) hown hgrow hat; have hC1 := (Chg.of_below (S := rowB pz) HB20.out).trans hC (fun _ e => .inl e); have c7' := (hC1.cell (p := ⟨B, 7, none⟩) hlB hpB).trans c7; have f7' := (hC1.frozen (p := ⟨B, 7, none⟩) hlB hpB).trans f7; have HNG := Lib.hid (HGW.out w3 p' cap' hown hC hR); clear hown hgrow hat hC hR hC1)
  all_goals (have HRG := Lib.hid HNG.out.1)
  all_goals (have HHH := Lib.hid (fun w' hE => HH.out _ w' _ _ HNG.out.1 HNG.out.2.1 HNG.out.2.2 hE))
  all_goals (have HLY := Lib.hid (fun v => lay_any HRG.out HLN2.out 1 m a v))
  all_goals (have HO8 := Lib.hid (HNG.out.2.2))
  all_goals (have hbx : W.heap.size < W5.heap.size := hlo)
  all_goals (have HOB : Hid (∀ j v, [Value.int .i64 1, .int .i64 a, .int .i64 x, .int .i64 cc][j]? = some v → (w3.setCell ⟨B, 7, none⟩ (.slice p' (nO + 1) cap')).cell? ⟨W.heap.size, j, none⟩ = some v) := Lib.hid (fun j v hv => (HNG.out.2.1.cell (p := ⟨W.heap.size, j, none⟩) hbx (fun e => by have := H.out.ltM e; simp only at this; omega)).trans (HO5.out j v hv)))
  all_goals (have c78 := HRG.out.c7)
  all_goals (clear c7 c7a c7' f7' f7 HOW HOW2 HBY HB20 HGW HH o0 o1 o2 o3)
  all_goals (have hzz : (zs ++ [x]).length = nO + 1 := by rw [List.length_append, HZL.out]; rfl)
  all_goals (rw [hzz] at c78)
  all_goals (have o0 := HOB.out 0 _ rfl)
  all_goals (have o1 := HOB.out 1 _ rfl)
  all_goals (generalize w3.setCell ⟨B, 7, none⟩ (.slice p' (nO + 1) cap') = W8 at *)
  all_goals (clear hzz hbx)
  all_goals (go_wp2_with (go_at_call 29; refine (HLY.out _).mono ?_; rintro e w7 ⟨rfl, hE⟩; have HE := Lib.hid hE; clear hE))
  all_goals go_ret2
  all_goals exact ⟨by rw [HT.out.1, HT.out.2.1]; rfl, by rw [HT.out.2.2]; exact HHH.out _ HE.out⟩
end Go.Proofs.YtcdnbheoelnghaaDoor.Gra
