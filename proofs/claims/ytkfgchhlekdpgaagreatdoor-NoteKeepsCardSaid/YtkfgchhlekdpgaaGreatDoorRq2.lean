/-
  Texts of the heap, one behind the other: RfF RfG RfH RfI RfPt.
-/
import Derived.Test.YtkfgchhlekdpgaaGreatDoorRq1
import Derived.Deep.CutBlock
import Derived.Deep.RegionWith
import Derived.Test.YtkfgchhlekdpgaaGreatDoorHq4
namespace Go.Proofs.YtkfgchhlekdpgaaGreatDoor.Rf
open Go.RowKit
open Blk (Cfg allP kAt valA)
open Class (isB isB_true isB_false sizI sizI_bd roomI roomI_yes quiet_left refis_any refsize_any)
open Lis (intsN upd upd_same upd_other)
open Hp (St Wf own cls wdA bn fr bnI frI bnI_nat frI_nat mem_allP allP_sorted nSl stS beS baS puS unS frS zr asS handB fr_true fr_false freL mem_freL run_append_row)
open Go.Proofs.YtkfgchhlekdpgaaGreatDoor.Row (Chg Rd Rd0 rowB rowB_none cell_of_block frozen_of_block other same cellsZ owns_lt owns_cap one_at)

/-- append to a row that is owned, of any row, as one step of a region that draws. -/
theorem step_append_row {ops : Array Oper} {o : Oper} {a : Act} {w : World} {K : Act → World → Prop} {Q : Exit → Act → World → Prop} {E : Prop} (hg : o.guard = none) (s x : Operand)
    (hop : o.op = .call { callee := .builtin .append, args := #[s, x], argTypes := #[40, 40] })
    (base : Nat) (pl : Option Addr) (cap n : Nat) (l : List Int) (hs : a.eval s = .slice pl n cap) (hn : n = l.length) (hown : w.ownsRow base 3 1 (.slice pl l.length cap) l.length (cellsZ l))
    (pa : Option Addr) (ca na : Nat) (za : List Int) (hx : a.eval x = .slice pa na ca) (hna : na = za.length) (ha : Rd0 w pa za) (hl : l.length + za.length ≤ 1048576) (hbase : base ≤ w.heap.size)
    (hK : ∀ p' c' w', w'.ownsRow base 3 1 (.slice p' (l ++ za).length c') (l ++ za).length (cellsZ (l ++ za)) → Below base w w' → K (a.put o.dst (.slice p' (l ++ za).length c')) w') :
    if Region.wanted o (yielded ops a.tmps) = true then Oper.wp Tryz.prog o a w K Q else E := by
  have hw : Region.wanted o (yielded ops a.tmps) = true := by simp [Region.wanted, hg]
  rw [if_pos hw]
  subst hn hna
  obtain ⟨p', c', w', hr, h2, h3⟩ := run_append_row w base o.type pl cap l hown pa ca za ha hl hbase
  unfold Oper.wp execOp
  simp only [hop, resolve, invoke, builtin, Sem.run_bind, Sem.run_pure, Result.andThen_ok, List.map_toArray, List.map_cons, List.map_nil, hs, hx, hr]
  exact hK _ _ _ h2 h3

section
variable {M base : Nat} {i : Ri} {s : St}
/-- What Put tells. -/
def puV (s : St) (a : Int) : Int := if isV s a = -1 then 1 else if isV s a = 0 then 0 else 11
theorem isV_cases (s : St) (a : Int) : isV s a = -1 ∨ isV s a = 0 ∨ isV s a = 1 ∨ isV s a = 2 := by
  unfold isV stI
  split
  · split
    · exact .inr (.inr (.inr rfl))
    · split
      · exact .inr (.inr (.inl rfl))
      · exact .inr (.inl rfl)
  · exact .inl rfl
theorem isV_zero {s : St} {a : Int} (h : isV s a = 0) : own s a = true ∧ bnI s a = false ∧ frI s a = false := by
  unfold isV stI at h
  split at h
  · next ho =>
    split at h
    · cases h
    · next hb =>
      split at h
      · cases h
      · next hf => exact ⟨ho, by simpa using hb, by simpa using hf⟩
  · cases h
theorem isV_two {s : St} {a : Int} (h : isV s a = 2) : own s a = true ∧ bnI s a = true := by
  unfold isV stI at h
  split at h
  · next ho =>
    split at h
    · next hb => exact ⟨ho, hb⟩
    · split at h <;> cases h
  · cases h
theorem put_bad (a : Int) (w : World) (h : Rp w M base i s) (hv : isV s a ≠ 0) : Calls Tryz.prog 171 #[.pointer (some ⟨M, 0, none⟩), .int .i64 a] w fun e w' => e = .returned (.int .i64 (puV s a)) ∧ w = w' := by
  have HI := Lib.hid (is_any a h)
  unfold puV
  have hc := isV_cases s a
  clear h
  generalize isV s a = v at *
  rcases hc with rfl | rfl | rfl | rfl
  · go_enter Tryz.func171, Tryz.ntmps171
    go_wp2_with (go_at_call 176; refine HI.out.mono ?_; rintro e w' ⟨rfl, rfl⟩)
    go_ret
    exact ⟨rfl, rfl⟩
  · exact absurd rfl hv
  · go_enter Tryz.func171, Tryz.ntmps171
    go_wp2_with (go_at_call 176; refine HI.out.mono ?_; rintro e w' ⟨rfl, rfl⟩)
    go_ret
    exact ⟨rfl, rfl⟩
  · go_enter Tryz.func171, Tryz.ntmps171
    go_wp2_with (go_at_call 176; refine HI.out.mono ?_; rintro e w' ⟨rfl, rfl⟩)
    go_ret
    exact ⟨rfl, rfl⟩

set_option maxHeartbeats 2000000 in
theorem put_good (a : Nat) (w : World) (h : Rp w M base i s) (hp : Pu s) (hv : isV s a = 0) (hw' : Wf (puS s a)) :
    Calls Tryz.prog 171 #[.pointer (some ⟨M, 0, none⟩), .int .i64 a] w fun e w' => e = .returned (.int .i64 0) ∧ RTo w w' M base i (puS s a) := by
  have hi := is_any a h
  rw [hv] at hi
  have HI := Lib.hid hi
  obtain ⟨ho, hb, hf⟩ := isV_zero hv
  obtain ⟨j, x, hx, hxa, hfst⟩ := h.pos ho
  have hsl := h.ok x (List.mem_of_getElem? hx)
  have hk4 : cls s a < 4 := h.k4 _
  obtain ⟨g, hg, hcl, hfz⟩ := h.mem.slot hx
  have c8 := h.mem.cS
  rw [hg] at c8
  have hj := (List.getElem?_eq_some_iff.1 hx).1
  have j0 : (0 : Int) ≤ (j : Int) := Int.natCast_nonneg _
  have j1 : (j : Int) < (i.sl.length : Int) := by omega
  have q1 : w.cell? ⟨g, j * 6 + 1, none⟩ = some (.int .i64 (cls s a : Nat)) := by
    have : w.cell? ⟨g, j * 6 + 1, none⟩ = some (.int .i64 x.k) := hcl 1 (by omega)
    rw [this, hsl.k, hxa]
  have q2 : w.cell? ⟨g, j * 6 + 2, none⟩ = some (.int .i64 x.is) := hcl 2 (by omega)
  have q4 : w.cell? ⟨g, j * 6 + 4, none⟩ = some (.bool x.bg) := hcl 4 (by omega)
  have f2 := hfz (j * 6 + 2)
  have f4 := hfz (j * 6 + 4)
  have hgM : g ≠ M := fun e => h.mem.nd.2.1 (by rw [← e, hg]; rfl)
  have hcF := h.mem.cF _ hk4
  have hfF := h.mem.fz (9 + cls s a) (by omega)
  have hlM := h.mem.ltM
  have hlg : g < w.heap.size := World.block_lt_of_cell? w _ q1
  have k0 : (0 : Int) ≤ (cls s a : Int) := Int.natCast_nonneg _
  have k4 : (cls s a : Int) < 4 := by omega
  have hn : (s.hv (cls s a)).length ≤ 1000000 := hp.len _ hk4
  have H := Lib.hid h
  have HX := Lib.hid hx
  have HXA := Lib.hid hxa
  have HFST := Lib.hid hfst
  have HG := Lib.hid hg
  have HV := Lib.hid hv
  clear h hcl hfz hx hxa hfst hg hi hv hsl hb hf
  generalize hK : cls s a = k at *
  have HK := Lib.hid hK
  clear hK
  have hnl : (intsN (s.hv k)).length = (s.hv k).length := by simp [intsN]
  rw [hnl] at hcF
  generalize hN : (s.hv k).length = N at *
  have HN := Lib.hid hN
  clear hN hnl
  go_enter Tryz.func171, Tryz.ntmps171
  go_wp2_with (go_at_call 176; refine HI.out.mono ?_; rintro e w' ⟨rfl, rfl⟩)
  go_quiet ((go_at_call 177; exact quiet_left (at_yes _ (H.out.mem.drewN _) HX.out HXA.out HFST.out)))
  have HE2 : Hid (∀ nq : Nat, RfIs (((w.drewN nq).setCell ⟨g, j * 6 + 2, none⟩ (.int .i64 1)).setCell ⟨g, j * 6 + 4, none⟩ (.bool false)) M base { i with sl := (i.sl.set j { x with is := 1 }).set j { x with is := 1, bg := false } } s.c s.ks.length (fun k => intsN (s.hv k)) s.ce ∧
      Chg (Wr M i) w (((w.drewN nq).setCell ⟨g, j * 6 + 2, none⟩ (.int .i64 1)).setCell ⟨g, j * 6 + 4, none⟩ (.bool false)) ∧ ∀ k', All M { i with sl := (i.sl.set j { x with is := 1 }).set j { x with is := 1, bg := false } } k' → All M i k') := Lib.hid fun nq => by
    obtain ⟨a1, a2, a3⟩ := (H.out.mem.drewN nq).setNum (t := 2) (x' := { x with is := 1 }) HG.out HX.out (by omega) rfl rfl rfl
    obtain ⟨b1, b2, b3⟩ := a1.setNum (j := j) (t := 4) (x := { x with is := 1 }) (x' := { x with is := 1, bg := false }) HG.out (by rw [List.getElem?_set_self (by exact hj)]) (by omega) rfl rfl rfl
    have hq : Chg (Wr M i) w (w.drewN nq) := (Chg.refl _ _).drewN nq
    exact ⟨b1, hq.trans (a2.trans b2 (fun k' e => .inl e)) (fun k' e => .inl e), fun k' e => a3 k' (b3 k' e)⟩
  go_upto_region 9 with (fail)
  obtain ⟨e1, e2, e3⟩ := HE2.out nq
  clear HE2 HI q2 q4 f2 f4
  generalize World.setCell _ _ _ = w2 at *
  have E1 := Lib.hid e1
  have E2 := Lib.hid e2
  have E3 := Lib.hid e3
  have hS := e2.size
  have r1 : w2.cell? ⟨g, j * 6 + 1, none⟩ = some (.int .i64 (k : Nat)) := by
    obtain ⟨g', hg', hcl', _⟩ := e1.slot (j := j) (x := { x with is := 1, bg := false }) (by rw [List.getElem?_set_self (by rw [List.length_set]; exact hj)])
    have : g' = g := by have := HG.out; simp only at hg'; rw [this] at hg'; cases hg'; rfl
    subst this
    have h1 : w2.cell? ⟨g', j * 6 + 1, none⟩ = some (.int .i64 x.k) := hcl' 1 (by omega)
    rw [h1, (H.out.ok x (List.mem_of_getElem? HX.out)).k, HXA.out, HK.out]
  have r2 : w2.cell? ⟨M, 9 + k, none⟩ = some (.slice (i.fp k) N (i.fc k)) := by
    have := e1.cF k hk4
    rw [this]
    simp only [intsN, List.length_map, HN.out]
  have r3 : w2.frozen? ⟨M, 9 + k, none⟩ = false := e1.fz (9 + k) (by omega)
  have hM2 : M < w2.heap.size := e1.ltM
  have hg2 : g < w2.heap.size := World.block_lt_of_cell? w2 _ r1
  have HA : Hid (Below w2.heap.size w2 (w2.drew.alloc (.cells #[.int .i64 a] 3))) := Lib.hid ((below_drewN (Below.refl _ w2) 1).alloc (Nat.le_refl _) _)
  have HOW : Hid ((w2.drew.alloc (.cells #[.int .i64 a] 3)).ownsRow w2.heap.size 3 1 (.slice (some ⟨w2.heap.size, 0, none⟩) 1 1) 1 (cellsZ [(a : Int)])) := Lib.hid (World.ownsRow_lit w2.drew #[.int .i64 a] 1 (Nat.le_refl _) (by decide) rfl)
  have HRD : Hid (Rd0 (w2.drew.alloc (.cells #[.int .i64 a] 3)) (i.fp k) (intsN (s.hv k))) := Lib.hid ((e1.fr k hk4).later HA.out).rd0
  have HFIN : Hid (∀ p' c' w3, w3.ownsRow w2.heap.size 3 1 (.slice p' ([(a : Int)] ++ intsN (s.hv k)).length c') ([(a : Int)] ++ intsN (s.hv k)).length (cellsZ ([(a : Int)] ++ intsN (s.hv k))) → Below w2.heap.size w2 w3 →
      RTo w (w3.setCell ⟨M, 9 + k, none⟩ (.slice p' ((intsN (s.hv k)).length + 1) c')) M base i (puS s a)) := Lib.hid fun p' c' w3 hown hb3 => by
    have E3' := E1.out.later hb3
    obtain ⟨g1, g2, g3⟩ := E3'.setFree (k := k) (cap := c') (p := p') (l := intsN (a :: s.hv k)) hk4 (Rd.of_owns hown) (owns_cap hown).1 (fun k' e => ⟨(owns_lt hown e).2, fun e2 => by have := E1.out.ltA (.inl e2); have := (owns_lt hown e).1; omega⟩)
    rw [updF_ints] at g1
    have hks : (fun j => intsN (upd s.hv k (a :: s.hv k) j)) = fun j => intsN ((puS s a).hv j) := by funext j; show _ = intsN (upd s.hv (cls s a) (a :: s.hv (cls s a)) j); rw [HK.out]
    rw [hks] at g1
    refine ⟨_, H.out.turn (s' := puS s a) HX.out (x' := { x with is := 1, bg := false }) ?_ rfl g1 rfl rfl hw' (put_slot hw' (by rw [HK.out]; exact hk4) (by have := (isV_zero HV.out).2.1; rwa [bnI_nat] at this) (H.out.ok x (List.mem_of_getElem? HX.out)) HXA.out) (fun y hy hne hok => put_frame H.out.wf ho y hy (by rw [← HXA.out]; exact hne) hok), ?_, fun k' e => ?_⟩
    · exact List.set_set ..
    · exact chg_all (E2.out.trans ((Chg.of_below hb3).trans g2 (fun k' e => .inl e)) (fun k' e => by
        rcases e with e | e | e
        · exact .inl (.inl e)
        · exact .inl (.inr (.inl e))
        · exact .inl (.inr (.inr e))))
    · rcases g3 k' e with e | e
      · exact .inl (E3.out k' e)
      · right
        have := (owns_lt hown e).1
        omega
  clear e1 e2 e3 q1 hcF hfF
  go_region_law (refine step_append_row rfl (.tmp 34) (.tmp 43) rfl w2.heap.size (some ⟨w2.heap.size, 0, none⟩) 1 1 [(a : Int)] rfl rfl HOW.out (i.fp k) (i.fc k) N (intsN (s.hv k)) rfl (by simp [intsN, HN.out]) HRD.out (by simp [intsN, HN.out]; omega) (by simp) ?_; intro p' c' w3 hown hbel; have HB3 := Lib.hid (HA.out.trans hbel); have HT := Lib.hid (HFIN.out p' c' w3 hown HB3.out); have t1 := (HB3.out.cell (p := ⟨g, j * 6 + 1, none⟩) hg2).trans r1; have t2 := (HB3.out.cell (p := ⟨M, 9 + k, none⟩) hM2).trans r2; have t3 := (HB3.out.frozen (p := ⟨M, 9 + k, none⟩) hM2).trans r3; clear hown hbel)
  all_goals go_wp2
  all_goals go_ret
  all_goals exact ⟨rfl, HT.out⟩
end
end Go.Proofs.YtkfgchhlekdpgaaGreatDoor.Rf

namespace Go.Proofs.YtkfgchhlekdpgaaGreatDoor.Rf
open Go.RowKit
open Blk (Cfg allP kAt valA)
open Class (isB isB_true isB_false sizI sizI_bd roomI roomI_yes quiet_left refis_any refsize_any)
open Lis (intsN upd upd_same upd_other)
open Hp (St Wf own cls wdA bn fr bnI frI bnI_nat frI_nat mem_allP allP_sorted nSl stS beS baS puS unS frS zr asS handB fr_true fr_false freL mem_freL baE frE colB)
open Go.Proofs.YtkfgchhlekdpgaaGreatDoor.Row (Chg Rd Rd0 rowB rowB_none cell_of_block frozen_of_block other same cellsZ owns_lt owns_cap one_at)

section
variable {M base : Nat} {i : Ri} {s : St}
theorem hand_isV {s : St} {a : Int} : handB s a = true ↔ isV s a = 0 := by
  unfold handB isV stI
  cases own s a <;> cases bnI s a <;> cases frI s a <;> simp
theorem colB_cases {c : Int} : colB c = true ↔ c = 0 ∨ c = 1 := by simp [colB]
set_option maxHeartbeats 1000000 in
theorem bear_bad (a c : Int) (w : World) (h : Rp w M base i s) (hv : handB s a = false ∨ colB c = false) : Calls Tryz.prog 173 #[.pointer (some ⟨M, 0, none⟩), .int .i64 a, .int .i64 c] w fun e w' => e = .returned (.int .i64 1) ∧ w = w' := by
  have HI := Lib.hid (is_any a h)
  have hc := isV_cases s a
  have hz : handB s a = false → isV s a ≠ 0 := fun e e2 => by rw [hand_isV.2 e2] at e; cases e
  clear h
  by_cases hv0 : isV s a = 0
  · have hcol : colB c = false := hv.resolve_left (fun e => hz e hv0)
    have c0 : (c != 0) = true := by
      have : c ≠ 0 := fun e => by rw [e] at hcol; cases hcol
      simpa using this
    have c1 : (c != 1) = true := by
      have : c ≠ 1 := fun e => by rw [e] at hcol; cases hcol
      simpa using this
    rw [hv0] at HI
    clear hv hz hc hcol hv0
    go_enter Tryz.func173, Tryz.ntmps173
    go_wp2_with (go_at_call 176; refine HI.out.mono ?_; rintro e w' ⟨rfl, rfl⟩)
    go_ret
    exact ⟨rfl, rfl⟩
  · have hne : (isV s a != 0) = true := by simpa using hv0
    clear hv hz hc hv0
    generalize isV s a = v at *
    go_enter Tryz.func173, Tryz.ntmps173
    go_wp2_with (go_at_call 176; refine HI.out.mono ?_; rintro e w' ⟨rfl, rfl⟩)
    go_ret
    exact ⟨rfl, rfl⟩
set_option maxHeartbeats 2000000 in
theorem bear_any (a c : Int) (w : World) (h : Rp w M base i s) (hp : Pu s) : Calls Tryz.prog 173 #[.pointer (some ⟨M, 0, none⟩), .int .i64 a, .int .i64 c] w fun e w' => e = .returned (.int .i64 (baE s a c)) ∧ RTo w w' M base i (if baE s a c = 0 then baS s a.toNat c else s) := by
  cases hh : handB s a with
  | false =>
    have e1 : baE s a c = 1 := by unfold baE; rw [hh]; rfl
    rw [e1, if_neg (by decide)]
    refine (bear_bad a c w h (.inl hh)).mono ?_
    rintro e w' ⟨rfl, rfl⟩
    exact ⟨rfl, RTo.of_below h (Below.refl _ _)⟩
  | true =>
    cases hcol : colB c with
    | false =>
      have e1 : baE s a c = 1 := by unfold baE; rw [hh, hcol]; rfl
      rw [e1, if_neg (by decide)]
      refine (bear_bad a c w h (.inr hcol)).mono ?_
      rintro e w' ⟨rfl, rfl⟩
      exact ⟨rfl, RTo.of_below h (Below.refl _ _)⟩
    | true =>
      have hv := hand_isV.1 hh
      have hi := is_any a h
      rw [hv] at hi
      have HI := Lib.hid hi
      obtain ⟨ho, hb, hf⟩ := isV_zero hv
      obtain ⟨n, rfl, n1, n2⟩ := own_nat h.wf ho
      obtain ⟨j, x, hx, hxa, hfst⟩ := h.pos ho
      have hsl := h.ok x (List.mem_of_getElem? hx)
      obtain ⟨g, hg, hcl, hfz⟩ := h.mem.slot hx
      have c8 := h.mem.cS
      rw [hg] at c8
      have hj := (List.getElem?_eq_some_iff.1 hx).1
      have j0 : (0 : Int) ≤ (j : Int) := Int.natCast_nonneg _
      have j1 : (j : Int) < (i.sl.length : Int) := by omega
      have hbg : x.bg = Hdr.isOb (wdA s n) := by rw [hsl.bg, hxa, Int.toNat_natCast]
      have q4 : w.cell? ⟨g, j * 6 + 4, none⟩ = some (.bool (Hdr.isOb (wdA s n))) := by
        have : w.cell? ⟨g, j * 6 + 4, none⟩ = some (.bool x.bg) := hcl 4 (by omega)
        rw [this, hbg]
      have q2 : w.cell? ⟨g, j * 6 + 2, none⟩ = some (.int .i64 x.is) := hcl 2 (by omega)
      have q3 : w.cell? ⟨g, j * 6 + 3, none⟩ = some (.int .i64 x.co) := hcl 3 (by omega)
      have f2 := hfz (j * 6 + 2)
      have f3 := hfz (j * 6 + 3)
      have hcc := colB_cases.1 hcol
      have H := Lib.hid h
      have HX := Lib.hid hx
      have HXA := Lib.hid hxa
      have HFST := Lib.hid hfst
      have HG := Lib.hid hg
      have HHH := Lib.hid hh
      have HCOL := Lib.hid hcol
      clear h hcl hfz hx hxa hfst hg hi hv hsl hb hf hbg hh hcol
      rw [Int.toNat_natCast]
      cases hob : Hdr.isOb (wdA s n) with
      | false =>
        have e1 : baE s (n : Int) c = 11 := by unfold baE; rw [HHH.out, HCOL.out, Int.toNat_natCast, hob]; rfl
        rw [e1, if_neg (by decide)]
        rw [hob] at q4
        clear hob e1
        rcases hcc with rfl | rfl
        all_goals
          go_enter Tryz.func173, Tryz.ntmps173
          go_wp2_with (go_at_call 176; refine HI.out.mono ?_; rintro e w' ⟨rfl, rfl⟩)
          go_quiet ((go_at_call 177; exact quiet_left (at_yes _ (H.out.mem.drewN _) HX.out HXA.out HFST.out)))
          go_wp2
          go_ret
          exact ⟨rfl, RTo.of_below H.out (below_drewN (Below.refl _ _) _)⟩
      | true =>
        have e1 : baE s (n : Int) c = 0 := by unfold baE; rw [HHH.out, HCOL.out, Int.toNat_natCast, hob]; rfl
        rw [e1, if_pos rfl]
        rw [hob] at q4
        have HOB := Lib.hid hob
        clear hob e1
        have HT : Hid (∀ nq : Nat, RTo w (((w.drewN nq).setCell ⟨g, j * 6 + 2, none⟩ (.int .i64 2)).setCell ⟨g, j * 6 + 3, none⟩ (.int .i64 c)) M base i (baS s n c)) := Lib.hid fun nq => by
          obtain ⟨a1, a2, a3⟩ := (H.out.mem.drewN nq).setNum (t := 2) (x' := { x with is := 2 }) HG.out HX.out (by omega) rfl rfl rfl
          obtain ⟨b1, b2, b3⟩ := a1.setNum (j := j) (t := 3) (x := { x with is := 2 }) (x' := { x with is := 2, co := c }) HG.out (by rw [List.getElem?_set_self (by exact hj)]) (by omega) rfl rfl rfl
          have hq : Chg (Wr M i) w (w.drewN nq) := (Chg.refl _ _).drewN nq
          have hb := (isV_zero (hand_isV.1 HHH.out))
          have hw' : Wf (baS s n c) := by
            have := H.out.wf.bear (a := n) (bs := Bits.putS (s.ws.length + 1) s.bs n true) ho (by have := hb.2.2; rwa [frI_nat] at this) HOB.out (fun b => by rw [Hp.putS_has hp.sb (by omega)]; rfl)
            exact ⟨this.right, this.words, this.full, this.free, this.born, this.room, this.fresh⟩
          refine ⟨_, H.out.turn (s' := baS s n c) HX.out (x' := { x with is := 2, co := c }) ?_ rfl b1 rfl rfl hw' (bear_slot hp n2 hcc (H.out.ok x (List.mem_of_getElem? HX.out)) HXA.out) (fun y hy hne hok => bear_frame hp n2 c y (by have := (H.out.wf.own_bd hy).1; omega) (by rw [← HXA.out]; exact hne) hok), ?_, fun k' e => .inl (a3 k' (b3 k' e))⟩
          · exact List.set_set ..
          · exact chg_all (hq.trans (a2.trans b2 (fun k' e => .inl e)) (fun k' e => .inl e))
        rcases hcc with rfl | rfl
        all_goals
          go_enter Tryz.func173, Tryz.ntmps173
          go_wp2_with (go_at_call 176; refine HI.out.mono ?_; rintro e w' ⟨rfl, rfl⟩)
          go_quiet ((go_at_call 177; exact quiet_left (at_yes _ (H.out.mem.drewN _) HX.out HXA.out HFST.out)))
          go_wp2
          go_ret
          exact ⟨rfl, HT.out _⟩
end
end Go.Proofs.YtkfgchhlekdpgaaGreatDoor.Rf

namespace Go.Proofs.YtkfgchhlekdpgaaGreatDoor.Rf
open Go.RowKit
open Blk (Cfg allP kAt valA)
open Class (isB isB_true isB_false sizI sizI_bd roomI roomI_yes quiet_left refis_any refsize_any)
open Lis (intsN upd upd_same upd_other)
open Hp (St Wf own cls wdA bn fr bnI frI bnI_nat frI_nat mem_allP allP_sorted nSl stS beS baS puS unS frS zr asS handB fr_true fr_false freL mem_freL baE frE beE colB make_ints zeroInts zeroInts_at)
open Go.Proofs.YtkfgchhlekdpgaaGreatDoor.Row (Chg Rd Rd0 rowB rowB_none cell_of_block frozen_of_block other same cellsZ owns_lt owns_cap one_at)

section
variable {M base : Nat} {i : Ri} {s : St}
theorem isV_bn {a : Int} (hw : Wf s) : isV s a = 2 ↔ bnI s a = true := by
  constructor
  · exact fun h => (isV_two h).2
  · intro h
    unfold isV stI
    rw [if_pos (hw.bnI_own h), if_pos h]
theorem release_bad (a : Int) (w : World) (h : Rp w M base i s) (hb : bnI s a = false) : Calls Tryz.prog 125 #[.pointer (some ⟨M, 0, none⟩), .int .i64 a] w fun e w' => e = .returned (.int .i64 1) ∧ w = w' := by
  have HI := Lib.hid (is_any a h)
  have hne : (isV s a != 2) = true := by
    have : ¬ isV s a = 2 := fun e => by rw [(isV_bn h.wf).1 e] at hb; cases hb
    simpa using this
  clear h hb
  generalize isV s a = v at *
  go_enter Tryz.func125, Tryz.ntmps125
  go_wp2_with (go_at_call 176; refine HI.out.mono ?_; rintro e w' ⟨rfl, rfl⟩)
  go_ret
  exact ⟨rfl, rfl⟩
theorem setW_putS {size : Nat} {ws : List Nat} (h : SetW size ws) {n : Nat} (hn : n < size) (x : Bool) : SetW size (Bits.putS size ws n x) := by
  unfold Bits.putS
  split
  · rw [Int.toNat_natCast]; exact h.put hn
  · exact h
theorem pu_un (hp : Pu s) {a : Nat} (ha : a ≤ s.ws.length) : Pu (unS s a) := ⟨hp.nd, setW_putS hp.sb (by omega) false, hp.so, hp.len⟩
set_option maxHeartbeats 2000000 in
theorem release_good (a : Nat) (w : World) (h : Rp w M base i s) (hp : Pu s) (hb : bn s a = true) (hw' : Wf (frS s a)) : Calls Tryz.prog 125 #[.pointer (some ⟨M, 0, none⟩), .int .i64 a] w fun e w' => e = .returned (.int .i64 0) ∧ RTo w w' M base i (frS s a) := by
  have hi := is_any a h
  rw [(isV_bn h.wf).2 (by rw [bnI_nat]; exact hb)] at hi
  have HI := Lib.hid hi
  have ho := (h.wf.born a hb).1
  have hbd := h.wf.bn_bd hb
  have hfr : fr s a = false := by
    cases e : fr s a with
    | false => rfl
    | true =>
      obtain ⟨k, hk, hm⟩ := fr_true.1 e
      have := (h.wf.free k hk a hm).2.2.1
      rw [hb] at this
      cases this
  obtain ⟨j, x, hx, hxa, hfst⟩ := h.pos ho
  obtain ⟨g, hg, hcl, hfz⟩ := h.mem.slot hx
  have c8 := h.mem.cS
  rw [hg] at c8
  have hj := (List.getElem?_eq_some_iff.1 hx).1
  have j0 : (0 : Int) ≤ (j : Int) := Int.natCast_nonneg _
  have j1 : (j : Int) < (i.sl.length : Int) := by omega
  have q2 : w.cell? ⟨g, j * 6 + 2, none⟩ = some (.int .i64 x.is) := hcl 2 (by omega)
  have f2 := hfz (j * 6 + 2)
  have H := Lib.hid h
  have HX := Lib.hid hx
  have HXA := Lib.hid hxa
  have HFST := Lib.hid hfst
  have HG := Lib.hid hg
  have HT : Hid (∀ nq : Nat, RTo w ((w.drewN nq).setCell ⟨g, j * 6 + 2, none⟩ (.int .i64 0)) M base i (unS s a)) := Lib.hid fun nq => by
    obtain ⟨a1, a2, a3⟩ := (h.mem.drewN nq).setNum (t := 2) (x' := { x with is := 0 }) hg hx (by omega) rfl rfl rfl
    have hq : Chg (Wr M i) w (w.drewN nq) := (Chg.refl _ _).drewN nq
    exact ⟨_, h.turn (s' := unS s a) hx (x' := { x with is := 0 }) rfl rfl a1 rfl rfl (un_wf h.wf hp hbd.2) (un_slot hp hbd.2 hfr (h.ok x (List.mem_of_getElem? hx)) hxa) (fun y hy hne hok => un_frame hp hbd.2 y (by have := (h.wf.own_bd hy).1; omega) (by rw [← hxa]; exact hne) hok),
      chg_all (hq.trans a2 (fun k' e => .inl e)), fun k' e => .inl (a3 k' e)⟩
  have hv0 : isV (unS s a) a = 0 := by
    unfold isV stI
    have e1 : own (unS s a) (a : Int) = true := ho
    have e2 : bnI (unS s a) (a : Int) = false := by rw [bnI_nat]; exact un_bn hp hbd.2
    have e3 : frI (unS s a) (a : Int) = false := by rw [frI_nat]; exact hfr
    rw [if_pos e1, e2, e3]
    rfl
  have HV0 := Lib.hid hv0
  clear h hcl hfz hx hxa hfst hg hi hv0
  go_enter Tryz.func125, Tryz.ntmps125
  go_wp2_with (go_at_call 176; refine HI.out.mono ?_; rintro e w' ⟨rfl, rfl⟩)
  go_region_with (go_at_call 177; refine (at_yes _ (H.out.mem.drewN _) HX.out HXA.out HFST.out).mono ?_; rintro e w' ⟨rfl, rfl⟩)
  all_goals
    go_wp2_with fail
    obtain ⟨i1, r1, c1, R1⟩ := HT.out 1
    refine (put_good a _ r1 (pu_un hp hbd.2) HV0.out hw').mono ?_
    rintro e w' ⟨rfl, h2⟩
    have H2 := Lib.hid (RTo.trans c1 R1 h2)
    clear r1 c1 R1 h2
    go_wp2
    go_ret
    exact ⟨rfl, H2.out⟩
theorem release_any (a : Int) (w : World) (h : Rp w M base i s) (hp : Pu s) (hw' : frE s a = 0 → Wf (frS s a.toNat)) : Calls Tryz.prog 125 #[.pointer (some ⟨M, 0, none⟩), .int .i64 a] w fun e w' => e = .returned (.int .i64 (frE s a)) ∧ RTo w w' M base i (if frE s a = 0 then frS s a.toNat else s) := by
  cases hb : bnI s a with
  | false =>
    have e1 : frE s a = 1 := by unfold frE; rw [hb]; rfl
    rw [e1, if_neg (by decide)]
    refine (release_bad a w h hb).mono ?_
    rintro e w' ⟨rfl, rfl⟩
    exact ⟨rfl, RTo.of_below h (Below.refl _ _)⟩
  | true =>
    have e1 : frE s a = 0 := by unfold frE; rw [hb]; rfl
    have hwf := hw' e1
    rw [e1, if_pos rfl]
    obtain ⟨n, rfl, n1, n2⟩ := own_nat h.wf (h.wf.bnI_own hb)
    rw [bnI_nat] at hb
    rw [Int.toNat_natCast] at hwf ⊢
    exact release_good n w h hp hb hwf

/-- What Paint tells. -/
def paE (s : St) (a c : Int) : Int := if bnI s a = true then (if colB c = true then 0 else 1) else 1
def paF (s : St) (a c : Int) : Bool := if paE s a c = 0 then (hasB s.os a.toNat != (c == 1)) else false
end
end Go.Proofs.YtkfgchhlekdpgaaGreatDoor.Rf

namespace Go.Proofs.YtkfgchhlekdpgaaGreatDoor.Rf
open Go.RowKit
open Blk (Cfg allP kAt valA)
open Class (isB isB_true isB_false sizI sizI_bd roomI roomI_yes quiet_left refis_any refsize_any)
open Lis (intsN upd upd_same upd_other)
open Hp (St Wf own cls wdA bn fr bnI frI bnI_nat frI_nat mem_allP allP_sorted nSl stS beS baS puS unS frS zr asS handB fr_true fr_false freL mem_freL baE frE beE fE fN lE lV sE takB colB make_ints zeroInts zeroInts_at)
open Go.Proofs.YtkfgchhlekdpgaaGreatDoor.Row (Chg Rd Rd0 rowB rowB_none cell_of_block frozen_of_block other same cellsZ owns_lt owns_cap one_at)

section
variable {M base : Nat} {i : Ri} {s : St}
/-- An object's place among the slots. -/
structure ObAt (s : St) (i : Ri) (a : Int) (j : Nat) (x : Sl) : Prop where
  at_ : i.sl[j]? = some x
  adr : x.a = a
  first : ∀ (j' : Nat) (x' : Sl), j' < j → i.sl[j']? = some x' → x'.a ≠ a
  ok : SlOk s x
  own : own s a = true
  ob : Hdr.isOb (wdA s a.toNat) = true
  nf : x.is ≠ 1
theorem Rp.obAt {w : World} (h : Rp w M base i s) {a : Int} (he : fE s a = 0) : ∃ j x, ObAt s i a j x := by
  obtain ⟨h0, ht⟩ := Hp.fE_ok he
  unfold takB at ht
  rw [Bool.and_eq_true] at ht
  have ho := h.wf.taken_own ht.1
  obtain ⟨j, x, hx, hxa, hf⟩ := h.pos ho
  have hok := h.ok x (List.mem_of_getElem? hx)
  refine ⟨j, x, hx, hxa, hf, hok, ho, ht.2, ?_⟩
  rw [hok.is, hxa]
  unfold stI
  rcases Bool.or_eq_true _ _ ▸ ht.1 with e | e
  · rw [if_pos e]; decide
  · unfold handB at e
    simp only [Bool.and_eq_true, Bool.not_eq_true'] at e
    rw [e.2.1, e.2.2]
    decide
theorem fN_ob {a : Int} (he : fE s a = 0) : fN s a = Hdr.obF (wdA s a.toNat) := by
  obtain ⟨h0, ht⟩ := Hp.fE_ok he
  unfold fN
  rw [if_neg h0, if_pos ht]
theorem ObAt.len {a : Int} {j : Nat} {x : Sl} (h : ObAt s i a j x) (he : fE s a = 0) : x.fs = fldL s a.toNat ∧ x.fs.length = fN s a := by
  have hbg : x.bg = true := by rw [h.ok.bg, h.adr]; exact h.ob
  have := h.ok.fs hbg
  rw [h.adr] at this
  exact ⟨this, by rw [this, fN_ob he]; simp [fldL]⟩
/-- What Color tells. -/
def roV (s : St) (a : Int) : Int := if bnI s a = true then (if hasB s.os a.toNat = true then 1 else 0) else -1
end
end Go.Proofs.YtkfgchhlekdpgaaGreatDoor.Rf

namespace Go.Proofs.YtkfgchhlekdpgaaGreatDoor.Rf
open Go.RowKit Go.Shelf
open Class (below_drewN)
open Hp (St Wf Is To Mine bn bnI bnI_nat frI colB seven isO_any ones_put not_mine three_new)
open Go.Proofs.YtkfgchhlekdpgaaGreatDoor.Row (Chg)
open Go.Proofs.YtkfgchhlekdpgaaGreatDoor.Addr (Tabs)

section
variable {H : Nat} {d : Hp.Ids} {s : St} {m : Nat}
theorem paint1_bad (c : Int) (p o q r : Nat) (w : World) (hc : colB c = false) (hp : w.cell? ⟨p, 0, none⟩ = some (.int .i64 c)) :
    Calls Tryz.prog 178 #[.pointer (some ⟨p, 0, none⟩), .pointer (some ⟨o, 0, none⟩), .pointer (some ⟨q, 0, none⟩), .pointer (some ⟨r, 0, none⟩)] w fun e w' => e = .returned (.int .i64 1) ∧ w = w' := by
  have HC := Lib.hid (Hp.color_any c w)
  rw [hc] at HC
  go_enter Tryz.func178, Tryz.ntmps178
  go_wp2_with (go_at_call 112; refine HC.out.mono ?_; rintro e w1 ⟨rfl, rfl⟩)
  go_ret
  exact ⟨rfl, rfl⟩
set_option maxRecDepth 100000 in
set_option maxHeartbeats 4000000 in
theorem paint1_any (a : Nat) (c : Int) (p o q r : Nat) (u : Value) (w : World) (h : Is w H d s m) (hc : colB c = true)
    (hp : w.cell? ⟨p, 0, none⟩ = some (.int .i64 c)) (hq : w.cell? ⟨o, 0, none⟩ = some (.pointer (some ⟨H, 0, none⟩))) (hr : w.cell? ⟨q, 0, none⟩ = some (.int .i64 a)) (hz : w.cell? ⟨r, 0, none⟩ = some u) (hf : w.frozen? ⟨r, 0, none⟩ = false)
    (hpp : ¬ Mine H d p) (hpo : ¬ Mine H d o) (hqo : ¬ Mine H d q) (hro : ¬ Mine H d r) (hx : r ≠ o ∧ r ≠ q ∧ r ≠ p) :
    Calls Tryz.prog 178 #[.pointer (some ⟨p, 0, none⟩), .pointer (some ⟨o, 0, none⟩), .pointer (some ⟨q, 0, none⟩), .pointer (some ⟨r, 0, none⟩)] w fun e w' => e = .returned (.int .i64 0) ∧ ∃ W, w' = W.setCell ⟨r, 0, none⟩ (.bool (Bits.putR (s.ws.length + 1) s.os a (c == 1))) ∧ Is W H d (paS s a c) m ∧ Chg (Mine H d) w W ∧ W.cell? ⟨r, 0, none⟩ = some u := by
  have HC := Lib.hid (Hp.color_any c w)
  rw [hc] at HC
  have hcO1 := h.cO
  have hH1 : H < w.heap.size := h.ltH
  have hpl1 : p < w.heap.size := World.block_lt_of_cell? w _ hp
  have hol1 : o < w.heap.size := World.block_lt_of_cell? w _ hq
  have hql1 : q < w.heap.size := World.block_lt_of_cell? w _ hr
  have hrl1 : r < w.heap.size := World.block_lt_of_cell? w _ hz
  have hHO : H ≠ d.Ow := by have := h.nd; simp at this; omega
  have sO : ∀ k, ¬ Mine H d k → k ≠ d.Ow := fun k hk e => hk (.inr (.inl (by unfold seven; omega)))
  have HK0 := Lib.hid (show w.drew.cell? ⟨o, 0, none⟩ = some (.pointer (some ⟨H, 0, none⟩)) ∧ w.drew.cell? ⟨q, 0, none⟩ = some (.int .i64 a) ∧ w.drew.cell? ⟨p, 0, none⟩ = some (.int .i64 c) ∧ w.drew.cell? ⟨H, 4, none⟩ = some (.pointer (some ⟨d.O, 0, none⟩)) from ⟨hq, hr, hp, hcO1⟩)
  have HK4 := Lib.hid (fun (W : World) (h2 : ∀ j, j ≠ d.Ow → W.heap[j]? = (w.drewN 1).heap[j]?) => (⟨(Row.cell_of_block (a := ⟨o, 0, none⟩) (h2 o (sO o hpo))).trans hq, (Row.cell_of_block (a := ⟨q, 0, none⟩) (h2 q (sO q hqo))).trans hr, (Row.cell_of_block (a := ⟨p, 0, none⟩) (h2 p (sO p hpp))).trans hp, (Row.cell_of_block (a := ⟨H, 4, none⟩) (h2 H hHO)).trans hcO1⟩ : W.cell? ⟨o, 0, none⟩ = some (.pointer (some ⟨H, 0, none⟩)) ∧ W.cell? ⟨q, 0, none⟩ = some (.int .i64 a) ∧ W.cell? ⟨p, 0, none⟩ = some (.int .i64 c) ∧ W.cell? ⟨H, 4, none⟩ = some (.pointer (some ⟨d.O, 0, none⟩))))
  have HK5 := Lib.hid (fun (W : World) (h2 : ∀ j, j ≠ d.Ow → W.heap[j]? = (w.drewN 1).heap[j]?) => (⟨(Row.cell_of_block (a := ⟨r, 0, none⟩) (h2 r (sO r hro))).trans hz, (Row.frozen_of_block (a := ⟨r, 0, none⟩) (h2 r (sO r hro))).trans hf⟩ : W.cell? ⟨r, 0, none⟩ = some u ∧ W.frozen? ⟨r, 0, none⟩ = false))
  have hrH : r ≠ H := fun e => hro (by rw [e]; exact .inr (.inl (.inl rfl)))
  have HK6 := Lib.hid (fun (W : World) (v : Value) (h2 : ∀ j, j ≠ d.Ow → W.heap[j]? = (w.drewN 1).heap[j]?) => (by
    obtain ⟨k1, k2, k3, k4⟩ := HK4.out W h2
    exact ⟨(Row.other (by simp)).trans k1, (Row.other (by simp)).trans k2, (Row.other (by simp)).trans k3, (Row.other (by simp)).trans k4⟩ : (W.setCell ⟨r, 0, none⟩ v).cell? ⟨o, 0, none⟩ = some (.pointer (some ⟨H, 0, none⟩)) ∧ (W.setCell ⟨r, 0, none⟩ v).cell? ⟨q, 0, none⟩ = some (.int .i64 a) ∧ (W.setCell ⟨r, 0, none⟩ v).cell? ⟨p, 0, none⟩ = some (.int .i64 c) ∧ (W.setCell ⟨r, 0, none⟩ v).cell? ⟨H, 4, none⟩ = some (.pointer (some ⟨d.O, 0, none⟩))))
  have HP1 := Lib.hid (fun n => ones_put (a : Int) (c == 1) _ (h.drewN n))
  clear h sO
  unfold paS
  go_enter Tryz.func178, Tryz.ntmps178
  go_wp2_with (go_at_call 112; refine HC.out.mono ?_; rintro e w1 ⟨rfl, rfl⟩)
  go_region_held3 (fun W => W.cell? ⟨o, 0, none⟩ = some (.pointer (some ⟨H, 0, none⟩)) ∧ W.cell? ⟨q, 0, none⟩ = some (.int .i64 a) ∧ W.cell? ⟨p, 0, none⟩ = some (.int .i64 c) ∧ W.cell? ⟨H, 4, none⟩ = some (.pointer (some ⟨d.O, 0, none⟩)))
    (first | exact HK0.out | assumption | exact HK4.out _ h24 | exact HK6.out _ _ h24)
    (first | (go_at_call 167; refine (HP1.out _).mono ?_; rintro e w4 ⟨rfl, hI4, hC4, h24⟩; obtain ⟨z1, z2⟩ := HK5.out _ h24))
  have HI4 := Lib.hid hI4
  have HC4 := Lib.hid (((Chg.refl (Mine H d) w).drewN 1).trans hC4 (fun _ e => .inl e))
  have HZ4 := Lib.hid z1
  clear HK0 HK4 HK5 HK6 HP1 hI4 hC4 h24 hp hq hr hz hf hcO1
  go_wp2
  go_ret
  exact ⟨rfl, _, rfl, HI4.out, HC4.out, HZ4.out⟩
theorem four_cells {w : World} {u v x y : Value} {r s t t' : TypeId} : Below w.heap.size w ((((w.alloc (.cells #[u] r)).alloc (.cells #[v] s)).alloc (.cells #[x] t)).alloc (.cells #[y] t')) ∧
    ((((w.alloc (.cells #[u] r)).alloc (.cells #[v] s)).alloc (.cells #[x] t)).alloc (.cells #[y] t')).cell? ⟨w.heap.size, 0, none⟩ = some u ∧ ((((w.alloc (.cells #[u] r)).alloc (.cells #[v] s)).alloc (.cells #[x] t)).alloc (.cells #[y] t')).cell? ⟨w.heap.size + 1, 0, none⟩ = some v ∧
    ((((w.alloc (.cells #[u] r)).alloc (.cells #[v] s)).alloc (.cells #[x] t)).alloc (.cells #[y] t')).cell? ⟨w.heap.size + 1 + 1, 0, none⟩ = some x ∧ ((((w.alloc (.cells #[u] r)).alloc (.cells #[v] s)).alloc (.cells #[x] t)).alloc (.cells #[y] t')).cell? ⟨w.heap.size + 1 + 1 + 1, 0, none⟩ = some y ∧
    ((((w.alloc (.cells #[u] r)).alloc (.cells #[v] s)).alloc (.cells #[x] t)).alloc (.cells #[y] t')).frozen? ⟨w.heap.size + 1 + 1 + 1, 0, none⟩ = false := by
  obtain ⟨e1, e2, e3, e4⟩ := Hp.three_cells (w := w) (u := u) (v := v) (x := x) (r := r) (s := s) (t := t)
  have hb := three_new (w := w) u v x r s t
  have hz : (((w.alloc (.cells #[u] r)).alloc (.cells #[v] s)).alloc (.cells #[x] t)).heap.size = w.heap.size + 1 + 1 + 1 := by simp
  generalize ((w.alloc (.cells #[u] r)).alloc (.cells #[v] s)).alloc (.cells #[x] t) = W at *
  exact ⟨hb.alloc (by omega) _, (World.cell?_alloc_past _ _ _ (by omega)).trans e1, (World.cell?_alloc_past _ _ _ (by omega)).trans e2, (World.cell?_alloc_past _ _ _ (by omega)).trans e3, World.cell?_alloc_at _ _ _ _ hz.symm, World.frozen?_alloc_at _ _ _ _ hz.symm⟩
set_option maxRecDepth 100000 in
set_option maxHeartbeats 2000000 in
theorem hpaint_any (a c : Int) (w : World) (h : Is w H d s m) :
    Calls Tryz.prog 130 #[.pointer (some ⟨H, 0, none⟩), .int .i64 a, .int .i64 c] w fun e w' => e = .returned (.tuple #[.bool (paF s a c), .int .i64 (paE s a c)]) ∧ To w w' H d (if paE s a c = 0 then paS s a.toNat c else s) m := by
  obtain ⟨hb0, q1, q2, q3, q4, q5⟩ := four_cells (w := w) (u := .pointer (some ⟨H, 0, none⟩)) (v := .int .i64 a) (x := .int .i64 c) (y := .bool false) (r := 30) (s := 3) (t := 3) (t' := 4)
  have HB0 := Lib.hid hb0
  have HQ := Lib.hid (And.intro q1 (And.intro q2 (And.intro q3 (And.intro q4 q5))))
  have HH := Lib.hid h
  have HI := Lib.hid (h.later hb0)
  have HN := Lib.hid (show ∀ k, w.heap.size ≤ k → ¬ Mine H d k from fun k hk => not_mine h hk)
  have HIS := Lib.hid (isO_any a _ (h.later hb0))
  clear q1 q2 q3 q5 hb0
  cases hb : bnI s a with
  | false =>
    rw [hb] at HIS
    have e1 : paE s a c = 1 := by unfold paE; rw [hb]; rfl
    rw [paF, e1, if_neg (by decide), if_neg (by decide)]
    clear h
    go_enter Tryz.func130, Tryz.ntmps130
    go_wp2_with (first
      | go_enter Tryz.func82, Tryz.ntmps82
      | (go_at_call 47; refine HIS.out.mono ?_; rintro e w1 ⟨rfl, q, rfl⟩))
    go_ret2
    exact ⟨rfl, To.of_below HH.out (below_drewN HB0.out _)⟩
  | true =>
    rw [hb] at HIS
    have hb0 := hb
    obtain ⟨n, rfl⟩ : ∃ n : Nat, a = (n : Int) := by
      have hb2 := hb
      unfold bnI at hb2
      rw [Bool.and_eq_true, decide_eq_true_eq] at hb2
      exact ⟨a.toNat, by omega⟩
    rw [bnI_nat] at hb
    have hbd := h.wf.bn_bd hb
    cases hc : colB c with
    | false =>
      have e1 : paE s n c = 1 := by unfold paE; rw [hb0, hc]; rfl
      rw [paF, e1, if_neg (by decide), if_neg (by decide)]
      clear hb0 e1
      have HC := Lib.hid (fun (j : Nat) (p o q r : Nat) hp => paint1_bad c p o q r ((((((w.alloc (.cells #[.pointer (some ⟨H, 0, none⟩)] 30)).alloc (.cells #[.int .i64 n] 3)).alloc (.cells #[.int .i64 c] 3)).alloc (.cells #[.bool false] 4)).drewN j)) hc hp)
      clear h hbd hb
      go_enter Tryz.func130, Tryz.ntmps130
      go_wp2_with (first
        | go_enter Tryz.func82, Tryz.ntmps82
        | (go_at_call 47; refine HIS.out.mono ?_; rintro e w1 ⟨rfl, q, rfl⟩)
        | (go_at_call 178; refine (HC.out q _ _ _ _ HQ.out.2.2.1).mono ?_; rintro e w2 ⟨rfl, rfl⟩))
      go_ret2
      exact ⟨rfl, To.of_below HH.out (below_drewN HB0.out _)⟩
    | true =>
      have e1 : paE s n c = 0 := by unfold paE; rw [hb0, hc]; rfl
      rw [paF, e1, if_pos rfl, if_pos rfl, Int.toNat_natCast]
      clear hb0 e1
      have hF : Bits.putR (s.ws.length + 1) s.os (n : Int) (c == 1) = (hasB s.os n != (c == 1)) := by
        unfold Bits.putR
        have : Bits.mayB (n : Int) (s.ws.length + 1 : Nat) = true := by simp [Bits.mayB]; omega
        rw [this, Int.toNat_natCast, Bool.true_and]
      have HC := Lib.hid (fun (j : Nat) => paint1_any (m := m) n c (w.heap.size + 1 + 1) w.heap.size (w.heap.size + 1) (w.heap.size + 1 + 1 + 1) (.bool false) _ (HI.out.drewN j) hc HQ.out.2.2.1 HQ.out.1 HQ.out.2.1 HQ.out.2.2.2.1 HQ.out.2.2.2.2 (HN.out _ (by omega)) (HN.out _ (by omega)) (HN.out _ (by omega)) (HN.out _ (by omega)) ⟨by omega, by omega, by omega⟩)
      rw [hF] at HC
      have HT : Hid (∀ j W v, Is W H d (paS s n c) m → Chg (Mine H d) (((((w.alloc (.cells #[.pointer (some ⟨H, 0, none⟩)] 30)).alloc (.cells #[.int .i64 n] 3)).alloc (.cells #[.int .i64 c] 3)).alloc (.cells #[.bool false] 4)).drewN j) W →
          To w (W.setCell ⟨w.heap.size + 1 + 1 + 1, 0, none⟩ (.bool v)) H d (paS s n c) m) := Lib.hid fun j W v hI hC => by
        have hC1 : Chg (Mine H d) w W := (Chg.of_below (below_drewN HB0.out j)).trans hC (fun _ e => .inl e)
        exact ⟨d, hI.kept (fun k hk => Lis.heap_set (fun e => HN.out (w.heap.size + 1 + 1 + 1) (by omega) (by rw [← (show k = w.heap.size + 1 + 1 + 1 from e)]; exact hk))) (by rw [Row.size_setCell]; exact Nat.le_refl _), hC1.set (.inr (by show w.heap.size ≤ w.heap.size + 1 + 1 + 1; omega)) _, fun _ e => .inl e⟩
      clear h hbd hb
      generalize (hasB s.os n != (c == 1)) = fr at *
      go_enter Tryz.func130, Tryz.ntmps130
      go_wp2_with (first
        | go_enter Tryz.func82, Tryz.ntmps82
        | (go_at_call 47; refine HIS.out.mono ?_; rintro e w1 ⟨rfl, q, rfl⟩))
      refine (HC.out q).mono ?_
      rintro e w2 ⟨rfl, W, hw2, hI, hC, hz⟩
      have HT2 := Lib.hid (HT.out q W fr hI hC)
      have c4 : w2.cell? ⟨w.heap.size + 1 + 1 + 1, 0, none⟩ = some (.bool fr) := by rw [hw2]; exact Row.same hz
      rw [← hw2] at HT2
      clear hw2 hI hC hz q4
      go_wp2
      go_ret2
      exact ⟨rfl, HT2.out⟩
end
end Go.Proofs.YtkfgchhlekdpgaaGreatDoor.Rf
