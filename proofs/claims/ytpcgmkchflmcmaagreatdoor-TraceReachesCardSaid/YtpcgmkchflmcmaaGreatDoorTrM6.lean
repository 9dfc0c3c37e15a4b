/-
  The law TraceReaches answers true.
-/
import Derived.Test.YtpcgmkchflmcmaaGreatDoorTrM7
import Derived.Deep.CutBlock
import Derived.Deep.CutRange
import Derived.Maps.OwnIn
namespace Go.Proofs.YtpcgmkchflmcmaaGreatDoor.Tr
open Go.RowKit Go.Shelf
open Class (below_drewN)
open Blk (Cfg allP kAt little little_any little_right)
open Bits (SetIs TzTab)
open Hp (Ids St Wf Is To Mine bn bnI bnI_nat objL not_mine pkA_len objects_any NewRow fN fE lE lV load_any)
open Go.Proofs.YtpcgmkchflmcmaaGreatDoor.Row (push_row info_parts infoInt one_at)
open Sw (ThingsP thAt)
open Go.Proofs.YtpcgmkchflmcmaaGreatDoor.Row (Chg Rd Rd0 rowB rowB_none cell_of_block frozen_of_block other same cellsZ cellsZ_length cellsZ_at owns_block owns_chg owns_lt owns_base owns_cell owns_slice same_any)
open Go.Proofs.YtpcgmkchflmcmaaGreatDoor.Addr (Tabs)

theorem eql_func2_no (f : Fn) (xs ys : Array Value) (w : World) : (binOp .eql 44 (.func f xs ys) .nilFunc).run Tryz.prog w = .ok (.bool false) w := by
  have hu := Tryz.underlying44
  have h : ∀ d : Nat, (Op.equalIn (d + 1) 44 (.func f xs ys) .nilFunc).run Tryz.prog w = .ok false w := fun d => by
    simp [Op.equalIn, run_underlying hu]
  simp only [binOp]
  simp [Op.equal, Op.maxDepth, h 9999]
section
variable {wb W : World} {H : Nat} {s : St} {b7 b8 m : Nat} {pA pT : Option Addr} {cA cT : Nat} {vs : List Value} {x0 : Int} {g : Nat} {l : List Int} {p : Option Addr}
/-- The heap, beside what Of told; beside a number that is laid; beside a row that is told. -/
def St9 (wb : World) (H : Nat) (s : St) (b7 b8 : Nat) (pA pT : Option Addr) (cA cT : Nat) (vs : List Value) (m : Nat) (W : World) : Prop := ∃ d, Rv wb W H d s m b7 b8 pA pT cA cT vs
def SL9 (wb : World) (H : Nat) (s : St) (b7 b8 : Nat) (pA pT : Option Addr) (cA cT : Nat) (vs : List Value) (m : Nat) (x0 : Int) (g : Nat) (W : World) : Prop := ∃ d, Rv wb W H d s m b7 b8 pA pT cA cT vs ∧ Bx W H d g 0 (.int .i64 x0)
def SK9 (wb : World) (H : Nat) (s : St) (b7 b8 : Nat) (pA pT : Option Addr) (cA cT : Nat) (vs : List Value) (m : Nat) (l : List Int) (p : Option Addr) (W : World) : Prop := ∃ d, Rv wb W H d s m b7 b8 pA pT cA cT vs ∧ Kr W H d p l
theorem St9.lit (h : St9 wb H s b7 b8 pA pT cA cT vs m W) : SL9 wb H s b7 b8 pA pT cA cT vs m x0 W.heap.size (W.alloc (.cells #[.int .i64 x0] 3)) := by
  obtain ⟨d, h⟩ := h
  exact ⟨d, h.later ((Below.refl _ _).alloc (Nat.le_refl _) _), ⟨by rw [World.cell?_alloc_new]; rfl, not_mine h.lv.is (Nat.le_refl _)⟩⟩
theorem SL9.drew (h : SL9 wb H s b7 b8 pA pT cA cT vs m x0 g W) : SL9 wb H s b7 b8 pA pT cA cT vs m x0 g W.drew := by
  obtain ⟨d, h, hb⟩ := h
  exact ⟨d, h.later (below_drewN (Below.refl _ _) 1), hb.later (below_drewN (Below.refl _ _) 1)⟩
theorem SK9.st (h : SK9 wb H s b7 b8 pA pT cA cT vs m l p W) : St9 wb H s b7 b8 pA pT cA cT vs m W := by
  obtain ⟨d, h, _⟩ := h
  exact ⟨d, h⟩
end
attribute [local go_sem] Oper.semAt_some
set_option maxRecDepth 100000 in
set_option maxHeartbeats 16000000 in
theorem reaches_walk (c : Cfg) (pa : Option Addr) (ca : Nat) (l : List (Nat × Nat × Bool)) (pf : Option Addr) (cf : Nat) (fl : List Nat) (pr : Option Addr) (cr : Nat) (R : List Int) (x0 x1 : Int) (w : World) (ht : Tabs w) (hz : TzTab w) (hvb : vB ≤ w.heap.size)
    (hl : ThingsP w.heap.size w pa l) (hla : l.length ≤ maxLen) (hf : WordsP w.heap.size w pf fl) (hfl : fl.length ≤ maxLen) (hr : RootsP w.heap.size w pr R) (_hrl : R.length ≤ maxLen) :
    Calls Tryz.prog 3 #[.agg #[.int .i64 c.b, .int .i64 c.wd, .int .i64 c.m, .int .i64 c.r, .int .i64 c.ce, .int .i64 c.lg, .int .i64 c.st, .slice pa l.length ca, .slice pf fl.length cf], .slice pr R.length cr, .agg #[.int .i64 x0, .int .i64 x1]] w fun e w' => e = .returned (.bool true) ∧ Below w.heap.size w w' := by
  obtain ⟨wb, hwb⟩ : ∃ wb, wb = ((w.alloc (.cells #[.int .i64 c.b, .int .i64 c.wd, .int .i64 c.m, .int .i64 c.r, .int .i64 c.ce, .int .i64 c.lg, .int .i64 c.st, .slice pa l.length ca, .slice pf fl.length cf] 27)).alloc (.cells #[.int .i64 x0, .int .i64 x1] 29)).alloc (.cells #[.bool false] 4) := ⟨_, rfl⟩
  have hb0 : Below w.heap.size w wb := by rw [hwb]; exact (((Below.refl _ _).alloc (Nat.le_refl _) _).alloc (by simp) _).alloc (by simp; omega) _
  have hsz : wb.heap.size = w.heap.size + 3 := by rw [hwb]; simp
  have hgb : Gb w wb c pa ca l.length pf cf fl.length := by rw [hwb]; exact (Gb.start w c pa ca l.length pf cf fl.length).later (((Below.refl _ _).alloc (Nat.le_refl _) _).alloc (by simp) _)
  have HT := Lib.hid (ht.later hb0)
  have HZ := Lib.hid (hz.below hb0 (by unfold vB at hvb; omega))
  have HTH := Lib.hid (hl.below hb0)
  have HF := Lib.hid (hf.below hb0)
  have HR := Lib.hid ((hr.below hb0).wide (show w.heap.size ≤ wb.heap.size by omega))
  have HBX := Lib.hid (show ∀ W, Below wb.heap.size wb W → W.cell? ⟨w.heap.size + 1, 0, none⟩ = some (.int .i64 x0) ∧ W.cell? ⟨w.heap.size + 1, 1, none⟩ = some (.int .i64 x1) from fun W hb => by
    have hX : ∀ o, wb.cell? ⟨w.heap.size + 1, o, none⟩ = ((w.alloc (.cells #[.int .i64 c.b, .int .i64 c.wd, .int .i64 c.m, .int .i64 c.r, .int .i64 c.ce, .int .i64 c.lg, .int .i64 c.st, .slice pa l.length ca, .slice pf fl.length cf] 27)).alloc (.cells #[.int .i64 x0, .int .i64 x1] 29)).cell? ⟨w.heap.size + 1, o, none⟩ := fun o => by
      rw [hwb]
      exact cell_of_block (a := ⟨w.heap.size + 1, o, none⟩) (Below.heap_alloc _ _ _ (by simp))
    have h1 : wb.cell? ⟨w.heap.size + 1, 0, none⟩ = some (.int .i64 x0) := by rw [hX, World.cell?_alloc_at _ _ _ _ (by simp)]; rfl
    have h2 : wb.cell? ⟨w.heap.size + 1, 1, none⟩ = some (.int .i64 x1) := by rw [hX, World.cell?_alloc_at _ _ _ _ (by simp)]; rfl
    exact ⟨(hb.cell (p := ⟨w.heap.size + 1, 0, none⟩) (by show w.heap.size + 1 < _; omega)).trans h1, (hb.cell (p := ⟨w.heap.size + 1, 1, none⟩) (by show w.heap.size + 1 < _; omega)).trans h2⟩)
  have HRC := Lib.hid (show ∀ W, Below wb.heap.size wb W → Boxed W (w.heap.size + 1 + 1) 4 (.bool false) from fun W hb => by
    have h1 : Boxed wb (w.heap.size + 1 + 1) 4 (.bool false) := by rw [hwb]; exact boxed_new (by simp)
    exact Boxed.below h1 hb h1.lt)
  have HGB := Lib.hid hgb
  have HB0 := Lib.hid hb0
  have hvb' : vB ≤ wb.heap.size := by omega
  obtain ⟨nc, hnc, hnc3⟩ := Sw.little_ce' c
  obtain ⟨n, hn, hn2⟩ := Sw.little_n' c
  have HNC := Lib.hid hnc
  have HN := Lib.hid hn
  have HAW := Lib.hid (fun (W : World) (hb : Below wb.heap.size wb W) => awake_any W (HT.out.later hb) (HZ.out.below hb (by unfold vB at hvb'; omega)) (Nat.le_trans hvb' hb.size))
  have HLE := Lib.hid (show w.heap.size ≤ wb.heap.size by omega)
  have hwbs : wb.heap.size = w.heap.size + 3 := hsz
  have hfin : ∀ W, Below wb.heap.size wb W → Below w.heap.size w W := fun W hb => HB0.out.trans (hb.mono HLE.out)
  have HFIN := Lib.hid hfin
  clear ht hz hl hf hr hnc hn hb0 hgb hfin hsz
  refine (callsIn_wide (n := 8)).1 ?_
  refine callsIn_of_wp_marks Tryz.func3 rfl trivial ?_ rfl
  simp only [Tryz.ntmps3, List.size_toArray, List.length_cons, List.length_nil, Nat.reduceAdd, Nat.reduceSub, Array.replicate_succ, Array.replicate_zero, List.push_toArray, List.append_toArray, List.nil_append, List.cons_append]
  refine wpIn_wide.2 ?_
  go_wp2_with fail
  rw [← hwb]
  refine (great_any c pa ca l.length pf cf fl.length pr cr R.length _).mono ?_
  rintro e w1 ⟨rfl, hb1⟩
  clear hwb
  have HB1 := Lib.hid hb1
  have HG1 := Lib.hid (HGB.out.later hb1)
  clear hb1 HGB
  cases hgt : gtB l.length fl.length R.length with
  | true =>
    clear hgt
    go_wp2_with fail
    refine (HAW.out _ HB1.out).mono ?_
    rintro e w2 ⟨rfl, hb2⟩
    have HB2 := Lib.hid (HB1.out.trans (hb2.mono HB1.out.size))
    have hrc := HRC.out w2 HB2.out
    have hr0 := hrc.cell
    have hr1 := hrc.frozen
    clear hb2 hrc
    go_wp2_with fail
    have hr7 : (w2.setCell ⟨w.heap.size + 1 + 1, 0, none⟩ (.bool true)).cell? ⟨w.heap.size + 1 + 1, 0, none⟩ = some (.bool true) := same hr0
    refine ⟨.bool true, ?_, rfl, (HFIN.out _ HB2.out).setCell (p := ⟨w.heap.size + 1 + 1, 0, none⟩) (by show w.heap.size ≤ w.heap.size + 1 + 1; omega) _⟩
    simp [results, Tryz.results3, go_sem, hr7]
  | false =>
    obtain ⟨hl40, hf200, hr40⟩ := gtB_false hgt
    clear hgt
    go_wp2_with fail
    refine (HAW.out _ HB1.out).mono ?_
    rintro e w2 ⟨rfl, hb2⟩
    have HB2 := Lib.hid (HB1.out.trans (hb2.mono HB1.out.size))
    obtain ⟨k0, k1, k2, k3, k4, k5, k6, k7, k8, hsz⟩ := HG1.out.later hb2
    clear hb2 HG1
    go_wp2_with fail
    clear k0 k1 k2 k3 k4 k5 k6 k7 k8 hsz
    refine (mk_any w.heap.size c n nc pa ca l pf cf fl w2 (HT.out.later HB2.out) HN.out HNC.out (Nat.le_trans HLE.out HB2.out.size) (HTH.out.below (HB2.out.mono HLE.out)) hla (HF.out.below (HB2.out.mono HLE.out)) hfl).mono ?_
    rintro e w3 ⟨H, d, m, rfl, hg⟩
    have HL3 := Lib.hid (hg.from HB2.out)
    have hmm := hg.hm
    have hall := hg.all
    clear hg
    generalize sM (little c) n nc l fl = s at *
    have hws := (Rf.words_wrap HL3.out.is.wf).1
    go_wp2_with fail
    obtain ⟨w4, hW4⟩ : ∃ w4, w3.alloc (.cells #[.pointer (some ⟨H, 0, none⟩)] 32) = w4 := ⟨_, rfl⟩
    have hb4 : Below w3.heap.size w3 w4 := by rw [← hW4]; exact (Below.refl _ _).alloc (Nat.le_refl _) _
    have h7 : w4.cell? ⟨w3.heap.size, 0, none⟩ = some (.pointer (some ⟨H, 0, none⟩)) := by rw [← hW4, World.cell?_alloc_new]; rfl
    rw [hW4]
    have H7 := Lib.hid (show Bx w4 H d w3.heap.size 0 (.pointer (some ⟨H, 0, none⟩)) from ⟨h7, not_mine HL3.out.is (Nat.le_refl _)⟩)
    have HL4 := Lib.hid (HL3.out.later hb4)
    clear hW4 hb4 h7 HL3
    generalize w3.heap.size = b7 at *
    refine (of_any w4 HL4.out.is (HL4.out.tabs HT.out) (by omega)).mono ?_
    rintro e w5 ⟨pA, cA, pT, cT, vs, d5, rfl, hT, h1, h2, h3, h4, h5⟩
    have HL5 := Lib.hid (HL4.out.tn hT)
    have H75 := Lib.hid (H7.out.tn hT)
    have HGM := Lib.hid (show Gm w5 H d5 s pA pT vs from ⟨⟨Rd.of_owns h1, fun g hg _ => h2 g hg⟩, fun j v hv => by
      obtain ⟨g, off, e, hc⟩ := owns_any h3 j v hv
      exact ⟨g, off, e, hc, h4 g (by rw [e]; rfl)⟩, h5⟩)
    clear hT h1 h2 h3 h4 h5 HL4 H7
    go_upto_region 7 with (fail)
    obtain ⟨w6, hW6⟩ : ∃ w6, w5.alloc (.cells #[.slice pA (objL s).length cA, .slice pT (objL s).length cT] 36) = w6 := ⟨_, rfl⟩
    rw [hW6]
    have hb6 : Below w5.heap.size w5 w6 := by rw [← hW6]; exact (Below.refl _ _).alloc (Nat.le_refl _) _
    have HRV := Lib.hid (show Rv wb w6 H d5 s (m + 40 * (objL s).length) b7 w5.heap.size pA pT cA cT vs from ⟨HL5.out.later hb6, HGM.out.later hb6, H75.out.later hb6, ⟨by rw [← hW6, World.cell?_alloc_new]; rfl, not_mine HL5.out.is (Nat.le_refl _)⟩, ⟨by rw [← hW6, World.cell?_alloc_new]; rfl, not_mine HL5.out.is (Nat.le_refl _)⟩⟩)
    clear hW6 hb6 HGM H75 HL5
    generalize w5.heap.size = b8 at *
    have HCS := Lib.hid (Cs.all (H := H) (s := s) (b7 := b7) (b8 := b8) (pA := pA) (pT := pT) (cA := cA) (cT := cT) (vs := vs) (cr := cr) HT.out HZ.out hvb' HR.out (by omega) hall)
    clear w5
    obtain ⟨M0, hM0⟩ : ∃ M0, m + 40 * (objL s).length = M0 := ⟨_, rfl⟩
    rw [hM0] at HRV
    have hM3 : M0 ≤ 300000 := by omega
    have hM4 : M0 + 40 * (objL s).length ≤ 300000 := by omega
    have hrl := rcL_len s R
    have hgl : (gbL s R).length ≤ (objL s).length := by have := parts_len s R; omega
    have HSY := Lib.hid (show ∀ W d m, Rv wb W H d s m b7 b8 pA pT cA cT vs → W.cell? ⟨b7, 0, none⟩ = some (.pointer (some ⟨H, 0, none⟩)) ∧ W.cell? ⟨b8, 0, none⟩ = some (.slice pA (objL s).length cA) ∧ W.cell? ⟨b8, 1, none⟩ = some (.slice pT (objL s).length cT) ∧ W.cell? ⟨w.heap.size + 1, 0, none⟩ = some (.int .i64 x0) ∧ W.cell? ⟨w.heap.size + 1, 1, none⟩ = some (.int .i64 x1) from fun W d m h => ⟨h.h7.c, h.a0.c, h.a1.c, HBX.out W h.lv.bel⟩)
    obtain ⟨l9, hl9⟩ : ∃ l9, rcL s [x0] = l9 := ⟨_, rfl⟩
    obtain ⟨xx, hxx⟩ : ∃ xx, decide (x1 ∈ l9) = xx := ⟨_, rfl⟩
    have h9len : l9.length ≤ 1000 := by rw [← hl9]; exact Nat.le_trans (rcL_len s _) hall
    have HRe := Lib.hid (show ∀ W d m, m ≤ 300000 → Rv wb W H d s m b7 b8 pA pT cA cT vs → Calls Tryz.prog 17 #[.pointer (some ⟨H, 0, none⟩), .int .i64 x0, .int .i64 x1] W fun e W' => e = .returned (.bool xx) ∧ ∃ d', Rv wb W' H d' s (m + 40 * (objL s).length) b7 b8 pA pT cA cT vs ∧ (∀ b o v, Bx W H d b o v → Bx W' H d' b o v) ∧ (∀ p l, Kr W H d p l → Kr W' H d' p l) from fun W d m hm h => by
      have hq : RootsP wb.heap.size wb none [] := fun j hj => by simp at hj
      refine (reaches_any x0 x1 W (hq.ask h.lv HT.out HZ.out hvb' (by omega) (by simp))).mono ?_
      rintro e W' ⟨rfl, d', hT⟩
      refine ⟨?_, d', h.tn hT, fun b o v hb => hb.tn hT, fun p l hk => hk.tn hT⟩
      congr 2
      rw [← hxx, ← hl9]
      exact decide_eq_decide.2 (rcL_mem h.lv.is.wf h.lv.is.tb.kLt).symm)
    have HR0 := Lib.hid (show ∀ W m, m ≤ 300000 → St9 wb H s b7 b8 pA pT cA cT vs m W → Calls Tryz.prog 17 #[.pointer (some ⟨H, 0, none⟩), .int .i64 x0, .int .i64 x1] W fun e W' => e = .returned (.bool xx) ∧ St9 wb H s b7 b8 pA pT cA cT vs (m + 40 * (objL s).length) W' ∧ SL9 wb H s b7 b8 pA pT cA cT vs (m + 40 * (objL s).length) x0 W'.heap.size (W'.alloc (.cells #[.int .i64 x0] 3)) from fun W m hm ⟨d, h⟩ => by
      refine (HRe.out W d m hm h).mono ?_
      rintro e W' ⟨rfl, d', h2, _, _⟩
      exact ⟨rfl, ⟨d', h2⟩, St9.lit ⟨d', h2⟩⟩)
    have HRL := Lib.hid (show ∀ W m g, m ≤ 300000 → SL9 wb H s b7 b8 pA pT cA cT vs m x0 g W → Calls Tryz.prog 17 #[.pointer (some ⟨H, 0, none⟩), .int .i64 x0, .int .i64 x1] W fun e W' => e = .returned (.bool xx) ∧ SL9 wb H s b7 b8 pA pT cA cT vs (m + 40 * (objL s).length) x0 g W' from fun W m g hm ⟨d, h, hb⟩ => by
      refine (HRe.out W d m hm h).mono ?_
      rintro e W' ⟨rfl, d', h2, h3, _⟩
      exact ⟨rfl, d', h2, h3 _ _ _ hb⟩)
    have HRK := Lib.hid (show ∀ W m p, m ≤ 300000 → SK9 wb H s b7 b8 pA pT cA cT vs m l9 p W → Calls Tryz.prog 17 #[.pointer (some ⟨H, 0, none⟩), .int .i64 x0, .int .i64 x1] W fun e W' => e = .returned (.bool xx) ∧ SK9 wb H s b7 b8 pA pT cA cT vs (m + 40 * (objL s).length) l9 p W' from fun W m p hm ⟨d, h, hb⟩ => by
      refine (HRe.out W d m hm h).mono ?_
      rintro e W' ⟨rfl, d', h2, _, h3⟩
      exact ⟨rfl, d', h2, h3 _ _ hb⟩)
    have HF9 := Lib.hid (show ∀ W m g, SL9 wb H s b7 b8 pA pT cA cT vs m x0 g W → Calls Tryz.prog 14 #[.agg #[.slice pA (objL s).length cA, .slice pT (objL s).length cT], .slice (some ⟨g, 0, none⟩) 1 1] W fun e W' => ∃ p c, e = .returned (.slice p l9.length c) ∧ SK9 wb H s b7 b8 pA pT cA cT vs m l9 p W' from fun W m g ⟨d, h, hb⟩ => by
      have h1 := refReach_any (cA := cA) (cT := cT) (cr := 1) (pr := some ⟨g, 0, none⟩) (R := [x0]) W h.gm.gr (fun j hj => by
        obtain rfl : j = 0 := by simp at hj; omega
        exact ⟨g, 0, rfl, hb.c⟩) (fun g' hg' _ => by
        obtain rfl : g = g' := by simpa [rowB] using hg'
        exact World.block_lt_of_cell? W _ hb.c) h.lv.is.wf h.lv.is.tb.kLt hall (by simp) hws
      rw [hl9] at h1
      refine h1.mono ?_
      intro e W' h2
      obtain ⟨p, c, d', rfl, h3, h4, _, _⟩ := h.new h2
      exact ⟨p, c, rfl, d', h4, h3⟩)
    have HI9 := Lib.hid (show ∀ W m p c, SK9 wb H s b7 b8 pA pT cA cT vs m l9 p W → Calls Tryz.prog 18 #[.slice p l9.length c, .int .i64 x1] W fun e W' => e = .returned (.bool xx) ∧ W = W' from fun W m p c ⟨d, h, hk⟩ => by
      have h1 := in_any p c l9 x1 W hk.rd.rd0 (by omega)
      rw [hxx] at h1
      exact h1)
    have HSL := Lib.hid (show ∀ W m g, SL9 wb H s b7 b8 pA pT cA cT vs m x0 g W → W.cell? ⟨b7, 0, none⟩ = some (.pointer (some ⟨H, 0, none⟩)) ∧ W.cell? ⟨b8, 0, none⟩ = some (.slice pA (objL s).length cA) ∧ W.cell? ⟨b8, 1, none⟩ = some (.slice pT (objL s).length cT) ∧ W.cell? ⟨w.heap.size + 1, 0, none⟩ = some (.int .i64 x0) ∧ W.cell? ⟨w.heap.size + 1, 1, none⟩ = some (.int .i64 x1) from fun W m g ⟨d, h, _⟩ => HSY.out W d m h)
    have HSK := Lib.hid (show ∀ W m p, SK9 wb H s b7 b8 pA pT cA cT vs m l9 p W → W.cell? ⟨b7, 0, none⟩ = some (.pointer (some ⟨H, 0, none⟩)) ∧ W.cell? ⟨b8, 0, none⟩ = some (.slice pA (objL s).length cA) ∧ W.cell? ⟨b8, 1, none⟩ = some (.slice pT (objL s).length cT) ∧ W.cell? ⟨w.heap.size + 1, 0, none⟩ = some (.int .i64 x0) ∧ W.cell? ⟨w.heap.size + 1, 1, none⟩ = some (.int .i64 x1) from fun W m p ⟨d, h, _⟩ => HSY.out W d m h)
    have HS0 := Lib.hid (show ∀ W m, St9 wb H s b7 b8 pA pT cA cT vs m W → W.cell? ⟨b7, 0, none⟩ = some (.pointer (some ⟨H, 0, none⟩)) ∧ W.cell? ⟨b8, 0, none⟩ = some (.slice pA (objL s).length cA) ∧ W.cell? ⟨b8, 1, none⟩ = some (.slice pT (objL s).length cT) ∧ W.cell? ⟨w.heap.size + 1, 0, none⟩ = some (.int .i64 x0) ∧ W.cell? ⟨w.heap.size + 1, 1, none⟩ = some (.int .i64 x1) from fun W m ⟨d, h⟩ => HSY.out W d m h)
    clear hl9 hxx
    have HREA := Lib.hid HCS.out.reach
    have HGAR := Lib.hid HCS.out.garb
    have HREF := Lib.hid HCS.out.ref
    have HBUT := Lib.hid HCS.out.but
    generalize rcL s R = lr at *
    generalize gbL s R = lg at *
    have HSML := Lib.hid (fun (W : World) (p q : Option Addr) (cp cq : Nat) (hp : Rd W p lr) (hq : Rd W q lr) => same_any p q cp cq lr W hp hq (by omega))
    have HSMG := Lib.hid (fun (W : World) (p q : Option Addr) (cp cq : Nat) (hp : Rd W p lg) (hq : Rd W q lg) => same_any p q cp cq lg W hp hq (by omega))
    go_cut [54] from 37 to 54 (fun g wx => g = .bool false ∧ ∃ d, Rv wb wx H d s (M0 + 40 * (objL s).length + 40 * (objL s).length) b7 b8 pA pT cA cT vs)
    case first =>
      have hrv : Rv wb w6.drew H d5 s M0 b7 b8 pA pT cA cT vs := HRV.out.later (below_drewN (Below.refl _ _) 1)
      have S3 := hrv.sx
      go_region_held3 (fun W => W.cell? ⟨b7, 0, none⟩ = some (.pointer (some ⟨H, 0, none⟩)) ∧ W.cell? ⟨b8, 0, none⟩ = some (.slice pA (objL s).length cA) ∧ W.cell? ⟨b8, 1, none⟩ = some (.slice pT (objL s).length cT)) (first | exact S3)
        (first
          | (go_at_call 13; refine (HREA.out _ _ M0 (by omega) (by first | exact hrv | assumption)).mono ?_; rintro e w7 ⟨p1, c1, d1, rfl, k0, hrv, hcar, S3⟩; (first | (have kc := hcar _ _ k1) | skip); have k1 := k0; clear k0 hcar)
          | (go_at_call 14; refine (HREF.out _ _ _ (by first | exact hrv | assumption)).mono ?_; rintro e w7 ⟨p1, c1, d1, rfl, k0, hrv, hcar, S3⟩; (first | (have kc := hcar _ _ k1) | skip); have k1 := k0; clear k0 hcar)
          | (go_at_call 15; refine (HGAR.out _ _ (M0 + 40 * (objL s).length) (by omega) (by first | exact hrv | assumption)).mono ?_; rintro e w7 ⟨p1, c1, d1, rfl, k0, hrv, hcar, S3⟩; (first | (have kd := hcar _ _ k2) | skip); have k2 := k0; clear k0 hcar)
          | (go_at_call 16; refine (HBUT.out _ _ _ (by first | exact hrv | assumption)).mono ?_; rintro e w7 ⟨p1, c1, d1, rfl, k0, hrv, hcar, S3⟩; (first | (have kd := hcar _ _ k2) | skip); have k2 := k0; clear k0 hcar)
          | (have kk := kc; clear kk; go_at_call 12; with_reducible refine Calls.mono (HSML.out _ _ _ _ _ ?_ ?_) ?_; (first | exact k1.rd | exact kc.rd); (first | exact kc.rd | exact k1.rd); rintro e w8 ⟨rfl, nq, rfl⟩; have hrv := hrv.later (below_drewN (Below.refl _ _) nq); have S3 := hrv.sx; clear k1 kc)
          | (go_at_call 12; with_reducible refine Calls.mono (HSMG.out _ _ _ _ _ ?_ ?_) ?_; (first | exact k2.rd | exact kd.rd); (first | exact kd.rd | exact k2.rd); rintro e w8 ⟨rfl, nq, rfl⟩; have hrv := hrv.later (below_drewN (Below.refl _ _) nq); have S3 := hrv.sx; clear k2 kd))
      all_goals (go_wp2_with fail; go_meet; exact ⟨rfl, _, hrv⟩)
    case rest =>
      obtain ⟨rfl, d6, hrv6⟩ := hcut
      have HR6 := Lib.hid hrv6
      clear hrv6 HRV HREA HREF HGAR HBUT HSML HSMG HCS
      go_upto_region 9 with (fail)
      go_cut [69] from 55 to 69 (fun g wx => g = .bool false ∧ St9 wb H s b7 b8 pA pT cA cT vs (M0 + 40 * (objL s).length + 40 * (objL s).length + 40 * (objL s).length) wx)
      case first =>
        have st0 : St9 wb H s b7 b8 pA pT cA cT vs (M0 + 40 * (objL s).length + 40 * (objL s).length) wc.drew := ⟨d6, HR6.out.later (below_drewN (Below.refl _ _) 1)⟩
        have stL : SL9 wb H s b7 b8 pA pT cA cT vs (M0 + 40 * (objL s).length + 40 * (objL s).length) x0 wc.heap.size ((wc.alloc (.cells #[.int .i64 x0] 3)).drew) := (St9.lit ⟨d6, HR6.out⟩).drew
        have S3 := HS0.out _ _ st0
        have S4 := HSL.out _ _ _ stL
        have hm9 : M0 + 40 * (objL s).length + 40 * (objL s).length ≤ 300000 := by omega
        go_region_held3 (fun W => W.cell? ⟨b7, 0, none⟩ = some (.pointer (some ⟨H, 0, none⟩)) ∧ W.cell? ⟨b8, 0, none⟩ = some (.slice pA (objL s).length cA) ∧ W.cell? ⟨b8, 1, none⟩ = some (.slice pT (objL s).length cT) ∧ W.cell? ⟨w.heap.size + 1, 0, none⟩ = some (.int .i64 x0) ∧ W.cell? ⟨w.heap.size + 1, 1, none⟩ = some (.int .i64 x1)) (first | with_reducible exact S3 | with_reducible exact S4)
          (first
            | (go_at_call 17; with_reducible refine Calls.mono (HR0.out _ _ hm9 st0) ?_; rintro e w9 ⟨rfl, st0, stL⟩; have S3 := HS0.out _ _ st0; have S4 := HSL.out _ _ _ stL)
            | (go_at_call 17; with_reducible refine Calls.mono (HRL.out _ _ _ hm9 stL) ?_; rintro e w9 ⟨rfl, stL⟩; have S3 := HSL.out _ _ _ stL)
            | (go_at_call 17; with_reducible refine Calls.mono (HRK.out _ _ _ hm9 stK) ?_; rintro e w9 ⟨rfl, stK⟩; have S3 := HSK.out _ _ _ stK)
            | (go_at_call 14; with_reducible refine Calls.mono (HF9.out _ _ _ stL) ?_; rintro e w9 ⟨p9, c9, rfl, stK⟩; have S3 := HSK.out _ _ _ stK)
            | (go_at_call 18; with_reducible refine Calls.mono (HI9.out _ _ _ _ stK) ?_; rintro e w9 ⟨rfl, rfl⟩))
        all_goals (go_wp2_with fail; go_meet; exact ⟨rfl, stK.st⟩)
      case rest =>
        obtain ⟨rfl, d7, hrv7⟩ := hcut
        have HR7 := Lib.hid hrv7
        have hsy := HSY.out _ _ _ hrv7
        obtain ⟨y1, y2, y3, y4, y5⟩ := hsy
        clear hrv7 HR6 HR0 HRL HRK HF9 HI9 HSL HSK HS0 HRe h9len
        have hqf := eql_func2_no
        go_wp2_with (go_at_call 19; refine (edges_any _ _ _).mono ?_; rintro e w'' ⟨rfl, rfl⟩)
        have hm7 : M0 + 40 * (objL s).length + 40 * (objL s).length + 40 * (objL s).length ≤ 300000 := by omega
        generalize M0 + 40 * (objL s).length + 40 * (objL s).length + 40 * (objL s).length = m7 at *
        generalize hX : World.alloc _ _ = X
        have bX : Below wc.heap.size wc X := by rw [← hX]; exact ((((Below.refl _ _).alloc (Nat.le_refl _) _).alloc (by simp) _).alloc (by simp; omega) _).alloc (by simp; omega) _
        have hsX : X.heap.size = wc.heap.size + 4 := by rw [← hX]; simp
        have xh : Boxed X wc.heap.size 32 (.pointer (some ⟨H, 0, none⟩)) := by rw [← hX]; exact (((Boxed.new _ _ _).alloc _).alloc _).alloc _
        have xa : Boxed X (wc.heap.size + 1) 3 (.int .i64 x0) := by rw [← hX]; exact ((boxed_new (by simp)).alloc _).alloc _
        have xg : Boxed X (wc.heap.size + 1 + 1) 28 (.slice none 0 0) := by rw [← hX]; exact (boxed_new (by simp)).alloc _
        have xl : Boxed X (wc.heap.size + 1 + 1 + 1) 3 (.int .i64 (-1)) := by rw [← hX]; exact boxed_new (by simp)
        clear hX y1 y2 y3 y4 y5
        have HRX := Lib.hid (HR7.out.later bX)
        have hwf := HRX.out.lv.is.wf
        have hmX : ∀ k, Mine H d7 k → k < wc.heap.size := fun k hk => HR7.out.lv.is.lt hk
        have HMX := Lib.hid hmX
        have HWF := Lib.hid hwf
        have HTX := Lib.hid (HRX.out.lv.tabs HT.out)
        have hb7 : b7 < wc.heap.size := World.block_lt_of_cell? wc _ HR7.out.h7.c
        have hb8 : b8 < wc.heap.size := World.block_lt_of_cell? wc _ HR7.out.a0.c
        have hwc : wb.heap.size ≤ wc.heap.size := HR7.out.lv.bel.size
        have HWB := Lib.hid hwbs
        clear hmX
        refine (wpIn_wide (n := 8)).1 ?_
        refine wpIn_rangeFunc_open rfl (by decide) (gf := 33) (lb := #[.pointer (some ⟨wc.heap.size, 0, none⟩), .pointer (some ⟨wc.heap.size + 1, 0, none⟩)]) rfl trivial (enters_of Tryz.func33 (by kernel_rfl) rfl)
          (N := (eA (fs s x0)).length) (encs := encE (fs s x0)) (R := OpE H d7 s m7) (edges1_open 7 wc.heap.size (wc.heap.size + 1) x0 (by omega) hwf X) (Below.refl _ _) (fun _ => rfl)
          (Eg X H d7 s (m7 + 40) (wc.heap.size + 1 + 1) (wc.heap.size + 1 + 1 + 1) (fs s x0)) (fun _ _ _ _ => False) ?hI (fun _ _ _ _ _ h => h.elim) ?hT ?hR ?h0
          (fun i => { tmps := #[.agg #[.int .i64 c.b, .int .i64 c.wd, .int .i64 c.m, .int .i64 c.r, .int .i64 c.ce, .int .i64 c.lg, .int .i64 c.st, .slice pa l.length ca, .slice pf fl.length cf], .slice pr R.length cr, .agg #[.int .i64 x0, .int .i64 x1], .pointer (some ⟨w.heap.size, 0, none⟩), undef, .pointer (some ⟨w.heap.size + 1, 0, none⟩), .pointer (some ⟨w.heap.size + 1 + 1, 0, none⟩), .pointer (some ⟨b7, 0, none⟩), .pointer (some ⟨b8, 0, none⟩), .func (.func 33) #[] #[.pointer (some ⟨wc.heap.size, 0, none⟩), .pointer (some ⟨wc.heap.size + 1, 0, none⟩)], .pointer (some ⟨wc.heap.size + 1 + 1, 0, none⟩), .pointer (some ⟨wc.heap.size + 1 + 1 + 1, 0, none⟩), .int .i64 (eK (fs s x0) i : Int), .int .i64 (eV (fs s x0) i), undef, undef, undef, undef, .agg #[.int .i64 c.b, .int .i64 c.wd, .int .i64 c.m, .int .i64 c.r, .int .i64 c.ce, .int .i64 c.lg, .int .i64 c.st, .slice pa l.length ca, .slice pf fl.length cf], .slice pr R.length cr, .bool false, .bool false, .bool true, .bool false, .bool false, undef, .pointer (some ⟨w.heap.size, 0, none⟩), .agg #[.int .i64 c.b, .int .i64 c.wd, .int .i64 c.m, .int .i64 c.r, .int .i64 c.ce, .int .i64 c.lg, .int .i64 c.st], .pointer (some ⟨w.heap.size, 7, none⟩), .slice pa l.length ca, .pointer (some ⟨w.heap.size, 8, none⟩), .slice pf fl.length cf, .pointer (some ⟨H, 0, none⟩), .pointer (some ⟨H, 0, none⟩), .bool false, .pointer (some ⟨H, 0, none⟩), .agg #[.slice pA (objL s).length cA, .slice pT (objL s).length cT], u37, u38, u39, u40, u41, u42, u43, u44, u45, u46, u47, u48, u49, u50, u51, u52, u53, .bool false, u55, u56, u57, u58, u59, u60, u61, u62, u63, u64, u65, u66, u67, u68, .bool false, .pointer (some ⟨H, 0, none⟩), .pointer (some ⟨w.heap.size + 1, 0, none⟩), .int .i64 x0, .func (.func 33) #[] #[.pointer (some ⟨wc.heap.size, 0, none⟩), .pointer (some ⟨wc.heap.size + 1, 0, none⟩)], .func (.func 33) #[] #[.pointer (some ⟨wc.heap.size, 0, none⟩), .pointer (some ⟨wc.heap.size + 1, 0, none⟩)], .bool false, .func (.func 33) #[] #[.pointer (some ⟨wc.heap.size, 0, none⟩), .pointer (some ⟨wc.heap.size + 1, 0, none⟩)], .int .i64 (eK (fs s x0) i : Int), .int .i64 (eV (fs s x0) i), undef, undef, undef, undef, undef, undef, undef, undef, undef, undef, undef, undef, undef, undef, undef, undef, undef, undef, undef, undef, undef, undef, undef, undef, undef, undef, undef, undef, undef, undef, undef, undef, undef, undef, undef, undef, undef, undef, undef, undef, undef, undef, undef, undef, undef, undef, undef, undef], defers := [] }) ?assign ?body ?done (fun _ _ _ _ _ _ _ h => h.elim)
        case hI => exact fun O i X' Y h hb hk => h.stab hb hk
        case hT =>
          intro W hb
          exact ⟨HRX.out.lv.is.later hb, HTX.out.later hb, (Boxed.below xh hb (by omega)).cell, (Boxed.below xa hb (by omega)).cell⟩
        case hR =>
          rintro X' Y G k hs hb ⟨d', hT, _⟩ h1 h2
          exact hT.chg.block k h2 (fun e => by have := HMX.out k e; omega)
        case h0 =>
          rintro X' Y G hs hb ⟨d', hT, hG⟩
          have hc0 : Chg (fun k => Mine H d7 k ∨ k = wc.heap.size + 1 + 1 ∨ k = wc.heap.size + 1 + 1 + 1) X Y := (Chg.of_below hb).trans hT.chg (fun k e => .inl (.inl e))
          have hsz := hT.chg.size
          have kb : ∀ b, b < X.heap.size → wc.heap.size ≤ b → Y.heap[b]? = X.heap[b]? := fun b h1 h2 => (hT.chg.block b (by omega) (fun e => by have := HMX.out b e; omega)).trans (hb.block b h1)
          have bg : Boxed Y (wc.heap.size + 1 + 1) 28 (.slice none 0 0) := (kb _ (by omega) (by omega)).trans xg
          have bl : Boxed Y (wc.heap.size + 1 + 1 + 1) 3 (.int .i64 (-1)) := (kb _ (by omega) (by omega)).trans xl
          refine ⟨fun k => Mine H d' k ∧ X.heap.size ≤ k, ⟨⟨d', none, 0, hT.is, fun k hk => (hT.grow k hk).imp id (fun e => by omega), bg.cell, ⟨by simp [cellsZ, gaT], .inl ⟨rfl, rfl⟩⟩, fun k e => absurd e (rowB_none k), fun k hk => ?_⟩, hc0, bl.cell, bg.frozen, bl.frozen, by omega, by omega, by omega, fun e => by have := HMX.out _ e; omega, fun e => by have := HMX.out _ e; omega⟩, fun k hk => ⟨hT.is.lt hk.1, fun hg => (hG k hg).2 hk.1⟩, fun k hk => (hT.grow k hk.1).elim (fun e => .inl (by have := HMX.out k e; omega)) .inr⟩
          rcases hk with e | e
          · by_cases h : k < X.heap.size
            · exact .inl h
            · exact .inr ⟨e, by omega⟩
          · exact absurd e (rowB_none k)
        case assign =>
          intro lp i Y K hi hK
          unfold encE
          gi_wp2
          exact hK
        case body =>
          rintro lp O i Y hlp _ hi hE hlt hsz
          obtain ⟨⟨d', pg, cg, hIs, hgr, cg0, hown, hpg, hO⟩, hchg, cl0, fg0, fl0, hltb⟩ := id hE
          obtain ⟨e1, e2, e3⟩ := fs_edge HWF.out hi
          have hsX2 : X.heap.size ≤ Y.heap.size := hchg.size
          have kY : ∀ b o, b < wc.heap.size → ¬ Mine H d7 b → Y.cell? ⟨b, o, none⟩ = X.cell? ⟨b, o, none⟩ := fun b o h1 h2 => hchg.cell (p := ⟨b, o, none⟩) (by show b < _; omega) (fun e => e.elim h2 (fun e => e.elim (fun e => by simp only at e; omega) (fun e => by simp only at e; omega)))
          have y7 : Y.cell? ⟨b7, 0, none⟩ = some (.pointer (some ⟨H, 0, none⟩)) := (kY b7 0 hb7 HR7.out.h7.n).trans HRX.out.h7.c
          have y5 : Y.cell? ⟨w.heap.size + 1, 0, none⟩ = some (.int .i64 x0) := (kY _ 0 (by omega) (fun e => by have := HR7.out.lv.new _ e; omega)).trans (HBX.out X HRX.out.lv.bel).1
          have hTY : Tabs Y := HT.out.later (HRX.out.lv.bel.trans (hchg.below (fun k e => e.elim (HR7.out.lv.new k) (fun e => e.elim (fun e => by omega) (fun e => by omega))) HRX.out.lv.bel.size))
          have hiN : i ≤ 15 := by
            have h1 := eA_len (fs s x0)
            have h2 : (fs s x0).length ≤ 15 := by
              cases hb : bnI s x0 with
              | true => rw [fs_len hb]; exact (obj_fN HWF.out hb).1
              | false => rw [fs_no hb]; simp
            omega
          have HLD := Lib.hid (load_any x0 (eK (fs s x0) i : Nat) Y hIs hTY (by omega))
          rw [e1, e2] at HLD
          have hle : ¬ ((eK (fs s x0) i : Nat) : Int) ≤ laE (fs s x0) i := by have := laE_lt hi; omega
          have hvv : (eV (fs s x0) i == eV (fs s x0) i) = true := by simp
          have hk0 : (0 : Int) ≤ ((eK (fs s x0) i : Nat) : Int) := Int.natCast_nonneg _
          have HRO := Lib.hid (fun w2 (hT : To Y w2 H d' s (m7 + 40 + 2 * i + 2)) => Eg.round hi hlt hgr cg0 hown hpg hO hE hT)
          have hgl := gaT_len (fs s x0) i
          have hga15 : (gaT (fs s x0) i).length ≤ 15 := by
            have h1 : (fs s x0).length ≤ 15 := by
              cases hb : bnI s x0 with
              | true => rw [fs_len hb]; exact (obj_fN HWF.out hb).1
              | false => rw [fs_no hb]; simp
            omega
          obtain ⟨n0, hinf, hz0, hz1, hz2⟩ := info_parts infoInt
          clear hE hIs hgr hown hpg hO hchg kY hTY e1 e2 hlt cg0 cl0 fg0 fl0 xh xa xg xl hltb hgl
          generalize hkk : eK (fs s x0) i = kk at *
          generalize hve : eV (fs s x0) i = ve at *
          generalize hla : laE (fs s x0) i = la at *
          generalize hgg : gaT (fs s x0) i = gg at *
          clear hkk hve hla hgg
          gi_wp2_with (first
            | (refine ⟨trivial, ?_⟩; gi_at_call 20; refine (CallsIn.inRound lp (callsIn_wide.2 HLD.out)).mono ?_; rintro e w2 ⟨rfl, hTo⟩; obtain ⟨r1, r2, r3, r4, r5, r6⟩ := HRO.out w2 hTo; have HO4 := Lib.hid r4; have HBA := Lib.hid r5; have HFI := Lib.hid r6; clear r4 r5 r6 hTo)
            | (gi_at_builtin; refine wpListIn_append_own_at _ rfl (.tmp 100) (.tmp 102) 28 rfl X.heap.size 3 n0 (.int .i64 0) 1 8 Tryz.underlying28 hinf hz0 hz1 hz2 rfl (by decide) _ _ _ rfl HO4.out ⟨w2.heap.size, 0, none⟩ 1 1 [.int .i64 ve] rfl rfl (one_at (by simp [World.setCell])) (by simp [Value.oneCell']) (by unfold maxLen; omega) (by omega) HBA.out ?_; intro v' w5 ho5 hg5 _ ha5; obtain ⟨p', c', rfl, q1, q2, O', q3, q4⟩ := HFI.out v' w5 ho5 hg5 ha5; have HQ := Lib.hid (And.intro q3 q4); clear ho5 hg5 ha5 q3 q4))
          exact ⟨O', HQ.out⟩
        case done =>
          rintro D O Y hD hE hnD hlt hDk
          obtain ⟨⟨d', pg, cg, hIs, hgr, cg0, hown, hpg, hO⟩, hchg, _, _, _, _⟩ := hE
          rw [gaT_all] at cg0 hown
          have hfs : ((fs s x0).filter fun v => !(v == 0)) = toL s x0 := rfl
          rw [hfs] at cg0 hown
          have hbXw : Below wc.heap.size wc X := bX
          have HRY := Lib.hid (HR7.out.tn (show Tn wc H d7 Y d' s _ from ⟨hIs, (Chg.of_below bX).trans hchg (fun k e => e.elim .inl (fun e => .inr (e.elim (fun e => by omega) (fun e => by omega)))), fun j hj => (hgr j hj).imp id (fun e => by omega)⟩))
          have hsXY : X.heap.size ≤ Y.heap.size := hchg.size
          have hDl : D < Y.heap.size := (Array.getElem?_eq_some_iff.1 hDk).1
          have HDK := Lib.hid hDk
          have HGO := Lib.hid (show Rd Y pg (toL s x0) from Rd.of_owns hown)
          have hb10 : wc.heap.size + 1 + 1 < Y.heap.size := by omega
          have HCG := Lib.hid cg0
          have HK4 := Lib.hid (HR7.out.lv.is.tb.kLt)
          have hN1 := hall
          clear hIs hgr cg0 hown hpg hO hchg hDk hfs hbXw xh xa xg xl bX hlt hnD hwf HTX HRX
          go_wp2
          go_loopw [16, 17] (fun ov x wr => ∃ (i : Nat) (pw : Option Addr) (cw : Nat), i ≤ (objL s).length ∧ x = .int .i64 (i : Int) ∧ ov = .slice pw (wsel s x0 i).length cw ∧ Rd wr pw (wsel s x0 i) ∧ Below Y.heap.size Y wr) (fun _ x _ => (objL s).length - (intOf x).toNat)
          case atStart => exact ⟨0, none, 0, Nat.zero_le _, rfl, rfl, Rd.nil _, Below.refl _ _⟩
          case round =>
            obtain ⟨i, pw, cw, hi, rfl, rfl, hrd, hb⟩ := hrel
            have HRW := Lib.hid (HRY.out.later hb)
            have HRD := Lib.hid hrd
            have HB := Lib.hid hb
            obtain ⟨y1, y2, y3, y4, y5⟩ := HSY.out _ _ _ HRW.out
            clear hrd hb y1 y5
            by_cases hlt : i < (objL s).length
            · have i0 : (0 : Int) ≤ (i : Int) := Int.natCast_nonneg _
              have i1 : (i : Int) < ((objL s).length : Int) := by omega
              obtain ⟨g, off, hp, hc⟩ := HRW.out.gm.rA.rd.at hlt
              obtain ⟨pj, cj, hvj, hrj, _⟩ := HRW.out.gm.vs.2 i hlt
              obtain ⟨gT, oT, hpT, hcT, _⟩ := HRW.out.gm.rT i _ hvj
              have HRJ := Lib.hid (show Rd wr.drew pj (tos s i) from hrj.later (below_drewN (Below.refl _ _) 1))
              have HRD1 := Lib.hid (show Rd wr.drew pw (wsel s x0 i) from HRD.out.later (below_drewN (Below.refl _ _) 1))
              have HB1 := Lib.hid (show Below Y.heap.size Y wr.drew from HB.out.trans ((below_drewN (Below.refl _ wr) 1).mono HB.out.size))
              clear hvj hrj
              by_cases he : (objL s).getD i 0 = x0
              · have HWS := Lib.hid (show wsel s x0 (i + 1) = tos s i from by rw [wsel, if_pos he])
                rw [he] at hc
                have hxx0 : (x0 == x0) = true := by simp
                subst hp hpT
                clear he
                go_wp2_with fail
                go_region
                go_wp2
                go_roundw
                case rel => exact ⟨i + 1, pj, cj, by omega, by go_num, by rw [HWS.out], by rw [HWS.out]; exact HRJ.out, HB1.out⟩
                case measure => simp [intOf]; omega
              · have HWS := Lib.hid (show wsel s x0 (i + 1) = wsel s x0 i from by rw [wsel, if_neg he])
                have hne : ((objL s).getD i 0 == x0) = false := by simpa using he
                subst hp hpT
                clear he
                generalize (objL s).getD i 0 = y at *
                go_wp2_with fail
                go_region
                go_wp2
                go_roundw
                case rel => exact ⟨i + 1, pw, cw, by omega, by go_num, by rw [HWS.out], by rw [HWS.out]; exact HRD1.out, HB1.out⟩
                case measure => simp [intOf]; omega
            · have i1 : ¬ (i : Int) < ((objL s).length : Int) := by omega
              obtain rfl : i = (objL s).length := by omega
              have hwa := wsel_all (s := s) (a := x0) HWF.out HK4.out
              rw [hwa] at HRD ⊢
              have hcg := ((HB.out.cell (p := ⟨wc.heap.size + 1 + 1, 0, none⟩) hb10).trans HCG.out)
              have HSM := Lib.hid (same_any pg pw cg cw (toL s x0) wr (HGO.out.later HB.out) HRD.out (by have := toL_len (s := s) x0; omega))
              have hrc := HRC.out wr HRW.out.lv.bel
              clear hwa
              go_wp2_with fail
              refine HSM.out.mono ?_
              rintro e w9 ⟨rfl, nq, rfl⟩
              have hrc9 : Boxed (wr.drewN nq) (w.heap.size + 1 + 1) 4 (.bool false) := hrc
              have hr0 := hrc9.cell
              have hr1 := hrc9.frozen
              have HBL := Lib.hid (show Below w.heap.size w (wr.drewN nq) from HFIN.out _ (HRW.out.later (below_drewN (Below.refl _ _) nq)).lv.bel)
              have hDne : D ≠ w.heap.size + 1 + 1 := by omega
              have HD9 := Lib.hid (show (wr.drewN nq).heap[D]? = some (.deferred (some [])) from (HB.out.block D hDl).trans HDK.out)
              clear hrc hrc9
              generalize wr.drewN nq = w10 at *
              go_wp2_with fail
              have hD7 : (w10.setCell ⟨w.heap.size + 1 + 1, 0, none⟩ (.bool true)).heap[D]? = some (.deferred (some [])) := (Below.heap_setCell _ _ _ _ (by exact hDne)).trans HD9.out
              have hr7 : ((w10.setCell ⟨w.heap.size + 1 + 1, 0, none⟩ (.bool true)).putObj D (.deferred none)).cell? ⟨w.heap.size + 1 + 1, 0, none⟩ = some (.bool true) := (World.cell?_of_block (World.putObj_heap_other (Ne.symm hDne))).trans (same hr0)
              have hbE : Below w.heap.size w ((w10.setCell ⟨w.heap.size + 1 + 1, 0, none⟩ (.bool true)).putObj D (.deferred none)) := (HBL.out.setCell (p := ⟨w.heap.size + 1 + 1, 0, none⟩) (by show w.heap.size ≤ w.heap.size + 1 + 1; omega) _).trans (below_putObj (by omega) _ _)
              refine ⟨by simp, .inl ⟨_, _, rfl, run_takeDeferred hD7, ?_⟩⟩
              refine ⟨.bool true, ?_, rfl, hbE⟩
              simp [results, Tryz.results3, go_sem, hr7]
end Go.Proofs.YtpcgmkchflmcmaaGreatDoor.Tr
