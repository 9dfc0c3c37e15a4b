/-
  The law TraceGrows answers true.
-/
import Derived.Test.YtpcgmkchflmcmaaGreatDoorTrQ3
import Derived.Test.YtpcgmkchflmcmaaGreatDoorTrT
namespace Go.Proofs.YtpcgmkchflmcmaaGreatDoor.Tr
open Go.RowKit Go.Shelf
open Class (below_drewN)
open Blk (Cfg allP kAt little little_any little_right)
open Bits (SetIs TzTab)
open Hp (Ids St Wf Is To Mine bn bnI bnI_nat objL not_mine pkA_len objects_any NewRow fields_any storeF_any fN fE sE stS st0 wpList_append_row)
open Sw (ThingsP thAt)
open Go.Proofs.YtpcgmkchflmcmaaGreatDoor.Row (Chg Rd Rd0 rowB rowB_none cell_of_block frozen_of_block other same cellsZ cellsZ_length cellsZ_at owns_block owns_chg owns_lt owns_base owns_cell owns_slice same_any)
open Go.Proofs.YtpcgmkchflmcmaaGreatDoor.Addr (Tabs)

/-- A row that came in, below S. -/
def RootsP (S : Nat) (W : World) (p : Option Addr) (R : List Int) : Prop := ∀ j, j < R.length → ∃ b off, p = some ⟨b, off, none⟩ ∧ b < S ∧ W.cell? ⟨b, off + j, none⟩ = some (.int .i64 (R.getD j 0))
theorem RootsP.below {S : Nat} {W W' : World} {p : Option Addr} {R : List Int} (h : RootsP S W p R) (hb : Below S W W') : RootsP S W' p R := fun j hj => by
  obtain ⟨b, off, e, hb', h0⟩ := h j hj
  exact ⟨b, off, e, hb', (hb.cell (p := ⟨b, off + j, none⟩) hb').trans h0⟩
theorem RootsP.rd {S : Nat} {W : World} {p : Option Addr} {R : List Int} (h : RootsP S W p R) : Rd0 W p R := fun j hj => by
  obtain ⟨b, off, e, _, h0⟩ := h j hj
  exact ⟨b, off, e, h0⟩
/-- A row beside a heap. -/
structure Kr (W : World) (H : Nat) (d : Ids) (p : Option Addr) (l : List Int) : Prop where
  rd : Rd W p l
  nm : ∀ g, rowB p g → 0 < l.length → ¬ Mine H d g
section
variable {w W W' : World} {H : Nat} {d d' : Ids} {s s' : St} {m m' : Nat} {p : Option Addr} {l : List Int}
theorem Kr.tn (h : Kr W H d p l) (hT : Tn W H d W' d' s' m') : Kr W' H d' p l :=
  ⟨h.rd.kept (fun g hg hl => hT.chg.block g (h.rd.lt hg hl) (h.nm g hg hl)), fun g hg hl e => (hT.grow g e).elim (h.nm g hg hl) (fun e => by have := h.rd.lt hg hl; omega)⟩
theorem Kr.later (h : Kr W H d p l) (hb : Below W.heap.size W W') : Kr W' H d p l := ⟨h.rd.later hb, h.nm⟩
theorem Kr.of_row (hr : Rd W p l) (hg : ∀ g, rowB p g → w.heap.size ≤ g ∧ ¬ Mine H d g) : Kr W H d p l := ⟨hr, fun g h _ => (hg g h).2⟩
theorem Kr.ask (h : Kr W H d p l) (hlv : Lv w W H d s m) (ht : Tabs w) (hz : TzTab w) (hvb : vB ≤ w.heap.size) (hm : m + 40 * (objL s).length < 800000) (hl : l.length ≤ maxLen) : Ask W H d s m p l :=
  hlv.ask ht hz hvb hm h.rd.rd0 (fun g hg h0 => ⟨h.rd.lt hg h0, h.nm g hg h0⟩) hl
theorem RootsP.ask {R : List Int} (h : RootsP w.heap.size w p R) (hlv : Lv w W H d s m) (ht : Tabs w) (hz : TzTab w) (hvb : vB ≤ w.heap.size) (hm : m + 40 * (objL s).length < 800000) (hl : R.length ≤ maxLen) : Ask W H d s m p R :=
  hlv.ask ht hz hvb hm (h.below hlv.bel).rd (fun g hg h0 => by
    obtain ⟨b, off, e, hb, _⟩ := h 0 h0
    rw [e] at hg
    obtain rfl : b = g := by simpa [rowB] using hg
    exact ⟨Nat.lt_of_lt_of_le hb hlv.bel.size, fun e => by have := hlv.new _ e; omega⟩) hl
end

open Classical in
theorem rcL_mem {s : St} {R : List Int} (hw : Wf s) (hk : ∀ j, kAt s.ks j < 4) {x : Int} : x ∈ rcL s R ↔ Rch s R x := by
  unfold rcL
  rw [List.mem_filter, objL_mem hw hk, decide_eq_true_iff]
  exact ⟨fun h => h.2, fun h => ⟨h.born, h⟩⟩
open Classical in
theorem gbL_mem {s : St} {R : List Int} (hw : Wf s) (hk : ∀ j, kAt s.ks j < 4) {x : Int} : x ∈ gbL s R ↔ bnI s x = true ∧ ¬ Rch s R x := by
  unfold gbL
  rw [List.mem_filter, objL_mem hw hk]
  simp
open Classical in
theorem rcL_again {s : St} {R : List Int} (hw : Wf s) (hk : ∀ j, kAt s.ks j < 4) : rcL s (rcL s R) = rcL s R := by
  unfold rcL
  apply List.filter_congr
  intro a _
  have e : Rch s (rcL s R) a ↔ Rch s R a := by
    refine ⟨fun h => h.mono (fun r hr _ => (rcL_mem hw hk).1 hr), fun h => .root ((rcL_mem hw hk).2 h) h.born⟩
  have := propext e
  unfold rcL at this
  rw [this]
open Classical in
theorem parts_len (s : St) (R : List Int) : (rcL s R).length + (gbL s R).length = (objL s).length := filter_parts _ _
open Classical in
theorem rcL_len (s : St) (R : List Int) : (rcL s R).length ≤ (objL s).length := List.length_filter_le _ _

/-- A graph in its box. -/
structure Gb (w W : World) (c : Cfg) (pa : Option Addr) (ca la : Nat) (pf : Option Addr) (cf lf : Nat) : Prop where
  c0 : W.cell? ⟨w.heap.size, 0, none⟩ = some (.int .i64 c.b)
  c1 : W.cell? ⟨w.heap.size, 1, none⟩ = some (.int .i64 c.wd)
  c2 : W.cell? ⟨w.heap.size, 2, none⟩ = some (.int .i64 c.m)
  c3 : W.cell? ⟨w.heap.size, 3, none⟩ = some (.int .i64 c.r)
  c4 : W.cell? ⟨w.heap.size, 4, none⟩ = some (.int .i64 c.ce)
  c5 : W.cell? ⟨w.heap.size, 5, none⟩ = some (.int .i64 c.lg)
  c6 : W.cell? ⟨w.heap.size, 6, none⟩ = some (.int .i64 c.st)
  c7 : W.cell? ⟨w.heap.size, 7, none⟩ = some (.slice pa la ca)
  c8 : W.cell? ⟨w.heap.size, 8, none⟩ = some (.slice pf lf cf)
  sz : w.heap.size < W.heap.size
theorem Gb.start (w : World) (c : Cfg) (pa : Option Addr) (ca la : Nat) (pf : Option Addr) (cf lf : Nat) : Gb w (w.alloc (.cells #[.int .i64 c.b, .int .i64 c.wd, .int .i64 c.m, .int .i64 c.r, .int .i64 c.ce, .int .i64 c.lg, .int .i64 c.st, .slice pa la ca, .slice pf lf cf] 27)) c pa ca la pf cf lf := by
  refine ⟨?_, ?_, ?_, ?_, ?_, ?_, ?_, ?_, ?_, by simp⟩ <;> (rw [World.cell?_alloc_new]; rfl)
theorem Gb.later {w W W' : World} {c : Cfg} {pa : Option Addr} {ca la : Nat} {pf : Option Addr} {cf lf : Nat} (h : Gb w W c pa ca la pf cf lf) (hb : Below W.heap.size W W') : Gb w W' c pa ca la pf cf lf :=
  have f : ∀ o, W'.cell? ⟨w.heap.size, o, none⟩ = W.cell? ⟨w.heap.size, o, none⟩ := fun o => hb.cell (p := ⟨w.heap.size, o, none⟩) h.sz
  ⟨(f 0).trans h.c0, (f 1).trans h.c1, (f 2).trans h.c2, (f 3).trans h.c3, (f 4).trans h.c4, (f 5).trans h.c5, (f 6).trans h.c6, (f 7).trans h.c7, (f 8).trans h.c8, Nat.lt_of_lt_of_le h.sz hb.size⟩

set_option maxRecDepth 100000 in
set_option maxHeartbeats 4000000 in
theorem grows_walk (c : Cfg) (pa : Option Addr) (ca : Nat) (l : List (Nat × Nat × Bool)) (pf : Option Addr) (cf : Nat) (fl : List Nat) (pr : Option Addr) (cr : Nat) (R : List Int) (pm : Option Addr) (cm : Nat) (Mo : List Int) (w : World) (ht : Tabs w) (hz : TzTab w) (hvb : vB ≤ w.heap.size)
    (hl : ThingsP w.heap.size w pa l) (hla : l.length ≤ maxLen) (hf : WordsP w.heap.size w pf fl) (hfl : fl.length ≤ maxLen) (hr : RootsP w.heap.size w pr R) (hrl : R.length ≤ maxLen) (ho : RootsP w.heap.size w pm Mo) (_hol : Mo.length ≤ maxLen) :
    Calls Tryz.prog 6 #[.agg #[.int .i64 c.b, .int .i64 c.wd, .int .i64 c.m, .int .i64 c.r, .int .i64 c.ce, .int .i64 c.lg, .int .i64 c.st, .slice pa l.length ca, .slice pf fl.length cf], .slice pr R.length cr, .slice pm Mo.length cm] w fun e w' => e = .returned (.bool true) ∧ Below w.heap.size w w' := by
  have HT := Lib.hid ht
  have HZ := Lib.hid hz
  have HTH := Lib.hid hl
  have HF := Lib.hid hf
  have HR := Lib.hid hr
  have HO := Lib.hid ho
  obtain ⟨nc, hnc, hnc3⟩ := Sw.little_ce' c
  obtain ⟨n, hn, hn2⟩ := Sw.little_n' c
  have HNC := Lib.hid hnc
  have HN := Lib.hid hn
  have HAW := Lib.hid (fun (W : World) (hb : Below w.heap.size w W) => awake_any W (ht.later hb) (hz.below hb (by unfold vB at hvb; omega)) (Nat.le_trans hvb hb.size))
  clear ht hz hl hf hr ho hnc hn
  go_enter Tryz.func6, Tryz.ntmps6
  go_wp2_with fail
  refine (great_any c pa ca l.length pf cf fl.length pr cr R.length _).mono ?_
  rintro e w1 ⟨rfl, hb1⟩
  have HB1 := Lib.hid (show Below w.heap.size w w1 from ((Below.refl _ _).alloc (Nat.le_refl _) _).trans (hb1.mono (by simp)))
  have HGB := Lib.hid ((Gb.start w c pa ca l.length pf cf fl.length).later hb1)
  clear hb1
  cases hgt : gtB l.length fl.length R.length with
  | true =>
    clear hgt
    go_wp2_with fail
    refine (HAW.out _ HB1.out).mono ?_
    rintro e w2 ⟨rfl, hb2⟩
    have HB2 := Lib.hid (HB1.out.trans (hb2.mono HB1.out.size))
    clear hb2
    go_wp2_with fail
    go_ret
    exact ⟨rfl, HB2.out⟩
  | false =>
    obtain ⟨hl40, hf200, hr40⟩ := gtB_false hgt
    clear hgt
    by_cases hm40 : 40 < Mo.length
    · have hm1 : (40 : Int) < (Mo.length : Int) := by omega
      go_wp2_with fail
      refine (HAW.out _ HB1.out).mono ?_
      rintro e w2 ⟨rfl, hb2⟩
      have HB2 := Lib.hid (HB1.out.trans (hb2.mono HB1.out.size))
      clear hb2
      go_wp2_with fail
      go_ret
      exact ⟨rfl, HB2.out⟩
    · have hm1 : ¬ (40 : Int) < (Mo.length : Int) := by omega
      have hm2 : decide ((40 : Int) < (Mo.length : Int)) = false := by simpa using hm1
      go_wp2_with fail
      refine (HAW.out _ HB1.out).mono ?_
      rintro e w2 ⟨rfl, hb2⟩
      have HB2 := Lib.hid (HB1.out.trans (hb2.mono HB1.out.size))
      obtain ⟨k0, k1, k2, k3, k4, k5, k6, k7, k8, hsz⟩ := HGB.out.later hb2
      clear hb2 HGB
      go_wp2_with fail
      clear k0 k1 k2 k3 k4 k5 k6 k7 k8 hsz
      refine (mk_any w.heap.size c n nc pa ca l pf cf fl w2 (HT.out.later HB2.out) HN.out HNC.out HB2.out.size (HTH.out.below HB2.out) hla (HF.out.below HB2.out) hfl).mono ?_
      rintro e w3 ⟨H, d, m, rfl, hg⟩
      have HL3 := Lib.hid (hg.from HB2.out)
      have hmm := hg.hm
      have hall := hg.all
      clear hg
      generalize sM (little c) n nc l fl = s at *
      go_wp2_with fail
      refine (reach_any pr cr R w3 (HR.out.ask HL3.out HT.out HZ.out hvb (by omega) hrl)).mono ?_
      rintro e w4 ⟨qa, ka, d4, rfl, hrd, hT, hqm⟩
      have HL4 := Lib.hid (HL3.out.tn hT)
      have HA4 := Lib.hid (Kr.of_row hrd hqm)
      clear hrd hT hqm HL3
      have hnl := rcL_len s R
      have HRW := Lib.hid (show ∀ o, Rd0 (w4.alloc o) pr R from fun o => (HR.out.below (HL4.out.bel.alloc HL4.out.bel.size o)).rd)
      have HMW := Lib.hid (show ∀ w5, Below w4.heap.size w4 w5 → Rd0 w5 pm Mo from fun w5 hb => (HO.out.below (HL4.out.bel.trans (hb.mono HL4.out.bel.size))).rd)
      have HOM := Lib.hid (World.ownsRow_made (base := w4.heap.size) (size := 1) (e := 3) w4 #[] 0 (Nat.le_refl _) (Nat.zero_le _) rfl)
      go_wp2_with (first
        | (at_builtin; refine wpList_append_row rfl (.tmp 39) (.tmp 40) rfl w4.heap.size (some ⟨w4.heap.size, 0, none⟩) 0 [] rfl HOM.out pr cr R rfl (HRW.out _) (by simp; omega) (by simp) ?_; intro p5 c5 w5 ho5 hb5; rw [List.nil_append] at ho5 ⊢; have HO5 := Lib.hid ho5; have HB5 := Lib.hid (((Below.refl w4.heap.size w4).alloc (Nat.le_refl _) _).trans hb5); clear ho5 hb5)
        | (at_builtin; refine wpList_append_row rfl (.tmp 41) (.tmp 42) rfl w4.heap.size p5 c5 R rfl HO5.out pm cm Mo rfl (HMW.out _ HB5.out) (by omega) HB5.out.size ?_; intro p6 c6 w6 ho6 hb6; have HO6 := Lib.hid ho6; have HB6 := Lib.hid (HB5.out.trans hb6); clear ho6 hb6 HO5 HB5))
      have HRC := Lib.hid (reach_any p6 c6 (R ++ Mo) w6 (Kr.ask (w := w) (Kr.of_row (w := w4) (Rd.of_owns HO6.out) (fun g hg => ⟨(owns_lt HO6.out hg).1, fun e => by have := HL4.out.is.lt e; have := (owns_lt HO6.out hg).1; omega⟩)) (HL4.out.later HB6.out) HT.out HZ.out hvb (by omega) (by simp [maxLen]; omega)))
      rw [List.length_append] at HRC
      refine HRC.out.mono ?_
      rintro e w7 ⟨qb, kb, d7, rfl, hrd, hT, hqm⟩
      have HL7 := Lib.hid ((HL4.out.later HB6.out).tn hT)
      have HA7 := Lib.hid ((HA4.out.later HB6.out).tn hT)
      have HB7 := Lib.hid (Kr.of_row hrd hqm)
      clear hrd hT hqm HRC HL4 HA4 HO6 HB6 HRW HMW HOM HO
      have HWF := Lib.hid HL7.out.is.wf
      have HK4 := Lib.hid HL7.out.is.tb.kLt
      have hob := pkA_len HWF.out (bnI s)
      have HSUB := Lib.hid (show ∀ i, i < (rcL s R).length → (rcL s R).getD i 0 ∈ rcL s (R ++ Mo) from fun i hi => by
        have h1 : (rcL s R).getD i 0 ∈ rcL s R := by rw [List.getD_eq_getElem?_getD, List.getElem?_eq_getElem hi]; exact List.getElem_mem hi
        exact (rcL_mem HWF.out HK4.out).2 (((rcL_mem HWF.out HK4.out).1 h1).mono (fun r hr hb => .root (List.mem_append_left _ hr) hb)))
      have HOUT := Lib.hid (show ∀ i, i < (gbL s R).length → ¬ (gbL s R).getD i 0 ∈ rcL s R from fun i hi h2 => by
        have h1 : (gbL s R).getD i 0 ∈ gbL s R := by rw [List.getD_eq_getElem?_getD, List.getElem?_eq_getElem hi]; exact List.getElem_mem hi
        exact ((gbL_mem HWF.out HK4.out).1 h1).2 ((rcL_mem HWF.out HK4.out).1 h2))
      have hal : (rcL s R).length ≤ 1000 := by omega
      have hbl : (rcL s (R ++ Mo)).length ≤ 1000 := Nat.le_trans (rcL_len s _) hall
      have hpl := parts_len s R
      have HAG := Lib.hid (rcL_again (R := R) HWF.out HK4.out)
      clear hnl
      go_wp2
      go_loopw [10] (fun x wr => ∃ i : Nat, i ≤ (rcL s R).length ∧ x = .int .i64 (i : Int) ∧ w7 = wr) (fun x _ => (rcL s R).length - (intOf x).toNat)
      case atStart => exact ⟨0, Nat.zero_le _, rfl, rfl⟩
      case round =>
        obtain ⟨i, hi, rfl, rfl⟩ := hrel
        by_cases hlt : i < (rcL s R).length
        · have i0 : (0 : Int) ≤ (i : Int) := Int.natCast_nonneg _
          have i1 : (i : Int) < ((rcL s R).length : Int) := by omega
          obtain ⟨g, off, hp, hc⟩ := HA7.out.rd.at hlt
          have HI := Lib.hid (in_any qb kb (rcL s (R ++ Mo)) ((rcL s R).getD i 0) w7 HB7.out.rd.rd0 (by omega))
          rw [decide_eq_true (HSUB.out i hlt)] at HI
          subst hp
          generalize (rcL s R).getD i 0 = v at *
          go_wp2_with (go_at_call 18; refine HI.out.mono ?_; rintro e w' ⟨rfl, rfl⟩)
          go_roundw
          case rel => exact ⟨i + 1, by omega, by go_num, trivial⟩
          case measure => simp [intOf]; omega
        · have i1 : ¬ (i : Int) < ((rcL s R).length : Int) := by omega
          obtain rfl : i = (rcL s R).length := by omega
          go_wp2_with fail
          refine (garbage_any pr cr R w7 (HR.out.ask HL7.out HT.out HZ.out hvb (by omega) hrl)).mono ?_
          rintro e w8 ⟨qo, ko, d8, rfl, hrd, hT, hqm⟩
          have HL8 := Lib.hid (HL7.out.tn hT)
          have HA8 := Lib.hid (HA7.out.tn hT)
          have HO8 := Lib.hid (Kr.of_row hrd hqm)
          clear hrd hT hqm HL7 HA7 HB7 HSUB
          go_wp2
          go_loopw [12] (fun x wr => ∃ i : Nat, i ≤ (gbL s R).length ∧ x = .int .i64 (i : Int) ∧ w8 = wr) (fun x _ => (gbL s R).length - (intOf x).toNat)
          case atStart => exact ⟨0, Nat.zero_le _, rfl, rfl⟩
          case round =>
            obtain ⟨i, hi, rfl, rfl⟩ := hrel
            by_cases hlt2 : i < (gbL s R).length
            · have i0 : (0 : Int) ≤ (i : Int) := Int.natCast_nonneg _
              have i2 : (i : Int) < ((gbL s R).length : Int) := by omega
              obtain ⟨g, off, hp, hc⟩ := HO8.out.rd.at hlt2
              have HI := Lib.hid (in_any qa ka (rcL s R) ((gbL s R).getD i 0) w8 HA8.out.rd.rd0 (by omega))
              rw [decide_eq_false (HOUT.out i hlt2)] at HI
              subst hp
              generalize (gbL s R).getD i 0 = v at *
              go_wp2_with (go_at_call 18; refine HI.out.mono ?_; rintro e w' ⟨rfl, rfl⟩)
              go_roundw
              case rel => exact ⟨i + 1, by omega, by go_num, trivial⟩
              case measure => simp [intOf]; omega
            · have i2 : ¬ (i : Int) < ((gbL s R).length : Int) := by omega
              obtain rfl : i = (gbL s R).length := by omega
              have HRA := Lib.hid (reach_any qa ka (rcL s R) w8 (HA8.out.ask HL8.out HT.out HZ.out hvb (by omega) (by unfold maxLen; omega)))
              rw [HAG.out] at HRA
              clear HOUT HO8
              go_wp2_with fail
              refine HRA.out.mono ?_
              rintro e w9 ⟨qx, kx, d9, rfl, hrd, hT, hqm⟩
              have HL9 := Lib.hid (HL8.out.tn hT)
              have HS9 := Lib.hid (same_any qx qa kx ka (rcL s R) w9 hrd (HA8.out.tn hT).rd (by omega))
              clear hrd hT hqm HL8 HA8 HRA
              go_wp2_with fail
              refine HS9.out.mono ?_
              rintro e w10 ⟨rfl, q, hq⟩
              have HL10 : Hid (Lv w w10 H d9 s _) := Lib.hid (by rw [hq]; exact HL9.out.later (below_drewN (Below.refl _ _) q))
              clear hq HS9 HL9
              have hsum : ((rcL s R).length : Int) + ((gbL s R).length : Int) = ((objL s).length : Int) := by omega
              go_wp2_with fail
              refine (objects_any w10 HL10.out.is (HL10.out.tabs HT.out)).mono ?_
              rintro e w11 ⟨qz, kz, rfl, _, hb11⟩
              have HB11 := Lib.hid ((HL10.out.later hb11).bel)
              clear hb11 HL10
              go_wp2_with fail
              go_ret
              exact ⟨rfl, HB11.out⟩
end Go.Proofs.YtpcgmkchflmcmaaGreatDoor.Tr
