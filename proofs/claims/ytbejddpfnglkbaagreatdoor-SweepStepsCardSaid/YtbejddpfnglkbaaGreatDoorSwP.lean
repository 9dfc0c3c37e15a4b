/-
  A block, swept slot by slot, while an object is made: what stays.
-/
import Derived.Test.YtbejddpfnglkbaaGreatDoorSwN
namespace Go.Proofs.YtbejddpfnglkbaaGreatDoor.Sw
open Go.RowKit
open Blk (Cfg TbIs kAt seg seg_length perN allP allP_succ allP_len blk adr little little_any little_right)
open Hp (Ids St Wf Is To Mine bnI bn coE coV frE frS colB holdsF own cls fr puS unS mkE mkS mkA st0 objL NewRow mem_allP bnI_nat mkE_parts rmS rmS_rest zr_rest mk2 putS_has mkS_bn mkS_rest)
open Rf (Rp RTo Pu Ri Sl All Bo Lo Keep mkW)
open Go.Proofs.YtbejddpfnglkbaaGreatDoor.Row (Chg Rd Rd0 cell_of_block frozen_of_block other same rowB cellsZ cellsZ_length cellsZ_at cellsZ_snoc owns_lt owns_chg owns_slice owns_base owns_cap owns_block push_row info_parts infoInt one_at)
open Go.Proofs.YtbejddpfnglkbaaGreatDoor.Addr (Tabs)

theorem mkS_os {w : World} {H : Nat} {d : Ids} {s : St} {m : Nat} (h : Is w H d s m) {n c : Int} (he : mkE s n c = 0) (x : Nat) : hasB (mkS s n c).os x = if x = mkA s n then (c == 1) else hasB s.os x := by
  obtain ⟨r1, r2, r3, r4, r5⟩ := rmS_rest s (Class.clsI n).toNat
  obtain ⟨z1, z2, z3, z4, z5, z6, z7⟩ := zr_rest (mk2 s n) (mkA s n) n.toNat
  obtain ⟨_, _, _, b1, b2⟩ := mkS_bn h he
  show hasB (Bits.putS _ _ _ _) x = _
  rw [z5, z7]
  have e1 : (mk2 s n).os = s.os := r5
  have e2 : (mk2 s n).ws.length = s.ws.length := by show ((rmS s (Class.clsI n).toNat).ws.set _ _).length = _; rw [List.length_set]; exact r3
  rw [e1, e2, putS_has h.ones.row (by omega)]
theorem mkS_bnI {w : World} {H : Nat} {d : Ids} {s : St} {m : Nat} (h : Is w H d s m) {n c : Int} (he : mkE s n c = 0) (x : Int) : bnI (mkS s n c) x = if x = (mkA s n : Int) then true else bnI s x := by
  obtain ⟨b0, _⟩ := mkS_bn h he
  by_cases h0 : 0 ≤ x
  · obtain ⟨k, rfl⟩ := Int.eq_ofNat_of_zero_le h0
    rw [bnI_nat, bnI_nat, b0]
    by_cases e : k = mkA s n
    · rw [if_pos e, if_pos (by rw [e])]
    · rw [if_neg e, if_neg (by omega)]
  · unfold bnI
    rw [decide_eq_false h0, if_neg (by omega)]
    simp
/-- What is made has its color; all else stays. -/
theorem mk_co {w : World} {H : Nat} {d : Ids} {s : St} {m : Nat} (h : Is w H d s m) {n c : Int} (he : mkE s n c = 0) (hc : colB c = true) (x : Int) (hx : bnI (mkS s n c) x = true) : coV (mkS s n c) x = if x = (mkA s n : Int) then c else coV s x := by
  have hb := mkS_bnI h he x
  have hc01 : c = 0 ∨ c = 1 := by
    unfold colB at hc
    simpa using hc
  unfold coV
  rw [if_pos hx, mkS_os h he]
  by_cases e : x = (mkA s n : Int)
  · subst e
    rw [Int.toNat_natCast, if_pos rfl, if_pos rfl]
    rcases hc01 with rfl | rfl <;> rfl
  · rw [if_neg e] at hb
    have hs : bnI s x = true := by rw [← hb]; exact hx
    have h0 : 0 ≤ x := by
      unfold bnI at hs
      rw [Bool.and_eq_true] at hs
      exact of_decide_eq_true hs.1
    have hne : ¬ x.toNat = mkA s n := by omega
    rw [if_neg e, if_pos hs, if_neg hne]
theorem mk_sw {w : World} {H : Nat} {d : Ids} {s : St} {m : Nat} (h : Is w H d s m) {n c : Int} (he : mkE s n c = 0) (hc : colB c = true) (x : Int) : swB (mkS s n c) c x = swB s c x := by
  have hb := mkS_bnI h he x
  obtain ⟨_, hb0, _⟩ := mkS_bn h he
  unfold swB
  by_cases e : x = (mkA s n : Int)
  · rw [if_pos e] at hb
    rw [mk_co h he hc x hb, if_pos e, hb, e, bnI_nat, hb0]
    simp
  · rw [if_neg e] at hb
    cases hq : bnI s x with
    | false => rw [hb, hq]; rfl
    | true => rw [hb, mk_co h he hc x (by rw [hb, hq]), if_neg e, hq]

/-- Behind some turns, and what was made between: as at the start, for what has no turn yet. -/
structure Vi (s st : St) (col : Int) (L bl : List Int) : Prop where
  c : st.c = s.c
  ws : st.ws.length = s.ws.length
  same : ∀ x ∈ L, swB st col x = swB s col x
  bo : ∀ x ∈ bl, bnI st x = true ∧ coV st x = col
theorem Vi.start (s : St) (col : Int) (L : List Int) : Vi s s col L [] := ⟨rfl, rfl, fun _ _ => rfl, fun _ h => by cases h⟩
theorem Vi.turn {s st : St} {col a : Int} {t bl : List Int} (h : Vi s st col (a :: t) bl) (hw : Wp st) (hn : (a :: t).Nodup) : Vi s (swT st col a) col t bl := by
  rw [List.nodup_cons] at hn
  refine ⟨(swS_c st col [a]).trans h.c, ?_, fun x hx => (swB_other hw col a x (fun e => hn.1 (e ▸ hx))).trans (h.same x (List.mem_cons_of_mem _ hx)), fun x hx => ?_⟩
  · unfold swT
    split
    · exact (frS_keep st _).2.2.trans h.ws
    · exact h.ws
  · obtain ⟨h1, h2⟩ := h.bo x hx
    have h3 : bnI (swT st col a) x = true := swS_stays hw col [a] x h1 h2
    exact ⟨h3, (coV_of h1 h3 (swT_os st col a)).trans h2⟩
theorem Vi.make {s st : St} {col : Int} {L bl : List Int} (h : Vi s st col L bl) {w : World} {H : Nat} {d : Ids} {m : Nat} (hI : Is w H d st m) {n : Int} (he : mkE st n col = 0) (hc : colB col = true) : Vi s (mkS st n col) col L (bl ++ [mkW st n col]) := by
  obtain ⟨h1, h2, h3⟩ := mkS_rest st n col
  refine ⟨h1.trans h.c, h3.trans h.ws, fun x hx => (mk_sw hI he hc x).trans (h.same x hx), fun x hx => ?_⟩
  rcases List.mem_append.1 hx with hx | hx
  · obtain ⟨b1, b2⟩ := h.bo x hx
    have hb : bnI (mkS st n col) x = true := by rw [mkS_bnI hI he, b1]; simp
    refine ⟨hb, ?_⟩
    rw [mk_co hI he hc x hb, b2]
    simp
  · have e : x = (mkA st n : Int) := by
      have := List.mem_singleton.1 hx
      rw [this]; unfold mkW; rw [if_pos he]
    have hb : bnI (mkS st n col) x = true := by rw [mkS_bnI hI he, if_pos e]
    exact ⟨hb, by rw [mk_co hI he hc x hb, if_pos e]⟩
theorem wp_of {w : World} {H : Nat} {d : Ids} {s : St} {m : Nat} (h : Is w H d s m) (hm : m ≤ 1000000) (hs : s.ws.length ≤ 500000) : Wp s := ⟨h.wf, Rf.pu_of h hm, fun j => h.tb.kLt j, hs⟩

theorem Lw.own {w wr w' : World} {H M base m m' C : Nat} {d d' : Ids} {i : Ri} {s s' r : St} {b col : Int} {p : Option Addr} {cap : Nat} {L : List Int} (h : Lw w wr H M base d i s r m) (h2 : Hc wr H d C w' d' s' m' b col p cap L) (hC : w.heap.size ≤ C ∧ ¬ All M i C) : Lw w w' H M base d' i s' r m' := by
  have hs := h.bel.size
  exact ⟨⟨h2.is, h.bo.rp.chg h2.chg (fun k e e2 => e2.elim (fun x => h.bo.ap k x e) (fun x => hC.2 (x ▸ e))), fun k e e2 => (h2.inD k e).elim (fun x => h.bo.ap k x e2) (fun x => by have := h.bo.rp.mem.ltA e2; omega), h2.tb, h.bo.hi, Chg.refl _ _, fun _ e => .inl e, fun _ e => .inl e⟩,
    h.bel.trans (h2.chg.below (fun k e => e.elim (h.g1 k) (fun x => x ▸ hC.1)) hs), fun k e => (h2.inD k e).elim (h.g1 k) (fun x => by omega), h.g2⟩

/-- Two heaps, a cursor on the first, the rows of what was freed and of what was made. -/
structure Lp (w W0 wr : World) (H M base C : Nat) (i : Ri) (d : Ids) (s st : St) (m : Nat) (b col : Int) (p : Option Addr) (cap : Nat) (L fl : List Int) (po : Option Addr) (co : Nat) (bl : List Int) (pb : Option Addr) (cb : Nat) : Prop where
  lw : Lw w wr H M base d i st s m
  hc : Hc wr H d C wr d st m b col p cap L
  lC : C < W0.heap.size ∧ ∀ g, rowB p g → g < W0.heap.size
  wC : w.heap.size ≤ C ∧ ¬ All M i C
  ow : wr.ownsRow W0.heap.size 3 1 (.slice po fl.length co) fl.length (cellsZ fl)
  ob : wr.ownsRow W0.heap.size 3 1 (.slice pb bl.length cb) bl.length (cellsZ bl)
  af : ∀ g, rowB po g → ¬ Mine H d g ∧ ¬ rowB pb g
  ab : ∀ g, rowB pb g → ¬ Mine H d g
  iA : ∀ k, All M i k → k < W0.heap.size
  hw : w.heap.size ≤ W0.heap.size
  hl : 1 < w.heap.size ∧ 0 < w.heap.size
  sz : W0.heap.size ≤ wr.heap.size
section
variable {w W0 wr w' : World} {H M base C m m' : Nat} {i : Ri} {d d' : Ids} {s st st' : St} {b col : Int} {p p' : Option Addr} {cap cap' : Nat} {L L' fl : List Int} {po po' : Option Addr} {co co' : Nat} {bl : List Int} {pb pb' : Option Addr} {cb cb' : Nat}
theorem Lp.step (h : Lp w W0 wr H M base C i d s st m b col p cap L fl po co bl pb cb) (h2 : Hc wr H d C w' d' st' m' b col p' cap' L') (hp : ∀ g, rowB p' g → rowB p g) : Lp w W0 w' H M base C i d' s st' m' b col p' cap' L' fl po co bl pb cb := by
  have no : ∀ {g q : Nat}, W0.heap.size ≤ g → q < W0.heap.size → ¬ g = q := fun h1 h2 e => by omega
  exact ⟨h.lw.own h2 h.wC, h2.self, ⟨h.lC.1, fun g hg => h.lC.2 g (hp g hg)⟩, h.wC,
    owns_chg h.ow h2.chg (fun g hg e => e.elim (h.af g hg).1 (no (owns_lt h.ow hg).1 h.lC.1)), owns_chg h.ob h2.chg (fun g hg e => e.elim (h.ab g hg) (no (owns_lt h.ob hg).1 h.lC.1)),
    fun g hg => ⟨fun e => (h2.inD g e).elim (h.af g hg).1 (fun x => by have := (owns_lt h.ow hg).2; omega), (h.af g hg).2⟩, fun g hg e => (h2.inD g e).elim (h.ab g hg) (fun x => by have := (owns_lt h.ob hg).2; omega), h.iA, h.hw, h.hl, Nat.le_trans h.sz h2.chg.size⟩
theorem Lp.heap (h : Lp w W0 wr H M base C i d s st m b col p cap L fl po co bl pb cb) (hT : To wr w' H d st' m') : ∃ d', Lp w W0 w' H M base C i d' s st' m' b col p cap L fl po co bl pb cb := by
  obtain ⟨d', h2⟩ := h.hc.heap hT
  exact ⟨d', h.step h2 (fun _ e => e)⟩
theorem Lp.later (h : Lp w W0 wr H M base C i d s st m b col p cap L fl po co bl pb cb) (hb : Below wr.heap.size wr w') : Lp w W0 w' H M base C i d s st m b col p cap L fl po co bl pb cb :=
  h.step (h.hc.later hb) (fun _ e => e)
theorem Lp.hcB {S : Nat → Prop} (h : Lp w W0 wr H M base C i d s st m b col p cap L fl po co bl pb cb) (hc : Chg S wr w') (hS : ∀ g, S g → ¬ Mine H d g ∧ W0.heap.size ≤ g) : Lw w w' H M base d i st s m ∧ Hc w' H d C w' d st m b col p cap L :=
  ⟨h.lw.blocks hc (fun g hg => ⟨(hS g hg).1, fun e => by have := h.iA g e; have := (hS g hg).2; omega, by have := h.hw; have := (hS g hg).2; omega⟩) h.hl,
    ⟨h.hc.is.chg hc (fun k e e2 => (hS k e2).1 e), (h.lw.blocks hc (fun g hg => ⟨(hS g hg).1, fun e => by have := h.iA g e; have := (hS g hg).2; omega, by have := h.hw; have := (hS g hg).2; omega⟩) h.hl).bo.tb,
      h.hc.cu.chg hc (fun e => by have := (hS C e).2; have := h.lC.1; omega) (fun g hg e => by have := (hS g e).2; have := h.lC.2 g hg; omega), h.hc.nC, h.hc.nR, h.hc.hi, Chg.refl _ _, fun _ e => .inl e⟩⟩
theorem Lp.pushF {fl' : List Int} (h : Lp w W0 wr H M base C i d s st m b col p cap L fl po co bl pb cb) (hc : Chg (rowB po) wr w') (ho : w'.ownsRow W0.heap.size 3 1 (.slice po' fl'.length co') fl'.length (cellsZ fl')) (hR : ∀ g, rowB po' g → rowB po g ∨ wr.heap.size ≤ g) :
    Lp w W0 w' H M base C i d s st m b col p cap L fl' po' co' bl pb cb := by
  obtain ⟨h1, h2⟩ := h.hcB hc (fun g hg => ⟨(h.af g hg).1, (owns_lt h.ow hg).1⟩)
  exact ⟨h1, h2, h.lC, h.wC, ho, owns_chg h.ob hc (fun g hg e => (h.af g e).2 hg), fun g hg => (hR g hg).elim (h.af g) (fun x => ⟨fun e => by have := h.hc.is.lt e; omega, fun e => by have := (owns_lt h.ob e).2; omega⟩), h.ab, h.iA, h.hw, h.hl, Nat.le_trans h.sz hc.size⟩
theorem Lp.pushB {bl' : List Int} (h : Lp w W0 wr H M base C i d s st m b col p cap L fl po co bl pb cb) (hc : Chg (rowB pb) wr w') (ho : w'.ownsRow W0.heap.size 3 1 (.slice pb' bl'.length cb') bl'.length (cellsZ bl')) (hR : ∀ g, rowB pb' g → rowB pb g ∨ wr.heap.size ≤ g) :
    Lp w W0 w' H M base C i d s st m b col p cap L fl po co bl' pb' cb' := by
  obtain ⟨h1, h2⟩ := h.hcB hc (fun g hg => ⟨h.ab g hg, (owns_lt h.ob hg).1⟩)
  exact ⟨h1, h2, h.lC, h.wC, owns_chg h.ow hc (fun g hg e => (h.af g hg).2 e), ho, fun g hg => ⟨(h.af g hg).1, fun e => (hR g e).elim (h.af g hg).2 (fun x => by have := (owns_lt h.ow hg).2; omega)⟩,
    fun g hg => (hR g hg).elim (h.ab g) (fun x e => by have := h.hc.is.lt e; omega), h.iA, h.hw, h.hl, Nat.le_trans h.sz hc.size⟩
end
end Go.Proofs.YtbejddpfnglkbaaGreatDoor.Sw
