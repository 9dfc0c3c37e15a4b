/-
  What is reached: the search; Reach, Garbage, Reaches.
-/
import Derived.Test.YtpcgmkchflmcmaaGreatDoorTrQ1
import Derived.Maps.AppendAt
import Derived.Deep.LoopGhost
import Derived.Lib.SliceRun
import Derived.Test.YtpcgmkchflmcmaaGreatDoorRfY
namespace Go.Proofs.YtpcgmkchflmcmaaGreatDoor.Tr
open Go.RowKit
open Blk (Cfg allP kAt)
open Hp (Ids St Wf bn bnI bnI_nat fN objL mem_allP pkA_eq pkA_sorted)

/-- What is reached from some roots. -/
inductive Rch (s : St) (R : List Int) : Int → Prop
  | root {r : Int} : r ∈ R → bnI s r = true → Rch s R r
  | step {a v : Int} : Rch s R a → v ∈ fs s a → bnI s v = true → Rch s R v
theorem Rch.born {s : St} {R : List Int} {a : Int} (h : Rch s R a) : bnI s a = true := by cases h <;> assumption
theorem Rch.mono {s : St} {R R' : List Int} (hR : ∀ r ∈ R, bnI s r = true → Rch s R' r) {a : Int} (h : Rch s R a) : Rch s R' a := by
  induction h with
  | root h1 h2 => exact hR _ h1 h2
  | step _ h2 h3 ih => exact .step ih h2 h3

/-- A set's number. -/
def hasI (F : List Nat) (v : Int) : Bool := hasB F v.toNat
/-- One number is met. -/
def stp (s : St) (q : List Nat × List Int) (v : Int) : List Nat × List Int := if bnI s v = true ∧ hasI q.1 v = false then (putW q.1 v.toNat, q.2 ++ [v]) else q
def mts (s : St) (q : List Nat × List Int) (l : List Int) : List Nat × List Int := l.foldl (stp s) q
theorem mts_snoc (s : St) (q : List Nat × List Int) (l : List Int) (v : Int) : mts s q (l ++ [v]) = stp s (mts s q l) v := by simp [mts]
theorem mts_nil (s : St) (q : List Nat × List Int) : mts s q [] = q := rfl

theorem bnI_pos {s : St} {v : Int} (h : bnI s v = true) : 0 ≤ v ∧ bn s v.toNat = true := by
  unfold bnI at h
  rw [Bool.and_eq_true, decide_eq_true_iff] at h
  exact h
theorem bnI_lt {s : St} (hw : Wf s) {v : Int} (h : bnI s v = true) : v.toNat < s.ws.length + 1 := by
  have := (hw.bn_bd (bnI_pos h).2).2
  omega

/-- What holds of a set and what is open, at any time. -/
structure Sq (s : St) (q : List Nat × List Int) : Prop where
  set : SetW (s.ws.length + 1) q.1
  op : ∀ v ∈ q.2, bnI s v = true ∧ hasI q.1 v = true
theorem Sq.has {s : St} {q : List Nat × List Int} (h : Sq s q) (hw : Wf s) {v : Int} (hv : bnI s v = true) (hn : hasI q.1 v = false) (u : Int) (hu : 0 ≤ u) : hasI (putW q.1 v.toNat) u = if u = v then true else hasI q.1 u := by
  unfold hasI at *
  rw [h.set.has_put (bnI_lt hw hv)]
  have := (bnI_pos hv).1
  by_cases e : u = v
  · rw [if_pos e, if_pos (by rw [e]), hn]; rfl
  · rw [if_neg e, if_neg (by omega)]
theorem Sq.stp {s : St} {q : List Nat × List Int} (h : Sq s q) (hw : Wf s) (v : Int) : Sq s (stp s q v) := by
  unfold Tr.stp
  split
  · rename_i hc
    refine ⟨h.set.put (bnI_lt hw hc.1), fun u hu => ?_⟩
    rcases List.mem_append.1 hu with hu | hu
    · obtain ⟨a, b⟩ := h.op u hu
      exact ⟨a, by rw [h.has hw hc.1 hc.2 u (bnI_pos a).1, b]; split <;> rfl⟩
    · rw [List.mem_singleton.1 hu]
      exact ⟨hc.1, by rw [h.has hw hc.1 hc.2 v (bnI_pos hc.1).1, if_pos rfl]⟩
  · exact h
theorem Sq.mts {s : St} (hw : Wf s) : ∀ (l : List Int) {q : List Nat × List Int}, Sq s q → Sq s (mts s q l)
  | [], _, h => h
  | v :: l, _, h => Sq.mts hw l (h.stp hw v)

/-- How many objects the set hasn't. -/
def un (s : St) (F : List Nat) : Nat := ((objL s).filter fun a => !hasI F a).length
theorem filter_one : ∀ (l : List Int) (p : Int → Bool) (v : Int), l.Nodup → v ∈ l → p v = true → (l.filter fun a => p a && !(a == v)).length + 1 = (l.filter p).length
  | [], _, _, _, h, _ => by cases h
  | a :: l, p, v, hn, hm, hp => by
    rw [List.nodup_cons] at hn
    by_cases e : a = v
    · subst e
      have e2 : (l.filter fun b => p b && !(b == a)) = l.filter p := by
        apply List.filter_congr
        intro b hb
        have : b ≠ a := fun e => hn.1 (e ▸ hb)
        simp [this]
      rw [List.filter_cons, List.filter_cons, if_pos hp, if_neg (by simp), e2]
      rfl
    · have ih := filter_one l p v hn.2 ((List.mem_cons.1 hm).resolve_left (Ne.symm e)) hp
      have e2 : (a == v) = false := by simpa using e
      rw [List.filter_cons, List.filter_cons]
      simp only [e2, Bool.not_false, Bool.and_true]
      by_cases h : p a = true
      · rw [if_pos h, if_pos h]
        simp only [List.length_cons]
        omega
      · rw [if_neg h, if_neg h]
        exact ih
theorem objL_mem {s : St} (hw : Wf s) (hk : ∀ j, kAt s.ks j < 4) {x : Int} : x ∈ objL s ↔ bnI s x = true := by
  unfold objL
  rw [pkA_eq, List.mem_filter, mem_allP hw hk]
  exact ⟨fun h => h.2, fun h => ⟨hw.bnI_own h, h⟩⟩
theorem objL_nodup {s : St} (hw : Wf s) (hk : ∀ j, kAt s.ks j < 4) : (objL s).Nodup := (pkA_sorted hw hk _).imp (fun h => by omega)
theorem un_stp {s : St} {q : List Nat × List Int} (h : Sq s q) (hw : Wf s) (hk : ∀ j, kAt s.ks j < 4) (v : Int) : un s (stp s q v).1 + (stp s q v).2.length = un s q.1 + q.2.length := by
  unfold Tr.stp
  split
  · rename_i hc
    have e : un s (putW q.1 v.toNat) + 1 = un s q.1 := by
      unfold un
      rw [← filter_one (objL s) (fun a => !hasI q.1 a) v (objL_nodup hw hk) ((objL_mem hw hk).2 hc.1) (by rw [hc.2]; rfl)]
      congr 2
      apply List.filter_congr
      intro b hb
      rw [h.has hw hc.1 hc.2 b (bnI_pos ((objL_mem hw hk).1 hb)).1]
      by_cases e : b = v
      · simp [e]
      · simp [e]
    simp only [List.length_append, List.length_singleton]
    omega
  · rfl
theorem un_mts {s : St} (hw : Wf s) (hk : ∀ j, kAt s.ks j < 4) : ∀ (l : List Int) {q : List Nat × List Int}, Sq s q → un s (mts s q l).1 + (mts s q l).2.length = un s q.1 + q.2.length
  | [], _, _ => rfl
  | v :: l, _, h => (un_mts hw hk l (h.stp hw v)).trans (un_stp h hw hk v)

theorem stp_mono {s : St} {q : List Nat × List Int} (h : Sq s q) (hw : Wf s) (v u : Int) (hu : 0 ≤ u) (hh : hasI q.1 u = true) : hasI (stp s q v).1 u = true := by
  unfold Tr.stp
  split
  · rename_i hc
    rw [h.has hw hc.1 hc.2 u hu, hh]; split <;> rfl
  · exact hh
theorem mts_mono {s : St} (hw : Wf s) : ∀ (l : List Int) {q : List Nat × List Int}, Sq s q → ∀ u, 0 ≤ u → hasI q.1 u = true → hasI (mts s q l).1 u = true
  | [], _, _, _, _, h => h
  | v :: l, _, h, u, hu, hh => mts_mono hw l (h.stp hw v) u hu (stp_mono h hw v u hu hh)
theorem stp_has {s : St} {q : List Nat × List Int} (h : Sq s q) (hw : Wf s) (v : Int) (hv : bnI s v = true) : hasI (stp s q v).1 v = true := by
  unfold Tr.stp
  split
  · rename_i hc
    rw [h.has hw hc.1 hc.2 v (bnI_pos hv).1, if_pos rfl]
  · rename_i hc
    cases e : hasI q.1 v with
    | true => rfl
    | false => exact absurd ⟨hv, e⟩ hc
theorem mts_has {s : St} (hw : Wf s) : ∀ (l : List Int) {q : List Nat × List Int}, Sq s q → ∀ v ∈ l, bnI s v = true → hasI (mts s q l).1 v = true
  | [], _, _, _, hm, _ => by cases hm
  | a :: l, q, h, v, hm, hv => by
    rcases List.mem_cons.1 hm with e | e
    · subst e
      exact mts_mono hw l (h.stp hw v) v (bnI_pos hv).1 (stp_has h hw v hv)
    · exact mts_has hw l (h.stp hw a) v e hv
theorem stp_from {s : St} {q : List Nat × List Int} (h : Sq s q) (hw : Wf s) (v u : Int) (hu : 0 ≤ u) (hh : hasI (stp s q v).1 u = true) : hasI q.1 u = true ∨ u = v ∧ bnI s u = true ∧ u ∈ (stp s q v).2 := by
  unfold Tr.stp at *
  split at hh
  · rename_i hc
    rw [h.has hw hc.1 hc.2 u hu] at hh
    by_cases e : u = v
    · right
      rw [if_pos hc]
      exact ⟨e, e ▸ hc.1, by rw [e]; simp⟩
    · rw [if_neg e] at hh
      exact .inl hh
  · exact .inl hh
theorem stp_open {s : St} {q : List Nat × List Int} (v u : Int) (hu : u ∈ q.2) : u ∈ (stp s q v).2 := by
  unfold Tr.stp
  split
  · exact List.mem_append_left _ hu
  · exact hu
theorem mts_open {s : St} : ∀ (l : List Int) {q : List Nat × List Int} (u : Int), u ∈ q.2 → u ∈ (mts s q l).2
  | [], _, _, h => h
  | v :: l, _, u, h => mts_open l u (stp_open v u h)
theorem mts_from {s : St} (hw : Wf s) : ∀ (l : List Int) {q : List Nat × List Int}, Sq s q → ∀ u, 0 ≤ u → hasI (mts s q l).1 u = true → hasI q.1 u = true ∨ u ∈ l ∧ bnI s u = true ∧ u ∈ (mts s q l).2
  | [], _, _, _, _, h => .inl h
  | v :: l, q, h, u, hu, hh => by
    rcases mts_from hw l (h.stp hw v) u hu hh with e | ⟨e1, e2, e3⟩
    · rcases stp_from h hw v u hu e with e | ⟨e1, e2, e3⟩
      · exact .inl e
      · exact .inr ⟨by rw [e1]; simp, e2, mts_open l u e3⟩
    · exact .inr ⟨List.mem_cons_of_mem _ e1, e2, e3⟩

/-- A search under way: what it has found is reached; what isn't open any more has been looked at. -/
structure Sch (s : St) (R : List Int) (q : List Nat × List Int) : Prop where
  sq : Sq s q
  born : ∀ u, 0 ≤ u → hasI q.1 u = true → bnI s u = true ∧ Rch s R u
  done : ∀ u, 0 ≤ u → hasI q.1 u = true → u ∈ q.2 ∨ ∀ v ∈ fs s u, bnI s v = true → hasI q.1 v = true
theorem Sch.start (s : St) (R : List Int) : Sch s R (List.replicate ((s.ws.length + 1 + 63) / 64) 0, []) :=
  ⟨⟨setW_zero _, fun v hv => (by cases hv)⟩, fun u _ h => (by unfold hasI at h; rw [hasB_zero] at h; cases h), fun u _ h => (by unfold hasI at h; rw [hasB_zero] at h; cases h)⟩
/-- Roots are met. -/
theorem Sch.roots {s : St} {R : List Int} {q : List Nat × List Int} (h : Sch s R q) (hw : Wf s) {l : List Int} (hl : ∀ r ∈ l, r ∈ R) : Sch s R (mts s q l) := by
  refine ⟨Sq.mts hw l h.sq, fun u hu hh => ?_, fun u hu hh => ?_⟩
  · rcases mts_from hw l h.sq u hu hh with e | ⟨e1, e2, e3⟩
    · exact h.born u hu e
    · exact ⟨e2, .root (hl u e1) e2⟩
  · rcases mts_from hw l h.sq u hu hh with e | ⟨e1, e2, e3⟩
    · rcases h.done u hu e with e | e
      · exact .inl (mts_open l u e)
      · exact .inr fun v hv hb => mts_mono hw l h.sq v (bnI_pos hb).1 (e v hv hb)
    · exact .inl e3
/-- The last one that is open is looked at. -/
theorem Sch.look {s : St} {R : List Int} {F : List Nat} {ol : List Int} {a : Int} (h : Sch s R (F, ol ++ [a])) (hw : Wf s) : Sch s R (mts s (F, ol) ((fs s a).filter fun v => !(v == 0))) := by
  have hq : Sq s (F, ol) := ⟨h.sq.set, fun v hv => h.sq.op v (List.mem_append_left _ hv)⟩
  obtain ⟨ha, hFa⟩ := h.sq.op a (by simp)
  refine ⟨Sq.mts hw _ hq, fun u hu hh => ?_, fun u hu hh => ?_⟩
  · rcases mts_from hw _ hq u hu hh with e | ⟨e1, e2, e3⟩
    · exact h.born u hu e
    · exact ⟨e2, .step (h.born a (bnI_pos ha).1 hFa).2 (List.mem_filter.1 e1).1 e2⟩
  · rcases mts_from hw _ hq u hu hh with e | ⟨e1, e2, e3⟩
    · by_cases hua : u = a
      · refine .inr fun v hv hb => mts_has hw _ hq v (List.mem_filter.2 ⟨hua ▸ hv, ?_⟩) hb
        have := (hw.bn_bd (bnI_pos hb).2).1
        have := (bnI_pos hb).1
        simp; omega
      · rcases h.done u hu e with e2 | e2
        · left
          rcases List.mem_append.1 e2 with e3 | e3
          · exact mts_open _ u e3
          · exact absurd (List.mem_singleton.1 e3) hua
        · exact .inr fun v hv hb => mts_mono hw _ hq v (bnI_pos hb).1 (e2 v hv hb)
    · exact .inl e3
/-- At the end just what is reached is found. -/
theorem Sch.fin {s : St} {R : List Int} {F : List Nat} (h : Sch s R (F, [])) (hr : ∀ r ∈ R, bnI s r = true → hasI F r = true) (u : Int) (hu : 0 ≤ u) : hasI F u = true ↔ Rch s R u := by
  refine ⟨fun hh => (h.born u hu hh).2, fun hh => ?_⟩
  clear hu
  induction hh with
  | root h1 h2 => exact hr _ h1 h2
  | step h1 h2 h3 ih =>
    rcases h.done _ (bnI_pos h1.born).1 ih with e | e
    · cases e
    · exact e _ h2 h3
open Classical in
/-- What is reached, rising. -/
noncomputable def rcL (s : St) (R : List Int) : List Int := (objL s).filter fun a => decide (Rch s R a)
open Classical in
noncomputable def gbL (s : St) (R : List Int) : List Int := (objL s).filter fun a => !decide (Rch s R a)
end Go.Proofs.YtpcgmkchflmcmaaGreatDoor.Tr

namespace Go.Proofs.YtpcgmkchflmcmaaGreatDoor.Tr
open Go.RowKit Go.Shelf
open Class (below_drewN)
open Blk (Cfg allP kAt)
open Bits (SetIs)
open Hp (isO_any Ids St Wf Is To Mine bn bnI bnI_nat fN fE lE lV objL not_mine two_new config_any)
open Go.Proofs.YtpcgmkchflmcmaaGreatDoor.Row (Chg Rd Rd0 rowB rowB_none cell_of_block frozen_of_block other same cellsZ cellsZ_length cellsZ_at cellsZ_snoc info_parts infoInt one_at push_row owns_block owns_chg owns_lt owns_less owns_cell owns_cap owns_some)
open Go.Proofs.YtpcgmkchflmcmaaGreatDoor.Addr (Tabs)

/-- The five blocks of a search beside its row. -/
structure Fv where
  Bh : Nat
  Bf : Nat
  Bo : Nat
  B : Nat
  G : Nat
def Fv.l (f : Fv) : List Nat := [f.Bh, f.Bf, f.Bo, f.B, f.G]
def Fv.mem (f : Fv) (k : Nat) : Prop := k = f.Bh ∨ k = f.Bf ∨ k = f.Bo ∨ k = f.B ∨ k = f.G
/-- Its blocks. -/
def OwR (H : Nat) (d : Ids) (f : Fv) (po : Option Addr) (k : Nat) : Prop := Mine H d k ∨ f.mem k ∨ rowB po k
/-- All variables that the program reads lie below this. -/
def vB : Nat := max (max 1 2) 0 + 1
theorem tabs_vb {X Y : World} (h : Tabs X) (hb : Below vB X Y) : Tabs Y := h.below hb (by unfold vB; omega) (by unfold vB; omega)
theorem tz_vb {X Y : World} (h : Bits.TzTab X) (hb : Below vB X Y) : Bits.TzTab Y := h.below hb (by unfold vB; omega)
/-- A search in memory: the set, what is open. -/
structure Rq (X : World) (H : Nat) (d : Ids) (s : St) (m : Nat) (f : Fv) (cap base : Nat) (po : Option Addr) (co : Nat) (q : List Nat × List Int) : Prop where
  is : Is X H d s m
  tabs : Tabs X
  set : SetIs X f.B f.G (s.ws.length + 1) cap q.1
  cH : Boxed X f.Bh 32 (.pointer (some ⟨H, 0, none⟩))
  cF : Boxed X f.Bf 69 (.pointer (some ⟨f.B, 0, none⟩))
  cO : Boxed X f.Bo 28 (.slice po q.2.length co)
  own : X.ownsRow base 3 1 (.slice po q.2.length co) q.2.length (cellsZ q.2)
  nd : f.l.Nodup
  ap : ∀ k, f.mem k → ¬ Mine H d k
  apR : ∀ g, rowB po g → ¬ Mine H d g ∧ ¬ f.mem g
  ltB : f.B < X.heap.size
  ltG : f.G < X.heap.size
  bs : base ≤ X.heap.size
  hi : ∀ k, OwR H d f po k → vB ≤ k

section
variable {X Y : World} {H : Nat} {d d' : Ids} {s : St} {m m' : Nat} {f : Fv} {cap base : Nat} {po : Option Addr} {co : Nat} {q : List Nat × List Int}
theorem Rq.lt (h : Rq X H d s m f cap base po co q) {k : Nat} (hk : OwR H d f po k) : k < X.heap.size := by
  have h1 := h.cH.lt
  have h2 := h.cF.lt
  have h3 := h.cO.lt
  have h4 := h.ltB
  have h5 := h.ltG
  rcases hk with e | e | e
  · exact h.is.lt e
  · unfold Fv.mem at e; omega
  · exact (owns_lt h.own e).2
/-- What leaves its blocks leaves it. -/
theorem Rq.kept (h : Rq X H d s m f cap base po co q) (hb : Below vB X Y) (hk : ∀ k, OwR H d f po k → Y.heap[k]? = X.heap[k]?) : Rq Y H d s m f cap base po co q :=
  have hs := hb.size
  ⟨h.is.kept (fun k e => hk k (.inl e)) hs, tabs_vb h.tabs hb, h.set.kept' (hk _ (.inr (.inl (.inr (.inr (.inr (.inl rfl))))))) (hk _ (.inr (.inl (.inr (.inr (.inr (.inr rfl))))))),
    (hk _ (.inr (.inl (.inl rfl)))).trans h.cH, (hk _ (.inr (.inl (.inr (.inl rfl))))).trans h.cF, (hk _ (.inr (.inl (.inr (.inr (.inl rfl)))))).trans h.cO, owns_block h.own (fun g hg => hk g (.inr (.inr hg))), h.nd, h.ap, h.apR, Nat.lt_of_lt_of_le h.ltB hs, Nat.lt_of_lt_of_le h.ltG hs, Nat.le_trans h.bs hs, h.hi⟩
theorem Rq.vb (h : Rq X H d s m f cap base po co q) : vB ≤ X.heap.size := by
  have h1 := h.hi f.G (.inr (.inl (.inr (.inr (.inr (.inr rfl))))))
  have h2 := h.ltG
  omega
theorem Rq.later (h : Rq X H d s m f cap base po co q) (hb : Below X.heap.size X Y) : Rq Y H d s m f cap base po co q := h.kept (hb.mono h.vb) (fun k hk => hb.block k (h.lt hk))
theorem Rq.drewN (h : Rq X H d s m f cap base po co q) (n : Nat) : Rq (X.drewN n) H d s m f cap base po co q := h.later (below_drewN (Below.refl _ _) n)
theorem Rq.nm (h : Rq X H d s m f cap base po co q) {k : Nat} (hk : f.mem k) : ¬ rowB po k := fun e => (h.apR k e).2 hk
/-- One number laid into the set. -/
theorem Rq.put (h : Rq X H d s m f cap base po co q) {F : List Nat} (hs : SetIs Y f.B f.G (s.ws.length + 1) cap F) (hg : X.grownBy Y (some f.G)) (hz : Y.heap.size = X.heap.size) : Rq Y H d s m f cap base po co (F, q.2) ∧ Chg (fun k => k = f.G) X Y := by
  have hk : ∀ k, k < X.heap.size → k ≠ f.G → Y.heap[k]? = X.heap[k]? := fun k h1 h2 => hg.block k h1 (fun e => h2 (Option.some.inj e))
  have hn := h.nd
  simp only [Fv.l, List.nodup_cons, List.mem_cons, List.not_mem_nil, or_false, not_or] at hn
  have hG : f.mem f.G := .inr (.inr (.inr (.inr rfl)))
  have hC : Chg (fun k => k = f.G) X Y := ⟨hg.os, hg.tape, hg.output, by omega, fun k h1 h2 => hk k h1 h2⟩
  refine ⟨⟨h.is.chg hC (fun k e e2 => h.ap _ hG (e2 ▸ e)), tabs_vb h.tabs (hC.below (fun k e => by rw [e]; exact h.hi _ (.inr (.inl hG))) h.vb), hs, (hk _ h.cH.lt (by omega)).trans h.cH, (hk _ h.cF.lt (by omega)).trans h.cF, (hk _ h.cO.lt (by omega)).trans h.cO, owns_chg h.own hC (fun g hg e => h.nm hG (e ▸ hg)), h.nd, h.ap, h.apR, by have := h.ltB; omega, by have := h.ltG; omega, by have := h.bs; omega, h.hi⟩, hC⟩
/-- One number more is open. -/
theorem Rq.push {Y0 w3 : World} {v' : Value} {v : Int} (h : Rq X H d s m f cap base po co q) (hb : Below X.heap.size X Y0)
    (hown : w3.ownsRow base 3 1 v' (q.2.length + 1) (cellsZ q.2 ++ [.int .i64 v])) (hg : Y0.grownBy w3 (Value.slice po q.2.length co).ownBlock)
    (hat : v'.ownBlock = (Value.slice po q.2.length co).ownBlock ∨ v'.ownBlock = some Y0.heap.size) :
    ∃ po' co', v' = .slice po' (q.2.length + 1) co' ∧ Rq (w3.setCell ⟨f.Bo, 0, none⟩ v') H d s m f cap base po' co' (q.1, q.2 ++ [v]) ∧ Chg (OwR H d f po) X (w3.setCell ⟨f.Bo, 0, none⟩ v') ∧ (∀ k, rowB po' k → rowB po k ∨ X.heap.size ≤ k) ∧ w3.cell? ⟨f.Bo, 0, none⟩ = some (.slice po q.2.length co) ∧ w3.frozen? ⟨f.Bo, 0, none⟩ = false := by
  obtain ⟨po', co', rfl, hC, hR⟩ := push_row hb hown hg hat
  have hO : f.mem f.Bo := .inr (.inr (.inl rfl))
  have hvb := h.vb
  have hBo : w3.heap[f.Bo]? = X.heap[f.Bo]? := hC.block _ h.cO.lt (h.nm hO)
  have hbox : Boxed w3 f.Bo 28 (.slice po q.2.length co) := hBo.trans h.cO
  have hC2 : Chg (fun k => k = f.Bo ∨ rowB po k) X (w3.setCell ⟨f.Bo, 0, none⟩ (.slice po' (q.2.length + 1) co')) := Chg.set (S := fun k => k = f.Bo ∨ rowB po k) (hC.mono fun _ e => .inr e) (.inl (.inl rfl)) _
  have hn := h.nd
  simp only [Fv.l, List.nodup_cons, List.mem_cons, List.not_mem_nil, or_false, not_or] at hn
  have hk : ∀ k, f.mem k → k ≠ f.Bo → k < X.heap.size → (w3.setCell ⟨f.Bo, 0, none⟩ (.slice po' (q.2.length + 1) co')).heap[k]? = X.heap[k]? := fun k h1 h2 h3 => hC2.block k h3 (fun e => e.elim h2 (h.nm h1))
  have hlt : ∀ k, f.mem k → k < X.heap.size := fun k hk => h.lt (.inr (.inl hk))
  have hne' : ¬ rowB po' f.Bo := fun e => (hR _ e).elim (h.nm hO) (by have := h.cO.lt; omega)
  have hlen : (q.2 ++ [v]).length = q.2.length + 1 := by simp
  have m1 : f.mem f.Bh := .inl rfl
  have m2 : f.mem f.Bf := .inr (.inl rfl)
  have m4 : f.mem f.B := .inr (.inr (.inr (.inl rfl)))
  have m5 : f.mem f.G := .inr (.inr (.inr (.inr rfl)))
  have hsz := hC2.size
  refine ⟨po', co', rfl, ⟨h.is.chg hC2 (fun k e e2 => e2.elim (fun e3 => h.ap _ hO (e3 ▸ e)) (fun e3 => (h.apR k e3).1 e)), tabs_vb h.tabs (hC2.below (fun k e => h.hi k (e.elim (fun e => .inr (.inl (e ▸ hO))) (fun e => .inr (.inr e)))) hvb),
    h.set.kept' (hk _ m4 (by omega) (hlt _ m4)) (hk _ m5 (by omega) (hlt _ m5)), (hk _ m1 (by omega) (hlt _ m1)).trans h.cH, (hk _ m2 (by omega) (hlt _ m2)).trans h.cF, ?_, ?_, h.nd, h.ap, fun g hg => ?_, by have := h.ltB; omega, by have := h.ltG; omega, by have := h.bs; omega, fun k hk => ?_⟩,
    hC2.mono (fun k e => e.elim (fun e => .inr (.inl (e ▸ hO))) (fun e => .inr (.inr e))), hR, hbox.cell, hbox.frozen⟩
  · rw [hlen]; exact hbox.set _
  · rw [hlen, cellsZ_snoc]
    exact owns_block hown (fun g hg => Below.heap_setCell _ _ _ _ (fun e => hne' (by rw [← (show g = f.Bo from e)]; exact hg)))
  · rcases hR g hg with e | e
    · exact h.apR g e
    · exact ⟨fun e2 => by have := h.is.lt e2; omega, fun e2 => by have := hlt g e2; omega⟩
  · rcases hk with e | e | e
    · exact h.hi k (.inl e)
    · exact h.hi k (.inr (.inl e))
    · rcases hR k e with e | e
      · exact h.hi k (.inr (.inr e))
      · omega

set_option maxRecDepth 100000 in
set_option maxHeartbeats 2000000 in
theorem met_any (v : Int) (X : World) (h : Rq X H d s m f cap base po co q) (hl : q.2.length ≤ 1048576) :
    Calls Tryz.prog 60 #[.int .i64 v, .pointer (some ⟨f.Bh, 0, none⟩), .pointer (some ⟨f.Bf, 0, none⟩), .pointer (some ⟨f.Bo, 0, none⟩)] X fun e X' => (∃ u, e = .returned u) ∧ ∃ po' co', Rq X' H d s m f cap base po' co' (stp s q v) ∧ Chg (OwR H d f po) X X' ∧ ∀ k, rowB po' k → rowB po k ∨ X.heap.size ≤ k := by
  have HIS := Lib.hid (isO_any v X h.is)
  have cH := h.cH.cell
  have cF := h.cF.cell
  have cO := h.cO.cell
  have HH := Lib.hid h
  have HB := Lib.hid (below_drewN (Below.refl X.heap.size X))
  cases hb : bnI s v with
  | false =>
    have e : stp s q v = q := by unfold stp; rw [if_neg (by simp [hb])]
    rw [hb] at HIS
    rw [e]
    clear h e
    go_enter Tryz.func60, Tryz.ntmps60
    go_wp2_with (go_at_call 39; refine HIS.out.mono ?_; rintro e w' ⟨rfl, k, rfl⟩)
    go_end0
    exact ⟨⟨_, rfl⟩, po, co, HH.out.drewN k, Chg.of_below (HB.out k), fun k hk => .inl hk⟩
  | true =>
    rw [hb] at HIS
    have hn := h.nd
    simp only [Fv.l, List.nodup_cons, List.mem_cons, List.not_mem_nil, or_false, not_or] at hn
    have HP := Lib.hid (fun k => Bits.put_any f.B f.G (s.ws.length + 1) cap q.1 v true (X.drewN k) (h.set.drewN k) (by omega))
    have HPU := Lib.hid (fun k (F : List Nat) (Y : World) hs hg hz => (h.drewN k).put (Y := Y) (F := F) hs hg hz)
    have hlt := bnI_lt h.is.wf hb
    have hmay : Bits.mayB v (s.ws.length + 1 : Nat) = true := by have := (bnI_pos hb).1; simp [Bits.mayB]; omega
    have hR : Bits.putR (s.ws.length + 1) q.1 v true = !hasI q.1 v := by unfold Bits.putR hasI; rw [hmay]; cases hasB q.1 v.toNat <;> rfl
    have hG : f.mem f.G := .inr (.inr (.inr (.inr rfl)))
    cases hf : hasI q.1 v with
    | true =>
      have e : stp s q v = q := by unfold stp; rw [if_neg (by simp [hf])]
      have e2 : Bits.putS (s.ws.length + 1) q.1 v true = q.1 := by unfold Bits.putS; rw [hR, hf]; rfl
      rw [e2, hR, hf] at HP
      rw [e]
      clear h e e2 hn hmay hR
      go_enter Tryz.func60, Tryz.ntmps60
      go_wp2_with (first
        | (go_at_call 39; refine HIS.out.mono ?_; rintro e w' ⟨rfl, k, rfl⟩)
        | (go_at_call 61; refine (HP.out k).mono ?_; rintro e w' ⟨rfl, h1, h2, h3⟩; obtain ⟨g1, g2⟩ := HPU.out k _ _ h1 h2 h3; have HG := Lib.hid (And.intro g1 g2); clear h1 h2 h3 g1 g2))
      go_end0
      exact ⟨⟨_, rfl⟩, po, co, HG.out.1, (Chg.of_below (HB.out k)).trans (HG.out.2.mono (fun k e => (.inr (.inl (e ▸ hG)) : OwR H d f po k))) (fun k e => .inl e), fun k hk => .inl hk⟩
    | false =>
      obtain ⟨i0, hinf, hz0, hz1, hz2⟩ := info_parts infoInt
      have e : stp s q v = (putW q.1 v.toNat, q.2 ++ [v]) := by unfold stp; rw [if_pos ⟨hb, hf⟩]
      have e2 : Bits.putS (s.ws.length + 1) q.1 v true = putW q.1 v.toNat := by unfold Bits.putS; rw [hR, hf]; rfl
      rw [e2, hR, hf] at HP
      rw [e]
      have HPS := Lib.hid (fun (Y Y0 w3 : World) (v' : Value) (g : Rq Y H d s m f cap base po co (putW q.1 v.toNat, q.2)) hb a b c => g.push (Y0 := Y0) (w3 := w3) (v' := v') (v := v) hb a b c)
      have hBoG : f.Bo ≠ f.G := by omega
      have hbs := h.bs
      have hkO := Lib.hid (show ∀ Y : World, Chg (fun k => k = f.G) X Y → Y.cell? ⟨f.Bo, 0, none⟩ = some (.slice po q.2.length co) from fun Y hc => (hc.cell (p := ⟨f.Bo, 0, none⟩) h.cO.lt hBoG).trans cO)
      clear h e e2 hn hmay hR
      go_enter Tryz.func60, Tryz.ntmps60
      go_wp2_with (first
        | (go_at_call 39; refine HIS.out.mono ?_; rintro e w' ⟨rfl, k, rfl⟩)
        | (go_at_call 61; refine (HP.out k).mono ?_; rintro e w2 ⟨rfl, h1, h2, h3⟩; obtain ⟨g1, g2⟩ := HPU.out k _ _ h1 h2 h3; have hc2 := hkO.out w2 ((Chg.of_below (HB.out k)).trans g2 (fun k e => .inl e)); have hz2 : X.heap.size = w2.heap.size := h3.symm; have hl2 : f.Bo < w2.heap.size := g1.cO.lt; have HG := Lib.hid (And.intro g1 g2); have HOW : Hid (w2.ownsRow base 3 1 (.slice po q.2.length co) q.2.length (cellsZ q.2)) := Lib.hid g1.own; clear h1 h2 h3 g1 g2)
        | (at_builtin; refine wpList_append_own_at _ rfl _ _ 28 rfl base 3 i0 (.int .i64 0) 1 8 Tryz.underlying28 hinf hz0 hz1 ‹i0.bytes = 8› rfl (by decide) _ _ (cellsZ q.2) rfl (owns_block HOW.out (fun g hg => Below.heap_alloc _ _ _ (by simpa using (owns_lt HOW.out hg).2))) ⟨w2.heap.size, 0, none⟩ 1 1 [.int .i64 v] rfl rfl (one_at rfl) (by simp [Value.oneCell']) (by unfold maxLen; omega) (by omega) (by simp; omega) ?_))
      intro v' w3 hown hgrow _ hat
      obtain ⟨po', co', rfl, hR, hC, hR', hc3, hf3⟩ := HPS.out w2 _ w3 v' HG.out.1 ((Below.refl _ w2).alloc (Nat.le_refl _) _) hown hgrow (by simpa using hat)
      have HF := Lib.hid (And.intro hR (And.intro hC hR'))
      have HZ := Lib.hid hz2
      clear hown hgrow hat hR hC hR'
      go_wp2
      go_end0
      refine ⟨⟨_, rfl⟩, po', co', HF.out.1, ?_, fun k hk => (HF.out.2.2 k hk).imp id (fun e => by have := HZ.out; omega)⟩
      exact ((Chg.of_below (HB.out k)).trans (HG.out.2.mono (fun k e => (.inr (.inl (e ▸ hG)) : OwR H d f po k))) (fun k e => .inl e)).trans HF.out.2.1 (fun k e => .inl e)
end
end Go.Proofs.YtpcgmkchflmcmaaGreatDoor.Tr

namespace Go.Proofs.YtpcgmkchflmcmaaGreatDoor.Tr
open Go.RowKit Go.Shelf
open Class (below_drewN)
open Blk (Cfg allP kAt)
open Bits (SetIs)
open Hp (isO_any Ids St Wf Is To Mine bn bnI bnI_nat fN fE lE lV objL not_mine two_new config_any pkA_len)
open Go.Proofs.YtpcgmkchflmcmaaGreatDoor.Row (Chg Rd Rd0 rowB rowB_none cell_of_block frozen_of_block other same cellsZ cellsZ_length cellsZ_at cellsZ_snoc info_parts infoInt one_at push_row owns_block owns_chg owns_lt owns_less owns_cell owns_cap owns_some)
open Go.Proofs.YtpcgmkchflmcmaaGreatDoor.Addr (Tabs)

section
variable {w wr X Y : World} {H : Nat} {d d0 d' : Ids} {s : St} {m m' : Nat} {f : Fv} {cap base : Nat} {po : Option Addr} {co : Nat} {q : List Nat × List Int}
/-- The heap has turned by loads alone. -/
theorem Rq.turn (h : Rq X H d s m f cap base po co q) (hT : Tn X H d Y d' s m') : Rq Y H d' s m' f cap base po co q := by
  have hb : Below vB X Y := hT.chg.below (fun k hk => h.hi k (.inl hk)) h.vb
  have hk : ∀ k, f.mem k ∨ rowB po k → Y.heap[k]? = X.heap[k]? := fun k hk => hT.chg.block k (h.lt (.inr hk)) (fun e => hk.elim (fun e2 => h.ap k e2 e) (fun e2 => (h.apR k e2).1 e))
  have hn : ∀ k, f.mem k ∨ rowB po k → ¬ Mine H d' k := fun k hk e => (hT.grow k e).elim (fun e => hk.elim (fun e2 => h.ap k e2 e) (fun e2 => (h.apR k e2).1 e)) (fun e => by have := h.lt (.inr hk); omega)
  have hs := hb.size
  refine ⟨hT.is, tabs_vb h.tabs hb, h.set.kept' (hk _ (.inl (.inr (.inr (.inr (.inl rfl)))))) (hk _ (.inl (.inr (.inr (.inr (.inr rfl)))))), (hk _ (.inl (.inl rfl))).trans h.cH, (hk _ (.inl (.inr (.inl rfl)))).trans h.cF, (hk _ (.inl (.inr (.inr (.inl rfl))))).trans h.cO, owns_block h.own (fun g hg => hk g (.inr hg)), h.nd, fun k hk => hn k (.inl hk), fun g hg => ⟨hn g (.inr hg), (h.apR g hg).2⟩, Nat.lt_of_lt_of_le h.ltB hs, Nat.lt_of_lt_of_le h.ltG hs, Nat.le_trans h.bs hs, fun k hk => ?_⟩
  rcases hk with e | e
  · rcases hT.grow k e with e | e
    · exact h.hi k (.inl e)
    · have := h.vb; omega
  · exact h.hi k (.inr e)
theorem Rq.more (h : Rq X H d s m f cap base po co q) (hm : m ≤ m') : Rq X H d s m' f cap base po co q := ⟨h.is.more hm, h.tabs, h.set, h.cH, h.cF, h.cO, h.own, h.nd, h.ap, h.apR, h.ltB, h.ltG, h.bs, h.hi⟩
/-- The last one that is open is taken off. -/
theorem Rq.pop {F : List Nat} {ol : List Int} {a : Int} (h : Rq X H d s m f cap base po co (F, ol ++ [a])) :
    ∃ g, po = some ⟨g, 0, none⟩ ∧ X.cell? ⟨g, ol.length, none⟩ = some (.int .i64 a) ∧ ol.length + 1 ≤ co ∧ Rq (X.setCell ⟨f.Bo, 0, none⟩ (.slice po ol.length co)) H d s m f cap base po co (F, ol) ∧ Chg (OwR H d f po) X (X.setCell ⟨f.Bo, 0, none⟩ (.slice po ol.length co)) := by
  have hlen : (ol ++ [a]).length = ol.length + 1 := by simp
  have ho : X.ownsRow base 3 1 (.slice po (ol ++ [a]).length co) (ol ++ [a]).length (cellsZ (ol ++ [a])) := h.own
  rw [hlen] at ho
  obtain ⟨g, rfl⟩ := Hp.hsome ho
  have hO : f.mem f.Bo := .inr (.inr (.inl rfl))
  have hn := h.nd
  simp only [Fv.l, List.nodup_cons, List.mem_cons, List.not_mem_nil, or_false, not_or] at hn
  have hC : Chg (fun k => k = f.Bo) X (X.setCell ⟨f.Bo, 0, none⟩ (.slice (some ⟨g, 0, none⟩) ol.length co)) := Chg.set (S := fun k => k = f.Bo) (Chg.refl _ _) (.inl rfl) _
  have hk : ∀ k, k < X.heap.size → k ≠ f.Bo → (X.setCell ⟨f.Bo, 0, none⟩ (.slice (some ⟨g, 0, none⟩) ol.length co)).heap[k]? = X.heap[k]? := fun k h1 h2 => hC.block k h1 h2
  have hl : ∀ k, f.mem k → k < X.heap.size := fun k hk => h.lt (.inr (.inl hk))
  have hs := hC.size
  have m1 : f.mem f.Bh := .inl rfl
  have m2 : f.mem f.Bf := .inr (.inl rfl)
  have m4 : f.mem f.B := .inr (.inr (.inr (.inl rfl)))
  have m5 : f.mem f.G := .inr (.inr (.inr (.inr rfl)))
  refine ⟨g, rfl, owns_cell ho ol.length (.int .i64 a) (by rw [cellsZ_snoc, List.getElem?_append_right (by rw [cellsZ_length]; exact Nat.le_refl _), cellsZ_length]; simp), (owns_cap ho).1, ?_, hC.mono (fun k e => .inr (.inl (e ▸ hO)))⟩
  refine ⟨h.is.chg hC (fun k e e2 => h.ap _ hO (e2 ▸ e)), tabs_vb h.tabs (hC.below (fun k e => by rw [e]; exact h.hi _ (.inr (.inl hO))) h.vb), h.set.kept' (hk _ (hl _ m4) (by omega)) (hk _ (hl _ m5) (by omega)), (hk _ (hl _ m1) (by omega)).trans h.cH, (hk _ (hl _ m2) (by omega)).trans h.cF, h.cO.set _, ?_, h.nd, h.ap, h.apR, by have := h.ltB; omega, by have := h.ltG; omega, by have := h.bs; omega, h.hi⟩
  have h2 := owns_less ho (Nat.le_succ ol.length)
  have e : (cellsZ (ol ++ [a])).take ol.length = cellsZ ol := by rw [cellsZ_snoc]; exact List.take_left' (cellsZ_length ol)
  rw [e] at h2
  exact owns_block h2 (fun g' hg => hC.block g' (owns_lt h2 hg).2 (fun e => h.nm hO (by rw [← e]; exact hg)))

/-- Ahead of a look; and while it goes on. -/
def KR0 (H : Nat) (d : Ids) (s : St) (m : Nat) (f : Fv) (cap base : Nat) (po : Option Addr) (co : Nat) (q : List Nat × List Int) (O : Nat → Prop) (X : World) : Prop := O = OwR H d f po ∧ Rq X H d s m f cap base po co q
def KR (H : Nat) (s : St) (m : Nat) (f : Fv) (cap base : Nat) (q : List Nat × List Int) (O : Nat → Prop) (l : List Int) (X : World) : Prop := ∃ d po co, O = OwR H d f po ∧ Rq X H d s m f cap base po co (mts s q l)
theorem meets_reached (hm : m < 800000) (hk4 : ∀ j, kAt s.ks j < 4) (hw : Wf s) (hq : Sq s q) (hl : un s q.1 + q.2.length ≤ 1048576) : Meets 60 #[] #[.pointer (some ⟨f.Bh, 0, none⟩), .pointer (some ⟨f.Bf, 0, none⟩), .pointer (some ⟨f.Bo, 0, none⟩)] H s vB (KR0 H d s m f cap base po co q) (KR H s (m + 40) f cap base q) := by
  refine ⟨enters_of Tryz.func60 (by kernel_rfl) rfl, ?_, ?_, ?_, ?_, ?_, ?_⟩
  · rintro O l X Y ⟨d, po, co, rfl, h⟩ hb hk
    exact ⟨d, po, co, rfl, h.kept hb hk⟩
  · rintro O X Y ⟨rfl, h⟩ hb hk
    exact ⟨rfl, h.kept hb hk⟩
  · rintro O X ⟨rfl, h⟩ k hk
    exact h.lt hk
  · rintro O l X ⟨d, po, co, rfl, h⟩ k hk
    exact h.lt hk
  · rintro O l v X ⟨d, po, co, rfl, h⟩
    have hle := un_mts hw hk4 l hq
    refine (met_any v X h (by omega)).mono ?_
    rintro e X' ⟨he, po', co', h1, h2, h3⟩
    rw [← mts_snoc] at h1
    exact ⟨he, _, ⟨d, po', co', rfl, h1⟩, h2, fun k hk => hk.elim (fun e => .inl (.inl e)) (fun e => e.elim (fun e => .inl (.inr (.inl e))) (fun e => (h3 k e).imp (fun e => .inr (.inr e)) id))⟩
  · rintro O X ⟨rfl, h⟩
    refine ⟨d, m, h.is, h.tabs, hm, fun k hk => .inl hk, ?_⟩
    rintro X' hI ⟨_, h'⟩ Y d' hT
    exact ⟨_, ⟨d', po, co, rfl, h'.turn hT⟩, fun k hk => hk.elim .inl (fun e => .inr (.inr e))⟩
end
end Go.Proofs.YtpcgmkchflmcmaaGreatDoor.Tr

namespace Go.Proofs.YtpcgmkchflmcmaaGreatDoor.Tr
open Go.RowKit Go.Shelf
open Class (below_drewN)
open Blk (Cfg allP kAt)
open Bits (SetIs)
open Hp (isO_any Ids St Wf Is To Mine bn bnI bnI_nat fN fE lE lV objL not_mine two_new config_any pkA_len)
open Go.Proofs.YtpcgmkchflmcmaaGreatDoor.Row (Chg Rd Rd0 rowB rowB_none cell_of_block frozen_of_block other same cellsZ cellsZ_length cellsZ_at cellsZ_snoc info_parts infoInt one_at push_row owns_block owns_chg owns_lt owns_less owns_cell owns_cap owns_some)
open Go.Proofs.YtpcgmkchflmcmaaGreatDoor.Addr (Tabs)

def zsN (n : Nat) : List Nat := List.replicate ((n + 1 + 63) / 64) 0
set_option maxHeartbeats 1000000 in
theorem none_any {H : Nat} {d : Ids} {s : St} {m : Nat} (w : World) (h : Is w H d s m) (ht : Tabs w) : Calls Tryz.prog 43 #[.pointer (some ⟨H, 0, none⟩)] w fun e w' => ∃ B G, e = .returned (.pointer (some ⟨B, 0, none⟩)) ∧
    SetIs w' B G (s.ws.length + 1) ((s.ws.length + 1 + 63) / 64) (zsN s.ws.length) ∧ w.heap.size ≤ B ∧ w.heap.size ≤ G ∧ B < w'.heap.size ∧ G < w'.heap.size ∧ B ≠ G ∧ Below w.heap.size w w' := by
  have HC := Lib.hid (config_any w h)
  have HR := Lib.hid h.wf.right
  have HRC := Lib.hid (refRightB_true.1 ((rightB_ref ..).symm.trans h.wf.right))
  have HL := Lib.hid ht
  have hw := h.wf.words
  have hl := (Rf.words_wrap h.wf).1
  have HN := Lib.hid (fun (W : World) => Bits.new_good (s.ws.length + 1) W (by omega))
  have HW := Lib.hid (fun (W : World) (hb : Below w.heap.size w W) => by
    have h1 := words_yes s.c.b s.c.wd s.c.m s.c.r s.c.ce s.c.lg s.c.st W (HL.out.later hb).lim HRC.out HR.out
    rw [hw] at h1
    exact h1)
  rw [show ((s.ws.length + 1 : Nat) : Int) = (s.ws.length : Int) + 1 from rfl] at HN
  clear h ht hw HR HRC
  go_enter Tryz.func43, Tryz.ntmps43
  go_wp2_with (first
    | (go_at_call 78; refine HC.out.mono ?_; rintro e w1 ⟨rfl, hb1⟩)
    | (go_at_call 77; refine (HW.out _ hb1).mono ?_; rintro e w2 ⟨rfl, hb2⟩)
    | (go_at_call 76; refine (HN.out _).mono ?_; rintro e w3 ⟨B, G, rfl, h1, h2, h3, h4, h5, h6, h7⟩))
  go_ret
  exact ⟨B, G, rfl, h1, by have := hb1.size; have := hb2.size; omega, by have := hb1.size; have := hb2.size; omega, h4, h5, h6, (hb1.trans (hb2.mono hb1.size)).trans (h7.mono (by have := hb1.size; have := hb2.size; omega))⟩
theorem take_snoc (l : List Int) {c : Nat} (h : c < l.length) : l.take c ++ [l.getD c 0] = l.take (c + 1) := by
  rw [List.take_add_one, List.getElem?_eq_getElem h, List.getD_eq_getElem?_getD, List.getElem?_eq_getElem h]
  rfl
theorem un_zero (s : St) : un s (zsN s.ws.length) = (objL s).length := by
  unfold un
  rw [List.filter_eq_self.2]
  intro a _
  unfold hasI zsN
  rw [hasB_zero]
  rfl
/-- A search since a world. -/
structure Ru (w wr : World) (H : Nat) (d0 d : Ids) (s : St) (m : Nat) (f : Fv) (cap : Nat) (po : Option Addr) (co : Nat) (q : List Nat × List Int) : Prop where
  rq : Rq wr H d s m f cap w.heap.size po co q
  chg : Chg (Mine H d0) w wr
  grow : ∀ j, Mine H d j → Mine H d0 j ∨ w.heap.size ≤ j
  new : ∀ k, f.mem k → w.heap.size ≤ k
theorem Ru.step {w wr w' : World} {H : Nat} {d0 d d' : Ids} {s : St} {m m' : Nat} {f : Fv} {cap co co' : Nat} {po po' : Option Addr} {q q' : List Nat × List Int} (h : Ru w wr H d0 d s m f cap po co q) (h' : Rq w' H d' s m' f cap w.heap.size po' co' q') (hc : Chg (OwR H d f po) wr w')
    (hg : ∀ k, OwR H d' f po' k → OwR H d f po k ∨ wr.heap.size ≤ k) : Ru w w' H d0 d' s m' f cap po' co' q' := by
  have hs := h.chg.size
  refine ⟨h', h.chg.trans hc (fun k e => e.elim (h.grow k) (fun e => .inr (e.elim (h.new k) (fun e => (owns_lt h.rq.own e).1)))), fun j hj => ?_, h.new⟩
  rcases hg j (.inl hj) with e | e
  · rcases e with e | e | e
    · exact h.grow j e
    · exact .inr (h.new j e)
    · exact .inr (owns_lt h.rq.own e).1
  · exact .inr (by omega)
theorem Ru.tn {w wr : World} {H : Nat} {d0 d : Ids} {s : St} {m : Nat} {f : Fv} {cap co : Nat} {po : Option Addr} {q : List Nat × List Int} (h : Ru w wr H d0 d s m f cap po co q) : Tn w H d0 wr d s m := ⟨h.rq.is, h.chg, h.grow⟩
theorem Ru.start {w w1 X : World} {H B G : Nat} {d : Ids} {s : St} {m : Nat} (h : Is w H d s m) (ht : Tabs w) (hvb : vB ≤ w.heap.size) (hmi : ∀ k, Mine H d k → vB ≤ k)
    (h1 : SetIs w1 B G (s.ws.length + 1) ((s.ws.length + 1 + 63) / 64) (zsN s.ws.length)) (hB : w.heap.size + 1 ≤ B) (hG : w.heap.size + 1 ≤ G) (hBl : B < w1.heap.size) (hGl : G < w1.heap.size) (hBG : B ≠ G) (hb : Below (w.heap.size + 1) (w.alloc (.cells #[.pointer (some ⟨H, 0, none⟩)] 32)) w1)
    (hX : (w1.alloc (.cells #[.pointer (some ⟨B, 0, none⟩)] 69)).alloc (.cells #[.slice none 0 0] 28) = X) :
    Ru w X H d d s m ⟨w.heap.size, w1.heap.size, w1.heap.size + 1, B, G⟩ ((s.ws.length + 1 + 63) / 64) none 0 (zsN s.ws.length, []) := by
  have hbw : Below w.heap.size w w1 := ((Below.refl _ _).alloc (Nat.le_refl _) _).trans (hb.mono (Nat.le_succ _))
  have hbX : Below w1.heap.size w1 X := by rw [← hX]; exact ((Below.refl _ _).alloc (Nat.le_refl _) _).alloc (by simp) _
  have hs := hbw.size
  have hwX : Below w.heap.size w X := hbw.trans (hbX.mono hs)
  have hsX : X.heap.size = w1.heap.size + 2 := by rw [← hX]; simp
  have hsz : w.heap.size + 1 ≤ w1.heap.size := by omega
  refine ⟨⟨h.later hwX, ht.later hwX, h1.below hbX hBl hGl, ?_, by rw [← hX]; exact (Boxed.new w1 _ _).alloc _, by rw [← hX]; exact boxed_new (by simp), ⟨rfl, .inl ⟨rfl, rfl⟩⟩, ?_, ?_, fun g hg => absurd hg (rowB_none g), (by show B < _; omega), (by show G < _; omega), hwX.size, ?_⟩, Chg.of_below hwX, fun j hj => .inl hj, ?_⟩
  · exact Boxed.below (Boxed.below (Boxed.new w _ _) hb (Nat.lt_succ_self _)) hbX (show w.heap.size < w1.heap.size by omega)
  · show [w.heap.size, w1.heap.size, w1.heap.size + 1, B, G].Nodup
    simp only [List.nodup_cons, List.mem_cons, List.not_mem_nil, or_false, not_or, List.nodup_nil, and_true, not_false_eq_true]
    omega
  · rintro k hk
    have hk' : k = w.heap.size ∨ k = w1.heap.size ∨ k = w1.heap.size + 1 ∨ k = B ∨ k = G := hk
    have : w.heap.size ≤ k := by omega
    exact not_mine h this
  · rintro k (e | e | e)
    · exact hmi k e
    · have hk' : k = w.heap.size ∨ k = w1.heap.size ∨ k = w1.heap.size + 1 ∨ k = B ∨ k = G := e
      omega
    · exact absurd e (rowB_none k)
  · intro k hk
    have hk' : k = w.heap.size ∨ k = w1.heap.size ∨ k = w1.heap.size + 1 ∨ k = B ∨ k = G := hk
    omega

/-- What reached leaves. -/
def Found (w : World) (H : Nat) (d : Ids) (s : St) (m : Nat) (R : List Int) (e : Ending) (w' : World) : Prop := ∃ B G cap F d', e = .returned (.pointer (some ⟨B, 0, none⟩)) ∧ SetIs w' B G (s.ws.length + 1) cap F ∧ (∀ u, 0 ≤ u → (hasI F u = true ↔ Rch s R u)) ∧
  Tn w H d w' d' s (m + 40 * (objL s).length) ∧ (w.heap.size ≤ B ∧ w.heap.size ≤ G ∧ B < w'.heap.size ∧ G < w'.heap.size ∧ B ≠ G) ∧ ¬ Mine H d' B ∧ ¬ Mine H d' G

set_option maxRecDepth 100000 in
set_option maxHeartbeats 4000000 in
theorem reached_any {H : Nat} {d : Ids} {s : St} {m : Nat} (pr : Option Addr) (cr : Nat) (R : List Int) (w : World) (h : Is w H d s m) (ht : Tabs w) (hm : m + 40 * (objL s).length < 800000) (hr : Rd0 w pr R) (hrl : ∀ g, rowB pr g → 0 < R.length → g < w.heap.size ∧ ¬ Mine H d g) (hlen : R.length ≤ maxLen) (hvb : vB ≤ w.heap.size) (hmi : ∀ k, Mine H d k → vB ≤ k) :
    Calls Tryz.prog 29 #[.pointer (some ⟨H, 0, none⟩), .slice pr R.length cr] w (Found w H d s m R) := by
  unfold maxLen at hlen
  have hb0 : Below w.heap.size w (w.alloc (.cells #[.pointer (some ⟨H, 0, none⟩)] 32)) := (Below.refl _ _).alloc (Nat.le_refl _) _
  have HN := Lib.hid (none_any _ (h.later hb0) (ht.later hb0))
  have HH := Lib.hid h
  have HT := Lib.hid ht
  have HR := Lib.hid hr
  have HB0 := Lib.hid hb0
  have HRL := Lib.hid hrl
  have HMI := Lib.hid hmi
  clear h ht hr hb0 hrl hmi
  go_enter Tryz.func29, Tryz.ntmps29
  go_wp2_with (go_at_call 43; refine HN.out.mono ?_; rintro e w1 ⟨B, G, rfl, h1, h2, h3, h4, h5, h6, h7⟩)
  generalize hX : World.alloc _ _ = X
  simp only [World.size_alloc] at h2 h3 h7
  have HRU := Lib.hid (Ru.start HH.out HT.out hvb HMI.out h1 h2 h3 h4 h5 h6 h7 hX)
  clear h1 h2 h3 h4 h5 h6 h7 hX HN HB0
  obtain ⟨f, hf⟩ : ∃ f : Fv, (⟨w.heap.size, w1.heap.size, w1.heap.size + 1, B, G⟩ : Fv) = f := ⟨_, rfl⟩
  rw [hf] at HRU
  rw [show w1.heap.size + 1 = f.Bo by rw [← hf], show w1.heap.size = f.Bf by rw [← hf], show w.heap.size = f.Bh by rw [← hf]]
  have hBf : B = f.B := by rw [← hf]
  subst hBf
  clear hf
  have hk4 := HH.out.tb.kLt
  have hw := HH.out.wf
  have hN : (objL s).length ≤ 1048576 := pkA_len hw (bnI s)
  have hSq0 : Sq s (zsN s.ws.length, []) := (Sch.start s R).sq
  have hun0 : un s (zsN s.ws.length) = (objL s).length := un_zero s
  have HK4 := Lib.hid hk4
  have HW := Lib.hid hw
  have HS0 := Lib.hid hSq0
  have HUN := Lib.hid hun0
  have HRUS := Lib.hid (show ∀ (wr : World) (po : Option Addr) (co i : Nat), i < R.length → Ru w wr H d d s m f ((s.ws.length + 1 + 63) / 64) po co (mts s (zsN s.ws.length, []) (R.take i)) → Calls Tryz.prog 60 #[.int .i64 (R.getD i 0), .pointer (some ⟨f.Bh, 0, none⟩), .pointer (some ⟨f.Bf, 0, none⟩), .pointer (some ⟨f.Bo, 0, none⟩)] wr fun e X' => (∃ u, e = .returned u) ∧ ∃ po' co', Ru w X' H d d s m f ((s.ws.length + 1 + 63) / 64) po' co' (mts s (zsN s.ws.length, []) (R.take (i + 1))) from fun wr po co i hi hru => by
    have h1 := un_mts HW.out HK4.out (R.take i) HS0.out
    simp only [List.length_nil, HUN.out] at h1
    refine (met_any (R.getD i 0) wr hru.rq (by omega)).mono ?_
    rintro e X' ⟨he, po', co', g1, g2, g3⟩
    rw [← mts_snoc, take_snoc R hi] at g1
    exact ⟨he, po', co', hru.step g1 g2 (fun k hk => hk.elim (fun e => .inl (.inl e)) (fun e => e.elim (fun e => .inl (.inr (.inl e))) (fun e => (g3 k e).imp (fun e => .inr (.inr e)) id)))⟩)
  clear hk4 hw hSq0 hun0
  go_loopw [17] (fun x wr => ∃ (i : Nat) (po : Option Addr) (co : Nat), i ≤ R.length ∧ x = .int .i64 (i : Int) ∧ Ru w wr H d d s m f ((s.ws.length + 1 + 63) / 64) po co (mts s (zsN s.ws.length, []) (R.take i))) (fun x _ => R.length - (intOf x).toNat)
  case atStart => exact ⟨0, none, 0, Nat.zero_le _, rfl, HRU.out⟩
  case round =>
    obtain ⟨i, po, co, hi, rfl, hru⟩ := hrel
    have HU := Lib.hid hru
    clear hru HRU
    by_cases hlt : i < R.length
    · have i0 : (0 : Int) ≤ (i : Int) := Int.natCast_nonneg _
      have i1 : (i : Int) < (R.length : Int) := by omega
      obtain ⟨g, off, hp, _⟩ := HR.out i hlt
      have hgl := HRL.out g (by rw [hp]; rfl) (by omega)
      obtain ⟨_, _, hp2, hc0⟩ := HR.out i hlt
      have hc : wr.cell? ⟨g, off + i, none⟩ = some (.int .i64 (R.getD i 0)) := by
        rw [hp] at hp2
        cases hp2
        exact (HU.out.chg.cell (p := ⟨g, off + i, none⟩) hgl.1 hgl.2).trans hc0
      have HC := Lib.hid (HRUS.out wr po co i hlt HU.out)
      subst hp
      clear hgl hp2 hc0
      generalize R.getD i 0 = v at *
      go_wp2_with (refine HC.out.mono ?_; rintro e X' ⟨⟨u, rfl⟩, po', co', hru⟩)
      go_roundw
      case rel => exact ⟨i + 1, po', co', by omega, by go_num, hru⟩
      case measure => simp [intOf]; omega
    · have i1 : ¬ (i : Int) < (R.length : Int) := by omega
      obtain rfl : i = R.length := by omega
      go_wp2
      rw [List.take_length] at HU
      have hsr : Sch s R (mts s (zsN s.ws.length, []) R) := (Sch.start s R).roots HW.out (fun r h => h)
      have hrt : ∀ r ∈ R, bnI s r = true → hasI (mts s (zsN s.ws.length, []) R).1 r = true := fun r h1 h2 => mts_has HW.out R HS0.out r h1 h2
      have hku := un_mts HW.out HK4.out R HS0.out
      simp only [List.length_nil, HUN.out, Nat.add_zero] at hku
      have HST := Lib.hid (And.intro HU.out (And.intro hsr (And.intro hrt hku)))
      clear hsr hrt hku HU HRUS HR HRL
      generalize mts s (zsN s.ws.length, []) R = q0 at *
      obtain ⟨F0, ol0⟩ := q0
      go_loopg [11] (objL s).length (fun k x wr => ∃ (d' : Ids) (m' : Nat) (po : Option Addr) (co : Nat) (F : List Nat) (ol : List Int), Ru w wr H d d' s m' f ((s.ws.length + 1 + 63) / 64) po co (F, ol) ∧ Sch s R (F, ol) ∧ (∀ r ∈ R, bnI s r = true → hasI F r = true) ∧ un s F + ol.length = k ∧ m' + 40 * k ≤ m + 40 * (objL s).length)
      case atStart => exact ⟨d, m, po, co, F0, ol0, HST.out.1, HST.out.2.1, HST.out.2.2.1, HST.out.2.2.2, Nat.le_refl _⟩
      case round =>
        clear HST
        obtain ⟨d', m', po', co', F, ol, hru, hsc, hrt, hk, hmm⟩ := hrel
        rcases List.eq_nil_or_concat ol with e0 | ⟨ol', a, e0⟩
        · subst e0
          have cO : wr.cell? ⟨f.Bo, 0, none⟩ = some (.slice po' 0 co') := hru.rq.cO.cell
          have cF := hru.rq.cF.cell
          have HU := Lib.hid (And.intro hru (And.intro hsc hrt))
          have HM := Lib.hid hmm
          clear hru hsc hrt hk hmm
          go_wp2
          go_ret
          refine ⟨f.B, f.G, _, F, d', rfl, HU.out.1.rq.set, fun u hu => HU.out.2.1.fin HU.out.2.2 u hu, HU.out.1.tn.more (by have := HM.out; omega), ⟨HU.out.1.new _ (.inr (.inr (.inr (.inl rfl)))), HU.out.1.new _ (.inr (.inr (.inr (.inr rfl)))), HU.out.1.rq.ltB, HU.out.1.rq.ltG, fun e => ?_⟩, HU.out.1.rq.ap _ (.inr (.inr (.inr (.inl rfl)))), HU.out.1.rq.ap _ (.inr (.inr (.inr (.inr rfl))))⟩
          have hn := HU.out.1.rq.nd
          simp only [Fv.l, List.nodup_cons, List.mem_cons, List.not_mem_nil, or_false, not_or] at hn
          omega
        · rw [List.concat_eq_append] at e0
          subst e0
          have cO : wr.cell? ⟨f.Bo, 0, none⟩ = some (.slice po' (ol' ++ [a]).length co') := hru.rq.cO.cell
          have cOf := hru.rq.cO.frozen
          have cH := hru.rq.cH.cell
          have hlen2 : (ol' ++ [a]).length = ol'.length + 1 := by simp
          obtain ⟨g, hpo, hat, hcap, hrq2, hch2⟩ := hru.rq.pop
          subst hpo
          have hBhO : f.Bh ≠ f.Bo := by
            have hn := hru.rq.nd
            simp only [Fv.l, List.nodup_cons, List.mem_cons, List.not_mem_nil, or_false, not_or] at hn
            omega
          have hgO : g ≠ f.Bo := fun e => hru.rq.nm (k := f.Bo) (.inr (.inr (.inl rfl))) (by rw [← e]; rfl)
          rw [hlen2] at cO hk
          have hsq2 : Sq s (F, ol') := ⟨hsc.sq.set, fun v hv => hsc.sq.op v (List.mem_append_left _ hv)⟩
          have hle : un s F + ol'.length ≤ 1048576 := by omega
          have HL := Lib.hid (look_any (meets_reached (H := H) (d := d') (m := m') (f := f) (cap := (s.ws.length + 1 + 63) / 64) (base := w.heap.size) (po := some ⟨g, 0, none⟩) (co := co') (q := (F, ol')) (by omega) HK4.out HW.out hsq2 hle) HW.out a _ _ ⟨rfl, hrq2⟩ hrq2.vb)
          have HU := Lib.hid (hru.step hrq2 hch2 (fun k e => .inl e))
          have HS := Lib.hid (hsc.look HW.out)
          have HRT := Lib.hid (show ∀ r ∈ R, bnI s r = true → hasI (mts s (F, ol') ((fs s a).filter fun v => !(v == 0))).1 r = true from fun r h1 h2 => mts_mono HW.out _ hsq2 r (bnI_pos h2).1 (hrt r h1 h2))
          have HKK := Lib.hid (show un s (mts s (F, ol') ((fs s a).filter fun v => !(v == 0))).1 + (mts s (F, ol') ((fs s a).filter fun v => !(v == 0))).2.length + 1 = gk by rw [un_mts HW.out HK4.out _ hsq2]; simp only; omega)
          have HMM := Lib.hid hmm
          clear hru hsc hrt hk hmm hrq2 hch2 hsq2 hlen2
          obtain ⟨n, hn⟩ : ∃ n, ol'.length = n := ⟨_, rfl⟩
          rw [hn] at cO hat hcap HL HU
          have n0 : (0 : Int) ≤ (n : Int) := Int.natCast_nonneg _
          have n1 : (n : Int) ≤ 1048576 := by omega
          have n2 : n ≤ 1048576 := by omega
          have HNN := Lib.hid hn
          clear hn
          go_wp2_with (go_at_call 62; refine HL.out.mono ?_; rintro e w4 ⟨⟨u, rfl⟩, O', ⟨d2, po2, co2, rfl, hrq3⟩, hch3, hg3⟩)
          have HU3 := Lib.hid (HU.out.step hrq3 hch3 hg3)
          clear hrq3 hch3 hg3
          generalize mts s (F, ol') ((fs s a).filter fun v => !(v == 0)) = q3 at *
          obtain ⟨F3, ol3⟩ := q3
          go_roundg (gk - 1)
          case measure => have := HKK.out; omega
          case rel =>
            have h1 := HKK.out
            have h2 := HMM.out
            simp only at h1
            exact ⟨d2, m' + 40, po2, co2, F3, ol3, HU3.out, HS.out, HRT.out, by omega, by omega⟩
end Go.Proofs.YtpcgmkchflmcmaaGreatDoor.Tr

namespace Go.Proofs.YtpcgmkchflmcmaaGreatDoor.Tr
open Go.RowKit Go.Shelf
open Class (below_drewN)
open Go.Proofs.YtpcgmkchflmcmaaGreatDoor.Row (Chg Rd Rd0 rowB rowB_none cell_of_block frozen_of_block other same cellsZ info_parts infoInt)

/-- A function that looks at a number, from whatever world K says. -/
structure Looks (pf : Nat) (bs : Array Value) (P : Int → Bool) (K : World → Prop) : Prop where
  enter : ∀ args w, (callFunc pf args).run Tryz.prog w = .ok (.enter pf args) w
  drew : ∀ W q, K W → K (W.drewN q)
  call : ∀ (a : Int) (W : World), K W → Calls Tryz.prog pf (bs.push (.int .i64 a)) W fun e w' => e = .returned (.bool (P a)) ∧ ∃ q, w' = W.drewN q

set_option maxRecDepth 100000 in
set_option maxHeartbeats 2000000 in
theorem index_any {pf : Nat} {bs : Array Value} {P : Int → Bool} {K : World → Prop} (hL : Looks pf bs P K) (p : Option Addr) (cap : Nat) (l : List Int) (w : World) (hk : K w) (hr : Rd0 w p l) (hlen : l.length ≤ 1048576) :
    Calls Tryz.prog 67 #[.slice p l.length cap, .func (.func pf) bs #[]] w fun e w' => (∃ q, w' = w.drewN q) ∧ ((e = .returned (.int .i64 (-1)) ∧ ∀ i, i < l.length → P (l.getD i 0) = false) ∨ ∃ j : Nat, j < l.length ∧ e = .returned (.int .i64 (j : Int)) ∧ P (l.getD j 0) = true ∧ ∀ i, i < j → P (l.getD i 0) = false) := by
  have HL := Lib.hid hL
  have HR := Lib.hid hr
  have HK := Lib.hid hk
  have eg := hL.enter
  clear hL hr hk
  go_enter Tryz.func67, Tryz.ntmps67
  go_wp2
  go_loopw [8] (fun x wr => ∃ i q : Nat, i ≤ l.length ∧ x = .int .i64 (i : Int) ∧ wr = w.drewN q ∧ ∀ k, k < i → P (l.getD k 0) = false) (fun x _ => l.length - (intOf x).toNat)
  case atStart => exact ⟨0, 0, Nat.zero_le _, rfl, rfl, fun k hk => absurd hk (Nat.not_lt_zero _)⟩
  case round =>
    obtain ⟨i, q, hi, rfl, rfl, hf⟩ := hrel
    have HF := Lib.hid hf
    clear hf
    by_cases hlt : i < l.length
    · have i0 : (0 : Int) ≤ (i : Int) := Int.natCast_nonneg _
      have i1 : (i : Int) < (l.length : Int) := by omega
      obtain ⟨g, off, hp, hc⟩ := HR.out i hlt
      subst hp
      have HC := Lib.hid (HL.out.call (l.getD i 0) (w.drewN q) (HL.out.drew _ _ HK.out))
      have HV : Hid (∀ v, v = l.getD i 0 → P v = P (l.getD i 0)) := Lib.hid (fun v e => by rw [e])
      obtain ⟨v, hv⟩ : ∃ v, l.getD i 0 = v := ⟨_, rfl⟩
      have HVV := Lib.hid hv
      rw [hv] at hc HC
      clear hv
      cases hb : P v with
      | true =>
        rw [hb] at HC
        go_wp2_with (refine HC.out.mono ?_; rintro e w3 ⟨rfl, q3, rfl⟩)
        go_ret
        exact ⟨⟨_, rfl⟩, .inr ⟨i, hlt, rfl, by rw [HVV.out]; exact hb, HF.out⟩⟩
      | false =>
        rw [hb] at HC
        go_wp2_with (refine HC.out.mono ?_; rintro e w3 ⟨rfl, q3, rfl⟩)
        go_roundw
        case rel => exact ⟨i + 1, _, by omega, by go_num, rfl, fun k hk => by
          by_cases e : k = i
          · rw [e, HVV.out]; exact hb
          · exact HF.out k (by omega)⟩
        case measure => simp [intOf]; omega
    · have i1 : ¬ (i : Int) < (l.length : Int) := by omega
      obtain rfl : i = l.length := by omega
      go_wp2
      go_ret
      exact ⟨⟨_, rfl⟩, .inl ⟨rfl, HF.out⟩⟩
/-- A row of numbers in a block, all of which may be laid. -/
def Rc (W : World) (g : Nat) (l : List Int) : Prop := ∀ k, k < l.length → W.cell? ⟨g, k, none⟩ = some (.int .i64 (l.getD k 0)) ∧ W.frozen? ⟨g, k, none⟩ = false
theorem Rc.set {W : World} {g : Nat} {l : List Int} (h : Rc W g l) {i : Nat} (_hi : i < l.length) (v : Int) : Rc (W.setCell ⟨g, i, none⟩ (.int .i64 v)) g (l.set i v) := fun k hk => by
  rw [List.length_set] at hk
  obtain ⟨h1, h2⟩ := h k hk
  refine ⟨?_, (World.frozen?_setCell ..).trans h2⟩
  by_cases e : i = k
  · subst e
    rw [same h1, List.getD_eq_getElem?_getD, List.getElem?_set_self hk]
    rfl
  · rw [other (by intro e2; exact e (congrArg Addr.off e2)), h1, List.getD_eq_getElem?_getD, List.getD_eq_getElem?_getD, List.getElem?_set_ne e]

/-- What is left of the first numbers. -/
def kpt (P : Int → Bool) (l : List Int) (j : Nat) : List Int := (l.take j).filter fun a => !P a
theorem kpt_succ (P : Int → Bool) (l : List Int) {j : Nat} (h : j < l.length) : kpt P l (j + 1) = kpt P l j ++ (if P (l.getD j 0) = true then [] else [l.getD j 0]) := by
  unfold kpt
  rw [← take_snoc l h, List.filter_append]
  congr 1
  by_cases e : P (l.getD j 0) = true
  · rw [if_pos e, List.filter_cons, if_neg (by rw [e]; decide)]; rfl
  · rw [if_neg e, List.filter_cons, if_pos (by simpa only [Bool.not_eq_true'] using eq_false_of_ne_true e)]; rfl
theorem kpt_all (P : Int → Bool) (l : List Int) (j : Nat) (h : ∀ i, i < j → P (l.getD i 0) = false) (hj : j ≤ l.length) : kpt P l j = l.take j := by
  unfold kpt
  rw [List.filter_eq_self]
  intro a ha
  obtain ⟨i, hi, rfl⟩ := List.mem_iff_getElem.1 ha
  rw [List.length_take] at hi
  have := h i (by omega)
  rw [List.getD_eq_getElem?_getD, List.getElem?_eq_getElem (by omega)] at this
  rw [List.getElem_take]
  simpa using this
/-- A row while it is thinned: the first i are what is left of the first j; from j on it is as it was. -/
structure Thin (P : Int → Bool) (l cur : List Int) (i j : Nat) : Prop where
  len : cur.length = l.length
  cnt : i = (kpt P l j).length
  lt : i < j
  le : j ≤ l.length
  head : cur.take i = kpt P l j
  tail : ∀ k, j ≤ k → cur.getD k 0 = l.getD k 0
theorem Thin.start {P : Int → Bool} {l : List Int} {j : Nat} (hj : j < l.length) (hp : P (l.getD j 0) = true) (h : ∀ i, i < j → P (l.getD i 0) = false) : Thin P l l j (j + 1) := by
  have e : kpt P l (j + 1) = l.take j := by rw [kpt_succ P l hj, if_pos hp, List.append_nil, kpt_all P l j h (by omega)]
  exact ⟨rfl, by rw [e, List.length_take]; omega, Nat.lt_succ_self _, hj, e.symm, fun _ _ => rfl⟩
theorem Thin.skip {P : Int → Bool} {l cur : List Int} {i j : Nat} (h : Thin P l cur i j) (hj : j < l.length) (hp : P (l.getD j 0) = true) : Thin P l cur i (j + 1) := by
  have e : kpt P l (j + 1) = kpt P l j := by rw [kpt_succ P l hj, if_pos hp, List.append_nil]
  exact ⟨h.len, by rw [e]; exact h.cnt, Nat.lt_succ_of_lt h.lt, hj, by rw [e]; exact h.head, fun k hk => h.tail k (by omega)⟩
theorem Thin.keep {P : Int → Bool} {l cur : List Int} {i j : Nat} (h : Thin P l cur i j) (hj : j < l.length) (hp : P (l.getD j 0) = false) : Thin P l (cur.set i (l.getD j 0)) (i + 1) (j + 1) := by
  have e : kpt P l (j + 1) = kpt P l j ++ [l.getD j 0] := by rw [kpt_succ P l hj, if_neg (by rw [hp]; decide)]
  have h1 := h.len
  have h2 := h.lt
  refine ⟨by rw [List.length_set]; exact h.len, by rw [e, List.length_append, ← h.cnt]; rfl, by omega, hj, ?_, fun k hk => ?_⟩
  · rw [e, ← h.head, List.take_add_one, List.take_set_of_le (Nat.le_refl _), List.getElem?_set_self (by omega)]
    rfl
  · rw [← h.tail k (by omega)]
    simp only [List.getD_eq_getElem?_getD]
    rw [List.getElem?_set_ne (by omega)]

theorem chg_setCells (g : Nat) : ∀ (vs : List Value) (o : Nat) (w : World), Chg (fun k => k = g) w (w.setCells g o vs)
  | [], _, w => Chg.refl _ w
  | v :: vs, o, w => (Chg.set (S := fun k => k = g) (Chg.refl _ w) (p := ⟨g, o, none⟩) (.inl rfl) v).trans (chg_setCells g vs (o + 1) _) (fun _ e => .inl e)
theorem zero_int : ∀ w : World, (zeroValue 3).run Tryz.prog w = .ok (.int .i64 0) w := fun w => by kernel_rfl

set_option maxRecDepth 100000 in
set_option maxHeartbeats 4000000 in
theorem delete_any {pf : Nat} {bs : Array Value} {P : Int → Bool} {K : World → Prop} (hL : Looks pf bs P K) (p : Option Addr) (cap : Nat) (l : List Int) (w : World) (hp : p = none ∧ l = [] ∨ ∃ g, p = some ⟨g, 0, none⟩ ∧ Rc w g l ∧ ∀ W, Chg (fun k => k = g) w W → K W) (hk : K w) (hcap : l.length ≤ cap) (hlen : l.length ≤ 1048576) :
    Calls Tryz.prog 31 #[.slice p l.length cap, .func (.func pf) bs #[]] w fun e w' => e = .returned (.slice p (l.filter fun a => !P a).length cap) ∧ Rd w' p (l.filter fun a => !P a) ∧ Chg (rowB p) w w' := by
  have hr : Rd0 w p l := fun j hj => by
    rcases hp with ⟨_, e⟩ | ⟨g, e, h, _⟩
    · rw [e] at hj; cases hj
    · exact ⟨g, 0, e, by rw [Nat.zero_add]; exact (h j hj).1⟩
  have HI := Lib.hid (index_any hL p cap l w hk hr hlen)
  have HL := Lib.hid hL
  have eg := hL.enter
  have hf : l.filter (fun a => !P a) = kpt P l l.length := by unfold kpt; rw [List.take_length]
  rw [hf]
  have HP := Lib.hid hp
  clear hL hr hp hk
  go_enter Tryz.func31, Tryz.ntmps31
  go_wp2_with fail
  refine HI.out.mono ?_
  rintro e w1 ⟨⟨q, rfl⟩, ⟨rfl, hno⟩ | ⟨j, hj, rfl, hPj, hno⟩⟩
  · have HN := Lib.hid hno
    clear hno
    go_wp2
    go_ret
    rw [kpt_all P l l.length HN.out (Nat.le_refl _), List.take_length]
    refine ⟨rfl, ?_, Chg.of_below (below_drewN (Below.refl _ _) q)⟩
    rcases HP.out with ⟨e1, e2⟩ | ⟨g, e, h, _⟩
    · exact .inl ⟨e1, e2⟩
    · exact .inr ⟨g, 0, e, fun j hj => by rw [Nat.zero_add]; exact (h j hj).1⟩
  · obtain ⟨g, rfl, hrc, hK⟩ : ∃ g, p = some ⟨g, 0, none⟩ ∧ Rc w g l ∧ ∀ W, Chg (fun k => k = g) w W → K W := HP.out.resolve_left (fun e => by rw [e.2] at hj; cases hj)
    have HRC := Lib.hid hrc
    have HK := Lib.hid hK
    have HTH := Lib.hid (Thin.start hj hPj hno)
    have j0 : (0 : Int) ≤ (j : Int) := Int.natCast_nonneg _
    have hjn : ((j : Int) == -1) = false := by
      rw [beq_eq_false_iff_ne]
      omega
    clear hrc hK hno hPj HP
    go_wp2
    go_loopw [5, 6] (fun x y wr => ∃ (i j : Nat) (cur : List Int), x = .int .i64 (i : Int) ∧ y = .int .i64 (j : Int) ∧ Thin P l cur i j ∧ Rc wr g cur ∧ Chg (fun k => k = g) w wr) (fun _ y _ => l.length - (intOf y).toNat)
    case atStart => exact ⟨j, j + 1, l, rfl, by go_num, HTH.out, HRC.out, Chg.of_below (below_drewN (Below.refl _ _) q)⟩
    case round =>
      obtain ⟨i, jj, cur, rfl, rfl, hth, hrc, hch⟩ := hrel
      by_cases hlt : jj < l.length
      · have c0 : (0 : Int) ≤ (jj : Int) := Int.natCast_nonneg _
        have c1 : (jj : Int) < (l.length : Int) := by omega
        have d0 : (0 : Int) ≤ (i : Int) := Int.natCast_nonneg _
        have d1 : (i : Int) < (l.length : Int) := by have := hth.lt; omega
        have hcl : wr.cell? ⟨g, jj, none⟩ = some (.int .i64 (l.getD jj 0)) := by rw [← hth.tail jj (Nat.le_refl _)]; exact (hrc jj (by rw [hth.len]; exact hlt)).1
        obtain ⟨hci, hfi⟩ := hrc i (by rw [hth.len]; have := hth.lt; omega)
        have HCC := Lib.hid (HL.out.call (l.getD jj 0) wr (HK.out wr hch))
        have HX := Lib.hid (And.intro hth (And.intro hrc hch))
        obtain ⟨v, hv⟩ : ∃ v, l.getD jj 0 = v := ⟨_, rfl⟩
        have HV := Lib.hid hv
        rw [hv] at hcl HCC
        clear hv hth hrc hch
        generalize cur.getD i 0 = u at hci
        cases hb : P v with
        | true =>
          rw [hb] at HCC
          go_wp2_with (refine HCC.out.mono ?_; rintro e w3 ⟨rfl, q3, rfl⟩)
          go_roundw
          case rel => exact ⟨i, jj + 1, cur, rfl, by go_num, HX.out.1.skip hlt (by rw [HV.out]; exact hb), fun k hk => HX.out.2.1 k hk, HX.out.2.2.drewN q3⟩
          case measure => simp [intOf]; omega
        | false =>
          rw [hb] at HCC
          go_wp2_with (refine HCC.out.mono ?_; rintro e w3 ⟨rfl, q3, rfl⟩)
          go_roundw
          case rel => exact ⟨i + 1, jj + 1, _, by go_num, by go_num, HX.out.1.keep hlt (by rw [HV.out]; exact hb), by rw [HV.out]; exact Rc.set (W := wr.drewN q3) (fun k hk => HX.out.2.1 k hk) (by rw [HX.out.1.len]; omega) v, (HX.out.2.2.drewN q3).set (.inl rfl) _⟩
          case measure => simp [intOf]; omega
      · have c1 : ¬ (jj : Int) < (l.length : Int) := by omega
        have d0 : (0 : Int) ≤ (i : Int) := Int.natCast_nonneg _
        have d1 : (i : Int) < (l.length : Int) := by have := hth.lt; have := hth.le; omega
        obtain rfl : jj = l.length := by have := hth.le; omega
        have HX := Lib.hid (And.intro hth (And.intro hrc hch))
        clear hth hrc hch
        have hclr : ∀ ty : TypeId, (Builtin.clear_ #[28] ty #[.slice (some ⟨g, i, none⟩) (l.length - i) (cap - i)]).run Tryz.prog wr = .ok (.tuple #[]) (wr.setCells g i (List.replicate (l.length - i) (.int .i64 0))) := fun ty =>
          Lib.run_clear_slice wr 28 3 ty (.int .i64 0) Tryz.underlying28 zero_int rfl rfl g i (l.length - i) (cap - i) (by omega) (fun k hk => by rw [(HX.out.2.1 (i + k) (by rw [HX.out.1.len]; omega)).1]; rfl) (fun k hk => (HX.out.2.1 (i + k) (by rw [HX.out.1.len]; omega)).2)
        go_wp2
        go_ret
        refine ⟨by rw [← HX.out.1.cnt]; rfl, .inr ⟨g, 0, rfl, fun k hk => ?_⟩, (HX.out.2.2.trans (chg_setCells g _ i wr) (fun _ e => .inl e)).mono (fun k e => by rw [e]; rfl)⟩
        rw [← HX.out.1.cnt] at hk
        rw [Nat.zero_add, World.cell?_setCells_out g _ i wr ⟨g, k, none⟩ (fun _ _ => .inl hk), (HX.out.2.1 k (by rw [HX.out.1.len]; omega)).1, ← HX.out.1.head]
        simp only [List.getD_eq_getElem?_getD]
        rw [List.getElem?_take_of_lt hk]
end Go.Proofs.YtpcgmkchflmcmaaGreatDoor.Tr

namespace Go.Proofs.YtpcgmkchflmcmaaGreatDoor.Tr
open Go.RowKit Go.Shelf
open Class (below_drewN)
open Blk (Cfg allP kAt cellsF collect_any)
open Bits (SetIs TzTab)
open Hp (Ids St Wf Is To Mine bn bnI bnI_nat objL not_mine pkA_len objects_any NewRow pkA_eq pkA_sorted cellsF_list)
open Go.Proofs.YtpcgmkchflmcmaaGreatDoor.Row (Chg Rd Rd0 rowB rowB_none cell_of_block frozen_of_block other same cellsZ cellsZ_length cellsZ_at owns_block owns_chg owns_lt owns_base owns_cell owns_slice)
open Go.Proofs.YtpcgmkchflmcmaaGreatDoor.Addr (Tabs)

/-- A set's numbers, as whole numbers. -/
def elI (F : List Nat) (n : Nat) : List Int := (elems F n).map fun x : Nat => (x : Int)
theorem elI_sorted (F : List Nat) (n : Nat) : (elI F n).Pairwise (· < ·) := by
  unfold elI elems
  rw [List.pairwise_map]
  exact (List.pairwise_lt_range.filter _).imp (fun h => by omega)
theorem elI_mem {F : List Nat} {n : Nat} (h : SetW n F) {x : Int} : x ∈ elI F n ↔ 0 ≤ x ∧ hasI F x = true := by
  unfold elI hasI
  rw [List.mem_map]
  constructor
  · rintro ⟨y, hy, rfl⟩
    exact ⟨by omega, by rw [Int.toNat_natCast]; exact (mem_elems h y).1 hy⟩
  · rintro ⟨h1, h2⟩
    exact ⟨x.toNat, (mem_elems h _).2 h2, by omega⟩
open Classical in
theorem rcL_eq {s : St} {R : List Int} {F : List Nat} (hw : Wf s) (hk : ∀ j, kAt s.ks j < 4) (hs : SetW (s.ws.length + 1) F) (hF : ∀ u, 0 ≤ u → (hasI F u = true ↔ Rch s R u)) : elI F (s.ws.length + 1) = rcL s R := by
  refine Rf.sorted_eq _ _ (elI_sorted _ _) ((pkA_sorted hw hk _).filter _) fun x => ?_
  unfold rcL
  rw [elI_mem hs, List.mem_filter, objL_mem hw hk, decide_eq_true_iff]
  constructor
  · rintro ⟨h1, h2⟩
    have := (hF x h1).1 h2
    exact ⟨this.born, this⟩
  · rintro ⟨h1, h2⟩
    have := (bnI_pos h1).1
    exact ⟨this, (hF x this).2 h2⟩
open Classical in
theorem gbL_eq {s : St} {R : List Int} {F : List Nat} (hw : Wf s) (hk : ∀ j, kAt s.ks j < 4) (hF : ∀ u, 0 ≤ u → (hasI F u = true ↔ Rch s R u)) : ((objL s).filter fun a => !(Bits.mayB a (s.ws.length + 1 : Nat) && hasB F a.toNat)) = gbL s R := by
  unfold gbL
  apply List.filter_congr
  intro a ha
  have hb := (objL_mem hw hk).1 ha
  have h0 := (bnI_pos hb).1
  have hl := bnI_lt hw hb
  have hm : Bits.mayB a (s.ws.length + 1 : Nat) = true := by simp [Bits.mayB]; omega
  rw [hm, Bool.true_and]
  by_cases h : Rch s R a
  · rw [decide_eq_true h, show hasB F a.toNat = true from (hF a h0).2 h]
  · rw [decide_eq_false h, show hasB F a.toNat = false from eq_false_of_ne_true (fun e => h ((hF a h0).1 e))]

/-- A row that a call tells, a heap that has turned by loads. -/
def RowT (w : World) (H : Nat) (d : Ids) (s : St) (m : Nat) (l : List Int) (e : Ending) (w' : World) : Prop := ∃ p cap d', e = .returned (.slice p l.length cap) ∧ Rd w' p l ∧ Tn w H d w' d' s m ∧ ∀ g, rowB p g → w.heap.size ≤ g ∧ ¬ Mine H d' g

/-- What a call of reached asks. -/
structure Ask (w : World) (H : Nat) (d : Ids) (s : St) (m : Nat) (pr : Option Addr) (R : List Int) : Prop where
  is : Is w H d s m
  tabs : Tabs w
  tz : TzTab w
  hm : m + 40 * (objL s).length < 800000
  rd : Rd0 w pr R
  row : ∀ g, rowB pr g → 0 < R.length → g < w.heap.size ∧ ¬ Mine H d g
  len : R.length ≤ maxLen
  vb : vB ≤ w.heap.size
  hi : ∀ k, Mine H d k → vB ≤ k

set_option maxRecDepth 100000 in
set_option maxHeartbeats 2000000 in
theorem reach_any {H : Nat} {d : Ids} {s : St} {m : Nat} (pr : Option Addr) (cr : Nat) (R : List Int) (w : World) (h : Ask w H d s m pr R) :
    Calls Tryz.prog 13 #[.pointer (some ⟨H, 0, none⟩), .slice pr R.length cr] w (RowT w H d s (m + 40 * (objL s).length) (rcL s R)) := by
  have HR := Lib.hid (reached_any pr cr R w h.is h.tabs h.hm h.rd h.row h.len h.vb h.hi)
  have HA := Lib.hid h
  have HC := Lib.hid (show ∀ (w1 : World) (B G cap : Nat) (F : List Nat) (d' : Ids), SetIs w1 B G (s.ws.length + 1) cap F → (∀ u, 0 ≤ u → (hasI F u = true ↔ Rch s R u)) → Tn w H d w1 d' s (m + 40 * (objL s).length) → (w.heap.size ≤ B ∧ w.heap.size ≤ G ∧ B < w1.heap.size ∧ G < w1.heap.size ∧ B ≠ G) →
      Calls Tryz.prog 28 #[.func (.func 63) #[] #[.pointer (some ⟨w1.heap.size, 0, none⟩)]] (w1.alloc (.cells #[.pointer (some ⟨B, 0, none⟩)] 69)) (RowT w H d s (m + 40 * (objL s).length) (rcL s R)) from fun w1 B G cap F d' hs hF hT hz => by
    have hb : Below w1.heap.size w1 (w1.alloc (.cells #[.pointer (some ⟨B, 0, none⟩)] 69)) := (Below.refl _ _).alloc (Nat.le_refl _) _
    have hbv : Below vB w (w1.alloc (.cells #[.pointer (some ⟨B, 0, none⟩)] 69)) := (hT.chg.below h.hi h.vb).trans (hb.mono (by have := h.vb; have := hT.chg.size; omega))
    have htz := tz_vb h.tz hbv
    have hvb := h.vb
    have hsz := hT.chg.size
    have hNe : (elems F (s.ws.length + 1)).length ≤ 1048576 := by
      have h1 := rcL_eq h.is.wf h.is.tb.kLt hs.row hF
      have h2 : (elI F (s.ws.length + 1)).length = (elems F (s.ws.length + 1)).length := by simp [elI]
      rw [← h2, h1]
      exact Nat.le_trans (List.length_filter_le _ _) (pkA_len h.is.wf (bnI s))
    refine (collect_any 63 #[.pointer (some ⟨w1.heap.size, 0, none⟩)] (elems F (s.ws.length + 1)).length (fun i => (((elems F (s.ws.length + 1)).getD i 0 : Nat) : Int)) (fun W => Below _ _ W) _ hNe (enters_of Tryz.func63 (by kernel_rfl) rfl)
      (Bits.all1_told 4 w1.heap.size B G (s.ws.length + 1) cap F _ _ (hs.below hb hz.2.2.1 hz.2.2.2.1) htz (by simp) (by rw [World.size_alloc]; omega) (by rw [World.size_alloc]; omega) (by rw [World.size_alloc]; unfold vB at hvb; omega)) (fun _ h => h)).mono ?_
    rintro e w' ⟨p, cap', rfl, ho, hb2⟩
    have e1 : elI F (s.ws.length + 1) = rcL s R := rcL_eq h.is.wf h.is.tb.kLt hs.row hF
    have e2 : cellsF (fun i => (((elems F (s.ws.length + 1)).getD i 0 : Nat) : Int)) (elems F (s.ws.length + 1)).length = cellsZ (rcL s R) := by
      rw [← e1, ← cellsF_list]
      unfold elI
      rw [List.length_map]
      congr 1
      funext i
      rw [List.getD_eq_getElem?_getD, List.getD_eq_getElem?_getD, List.getElem?_map]
      cases (elems F (s.ws.length + 1))[i]? <;> rfl
    have e3 : (elems F (s.ws.length + 1)).length = (rcL s R).length := by rw [← e1]; simp [elI]
    rw [e2, e3] at ho
    refine ⟨p, cap', d', by rw [e3], Rd.of_owns ho, hT.later (hb.trans (hb2.mono (by simp))), fun g hg => ?_⟩
    have h1 := (owns_lt ho hg).1
    simp only [World.size_alloc] at h1
    exact ⟨by omega, fun e => by have := hT.is.lt e; omega⟩)
  clear h
  go_enter Tryz.func13, Tryz.ntmps13
  go_wp2_with (first
    | (go_at_call 29; refine HR.out.mono ?_; rintro e w1 ⟨B, G, cap, F, d', rfl, h1, h2, h3, h4, h5, h6⟩; have HCC := Lib.hid (HC.out w1 B G cap F d' h1 h2 h3 h4); clear h1 h2 h3 h4 h5 h6)
    | go_enter Tryz.func30, Tryz.ntmps30
    | (go_at_call 28; refine HCC.out.mono ?_; rintro e w2 ⟨p, cap2, d2, rfl, g1, g2, g3⟩))
  go_ret
  exact ⟨p, cap2, d2, rfl, g1, g2, g3⟩

/-- A set, asked whether it has a number. -/
theorem looks_has (B G size cap : Nat) (F : List Nat) : Looks 32 #[.pointer (some ⟨B, 0, none⟩)] (fun a => Bits.mayB a (size : Nat) && hasB F a.toNat) (fun W => SetIs W B G size cap F) :=
  ⟨enters_of Tryz.func32 (by kernel_rfl) rfl, fun W q h => h.drewN q, fun a W h => Bits.has_any B G size cap F a W h⟩

set_option maxRecDepth 100000 in
set_option maxHeartbeats 2000000 in
theorem garbage_any {H : Nat} {d : Ids} {s : St} {m : Nat} (pr : Option Addr) (cr : Nat) (R : List Int) (w : World) (h : Ask w H d s m pr R) :
    Calls Tryz.prog 15 #[.pointer (some ⟨H, 0, none⟩), .slice pr R.length cr] w (RowT w H d s (m + 40 * (objL s).length) (gbL s R)) := by
  have HO := Lib.hid (objects_any w h.is h.tabs)
  have HA := Lib.hid h
  have HR := Lib.hid (show ∀ w1, Below w.heap.size w w1 → Calls Tryz.prog 29 #[.pointer (some ⟨H, 0, none⟩), .slice pr R.length cr] w1 (Found w1 H d s m R) from fun w1 hb => by
    have hs := hb.size
    exact reached_any pr cr R w1 (h.is.later hb) (h.tabs.later hb) h.hm (fun j hj => by
      obtain ⟨g, off, e, hc⟩ := h.rd j hj
      exact ⟨g, off, e, (hb.cell (p := ⟨g, off + j, none⟩) (h.row g (by rw [e]; rfl) (by omega)).1).trans hc⟩) (fun g hg hl => ⟨by have := (h.row g hg hl).1; omega, (h.row g hg hl).2⟩) h.len (by have := h.vb; omega) h.hi)
  have HD := Lib.hid (show ∀ (w1 w2 : World) (p : Option Addr) (cap : Nat) (B G capF : Nat) (F : List Nat) (d' : Ids), w1.ownsRow w.heap.size 3 1 (.slice p (objL s).length cap) (objL s).length (cellsZ (objL s)) → Below w.heap.size w w1 → SetIs w2 B G (s.ws.length + 1) capF F → (∀ u, 0 ≤ u → (hasI F u = true ↔ Rch s R u)) → Tn w1 H d w2 d' s (m + 40 * (objL s).length) →
      w1.heap.size ≤ B ∧ w1.heap.size ≤ G ∧ B < w2.heap.size ∧ G < w2.heap.size ∧ B ≠ G → Calls Tryz.prog 31 #[.slice p (objL s).length cap, .func (.func 32) #[.pointer (some ⟨B, 0, none⟩)] #[]] w2 (RowT w H d s (m + 40 * (objL s).length) (gbL s R)) from fun w1 w2 p cap B G capF F d' ho hb hs hF hT hz => by
    have hd1 : ∀ g, rowB p g → w.heap.size ≤ g ∧ g < w1.heap.size := fun g hg => owns_lt ho hg
    have hdm : ∀ g, rowB p g → ¬ Mine H d g := fun g hg e => by have := h.is.lt e; have := (hd1 g hg).1; omega
    have hdm' : ∀ g, rowB p g → ¬ Mine H d' g := fun g hg e => (hT.grow g e).elim (hdm g hg) (fun e => by have := (hd1 g hg).2; omega)
    have ho2 := owns_chg ho hT.chg hdm
    have hT0 : Tn w H d w2 d' s (m + 40 * (objL s).length) := ⟨hT.is, (Chg.of_below hb).trans hT.chg (fun _ e => .inl e), fun j hj => (hT.grow j hj).imp id (fun e => by have := hb.size; omega)⟩
    have hp : p = none ∧ objL s = [] ∨ ∃ g, p = some ⟨g, 0, none⟩ ∧ Rc w2 g (objL s) ∧ ∀ W, Chg (fun k => k = g) w2 W → SetIs W B G (s.ws.length + 1) capF F := by
      obtain ⟨_, ⟨h2, h3⟩ | ⟨g, c, cur, e1, e2, e3, e4, e5, e6, e7⟩⟩ := id ho2
      · simp only [Value.slice.injEq] at h2
        exact .inl ⟨h2.1, List.eq_nil_of_length_eq_zero h2.2.1⟩
      · cases e1
        refine .inr ⟨g, rfl, fun k hk => ⟨owns_cell ho2 k _ (cellsZ_at _ hk), ?_⟩, fun W hc => hs.kept' (hc.block B hz.2.2.1 (fun e => ?_)) (hc.block G hz.2.2.2.1 (fun e => ?_))⟩
        · simp [World.frozen?, e3]
        · have := (hd1 g rfl).2; omega
        · have := (hd1 g rfl).2; omega
    refine (delete_any (looks_has B G (s.ws.length + 1) capF F) p cap (objL s) w2 hp hs (Row.owns_cap ho2).1 (pkA_len h.is.wf (bnI s))).mono ?_
    rintro e w' ⟨rfl, hrd, hc⟩
    rw [gbL_eq h.is.wf h.is.tb.kLt hF] at hrd ⊢
    exact ⟨p, cap, d', rfl, hrd, ⟨hT0.is.chg hc (fun k hk e => hdm' k e hk), hT0.chg.trans hc (fun k hk => .inr (hd1 k hk).1), hT0.grow⟩, fun g hg => ⟨(hd1 g hg).1, hdm' g hg⟩⟩)
  clear h
  go_enter Tryz.func15, Tryz.ntmps15
  go_wp2_with (first
    | (go_at_call 21; refine HO.out.mono ?_; rintro e w1 ⟨p, cap, rfl, ho, hb1⟩)
    | (go_at_call 29; refine (HR.out w1 hb1).mono ?_; rintro e w2 ⟨B, G, capF, F, d', rfl, h1, h2, h3, h4, h5, h6⟩; have HDD := Lib.hid (HD.out w1 w2 p cap B G capF F d' ho hb1 h1 h2 h3 h4); clear h1 h2 h3 h4 h5 h6 ho)
    | (go_at_call 31; refine HDD.out.mono ?_; rintro e w3 ⟨p2, cap2, d2, rfl, g1, g2, g3⟩))
  go_ret
  exact ⟨p2, cap2, d2, rfl, g1, g2, g3⟩

set_option maxRecDepth 100000 in
set_option maxHeartbeats 2000000 in
open Classical in
theorem reaches_any {H : Nat} {d : Ids} {s : St} {m : Nat} (a b : Int) (w : World) (h : Ask w H d s m none []) :
    Calls Tryz.prog 17 #[.pointer (some ⟨H, 0, none⟩), .int .i64 a, .int .i64 b] w fun e w' => e = .returned (.bool (decide (Rch s [a] b))) ∧ ∃ d', Tn w H d w' d' s (m + 40 * (objL s).length) := by
  have hb0 : Below w.heap.size w (w.alloc (.cells #[.int .i64 a] 3)) := (Below.refl _ _).alloc (Nat.le_refl _) _
  have HR := Lib.hid (reached_any (some ⟨w.heap.size, 0, none⟩) 1 [a] _ (h.is.later hb0) (h.tabs.later hb0) h.hm (fun j hj => by
      obtain rfl : j = 0 := by simp at hj; omega
      exact ⟨w.heap.size, 0, rfl, by simp⟩) (fun g hg _ => by
      obtain rfl : w.heap.size = g := by simpa [rowB] using hg
      exact ⟨by simp, not_mine h.is (Nat.le_refl _)⟩) (by simp [maxLen]) (by have := h.vb; rw [World.size_alloc]; omega) h.hi)
  have HA := Lib.hid h
  have HB0 := Lib.hid hb0
  clear h hb0
  go_enter Tryz.func17, Tryz.ntmps17
  go_wp2_with (first
    | (go_at_call 29; refine HR.out.mono ?_; rintro e w2 ⟨B, G, capF, F, d', rfl, h1, h2, h3, h4, h5, h6⟩; have HS := Lib.hid (And.intro h1 (And.intro h2 (And.intro h3 h4))); clear h1 h2 h3 h4 h5 h6)
    | (go_at_call 32; refine (Bits.has_any B G _ capF F b _ HS.out.1).mono ?_; rintro e w3 ⟨rfl, q, rfl⟩))
  go_ret
  refine ⟨?_, d', ?_⟩
  · have hw := HA.out.is.wf
    have hF := HS.out.2.1
    have e : (Bits.mayB b (s.ws.length + 1 : Nat) && hasB F b.toNat) = decide (Rch s [a] b) := by
      by_cases hr : Rch s [a] b
      · have h0 := (bnI_pos hr.born).1
        have hl := bnI_lt hw hr.born
        have hm : Bits.mayB b (s.ws.length + 1 : Nat) = true := by simp [Bits.mayB]; omega
        rw [decide_eq_true hr, hm, show hasB F b.toNat = true from (hF b h0).2 hr]; rfl
      · rw [decide_eq_false hr]
        by_cases h0 : 0 ≤ b
        · rw [show hasB F b.toNat = false from eq_false_of_ne_true (fun e => hr ((hF b h0).1 e)), Bool.and_false]
        · have hm : Bits.mayB b (s.ws.length + 1 : Nat) = false := by simp [Bits.mayB]; omega
          rw [hm, Bool.false_and]
    rw [← e]
    rfl
  · have h3 := HS.out.2.2.1
    exact Tn.later ⟨h3.is, (Chg.of_below HB0.out).trans h3.chg (fun _ e => .inl e), fun j hj => (h3.grow j hj).imp id (fun e => by rw [World.size_alloc] at e; omega)⟩ (below_drewN (Below.refl _ _) q)
end Go.Proofs.YtpcgmkchflmcmaaGreatDoor.Tr
