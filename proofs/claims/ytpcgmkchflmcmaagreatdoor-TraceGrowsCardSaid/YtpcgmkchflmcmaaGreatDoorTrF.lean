/-
  Plain: what is reached; a search that keeps a set and a row of what is open.
-/
import Derived.Test.YtpcgmkchflmcmaaGreatDoorTrC
namespace Go.Proofs.YtpcgmkchflmcmaaGreatDoor.Tr
open Go.RowKit
open Blk (Cfg allP kAt)
open Hp (Ids St Wf bn bnI bnI_nat fN objL mem_allP pkA_eq pkA_sorted)

/-- What is reached from some roots. -/
inductive Rch (s : St) (R : List Int) : Int → Prop
  | root {r : Int} : r ∈ R → bnI s r = true → Rch s R r
  | step {a v : Int} : Rch s R a → v ∈ fs s a → bnI s v = true → Rch s R v
theorem Rch.born {s : St} {R : List Int} {a : Int} (h : Rch s R a) : bnI s a = true := by cases h <;> assumption
theorem Rch.mono {s : St} {R R' : List Int} (hR : ∀ r ∈ R, bnI s r = true → Rch s R' r) {a : Int} (h : Rch s R a) : Rch s R' a := by
  induction h with
  | root h1 h2 => exact hR _ h1 h2
  | step _ h2 h3 ih => exact .step ih h2 h3

/-- A set's number. -/
def hasI (F : List Nat) (v : Int) : Bool := hasB F v.toNat
/-- One number is met. -/
def stp (s : St) (q : List Nat × List Int) (v : Int) : List Nat × List Int := if bnI s v = true ∧ hasI q.1 v = false then (putW q.1 v.toNat, q.2 ++ [v]) else q
def mts (s : St) (q : List Nat × List Int) (l : List Int) : List Nat × List Int := l.foldl (stp s) q
theorem mts_snoc (s : St) (q : List Nat × List Int) (l : List Int) (v : Int) : mts s q (l ++ [v]) = stp s (mts s q l) v := by simp [mts]
theorem mts_nil (s : St) (q : List Nat × List Int) : mts s q [] = q := rfl

theorem bnI_pos {s : St} {v : Int} (h : bnI s v = true) : 0 ≤ v ∧ bn s v.toNat = true := by
  unfold bnI at h
  rw [Bool.and_eq_true, decide_eq_true_iff] at h
  exact h
theorem bnI_lt {s : St} (hw : Wf s) {v : Int} (h : bnI s v = true) : v.toNat < s.ws.length + 1 := by
  have := (hw.bn_bd (bnI_pos h).2).2
  omega

/-- What holds of a set and what is open, at any time. -/
structure Sq (s : St) (q : List Nat × List Int) : Prop where
  set : SetW (s.ws.length + 1) q.1
  op : ∀ v ∈ q.2, bnI s v = true ∧ hasI q.1 v = true
theorem Sq.has {s : St} {q : List Nat × List Int} (h : Sq s q) (hw : Wf s) {v : Int} (hv : bnI s v = true) (hn : hasI q.1 v = false) (u : Int) (hu : 0 ≤ u) : hasI (putW q.1 v.toNat) u = if u = v then true else hasI q.1 u := by
  unfold hasI at *
  rw [h.set.has_put (bnI_lt hw hv)]
  have := (bnI_pos hv).1
  by_cases e : u = v
  · rw [if_pos e, if_pos (by rw [e]), hn]; rfl
  · rw [if_neg e, if_neg (by omega)]
theorem Sq.stp {s : St} {q : List Nat × List Int} (h : Sq s q) (hw : Wf s) (v : Int) : Sq s (stp s q v) := by
  unfold Tr.stp
  split
  · rename_i hc
    refine ⟨h.set.put (bnI_lt hw hc.1), fun u hu => ?_⟩
    rcases List.mem_append.1 hu with hu | hu
    · obtain ⟨a, b⟩ := h.op u hu
      exact ⟨a, by rw [h.has hw hc.1 hc.2 u (bnI_pos a).1, b]; split <;> rfl⟩
    · rw [List.mem_singleton.1 hu]
      exact ⟨hc.1, by rw [h.has hw hc.1 hc.2 v (bnI_pos hc.1).1, if_pos rfl]⟩
  · exact h
theorem Sq.mts {s : St} (hw : Wf s) : ∀ (l : List Int) {q : List Nat × List Int}, Sq s q → Sq s (mts s q l)
  | [], _, h => h
  | v :: l, _, h => Sq.mts hw l (h.stp hw v)

/-- How many objects the set hasn't. -/
def un (s : St) (F : List Nat) : Nat := ((objL s).filter fun a => !hasI F a).length
theorem filter_one : ∀ (l : List Int) (p : Int → Bool) (v : Int), l.Nodup → v ∈ l → p v = true → (l.filter fun a => p a && !(a == v)).length + 1 = (l.filter p).length
  | [], _, _, _, h, _ => by cases h
  | a :: l, p, v, hn, hm, hp => by
    rw [List.nodup_cons] at hn
    by_cases e : a = v
    · subst e
      have e2 : (l.filter fun b => p b && !(b == a)) = l.filter p := by
        apply List.filter_congr
        intro b hb
        have : b ≠ a := fun e => hn.1 (e ▸ hb)
        simp [this]
      rw [List.filter_cons, List.filter_cons, if_pos hp, if_neg (by simp), e2]
      rfl
    · have ih := filter_one l p v hn.2 ((List.mem_cons.1 hm).resolve_left (Ne.symm e)) hp
      have e2 : (a == v) = false := by simpa using e
      rw [List.filter_cons, List.filter_cons]
      simp only [e2, Bool.not_false, Bool.and_true]
      by_cases h : p a = true
      · rw [if_pos h, if_pos h]
        simp only [List.length_cons]
        omega
      · rw [if_neg h, if_neg h]
        exact ih
theorem objL_mem {s : St} (hw : Wf s) (hk : ∀ j, kAt s.ks j < 4) {x : Int} : x ∈ objL s ↔ bnI s x = true := by
  unfold objL
  rw [pkA_eq, List.mem_filter, mem_allP hw hk]
  exact ⟨fun h => h.2, fun h => ⟨hw.bnI_own h, h⟩⟩
theorem objL_nodup {s : St} (hw : Wf s) (hk : ∀ j, kAt s.ks j < 4) : (objL s).Nodup := (pkA_sorted hw hk _).imp (fun h => by omega)
theorem un_stp {s : St} {q : List Nat × List Int} (h : Sq s q) (hw : Wf s) (hk : ∀ j, kAt s.ks j < 4) (v : Int) : un s (stp s q v).1 + (stp s q v).2.length = un s q.1 + q.2.length := by
  unfold Tr.stp
  split
  · rename_i hc
    have e : un s (putW q.1 v.toNat) + 1 = un s q.1 := by
      unfold un
      rw [← filter_one (objL s) (fun a => !hasI q.1 a) v (objL_nodup hw hk) ((objL_mem hw hk).2 hc.1) (by rw [hc.2]; rfl)]
      congr 2
      apply List.filter_congr
      intro b hb
      rw [h.has hw hc.1 hc.2 b (bnI_pos ((objL_mem hw hk).1 hb)).1]
      by_cases e : b = v
      · simp [e]
      · simp [e]
    simp only [List.length_append, List.length_singleton]
    omega
  · rfl
theorem un_mts {s : St} (hw : Wf s) (hk : ∀ j, kAt s.ks j < 4) : ∀ (l : List Int) {q : List Nat × List Int}, Sq s q → un s (mts s q l).1 + (mts s q l).2.length = un s q.1 + q.2.length
  | [], _, _ => rfl
  | v :: l, _, h => (un_mts hw hk l (h.stp hw v)).trans (un_stp h hw hk v)

theorem stp_mono {s : St} {q : List Nat × List Int} (h : Sq s q) (hw : Wf s) (v u : Int) (hu : 0 ≤ u) (hh : hasI q.1 u = true) : hasI (stp s q v).1 u = true := by
  unfold Tr.stp
  split
  · rename_i hc
    rw [h.has hw hc.1 hc.2 u hu, hh]; split <;> rfl
  · exact hh
theorem mts_mono {s : St} (hw : Wf s) : ∀ (l : List Int) {q : List Nat × List Int}, Sq s q → ∀ u, 0 ≤ u → hasI q.1 u = true → hasI (mts s q l).1 u = true
  | [], _, _, _, _, h => h
  | v :: l, _, h, u, hu, hh => mts_mono hw l (h.stp hw v) u hu (stp_mono h hw v u hu hh)
theorem stp_has {s : St} {q : List Nat × List Int} (h : Sq s q) (hw : Wf s) (v : Int) (hv : bnI s v = true) : hasI (stp s q v).1 v = true := by
  unfold Tr.stp
  split
  · rename_i hc
    rw [h.has hw hc.1 hc.2 v (bnI_pos hv).1, if_pos rfl]
  · rename_i hc
    cases e : hasI q.1 v with
    | true => rfl
    | false => exact absurd ⟨hv, e⟩ hc
theorem mts_has {s : St} (hw : Wf s) : ∀ (l : List Int) {q : List Nat × List Int}, Sq s q → ∀ v ∈ l, bnI s v = true → hasI (mts s q l).1 v = true
  | [], _, _, _, hm, _ => by cases hm
  | a :: l, q, h, v, hm, hv => by
    rcases List.mem_cons.1 hm with e | e
    · subst e
      exact mts_mono hw l (h.stp hw v) v (bnI_pos hv).1 (stp_has h hw v hv)
    · exact mts_has hw l (h.stp hw a) v e hv
theorem stp_from {s : St} {q : List Nat × List Int} (h : Sq s q) (hw : Wf s) (v u : Int) (hu : 0 ≤ u) (hh : hasI (stp s q v).1 u = true) : hasI q.1 u = true ∨ u = v ∧ bnI s u = true ∧ u ∈ (stp s q v).2 := by
  unfold Tr.stp at *
  split at hh
  · rename_i hc
    rw [h.has hw hc.1 hc.2 u hu] at hh
    by_cases e : u = v
    · right
      rw [if_pos hc]
      exact ⟨e, e ▸ hc.1, by rw [e]; simp⟩
    · rw [if_neg e] at hh
      exact .inl hh
  · exact .inl hh
theorem stp_open {s : St} {q : List Nat × List Int} (v u : Int) (hu : u ∈ q.2) : u ∈ (stp s q v).2 := by
  unfold Tr.stp
  split
  · exact List.mem_append_left _ hu
  · exact hu
theorem mts_open {s : St} : ∀ (l : List Int) {q : List Nat × List Int} (u : Int), u ∈ q.2 → u ∈ (mts s q l).2
  | [], _, _, h => h
  | v :: l, _, u, h => mts_open l u (stp_open v u h)
theorem mts_from {s : St} (hw : Wf s) : ∀ (l : List Int) {q : List Nat × List Int}, Sq s q → ∀ u, 0 ≤ u → hasI (mts s q l).1 u = true → hasI q.1 u = true ∨ u ∈ l ∧ bnI s u = true ∧ u ∈ (mts s q l).2
  | [], _, _, _, _, h => .inl h
  | v :: l, q, h, u, hu, hh => by
    rcases mts_from hw l (h.stp hw v) u hu hh with e | ⟨e1, e2, e3⟩
    · rcases stp_from h hw v u hu e with e | ⟨e1, e2, e3⟩
      · exact .inl e
      · exact .inr ⟨by rw [e1]; simp, e2, mts_open l u e3⟩
    · exact .inr ⟨List.mem_cons_of_mem _ e1, e2, e3⟩

/-- A search under way: what it has found is reached; what isn't open any more has been looked at. -/
structure Sch (s : St) (R : List Int) (q : List Nat × List Int) : Prop where
  sq : Sq s q
  born : ∀ u, 0 ≤ u → hasI q.1 u = true → bnI s u = true ∧ Rch s R u
  done : ∀ u, 0 ≤ u → hasI q.1 u = true → u ∈ q.2 ∨ ∀ v ∈ fs s u, bnI s v = true → hasI q.1 v = true
theorem Sch.start (s : St) (R : List Int) : Sch s R (List.replicate ((s.ws.length + 1 + 63) / 64) 0, []) :=
  ⟨⟨setW_zero _, fun v hv => (by cases hv)⟩, fun u _ h => (by unfold hasI at h; rw [hasB_zero] at h; cases h), fun u _ h => (by unfold hasI at h; rw [hasB_zero] at h; cases h)⟩
/-- Roots are met. -/
theorem Sch.roots {s : St} {R : List Int} {q : List Nat × List Int} (h : Sch s R q) (hw : Wf s) {l : List Int} (hl : ∀ r ∈ l, r ∈ R) : Sch s R (mts s q l) := by
  refine ⟨Sq.mts hw l h.sq, fun u hu hh => ?_, fun u hu hh => ?_⟩
  · rcases mts_from hw l h.sq u hu hh with e | ⟨e1, e2, e3⟩
    · exact h.born u hu e
    · exact ⟨e2, .root (hl u e1) e2⟩
  · rcases mts_from hw l h.sq u hu hh with e | ⟨e1, e2, e3⟩
    · rcases h.done u hu e with e | e
      · exact .inl (mts_open l u e)
      · exact .inr fun v hv hb => mts_mono hw l h.sq v (bnI_pos hb).1 (e v hv hb)
    · exact .inl e3
/-- The last one that is open is looked at. -/
theorem Sch.look {s : St} {R : List Int} {F : List Nat} {ol : List Int} {a : Int} (h : Sch s R (F, ol ++ [a])) (hw : Wf s) : Sch s R (mts s (F, ol) ((fs s a).filter fun v => !(v == 0))) := by
  have hq : Sq s (F, ol) := ⟨h.sq.set, fun v hv => h.sq.op v (List.mem_append_left _ hv)⟩
  obtain ⟨ha, hFa⟩ := h.sq.op a (by simp)
  refine ⟨Sq.mts hw _ hq, fun u hu hh => ?_, fun u hu hh => ?_⟩
  · rcases mts_from hw _ hq u hu hh with e | ⟨e1, e2, e3⟩
    · exact h.born u hu e
    · exact ⟨e2, .step (h.born a (bnI_pos ha).1 hFa).2 (List.mem_filter.1 e1).1 e2⟩
  · rcases mts_from hw _ hq u hu hh with e | ⟨e1, e2, e3⟩
    · by_cases hua : u = a
      · refine .inr fun v hv hb => mts_has hw _ hq v (List.mem_filter.2 ⟨hua ▸ hv, ?_⟩) hb
        have := (hw.bn_bd (bnI_pos hb).2).1
        have := (bnI_pos hb).1
        simp; omega
      · rcases h.done u hu e with e2 | e2
        · left
          rcases List.mem_append.1 e2 with e3 | e3
          · exact mts_open _ u e3
          · exact absurd (List.mem_singleton.1 e3) hua
        · exact .inr fun v hv hb => mts_mono hw _ hq v (bnI_pos hb).1 (e2 v hv hb)
    · exact .inl e3
/-- At the end just what is reached is found. -/
theorem Sch.fin {s : St} {R : List Int} {F : List Nat} (h : Sch s R (F, [])) (hr : ∀ r ∈ R, bnI s r = true → hasI F r = true) (u : Int) (hu : 0 ≤ u) : hasI F u = true ↔ Rch s R u := by
  refine ⟨fun hh => (h.born u hu hh).2, fun hh => ?_⟩
  clear hu
  induction hh with
  | root h1 h2 => exact hr _ h1 h2
  | step h1 h2 h3 ih =>
    rcases h.done _ (bnI_pos h1.born).1 ih with e | e
    · cases e
    · exact e _ h2 h3
open Classical in
/-- What is reached, rising. -/
noncomputable def rcL (s : St) (R : List Int) : List Int := (objL s).filter fun a => decide (Rch s R a)
open Classical in
noncomputable def gbL (s : St) (R : List Int) : List Int := (objL s).filter fun a => !decide (Rch s R a)
end Go.Proofs.YtpcgmkchflmcmaaGreatDoor.Tr
