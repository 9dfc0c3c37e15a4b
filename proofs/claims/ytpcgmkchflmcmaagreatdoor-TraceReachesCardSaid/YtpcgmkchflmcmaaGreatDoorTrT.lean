/-
  Plain: marking, with a stack of any room and a set of what is owed.
-/
import Derived.Test.YtpcgmkchflmcmaaGreatDoorTrQ2
import Derived.Test.YtpcgmkchflmcmaaGreatDoorHq2
namespace Go.Proofs.YtpcgmkchflmcmaaGreatDoor.Tr
open Go.RowKit
open Blk (Cfg allP kAt)
open Hp (Ids St Wf bn bnI bnI_nat fN objL mem_allP pkA_eq pkA_sorted putS_has)

/-- Marking under way: colors, what is owed, the stack, whether it refused one, how many are painted. -/
structure Mq where
  os : List Nat
  ow : List Nat
  st : List Int
  ov : Bool
  p : Nat
def sz (s : St) : Nat := s.ws.length + 1
def pt (b : Bool) (q : Mq) (v : Int) : Bool := hasI q.os v == b
/-- One number is met. -/
def mstp (s : St) (b : Bool) (room : Nat) (q : Mq) (v : Int) : Mq :=
  if bnI s v = true ∧ pt b q v = false then ⟨Bits.putS (sz s) q.os v b, Bits.putS (sz s) q.ow v true, if q.st.length < room then q.st ++ [v] else q.st, if q.st.length < room then q.ov else true, q.p + 1⟩ else q
def mmts (s : St) (b : Bool) (room : Nat) (q : Mq) (l : List Int) : Mq := l.foldl (mstp s b room) q
theorem mmts_snoc (s : St) (b : Bool) (room : Nat) (q : Mq) (l : List Int) (v : Int) : mmts s b room q (l ++ [v]) = mstp s b room (mmts s b room q l) v := by simp [mmts]

theorem putS_int {s : St} (hw : Wf s) {F : List Nat} (hs : SetW (sz s) F) {v : Int} (hv : bnI s v = true) (x : Bool) {u : Int} (hu : 0 ≤ u) : hasI (Bits.putS (sz s) F v x) u = if u = v then x else hasI F u := by
  have h0 := (bnI_pos hv).1
  obtain ⟨n, rfl⟩ := Int.eq_ofNat_of_zero_le h0
  obtain ⟨m, rfl⟩ := Int.eq_ofNat_of_zero_le hu
  have hl := bnI_lt hw hv
  unfold hasI
  rw [Int.toNat_natCast, putS_has hs (by unfold sz; simpa using hl) x m]
  by_cases e : m = n
  · rw [if_pos e, if_pos (by rw [e])]
  · rw [if_neg e, if_neg (by omega)]
theorem putS_set {s : St} (hw : Wf s) {F : List Nat} (hs : SetW (sz s) F) {v : Int} (hv : bnI s v = true) (x : Bool) : SetW (sz s) (Bits.putS (sz s) F v x) := by
  unfold Bits.putS
  split
  · exact hs.put (bnI_lt hw hv)
  · exact hs

theorem filter_parts (l : List Int) (p : Int → Bool) : (l.filter p).length + (l.filter fun a => !p a).length = l.length := by
  induction l with
  | nil => rfl
  | cons a l ih =>
    rw [List.filter_cons, List.filter_cons]
    cases h : p a
    · simp only [Bool.not_false, if_true, Bool.false_eq_true, if_false, List.length_cons]; omega
    · simp only [Bool.not_true, if_true, Bool.false_eq_true, if_false, List.length_cons]; omega
/-- How many objects aren't painted; how many are owed. -/
def upn (s : St) (b : Bool) (q : Mq) : Nat := ((objL s).filter fun a => !pt b q a).length
def now (s : St) (q : Mq) : Nat := ((objL s).filter fun a => hasI q.ow a).length
structure Mi (s : St) (b : Bool) (room N : Nat) (R : List Int) (A E : Int → Prop) (q : Mq) : Prop where
  so : SetW (sz s) q.os
  sw : SetW (sz s) q.ow
  born : ∀ u, bnI s u = true → pt b q u = true → Rch s R u
  owe : ∀ u, 0 ≤ u → hasI q.ow u = true → bnI s u = true ∧ pt b q u = true
  stk : ∀ u ∈ q.st, bnI s u = true ∧ pt b q u = true
  done : ∀ u, bnI s u = true → pt b q u = true → A u ∨ hasI q.ow u = true ∨ ∀ v ∈ fs s u, bnI s v = true → pt b q v = true
  ref : ∀ u, 0 ≤ u → hasI q.ow u = true → u ∈ q.st ∨ q.ov = true ∨ E u
  len : q.st.length ≤ room ∧ q.st.length ≤ q.p
  cnt : q.p + upn s b q = N
  big : N ≤ room → q.ov = false
section
variable {s : St} {b : Bool} {room N : Nat} {R : List Int} {A E : Int → Prop} {q : Mq}
theorem Mi.pt_meet (h : Mi s b room N R A E q) (hw : Wf s) (v : Int) {u : Int} (hu : 0 ≤ u) : pt b (mstp s b room q v) u = (pt b q u || (decide (u = v) && bnI s v)) := by
  unfold mstp
  split
  · rename_i hc
    unfold pt
    simp only
    rw [putS_int hw h.so hc.1 b hu]
    by_cases e : u = v
    · rw [if_pos e, hc.1]; simp [e]
    · rw [if_neg e]; simp [e]
  · rename_i hc
    by_cases e : u = v
    · subst e
      cases hb : bnI s u with
      | false => simp
      | true =>
        have : pt b q u = true := by
          cases hp : pt b q u with
          | true => rfl
          | false => exact absurd ⟨hb, hp⟩ hc
        rw [this]; simp
    · simp [e]
theorem Mi.pt_keep (h : Mi s b room N R A E q) (hw : Wf s) (v : Int) {u : Int} (hu : 0 ≤ u) (hp : pt b q u = true) : pt b (mstp s b room q v) u = true := by
  rw [h.pt_meet hw v hu, hp]; rfl
/-- What one more number turns in the counts. -/
structure Less (s : St) (b : Bool) (q q' : Mq) : Prop where
  phi : 2 * upn s b q' + q'.st.length + now s q' ≤ 2 * upn s b q + q.st.length + now s q
  msr : 2 * upn s b q' + q'.st.length + q'.ov.toNat ≤ 2 * upn s b q + q.st.length + q.ov.toNat
  rej : q.p + q'.ov.toNat ≤ q'.p + q.ov.toNat
theorem Less.refl (s : St) (b : Bool) (q : Mq) : Less s b q q := ⟨Nat.le_refl _, Nat.le_refl _, Nat.le_refl _⟩
theorem Less.trans {a c d : Mq} (h : Less s b a c) (k : Less s b c d) : Less s b a d := ⟨Nat.le_trans k.phi h.phi, Nat.le_trans k.msr h.msr, by have := h.rej; have := k.rej; omega⟩
theorem Mi.meet (h : Mi s b room N R A E q) (hw : Wf s) (hk : ∀ j, kAt s.ks j < 4) (v : Int) (hv : bnI s v = true → Rch s R v) : Mi s b room N R A E (mstp s b room q v) ∧ Less s b q (mstp s b room q v) := by
  have hpt := fun u hu => h.pt_meet hw v (u := u) hu
  by_cases hc : bnI s v = true ∧ pt b q v = false
  · have hq : mstp s b room q v = ⟨Bits.putS (sz s) q.os v b, Bits.putS (sz s) q.ow v true, if q.st.length < room then q.st ++ [v] else q.st, if q.st.length < room then q.ov else true, q.p + 1⟩ := by unfold mstp; rw [if_pos hc]
    have h0 := (bnI_pos hc.1).1
    have how : ∀ u, 0 ≤ u → hasI (mstp s b room q v).ow u = if u = v then true else hasI q.ow u := fun u hu => by rw [hq]; exact putS_int hw h.sw hc.1 true hu
    have hvo : hasI q.ow v = false := by
      cases e : hasI q.ow v with
      | false => rfl
      | true => rw [(h.owe v h0 e).2] at hc; exact absurd hc.2 (by decide)
    have hup : upn s b (mstp s b room q v) + 1 = upn s b q := by
      unfold upn
      rw [← filter_one (objL s) (fun a => !pt b q a) v (objL_nodup hw hk) ((objL_mem hw hk).2 hc.1) (by rw [hc.2]; rfl)]
      congr 2
      apply List.filter_congr
      intro a ha
      rw [hpt a (bnI_pos ((objL_mem hw hk).1 ha)).1, hc.1]
      by_cases e : a = v <;> simp [e]
    have hno : now s (mstp s b room q v) = now s q + 1 := by
      unfold now
      rw [← filter_one (objL s) (fun a => hasI (mstp s b room q v).ow a) v (objL_nodup hw hk) ((objL_mem hw hk).2 hc.1) (by rw [how v h0, if_pos rfl])]
      congr 2
      apply List.filter_congr
      intro a ha
      have ha0 := (bnI_pos ((objL_mem hw hk).1 ha)).1
      rw [how a ha0]
      by_cases e : a = v
      · subst e; simp [hvo]
      · simp [e]
    have hcn := h.cnt
    have hst : (mstp s b room q v).st = if q.st.length < room then q.st ++ [v] else q.st := by rw [hq]
    have hov : (mstp s b room q v).ov = if q.st.length < room then q.ov else true := by rw [hq]
    have hp : (mstp s b room q v).p = q.p + 1 := by rw [hq]
    have hlen := h.len
    constructor
    · refine ⟨by rw [hq]; exact putS_set hw h.so hc.1 b, by rw [hq]; exact putS_set hw h.sw hc.1 true, fun u hu hpu => ?_, fun u hu hh => ?_, fun u hu => ?_, fun u hu hpu => ?_, fun u hu hh => ?_, ?_, by rw [hp]; omega, fun hN => ?_⟩
      · rw [hpt u (bnI_pos hu).1] at hpu
        by_cases e : u = v
        · exact e ▸ hv hc.1
        · exact h.born u hu (by simpa [e] using hpu)
      · rw [how u hu] at hh
        by_cases e : u = v
        · exact ⟨e ▸ hc.1, by rw [hpt u hu, hc.1]; simp [e]⟩
        · rw [if_neg e] at hh
          exact ⟨(h.owe u hu hh).1, h.pt_keep hw v hu (h.owe u hu hh).2⟩
      · have hmem : u ∈ q.st ∨ u = v := by
          rw [hst] at hu
          split at hu
          · exact (List.mem_append.1 hu).imp id (fun e => List.mem_singleton.1 e)
          · exact .inl hu
        rcases hmem with e | e
        · exact ⟨(h.stk u e).1, h.pt_keep hw v (bnI_pos (h.stk u e).1).1 (h.stk u e).2⟩
        · exact ⟨e ▸ hc.1, by rw [hpt u (by omega), hc.1]; simp [e]⟩
      · have hu0 := (bnI_pos hu).1
        by_cases e : u = v
        · exact .inr (.inl (by rw [how u hu0, if_pos e]))
        · rw [hpt u hu0] at hpu
          rcases h.done u hu (by simpa [e] using hpu) with e2 | e2 | e2
          · exact .inl e2
          · exact .inr (.inl (by rw [how u hu0, if_neg e]; exact e2))
          · exact .inr (.inr fun x hx hb => h.pt_keep hw v (bnI_pos hb).1 (e2 x hx hb))
      · rw [how u hu] at hh
        rw [hst, hov]
        by_cases hr : q.st.length < room
        · rw [if_pos hr, if_pos hr]
          by_cases e : u = v
          · exact .inl (by rw [e]; simp)
          · rw [if_neg e] at hh
            exact (h.ref u hu hh).imp (fun e => List.mem_append_left _ e) id
        · rw [if_neg hr, if_neg hr]
          exact .inr (.inl rfl)
      · rw [hst, hp]
        split
        · rw [List.length_append, List.length_singleton]; omega
        · omega
      · rw [hov]
        have : q.st.length < room := by omega
        rw [if_pos this]
        exact h.big hN
    · refine ⟨?_, ?_, ?_⟩
      · rw [hno, hst]
        split
        · rw [List.length_append, List.length_singleton]; omega
        · omega
      · rw [hst, hov]
        by_cases hr : q.st.length < room
        · rw [if_pos hr, if_pos hr, List.length_append, List.length_singleton]; omega
        · rw [if_neg hr, if_neg hr]
          have : true.toNat = 1 := rfl
          omega
      · rw [hp, hov]
        by_cases hr : q.st.length < room
        · rw [if_pos hr]; omega
        · rw [if_neg hr]
          have : true.toNat = 1 := rfl
          omega
  · have hq : mstp s b room q v = q := by unfold mstp; rw [if_neg hc]
    rw [hq]
    exact ⟨h, Less.refl _ _ _⟩
theorem Mi.meets (hw : Wf s) (hk : ∀ j, kAt s.ks j < 4) : ∀ (l : List Int) {q : Mq}, Mi s b room N R A E q → (∀ v ∈ l, bnI s v = true → Rch s R v) →
    Mi s b room N R A E (mmts s b room q l) ∧ Less s b q (mmts s b room q l) ∧ (∀ v ∈ l, bnI s v = true → pt b (mmts s b room q l) v = true) ∧ ∀ u, 0 ≤ u → pt b q u = true → pt b (mmts s b room q l) u = true
  | [], q, h, _ => ⟨h, Less.refl _ _ _, fun v hv => (by cases hv), fun _ _ h => h⟩
  | a :: l, q, h, hl => by
    obtain ⟨h1, h2⟩ := h.meet hw hk a (hl a (by simp))
    obtain ⟨h3, h4, h5, h6⟩ := Mi.meets hw hk l h1 (fun v hv => hl v (List.mem_cons_of_mem _ hv))
    refine ⟨h3, h2.trans h4, fun v hv hb => ?_, fun u hu hp => h6 u hu (h.pt_keep hw a hu hp)⟩
    rcases List.mem_cons.1 hv with e | e
    · subst e
      exact h6 v (bnI_pos hb).1 (by rw [h.pt_meet hw v (bnI_pos hb).1, hb]; simp)
    · exact h5 v e hb
/-- What is looked at isn't owed any more. -/
def lk0 (s : St) (q : Mq) (a : Int) (st : List Int) : Mq := ⟨q.os, Bits.putS (sz s) q.ow a false, st, q.ov, q.p⟩
theorem Mi.opn {E' : Int → Prop} (h : Mi s b room N R (fun _ => False) E q) (hw : Wf s) {a : Int} (ha : bnI s a = true) (st : List Int) (hst : ∀ u ∈ st, u ∈ q.st) (hl : st.length ≤ q.st.length)
    (hE : ∀ u, 0 ≤ u → u ≠ a → hasI q.ow u = true → u ∈ st ∨ q.ov = true ∨ E' u) : Mi s b room N R (fun u => u = a) E' (lk0 s q a st) := by
  have how : ∀ u, 0 ≤ u → hasI (lk0 s q a st).ow u = if u = a then false else hasI q.ow u := fun u hu => putS_int hw h.sw ha false hu
  have hll := h.len
  refine ⟨h.so, putS_set hw h.sw ha false, h.born, fun u hu hh => ?_, fun u hu => h.stk u (hst u hu), fun u hu hp => ?_, fun u hu hh => ?_, ⟨?_, ?_⟩, h.cnt, h.big⟩
  · rw [how u hu] at hh
    by_cases e : u = a
    · rw [if_pos e] at hh; cases hh
    · rw [if_neg e] at hh; exact h.owe u hu hh
  · by_cases e : u = a
    · exact .inl e
    · rcases h.done u hu hp with e2 | e2 | e2
      · exact e2.elim
      · exact .inr (.inl (by rw [how u (bnI_pos hu).1, if_neg e]; exact e2))
      · exact .inr (.inr e2)
  · rw [how u hu] at hh
    by_cases e : u = a
    · rw [if_pos e] at hh; cases hh
    · rw [if_neg e] at hh; exact hE u hu e hh
  · show st.length ≤ room; omega
  · show st.length ≤ q.p; omega
theorem Mi.cls {a : Int} (h : Mi s b room N R (fun u => u = a) E q) (he : ∀ v ∈ fs s a, bnI s v = true → pt b q v = true) : Mi s b room N R (fun _ => False) E q :=
  ⟨h.so, h.sw, h.born, h.owe, h.stk, fun u hu hp => (h.done u hu hp).elim (fun e => .inr (.inr (by rw [e]; exact he))) .inr, h.ref, h.len, h.cnt, h.big⟩
/-- A look whole. -/
theorem Mi.look {E' : Int → Prop} (h : Mi s b room N R (fun _ => False) E q) (hw : Wf s) (hk : ∀ j, kAt s.ks j < 4) {a : Int} (ha : bnI s a = true) (hp : pt b q a = true) (st : List Int) (hst : ∀ u ∈ st, u ∈ q.st) (hl : st.length ≤ q.st.length)
    (hE : ∀ u, 0 ≤ u → u ≠ a → hasI q.ow u = true → u ∈ st ∨ q.ov = true ∨ E' u) :
    Mi s b room N R (fun _ => False) E' (mmts s b room (lk0 s q a st) ((fs s a).filter fun v => !(v == 0))) ∧ Less s b (lk0 s q a st) (mmts s b room (lk0 s q a st) ((fs s a).filter fun v => !(v == 0))) ∧ ∀ u, 0 ≤ u → pt b q u = true → pt b (mmts s b room (lk0 s q a st) ((fs s a).filter fun v => !(v == 0))) u = true := by
  have h1 := h.opn hw ha st hst hl hE
  obtain ⟨h2, h3, h4, h5⟩ := Mi.meets hw hk ((fs s a).filter fun v => !(v == 0)) h1 (fun v hv hb => .step (h.born a ha hp) (List.mem_filter.1 hv).1 hb)
  refine ⟨h2.cls (fun v hv hb => h4 v (List.mem_filter.2 ⟨hv, ?_⟩) hb), h3, h5⟩
  have := (hw.bn_bd (bnI_pos hb).2).1
  have := (bnI_pos hb).1
  simp; omega
theorem now_lk0 (hw : Wf s) (hk : ∀ j, kAt s.ks j < 4) (hs : SetW (sz s) q.ow) {a : Int} (ha : bnI s a = true) (st : List Int) : now s (lk0 s q a st) + (hasI q.ow a).toNat = now s q := by
  have how : ∀ u, 0 ≤ u → hasI (lk0 s q a st).ow u = if u = a then false else hasI q.ow u := fun u hu => putS_int hw hs ha false hu
  unfold now
  cases e : hasI q.ow a with
  | true =>
    rw [← filter_one (objL s) (fun x => hasI q.ow x) a (objL_nodup hw hk) ((objL_mem hw hk).2 ha) e]
    show _ + 1 = _
    congr 2
    apply List.filter_congr
    intro x hx
    rw [how x (bnI_pos ((objL_mem hw hk).1 hx)).1]
    by_cases e2 : x = a <;> simp [e2]
  | false =>
    show _ + 0 = _
    rw [Nat.add_zero]
    congr 1
    apply List.filter_congr
    intro x hx
    rw [how x (bnI_pos ((objL_mem hw hk).1 hx)).1]
    by_cases e2 : x = a
    · rw [if_pos e2, e2, e]
    · rw [if_neg e2]
theorem Mi.start (os : List Nat) (ho : SetW (sz s) os) (hno : ∀ u, bnI s u = true → (hasI os u == b) = false) : Mi s b room (objL s).length R (fun _ => False) (fun _ => False) ⟨os, List.replicate ((sz s + 63) / 64) 0, [], false, 0⟩ := by
  have hz : ∀ u, hasI (List.replicate ((sz s + 63) / 64) 0) u = false := fun u => by unfold hasI; exact hasB_zero _ _
  have hp : ∀ u, bnI s u = true → pt b (⟨os, List.replicate ((sz s + 63) / 64) 0, [], false, 0⟩ : Mq) u = false := hno
  refine ⟨ho, setW_zero _, fun u hu h => (by rw [hp u hu] at h; cases h), fun u _ h => (by rw [hz u] at h; cases h), fun u hu => (by cases hu), fun u hu h => (by rw [hp u hu] at h; cases h), fun u _ h => (by rw [hz u] at h; cases h), ⟨Nat.zero_le _, Nat.zero_le _⟩, ?_, fun _ => rfl⟩
  show 0 + upn s b _ = _
  rw [Nat.zero_add]
  unfold upn
  rw [List.filter_eq_self.2]
  intro a ha
  by_cases hb : bnI s a = true
  · rw [hp a hb]; rfl
  · exact absurd (Hp.pkA_holds ha) hb
open Classical in
/-- At the end. -/
theorem Mi.fin (h : Mi s b room N R (fun _ => False) (fun _ => False) q) (hw : Wf s) (hk : ∀ j, kAt s.ks j < 4) (hst : q.st = []) (hov : q.ov = false) (hr : ∀ r ∈ R, bnI s r = true → pt b q r = true) (hN : N = (objL s).length) :
    (∀ u, bnI s u = true → (pt b q u = true ↔ Rch s R u)) ∧ q.p = ((objL s).filter fun a => decide (Rch s R a)).length := by
  have hno : ∀ u, 0 ≤ u → hasI q.ow u = false := fun u hu => by
    cases e : hasI q.ow u with
    | false => rfl
    | true =>
      rcases h.ref u hu e with e2 | e2 | e2
      · rw [hst] at e2; cases e2
      · rw [hov] at e2; cases e2
      · exact e2.elim
  have hcl : ∀ u, Rch s R u → pt b q u = true := fun u hu => by
    induction hu with
    | root h1 h2 => exact hr _ h1 h2
    | step h1 h2 h3 ih =>
      rcases h.done _ h1.born ih with e | e | e
      · exact e.elim
      · rw [hno _ (bnI_pos h1.born).1] at e; cases e
      · exact e _ h2 h3
  have hiff : ∀ u, bnI s u = true → (pt b q u = true ↔ Rch s R u) := fun u hu => ⟨h.born u hu, hcl u⟩
  refine ⟨hiff, ?_⟩
  have h1 := h.cnt
  have h2 := filter_parts (objL s) (fun a => pt b q a)
  have e : (objL s).filter (fun a => pt b q a) = (objL s).filter fun a => decide (Rch s R a) := by
    apply List.filter_congr
    intro a ha
    by_cases hr : Rch s R a
    · rw [decide_eq_true hr]; exact hcl a hr
    · rw [decide_eq_false hr]
      exact eq_false_of_ne_true (fun e => hr ((hiff a ((objL_mem hw hk).1 ha)).1 e))
  rw [← e]
  unfold upn at h1
  omega
end
end Go.Proofs.YtpcgmkchflmcmaaGreatDoor.Tr
