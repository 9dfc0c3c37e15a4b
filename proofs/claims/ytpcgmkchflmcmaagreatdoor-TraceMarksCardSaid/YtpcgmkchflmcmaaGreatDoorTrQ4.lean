/-
  Marking: plain; in memory; Mark.
-/
import Derived.Test.YtpcgmkchflmcmaaGreatDoorTrQ2
import Derived.Test.YtpcgmkchflmcmaaGreatDoorHq2
import Derived.Test.YtpcgmkchflmcmaaGreatDoorTrQ1
import Derived.Test.YtpcgmkchflmcmaaGreatDoorStm
import Derived.Test.YtpcgmkchflmcmaaGreatDoorRq2
import Derived.Deep.RegionHeld3
import Derived.Deep.LoopGhost
namespace Go.Proofs.YtpcgmkchflmcmaaGreatDoor.Tr
open Go.RowKit
open Blk (Cfg allP kAt)
open Hp (Ids St Wf bn bnI bnI_nat fN objL mem_allP pkA_eq pkA_sorted putS_has)

/-- Marking under way: colors, what is owed, the stack, whether it refused one, how many are painted. -/
structure Mq where
  os : List Nat
  ow : List Nat
  st : List Int
  ov : Bool
  p : Nat
def sz (s : St) : Nat := s.ws.length + 1
def pt (b : Bool) (q : Mq) (v : Int) : Bool := hasI q.os v == b
/-- One number is met. -/
def mstp (s : St) (b : Bool) (room : Nat) (q : Mq) (v : Int) : Mq :=
  if bnI s v = true ∧ pt b q v = false then ⟨Bits.putS (sz s) q.os v b, Bits.putS (sz s) q.ow v true, if q.st.length < room then q.st ++ [v] else q.st, if q.st.length < room then q.ov else true, q.p + 1⟩ else q
def mmts (s : St) (b : Bool) (room : Nat) (q : Mq) (l : List Int) : Mq := l.foldl (mstp s b room) q
theorem mmts_snoc (s : St) (b : Bool) (room : Nat) (q : Mq) (l : List Int) (v : Int) : mmts s b room q (l ++ [v]) = mstp s b room (mmts s b room q l) v := by simp [mmts]

theorem putS_int {s : St} (hw : Wf s) {F : List Nat} (hs : SetW (sz s) F) {v : Int} (hv : bnI s v = true) (x : Bool) {u : Int} (hu : 0 ≤ u) : hasI (Bits.putS (sz s) F v x) u = if u = v then x else hasI F u := by
  have h0 := (bnI_pos hv).1
  obtain ⟨n, rfl⟩ := Int.eq_ofNat_of_zero_le h0
  obtain ⟨m, rfl⟩ := Int.eq_ofNat_of_zero_le hu
  have hl := bnI_lt hw hv
  unfold hasI
  rw [Int.toNat_natCast, putS_has hs (by unfold sz; simpa using hl) x m]
  by_cases e : m = n
  · rw [if_pos e, if_pos (by rw [e])]
  · rw [if_neg e, if_neg (by omega)]
theorem putS_set {s : St} (hw : Wf s) {F : List Nat} (hs : SetW (sz s) F) {v : Int} (hv : bnI s v = true) (x : Bool) : SetW (sz s) (Bits.putS (sz s) F v x) := by
  unfold Bits.putS
  split
  · exact hs.put (bnI_lt hw hv)
  · exact hs

theorem filter_parts (l : List Int) (p : Int → Bool) : (l.filter p).length + (l.filter fun a => !p a).length = l.length := by
  induction l with
  | nil => rfl
  | cons a l ih =>
    rw [List.filter_cons, List.filter_cons]
    cases h : p a
    · simp only [Bool.not_false, if_true, Bool.false_eq_true, if_false, List.length_cons]; omega
    · simp only [Bool.not_true, if_true, Bool.false_eq_true, if_false, List.length_cons]; omega
/-- How many objects aren't painted; how many are owed. -/
def upn (s : St) (b : Bool) (q : Mq) : Nat := ((objL s).filter fun a => !pt b q a).length
def now (s : St) (q : Mq) : Nat := ((objL s).filter fun a => hasI q.ow a).length
structure Mi (s : St) (b : Bool) (room N : Nat) (R : List Int) (A E : Int → Prop) (q : Mq) : Prop where
  so : SetW (sz s) q.os
  sw : SetW (sz s) q.ow
  born : ∀ u, bnI s u = true → pt b q u = true → Rch s R u
  owe : ∀ u, 0 ≤ u → hasI q.ow u = true → bnI s u = true ∧ pt b q u = true
  stk : ∀ u ∈ q.st, bnI s u = true ∧ pt b q u = true
  done : ∀ u, bnI s u = true → pt b q u = true → A u ∨ hasI q.ow u = true ∨ ∀ v ∈ fs s u, bnI s v = true → pt b q v = true
  ref : ∀ u, 0 ≤ u → hasI q.ow u = true → u ∈ q.st ∨ q.ov = true ∨ E u
  len : q.st.length ≤ room ∧ q.st.length ≤ q.p
  cnt : q.p + upn s b q = N
  big : N ≤ room → q.ov = false
section
variable {s : St} {b : Bool} {room N : Nat} {R : List Int} {A E : Int → Prop} {q : Mq}
theorem Mi.pt_meet (h : Mi s b room N R A E q) (hw : Wf s) (v : Int) {u : Int} (hu : 0 ≤ u) : pt b (mstp s b room q v) u = (pt b q u || (decide (u = v) && bnI s v)) := by
  unfold mstp
  split
  · rename_i hc
    unfold pt
    simp only
    rw [putS_int hw h.so hc.1 b hu]
    by_cases e : u = v
    · rw [if_pos e, hc.1]; simp [e]
    · rw [if_neg e]; simp [e]
  · rename_i hc
    by_cases e : u = v
    · subst e
      cases hb : bnI s u with
      | false => simp
      | true =>
        have : pt b q u = true := by
          cases hp : pt b q u with
          | true => rfl
          | false => exact absurd ⟨hb, hp⟩ hc
        rw [this]; simp
    · simp [e]
theorem Mi.pt_keep (h : Mi s b room N R A E q) (hw : Wf s) (v : Int) {u : Int} (hu : 0 ≤ u) (hp : pt b q u = true) : pt b (mstp s b room q v) u = true := by
  rw [h.pt_meet hw v hu, hp]; rfl
/-- What one more number turns in the counts. -/
structure Less (s : St) (b : Bool) (q q' : Mq) : Prop where
  phi : 2 * upn s b q' + q'.st.length + now s q' ≤ 2 * upn s b q + q.st.length + now s q
  msr : 2 * upn s b q' + q'.st.length + q'.ov.toNat ≤ 2 * upn s b q + q.st.length + q.ov.toNat
  rej : q.p + q'.ov.toNat ≤ q'.p + q.ov.toNat
theorem Less.refl (s : St) (b : Bool) (q : Mq) : Less s b q q := ⟨Nat.le_refl _, Nat.le_refl _, Nat.le_refl _⟩
theorem Less.trans {a c d : Mq} (h : Less s b a c) (k : Less s b c d) : Less s b a d := ⟨Nat.le_trans k.phi h.phi, Nat.le_trans k.msr h.msr, by have := h.rej; have := k.rej; omega⟩
theorem Mi.meet (h : Mi s b room N R A E q) (hw : Wf s) (hk : ∀ j, kAt s.ks j < 4) (v : Int) (hv : bnI s v = true → Rch s R v) : Mi s b room N R A E (mstp s b room q v) ∧ Less s b q (mstp s b room q v) := by
  have hpt := fun u hu => h.pt_meet hw v (u := u) hu
  by_cases hc : bnI s v = true ∧ pt b q v = false
  · have hq : mstp s b room q v = ⟨Bits.putS (sz s) q.os v b, Bits.putS (sz s) q.ow v true, if q.st.length < room then q.st ++ [v] else q.st, if q.st.length < room then q.ov else true, q.p + 1⟩ := by unfold mstp; rw [if_pos hc]
    have h0 := (bnI_pos hc.1).1
    have how : ∀ u, 0 ≤ u → hasI (mstp s b room q v).ow u = if u = v then true else hasI q.ow u := fun u hu => by rw [hq]; exact putS_int hw h.sw hc.1 true hu
    have hvo : hasI q.ow v = false := by
      cases e : hasI q.ow v with
      | false => rfl
      | true => rw [(h.owe v h0 e).2] at hc; exact absurd hc.2 (by decide)
    have hup : upn s b (mstp s b room q v) + 1 = upn s b q := by
      unfold upn
      rw [← filter_one (objL s) (fun a => !pt b q a) v (objL_nodup hw hk) ((objL_mem hw hk).2 hc.1) (by rw [hc.2]; rfl)]
      congr 2
      apply List.filter_congr
      intro a ha
      rw [hpt a (bnI_pos ((objL_mem hw hk).1 ha)).1, hc.1]
      by_cases e : a = v <;> simp [e]
    have hno : now s (mstp s b room q v) = now s q + 1 := by
      unfold now
      rw [← filter_one (objL s) (fun a => hasI (mstp s b room q v).ow a) v (objL_nodup hw hk) ((objL_mem hw hk).2 hc.1) (by rw [how v h0, if_pos rfl])]
      congr 2
      apply List.filter_congr
      intro a ha
      have ha0 := (bnI_pos ((objL_mem hw hk).1 ha)).1
      rw [how a ha0]
      by_cases e : a = v
      · subst e; simp [hvo]
      · simp [e]
    have hcn := h.cnt
    have hst : (mstp s b room q v).st = if q.st.length < room then q.st ++ [v] else q.st := by rw [hq]
    have hov : (mstp s b room q v).ov = if q.st.length < room then q.ov else true := by rw [hq]
    have hp : (mstp s b room q v).p = q.p + 1 := by rw [hq]
    have hlen := h.len
    constructor
    · refine ⟨by rw [hq]; exact putS_set hw h.so hc.1 b, by rw [hq]; exact putS_set hw h.sw hc.1 true, fun u hu hpu => ?_, fun u hu hh => ?_, fun u hu => ?_, fun u hu hpu => ?_, fun u hu hh => ?_, ?_, by rw [hp]; omega, fun hN => ?_⟩
      · rw [hpt u (bnI_pos hu).1] at hpu
        by_cases e : u = v
        · exact e ▸ hv hc.1
        · exact h.born u hu (by simpa [e] using hpu)
      · rw [how u hu] at hh
        by_cases e : u = v
        · exact ⟨e ▸ hc.1, by rw [hpt u hu, hc.1]; simp [e]⟩
        · rw [if_neg e] at hh
          exact ⟨(h.owe u hu hh).1, h.pt_keep hw v hu (h.owe u hu hh).2⟩
      · have hmem : u ∈ q.st ∨ u = v := by
          rw [hst] at hu
          split at hu
          · exact (List.mem_append.1 hu).imp id (fun e => List.mem_singleton.1 e)
          · exact .inl hu
        rcases hmem with e | e
        · exact ⟨(h.stk u e).1, h.pt_keep hw v (bnI_pos (h.stk u e).1).1 (h.stk u e).2⟩
        · exact ⟨e ▸ hc.1, by rw [hpt u (by omega), hc.1]; simp [e]⟩
      · have hu0 := (bnI_pos hu).1
        by_cases e : u = v
        · exact .inr (.inl (by rw [how u hu0, if_pos e]))
        · rw [hpt u hu0] at hpu
          rcases h.done u hu (by simpa [e] using hpu) with e2 | e2 | e2
          · exact .inl e2
          · exact .inr (.inl (by rw [how u hu0, if_neg e]; exact e2))
          · exact .inr (.inr fun x hx hb => h.pt_keep hw v (bnI_pos hb).1 (e2 x hx hb))
      · rw [how u hu] at hh
        rw [hst, hov]
        by_cases hr : q.st.length < room
        · rw [if_pos hr, if_pos hr]
          by_cases e : u = v
          · exact .inl (by rw [e]; simp)
          · rw [if_neg e] at hh
            exact (h.ref u hu hh).imp (fun e => List.mem_append_left _ e) id
        · rw [if_neg hr, if_neg hr]
          exact .inr (.inl rfl)
      · rw [hst, hp]
        split
        · rw [List.length_append, List.length_singleton]; omega
        · omega
      · rw [hov]
        have : q.st.length < room := by omega
        rw [if_pos this]
        exact h.big hN
    · refine ⟨?_, ?_, ?_⟩
      · rw [hno, hst]
        split
        · rw [List.length_append, List.length_singleton]; omega
        · omega
      · rw [hst, hov]
        by_cases hr : q.st.length < room
        · rw [if_pos hr, if_pos hr, List.length_append, List.length_singleton]; omega
        · rw [if_neg hr, if_neg hr]
          have : true.toNat = 1 := rfl
          omega
      · rw [hp, hov]
        by_cases hr : q.st.length < room
        · rw [if_pos hr]; omega
        · rw [if_neg hr]
          have : true.toNat = 1 := rfl
          omega
  · have hq : mstp s b room q v = q := by unfold mstp; rw [if_neg hc]
    rw [hq]
    exact ⟨h, Less.refl _ _ _⟩
theorem Mi.meets (hw : Wf s) (hk : ∀ j, kAt s.ks j < 4) : ∀ (l : List Int) {q : Mq}, Mi s b room N R A E q → (∀ v ∈ l, bnI s v = true → Rch s R v) →
    Mi s b room N R A E (mmts s b room q l) ∧ Less s b q (mmts s b room q l) ∧ (∀ v ∈ l, bnI s v = true → pt b (mmts s b room q l) v = true) ∧ ∀ u, 0 ≤ u → pt b q u = true → pt b (mmts s b room q l) u = true
  | [], q, h, _ => ⟨h, Less.refl _ _ _, fun v hv => (by cases hv), fun _ _ h => h⟩
  | a :: l, q, h, hl => by
    obtain ⟨h1, h2⟩ := h.meet hw hk a (hl a (by simp))
    obtain ⟨h3, h4, h5, h6⟩ := Mi.meets hw hk l h1 (fun v hv => hl v (List.mem_cons_of_mem _ hv))
    refine ⟨h3, h2.trans h4, fun v hv hb => ?_, fun u hu hp => h6 u hu (h.pt_keep hw a hu hp)⟩
    rcases List.mem_cons.1 hv with e | e
    · subst e
      exact h6 v (bnI_pos hb).1 (by rw [h.pt_meet hw v (bnI_pos hb).1, hb]; simp)
    · exact h5 v e hb
/-- What is looked at isn't owed any more. -/
def lk0 (s : St) (q : Mq) (a : Int) (st : List Int) : Mq := ⟨q.os, Bits.putS (sz s) q.ow a false, st, q.ov, q.p⟩
theorem Mi.opn {E' : Int → Prop} (h : Mi s b room N R (fun _ => False) E q) (hw : Wf s) {a : Int} (ha : bnI s a = true) (st : List Int) (hst : ∀ u ∈ st, u ∈ q.st) (hl : st.length ≤ q.st.length)
    (hE : ∀ u, 0 ≤ u → u ≠ a → hasI q.ow u = true → u ∈ st ∨ q.ov = true ∨ E' u) : Mi s b room N R (fun u => u = a) E' (lk0 s q a st) := by
  have how : ∀ u, 0 ≤ u → hasI (lk0 s q a st).ow u = if u = a then false else hasI q.ow u := fun u hu => putS_int hw h.sw ha false hu
  have hll := h.len
  refine ⟨h.so, putS_set hw h.sw ha false, h.born, fun u hu hh => ?_, fun u hu => h.stk u (hst u hu), fun u hu hp => ?_, fun u hu hh => ?_, ⟨?_, ?_⟩, h.cnt, h.big⟩
  · rw [how u hu] at hh
    by_cases e : u = a
    · rw [if_pos e] at hh; cases hh
    · rw [if_neg e] at hh; exact h.owe u hu hh
  · by_cases e : u = a
    · exact .inl e
    · rcases h.done u hu hp with e2 | e2 | e2
      · exact e2.elim
      · exact .inr (.inl (by rw [how u (bnI_pos hu).1, if_neg e]; exact e2))
      · exact .inr (.inr e2)
  · rw [how u hu] at hh
    by_cases e : u = a
    · rw [if_pos e] at hh; cases hh
    · rw [if_neg e] at hh; exact hE u hu e hh
  · show st.length ≤ room; omega
  · show st.length ≤ q.p; omega
theorem Mi.cls {a : Int} (h : Mi s b room N R (fun u => u = a) E q) (he : ∀ v ∈ fs s a, bnI s v = true → pt b q v = true) : Mi s b room N R (fun _ => False) E q :=
  ⟨h.so, h.sw, h.born, h.owe, h.stk, fun u hu hp => (h.done u hu hp).elim (fun e => .inr (.inr (by rw [e]; exact he))) .inr, h.ref, h.len, h.cnt, h.big⟩
/-- A look whole. -/
theorem Mi.look {E' : Int → Prop} (h : Mi s b room N R (fun _ => False) E q) (hw : Wf s) (hk : ∀ j, kAt s.ks j < 4) {a : Int} (ha : bnI s a = true) (hp : pt b q a = true) (st : List Int) (hst : ∀ u ∈ st, u ∈ q.st) (hl : st.length ≤ q.st.length)
    (hE : ∀ u, 0 ≤ u → u ≠ a → hasI q.ow u = true → u ∈ st ∨ q.ov = true ∨ E' u) :
    Mi s b room N R (fun _ => False) E' (mmts s b room (lk0 s q a st) ((fs s a).filter fun v => !(v == 0))) ∧ Less s b (lk0 s q a st) (mmts s b room (lk0 s q a st) ((fs s a).filter fun v => !(v == 0))) ∧ ∀ u, 0 ≤ u → pt b q u = true → pt b (mmts s b room (lk0 s q a st) ((fs s a).filter fun v => !(v == 0))) u = true := by
  have h1 := h.opn hw ha st hst hl hE
  obtain ⟨h2, h3, h4, h5⟩ := Mi.meets hw hk ((fs s a).filter fun v => !(v == 0)) h1 (fun v hv hb => .step (h.born a ha hp) (List.mem_filter.1 hv).1 hb)
  refine ⟨h2.cls (fun v hv hb => h4 v (List.mem_filter.2 ⟨hv, ?_⟩) hb), h3, h5⟩
  have := (hw.bn_bd (bnI_pos hb).2).1
  have := (bnI_pos hb).1
  simp; omega
theorem now_lk0 (hw : Wf s) (hk : ∀ j, kAt s.ks j < 4) (hs : SetW (sz s) q.ow) {a : Int} (ha : bnI s a = true) (st : List Int) : now s (lk0 s q a st) + (hasI q.ow a).toNat = now s q := by
  have how : ∀ u, 0 ≤ u → hasI (lk0 s q a st).ow u = if u = a then false else hasI q.ow u := fun u hu => putS_int hw hs ha false hu
  unfold now
  cases e : hasI q.ow a with
  | true =>
    rw [← filter_one (objL s) (fun x => hasI q.ow x) a (objL_nodup hw hk) ((objL_mem hw hk).2 ha) e]
    show _ + 1 = _
    congr 2
    apply List.filter_congr
    intro x hx
    rw [how x (bnI_pos ((objL_mem hw hk).1 hx)).1]
    by_cases e2 : x = a <;> simp [e2]
  | false =>
    show _ + 0 = _
    rw [Nat.add_zero]
    congr 1
    apply List.filter_congr
    intro x hx
    rw [how x (bnI_pos ((objL_mem hw hk).1 hx)).1]
    by_cases e2 : x = a
    · rw [if_pos e2, e2, e]
    · rw [if_neg e2]
theorem Mi.start (os : List Nat) (ho : SetW (sz s) os) (hno : ∀ u, bnI s u = true → (hasI os u == b) = false) : Mi s b room (objL s).length R (fun _ => False) (fun _ => False) ⟨os, List.replicate ((sz s + 63) / 64) 0, [], false, 0⟩ := by
  have hz : ∀ u, hasI (List.replicate ((sz s + 63) / 64) 0) u = false := fun u => by unfold hasI; exact hasB_zero _ _
  have hp : ∀ u, bnI s u = true → pt b (⟨os, List.replicate ((sz s + 63) / 64) 0, [], false, 0⟩ : Mq) u = false := hno
  refine ⟨ho, setW_zero _, fun u hu h => (by rw [hp u hu] at h; cases h), fun u _ h => (by rw [hz u] at h; cases h), fun u hu => (by cases hu), fun u hu h => (by rw [hp u hu] at h; cases h), fun u _ h => (by rw [hz u] at h; cases h), ⟨Nat.zero_le _, Nat.zero_le _⟩, ?_, fun _ => rfl⟩
  show 0 + upn s b _ = _
  rw [Nat.zero_add]
  unfold upn
  rw [List.filter_eq_self.2]
  intro a ha
  by_cases hb : bnI s a = true
  · rw [hp a hb]; rfl
  · exact absurd (Hp.pkA_holds ha) hb
open Classical in
/-- At the end. -/
theorem Mi.fin (h : Mi s b room N R (fun _ => False) (fun _ => False) q) (hw : Wf s) (hk : ∀ j, kAt s.ks j < 4) (hst : q.st = []) (hov : q.ov = false) (hr : ∀ r ∈ R, bnI s r = true → pt b q r = true) (hN : N = (objL s).length) :
    (∀ u, bnI s u = true → (pt b q u = true ↔ Rch s R u)) ∧ q.p = ((objL s).filter fun a => decide (Rch s R a)).length := by
  have hno : ∀ u, 0 ≤ u → hasI q.ow u = false := fun u hu => by
    cases e : hasI q.ow u with
    | false => rfl
    | true =>
      rcases h.ref u hu e with e2 | e2 | e2
      · rw [hst] at e2; cases e2
      · rw [hov] at e2; cases e2
      · exact e2.elim
  have hcl : ∀ u, Rch s R u → pt b q u = true := fun u hu => by
    induction hu with
    | root h1 h2 => exact hr _ h1 h2
    | step h1 h2 h3 ih =>
      rcases h.done _ h1.born ih with e | e | e
      · exact e.elim
      · rw [hno _ (bnI_pos h1.born).1] at e; cases e
      · exact e _ h2 h3
  have hiff : ∀ u, bnI s u = true → (pt b q u = true ↔ Rch s R u) := fun u hu => ⟨h.born u hu, hcl u⟩
  refine ⟨hiff, ?_⟩
  have h1 := h.cnt
  have h2 := filter_parts (objL s) (fun a => pt b q a)
  have e : (objL s).filter (fun a => pt b q a) = (objL s).filter fun a => decide (Rch s R a) := by
    apply List.filter_congr
    intro a ha
    by_cases hr : Rch s R a
    · rw [decide_eq_true hr]; exact hcl a hr
    · rw [decide_eq_false hr]
      exact eq_false_of_ne_true (fun e => hr ((hiff a ((objL_mem hw hk).1 ha)).1 e))
  rw [← e]
  unfold upn at h1
  omega
end
end Go.Proofs.YtpcgmkchflmcmaaGreatDoor.Tr

namespace Go.Proofs.YtpcgmkchflmcmaaGreatDoor.Tr
open Go.RowKit Go.Shelf
open Class (below_drewN)
open Blk (Cfg allP kAt)
open Bits (SetIs TzTab)
open Stk (StIs)
open Hp (isO_any Ids St Wf Is To Mine bn bnI bnI_nat objL not_mine colB)
open Go.Proofs.YtpcgmkchflmcmaaGreatDoor.Row (Chg Rd Rd0 rowB rowB_none cell_of_block frozen_of_block other same cellsZ owns_block owns_chg owns_lt)
open Go.Proofs.YtpcgmkchflmcmaaGreatDoor.Addr (Tabs)

/-- The same heap, with other colors. -/
def wo (s : St) (os : List Nat) : St := { s with os := os }
theorem wo_fs (s : St) (os : List Nat) (a : Int) : fs (wo s os) a = fs s a := rfl
theorem wo_bnI (s : St) (os : List Nat) (a : Int) : bnI (wo s os) a = bnI s a := rfl
structure Fm where
  Mk : Nat
  Sb : Nat
  B : Nat
  G : Nat
def Fm.mem (f : Fm) (k : Nat) : Prop := k = f.Mk ∨ k = f.Sb ∨ k = f.B ∨ k = f.G
def OwM (H : Nat) (d : Ids) (f : Fm) (po : Option Addr) (k : Nat) : Prop := Mine H d k ∨ f.mem k ∨ rowB po k
structure Rm (X : World) (H : Nat) (d : Ids) (s : St) (m : Nat) (f : Fm) (cap base : Nat) (po : Option Addr) (co room : Nat) (c : Int) (q : Mq) (ag : Nat) : Prop where
  is : Is X H d (wo s q.os) m
  tabs : Tabs X
  set : SetIs X f.B f.G (sz s) cap q.ow
  stk : StIs X f.Sb base room co po q.st q.ov
  c0 : X.cell? ⟨f.Mk, 0, none⟩ = some (.pointer (some ⟨H, 0, none⟩))
  c1 : X.cell? ⟨f.Mk, 1, none⟩ = some (.int .i64 c)
  c2 : X.cell? ⟨f.Mk, 2, none⟩ = some (.pointer (some ⟨f.Sb, 0, none⟩))
  c3 : X.cell? ⟨f.Mk, 3, none⟩ = some (.pointer (some ⟨f.B, 0, none⟩))
  c4 : X.cell? ⟨f.Mk, 4, none⟩ = some (.int .i64 (q.p : Int))
  c5 : X.cell? ⟨f.Mk, 5, none⟩ = some (.int .i64 (ag : Int))
  f4 : X.frozen? ⟨f.Mk, 4, none⟩ = false
  f5 : X.frozen? ⟨f.Mk, 5, none⟩ = false
  nd : [f.Mk, f.Sb, f.B, f.G].Nodup
  ap : ∀ k, f.mem k → ¬ Mine H d k
  apR : ∀ g, rowB po g → ¬ Mine H d g ∧ ¬ f.mem g
  ltB : f.B < X.heap.size
  ltG : f.G < X.heap.size
  bs : base ≤ X.heap.size
  hi : ∀ k, OwM H d f po k → vB ≤ k
section
variable {X Y : World} {H : Nat} {d d' : Ids} {s : St} {m m' : Nat} {f : Fm} {cap base : Nat} {po po' : Option Addr} {co co' room : Nat} {c : Int} {q : Mq} {ag : Nat}
theorem Rm.ltM (h : Rm X H d s m f cap base po co room c q ag) : f.Mk < X.heap.size := World.block_lt_of_cell? X _ h.c0
theorem Rm.ltS (h : Rm X H d s m f cap base po co room c q ag) : f.Sb < X.heap.size := h.stk.ltB
theorem Rm.ne (h : Rm X H d s m f cap base po co room c q ag) : f.Mk ≠ f.Sb ∧ f.Mk ≠ f.B ∧ f.Mk ≠ f.G ∧ f.Sb ≠ f.B ∧ f.Sb ≠ f.G ∧ f.B ≠ f.G := by
  have hn := h.nd
  simp only [List.nodup_cons, List.mem_cons, List.not_mem_nil, or_false, not_or] at hn
  omega
theorem Rm.lt (h : Rm X H d s m f cap base po co room c q ag) {k : Nat} (hk : OwM H d f po k) : k < X.heap.size := by
  have h1 := h.ltM
  have h2 := h.ltS
  have h4 := h.ltB
  have h5 := h.ltG
  rcases hk with e | e | e
  · exact h.is.lt e
  · unfold Fm.mem at e; omega
  · exact (owns_lt h.stk.own e).2
theorem Rm.vb (h : Rm X H d s m f cap base po co room c q ag) : vB ≤ X.heap.size := by
  have h1 := h.hi f.G (.inr (.inl (.inr (.inr (.inr rfl)))))
  have h2 := h.ltG
  omega
theorem Rm.nm (h : Rm X H d s m f cap base po co room c q ag) {k : Nat} (hk : f.mem k) : ¬ rowB po k := fun e => (h.apR k e).2 hk
/-- What leaves its blocks leaves it. -/
theorem Rm.kept (h : Rm X H d s m f cap base po co room c q ag) (hb : Below vB X Y) (hk : ∀ k, OwM H d f po k → Y.heap[k]? = X.heap[k]?) : Rm Y H d s m f cap base po co room c q ag := by
  have hs := hb.size
  have kM : ∀ o, Y.cell? ⟨f.Mk, o, none⟩ = X.cell? ⟨f.Mk, o, none⟩ := fun o => cell_of_block (a := ⟨f.Mk, o, none⟩) (hk _ (.inr (.inl (.inl rfl))))
  have fM : ∀ o, Y.frozen? ⟨f.Mk, o, none⟩ = X.frozen? ⟨f.Mk, o, none⟩ := fun o => frozen_of_block (a := ⟨f.Mk, o, none⟩) (hk _ (.inr (.inl (.inl rfl))))
  exact ⟨h.is.kept (fun k e => hk k (.inl e)) hs, tabs_vb h.tabs hb, h.set.kept' (hk _ (.inr (.inl (.inr (.inr (.inl rfl)))))) (hk _ (.inr (.inl (.inr (.inr (.inr rfl)))))), h.stk.kept (hk _ (.inr (.inl (.inr (.inl rfl))))) (fun g hg => hk g (.inr (.inr hg))),
    (kM 0).trans h.c0, (kM 1).trans h.c1, (kM 2).trans h.c2, (kM 3).trans h.c3, (kM 4).trans h.c4, (kM 5).trans h.c5, (fM 4).trans h.f4, (fM 5).trans h.f5, h.nd, h.ap, h.apR, Nat.lt_of_lt_of_le h.ltB hs, Nat.lt_of_lt_of_le h.ltG hs, Nat.le_trans h.bs hs, h.hi⟩
theorem Rm.later (h : Rm X H d s m f cap base po co room c q ag) (hb : Below X.heap.size X Y) : Rm Y H d s m f cap base po co room c q ag := h.kept (hb.mono h.vb) (fun k hk => hb.block k (h.lt hk))
theorem Rm.drewN (h : Rm X H d s m f cap base po co room c q ag) (n : Nat) : Rm (X.drewN n) H d s m f cap base po co room c q ag := h.later (below_drewN (Below.refl _ _) n)
theorem Rm.more (h : Rm X H d s m f cap base po co room c q ag) (hm : m ≤ m') : Rm X H d s m' f cap base po co room c q ag := ⟨h.is.more hm, h.tabs, h.set, h.stk, h.c0, h.c1, h.c2, h.c3, h.c4, h.c5, h.f4, h.f5, h.nd, h.ap, h.apR, h.ltB, h.ltG, h.bs, h.hi⟩
/-- The heap has turned. -/
theorem Rm.heap {os : List Nat} (h : Rm X H d s m f cap base po co room c q ag) (hI : Is Y H d' (wo s os) m') (hC : Chg (Mine H d) X Y) (hG : ∀ j, Mine H d' j → Mine H d j ∨ X.heap.size ≤ j) :
    Rm Y H d' s m' f cap base po co room c ⟨os, q.ow, q.st, q.ov, q.p⟩ ag := by
  have hb : Below vB X Y := hC.below (fun k hk => h.hi k (.inl hk)) h.vb
  have hs := hb.size
  have hk : ∀ k, f.mem k ∨ rowB po k → Y.heap[k]? = X.heap[k]? := fun k hk => hC.block k (h.lt (.inr hk)) (fun e => hk.elim (fun e2 => h.ap k e2 e) (fun e2 => (h.apR k e2).1 e))
  have hn : ∀ k, f.mem k ∨ rowB po k → ¬ Mine H d' k := fun k hk e => (hG k e).elim (fun e => hk.elim (fun e2 => h.ap k e2 e) (fun e2 => (h.apR k e2).1 e)) (fun e => by have := h.lt (.inr hk); omega)
  have kM : ∀ o, Y.cell? ⟨f.Mk, o, none⟩ = X.cell? ⟨f.Mk, o, none⟩ := fun o => cell_of_block (a := ⟨f.Mk, o, none⟩) (hk _ (.inl (.inl rfl)))
  have fM : ∀ o, Y.frozen? ⟨f.Mk, o, none⟩ = X.frozen? ⟨f.Mk, o, none⟩ := fun o => frozen_of_block (a := ⟨f.Mk, o, none⟩) (hk _ (.inl (.inl rfl)))
  refine ⟨hI, tabs_vb h.tabs hb, h.set.kept' (hk _ (.inl (.inr (.inr (.inl rfl))))) (hk _ (.inl (.inr (.inr (.inr rfl))))), h.stk.kept (hk _ (.inl (.inr (.inl rfl)))) (fun g hg => hk g (.inr hg)),
    (kM 0).trans h.c0, (kM 1).trans h.c1, (kM 2).trans h.c2, (kM 3).trans h.c3, (kM 4).trans h.c4, (kM 5).trans h.c5, (fM 4).trans h.f4, (fM 5).trans h.f5, h.nd, fun k hk => hn k (.inl hk), fun g hg => ⟨hn g (.inr hg), (h.apR g hg).2⟩, Nat.lt_of_lt_of_le h.ltB hs, Nat.lt_of_lt_of_le h.ltG hs, Nat.le_trans h.bs hs, fun k hk => ?_⟩
  rcases hk with e | e
  · rcases hG k e with e | e
    · exact h.hi k (.inl e)
    · have := h.vb; omega
  · exact h.hi k (.inr e)
/-- One of its own blocks but the heap's and the row has turned, the others not. -/
theorem Rm.one {q' : Mq} {ag' : Nat} {S : Nat} (h : Rm X H d s m f cap base po co room c q ag) (hS : f.mem S) (hC : Chg (fun k => k = S) X Y) (ho : q'.os = q.os) (hset : SetIs Y f.B f.G (sz s) cap q'.ow) (hstk : StIs Y f.Sb base room co po q'.st q'.ov)
    (h0 : Y.cell? ⟨f.Mk, 0, none⟩ = some (.pointer (some ⟨H, 0, none⟩))) (h1 : Y.cell? ⟨f.Mk, 1, none⟩ = some (.int .i64 c)) (h2 : Y.cell? ⟨f.Mk, 2, none⟩ = some (.pointer (some ⟨f.Sb, 0, none⟩))) (h3 : Y.cell? ⟨f.Mk, 3, none⟩ = some (.pointer (some ⟨f.B, 0, none⟩)))
    (h4 : Y.cell? ⟨f.Mk, 4, none⟩ = some (.int .i64 (q'.p : Int))) (h5 : Y.cell? ⟨f.Mk, 5, none⟩ = some (.int .i64 (ag' : Int))) (hf4 : Y.frozen? ⟨f.Mk, 4, none⟩ = false) (hf5 : Y.frozen? ⟨f.Mk, 5, none⟩ = false) : Rm Y H d s m f cap base po co room c q' ag' := by
  have hs := hC.size
  refine ⟨by rw [ho]; exact h.is.chg hC (fun k e e2 => h.ap _ hS (e2 ▸ e)), tabs_vb h.tabs (hC.below (fun k e => by rw [e]; exact h.hi _ (.inr (.inl hS))) h.vb), hset, hstk, h0, h1, h2, h3, h4, h5, hf4, hf5, h.nd, h.ap, h.apR, Nat.lt_of_lt_of_le h.ltB hs, Nat.lt_of_lt_of_le h.ltG hs, Nat.le_trans h.bs hs, h.hi⟩
theorem Rm.setP (h : Rm X H d s m f cap base po co room c q ag) (p : Nat) : Rm (X.setCell ⟨f.Mk, 4, none⟩ (.int .i64 (p : Int))) H d s m f cap base po co room c ⟨q.os, q.ow, q.st, q.ov, p⟩ ag ∧ Chg (fun k => k = f.Mk) X (X.setCell ⟨f.Mk, 4, none⟩ (.int .i64 (p : Int))) := by
  have hC : Chg (fun k => k = f.Mk) X (X.setCell ⟨f.Mk, 4, none⟩ (.int .i64 (p : Int))) := Chg.set (S := fun k => k = f.Mk) (Chg.refl _ _) (.inl rfl) _
  obtain ⟨n1, n2, n3, _⟩ := h.ne
  refine ⟨h.one (.inl rfl) hC rfl (h.set.kept' (hC.block _ h.ltB (Ne.symm n2)) (hC.block _ h.ltG (Ne.symm n3))) (h.stk.chg hC (Ne.symm n1) (fun g hg e => h.nm (.inl e) hg)) ((other (by simp)).trans h.c0) ((other (by simp)).trans h.c1) ((other (by simp)).trans h.c2) ((other (by simp)).trans h.c3) (same h.c4) ((other (by simp)).trans h.c5) ((World.frozen?_setCell ..).trans h.f4) ((World.frozen?_setCell ..).trans h.f5), hC⟩
theorem Rm.setA (h : Rm X H d s m f cap base po co room c q ag) (p : Nat) : Rm (X.setCell ⟨f.Mk, 5, none⟩ (.int .i64 (p : Int))) H d s m f cap base po co room c q p ∧ Chg (fun k => k = f.Mk) X (X.setCell ⟨f.Mk, 5, none⟩ (.int .i64 (p : Int))) := by
  have hC : Chg (fun k => k = f.Mk) X (X.setCell ⟨f.Mk, 5, none⟩ (.int .i64 (p : Int))) := Chg.set (S := fun k => k = f.Mk) (Chg.refl _ _) (.inl rfl) _
  obtain ⟨n1, n2, n3, _⟩ := h.ne
  refine ⟨h.one (.inl rfl) hC rfl (h.set.kept' (hC.block _ h.ltB (Ne.symm n2)) (hC.block _ h.ltG (Ne.symm n3))) (h.stk.chg hC (Ne.symm n1) (fun g hg e => h.nm (.inl e) hg)) ((other (by simp)).trans h.c0) ((other (by simp)).trans h.c1) ((other (by simp)).trans h.c2) ((other (by simp)).trans h.c3) ((other (by simp)).trans h.c4) (same h.c5) ((World.frozen?_setCell ..).trans h.f4) ((World.frozen?_setCell ..).trans h.f5), hC⟩
theorem Rm.putO {F : List Nat} (h : Rm X H d s m f cap base po co room c q ag) (hs : SetIs Y f.B f.G (sz s) cap F) (hg : X.grownBy Y (some f.G)) (hz : Y.heap.size = X.heap.size) : Rm Y H d s m f cap base po co room c ⟨q.os, F, q.st, q.ov, q.p⟩ ag ∧ Chg (fun k => k = f.G) X Y := by
  have hC : Chg (fun k => k = f.G) X Y := ⟨hg.os, hg.tape, hg.output, by omega, fun k h1 h2 => hg.block k h1 (fun e => h2 (Option.some.inj e))⟩
  obtain ⟨n1, n2, n3, n4, n5, n6⟩ := h.ne
  have kM : ∀ o, Y.cell? ⟨f.Mk, o, none⟩ = X.cell? ⟨f.Mk, o, none⟩ := fun o => cell_of_block (a := ⟨f.Mk, o, none⟩) (hC.block _ h.ltM n3)
  have fM : ∀ o, Y.frozen? ⟨f.Mk, o, none⟩ = X.frozen? ⟨f.Mk, o, none⟩ := fun o => frozen_of_block (a := ⟨f.Mk, o, none⟩) (hC.block _ h.ltM n3)
  exact ⟨h.one (.inr (.inr (.inr rfl))) hC rfl hs (h.stk.chg hC n5 (fun g hg e => h.nm (.inr (.inr (.inr e))) hg)) ((kM 0).trans h.c0) ((kM 1).trans h.c1) ((kM 2).trans h.c2) ((kM 3).trans h.c3) ((kM 4).trans h.c4) ((kM 5).trans h.c5) ((fM 4).trans h.f4) ((fM 5).trans h.f5), hC⟩
/-- The stack has turned. -/
theorem Rm.stack {st : List Int} {ov : Bool} (h : Rm X H d s m f cap base po co room c q ag) (hst : StIs Y f.Sb base room co' po' st ov) (hC : Chg (fun k => k = f.Sb ∨ rowB po k) X Y) (hR : ∀ k, rowB po' k → rowB po k ∨ X.heap.size ≤ k) :
    Rm Y H d s m f cap base po' co' room c ⟨q.os, q.ow, st, ov, q.p⟩ ag := by
  have hs := hC.size
  have hvb := h.vb
  obtain ⟨n1, n2, n3, n4, n5, n6⟩ := h.ne
  have hSm : f.mem f.Sb := .inr (.inl rfl)
  have hk : ∀ k, f.mem k → k ≠ f.Sb → Y.heap[k]? = X.heap[k]? := fun k h1 h2 => hC.block k (h.lt (.inr (.inl h1))) (fun e => e.elim h2 (h.nm h1))
  have kM : ∀ o, Y.cell? ⟨f.Mk, o, none⟩ = X.cell? ⟨f.Mk, o, none⟩ := fun o => cell_of_block (a := ⟨f.Mk, o, none⟩) (hk _ (.inl rfl) n1)
  have fM : ∀ o, Y.frozen? ⟨f.Mk, o, none⟩ = X.frozen? ⟨f.Mk, o, none⟩ := fun o => frozen_of_block (a := ⟨f.Mk, o, none⟩) (hk _ (.inl rfl) n1)
  refine ⟨h.is.chg hC (fun k e e2 => e2.elim (fun e3 => h.ap _ hSm (e3 ▸ e)) (fun e3 => (h.apR k e3).1 e)), tabs_vb h.tabs (hC.below (fun k e => h.hi k (e.elim (fun e => .inr (.inl (e ▸ hSm))) (fun e => .inr (.inr e)))) hvb),
    h.set.kept' (hk _ (.inr (.inr (.inl rfl))) (Ne.symm n4)) (hk _ (.inr (.inr (.inr rfl))) (Ne.symm n5)), hst, (kM 0).trans h.c0, (kM 1).trans h.c1, (kM 2).trans h.c2, (kM 3).trans h.c3, (kM 4).trans h.c4, (kM 5).trans h.c5, (fM 4).trans h.f4, (fM 5).trans h.f5, h.nd, h.ap, fun g hg => ?_, Nat.lt_of_lt_of_le h.ltB hs, Nat.lt_of_lt_of_le h.ltG hs, Nat.le_trans h.bs hs, fun k hk => ?_⟩
  · rcases hR g hg with e | e
    · exact h.apR g e
    · exact ⟨fun e2 => by have := h.is.lt e2; omega, fun e2 => by have := h.lt (.inr (.inl e2)); omega⟩
  · rcases hk with e | e | e
    · exact h.hi k (.inl e)
    · exact h.hi k (.inr (.inl e))
    · rcases hR k e with e | e
      · exact h.hi k (.inr (.inr e))
      · omega
end
end Go.Proofs.YtpcgmkchflmcmaaGreatDoor.Tr

namespace Go.Proofs.YtpcgmkchflmcmaaGreatDoor.Tr
open Go.RowKit Go.Shelf
open Class (below_drewN)
open Blk (Cfg allP kAt)
open Bits (SetIs TzTab)
open Stk (StIs push_full push_good)
open Hp (isO_any Ids St Wf Is To Mine bn bnI bnI_nat objL not_mine colB)
open Rf (paS paE paF hpaint_any)
open Go.Proofs.YtpcgmkchflmcmaaGreatDoor.Row (Chg Rd Rd0 rowB rowB_none cell_of_block frozen_of_block other same cellsZ owns_block owns_chg owns_lt)
open Go.Proofs.YtpcgmkchflmcmaaGreatDoor.Addr (Tabs)

section
variable {X Y : World} {H : Nat} {d d' : Ids} {s : St} {m m' : Nat} {f : Fm} {cap base : Nat} {po po' : Option Addr} {co co' room : Nat} {c : Int} {b : Bool} {q : Mq} {ag : Nat}
/-- A bool as a color. -/
def clr (b : Bool) : Int := if b = true then 1 else 0
theorem clr_col (b : Bool) : colB (clr b) = true := by cases b <;> rfl
theorem clr_eq (b : Bool) : (clr b == 1) = b := by cases b <;> rfl
theorem paint_rm (v : Int) (h : Rm X H d s m f cap base po co room c q ag) (k : Bool) :
    Calls Tryz.prog 42 #[.pointer (some ⟨H, 0, none⟩), .int .i64 v, .int .i64 (clr k)] X fun e w' => e = .returned (.tuple #[.bool (bnI s v && !(hasI q.os v == k)), .int .i64 (if bnI s v = true then 0 else 1)]) ∧
      ∃ d', Rm w' H d' s m f cap base po co room c ⟨if bnI s v = true then Bits.putS (sz s) q.os v k else q.os, q.ow, q.st, q.ov, q.p⟩ ag ∧ Chg (Mine H d) X w' ∧ ∀ j, Mine H d' j → Mine H d j ∨ X.heap.size ≤ j := by
  refine (hpaint_any v (clr k) X h.is).mono ?_
  rintro e w' ⟨rfl, d', h1, h2, h3⟩
  have hE : paE (wo s q.os) v (clr k) = if bnI s v = true then 0 else 1 := by
    unfold paE
    rw [wo_bnI, clr_col, if_pos rfl]
  have hF : paF (wo s q.os) v (clr k) = (bnI s v && !(hasI q.os v == k)) := by
    unfold paF
    rw [hE, clr_eq]
    cases hb : bnI s v with
    | false => rfl
    | true => rw [if_pos (by rfl)]; rfl
  refine ⟨by rw [hE, hF], d', h.heap ?_ h2 h3, h2, h3⟩
  rw [hE] at h1
  cases hb : bnI s v with
  | false => rw [hb] at h1; exact h1
  | true =>
    rw [hb] at h1
    have e : paS (wo s q.os) v.toNat (clr k) = wo s (Bits.putS (sz s) q.os v k) := by
      unfold paS wo sz
      rw [clr_eq, show ((v.toNat : Nat) : Int) = v from Int.toNat_of_nonneg (bnI_pos hb).1]
    show Is w' H d' (wo s (Bits.putS (sz s) q.os v k)) m
    rw [← e]
    exact h1
theorem putS_same {F : List Nat} {n : Nat} {v : Int} {k : Bool} (h : hasI F v = k) : Bits.putS n F v k = F := by
  unfold Bits.putS Bits.putR
  have : hasB F v.toNat = k := h
  rw [this]
  simp

set_option maxRecDepth 100000 in
set_option maxHeartbeats 4000000 in
theorem meetM_any (v : Int) (X : World) (h : Rm X H d s m f cap base po co room (clr b) q ag) (hp : q.p ≤ 1048576) :
    Calls Tryz.prog 79 #[.pointer (some ⟨f.Mk, 0, none⟩), .int .i64 v] X fun e w' => (∃ u, e = .returned u) ∧ ∃ d' po' co', Rm w' H d' s m f cap base po' co' room (clr b) (mstp s b room q v) ag ∧ Chg (OwM H d f po) X w' ∧ ∀ j, OwM H d' f po' j → OwM H d f po j ∨ X.heap.size ≤ j := by
  have HP := Lib.hid (paint_rm v (h.drewN 1) b)
  have HK0 := Lib.hid (show (X.drewN 1).cell? ⟨f.Mk, 0, none⟩ = some (.pointer (some ⟨H, 0, none⟩)) ∧ (X.drewN 1).cell? ⟨f.Mk, 1, none⟩ = some (.int .i64 (clr b)) from ⟨h.c0, h.c1⟩)
  have HH := Lib.hid h
  have HO := Lib.hid (show ∀ (w' : World) (d' : Ids) (q' : Mq), Rm w' H d' s m f cap base po co room (clr b) q' ag → Chg (Mine H d) (X.drewN 1) w' → (∀ j, Mine H d' j → Mine H d j ∨ X.heap.size ≤ j) → Chg (OwM H d f po) X w' ∧ ∀ j, OwM H d' f po j → OwM H d f po j ∨ X.heap.size ≤ j from fun w' d' q' _ h2 h3 =>
    ⟨((Chg.of_below (below_drewN (Below.refl _ _) 1)).trans h2 (fun _ e => .inl e)).mono (fun k e => .inl e), fun j hj => hj.elim (fun e => (h3 j e).imp .inl id) (fun e => .inl (.inr e))⟩)
  clear h
  generalize hc : clr b = c at *
  cases hb : bnI s v with
  | false =>
    have e : mstp s b room q v = q := by unfold mstp; rw [if_neg (by simp [hb])]
    rw [e]
    rw [hb] at HP
    clear e
    go_enter Tryz.func79, Tryz.ntmps79
    go_wp2
    go_region_held3 (fun W => W.cell? ⟨f.Mk, 0, none⟩ = some (.pointer (some ⟨H, 0, none⟩)) ∧ W.cell? ⟨f.Mk, 1, none⟩ = some (.int .i64 c)) (first | exact HK0.out | exact S3)
      (first | (go_at_call 42; refine HP.out.mono ?_; rintro e w3 ⟨rfl, d3, g1, g2, g3⟩; have HR := Lib.hid (And.intro g1 (HO.out _ _ _ g1 g2 g3)); have S3 := And.intro g1.c0 g1.c1; clear g1 g2 g3))
    go_wp2
    refine bodyPost_ret (results_none rfl _ _ _) rfl ?_
    exact ⟨⟨_, rfl⟩, d3, po, co, HR.out⟩
  | true =>
    cases hf : pt b q v with
    | true =>
      have e : mstp s b room q v = q := by unfold mstp; rw [if_neg (by simp [hf])]
      have hh : hasI q.os v = b := by unfold pt at hf; simpa using hf
      have hF : (bnI s v && !(hasI q.os v == b)) = false := by rw [hh]; simp
      rw [e]
      rw [hF, hb, if_pos rfl, if_pos rfl, putS_same hh] at HP
      clear e hh hF hf
      go_enter Tryz.func79, Tryz.ntmps79
      go_wp2
      go_region_held3 (fun W => W.cell? ⟨f.Mk, 0, none⟩ = some (.pointer (some ⟨H, 0, none⟩)) ∧ W.cell? ⟨f.Mk, 1, none⟩ = some (.int .i64 c)) (first | exact HK0.out | exact S3)
        (first | (go_at_call 42; refine HP.out.mono ?_; rintro e w3 ⟨rfl, d3, g1, g2, g3⟩; have HR := Lib.hid (And.intro g1 (HO.out _ _ _ g1 g2 g3)); have S3 := And.intro g1.c0 g1.c1; have c4 := g1.c4; have f4 := g1.f4; have c3 := g1.c3; have c2 := g1.c2; clear g1 g2 g3))
      go_wp2
      refine bodyPost_ret (results_none rfl _ _ _) rfl ?_
      exact ⟨⟨_, rfl⟩, d3, po, co, HR.out⟩
    | false =>
      have e : mstp s b room q v = ⟨Bits.putS (sz s) q.os v b, Bits.putS (sz s) q.ow v true, if q.st.length < room then q.st ++ [v] else q.st, if q.st.length < room then q.ov else true, q.p + 1⟩ := by unfold mstp; rw [if_pos ⟨hb, hf⟩]
      have hF : (bnI s v && !(hasI q.os v == b)) = true := by unfold pt at hf; rw [hb, hf]; rfl
      rw [e]
      rw [hF, hb, if_pos rfl, if_pos rfl] at HP
      have p0 : (0 : Int) ≤ (q.p : Int) := Int.natCast_nonneg _
      have p1 : (q.p : Int) ≤ 1048576 := by omega
      have hlt := HH.out.ltM
      clear e hF hf
      go_enter Tryz.func79, Tryz.ntmps79
      go_wp2
      go_region_held3 (fun W => W.cell? ⟨f.Mk, 0, none⟩ = some (.pointer (some ⟨H, 0, none⟩)) ∧ W.cell? ⟨f.Mk, 1, none⟩ = some (.int .i64 c)) (first | exact HK0.out | exact S3)
        (first | (go_at_call 42; refine HP.out.mono ?_; rintro e w3 ⟨rfl, d3, g1, g2, g3⟩; have HR := Lib.hid (And.intro g1 (HO.out _ _ _ g1 g2 g3)); have S3 := And.intro g1.c0 g1.c1; have c4 := g1.c4; have f4 := g1.f4; have c3 := g1.c3; have c2 := g1.c2; clear g1 g2 g3))
      go_wp2_with fail
      obtain ⟨z1, z2⟩ := HR.out.1.setP (q.p + 1)
      have hn := z1.ne
      have HZ := Lib.hid (show Rm (w3.setCell ⟨f.Mk, 4, none⟩ (.int .i64 ((q.p : Int) + 1))) H d3 s m f cap base po co room c ⟨Bits.putS (sz s) q.os v b, q.ow, q.st, q.ov, q.p + 1⟩ ag ∧ Chg (OwM H d f po) X (w3.setCell ⟨f.Mk, 4, none⟩ (.int .i64 ((q.p : Int) + 1))) from ⟨z1, HR.out.2.1.set (.inl (.inr (.inl (.inl rfl)))) _⟩)
      have hMB : f.Mk ≠ f.B := hn.2.1
      clear z1 z2 hn
      refine (Bits.put_any f.B f.G (sz s) cap q.ow v true _ HZ.out.1.set HZ.out.1.ne.2.2.2.2.2).mono ?_
      rintro e w4 ⟨rfl, h1, h2, h3⟩
      obtain ⟨y1, y2⟩ := HZ.out.1.putO h1 h2 h3
      have c2' := y1.c2
      have HY := Lib.hid (show Rm w4 H d3 s m f cap base po co room c ⟨Bits.putS (sz s) q.os v b, Bits.putS (sz s) q.ow v true, q.st, q.ov, q.p + 1⟩ ag ∧ Chg (OwM H d f po) X w4 from ⟨y1, HZ.out.2.trans y2 (fun k e => .inl (.inr (.inl (.inr (.inr (.inr e))))))⟩)
      have hsz4 : X.heap.size ≤ w4.heap.size := HY.out.2.size
      clear h1 h2 h3 y1 y2 c4 f4 c3 c2 hlt
      by_cases hr : q.st.length < room
      · have HPU := Lib.hid (push_good v w4 HY.out.1.stk HY.out.1.bs hr)
        go_wp2_with fail
        refine HPU.out.mono ?_
        rintro e w5 ⟨rfl, po', co', g1, g2, g3⟩
        have HF := Lib.hid (show Rm w5 H d3 s m f cap base po' co' room c ⟨Bits.putS (sz s) q.os v b, Bits.putS (sz s) q.ow v true, q.st ++ [v], q.ov, q.p + 1⟩ ag ∧ Chg (OwM H d f po) X w5 ∧ ∀ j, OwM H d3 f po' j → OwM H d f po j ∨ X.heap.size ≤ j from
          ⟨HY.out.1.stack g1 g2 g3, HY.out.2.trans g2 (fun k e => e.elim (fun e => .inl (.inr (.inl (.inr (.inl e))))) (fun e => .inl (.inr (.inr e)))), fun j hj => hj.elim (fun e => HR.out.2.2 j (.inl e)) (fun e => e.elim (fun e => .inl (.inr (.inl e))) (fun e => (g3 j e).imp (fun e => .inr (.inr e)) (fun e => by omega)))⟩)
        clear g1 g2 g3 HPU
        go_wp2
        go_end0
        exact ⟨⟨_, rfl⟩, d3, po', ⟨co', HF.out.1⟩, HF.out.2⟩
      · have hfull : q.st.length = room := by have := HY.out.1.stk.len; simp only at this; omega
        have HPU := Lib.hid (push_full v w4 HY.out.1.stk hfull)
        go_wp2_with fail
        refine HPU.out.mono ?_
        rintro e w5 ⟨rfl, g1, g2⟩
        have HF := Lib.hid (show Rm w5 H d3 s m f cap base po co room c ⟨Bits.putS (sz s) q.os v b, Bits.putS (sz s) q.ow v true, q.st, true, q.p + 1⟩ ag ∧ Chg (OwM H d f po) X w5 ∧ ∀ j, OwM H d3 f po j → OwM H d f po j ∨ X.heap.size ≤ j from
          ⟨HY.out.1.stack g1 (g2.mono (fun k e => .inl e)) (fun k hk => .inl hk), HY.out.2.trans g2 (fun k e => .inl (.inr (.inl (.inr (.inl e))))), HR.out.2.2⟩)
        clear g1 g2 HPU
        go_wp2
        go_end0
        exact ⟨⟨_, rfl⟩, d3, po, ⟨co, HF.out.1⟩, HF.out.2⟩
end
end Go.Proofs.YtpcgmkchflmcmaaGreatDoor.Tr

namespace Go.Proofs.YtpcgmkchflmcmaaGreatDoor.Tr
open Go.RowKit Go.Shelf
open Class (below_drewN)
open Blk (Cfg allP kAt)
open Bits (SetIs TzTab next_any)
open Stk (StIs push_full push_good)
open Hp (isO_any Ids St Wf Is To Mine bn bnI bnI_nat objL not_mine colB)
open Go.Proofs.YtpcgmkchflmcmaaGreatDoor.Row (Chg Rd Rd0 rowB rowB_none cell_of_block frozen_of_block other same cellsZ owns_block owns_chg owns_lt)
open Go.Proofs.YtpcgmkchflmcmaaGreatDoor.Addr (Tabs)

def KM0 (H : Nat) (d : Ids) (s : St) (m : Nat) (f : Fm) (cap base : Nat) (po : Option Addr) (co room : Nat) (c : Int) (q : Mq) (ag : Nat) (O : Nat → Prop) (X : World) : Prop := O = OwM H d f po ∧ Rm X H d s m f cap base po co room c q ag
def KM (H : Nat) (s : St) (m : Nat) (f : Fm) (cap base room : Nat) (b : Bool) (q : Mq) (ag : Nat) (O : Nat → Prop) (l : List Int) (X : World) : Prop := ∃ d po co, O = OwM H d f po ∧ Rm X H d s m f cap base po co room (clr b) (mmts s b room q l) ag
section
variable {X Y : World} {H : Nat} {d d' : Ids} {s : St} {m m' : Nat} {f : Fm} {cap base : Nat} {po po' : Option Addr} {co co' room N : Nat} {b : Bool} {q : Mq} {ag : Nat} {R : List Int} {A E : Int → Prop}
theorem Mi.any (h : Mi s b room N R A E q) (hw : Wf s) (hk : ∀ j, kAt s.ks j < 4) : Mi s b room N (objL s) A E q :=
  ⟨h.so, h.sw, fun _ hu _ => .root ((objL_mem hw hk).2 hu) hu, h.owe, h.stk, h.done, h.ref, h.len, h.cnt, h.big⟩
theorem Mi.p_le (h : Mi s b room N R A E q) (hw : Wf s) (hk : ∀ j, kAt s.ks j < 4) (l : List Int) : (mmts s b room q l).p ≤ N := by
  have h1 := (Mi.meets hw hk l (h.any hw hk) (fun v _ hb => .root ((objL_mem hw hk).2 hb) hb)).1.cnt
  omega
theorem meets_marking (hm : m < 800000) (hk4 : ∀ j, kAt s.ks j < 4) (hw : Wf s) (hM : Mi s b room N R A E q) (hN : N ≤ 1048576) :
    Meets 79 #[.pointer (some ⟨f.Mk, 0, none⟩)] #[] H (wo s q.os) vB (KM0 H d s m f cap base po co room (clr b) q ag) (KM H s (m + 40) f cap base room b q ag) := by
  refine ⟨enters_of Tryz.func79 (by kernel_rfl) rfl, ?_, ?_, ?_, ?_, ?_, ?_⟩
  · rintro O l X Y ⟨d, po, co, rfl, h⟩ hb hk
    exact ⟨d, po, co, rfl, h.kept hb hk⟩
  · rintro O X Y ⟨rfl, h⟩ hb hk
    exact ⟨rfl, h.kept hb hk⟩
  · rintro O X ⟨rfl, h⟩ k hk
    exact h.lt hk
  · rintro O l X ⟨d, po, co, rfl, h⟩ k hk
    exact h.lt hk
  · rintro O l v X ⟨d, po, co, rfl, h⟩
    have hp := hM.p_le hw hk4 l
    refine (meetM_any v X h (by omega)).mono ?_
    rintro e X' ⟨he, d', po', co', h1, h2, h3⟩
    rw [← mmts_snoc] at h1
    exact ⟨he, _, ⟨d', po', co', rfl, h1⟩, h2, h3⟩
  · rintro O X ⟨rfl, h⟩
    refine ⟨d, m, h.is, h.tabs, hm, fun k hk => .inl hk, ?_⟩
    rintro X' hI ⟨_, h'⟩ Y d' hT
    refine ⟨_, ⟨d', po, co, rfl, ?_⟩, fun k hk => hk.elim .inl (fun e => .inr (.inr e))⟩
    exact h'.heap hT.is hT.chg hT.grow

set_option maxRecDepth 100000 in
set_option maxHeartbeats 2000000 in
theorem lookM_any (a : Int) (X : World) (h : Rm X H d s m f cap base po co room (clr b) q ag) (hm : m < 800000) (hk4 : ∀ j, kAt s.ks j < 4) (hw : Wf s) (hM : Mi s b room N R A E (lk0 s q a q.st)) (hN : N ≤ 1048576) :
    Calls Tryz.prog 81 #[.pointer (some ⟨f.Mk, 0, none⟩), .int .i64 a] X fun e w' => (∃ u, e = .returned u) ∧ ∃ d' po' co', Rm w' H d' s (m + 40) f cap base po' co' room (clr b) (mmts s b room (lk0 s q a q.st) ((fs s a).filter fun v => !(v == 0))) ag ∧ Chg (OwM H d f po) X w' ∧ ∀ j, OwM H d' f po' j → OwM H d f po j ∨ X.heap.size ≤ j := by
  have c0 := h.c0
  have c3 := h.c3
  have HPT := Lib.hid (Bits.put_any f.B f.G (sz s) cap q.ow a false X h.set h.ne.2.2.2.2.2)
  have HH := Lib.hid h
  have HL := Lib.hid (show ∀ w1, Rm w1 H d s m f cap base po co room (clr b) (lk0 s q a q.st) ag → Calls Tryz.prog 62 #[.pointer (some ⟨H, 0, none⟩), .int .i64 a, .func (.func 79) #[.pointer (some ⟨f.Mk, 0, none⟩)] #[]] w1 fun e w' => (∃ u, e = .returned u) ∧ ∃ O', KM H s (m + 40) f cap base room b (lk0 s q a q.st) ag O' ((fs s a).filter fun v => !(v == 0)) w' ∧ Chg (OwM H d f po) w1 w' ∧ ∀ k, O' k → OwM H d f po k ∨ w1.heap.size ≤ k from fun w1 h1 =>
    look_any (meets_marking (d := d) (po := po) (co := co) (f := f) (cap := cap) (base := base) (ag := ag) (H := H) hm hk4 hw hM hN) (show Wf (wo s (lk0 s q a q.st).os) from h1.is.wf) a _ w1 ⟨rfl, h1⟩ h1.vb)
  clear h
  go_enter Tryz.func81, Tryz.ntmps81
  go_wp2_with fail
  refine HPT.out.mono ?_
  rintro e w1 ⟨rfl, h1, h2, h3⟩
  obtain ⟨y1, y2⟩ := HH.out.putO h1 h2 h3
  have c0' := y1.c0
  have HY := Lib.hid (And.intro (show Rm w1 H d s m f cap base po co room (clr b) (lk0 s q a q.st) ag from y1) y2)
  clear h1 h2 h3 y1 y2 HPT c0 c3
  go_wp2_with fail
  refine (HL.out w1 HY.out.1).mono ?_
  rintro e w2 ⟨⟨u, rfl⟩, O', ⟨d2, po2, co2, rfl, g1⟩, g2, g3⟩
  have HF := Lib.hid (show Rm w2 H d2 s (m + 40) f cap base po2 co2 room (clr b) (mmts s b room (lk0 s q a q.st) ((fs s a).filter fun v => !(v == 0))) ag ∧ Chg (OwM H d f po) X w2 ∧ ∀ j, OwM H d2 f po2 j → OwM H d f po j ∨ X.heap.size ≤ j from
    ⟨g1, (HY.out.2.mono (fun k e => (.inr (.inl (.inr (.inr (.inr e)))) : OwM H d f po k))).trans g2 (fun k e => .inl e), fun j hj => (g3 j hj).imp id (fun e => by have := HY.out.2.size; omega)⟩)
  clear g1 g2 g3 HL HY
  go_wp2
  go_end0
  exact ⟨⟨_, rfl⟩, d2, po2, co2, HF.out⟩

/-- What a row of looks has turned since q0. -/
structure Run (X wr : World) (H : Nat) (d0 d : Ids) (s : St) (m0 m : Nat) (f : Fm) (cap base : Nat) (po0 po : Option Addr) (co room N : Nat) (R : List Int) (b : Bool) (E : Int → Prop) (q0 q : Mq) (ag : Nat) : Prop where
  rm : Rm wr H d s m f cap base po co room (clr b) q ag
  mi : Mi s b room N R (fun _ => False) E q
  chg : Chg (OwM H d0 f po0) X wr
  grow : ∀ j, OwM H d f po j → OwM H d0 f po0 j ∨ X.heap.size ≤ j
  phi : m + 40 * (2 * upn s b q + q.st.length + now s q) ≤ m0 + 40 * (2 * upn s b q0 + q0.st.length + now s q0)
  msr : 2 * upn s b q + q.st.length + q.ov.toNat ≤ 2 * upn s b q0 + q0.st.length + q0.ov.toNat
  rej : q0.p + q.ov.toNat ≤ q.p + q0.ov.toNat
  keep : ∀ u, 0 ≤ u → pt b q0 u = true → pt b q u = true
theorem Run.vb {wr : World} {d0 : Ids} {m0 : Nat} {po0 : Option Addr} {q0 : Mq} (h : Run X wr H d0 d s m0 m f cap base po0 po co room N R b E q0 q ag) (h0 : Rm X H d0 s m0 f cap base po0 co' room (clr b) q0 ag) : Below vB X wr := h.chg.below h0.hi h0.vb
/-- A look more, of what is owed. -/
theorem Run.look {E' : Int → Prop} {wr w2 : World} {d0 : Ids} {m0 : Nat} {po0 : Option Addr} {q0 : Mq} {a : Int} (h : Run X wr H d0 d s m0 m f cap base po0 po co room N R b E q0 q ag) (hw : Wf s) (hk : ∀ j, kAt s.ks j < 4) (ha : 0 ≤ a) (ho : hasI q.ow a = true)
    (hE : ∀ u, 0 ≤ u → u ≠ a → hasI q.ow u = true → u ∈ q.st ∨ q.ov = true ∨ E' u)
    (g1 : Rm w2 H d' s (m + 40) f cap base po' co' room (clr b) (mmts s b room (lk0 s q a q.st) ((fs s a).filter fun v => !(v == 0))) ag) (g2 : Chg (OwM H d f po) wr w2) (g3 : ∀ j, OwM H d' f po' j → OwM H d f po j ∨ wr.heap.size ≤ j) :
    Run X w2 H d0 d' s m0 (m + 40) f cap base po0 po' co' room N R b E' q0 (mmts s b room (lk0 s q a q.st) ((fs s a).filter fun v => !(v == 0))) ag := by
  obtain ⟨hb, hp⟩ := h.mi.owe a ha ho
  obtain ⟨l1, l2, l3⟩ := h.mi.look hw hk hb hp q.st (fun _ h => h) (Nat.le_refl _) hE
  have hn := now_lk0 (q := q) hw hk h.mi.sw hb q.st
  rw [ho] at hn
  have e1 : true.toNat = 1 := rfl
  have p1 := l2.phi
  have p2 := l2.msr
  have p3 := l2.rej
  have u1 : upn s b (lk0 s q a q.st) = upn s b q := rfl
  have u2 : (lk0 s q a q.st).st = q.st := rfl
  have u3 : (lk0 s q a q.st).ov = q.ov := rfl
  have u4 : (lk0 s q a q.st).p = q.p := rfl
  rw [u1, u2] at p1
  rw [u1, u2, u3] at p2
  rw [u3, u4] at p3
  have q1 := h.phi
  have q2 := h.msr
  have q3 := h.rej
  have hs := h.chg.size
  exact ⟨g1, l1, h.chg.trans g2 h.grow, fun j hj => (g3 j hj).elim (h.grow j) (fun e => .inr (by omega)), by omega, by omega, by omega, fun u hu hpu => l3 u hu (h.keep u hu hpu)⟩
theorem Run.start (h : Rm X H d s m f cap base po co room (clr b) q ag) (hM : Mi s b room N R (fun _ => False) E q) : Run X X H d d s m m f cap base po po co room N R b E q q ag :=
  ⟨h, hM, Chg.refl _ _, fun _ e => .inl e, Nat.le_refl _, Nat.le_refl _, Nat.le_refl _, fun _ _ h => h⟩
theorem Run.later {wr w2 : World} {d0 : Ids} {m0 : Nat} {po0 : Option Addr} {q0 : Mq} (h : Run X wr H d0 d s m0 m f cap base po0 po co room N R b E q0 q ag) (hb : Below wr.heap.size wr w2) : Run X w2 H d0 d s m0 m f cap base po0 po co room N R b E q0 q ag :=
  ⟨h.rm.later hb, h.mi, h.chg.trans (Chg.of_below (S := fun _ => False) hb) (fun _ e => e.elim), h.grow, h.phi, h.msr, h.rej, h.keep⟩
theorem Run.exempt {E' : Int → Prop} {wr : World} {d0 : Ids} {m0 : Nat} {po0 : Option Addr} {q0 : Mq} (h : Run X wr H d0 d s m0 m f cap base po0 po co room N R b E q0 q ag) (hE : ∀ u, 0 ≤ u → hasI q.ow u = true → E u → E' u) : Run X wr H d0 d s m0 m f cap base po0 po co room N R b E' q0 q ag :=
  ⟨h.rm, ⟨h.mi.so, h.mi.sw, h.mi.born, h.mi.owe, h.mi.stk, h.mi.done, fun u hu ho => (h.mi.ref u hu ho).imp id (fun e => e.imp id (hE u hu ho)), h.mi.len, h.mi.cnt, h.mi.big⟩, h.chg, h.grow, h.phi, h.msr, h.rej, h.keep⟩

set_option maxRecDepth 100000 in
set_option maxHeartbeats 4000000 in
theorem lookAll_any (X : World) (h : Rm X H d s m f cap base po co room (clr b) q ag) (hz : TzTab X) (hphi : m + 40 * (2 * upn s b q + q.st.length + now s q) < 700000) (hk4 : ∀ j, kAt s.ks j < 4) (hw : Wf s) (hM : Mi s b room N R (fun _ => False) (fun _ => True) q) (hN : N ≤ 1048576) :
    Calls Tryz.prog 83 #[.pointer (some ⟨f.Mk, 0, none⟩)] X fun e w' => (∃ u, e = .returned u) ∧ ∃ d' m' po' co' q', Run X w' H d d' s m m' f cap base po po' co' room N R b (fun _ => False) q q' ag := by
  have HH := Lib.hid h
  have HZ := Lib.hid hz
  have HRU := Lib.hid ((Run.start h hM).exempt (E' := fun u => ((0 : Nat) : Int) ≤ u) (fun u hu _ _ => by omega))
  have HNX := Lib.hid (show ∀ (wr : World) (d' : Ids) (m' : Nat) (po' : Option Addr) (co' : Nat) (E : Int → Prop) (q' : Mq) (z : Int), Run X wr H d d' s m m' f cap base po po' co' room N R b E q q' ag → Calls Tryz.prog 117 #[.pointer (some ⟨f.B, 0, none⟩), .int .i64 z] wr fun e w' => ∃ v ok, e = .returned (.tuple #[.int .i64 v, .bool ok]) ∧ NextIs q'.ow z.toNat v ok ∧ Below wr.heap.size wr w' from fun wr d' m' po' co' E q' z hr =>
    next_any f.B f.G (sz s) cap q'.ow z wr hr.rm.set (tz_vb hz (hr.vb h)) hr.rm.ltB hr.rm.ltG (by have := hr.rm.vb; unfold vB at this; omega))
  have c3 := h.c3
  have hN0 := Lib.hid (HNX.out X d m po co _ q 0 HRU.out)
  clear h hz
  go_enter Tryz.func83, Tryz.ntmps83
  go_wp2_with fail
  refine hN0.out.mono ?_
  rintro e w1 ⟨v, ok, rfl, hnx, hb⟩
  have HST := Lib.hid (And.intro (HRU.out.later hb) (show NextIs q.ow 0 v ok from hnx))
  clear hN0 hnx hb c3
  go_wp2_with fail
  go_loopg [2, 3] (sz s + 1) (fun g x y wr => ∃ (d' : Ids) (m' : Nat) (po' : Option Addr) (co' : Nat) (q' : Mq) (k : Nat) (v : Int) (ok : Bool), x = .int .i64 v ∧ y = .bool ok ∧ Run X wr H d d' s m m' f cap base po po' co' room N R b (fun u => (k : Int) ≤ u) q q' ag ∧ NextIs q'.ow k v ok ∧ k ≤ sz s ∧ g = sz s + 1 - k)
  case atStart => exact ⟨d, m, po, co, q, 0, v, ok, rfl, rfl, HST.out.1, HST.out.2, Nat.zero_le _, rfl⟩
  case round =>
    clear HST
    obtain ⟨d', m', po', co', q', k, v', ok', rfl, rfl, hru, hnx, hks, hgk⟩ := hrel
    have HU := Lib.hid hru
    have HGK := Lib.hid hgk
    clear hgk hru
    rcases hnx with ⟨rfl, rfl, hno⟩ | ⟨n, rfl, rfl, hkn, hon, hmin⟩
    · have HN0 := Lib.hid hno
      clear hno
      go_wp2
      go_end0
      exact ⟨⟨_, rfl⟩, d', m', po', co', q', HU.out.exempt (fun u hu ho hk => by
        have h1 := HN0.out u.toNat (by omega)
        unfold hasI at ho
        rw [h1] at ho
        cases ho)⟩
    · have hin : hasI q'.ow (n : Int) = true := by unfold hasI; rw [Int.toNat_natCast]; exact hon
      have hnl : n < sz s := by
        rcases Nat.lt_or_ge n (sz s) with h1 | h1
        · exact h1
        · rw [HU.out.mi.sw.top n h1] at hon; cases hon
      have n0 : (0 : Int) ≤ (n : Int) := Int.natCast_nonneg _
      have n1 : (n : Int) ≤ 2097152 := by have := HU.out.rm.set.small; omega
      have hE : ∀ u, 0 ≤ u → u ≠ (n : Int) → hasI q'.ow u = true → u ∈ q'.st ∨ q'.ov = true ∨ ((n + 1 : Nat) : Int) ≤ u := fun u hu hne ho => by
        rcases HU.out.mi.ref u hu ho with e | e | e
        · exact .inl e
        · exact .inr (.inl e)
        · refine .inr (.inr ?_)
          by_cases h1 : u.toNat < n
          · have h2 := hmin u.toNat (by omega) h1
            unfold hasI at ho
            rw [h2] at ho; cases ho
          · omega
      obtain ⟨hbn, hpn⟩ := HU.out.mi.owe n n0 hin
      have hphi' := HU.out.phi
      have HLK := Lib.hid (lookM_any (n : Int) wr HU.out.rm (by omega) hk4 hw (HU.out.mi.opn hw hbn q'.st (fun _ h => h) (Nat.le_refl _) hE) hN)
      have HHE := Lib.hid (And.intro hin hE)
      have HR2 := Lib.hid (show n + 1 ≤ sz s ∧ sz s + 1 - (n + 1) < sz s + 1 - k by omega)
      clear hin hE hbn hpn hon hmin hphi'
      go_wp2_with fail
      refine HLK.out.mono ?_
      rintro e w2 ⟨⟨u, rfl⟩, d2, po2, co2, g1, g2, g3⟩
      have HU2 := Lib.hid (HU.out.look (E' := fun u => ((n + 1 : Nat) : Int) ≤ u) hw hk4 n0 HHE.out.1 HHE.out.2 g1 g2 g3)
      have c3 := g1.c3
      clear g1 g2 g3 HLK HU HHE
      have HNN := Lib.hid (HNX.out w2 _ _ _ _ _ _ ((n : Int) + 1) HU2.out)
      go_wp2_with fail
      refine HNN.out.mono ?_
      rintro e w3 ⟨v3, ok3, rfl, hnx3, hb3⟩
      have HF := Lib.hid (And.intro (HU2.out.later hb3) hnx3)
      clear hnx3 hb3 HNN HU2
      go_wp2_with fail
      go_roundg (sz s + 1 - (n + 1))
      case measure => rw [HGK.out]; exact HR2.out.2
      case rel => exact ⟨d2, m' + 40, po2, co2, _, n + 1, v3, ok3, rfl, rfl, HF.out.1, by have h := HF.out.2; rwa [show ((n : Int) + 1).toNat = n + 1 by omega] at h, HR2.out.1, rfl⟩
end
end Go.Proofs.YtpcgmkchflmcmaaGreatDoor.Tr

namespace Go.Proofs.YtpcgmkchflmcmaaGreatDoor.Tr
open Go.RowKit Go.Shelf
open Class (below_drewN)
open Blk (Cfg allP kAt)
open Bits (SetIs TzTab)
open Stk (StIs pop_good pop_none calm_any)
open Hp (isO_any Ids St Wf Is To Mine bn bnI bnI_nat objL not_mine colB)
open Go.Proofs.YtpcgmkchflmcmaaGreatDoor.Row (Chg Rd Rd0 rowB rowB_none cell_of_block frozen_of_block other same cellsZ owns_block owns_chg owns_lt)
open Go.Proofs.YtpcgmkchflmcmaaGreatDoor.Addr (Tabs)

/-- Marking, since a world: the counts are bounded. -/
structure Rs (X wr : World) (H : Nat) (d0 d : Ids) (s : St) (m : Nat) (f : Fm) (cap base : Nat) (po0 po : Option Addr) (co room N C : Nat) (R : List Int) (b : Bool) (q : Mq) (ag : Nat) : Prop where
  rm : Rm wr H d s m f cap base po co room (clr b) q ag
  mi : Mi s b room N R (fun _ => False) (fun _ => False) q
  chg : Chg (OwM H d0 f po0) X wr
  grow : ∀ j, OwM H d f po j → OwM H d0 f po0 j ∨ X.heap.size ≤ j
  phi : m + 40 * (2 * upn s b q + q.st.length + now s q) ≤ C
  again : ag + q.ov.toNat ≤ q.p
  big : N ≤ room → ag = 0
def msr (s : St) (b : Bool) (q : Mq) : Nat := 2 * upn s b q + q.st.length + q.ov.toNat

section
variable {X Y wr : World} {H : Nat} {d d' d0 : Ids} {s : St} {m m' : Nat} {f : Fm} {cap base : Nat} {po po' po0 : Option Addr} {co co' room N C : Nat} {b : Bool} {q q2 : Mq} {ag : Nat} {R : List Int}
theorem Rs.vbl (h : Rs X wr H d0 d s m f cap base po0 po co room N C R b q ag) (h0 : ∀ k, OwM H d0 f po0 k → vB ≤ k) (hv : vB ≤ X.heap.size) : Below vB X wr := h.chg.below h0 hv
/-- One number is met. -/
theorem Rs.met {w2 : World} (h : Rs X wr H d0 d s m f cap base po0 po co room N C R b q ag) (hw : Wf s) (hk : ∀ j, kAt s.ks j < 4) (v : Int) (hv : bnI s v = true → Rch s R v)
    (g1 : Rm w2 H d' s m f cap base po' co' room (clr b) (mstp s b room q v) ag) (g2 : Chg (OwM H d f po) wr w2) (g3 : ∀ j, OwM H d' f po' j → OwM H d f po j ∨ wr.heap.size ≤ j) : Rs X w2 H d0 d' s m f cap base po0 po' co' room N C R b (mstp s b room q v) ag := by
  obtain ⟨h1, h2⟩ := h.mi.meet hw hk v hv
  have p1 := h2.phi
  have p3 := h2.rej
  have q1 := h.phi
  have q3 := h.again
  have hs := h.chg.size
  exact ⟨g1, h1, h.chg.trans g2 h.grow, fun j hj => (g3 j hj).elim (h.grow j) (fun e => .inr (by omega)), by omega, by omega, h.big⟩
/-- One is popped, and looked at. -/
theorem Rs.pop {w2 w3 : World} {st : List Int} {a : Int} (h : Rs X wr H d0 d s m f cap base po0 po co room N C R b q ag) (hw : Wf s) (hk : ∀ j, kAt s.ks j < 4) (hst : q.st = st ++ [a]) (hE : ∀ u, 0 ≤ u → u ≠ a → hasI q.ow u = true → u ∈ st ∨ q.ov = true ∨ False)
    (g0 : Chg (OwM H d f po) wr w2) (g1 : Rm w3 H d' s (m + 40) f cap base po' co' room (clr b) (mmts s b room (lk0 s q a st) ((fs s a).filter fun v => !(v == 0))) ag) (g2 : Chg (OwM H d f po) w2 w3) (g3 : ∀ j, OwM H d' f po' j → OwM H d f po j ∨ w2.heap.size ≤ j) :
    Rs X w3 H d0 d' s (m + 40) f cap base po0 po' co' room N C R b (mmts s b room (lk0 s q a st) ((fs s a).filter fun v => !(v == 0))) ag ∧ msr s b (mmts s b room (lk0 s q a st) ((fs s a).filter fun v => !(v == 0))) < msr s b q ∧ ∀ u, 0 ≤ u → pt b q u = true → pt b (mmts s b room (lk0 s q a st) ((fs s a).filter fun v => !(v == 0))) u = true := by
  obtain ⟨hb, hp⟩ := h.mi.stk a (by rw [hst]; simp)
  have hlen : q.st.length = st.length + 1 := by rw [hst]; simp
  obtain ⟨l1, l2, l3⟩ := h.mi.look (E' := fun _ => False) hw hk hb hp st (fun u hu => by rw [hst]; exact List.mem_append_left _ hu) (by omega) hE
  have hn := now_lk0 (q := q) hw hk h.mi.sw hb st
  have p1 := l2.phi
  have p2 := l2.msr
  have p3 := l2.rej
  have u1 : upn s b (lk0 s q a st) = upn s b q := rfl
  have u2 : (lk0 s q a st).st = st := rfl
  have u3 : (lk0 s q a st).ov = q.ov := rfl
  have u4 : (lk0 s q a st).p = q.p := rfl
  rw [u1, u2] at p1
  rw [u1, u2, u3] at p2
  rw [u3, u4] at p3
  have q1 := h.phi
  have q3 := h.again
  have hs := h.chg.size
  have hs0 := g0.size
  exact ⟨⟨g1, l1, (h.chg.trans g0 h.grow).trans g2 h.grow, fun j hj => (g3 j hj).elim (h.grow j) (fun e => .inr (by omega)), by omega, by omega, h.big⟩, by unfold msr; omega, l3⟩
/-- All are looked at once more. -/
theorem Rs.all {w2 w3 : World} (h : Rs X wr H d0 d s m f cap base po0 po co room N C R b q ag) (_hst : q.st = []) (hov : q.ov = true) (g0 : Chg (OwM H d f po) wr w2)
    (g1 : Run w2 w3 H d d' s m m' f cap base po po' co' room N R b (fun _ => False) ⟨q.os, q.ow, [], false, q.p⟩ q2 (ag + 1)) :
    Rs X w3 H d0 d' s m' f cap base po0 po' co' room N C R b q2 (ag + 1) ∧ msr s b q2 < msr s b q ∧ ∀ u, 0 ≤ u → pt b q u = true → pt b q2 u = true := by
  have p1 := g1.phi
  have p2 := g1.msr
  have p3 := g1.rej
  have u1 : upn s b (⟨q.os, q.ow, [], false, q.p⟩ : Mq) = upn s b q := rfl
  have u2 : now s (⟨q.os, q.ow, [], false, q.p⟩ : Mq) = now s q := rfl
  have e0 : false.toNat = 0 := rfl
  have e1 : true.toNat = 1 := rfl
  rw [u1, u2] at p1
  rw [u1] at p2
  have e2 : ([] : List Int).length = 0 := rfl
  simp only [e0, e2] at p1 p2 p3
  have q1 := h.phi
  have q3 := h.again
  rw [hov, e1] at q3
  have hs := h.chg.size
  have hs0 := g0.size
  refine ⟨⟨g1.rm, g1.mi, (h.chg.trans g0 h.grow).trans g1.chg h.grow, fun j hj => (g1.grow j hj).elim (h.grow j) (fun e => .inr (by omega)), by omega, by omega, fun hN => ?_⟩, ?_, g1.keep⟩
  · have := h.mi.big hN
    rw [hov] at this
    cases this
  · unfold msr
    rw [hov, e1]
    omega

theorem Rs.later {w2 : World} (h : Rs X wr H d0 d s m f cap base po0 po co room N C R b q ag) (hb : Below wr.heap.size wr w2) : Rs X w2 H d0 d s m f cap base po0 po co room N C R b q ag :=
  ⟨h.rm.later hb, h.mi, h.chg.trans (Chg.of_below (S := fun _ => False) hb) (fun _ e => e.elim), h.grow, h.phi, h.again, h.big⟩
theorem Rs.calm {w2 : World} (h : Rs X wr H d0 d s m f cap base po0 po co room N C R b q ag) (hst : q.st = []) (hs : StIs w2 f.Sb base room co po [] false) (hC : Chg (fun k => k = f.Sb) wr w2) :
    Rm w2 H d s m f cap base po co room (clr b) ⟨q.os, q.ow, [], false, q.p⟩ ag ∧ Chg (OwM H d f po) wr w2 ∧ Mi s b room N R (fun _ => False) (fun _ => True) ⟨q.os, q.ow, [], false, q.p⟩ ∧ m + 40 * (2 * upn s b (⟨q.os, q.ow, [], false, q.p⟩ : Mq) + ([] : List Int).length + now s (⟨q.os, q.ow, [], false, q.p⟩ : Mq)) ≤ C := by
  refine ⟨h.rm.stack hs (hC.mono fun k e => .inl e) (fun k e => .inl e), hC.mono fun k e => .inr (.inl (.inr (.inl e))), ⟨h.mi.so, h.mi.sw, h.mi.born, h.mi.owe, fun u hu => (by cases hu), h.mi.done, fun u _ _ => .inr (.inr trivial), ⟨Nat.zero_le _, Nat.zero_le _⟩, h.mi.cnt, fun _ => rfl⟩, ?_⟩
  have h1 := h.phi
  rw [hst] at h1
  exact h1
theorem Rs.rest {w2 : World} (h : Rs X wr H d0 d s m f cap base po0 po co room N C R b q ag) (hst : q.st = []) (hov : q.ov = false) (g0 : Chg (OwM H d f po) wr w2) (g1 : Rm w2 H d s m f cap base po co room (clr b) ⟨q.os, q.ow, [], false, q.p⟩ ag) :
    Rs X w2 H d0 d s m f cap base po0 po co room N C R b q ag := by
  have hq : (⟨q.os, q.ow, [], false, q.p⟩ : Mq) = q := by
    cases q
    cases hst
    cases hov
    rfl
  rw [hq] at g1
  exact ⟨g1, h.mi, h.chg.trans g0 h.grow, h.grow, h.phi, h.again, h.big⟩
theorem Rs.popped {w2 : World} {st : List Int} {a : Int} (h : Rs X wr H d0 d s m f cap base po0 po co room N C R b q ag) (hw : Wf s) (hst : q.st = st ++ [a]) (hs : StIs w2 f.Sb base room co po st q.ov) (hC : Chg (fun k => k = f.Sb) wr w2) :
    Rm w2 H d s m f cap base po co room (clr b) ⟨q.os, q.ow, st, q.ov, q.p⟩ ag ∧ Chg (OwM H d f po) wr w2 ∧ Mi s b room N R (fun u => u = a) (fun _ => False) (lk0 s q a st) ∧ ∀ u, 0 ≤ u → u ≠ a → hasI q.ow u = true → u ∈ st ∨ q.ov = true ∨ False := by
  have hE : ∀ u, 0 ≤ u → u ≠ a → hasI q.ow u = true → u ∈ st ∨ q.ov = true ∨ False := fun u hu hne ho => by
    rcases h.mi.ref u hu ho with e | e | e
    · rw [hst] at e
      rcases List.mem_append.1 e with e | e
      · exact .inl e
      · exact absurd (List.mem_singleton.1 e) hne
    · exact .inr (.inl e)
    · exact e.elim
  have hlen : q.st.length = st.length + 1 := by rw [hst]; simp
  obtain ⟨hb, _⟩ := h.mi.stk a (by rw [hst]; simp)
  exact ⟨h.rm.stack hs (hC.mono fun k e => .inl e) (fun k e => .inl e), hC.mono fun k e => .inr (.inl (.inr (.inl e))), h.mi.opn hw hb st (fun u hu => by rw [hst]; exact List.mem_append_left _ hu) (by omega) hE, hE⟩

set_option maxRecDepth 100000 in
set_option maxHeartbeats 4000000 in
theorem run_any (pr : Option Addr) (cr : Nat) (R : List Int) (X : World) (h : Rs X X H d d s m f cap base po po co room N C R b q 0) (hz : TzTab X) (hC : C < 700000) (hk4 : ∀ j, kAt s.ks j < 4) (hw : Wf s) (hN : N ≤ 1048576) (hr : Rd0 X pr R) (hrow : ∀ g, rowB pr g → 0 < R.length → g < X.heap.size ∧ ¬ OwM H d f po g) (hlen : R.length ≤ maxLen) :
    Calls Tryz.prog 44 #[.pointer (some ⟨f.Mk, 0, none⟩), .slice pr R.length cr] X fun e w' => (∃ u, e = .returned u) ∧ ∃ d' m' po' co' q' ag', Rs X w' H d d' s m' f cap base po po' co' room N C R b q' ag' ∧ q'.st = [] ∧ q'.ov = false ∧ ∀ r ∈ R, bnI s r = true → pt b q' r = true := by
  unfold maxLen at hlen
  have HH := Lib.hid h
  have HR := Lib.hid hr
  have HRL := Lib.hid hrow
  have HME := Lib.hid (show ∀ (wr : World) (d' : Ids) (po' : Option Addr) (co' i : Nat), i < R.length → Rs X wr H d d' s m f cap base po po' co' room N C R b (mmts s b room q (R.take i)) 0 → Calls Tryz.prog 79 #[.pointer (some ⟨f.Mk, 0, none⟩), .int .i64 (R.getD i 0)] wr fun e w' => (∃ u, e = .returned u) ∧ ∃ d2 po2 co2, Rs X w' H d d2 s m f cap base po po2 co2 room N C R b (mmts s b room q (R.take (i + 1))) 0 from fun wr d' po' co' i hi hrs => by
    have hc := hrs.mi.cnt
    refine (meetM_any (R.getD i 0) wr hrs.rm (by omega)).mono ?_
    rintro e w' ⟨he, d2, po2, co2, g1, g2, g3⟩
    have h2 := hrs.met hw hk4 (R.getD i 0) (fun hb => .root (by rw [List.getD_eq_getElem?_getD, List.getElem?_eq_getElem hi]; exact List.getElem_mem hi) hb) g1 g2 g3
    rw [← mmts_snoc, take_snoc R hi] at h2
    exact ⟨he, d2, po2, co2, h2⟩)
  have hmi0 := h.mi
  have HHI := Lib.hid (And.intro h.rm.hi h.rm.vb)
  clear h hr hrow
  go_enter Tryz.func44, Tryz.ntmps44
  go_wp2
  go_step3
  go_wp2
  go_loopw [10] (fun x wr => ∃ (i : Nat) (d' : Ids) (po' : Option Addr) (co' : Nat), i ≤ R.length ∧ x = .int .i64 (i : Int) ∧ Rs X wr H d d' s m f cap base po po' co' room N C R b (mmts s b room q (R.take i)) 0) (fun x _ => R.length - (intOf x).toNat)
  case atStart => exact ⟨0, d, po, co, Nat.zero_le _, rfl, HH.out⟩
  case round =>
    obtain ⟨i, d', po', co', hi, rfl, hrs⟩ := hrel
    have HS := Lib.hid hrs
    clear hrs
    by_cases hlt : i < R.length
    · have i0 : (0 : Int) ≤ (i : Int) := Int.natCast_nonneg _
      have i1 : (i : Int) < (R.length : Int) := by omega
      obtain ⟨g, off, hp, hc0⟩ := HR.out i hlt
      have hgl := HRL.out g (by rw [hp]; rfl) (by omega)
      have hc : wr.cell? ⟨g, off + i, none⟩ = some (.int .i64 (R.getD i 0)) := (HS.out.chg.cell (p := ⟨g, off + i, none⟩) hgl.1 hgl.2).trans hc0
      have HC := Lib.hid (HME.out wr d' po' co' i hlt HS.out)
      subst hp
      clear hgl hc0
      generalize R.getD i 0 = v at *
      go_wp2_with (go_at_call 79; refine HC.out.mono ?_; rintro e w2 ⟨⟨u, rfl⟩, d2, po2, co2, hrs⟩)
      go_roundw
      case rel => exact ⟨i + 1, d2, po2, co2, by omega, by go_num, hrs⟩
      case measure => simp [intOf]; omega
    · have i1 : ¬ (i : Int) < (R.length : Int) := by omega
      obtain rfl : i = R.length := by omega
      rw [List.take_length] at HS
      have HRT := Lib.hid (Mi.meets hw hk4 R hmi0 (fun v hv hb => .root hv hb)).2.2.1
      clear hmi0
      generalize mmts s b room q R = q0 at *
      go_wp2
      go_step3
      go_wp2
      go_loopg [6] (msr s b q0) (fun g _ wr => ∃ (d' : Ids) (m' : Nat) (po' : Option Addr) (co' : Nat) (q' : Mq) (ag' : Nat), Rs X wr H d d' s m' f cap base po po' co' room N C R b q' ag' ∧ (∀ r ∈ R, bnI s r = true → pt b q' r = true) ∧ g = msr s b q')
      case atStart => exact ⟨d', m, po', co', q0, 0, HS.out, HRT.out, rfl⟩
      case round =>
        clear HS HRT HME HR HRL HH
        obtain ⟨d2, m2, po2, co2, q2, ag2, hrs, hrt, hg⟩ := hrel
        have HS := Lib.hid (And.intro hrs hrt)
        have HG := Lib.hid hg
        have c2 := hrs.rm.c2
        have c5 := hrs.rm.c5
        have f5 := hrs.rm.f5
        have hMl := hrs.rm.ltM
        have hSl := hrs.rm.ltS
        have a0 : (0 : Int) ≤ (ag2 : Int) := Int.natCast_nonneg _
        have a1 : (ag2 : Int) ≤ 1048576 := by have := hrs.again; have := hrs.mi.cnt; omega
        clear hrs hrt hg
        rcases List.eq_nil_or_concat q2.st with e0 | ⟨st, a, e0⟩
        · have HPN := Lib.hid (pop_none (B := f.Sb) (base := base) (room := room) (cap := co2) (p := po2) (over := q2.ov) wr (by have := HS.out.1.rm.stk; rwa [e0] at this))
          have HE := Lib.hid e0
          clear e0
          go_wp2_with fail
          refine HPN.out.mono ?_
          rintro e w3 ⟨rfl, hb3⟩
          have HS3 := Lib.hid (HS.out.1.later hb3)
          have HCA := Lib.hid (show ∀ ov, q2.ov = ov → Calls Tryz.prog 82 #[.pointer (some ⟨f.Sb, 0, none⟩)] w3 fun e w' => e = .returned (.bool ov) ∧ StIs w' f.Sb base room co2 po2 [] false ∧ Chg (fun k => k = f.Sb) w3 w' ∧ w'.heap.size = w3.heap.size from fun ov ho => by
            have h1 := HS3.out.rm.stk
            rw [HE.out, ho] at h1
            exact calm_any w3 h1)
          have c2 := HS3.out.rm.c2
          clear hb3 HPN
          cases ho : q2.ov with
          | false =>
            have HO := Lib.hid ho
            clear ho
            go_wp2_with fail
            refine (HCA.out false HO.out).mono ?_
            rintro e w4 ⟨rfl, g1, g2, g3⟩
            obtain ⟨k1, k2, _, _⟩ := HS3.out.calm HE.out g1 g2
            have HF := Lib.hid (HS3.out.rest HE.out HO.out k2 k1)
            clear g1 g2 g3 k1 k2 HCA HS3
            go_wp2_with fail
            rw [Exit.noGoto_normal]
            go_end0
            exact ⟨⟨_, rfl⟩, d2, m2, po2, co2, q2, ag2, HF.out, HE.out, HO.out, HS.out.2⟩
          | true =>
            have HO := Lib.hid ho
            clear ho
            go_wp2_with fail
            refine (HCA.out true HO.out).mono ?_
            rintro e w4 ⟨rfl, g1, g2, g3⟩
            obtain ⟨k1, k2, k3, k4⟩ := HS3.out.calm HE.out g1 g2
            obtain ⟨y1, y2⟩ := k1.setA (ag2 + 1)
            have ec : ((ag2 + 1 : Nat) : Int) = (ag2 : Int) + 1 := rfl
            rw [ec] at y1 y2
            have c5 := k1.c5
            have f5 := k1.f5
            have HLA := Lib.hid (lookAll_any _ y1 (tz_vb hz ((HS3.out.chg.trans (k2.trans (y2.mono (fun k e => (.inr (.inl (.inl e)) : OwM H d2 f po2 k))) (fun _ e => .inl e)) HS3.out.grow).below HHI.out.1 HHI.out.2)) (Nat.lt_of_le_of_lt k4 hC) hk4 hw k3 hN)
            have HK := Lib.hid (k2.trans (y2.mono (fun k e => (.inr (.inl (.inl e)) : OwM H d2 f po2 k))) (fun _ e => .inl e))
            have c0' := y1.c0
            clear g1 g2 g3 k1 k2 k3 k4 y2 HCA
            go_wp2_with fail
            refine HLA.out.mono ?_
            rintro e w5 ⟨⟨u, rfl⟩, d3, m3, po3, co3, q3, hru⟩
            obtain ⟨r1, r2, r3⟩ := HS3.out.all HE.out HO.out HK.out hru
            have HF := Lib.hid (And.intro r1 (And.intro r2 r3))
            clear hru r1 r2 r3 HLA HK
            go_wp2_with fail
            go_roundg (msr s b q3)
            case measure => rw [HG.out]; exact HF.out.2.1
            case rel => exact ⟨d3, m3, po3, co3, q3, ag2 + 1, HF.out.1, fun r hr hb => HF.out.2.2 r (bnI_pos hb).1 (HS.out.2 r hr hb), rfl⟩
        · rw [List.concat_eq_append] at e0
          have HPG := Lib.hid (pop_good (B := f.Sb) (base := base) (room := room) (cap := co2) (p := po2) (ns := st) (x := a) (over := q2.ov) wr (by have := HS.out.1.rm.stk; rwa [e0] at this))
          have HE := Lib.hid e0
          clear e0
          go_wp2_with fail
          refine HPG.out.mono ?_
          rintro e w3 ⟨rfl, g1, g2⟩
          obtain ⟨k1, k2, k3, k4⟩ := HS.out.1.popped hw HE.out g1 g2
          have hphi' := HS.out.1.phi
          have HLK := Lib.hid (lookM_any a w3 k1 (by omega) hk4 hw k3 hN)
          have HK := Lib.hid (And.intro k2 k4)
          clear g1 g2 k1 k2 k3 k4 hphi' HPG
          go_wp2_with fail
          refine HLK.out.mono ?_
          rintro e w4 ⟨⟨u, rfl⟩, d3, po3, co3, g1, g2, g3⟩
          obtain ⟨r1, r2, r3⟩ := HS.out.1.pop hw hk4 HE.out HK.out.2 HK.out.1 g1 g2 g3
          have HF := Lib.hid (And.intro r1 (And.intro r2 r3))
          clear g1 g2 g3 r1 r2 r3 HLK HK
          go_wp2_with fail
          go_roundg (msr s b (mmts s b room (lk0 s q2 a st) ((fs s a).filter fun v => !(v == 0))))
          case measure => rw [HG.out]; exact HF.out.2.1
          case rel => exact ⟨d3, m2 + 40, po3, co3, _, ag2, HF.out.1, fun r hr hb => HF.out.2.2 r (bnI_pos hb).1 (HS.out.2 r hr hb), rfl⟩
end
end Go.Proofs.YtpcgmkchflmcmaaGreatDoor.Tr

namespace Go.Proofs.YtpcgmkchflmcmaaGreatDoor.Tr
open Go.RowKit Go.Shelf
open Class (below_drewN)
open Blk (Cfg allP kAt)
open Bits (SetIs TzTab)
open Stk (StIs new_good new_bad)
open Hp (isO_any Ids St Wf Is To Mine bn bnI bnI_nat objL not_mine colB objects_any NewRow pkA_len)
open Rf (paS paE paF hpaint_any)
open Go.Proofs.YtpcgmkchflmcmaaGreatDoor.Row (Chg Rd Rd0 rowB rowB_none cell_of_block frozen_of_block other same cellsZ owns_block owns_chg owns_lt)
open Go.Proofs.YtpcgmkchflmcmaaGreatDoor.Addr (Tabs)

/-- Colors, laid one behind the other. -/
def pts (s : St) (k : Bool) (os : List Nat) (l : List Int) : List Nat := l.foldl (fun os a => if bnI s a = true then Bits.putS (sz s) os a k else os) os
theorem pts_snoc (s : St) (k : Bool) (os : List Nat) (l : List Int) (v : Int) : pts s k os (l ++ [v]) = if bnI s v = true then Bits.putS (sz s) (pts s k os l) v k else pts s k os l := by simp [pts]
theorem pts_has {s : St} (hw : Wf s) (k : Bool) : ∀ (l : List Int) (os : List Nat), SetW (sz s) os → SetW (sz s) (pts s k os l) ∧ ∀ u, bnI s u = true → hasI (pts s k os l) u = if u ∈ l then k else hasI os u
  | [], os, h => ⟨h, fun u _ => by simp [pts]⟩
  | a :: l, os, h => by
    have h1 : SetW (sz s) (if bnI s a = true then Bits.putS (sz s) os a k else os) := by
      split
      · rename_i e; exact putS_set hw h e k
      · exact h
    obtain ⟨h2, h3⟩ := pts_has hw k l _ h1
    refine ⟨h2, fun u hu => ?_⟩
    have h4 : hasI (if bnI s a = true then Bits.putS (sz s) os a k else os) u = if u = a then k else hasI os u := by
      split
      · rename_i e; exact putS_int hw h e k (bnI_pos hu).1
      · rename_i e; rw [if_neg (show ¬ u = a from fun e2 => e (e2 ▸ hu))]
    show hasI (pts s k _ l) u = _
    rw [h3 u hu, h4]
    by_cases e1 : u ∈ l
    · simp [e1]
    · by_cases e2 : u = a
      · simp [e2]
      · simp [e1, e2]

section
variable {w X Y Z : World} {H : Nat} {d0 d d2 : Ids} {s : St} {os os2 : List Nat} {m m0 m2 : Nat} {Sb room B G cap : Nat} {p pr : Option Addr} {R : List Int} {b : Bool}
/-- A heap, a color laid. -/
theorem paint_tn (v : Int) (k : Bool) (X : World) (h : Is X H d (wo s os) m) :
    Calls Tryz.prog 42 #[.pointer (some ⟨H, 0, none⟩), .int .i64 v, .int .i64 (clr k)] X fun e w' => (∃ f g, e = .returned (.tuple #[.bool f, .int .i64 g])) ∧ ∃ d', Tn X H d w' d' (wo s (if bnI s v = true then Bits.putS (sz s) os v k else os)) m := by
  refine (hpaint_any v (clr k) X h).mono ?_
  rintro e w' ⟨rfl, d', h1, h2, h3⟩
  have hE : paE (wo s os) v (clr k) = if bnI s v = true then 0 else 1 := by
    unfold paE
    rw [wo_bnI, clr_col, if_pos rfl]
  refine ⟨⟨_, _, rfl⟩, d', ?_, h2, h3⟩
  rw [hE] at h1
  cases hb : bnI s v with
  | false => rw [hb] at h1; exact h1
  | true =>
    rw [hb] at h1
    have e : paS (wo s os) v.toNat (clr k) = wo s (Bits.putS (sz s) os v k) := by
      unfold paS wo sz
      rw [clr_eq, show ((v.toNat : Nat) : Int) = v from Int.toNat_of_nonneg (bnI_pos hb).1]
    rw [if_pos rfl, ← e]
    exact h1
/-- Ahead of the marking: a stack, the row of all objects. -/
structure Pre (w X : World) (H : Nat) (d0 d : Ids) (s : St) (os : List Nat) (m Sb room : Nat) (p : Option Addr) : Prop where
  tn : Tn w H d0 X d (wo s os) m
  stk : StIs X Sb Sb room 0 none [] false
  nS : ¬ Mine H d Sb
  rd : Rd X p (objL s)
  nm : ∀ g, rowB p g → 0 < (objL s).length → ¬ Mine H d g
  lo : w.heap.size ≤ Sb
theorem Pre.step (h : Pre w X H d0 d s os m Sb room p) (k : Tn X H d Y d2 (wo s os2) m2) : Pre w Y H d0 d2 s os2 m2 Sb room p :=
  ⟨h.tn.trans k, h.stk.chg k.chg h.nS (fun g hg => absurd hg (rowB_none g)), fun e => (k.grow _ e).elim h.nS (fun e => by have := h.stk.ltB; omega), h.rd.kept (fun g hg hl => k.chg.block g (h.rd.lt hg hl) (h.nm g hg hl)),
    fun g hg hl e => (k.grow g e).elim (h.nm g hg hl) (fun e => by have := h.rd.lt hg hl; omega), h.lo⟩
theorem Pre.begin {w1 : World} {capL : Nat} (h : Is w H d s m) (hs : StIs w1 w.heap.size w.heap.size room 0 none [] false) (hb : Below w.heap.size w w1) (hz : w1.heap.size = w.heap.size + 1) (ho : X.ownsRow w1.heap.size 3 1 (.slice p (objL s).length capL) (objL s).length (cellsZ (objL s))) (hb2 : Below w1.heap.size w1 X) :
    Pre w X H d d s s.os m w.heap.size room p :=
  ⟨((Tn.refl h).later hb).later hb2, hs.later hb2, not_mine h (Nat.le_refl _), Rd.of_owns ho, fun g hg _ e => by have := h.lt e; have := (owns_lt ho hg).1; omega, Nat.le_refl _⟩
/-- Where the marking begins. -/
theorem Pre.start (h : Pre w X H d0 d s os m Sb room p) (A : Ask w H d0 s m0 pr R) (hs : SetIs Y B G (sz s) cap (zsN s.ws.length)) (hB : X.heap.size ≤ B ∧ X.heap.size ≤ G ∧ B < Y.heap.size ∧ G < Y.heap.size ∧ B ≠ G) (hb : Below X.heap.size X Y) (hso : SetW (sz s) os) (hno : ∀ u, bnI s u = true → (hasI os u == b) = false)
    (hZ : Z = Y.alloc (.cells #[.pointer (some ⟨H, 0, none⟩), .int .i64 (clr b), .pointer (some ⟨Sb, 0, none⟩), .pointer (some ⟨B, 0, none⟩), .int .i64 0, .int .i64 0] 96)) :
    Rs Z Z H d d s m ⟨Y.heap.size, Sb, B, G⟩ cap Sb none none 0 room (objL s).length (m + 80 * (objL s).length) R b ⟨os, zsN s.ws.length, [], false, 0⟩ 0 ∧ TzTab Z ∧ Rd0 Z pr R ∧ (∀ g, rowB pr g → 0 < R.length → g < Z.heap.size ∧ ¬ OwM H d ⟨Y.heap.size, Sb, B, G⟩ none g) ∧ Tn w H d0 Z d (wo s os) m ∧ Z.heap.size = Y.heap.size + 1 := by
  have hbZ : Below Y.heap.size Y Z := by rw [hZ]; exact (Below.refl _ _).alloc (Nat.le_refl _) _
  have hsz : Z.heap.size = Y.heap.size + 1 := by rw [hZ]; simp
  have hXY := hb.size
  have hbXZ : Below X.heap.size X Z := hb.trans (hbZ.mono hXY)
  have hwX := h.tn.chg.size
  have hvb := A.vb
  have hT : Tn w H d0 Z d (wo s os) m := h.tn.later hbXZ
  have hSX := h.stk.ltB
  have hlo := h.lo
  have hbv : Below vB w Z := hT.chg.below A.hi A.vb
  have hnew : ∀ k, (⟨Y.heap.size, Sb, B, G⟩ : Fm).mem k → w.heap.size ≤ k := fun k hk => by
    rcases hk with e | e | e | e <;> simp only at e <;> omega
  have hap : ∀ k, (⟨Y.heap.size, Sb, B, G⟩ : Fm).mem k → ¬ Mine H d k := fun k hk e => by
    have hl := h.tn.is.lt e
    rcases hk with e2 | e2 | e2 | e2 <;> simp only at e2
    · omega
    · exact h.nS (e2 ▸ e)
    · omega
    · omega
  have hnow : now s (⟨os, zsN s.ws.length, [], false, 0⟩ : Mq) = 0 := by
    unfold now
    rw [List.length_eq_zero_iff, List.filter_eq_nil_iff]
    intro a _
    unfold hasI zsN
    rw [hasB_zero]
    decide
  have hup : upn s b (⟨os, zsN s.ws.length, [], false, 0⟩ : Mq) ≤ (objL s).length := List.length_filter_le _ _
  have hcell : ∀ (o : Nat) (v : Value), (#[.pointer (some ⟨H, 0, none⟩), .int .i64 (clr b), .pointer (some ⟨Sb, 0, none⟩), .pointer (some ⟨B, 0, none⟩), .int .i64 0, .int .i64 0] : Array Value)[o]? = some v → Z.cell? ⟨Y.heap.size, o, none⟩ = some v := fun o v hv => by
    rw [hZ, World.cell?_alloc_new]; exact hv
  have hfz : ∀ o : Nat, Z.frozen? ⟨Y.heap.size, o, none⟩ = false := fun o => by
    rw [hZ]; exact World.frozen?_alloc_at _ _ _ _ rfl
  have hrow : ∀ j, j < R.length → ∃ g off, pr = some ⟨g, off, none⟩ ∧ Z.cell? ⟨g, off + j, none⟩ = some (.int .i64 (R.getD j 0)) := fun j hj => by
    obtain ⟨g, off, e, hc⟩ := A.rd j hj
    have hg := A.row g (by rw [e]; rfl) (by omega)
    exact ⟨g, off, e, (hT.chg.cell (p := ⟨g, off + j, none⟩) hg.1 hg.2).trans hc⟩
  refine ⟨⟨⟨hT.is, tabs_vb A.tabs hbv, hs.below hbZ hB.2.2.1 hB.2.2.2.1, h.stk.later hbXZ, hcell 0 _ rfl, hcell 1 _ rfl, hcell 2 _ rfl, hcell 3 _ rfl, hcell 4 _ rfl, hcell 5 _ rfl, hfz 4, hfz 5, ?_, hap, fun g hg => absurd hg (rowB_none g), ?_, ?_, ?_, ?_⟩, Mi.start os hso hno, Chg.refl _ _, fun _ e => .inl e, ?_, ?_, fun _ => rfl⟩, tz_vb A.tz hbv, hrow, fun g hg hl => ?_, hT, hsz⟩
  · simp only [List.nodup_cons, List.mem_cons, List.not_mem_nil, or_false, not_or, List.nodup_nil, not_false_eq_true, and_true]
    omega
  · show B < Z.heap.size; omega
  · show G < Z.heap.size; omega
  · show Sb ≤ Z.heap.size; omega
  · intro k hk
    rcases hk with e | e | e
    · rcases h.tn.grow k e with e | e
      · exact A.hi k e
      · omega
    · have := hnew k e; omega
    · exact absurd e (rowB_none k)
  · show m + 40 * (2 * upn s b _ + 0 + now s _) ≤ _
    rw [hnow]
    omega
  · exact Nat.le_refl _
  · have hg1 := A.row g hg hl
    refine ⟨by omega, fun e => ?_⟩
    rcases e with e | e | e
    · rcases h.tn.grow g e with e | e
      · exact hg1.2 e
      · omega
    · have := hnew g e; omega
    · exact absurd e (rowB_none g)
/-- What Mark leaves. -/
def MarkT (w : World) (H : Nat) (d : Ids) (s : St) (m : Nat) (R : List Int) (b : Bool) (room : Nat) (e : Ending) (w' : World) : Prop :=
  ∃ (q ag : Nat) (os : List Nat) (d' : Ids), e = .returned (.tuple #[.int .i64 (q : Int), .int .i64 (ag : Int), .int .i64 0]) ∧ Tn w H d w' d' (wo s os) (m + 80 * (objL s).length) ∧ (∀ u, bnI s u = true → ((hasI os u == b) = true ↔ Rch s R u)) ∧ q = (rcL s R).length ∧ ag ≤ q ∧ ((objL s).length ≤ room → ag = 0)
theorem MarkT.later {e : Ending} {W W' : World} (h : MarkT w H d s m R b room e W) (hb : Below W.heap.size W W') : MarkT w H d s m R b room e W' := by
  obtain ⟨q, ag, os, d', h0, h1, h2⟩ := h
  exact ⟨q, ag, os, d', h0, h1.later hb, h2⟩
theorem Rs.fin {f : Fm} {po : Option Addr} {co ag : Nat} {W : World} {q : Mq} (h : Rs Z W H d d2 s m2 f cap Sb none po co room (objL s).length (m + 80 * (objL s).length) R b q ag) (hf : ∀ k, f.mem k → w.heap.size ≤ k) (hT : Tn w H d0 Z d (wo s os) m) (hw : Wf s) (hk : ∀ j, kAt s.ks j < 4) (hst : q.st = []) (hov : q.ov = false) (hr : ∀ r ∈ R, bnI s r = true → pt b q r = true) :
    MarkT w H d0 s m R b room (.returned (.tuple #[.int .i64 (q.p : Int), .int .i64 (ag : Int), .int .i64 0])) W := by
  obtain ⟨h1, h2⟩ := h.mi.fin hw hk hst hov hr rfl
  have hs := hT.chg.size
  have hphi := h.phi
  have hag := h.again
  rw [hov] at hag
  refine ⟨q.p, ag, q.os, d2, rfl, ⟨h.rm.is.more (by omega), hT.chg.trans h.chg (fun k e => ?_), fun j hj => ?_⟩, h1, h2, hag, h.big⟩
  · rcases e with e | e | e
    · exact hT.grow k e
    · exact .inr (hf k e)
    · exact absurd e (rowB_none k)
  · rcases h.grow j (.inl hj) with e | e
    · rcases e with e | e | e
      · exact hT.grow j e
      · exact .inr (hf j e)
      · exact absurd e (rowB_none j)
    · exact .inr (by omega)
end
theorem isC_any (c : Int) (w : World) : Calls Tryz.prog 40 #[.int .i64 c] w fun e w' => e = .returned (.bool (c == 0 || c == 1)) ∧ w = w' := by
  by_cases h0 : c = 0
  · subst h0
    go_enter Tryz.func40, Tryz.ntmps40
    go_wp2
    go_ret
    exact ⟨rfl, rfl⟩
  · have e0 : (c == 0) = false := by simpa using h0
    rw [e0, Bool.false_or]
    by_cases h1 : c = 1
    · subst h1
      go_enter Tryz.func40, Tryz.ntmps40
      go_wp2
      go_ret
      exact ⟨rfl, rfl⟩
    · have e1 : (c == 1) = false := by simpa using h1
      rw [e1]
      go_enter Tryz.func40, Tryz.ntmps40
      go_wp2
      go_ret
      exact ⟨rfl, rfl⟩
theorem clr_is (b : Bool) : (clr b == 0 || clr b == 1) = true := by cases b <;> rfl
theorem clr_not (b : Bool) : 1 - clr b = clr (!b) := by cases b <;> rfl
theorem clr_bd (b : Bool) : 0 ≤ clr b ∧ clr b ≤ 1 := by cases b <;> decide

set_option maxRecDepth 100000 in
set_option maxHeartbeats 4000000 in
theorem mark_any {w : World} {H : Nat} {d : Ids} {s : St} {m room : Nat} {pr : Option Addr} {R : List Int} (b : Bool) (cr : Nat) (h : Ask w H d s m pr R) (hr1 : 1 ≤ room) (hr2 : room ≤ 4096) (hm : m + 80 * (objL s).length < 700000) :
    Calls Tryz.prog 22 #[.pointer (some ⟨H, 0, none⟩), .int .i64 (clr b), .int .i64 (room : Int), .slice pr R.length cr] w (MarkT w H d s m R b room) := by
  have HN := Lib.hid (new_good room room rfl w hr1 hr2)
  have HC := Lib.hid (fun W => isC_any (clr b) W)
  rw [clr_is] at HC
  have HA := Lib.hid h
  have hw := h.is.wf
  have hk4 := h.is.tb.kLt
  have hN := pkA_len hw (bnI s)
  have HPA := Lib.hid (show ∀ (v : Int) (os : List Nat) (d' : Ids) (X : World), Is X H d' (wo s os) m → Calls Tryz.prog 42 #[.pointer (some ⟨H, 0, none⟩), .int .i64 v, .int .i64 (1 - clr b)] X fun e w' => (∃ f g, e = .returned (.tuple #[.bool f, .int .i64 g])) ∧ ∃ d2, Tn X H d' w' d2 (wo s (if bnI s v = true then Bits.putS (sz s) os v (!b) else os)) m from fun v os d' X hX => by
    rw [clr_not]
    exact paint_tn v (!b) X hX)
  have HST := Lib.hid (fun (X Y Z : World) (d' : Ids) (os : List Nat) (B G cap : Nat) (p : Option Addr) (hp : Pre w X H d d' s os m w.heap.size room p) => hp.start (Y := Y) (Z := Z) (B := B) (G := G) (cap := cap) (b := b) h)
  have hc := clr_bd b
  obtain ⟨c0, c1⟩ := hc
  have HW := Lib.hid hw
  have HK := Lib.hid hk4
  have HON := Lib.hid h.is.ones.row
  clear h hw hk4
  generalize clr b = c at *
  go_enter Tryz.func22, Tryz.ntmps22
  go_wp2_with (first
    | (go_at_call 40; refine (HC.out _).mono ?_; rintro e w0 ⟨rfl, rfl⟩)
    | (go_at_call 41; refine HN.out.mono ?_; rintro e w1 ⟨rfl, g1, g2, g3⟩; have HS1 := Lib.hid (And.intro g1 (And.intro g2 g3)); have HO := Lib.hid (objects_any w1 (HA.out.is.later g2) (HA.out.tabs.later g2)); clear g1 g2 g3)
    | (go_at_call 21; refine HO.out.mono ?_; rintro e w2 ⟨p, cl, rfl, ho, hb2⟩; have HP2 := Lib.hid (Pre.begin HA.out.is HS1.out.1 HS1.out.2.1 HS1.out.2.2 ho hb2); clear ho hb2))
  go_loopw [34] (fun x wr => ∃ (i : Nat) (d' : Ids), i ≤ (objL s).length ∧ x = .int .i64 (i : Int) ∧ Pre w wr H d d' s (pts s (!b) s.os ((objL s).take i)) m w.heap.size room p) (fun x _ => (objL s).length - (intOf x).toNat)
  case atStart => exact ⟨0, d, Nat.zero_le _, rfl, HP2.out⟩
  case round =>
    obtain ⟨i, d', hi, rfl, hpre⟩ := hrel
    have HP := Lib.hid hpre
    clear hpre HO HS1 HN
    by_cases hlt : i < (objL s).length
    · have i0 : (0 : Int) ≤ (i : Int) := Int.natCast_nonneg _
      have i1 : (i : Int) < ((objL s).length : Int) := by omega
      obtain ⟨g, off, hp, hc⟩ := HP.out.rd.at hlt
      have HX := Lib.hid (HPA.out ((objL s).getD i 0) _ d' wr HP.out.tn.is)
      rw [← pts_snoc, take_snoc _ hlt] at HX
      subst hp
      generalize (objL s).getD i 0 = v at *
      go_wp2_with (go_at_call 42; refine HX.out.mono ?_; rintro e w3 ⟨⟨f1, f2, rfl⟩, d3, hT⟩)
      go_roundw
      case rel => exact ⟨i + 1, d3, by omega, by go_num, HP.out.step hT⟩
      case measure => simp [intOf]; omega
    · have i1 : ¬ (i : Int) < ((objL s).length : Int) := by omega
      obtain rfl : i = (objL s).length := by omega
      rw [List.take_length] at HP
      have HTB := Lib.hid (HP.out.tn.tabs HA.out.is HA.out.tabs)
      have HPT := Lib.hid (pts_has HW.out (!b) (objL s) s.os HON.out)
      have HNO := Lib.hid (show ∀ u, bnI s u = true → (hasI (pts s (!b) s.os (objL s)) u == b) = false from fun u hu => by
        rw [HPT.out.2 u hu, if_pos ((objL_mem HW.out HK.out).2 hu)]
        cases b <;> rfl)
      go_wp2_with fail
      refine (none_any wr HP.out.tn.is HTB.out).mono ?_
      rintro e w4 ⟨B, G, rfl, h1, h2, h3, h4, h5, h6, h7⟩
      have HRS := Lib.hid (HST.out wr w4 _ d' _ B G _ p HP.out h1 ⟨h2, h3, h4, h5, h6⟩ h7 HPT.out.1 HNO.out rfl)
      have HNW := Lib.hid (show ∀ k, (⟨w4.heap.size, w.heap.size, B, G⟩ : Fm).mem k → w.heap.size ≤ k from fun k hk => by
        have e1 := HP.out.tn.chg.size
        have e2 := h7.size
        rcases hk with e | e | e | e <;> simp only at e <;> omega)
      clear h1 h2 h3 h4 h5 h6 h7 HNO HPT HTB HP HST HPA
      go_wp2_with fail
      refine (run_any pr cr R _ HRS.out.1 HRS.out.2.1 hm HK.out HW.out hN HRS.out.2.2.1 HRS.out.2.2.2.1 HA.out.len).mono ?_
      rintro e w5 ⟨⟨u, rfl⟩, d5, m5, po5, co5, q5, ag5, hrs, hst, hov, hroot⟩
      have HF := Lib.hid (hrs.fin HNW.out HRS.out.2.2.2.2.1 HW.out HK.out hst hov hroot)
      have c4 := hrs.rm.c4
      have c5 := hrs.rm.c5
      clear hrs hst hov hroot HRS HNW
      go_wp2
      go_region
      go_wp2
      go_ret3
      exact HF.out.later (below_drewN (Below.refl _ _) 1)
end Go.Proofs.YtpcgmkchflmcmaaGreatDoor.Tr
