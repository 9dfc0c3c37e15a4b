/-
  What sweeping leaves: which objects, of which color; what it frees.
-/
import Derived.Test.YtbejddpfnglkbaaGreatDoorSwL
namespace Go.Proofs.YtbejddpfnglkbaaGreatDoor.Sw
open Go.RowKit
open Blk (Cfg TbIs kAt seg seg_length perN allP allP_succ allP_len blk adr little little_any little_right)
open Hp (Ids St Wf Is To Mine bnI bn coE coV frE frS colB holdsF own cls fr puS unS mkE mkS mkA st0 objL pkA_eq bnI_nat mem_allP allP_sorted)
open Rf (Rp RTo Pu Ri Sl All Bo Lo Keep mkW)

theorem fr_bn {s : St} (h : Wp s) {a : Int} (ha : bnI s a = true) (x : Int) : bnI (frS s a.toNat) x = (bnI s x && !(x == a)) := by
  have ho := h.wf.bnI_own ha
  obtain ⟨n, rfl, n1, n2⟩ := Rf.own_nat h.wf ho
  rw [Int.toNat_natCast]
  show (decide (0 ≤ x) && hasB (Bits.putS (s.ws.length + 1) s.bs n false) x.toNat) = ((decide (0 ≤ x) && hasB s.bs x.toNat) && !(x == (n : Int)))
  rw [Hp.putS_has h.pu.sb (by omega)]
  by_cases h0 : 0 ≤ x
  · obtain ⟨k, rfl⟩ := Int.eq_ofNat_of_zero_le h0
    rw [Int.toNat_natCast]
    by_cases e : k = n
    · subst e; simp
    · rw [if_neg e]
      have : ((k : Int) == (n : Int)) = false := by rw [beq_eq_false_iff_ne]; omega
      rw [this]; simp
  · simp [h0]
theorem swT_bn {s : St} (h : Wp s) (col a x : Int) : bnI (swT s col a) x = (bnI s x && !((x == a) && swB s col a)) := by
  unfold swT
  split
  · rename_i hb
    have ha : bnI s a = true := by unfold swB at hb; rw [Bool.and_eq_true] at hb; exact hb.1
    rw [fr_bn h ha, hb, Bool.and_true]
  · rename_i hb
    have : swB s col a = false := by simpa using hb
    rw [this]; simp
theorem swT_os (s : St) (col a : Int) : (swT s col a).os = s.os := by unfold swT; split <;> rfl
theorem swS_os (s : St) (col : Int) (l : List Int) : (swS s col l).os = s.os := by
  induction l generalizing s with
  | nil => rfl
  | cons a l ih => rw [swS, ih, swT_os]
theorem coV_of {s s' : St} {x : Int} (h1 : bnI s x = true) (h2 : bnI s' x = true) (ho : s'.os = s.os) : coV s' x = coV s x := by
  unfold coV
  rw [if_pos h1, if_pos h2, ho]
/-- What is there still was there; it has its color; where it had a turn, the color. -/
theorem swS_bn {s : St} (h : Wp s) (col : Int) (l : List Int) (x : Int) (hx : bnI (swS s col l) x = true) : bnI s x = true ∧ (x ∈ l → coV s x = col) := by
  induction l generalizing s with
  | nil => exact ⟨hx, fun h => by cases h⟩
  | cons a l ih =>
    obtain ⟨h1, h2⟩ := ih (h.swT col a) hx
    rw [swT_bn h, Bool.and_eq_true] at h1
    have h3 : bnI (swT s col a) x = true := by rw [swT_bn h, Bool.and_eq_true]; exact h1
    have h4 := coV_of h1.1 h3 (swT_os s col a)
    refine ⟨h1.1, fun hm => ?_⟩
    rcases List.mem_cons.1 hm with e | e
    · subst e
      have h5 : swB s col x = false := by simpa using h1.2
      unfold swB at h5
      rw [h1.1] at h5
      simpa using h5
    · rw [← h4]; exact h2 e
theorem swS_stays {s : St} (h : Wp s) (col : Int) (l : List Int) (x : Int) (hx : bnI s x = true) (hc : coV s x = col) : bnI (swS s col l) x = true := by
  induction l generalizing s with
  | nil => exact hx
  | cons a l ih =>
    have hb : swB s col x = false := by unfold swB; rw [hc]; simp
    have h3 : bnI (swT s col a) x = true := by
      rw [swT_bn h, hx]
      by_cases e : x = a
      · subst e; rw [hb]; simp
      · have : (x == a) = false := by rw [beq_eq_false_iff_ne]; exact e
        rw [this]; simp
    exact ih (h.swT col a) h3 (by rw [coV_of hx h3 (swT_os s col a)]; exact hc)
/-- Nothing to free. -/
theorem sw_none {s : St} (col : Int) (l : List Int) (h : ∀ x ∈ l, swB s col x = false) : swF s col l = [] ∧ swS s col l = s := by
  induction l with
  | nil => exact ⟨rfl, rfl⟩
  | cons a l ih =>
    have h1 := h a (by simp)
    have h2 : swT s col a = s := by unfold swT; rw [h1]; rfl
    obtain ⟨i1, i2⟩ := ih (fun x hx => h x (List.mem_cons_of_mem _ hx))
    rw [swF, swS, h2, h1, i1, i2]
    exact ⟨rfl, rfl⟩
theorem swB_other {s : St} (h : Wp s) (col a x : Int) (hx : x ≠ a) : swB (swT s col a) col x = swB s col x := by
  have hb : bnI (swT s col a) x = bnI s x := by
    rw [swT_bn h]
    have : (x == a) = false := by rw [beq_eq_false_iff_ne]; exact hx
    rw [this]; simp
  unfold swB coV
  rw [hb, swT_os]
theorem swF_filter {s : St} (h : Wp s) (col : Int) (l : List Int) (hd : l.Nodup) : swF s col l = l.filter (swB s col) := by
  induction l generalizing s with
  | nil => rfl
  | cons a l ih =>
    rw [List.nodup_cons] at hd
    rw [swF, ih (h.swT col a) hd.2, List.filter_congr (fun x hx => swB_other h col a x (fun e => hd.1 (e ▸ hx)))]
    cases hb : swB s col a with
    | true => simp [hb]
    | false => simp [hb]
theorem allP_nodup {s : St} (h : Wp s) : (allP s.c s.ks s.ks.length).Nodup := (allP_sorted h.wf h.k4).imp (fun hab e => by subst e; omega)
theorem objL_eq (s : St) : objL s = (allP s.c s.ks s.ks.length).filter (bnI s) := by unfold objL; exact pkA_eq s _
theorem mem_obj {s : St} (h : Wp s) {x : Int} : x ∈ objL s ↔ bnI s x = true := by
  rw [objL_eq, List.mem_filter, mem_allP h.wf h.k4]
  exact ⟨fun h => h.2, fun hb => ⟨h.wf.bnI_own hb, hb⟩⟩
/-- Behind a sweep of all, all objects have the color. -/
theorem all_left {s : St} (h : Wp s) (col : Int) (x : Int) (hx : bnI (swS s col (allP s.c s.ks s.ks.length)) x = true) : coV (swS s col (allP s.c s.ks s.ks.length)) x = col := by
  obtain ⟨h1, h2⟩ := swS_bn h col _ x hx
  rw [coV_of h1 hx (swS_os ..)]
  exact h2 ((mem_allP h.wf h.k4).2 (h.wf.bnI_own h1))
end Go.Proofs.YtbejddpfnglkbaaGreatDoor.Sw
