/-
  What pouring paints: the law's answer and the noter's steps.
-/
import Derived.Test.YtkfgchhlekdpgaaGreatDoorNtK
namespace Go.Proofs.YtkfgchhlekdpgaaGreatDoor.Nt
open Go.RowKit
open Hp (Ids St bnI bn coE coV colB objL putS_has)
open Rf (paS paE paF setW_putS)

/-- A state whose set of colors has its size. -/
structure Og (s : St) : Prop where
  so : SetW (s.ws.length + 1) s.os
  hi : ∀ x, bnI s x = true → x.toNat < s.ws.length + 1
theorem bnI_le {s : St} {x : Int} (h : bnI s x = true) : 0 ≤ x := by
  unfold bnI at h
  simp only [Bool.and_eq_true, decide_eq_true_eq] at h
  exact h.1
theorem paE_good {s : St} {a c : Int} (ha : bnI s a = true) (hc : colB c = true) : paE s a c = 0 := by
  unfold paE
  rw [if_pos ha, if_pos hc]
theorem pS_eq {s : St} {a c : Int} (ha : bnI s a = true) (hc : colB c = true) : pS c s a = paS s a.toNat c := by
  unfold pS
  rw [if_pos (paE_good ha hc)]
theorem pS_bn (c : Int) (s : St) (a x : Int) : bnI (pS c s a) x = bnI s x := by
  unfold pS
  split <;> rfl
theorem pS_og {s : St} {a c : Int} (h : Og s) (ha : bnI s a = true) (hc : colB c = true) : Og (pS c s a) := by
  rw [pS_eq ha hc]
  exact ⟨setW_putS h.so (h.hi a ha) _, h.hi⟩
theorem col_two {c : Int} (hc : colB c = true) : c = 0 ∨ c = 1 := by
  unfold colB at hc
  simpa using hc
theorem pS_co {s : St} {a c x : Int} (h : Og s) (ha : bnI s a = true) (hc : colB c = true) (hx : bnI s x = true) : coV (pS c s a) x = if x = a then c else coV s x := by
  have h0 := bnI_le ha
  have h1 := bnI_le hx
  unfold coV
  rw [pS_bn, if_pos hx, if_pos hx, pS_eq ha hc]
  unfold paS
  simp only []
  rw [putS_has h.so (h.hi a ha)]
  by_cases e : x = a
  · subst e
    rw [if_pos rfl, if_pos rfl]
    rcases col_two hc with rfl | rfl <;> rfl
  · have e' : ¬ x.toNat = a.toNat := by omega
    rw [if_neg e, if_neg e']
theorem paF_eq {s : St} {a c : Int} (ha : bnI s a = true) (hc : colB c = true) : paF s a c = (coV s a != c) := by
  unfold paF coV
  rw [if_pos (paE_good ha hc), if_pos ha]
  rcases col_two hc with rfl | rfl <;> cases hasB s.os a.toNat <;> rfl
theorem pAn_eq {c : Int} (hc : colB c = true) : ∀ (xs : List Int) (s : St) (an : Bool), Og s → (∀ a ∈ xs, bnI s a = true) → pAn c xs s an = (an || xs.any fun a => coV s a != c)
  | [], s, an, _, _ => by simp [pAn]
  | a :: r, s, an, h, hb => by
    have ha := hb a (by simp)
    have hr : ∀ x ∈ r, bnI s x = true := fun x hx => hb x (by simp [hx])
    unfold pAn
    rw [pAn_eq hc r (pS c s a) _ (pS_og h ha hc) (fun x hx => by rw [pS_bn]; exact hr x hx), paF_eq ha hc, List.any_cons]
    by_cases e : coV s a = c
    · have hs : (r.any fun x => coV (pS c s a) x != c) = r.any fun x => coV s x != c := by
        rw [Bool.eq_iff_iff, List.any_eq_true, List.any_eq_true]
        have hco : ∀ x ∈ r, coV (pS c s a) x = coV s x := fun x hx => by
          rw [pS_co h ha hc (hr x hx)]
          split
          · rename_i e2; rw [e2, e]
          · rfl
        exact ⟨fun ⟨x, hx, e3⟩ => ⟨x, hx, by rw [hco x hx] at e3; exact e3⟩, fun ⟨x, hx, e3⟩ => ⟨x, hx, by rw [hco x hx]; exact e3⟩⟩
      rw [hs, Bool.or_assoc]
    · have : (coV s a != c) = true := by simpa using e
      rw [this]
      simp
theorem pSt_bn (c : Int) : ∀ (xs : List Int) (s : St) (x : Int), bnI (pSt c xs s) x = bnI s x
  | [], _, _ => rfl
  | a :: r, s, x => by
    unfold pSt
    rw [pSt_bn c r, pS_bn]
theorem pSt_co {c : Int} (hc : colB c = true) : ∀ (xs : List Int) (s : St) (x : Int), Og s → (∀ a ∈ xs, bnI s a = true) → bnI s x = true → coV (pSt c xs s) x = if x ∈ xs then c else coV s x
  | [], s, x, _, _, _ => by simp [pSt]
  | a :: r, s, x, h, hb, hx => by
    have ha := hb a (by simp)
    have hr : ∀ x ∈ r, bnI s x = true := fun x hx => hb x (by simp [hx])
    unfold pSt
    rw [pSt_co hc r (pS c s a) x (pS_og h ha hc) (fun x hx => by rw [pS_bn]; exact hr x hx) (by rw [pS_bn]; exact hx), pS_co h ha hc hx]
    by_cases e1 : x ∈ r
    · rw [if_pos e1, if_pos (by simp [e1])]
    · by_cases e2 : x = a
      · subst e2
        rw [if_neg e1, if_pos rfl, if_pos (by simp)]
      · rw [if_neg e1, if_neg e2, if_neg (by simp [e1, e2])]
theorem frL_mem (cf : Int → Int) (c : Int) (xs : List Int) (x : Int) : x ∈ frL cf c xs ↔ x ∈ xs ∧ cf x ≠ c := by
  have : ∀ (l acc : List Int), x ∈ l.foldl (frS cf c) acc ↔ x ∈ acc ∨ (x ∈ l ∧ cf x ≠ c) := by
    intro l
    induction l with
    | nil => intro acc; simp
    | cons a r ih =>
      intro acc
      rw [List.foldl_cons, ih]
      unfold frS
      by_cases e : x = a
      · subst e
        by_cases e2 : cf x = c
        · simp [e2]
        · by_cases e3 : x ∈ acc
          · simp [e3]
          · simp [e2, e3]
      · split <;> simp [e]
  have h := this xs []
  simpa [frL] using h
theorem frL_any (cf : Int → Int) (c : Int) (xs : List Int) : (xs.any fun a => cf a != c) = decide (frL cf c xs ≠ []) := by
  rw [Bool.eq_iff_iff, List.any_eq_true, decide_eq_true_iff]
  constructor
  · rintro ⟨x, hx, e⟩ h
    have := (frL_mem cf c xs x).2 ⟨hx, by simpa using e⟩
    rw [h] at this
    cases this
  · intro h
    obtain ⟨x, hx⟩ := List.exists_mem_of_ne_nil _ h
    obtain ⟨h1, h2⟩ := (frL_mem cf c xs x).1 hx
    exact ⟨x, h1, by simpa using h2⟩
section
variable {s : St} {c : Int} {xs : List Int}
theorem pK_eq (h : Og s) (hc : colB c = true) (hb : ∀ a ∈ xs, bnI s a = true) (ys : List Int) : pK c s xs ys = poK (coV s) c xs ys.length := by
  unfold pK poK
  by_cases e1 : xs = []
  · rw [if_pos e1, if_pos e1]
  · by_cases e2 : ys = []
    · rw [if_neg e1, if_neg e1, if_pos e2, if_pos (by rw [e2]; rfl)]
    · have e3 : ¬ ys.length = 0 := fun e => e2 (List.length_eq_zero_iff.1 e)
      rw [if_neg e1, if_neg e1, if_neg e2, if_neg e3, pAn_eq hc xs s false h hb, Bool.false_or, frL_any]
      by_cases e4 : frL (coV s) c xs = []
      · simp [e4]; omega
      · simp [e4]; omega
theorem pU_eq (h : Og s) (hc : colB c = true) (hb : ∀ a ∈ xs, bnI s a = true) (ys : List Int) : pU c s xs ys = decide (0 < (poR (coV s) c xs ys.length).length) := by
  unfold pU poR
  by_cases e1 : xs = []
  · rw [if_pos e1, if_pos e1]; rfl
  · by_cases e2 : ys = []
    · rw [if_neg e1, if_neg e1, if_pos e2, if_pos (by rw [e2]; rfl)]; rfl
    · have e3 : ¬ ys.length = 0 := fun e => e2 (List.length_eq_zero_iff.1 e)
      rw [if_neg e1, if_neg e1, if_neg e2, if_neg e3, pAn_eq hc xs s false h hb, Bool.false_or, frL_any]
      rw [Bool.eq_iff_iff, decide_eq_true_iff, decide_eq_true_iff, List.length_pos_iff]
theorem pT_bn (ys : List Int) (x : Int) : bnI (pT c s xs ys) x = bnI s x := by
  unfold pT
  split
  · rfl
  · split
    · rfl
    · exact pSt_bn c xs s x
theorem pT_co (h : Og s) (hc : colB c = true) (hb : ∀ a ∈ xs, bnI s a = true) (ys : List Int) {x : Int} (hx : bnI s x = true) : coV (pT c s xs ys) x = if x ∈ poR (coV s) c xs ys.length then c else coV s x := by
  unfold pT poR
  by_cases e1 : xs = []
  · rw [if_pos e1, if_pos e1, if_neg (by simp)]
  · by_cases e2 : ys = []
    · have e3 : ys.length = 0 := by rw [e2]; rfl
      rw [if_neg e1, if_neg e1, if_pos e2, if_pos e3, if_neg (by simp)]
    · have e3 : ¬ ys.length = 0 := fun e => e2 (List.length_eq_zero_iff.1 e)
      rw [if_neg e1, if_neg e1, if_neg e2, if_neg e3, pSt_co hc xs s x h hb hx]
      by_cases e4 : x ∈ xs
      · by_cases e5 : coV s x = c
        · rw [if_pos e4, if_neg (by rw [frL_mem]; exact fun e => e.2 e5), e5]
        · rw [if_pos e4, if_pos (by rw [frL_mem]; exact ⟨e4, e5⟩)]
      · rw [if_neg e4, if_neg (by rw [frL_mem]; exact fun e => e4 e.1)]
/-- As painted wants it. -/
theorem pT_ok (h : Og s) (hc : colB c = true) (hb : ∀ a ∈ xs, bnI s a = true) (ys al : List Int) (hal : ∀ a ∈ al, bnI s a = true) : ∀ a ∈ al, coE (pT c s xs ys) a = 0 ∧ coV (pT c s xs ys) a = if a ∈ poR (coV s) c xs ys.length then c else coV s a := fun a ha =>
  ⟨by unfold coE; rw [pT_bn, if_pos (hal a ha)], pT_co h hc hb ys (hal a ha)⟩
end
end Go.Proofs.YtkfgchhlekdpgaaGreatDoor.Nt
