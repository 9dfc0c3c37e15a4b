/-
  What an operation does to registers, to how many objects there are, to a field.
-/
import Derived.Test.YtcdnbheoelnghaaDoorGrW
namespace Go.Proofs.YtcdnbheoelnghaaDoor.Gra
open Go.RowKit Go.Proofs.YtcdnbheoelnghaaDoor.Opr

theorem rgI_at {s : GSt} {m q : Int} (hm : 0 ≤ m ∧ m < s.nR) : rgI s m q = atI (s.E (4 + 2 * m.toNat)) q := by unfold rgI; rw [if_pos hm]
theorem rgI_in {M r nc : Nat} {s : GSt} (wf : GWf M r nc s) {m q : Int} (hm : 0 ≤ m ∧ m < M) (hq : 0 ≤ q ∧ q < r) : rgI s m q = rg s m q := by
  have hl := wf.reg m.toNat (by omega)
  rw [rgI_at (by rw [wf.nR]; exact hm)]
  unfold atI rg
  rw [if_pos (by rw [hl]; exact hq)]
theorem rgI_set_far {s : GSt} {j k : Nat} {v m q : Int} (h : ∀ i : Nat, m = i → j ≠ 4 + 2 * i) : rgI (s.set j k v) m q = rgI s m q := by
  by_cases hm : 0 ≤ m ∧ m < s.nR
  · rw [rgI_at (s := s.set j k v) hm, rgI_at hm, GSt.set_other s (fun e => h m.toNat (by omega) e.symm)]
  · have hm2 : ¬ (0 ≤ m ∧ m < (s.set j k v).nR) := hm
    unfold rgI; rw [if_neg hm, if_neg hm2]
theorem rgI_set_same {s : GSt} {m q v : Int} (hm : 0 ≤ m ∧ m < s.nR) (hq : 0 ≤ q ∧ q < (s.E (4 + 2 * m.toNat)).length) : rgI (s.set (4 + 2 * m.toNat) q.toNat v) m q = v := by
  rw [rgI_at (s := s.set (4 + 2 * m.toNat) q.toNat v) hm, GSt.set_same]
  unfold atI
  rw [if_pos (by rw [List.length_set]; exact hq), getD_set (by omega), if_pos rfl]
theorem rgI_add {s : GSt} {x : Nat} {m q : Int} : rgI (s.add x) m q = rgI s m q := by
  by_cases hm : 0 ≤ m ∧ m < s.nR
  · rw [rgI_at (s := s.add x) hm, rgI_at hm, GSt.add_old _ _ (by omega)]
  · have hm2 : ¬ (0 ≤ m ∧ m < (s.add x).nR) := hm
    unfold rgI; rw [if_neg hm, if_neg hm2]
/-- Another mutator's registers stay. -/
theorem reg_stays {b wd lg st : Int} {M r nc : Nat} {s : GSt} (_wf : GWf M r nc s) (q : DQ) {m k : Int} (hm : m ≠ q.1) : rgI (gS ⟨b, wd, M, r, nc, lg, st⟩ s q) m k = rgI s m k := by
  obtain ⟨q0, qk, qa, qb, qc⟩ := q
  simp only at hm
  unfold gS gdo
  simp only
  split
  · rfl
  · rename_i h1
    have h1' : 0 ≤ q0 ∧ q0 < (M : Int) := by simpa using h1
    split
    · rfl
    · rename_i h2
      have far : ∀ i : Nat, m = i → 4 + 2 * q0.toNat ≠ 4 + 2 * i := fun i hi => by omega
      unfold gd
      (repeat' split)
      · rw [rgI_set_far far, rgI_add]
      · rfl
      · rfl
      · rw [rgI_set_far far]
      · rfl
      · rfl
      · rw [rgI_set_far (fun i _ => by unfold ob; omega)]
      · rw [rgI_set_far far]
      · rw [rgI_set_far (fun i _ => by omega)]
      · rw [rgI_set_far far]
      · rw [rgI_set_far far]
      · rfl
/-- What is OK has a mutator, and a check that is OK. -/
theorem ok_of {b wd lg st : Int} {M r nc : Nat} {s : GSt} {q : DQ} (h : gE ⟨b, wd, M, r, nc, lg, st⟩ s q = 0) :
    (0 ≤ q.1 ∧ q.1 < (M : Int)) ∧ checkE b wd M r nc lg st q.2.1 q.2.2.1 q.2.2.2.1 q.2.2.2.2 = 0 ∧ gS ⟨b, wd, M, r, nc, lg, st⟩ s q = (gd s q.1 q.2.1 q.2.2.1 q.2.2.2.1 q.2.2.2.2).2.2 ∧ gV ⟨b, wd, M, r, nc, lg, st⟩ s q = (gd s q.1 q.2.1 q.2.2.1 q.2.2.2.1 q.2.2.2.2).1 ∧ (gd s q.1 q.2.1 q.2.2.1 q.2.2.2.1 q.2.2.2.2).2.1 = 0 := by
  unfold gE gdo at h
  unfold gS gV gdo
  simp only at h ⊢
  by_cases h1 : ¬ (0 ≤ q.1 ∧ q.1 < (M : Int))
  · rw [if_pos h1] at h; simp at h
  · rw [if_neg h1] at h ⊢
    by_cases h2 : checkE b wd M r nc lg st q.2.1 q.2.2.1 q.2.2.2.1 q.2.2.2.2 ≠ 0
    · rw [if_pos h2] at h; exact absurd h h2
    · rw [if_neg h2] at h ⊢
      exact ⟨by simpa using h1, by simpa using h2, rfl, rfl, h⟩
/-- How many objects there are then. -/
theorem nO_of {b wd lg st : Int} {M r nc : Nat} {s : GSt} (q : DQ) : (gS ⟨b, wd, M, r, nc, lg, st⟩ s q).nO = if gE ⟨b, wd, M, r, nc, lg, st⟩ s q = 0 ∧ q.2.1 = 1 then s.nO + 1 else s.nO := by
  by_cases he : gE ⟨b, wd, M, r, nc, lg, st⟩ s q = 0
  · obtain ⟨_, _, h1, _⟩ := ok_of he
    rw [h1]
    by_cases hk : q.2.1 = 1
    · rw [if_pos ⟨he, hk⟩]
      unfold gd
      rw [if_pos hk]; rfl
    · rw [if_neg (fun e => hk e.2)]
      unfold gd
      rw [if_neg hk]
      (repeat' split) <;> rfl
  · rw [if_neg (fun e => he e.1), (gE_err he).2]
theorem alloc_of {b wd lg st : Int} {M r nc : Nat} {s : GSt} {q : DQ} (h : gE ⟨b, wd, M, r, nc, lg, st⟩ s q = 0) (hk : q.2.1 = 1) : gV ⟨b, wd, M, r, nc, lg, st⟩ s q = (s.nO : Int) + 1 := by
  obtain ⟨_, _, _, h1, _⟩ := ok_of h
  rw [h1]
  unfold gd
  rw [if_pos hk]
/-- What a register takes is what is told. -/
theorem take_of {b wd lg st : Int} {M r nc : Nat} {s : GSt} (wf : GWf M r nc s) {q : DQ} (h : gE ⟨b, wd, M, r, nc, lg, st⟩ s q = 0) (hk : q.2.1 = 2 ∨ q.2.1 = 4 ∨ q.2.1 = 7) :
    rgI (gS ⟨b, wd, M, r, nc, lg, st⟩ s q) q.1 q.2.2.1 = gV ⟨b, wd, M, r, nc, lg, st⟩ s q := by
  obtain ⟨hm, hck, h1, h2, h3⟩ := ok_of h
  rw [h1, h2]
  obtain ⟨q0, qk, qa, qb, qc⟩ := q
  simp only at hm hck h3 hk ⊢
  have hl := wf.reg q0.toNat (by omega)
  have hm2 : 0 ≤ q0 ∧ q0 < (s.nR : Int) := by rw [wf.nR]; exact hm
  rcases hk with rfl | rfl | rfl
  · have ha := (ck2 hck).1
    unfold gd at h3 ⊢
    rw [if_neg (by decide), if_pos rfl] at h3 ⊢
    split at h3
    · simp at h3
    · rename_i g1
      rw [if_neg g1]
      split at h3
      · simp at h3
      · rename_i g2
        rw [if_neg g2]
        exact rgI_set_same hm2 (by rw [hl]; exact ha)
  · have ha := (ck4 hck).1
    exact rgI_set_same hm2 (by rw [hl]; exact ha)
  · have ha := (ck7 hck).1
    exact rgI_set_same hm2 (by rw [hl]; exact ha)
/-- What is stored is there. -/
theorem store_of {b wd lg st : Int} {M r nc : Nat} {s : GSt} (wf : GWf M r nc s) {q : DQ} (h : gE ⟨b, wd, M, r, nc, lg, st⟩ s q = 0) (hk : q.2.1 = 3) :
    0 ≤ q.2.2.2.1 ∧ q.2.2.2.1 < (fdI (gS ⟨b, wd, M, r, nc, lg, st⟩ s q) (rgI (gS ⟨b, wd, M, r, nc, lg, st⟩ s q) q.1 q.2.2.1)).length ∧
      (fdI (gS ⟨b, wd, M, r, nc, lg, st⟩ s q) (rgI (gS ⟨b, wd, M, r, nc, lg, st⟩ s q) q.1 q.2.2.1)).getD q.2.2.2.1.toNat 0 = rgI (gS ⟨b, wd, M, r, nc, lg, st⟩ s q) q.1 q.2.2.2.2 := by
  obtain ⟨hm, hck, h1, h2, h3⟩ := ok_of h
  rw [h1]
  obtain ⟨q0, qk, qa, qb, qc⟩ := q
  simp only at hm hck h3 hk ⊢
  subst hk
  obtain ⟨ha, hc⟩ := ck3 hck
  have hv := wf.rg hm ha
  unfold gd at h3 ⊢
  rw [if_neg (by decide), if_neg (by decide), if_pos rfl] at h3 ⊢
  split at h3
  · simp at h3
  · rename_i g1
    rw [if_neg g1]
    split at h3
    · simp at h3
    · rename_i g2
      rw [if_neg g2]
      have g3 : 0 ≤ qb ∧ qb < ((s.E (ob (rg s q0 qa))).length : Int) := by simpa using g2
      have far : ∀ i : Nat, q0 = i → ob (rg s q0 qa) ≠ 4 + 2 * i := fun i _ => by unfold ob; omega
      simp only
      rw [rgI_set_far far, rgI_set_far far, rgI_in wf hm ha, rgI_in wf hm hc]
      have e1 : fdI (s.set (ob (rg s q0 qa)) qb.toNat (rg s q0 qc)) (rg s q0 qa) = (s.E (ob (rg s q0 qa))).set qb.toNat (rg s q0 qc) := by
        unfold fdI
        have hc2 : 1 ≤ rg s q0 qa ∧ rg s q0 qa ≤ ((s.set (ob (rg s q0 qa)) qb.toNat (rg s q0 qc)).nO : Int) := (show 1 ≤ rg s q0 qa ∧ rg s q0 qa ≤ (s.nO : Int) by omega)
        rw [if_pos hc2]
        exact GSt.set_same s _ _ _
      rw [e1, List.length_set, getD_set (by omega), if_pos rfl]
      exact ⟨g3.1, g3.2, rfl⟩
end Go.Proofs.YtcdnbheoelnghaaDoor.Gra
