/-
  Plain: places sorted by their numbers, of two alike ones the lesser place first: what an insertion sort makes of them.
-/
import Derived.Test.YthofknjdmfpbeaaFaM
import Derived.Shelf.SlSortCmp.Insertion
import Derived.Sort.LotA
namespace Go.Proofs.Ythofknjdmfpbeaa.Fa
open Go.Sort (swp insInner insOuter insertionSort SWO PermIn SortedIn)
variable {m : Nat}

/-- What cmp.Compare tells of two numbers. -/
def cmpU (a b : Nat) : Int := if a < b then -1 else if b < a then 1 else 0
def cfU (v : Nat → Nat) (x y : Fin (m + 1)) : Int := cmpU (v x.val) (v y.val)
def ltL (v : Nat → Nat) (x y : Fin (m + 1)) : Bool := decide (v x.val < v y.val ∨ (v x.val = v y.val ∧ x.val < y.val))
theorem ltOf_cfU (v : Nat → Nat) (x y : Fin (m + 1)) : ltOf (cfU v) x y = decide (v x.val < v y.val) := by
  unfold ltOf cfU cmpU
  split
  · simp [*]
  · split <;> simp [*]

theorem inner_eq (v : Nat → Nat) : ∀ (j : Nat) (d : Array (Fin (m + 1))), j < d.size → (∀ k, k < j → d[k]!.val < d[j]!.val) →
    insInner (ltOf (cfU v)) 0 j d = insInner (ltL v) 0 j d ∧ (insInner (ltL v) 0 j d).size = d.size ∧ (∀ k, j < k → (insInner (ltL v) 0 j d)[k]! = d[k]!) ∧ ∀ k, k ≤ j → ∃ k', k' ≤ j ∧ (insInner (ltL v) 0 j d)[k]! = d[k']! := by
  intro j
  induction j with
  | zero => intro d _ _; exact ⟨rfl, rfl, fun _ _ => rfl, fun k hk => ⟨k, hk, rfl⟩⟩
  | succ j ih =>
    intro d hj hd
    have hlt : ltOf (cfU v) d[j + 1]! d[j]! = ltL v d[j + 1]! d[j]! := by
      rw [ltOf_cfU]
      unfold ltL
      have := hd j (by omega)
      congr 1
      simp only [eq_iff_iff]
      omega
    have hg := fun k => Go.Sort.swp_get d (i := j + 1) (j := j) hj (by omega) k
    unfold insInner
    rw [hlt]
    cases hc : ltL v d[j + 1]! d[j]! with
    | false => exact ⟨by simp, by simp, fun k _ => by simp, fun k hk => ⟨k, hk, by simp⟩⟩
    | true =>
      simp only [gt_iff_lt, Nat.zero_lt_succ, decide_true, Bool.and_self, if_true]
      have hj1 : (swp d (j + 1) j)[j]! = d[j + 1]! := by rw [hg j]; simp
      have hlo : ∀ k, k < j → (swp d (j + 1) j)[k]! = d[k]! := fun k hk => by rw [hg k]; simp [show k ≠ j + 1 by omega, show k ≠ j by omega]
      have hup : ∀ k, j + 1 < k → (swp d (j + 1) j)[k]! = d[k]! := fun k hk => by rw [hg k]; simp [show k ≠ j + 1 by omega, show k ≠ j by omega]
      have hj2 : (swp d (j + 1) j)[j + 1]! = d[j]! := by rw [hg (j + 1)]; simp
      obtain ⟨h1, h2, h3, h4⟩ := ih (swp d (j + 1) j) (by rw [Go.Sort.swp_size]; omega) (fun k hk => by rw [hj1, hlo k hk]; exact hd k (by omega))
      refine ⟨h1, by rw [h2, Go.Sort.swp_size], fun k hk => by rw [h3 k (by omega), hup k hk], fun k hk => ?_⟩
      by_cases e : k = j + 1
      · subst e
        exact ⟨j, by omega, by rw [h3 (j + 1) (by omega), hj2]⟩
      · obtain ⟨k', hk', he⟩ := h4 k (by omega)
        rw [he]
        by_cases e2 : k' = j
        · subst e2; exact ⟨k' + 1, Nat.le_refl _, hj1⟩
        · exact ⟨k', by omega, hlo k' (by omega)⟩

theorem outer_eq (v : Nat → Nat) : ∀ (t i : Nat) (d : Array (Fin (m + 1))), m + 1 - i = t → d.size = m + 1 → (∀ k, k < i → k < m + 1 → d[k]!.val < i) → (∀ k, i ≤ k → k < m + 1 → d[k]!.val = k) →
    insOuter (ltOf (cfU v)) 0 (m + 1) i d = insOuter (ltL v) 0 (m + 1) i d := by
  intro t
  induction t with
  | zero =>
    intro i d ht _ _ _
    rw [insOuter, if_neg (by omega), insOuter, if_neg (by omega)]
  | succ t ih =>
    intro i d ht hs hlo hup
    obtain ⟨h1, h2, h3, h4⟩ := inner_eq v i d (by omega) (fun k hk => by rw [hup i (Nat.le_refl _) (by omega)]; exact hlo k hk (by omega))
    rw [Go.Proofs.insOuter_go (ltOf (cfU v)) 0 (m + 1) i d (by omega), Go.Proofs.insOuter_go (ltL v) 0 (m + 1) i d (by omega), h1]
    refine ih (i + 1) _ (by omega) (by rw [h2, hs]) (fun k hk hk2 => ?_) (fun k hk hk2 => by rw [h3 k (by omega)]; exact hup k (by omega) hk2)
    obtain ⟨k', hk', he⟩ := h4 k (by omega)
    rw [he]
    by_cases e : k' = i
    · subst e; rw [hup k' (Nat.le_refl _) (by omega)]; omega
    · have := hlo k' (by omega) (by omega); omega

/-- Places as they are. -/
def idA (m : Nat) : Array (Fin (m + 1)) := Array.ofFn fun x => x
theorem idA_size : (idA m).size = m + 1 := by simp [idA]
theorem idA_at {k : Nat} (h : k < m + 1) : (idA m)[k]!.val = k := by
  rw [getElem!_pos _ _ (by rw [idA_size]; exact h)]
  simp [idA]
theorem ins_eq (v : Nat → Nat) : insertionSort (ltOf (cfU v)) (idA m) 0 (m + 1) = insertionSort (ltL v) (idA m) 0 (m + 1) :=
  outer_eq v _ 1 _ rfl idA_size (fun k hk hk2 => by rw [idA_at hk2]; exact hk) (fun k _ hk2 => idA_at hk2)

theorem swo_ltL (v : Nat → Nat) : SWO (ltL (m := m) v) where
  irrefl x := by simp [ltL]
  trans x y z h1 h2 := by simp only [ltL, decide_eq_true_eq] at *; omega
  ntrans x y z h1 h2 := by simp only [ltL, decide_eq_false_iff_not] at *; omega

/-- How many stand ahead of a place's number. -/
def ahd (v : Nat → Nat) (n x : Nat) : Nat := (List.range n).countP fun y => decide (v y < v x ∨ (v y = v x ∧ y < x))
/-- A row of places, by their numbers. -/
structure OrdP (v : Nat → Nat) (n : Nat) (R : List Nat) : Prop where
  perm : R.Perm (List.range n)
  pos : ∀ x, x < n → R.getD (ahd v n x) 0 = x
theorem OrdP.len {v : Nat → Nat} {n : Nat} {R : List Nat} (h : OrdP v n R) : R.length = n := by rw [h.perm.length_eq]; simp
theorem OrdP.lt {v : Nat → Nat} {n : Nat} {R : List Nat} (h : OrdP v n R) {x : Nat} (hx : x ∈ R) : x < n := by simpa using h.perm.mem_iff.1 hx
theorem ahd_lt {v : Nat → Nat} {n x : Nat} (hx : x < n) : ahd v n x < n := by
  have h1 : (List.range n).countP (fun y => decide (v y < v x ∨ (v y = v x ∧ y < x))) ≤ (List.range n).countP (fun y => decide (y ≠ x)) := List.countP_mono_left fun y _ h => by
    simp only [decide_eq_true_eq] at *
    rintro rfl
    omega
  have h2 : (List.range n).countP (fun y => decide (y ≠ x)) < (List.range n).length := by
    rcases Nat.lt_or_ge ((List.range n).countP (fun y => decide (y ≠ x))) (List.range n).length with h | h
    · exact h
    · have := List.countP_eq_length.1 (Nat.le_antisymm List.countP_le_length h) x (by simpa using hx)
      simp at this
  rw [List.length_range] at h2
  unfold ahd
  omega

theorem countP_first {α : Type} (P : α → Bool) (R : List α) (p : Nat) (hp : p ≤ R.length) (h : ∀ k (hk : k < R.length), P R[k] = decide (k < p)) : R.countP P = p := by
  conv => lhs; rw [← List.take_append_drop p R]
  rw [List.countP_append]
  have h1 : (R.take p).countP P = (R.take p).length := List.countP_eq_length.2 fun a ha => by
    obtain ⟨k, hk, rfl⟩ := List.mem_iff_getElem.1 ha
    simp only [List.length_take] at hk
    rw [List.getElem_take, h k (by omega)]
    simp; omega
  have h2 : (R.drop p).countP P = 0 := List.countP_eq_zero.2 fun a ha => by
    obtain ⟨k, hk, rfl⟩ := List.mem_iff_getElem.1 ha
    simp only [List.length_drop] at hk
    rw [List.getElem_drop, h (p + k) (by omega)]
    simp
  rw [h1, h2, List.length_take]
  omega

/-- What the sort makes of the places. -/
theorem ins_ord (v : Nat → Nat) : OrdP v (m + 1) ((insertionSort (ltOf (cfU v)) (idA m) 0 (m + 1)).toList.map Fin.val) ∧ (insertionSort (ltOf (cfU v)) (idA m) 0 (m + 1)).size = m + 1 := by
  rw [ins_eq]
  obtain ⟨⟨hs, _, hp⟩, hso⟩ := Go.Sort.insertionSort_holds (lt := ltL v) (swo_ltL v) (idA m) 0 (m + 1) (Nat.zero_le _) (by rw [idA_size]; exact Nat.le_refl _)
  rw [idA_size] at hs
  generalize insertionSort (ltL v) (idA m) 0 (m + 1) = r at *
  have e1 : (r.extract 0 (m + 1)).toList = r.toList := by simp; exact List.take_of_length_le (by simp [hs])
  have e2 : ((idA m).extract 0 (m + 1)).toList = (idA m).toList := by simp; exact List.take_of_length_le (by simp [idA_size])
  rw [e1, e2] at hp
  have hperm : (r.toList.map Fin.val).Perm (List.range (m + 1)) := by
    have := hp.map Fin.val
    have e3 : (idA m).toList.map Fin.val = List.range (m + 1) := by
      apply List.ext_getElem (by simp [idA])
      intro k h1 h2
      have hk : k < m + 1 := by simpa using h2
      rw [List.getElem_map, Array.getElem_toList, List.getElem_range]
      simp [idA]
    rwa [e3] at this
  refine ⟨⟨hperm, fun x hx => ?_⟩, hs⟩
  have hmem : x ∈ r.toList.map Fin.val := hperm.mem_iff.2 (by simpa using hx)
  obtain ⟨p, hpl, hpx⟩ := List.mem_iff_getElem.1 hmem
  have hlen : (r.toList.map Fin.val).length = m + 1 := by simp [hs]
  have hnd : (r.toList.map Fin.val).Nodup := hperm.nodup_iff.2 List.nodup_range
  have hk : ∀ k (h : k < (r.toList.map Fin.val).length), (r.toList.map Fin.val)[k] = r[k]!.val := fun k h => by
    rw [hlen] at h
    rw [List.getElem_map, Array.getElem_toList, getElem!_pos r k (by omega)]
  have hah : ahd v (m + 1) x = p := by
    unfold ahd
    rw [← hperm.countP_eq]
    refine countP_first _ _ p (by omega) fun k hkl => ?_
    rw [hk k hkl]
    have hxp : x = r[p]!.val := by rw [← hpx, hk p hpl]
    subst hxp
    rcases Nat.lt_trichotomy k p with e | e | e
    · have h1 := hso k p (Nat.zero_le _) e (by omega)
      have hne : r[k]!.val ≠ r[p]!.val := fun h => by
        have := List.pairwise_iff_getElem.1 hnd k p hkl hpl e
        rw [hk k hkl, hk p hpl] at this
        exact this h
      simp only [ltL, decide_eq_false_iff_not] at h1
      simp only [e, decide_true, decide_eq_true_eq]
      omega
    · subst e; simp
    · have h1 := hso p k (Nat.zero_le _) e (by omega)
      simp only [ltL, decide_eq_false_iff_not] at h1
      rw [decide_eq_false h1, decide_eq_false (by omega)]
  rw [hah, List.getD_eq_getElem?_getD, List.getElem?_eq_getElem hpl, hpx]
  rfl
end Go.Proofs.Ythofknjdmfpbeaa.Fa
