/-
  The document's All; what a heap tells of its objects and hands is the same.
-/
import Derived.Test.YtkfgchhlekdpgaaGreatDoorRfW
namespace Go.Proofs.YtkfgchhlekdpgaaGreatDoor.Rf
open Go.RowKit Go.Sort
open Blk (Cfg allP kAt)
open Hp (St Wf own bnI frI mem_allP allP_sorted objL hanL pkA_eq bnI_nat frI_nat NewRow owns_below)
open Go.Proofs.YtkfgchhlekdpgaaGreatDoor.Row (Chg Rd rowB cellsZ owns_lt owns_chg)
open Go.Proofs.YtkfgchhlekdpgaaGreatDoor.Addr (Tabs)

theorem sorted_eq : ∀ (l m : List Int), l.Pairwise (· < ·) → m.Pairwise (· < ·) → (∀ x, x ∈ l ↔ x ∈ m) → l = m
  | [], [], _, _, _ => rfl
  | [], b :: m, _, _, h => by have := (h b).2 (by simp); cases this
  | a :: l, [], _, _, h => by have := (h a).1 (by simp); cases this
  | a :: l, b :: m, hl, hm, h => by
    rw [List.pairwise_cons] at hl hm
    have hab : a = b := by
      have h1 := (h a).1 (by simp)
      have h2 := (h b).2 (by simp)
      rcases List.mem_cons.1 h1 with e | e
      · exact e
      · rcases List.mem_cons.1 h2 with e2 | e2
        · exact e2.symm
        · have := hl.1 b e2
          have := hm.1 a e
          omega
    subst hab
    rw [sorted_eq l m hl.2 hm.2 (fun x => ⟨fun hx => ?_, fun hx => ?_⟩)]
    · rcases List.mem_cons.1 ((h x).1 (List.mem_cons_of_mem _ hx)) with e | e
      · have := hl.1 x hx; omega
      · exact e
    · rcases List.mem_cons.1 ((h x).2 (List.mem_cons_of_mem _ hx)) with e | e
      · have := hm.1 x hx; omega
      · exact e
/-- Those of the first addresses that are so. -/
def alP (s : St) (v : Int) : Nat → List Int
  | 0 => []
  | n + 1 => alP s v n ++ (if isV s ((n : Int) + 1) = v then [(n : Int) + 1] else [])
theorem alP_mem (s : St) (v : Int) : ∀ n x, x ∈ alP s v n ↔ 1 ≤ x ∧ x ≤ (n : Int) ∧ isV s x = v
  | 0, x => by simp only [alP, List.not_mem_nil, false_iff]; omega
  | n + 1, x => by
    simp only [alP, List.mem_append, alP_mem s v n x]
    by_cases h : isV s ((n : Int) + 1) = v
    · rw [if_pos h, List.mem_singleton]
      constructor
      · rintro (⟨a, b, c⟩ | rfl)
        · exact ⟨a, by omega, c⟩
        · exact ⟨by omega, by omega, h⟩
      · rintro ⟨a, b, c⟩
        by_cases e : x = (n : Int) + 1
        · exact .inr e
        · exact .inl ⟨a, by omega, c⟩
    · rw [if_neg h]
      constructor
      · rintro (⟨a, b, c⟩ | e)
        · exact ⟨a, by omega, c⟩
        · cases e
      · rintro ⟨a, b, c⟩
        by_cases e : x = (n : Int) + 1
        · subst e; exact absurd c h
        · exact .inl ⟨a, by omega, c⟩
theorem alP_sorted (s : St) (v : Int) : ∀ n, (alP s v n).Pairwise (· < ·)
  | 0 => List.Pairwise.nil
  | n + 1 => by
    simp only [alP]
    rw [List.pairwise_append]
    refine ⟨alP_sorted s v n, ?_, fun a ha b hb => ?_⟩
    · split <;> simp
    · have := ((alP_mem s v n a).1 ha).2.1
      split at hb
      · rw [List.mem_singleton] at hb; omega
      · cases hb
theorem alP_len (s : St) (v : Int) : ∀ n, (alP s v n).length ≤ n
  | 0 => by simp [alP]
  | n + 1 => by
    have := alP_len s v n
    simp only [alP, List.length_append]
    split <;> simp <;> omega
theorem alP_obj {s : St} (h : Wf s) (hk : ∀ j, kAt s.ks j < 4) : alP s 2 s.ws.length = objL s := by
  unfold objL
  rw [pkA_eq]
  refine sorted_eq _ _ (alP_sorted ..) ((allP_sorted h hk).filter _) fun x => ?_
  rw [alP_mem, List.mem_filter, mem_allP h hk, isV_bn h]
  constructor
  · rintro ⟨_, _, c⟩; exact ⟨h.bnI_own c, c⟩
  · rintro ⟨a, c⟩; have := h.own_bd a; exact ⟨this.1, this.2, c⟩
theorem alP_han {s : St} (h : Wf s) (hk : ∀ j, kAt s.ks j < 4) : alP s 0 s.ws.length = hanL s := by
  unfold hanL
  rw [pkA_eq]
  refine sorted_eq _ _ (alP_sorted ..) ((allP_sorted h hk).filter _) fun x => ?_
  rw [alP_mem, List.mem_filter, mem_allP h hk]
  constructor
  · rintro ⟨_, _, c⟩
    obtain ⟨a, b, d⟩ := isV_zero c
    exact ⟨a, by rw [b, d]; rfl⟩
  · rintro ⟨a, c⟩
    have := h.own_bd a
    refine ⟨this.1, this.2, hand_isV.1 ?_⟩
    unfold Hp.handB
    rw [a]
    simpa using c
section
variable {M base : Nat} {i : Ri} {s : St}
end
end Go.Proofs.YtkfgchhlekdpgaaGreatDoor.Rf
