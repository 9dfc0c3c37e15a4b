/-
  The document's All; what a heap tells of its objects and hands is the same.
-/
import Derived.Test.YtbejddpfnglkbaaGreatDoorRfW
namespace Go.Proofs.YtbejddpfnglkbaaGreatDoor.Rf
open Go.RowKit Go.Sort
open Blk (Cfg allP kAt)
open Hp (St Wf own bnI frI mem_allP allP_sorted objL hanL pkA_eq bnI_nat frI_nat NewRow owns_below)
open Go.Proofs.YtbejddpfnglkbaaGreatDoor.Row (Chg Rd rowB cellsZ owns_lt owns_chg)
open Go.Proofs.YtbejddpfnglkbaaGreatDoor.Addr (Tabs)

theorem sorted_eq : ∀ (l m : List Int), l.Pairwise (· < ·) → m.Pairwise (· < ·) → (∀ x, x ∈ l ↔ x ∈ m) → l = m
  | [], [], _, _, _ => rfl
  | [], b :: m, _, _, h => by have := (h b).2 (by simp); cases this
  | a :: l, [], _, _, h => by have := (h a).1 (by simp); cases this
  | a :: l, b :: m, hl, hm, h => by
    rw [List.pairwise_cons] at hl hm
    have hab : a = b := by
      have h1 := (h a).1 (by simp)
      have h2 := (h b).2 (by simp)
      rcases List.mem_cons.1 h1 with e | e
      · exact e
      · rcases List.mem_cons.1 h2 with e2 | e2
        · exact e2.symm
        · have := hl.1 b e2
          have := hm.1 a e
          omega
    subst hab
    rw [sorted_eq l m hl.2 hm.2 (fun x => ⟨fun hx => ?_, fun hx => ?_⟩)]
    · rcases List.mem_cons.1 ((h x).1 (List.mem_cons_of_mem _ hx)) with e | e
      · have := hl.1 x hx; omega
      · exact e
    · rcases List.mem_cons.1 ((h x).2 (List.mem_cons_of_mem _ hx)) with e | e
      · have := hm.1 x hx; omega
      · exact e
/-- Those of the first addresses that are so. -/
def alP (s : St) (v : Int) : Nat → List Int
  | 0 => []
  | n + 1 => alP s v n ++ (if isV s ((n : Int) + 1) = v then [(n : Int) + 1] else [])
theorem alP_mem (s : St) (v : Int) : ∀ n x, x ∈ alP s v n ↔ 1 ≤ x ∧ x ≤ (n : Int) ∧ isV s x = v
  | 0, x => by simp only [alP, List.not_mem_nil, false_iff]; omega
  | n + 1, x => by
    simp only [alP, List.mem_append, alP_mem s v n x]
    by_cases h : isV s ((n : Int) + 1) = v
    · rw [if_pos h, List.mem_singleton]
      constructor
      · rintro (⟨a, b, c⟩ | rfl)
        · exact ⟨a, by omega, c⟩
        · exact ⟨by omega, by omega, h⟩
      · rintro ⟨a, b, c⟩
        by_cases e : x = (n : Int) + 1
        · exact .inr e
        · exact .inl ⟨a, by omega, c⟩
    · rw [if_neg h]
      constructor
      · rintro (⟨a, b, c⟩ | e)
        · exact ⟨a, by omega, c⟩
        · cases e
      · rintro ⟨a, b, c⟩
        by_cases e : x = (n : Int) + 1
        · subst e; exact absurd c h
        · exact .inl ⟨a, by omega, c⟩
theorem alP_sorted (s : St) (v : Int) : ∀ n, (alP s v n).Pairwise (· < ·)
  | 0 => List.Pairwise.nil
  | n + 1 => by
    simp only [alP]
    rw [List.pairwise_append]
    refine ⟨alP_sorted s v n, ?_, fun a ha b hb => ?_⟩
    · split <;> simp
    · have := ((alP_mem s v n a).1 ha).2.1
      split at hb
      · rw [List.mem_singleton] at hb; omega
      · cases hb
theorem alP_len (s : St) (v : Int) : ∀ n, (alP s v n).length ≤ n
  | 0 => by simp [alP]
  | n + 1 => by
    have := alP_len s v n
    simp only [alP, List.length_append]
    split <;> simp <;> omega
theorem alP_obj {s : St} (h : Wf s) (hk : ∀ j, kAt s.ks j < 4) : alP s 2 s.ws.length = objL s := by
  unfold objL
  rw [pkA_eq]
  refine sorted_eq _ _ (alP_sorted ..) ((allP_sorted h hk).filter _) fun x => ?_
  rw [alP_mem, List.mem_filter, mem_allP h hk, isV_bn h]
  constructor
  · rintro ⟨_, _, c⟩; exact ⟨h.bnI_own c, c⟩
  · rintro ⟨a, c⟩; have := h.own_bd a; exact ⟨this.1, this.2, c⟩
theorem alP_han {s : St} (h : Wf s) (hk : ∀ j, kAt s.ks j < 4) : alP s 0 s.ws.length = hanL s := by
  unfold hanL
  rw [pkA_eq]
  refine sorted_eq _ _ (alP_sorted ..) ((allP_sorted h hk).filter _) fun x => ?_
  rw [alP_mem, List.mem_filter, mem_allP h hk]
  constructor
  · rintro ⟨_, _, c⟩
    obtain ⟨a, b, d⟩ := isV_zero c
    exact ⟨a, by rw [b, d]; rfl⟩
  · rintro ⟨a, c⟩
    have := h.own_bd a
    refine ⟨this.1, this.2, hand_isV.1 ?_⟩
    unfold Hp.handB
    rw [a]
    simpa using c
section
variable {M base : Nat} {i : Ri} {s : St}
set_option maxRecDepth 100000 in
set_option maxHeartbeats 4000000 in
theorem all_any (v : Int) (w : World) (h : Rp w M base i s) (hsm : s.ws.length ≤ 100000) : Calls Tryz.prog 35 #[.pointer (some ⟨M, 0, none⟩), .int .i64 v] w (NewRow w (alP s v s.ws.length)) := by
  have H := Lib.hid h
  obtain ⟨hw1, hw2⟩ := words_wrap h.wf
  have HBK : Hid (∀ W, Below w.heap.size w W → Rp W M base i s) := Lib.hid fun W hb => h.later hb
  generalize hN : s.ws.length = N at *
  clear h hN
  go_enter Tryz.func35, Tryz.ntmps35
  go_wp2
  go_loopw [5, 6] (fun ov x wr => ∃ (j : Nat) (pl : Option Addr) (cl : Nat), j ≤ N ∧ x = .int .i64 ((j : Int) + 1) ∧ ov = .slice pl (alP s v j).length cl ∧ wr.ownsRow w.heap.size 3 1 (.slice pl (alP s v j).length cl) (alP s v j).length (cellsZ (alP s v j)) ∧ Below w.heap.size w wr) (fun _ x _ => N + 1 - (intOf x).toNat)
  case atStart => exact ⟨0, none, 0, Nat.zero_le _, rfl, rfl, ⟨by simp [alP, cellsZ], .inl ⟨rfl, rfl⟩⟩, Below.refl _ _⟩
  case round =>
    obtain ⟨j, pl, cl, hj, rfl, rfl, ho, hb⟩ := hrel
    have hR := HBK.out wr hb
    have c0 := hR.mem.b0
    have c1 := hR.mem.b1
    have HO := Lib.hid ho
    have HB := Lib.hid hb
    have j0 : (0 : Int) ≤ (j : Int) := Int.natCast_nonneg _
    have HLN := Lib.hid (alP_len s v j)
    by_cases hlt : j < N
    · have hd0 : decide ((j : Int) + 1 ≤ (N : Int)) = true := by simp; omega
      have hd0' : decide (j + 1 ≤ N) = true := by simp; omega
      have j1 : (j : Int) + 1 ≤ 1048576 := by omega
      have HI := Lib.hid (fun n => is_any ((j : Int) + 1) (hR.drewN n))
      clear hR ho hb
      by_cases hv : isV s ((j : Int) + 1) = v
      · have hvv : (isV s ((j : Int) + 1) == v) = true := by simpa using hv
        have HA := Lib.hid (show alP s v (j + 1) = alP s v j ++ [(j : Int) + 1] from by simp only [alP]; rw [if_pos hv])
        have HV := Lib.hid hv
        clear hv
        generalize isV s ((j : Int) + 1) = u at *
        have HAP : Hid (∀ nq p' c' w4, w4.ownsRow w.heap.size 3 1 (.slice p' (alP s v j ++ [(j : Int) + 1]).length c') (alP s v j ++ [(j : Int) + 1]).length (cellsZ (alP s v j ++ [(j : Int) + 1])) → Chg (rowB pl) (wr.drewN nq) w4 →
            Hid (w4.ownsRow w.heap.size 3 1 (.slice p' (alP s v (j + 1)).length c') (alP s v (j + 1)).length (cellsZ (alP s v (j + 1))) ∧ Below w.heap.size w w4) ∧ (alP s v j).length + 1 = (alP s v (j + 1)).length) := Lib.hid fun nq p' c' w4 ho4 hC => by
          rw [← HA.out] at ho4
          refine ⟨Lib.hid ⟨ho4, ((HB.out.trans ((below_drewN (Below.refl _ wr) nq).mono HB.out.size))).trans (hC.below (fun k hk => (owns_lt HO.out hk).1) HB.out.size)⟩, by rw [HA.out]; simp⟩
        go_wp2
        go_quiet (fail)
        go_wp2_with (first
          | (go_at_call 73; refine (HI.out nq).mono ?_; rintro e w' ⟨rfl, rfl⟩)
          | (at_builtin; refine wpList_append_one rfl _ _ rfl (wr.drewN nq) w.heap.size pl cl (alP s v j) ((j : Int) + 1) rfl rfl HO.out rfl (by have := HLN.out; omega) HB.out.size ?_; intro p4 c4 w4 ho4 hC4 hR4; obtain ⟨HH4, hl4⟩ := HAP.out nq p4 c4 w4 ho4 hC4; rw [hl4]; clear ho4 hC4 hR4 hl4))
        go_roundw
        case rel => exact ⟨j + 1, p4, c4, by omega, by go_num, rfl, HH4.out.1, HH4.out.2⟩
        case measure => simp [intOf]; omega
      · have hvv : (isV s ((j : Int) + 1) == v) = false := by simpa using hv
        have HA := Lib.hid (show alP s v (j + 1) = alP s v j from by simp only [alP]; rw [if_neg hv, List.append_nil])
        clear hv
        generalize isV s ((j : Int) + 1) = u at *
        go_wp2
        go_quiet (fail)
        go_wp2_with (first
          | (go_at_call 73; refine (HI.out nq).mono ?_; rintro e w' ⟨rfl, rfl⟩))
        go_roundw
        case rel => exact ⟨j + 1, pl, cl, by omega, by go_num, by rw [HA.out], by rw [HA.out]; exact HO.out, HB.out.trans ((below_drewN (Below.refl _ wr) nq).mono HB.out.size)⟩
        case measure => simp [intOf]; omega
    · have hd0 : decide ((j : Int) + 1 ≤ (N : Int)) = false := by simp; omega
      have hd0' : decide (j + 1 ≤ N) = false := by simp; omega
      have j1 : (j : Int) + 1 ≤ 1048577 := by omega
      obtain rfl : N = j := by omega
      clear hR ho hb
      go_wp2
      go_quiet (fail)
      go_wp2
      go_ret
      exact ⟨pl, cl, rfl, HO.out, HB.out.trans ((below_drewN (Below.refl _ wr) _).mono HB.out.size)⟩
end
end Go.Proofs.YtbejddpfnglkbaaGreatDoor.Rf
