/-
  The law QueueTurns answers true, for every row of classes.
-/
import Derived.Test.YtbejddpfnglkbaaQuC
namespace Go.Proofs.Ytbejddpfnglkbaa.Qu
open Go.RowKit
open Go.Proofs.Ytbejddpfnglkbaa.Row

/-- The bytes of a row that came in, below S. -/
def BytesP (S : Nat) (W : World) (p : Option Addr) (zs : List Nat) : Prop := ∀ j, j < zs.length → ∃ b off, p = some ⟨b, off, none⟩ ∧ b < S ∧ zs.getD j 0 < 256 ∧ W.cell? ⟨b, off + j, none⟩ = some (.int .u8 ((zs.getD j 0 : Nat) : Int))
theorem BytesP.below {S : Nat} {W W' : World} {p : Option Addr} {zs : List Nat} (h : BytesP S W p zs) (hb : Below S W W') : BytesP S W' p zs := fun j hj => by
  obtain ⟨b, off, e, hb', h8, hc⟩ := h j hj
  exact ⟨b, off, e, hb', h8, (hb.cell (p := ⟨b, off + j, none⟩) hb').trans hc⟩

/-- What is in the rows: numbers below N, each in its class's row, rising; so many in all. -/
structure Tn (l : List Nat) (N i : Nat) (rv : Nat → List Int) : Prop where
  len : nAll rv = i
  mem : ∀ k, k < 4 → ∀ x, x ∈ rv k → ∃ j : Nat, j < N ∧ x = (j : Int) ∧ l.getD j 0 % 4 = k
  inc : ∀ k, k < 4 → (rv k).Pairwise (· < ·)
theorem nAll_upd (rv : Nat → List Int) {k : Nat} (hk : k < 4) (l : List Int) : nAll (upd rv k l) + (rv k).length = nAll rv + l.length := by
  unfold nAll upd
  match k, hk with
  | 0, _ => simp; omega
  | 1, _ => simp; omega
  | 2, _ => simp; omega
  | 3, _ => simp; omega
theorem nAll_le (rv : Nat → List Int) {k : Nat} (hk : k < 4) : (rv k).length ≤ nAll rv := by
  unfold nAll
  match k, hk with
  | 0, _ => omega
  | 1, _ => omega
  | 2, _ => omega
  | 3, _ => omega
theorem Tn.nil (l : List Nat) (N : Nat) : Tn l N 0 (fun _ => []) := ⟨rfl, fun _ _ _ h => by simp at h, fun _ _ => List.Pairwise.nil⟩
theorem Tn.put {l : List Nat} {i : Nat} {rv : Nat → List Int} (h : Tn l i i rv) {k : Nat} (hk : k < 4) (hc : l.getD i 0 % 4 = k) : Tn l (i + 1) (i + 1) (upd rv k (rv k ++ [(i : Int)])) := by
  refine ⟨?_, fun j hj x hx => ?_, fun j hj => ?_⟩
  · have := nAll_upd rv hk (rv k ++ [(i : Int)])
    have := h.len
    rw [List.length_append, List.length_singleton] at *
    omega
  · by_cases e : j = k
    · subst e
      rw [upd_same] at hx
      rcases List.mem_append.1 hx with hx | hx
      · obtain ⟨a, h1, h2, h3⟩ := h.mem j hj x hx
        exact ⟨a, by omega, h2, h3⟩
      · exact ⟨i, by omega, List.mem_singleton.1 hx, hc⟩
    · rw [upd_other _ _ e] at hx
      obtain ⟨a, h1, h2, h3⟩ := h.mem j hj x hx
      exact ⟨a, by omega, h2, h3⟩
  · by_cases e : j = k
    · subst e
      rw [upd_same, List.pairwise_append]
      refine ⟨h.inc j hj, List.pairwise_singleton .., fun a ha b hb => ?_⟩
      obtain ⟨q, h1, h2, _⟩ := h.mem j hj a ha
      rw [List.mem_singleton.1 hb, h2]
      omega
    · rw [upd_other _ _ e]; exact h.inc j hj
theorem Tn.take {l : List Nat} {N i : Nat} {rv : Nat → List Int} (h : Tn l N (i + 1) rv) {k : Nat} (hk : k < 4) {x : Int} {t : List Int} (he : rv k = x :: t) : Tn l N i (upd rv k t) := by
  refine ⟨?_, fun j hj y hy => ?_, fun j hj => ?_⟩
  · have := nAll_upd rv hk t
    have := h.len
    rw [he, List.length_cons] at *
    omega
  · by_cases e : j = k
    · subst e
      rw [upd_same] at hy
      exact h.mem j hj y (by rw [he]; exact List.mem_cons_of_mem _ hy)
    · rw [upd_other _ _ e] at hy
      exact h.mem j hj y hy
  · by_cases e : j = k
    · subst e
      rw [upd_same]
      have := h.inc j hj
      rw [he] at this
      exact (List.pairwise_cons.1 this).2
    · rw [upd_other _ _ e]; exact h.inc j hj
/-- The least class that has one. -/
theorem least_some {rv : Nat → List Int} (h : nAll rv ≠ 0) : ∃ k x t, k < 4 ∧ rv k = x :: t ∧ ∀ j, j < k → rv j = [] := by
  have hx : ¬ ∀ k, k < 4 → rv k = [] := fun e => h ((nAll_zero rv).2 e)
  by_cases h0 : rv 0 = []
  · by_cases h1 : rv 1 = []
    · by_cases h2 : rv 2 = []
      · by_cases h3 : rv 3 = []
        · exact absurd (fun k hk => by
            match k, hk with
            | 0, _ => exact h0
            | 1, _ => exact h1
            | 2, _ => exact h2
            | 3, _ => exact h3) hx
        · obtain ⟨x, t, e⟩ := List.exists_cons_of_ne_nil h3
          exact ⟨3, x, t, by decide, e, fun j hj => by
            match j, hj with
            | 0, _ => exact h0
            | 1, _ => exact h1
            | 2, _ => exact h2⟩
      · obtain ⟨x, t, e⟩ := List.exists_cons_of_ne_nil h2
        exact ⟨2, x, t, by decide, e, fun j hj => by
          match j, hj with
          | 0, _ => exact h0
          | 1, _ => exact h1⟩
    · obtain ⟨x, t, e⟩ := List.exists_cons_of_ne_nil h1
      exact ⟨1, x, t, by decide, e, fun j hj => by
        match j, hj with
        | 0, _ => exact h0⟩
  · obtain ⟨x, t, e⟩ := List.exists_cons_of_ne_nil h0
    exact ⟨0, x, t, by decide, e, fun j hj => absurd hj (Nat.not_lt_zero j)⟩
/-- What was told last stands ahead of what is left. -/
structure Behind (rv : Nat → List Int) (last : Int) (lc : Nat) : Prop where
  lt : lc < 4
  gone : ∀ k, k < lc → rv k = []
  more : ∀ x, x ∈ rv lc → last < x
theorem Behind.step {l : List Nat} {N i : Nat} {rv : Nat → List Int} (h : Tn l N (i + 1) rv) {k : Nat} (hk : k < 4) {x : Int} {t : List Int} (he : rv k = x :: t) (hn : ∀ j, j < k → rv j = []) : Behind (upd rv k t) x k :=
  ⟨hk, fun j hj => by rw [upd_other _ _ (by omega)]; exact hn j hj, fun y hy => by
    rw [upd_same] at hy
    have := h.inc k hk
    rw [he] at this
    exact (List.pairwise_cons.1 this).1 y hy⟩

set_option maxRecDepth 100000 in
set_option maxHeartbeats 4000000 in
theorem turns_walk (pa : Option Addr) (ca : Nat) (l : List Nat) (w : World) (ha : BytesP w.heap.size w pa l) (hla : l.length ≤ maxLen) :
    Calls Try.prog 5 #[.slice pa l.length ca] w fun e w' => e = .returned (.bool true) ∧ Below w.heap.size w w' := by
  unfold maxLen at hla
  have HA := Lib.hid ha
  clear ha
  by_cases hbig : 100 < l.length
  · have h1 : (100 : Int) < (l.length : Int) := by omega
    go_enter Try.func5, Try.ntmps5
    go_wp2_with fail
    refine (awake_any _).mono ?_
    rintro e w1 ⟨rfl, hb1⟩
    have HB1 := Lib.hid hb1
    clear hb1
    go_wp2
    go_ret
    exact ⟨rfl, HB1.out⟩
  have h1 : (l.length : Int) ≤ 100 := by omega
  have hd1 : decide ((100 : Int) < (l.length : Int)) = false := by simpa using h1
  go_enter Try.func5, Try.ntmps5
  go_wp2_with fail
  refine (new_qn _).mono ?_
  rintro e w1 ⟨rfl, hs1, _⟩
  have HO := Lib.hid hs1
  clear hs1
  generalize hB : w.heap.size = B at *
  have HS : Hid (B = w.heap.size) := Lib.hid hB.symm
  clear hB
  go_wp2_with fail
  refine HO.out.rests.mono ?_
  rintro e wa ⟨rfl, rfl⟩
  have hr0 : restB (fun _ => []) 0 = true := rfl
  rw [hr0]
  go_wp2_with fail
  go_loopw [4] (fun i wr => ∃ (c : Nat) (rv : Nat → List Int), c ≤ l.length ∧ i = .int .i64 c ∧ Tn l c c rv ∧ Qn B w wr B rv 0) (fun i _ => l.length - (intOf i).toNat)
  case atStart => exact ⟨0, _, Nat.zero_le _, rfl, Tn.nil _ _, HO.out⟩
  case round =>
    clear HO
    obtain ⟨c, rv, hc, rfl, ht, hq⟩ := hrel
    have HT := Lib.hid ht
    have HO := Lib.hid hq
    clear ht hq
    by_cases hlt : c < l.length
    · have i0 : (0 : Int) ≤ (c : Int) := Int.natCast_nonneg _
      have i1 : (c : Int) < (l.length : Int) := by omega
      obtain ⟨b, off, rfl, hbS, h8, hcell⟩ := (HA.out.below HO.out.bel) c hlt
      obtain ⟨z, hz⟩ : ∃ z, z = l.getD c 0 := ⟨_, rfl⟩
      rw [← hz] at hcell h8
      have HZ := Lib.hid hz
      clear hz
      obtain ⟨k, hk, hzk, hzm⟩ : ∃ k : Nat, k < 4 ∧ z % 4 = k ∧ (z : Int) % 4 = (k : Int) := ⟨z % 4, by omega, rfl, by omega⟩
      have HZK := Lib.hid hzk
      clear hzk
      have hlk : (rv k).length ≤ 1000000 := by have := nAll_le rv hk; have := HT.out.len; omega
      have HLK := Lib.hid hlk
      clear hlk
      go_wp2_with fail
      refine (HO.out.put (Nat.le_of_eq HS.out) k hk _ (by simp) _ i0 HLK.out).mono ?_
      rintro e w2 ⟨rfl, hst⟩
      have HO2 := Lib.hid hst
      have HT2 := Lib.hid (HT.out.put hk (by rw [← HZ.out]; exact HZK.out))
      clear hst HO HT
      go_wp2
      go_roundw
      case rel => exact ⟨c + 1, _, by omega, by go_num, HT2.out, HO2.out⟩
      case measure => simp [intOf]; omega
    · obtain rfl : c = l.length := by omega
      go_wp2
      go_loopw [5, 6, 7] (fun la lc i wr => ∃ (c : Nat) (rv : Nat → List Int) (last : Int) (q : Nat), c ≤ l.length ∧ i = .int .i64 c ∧ la = .int .i64 last ∧ lc = .int .i64 q ∧ Tn l l.length (l.length - c) rv ∧ Behind rv last q ∧ Qn B w wr B rv c) (fun _ _ i _ => l.length - (intOf i).toNat)
      case atStart =>
        refine ⟨0, rv, -1, 0, Nat.zero_le _, rfl, rfl, rfl, HT.out, ⟨by decide, fun k hk => absurd hk (Nat.not_lt_zero k), fun x hx => ?_⟩, HO.out⟩
        obtain ⟨j, _, e, _⟩ := HT.out.mem 0 (by decide) x hx
        omega
      case round =>
        clear HO HT
        obtain ⟨c, rv, last, q, hc, rfl, rfl, rfl, ht, hbh, hq⟩ := hrel
        have HT := Lib.hid ht
        have HB := Lib.hid hbh
        have HO := Lib.hid hq
        clear ht hbh hq
        by_cases hlt : c < l.length
        · have i0 : (0 : Int) ≤ (c : Int) := Int.natCast_nonneg _
          have i1 : (c : Int) < (l.length : Int) := by omega
          obtain ⟨k, x, t, hk, he, hn⟩ := least_some (rv := rv) (by have := HT.out.len; omega)
          obtain ⟨j, hj, rfl, hjk⟩ := HT.out.mem k hk x (by rw [he]; exact List.mem_cons_self ..)
          have HT2 := Lib.hid ((show Tn l l.length ((l.length - (c + 1)) + 1) rv by rw [show l.length - (c + 1) + 1 = l.length - c by omega]; exact HT.out).take hk he)
          have HB2 := Lib.hid (Behind.step (show Tn l l.length ((l.length - (c + 1)) + 1) rv by rw [show l.length - (c + 1) + 1 = l.length - c by omega]; exact HT.out) hk he hn)
          have hqk : q ≤ k := by
            rcases Nat.lt_or_ge k q with h | h
            · rw [HB.out.gone k h] at he; cases he
            · exact h
          have hql : q = k → last < (j : Int) := fun e => by subst e; exact HB.out.more _ (by rw [he]; exact List.mem_cons_self ..)
          have HE := Lib.hid he
          have HN := Lib.hid hn
          have HQL := Lib.hid hql
          clear he hn hql HB HT
          have j0 : (0 : Int) ≤ (j : Int) := Int.natCast_nonneg _
          have j1 : (j : Int) < (l.length : Int) := by omega
          have dj0 : decide ((j : Int) < 0) = false := by simp
          have dj1 : decide ((l.length : Int) ≤ (j : Int)) = false := by simp; omega
          have dqk : decide ((k : Int) < (q : Int)) = false := by simp; omega
          have dkk : ((k : Int) == (k : Int)) = true := by simp
          go_wp2_with fail
          refine (HO.out.any (Nat.le_of_eq HS.out) k hk j t HN.out HE.out (by omega)).mono ?_
          rintro e w2 ⟨rfl, hst⟩
          have HO2 := Lib.hid hst
          clear hst HO
          obtain ⟨b, off, rfl, hbS, h8, hcell⟩ := (HA.out.below HO2.out.bel) j hj
          obtain ⟨z, hz⟩ : ∃ z, z = l.getD j 0 := ⟨_, rfl⟩
          rw [← hz] at hcell h8 hjk
          clear hz
          have hzm : (z : Int) % 4 = (k : Int) := by omega
          clear hjk
          by_cases hqe : q = k
          · have hx := HQL.out hqe
            subst hqe
            have dx : decide ((j : Int) ≤ last) = false := by simp; omega
            go_wp2
            go_roundw
            case rel => exact ⟨c + 1, _, j, q, by omega, by go_num, rfl, rfl, HT2.out, HB2.out, HO2.out⟩
            case measure => simp [intOf]; omega
          · have dqe : ((k : Int) == (q : Int)) = false := by rw [beq_eq_false_iff_ne]; omega
            go_wp2
            go_roundw
            case rel => exact ⟨c + 1, _, j, k, by omega, by go_num, rfl, rfl, HT2.out, HB2.out, HO2.out⟩
            case measure => simp [intOf]; omega
        · obtain rfl : c = l.length := by omega
          have hall := (nAll_zero rv).1 (by have := HT.out.len; omega)
          have HAL := Lib.hid hall
          clear hall
          go_wp2_with fail
          refine (HO.out.anyNo HAL.out).mono ?_
          rintro e wa ⟨rfl, rfl⟩
          go_wp2_with fail
          refine HO.out.opens.mono ?_
          rintro e wa ⟨rfl, rfl⟩
          go_wp2
          go_loopw [14] (fun i wr => ∃ (c : Nat), c ≤ l.length ∧ i = .int .i64 c ∧ Qn B w wr B rv (l.length - c)) (fun i _ => l.length - (intOf i).toNat)
          case atStart => exact ⟨0, Nat.zero_le _, rfl, HO.out⟩
          case round =>
            clear HO
            obtain ⟨c, hc, rfl, hq⟩ := hrel
            have HO := Lib.hid hq
            clear hq
            by_cases hlt : c < l.length
            · have i0 : (0 : Int) ≤ (c : Int) := Int.natCast_nonneg _
              have i1 : (c : Int) < (l.length : Int) := by omega
              obtain ⟨m, hm⟩ : ∃ m, l.length - c = m + 1 := ⟨l.length - c - 1, by omega⟩
              have hr : restB rv (m + 1) = false := by simp only [restB, decide_eq_false_iff_not]; omega
              have HO1 := Lib.hid (show Qn B w wr B rv (m + 1) from hm ▸ HO.out)
              have HM : Hid (l.length - (c + 1) = m) := Lib.hid (by omega)
              have hm9 : m ≤ 1000000 := by omega
              clear HO hm
              go_wp2_with fail
              refine HO1.out.rests.mono ?_
              rw [hr]
              rintro e wa ⟨rfl, rfl⟩
              go_wp2_with fail
              refine (Qn.done m HO1.out (Nat.le_of_eq HS.out) hm9).mono ?_
              rintro e w2 ⟨rfl, hst⟩
              have HO2 := Lib.hid hst
              clear hst HO1
              go_wp2
              go_roundw
              case rel => exact ⟨c + 1, by omega, by go_num, by rw [HM.out]; exact HO2.out⟩
              case measure => simp [intOf]; omega
            · obtain rfl : c = l.length := by omega
              have hq0 : Qn B w wr B rv 0 := by have := HO.out; rwa [Nat.sub_self] at this
              have HO0 := Lib.hid hq0
              have hr : restB rv 0 = true := by
                simp only [restB, decide_eq_true_eq, Nat.add_zero]
                exact (nAll_zero rv).2 HAL.out
              clear hq0 HO
              go_wp2_with fail
              refine HO0.out.rests.mono ?_
              rw [hr]
              rintro e wa ⟨rfl, rfl⟩
              go_wp2_with fail
              refine HO0.out.doneNo.mono ?_
              rintro e wa ⟨rfl, rfl⟩
              go_wp2_with fail
              refine (awake_any _).mono ?_
              rintro e w3 ⟨rfl, hb3⟩
              have HB3 := Lib.hid hb3
              clear hb3
              go_wp2
              go_ret
              refine ⟨rfl, ?_⟩
              rw [← HS.out]
              exact HO0.out.bel.trans (HB3.out.mono (by have := HO0.out.bel.size; have := HS.out; omega))
end Go.Proofs.Ytbejddpfnglkbaa.Qu
