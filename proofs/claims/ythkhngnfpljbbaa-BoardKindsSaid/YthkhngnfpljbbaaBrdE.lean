/-
  The law BoardKinds answers true.
-/
import Derived.Test.YthkhngnfpljbbaaBrdD
namespace Go.Proofs.Ythkhngnfpljbbaa.Brd
open Go.RowKit
open Go.Proofs.Ythkhngnfpljbbaa.Row

/-- The numbers of a row that came in, below S. -/
def IntsP (S : Nat) (W : World) (p : Option Addr) (zs : List Int) : Prop := ∀ j, j < zs.length → ∃ b off, p = some ⟨b, off, none⟩ ∧ b < S ∧ W.cell? ⟨b, off + j, none⟩ = some (.int .i64 (zs.getD j 0))
theorem IntsP.below {S : Nat} {W W' : World} {p : Option Addr} {zs : List Int} (h : IntsP S W p zs) (hb : Below S W W') : IntsP S W' p zs := fun j hj => by
  obtain ⟨b, off, e, hb', hc⟩ := h j hj
  exact ⟨b, off, e, hb', (hb.cell (p := ⟨b, off + j, none⟩) hb').trans hc⟩

theorem mod_pick {m e n : Nat} (hm : m < n) (he : e < n) : (m + e) % n = if m + e < n then m + e else m + e - n := by
  split
  · exact Nat.mod_eq_of_lt ‹_›
  · rw [Nat.mod_eq_sub_mod (by omega)]
    exact Nat.mod_eq_of_lt (by omega)
theorem mod_apart {m e d n : Nat} (hm : m < n) (he : e < n) (hd : d < n) (h : e ≠ d) : (m + e) % n ≠ (m + d) % n := by
  rw [mod_pick hm he, mod_pick hm hd]
  split <;> split <;> omega
theorem mod_all {m j n : Nat} (hm : m < n) (hj : j < n) : ∃ e, e < n ∧ (m + e) % n = j := by
  by_cases h : m ≤ j
  · exact ⟨j - m, by omega, by rw [mod_pick hm (by omega), if_pos (by omega)]; omega⟩
  · exact ⟨j + n - m, by omega, by rw [mod_pick hm (by omega), if_neg (by omega)]; omega⟩
/-- Who has answered so far, from m on round. -/
structure Till (m n d : Nat) (ow : Nat → Bool) : Prop where
  done : ∀ e, e < d → ow ((m + e) % n) = false
  left : ∀ e, d ≤ e → e < n → ow ((m + e) % n) = true
theorem Till.step {m n d : Nat} {ow : Nat → Bool} (h : Till m n d ow) (hm : m < n) (hd : d < n) : Till m n (d + 1) (upd ow ((m + d) % n) false) :=
  ⟨fun e he => by
    by_cases e1 : e = d
    · subst e1; unfold upd; rw [if_pos rfl]
    · exact upd_false (h.done e (by omega)),
   fun e h1 h2 => by
    unfold upd
    rw [if_neg (mod_apart hm h2 hd (by omega))]
    exact h.left e (by omega) h2⟩
theorem Till.all {m n : Nat} {ow : Nat → Bool} (h : Till m n n ow) (hm : m < n) : ∀ j, j < n → ow j = false := fun j hj => by
  obtain ⟨e, he, rfl⟩ := mod_all hm hj
  exact h.done e he

set_option maxRecDepth 100000 in
set_option maxHeartbeats 4000000 in
theorem kinds_walk (s : Nat) (hs : s < 256) (pa : Option Addr) (ca : Nat) (l : List Int) (g : Nat) (hg : g < 256) (w : World) (ha : IntsP w.heap.size w pa l) (hla : l.length ≤ maxLen) :
    Calls Try.prog 6 #[.int .u8 s, .slice pa l.length ca, .int .u8 g] w fun e w' => e = .returned (.bool true) ∧ Below w.heap.size w w' := by
  unfold maxLen at hla
  have HA := Lib.hid ha
  clear ha
  by_cases hbig : 30 < l.length
  · have h1 : (30 : Int) < (l.length : Int) := by omega
    go_enter Try.func6, Try.ntmps6
    go_wp2_with fail
    refine (awake_any _).mono ?_
    rintro e w1 ⟨rfl, hb1⟩
    have HB1 := Lib.hid hb1
    clear hb1
    go_wp2
    go_ret
    exact ⟨rfl, HB1.out⟩
  have h1 : (l.length : Int) ≤ 30 := by omega
  have hd1 : decide ((30 : Int) < (l.length : Int)) = false := by simpa using h1
  obtain ⟨n, hn1, hn2, hn⟩ : ∃ k : Nat, 1 ≤ k ∧ k ≤ 8 ∧ 1 + (s : Int) % 8 = (k : Int) := ⟨1 + s % 8, by omega, by omega, by omega⟩
  have jn : (1 : Int) ≤ (n : Int) := by omega
  obtain ⟨m, hm, hme⟩ : ∃ m : Nat, m < n ∧ (g : Int) % (n : Int) = m := ⟨g % n, Nat.mod_lt _ (by omega), by simp⟩
  go_enter Try.func6, Try.ntmps6
  go_wp2_with fail
  refine (new_good n _ (by omega) _ hn1 (by omega)).mono ?_
  rintro e w1 ⟨rfl, hs1, hb1, _⟩
  have HO := Lib.hid (Bd.new hs1 hb1)
  clear hs1 hb1
  generalize hB : w.heap.size = B at *
  have HS : Hid (B = w.heap.size) := Lib.hid hB.symm
  clear hB
  go_wp2_with fail
  clear hn
  generalize (g : Int) % (n : Int) = G at *
  subst hme
  go_loopw [11] (fun k wr => ∃ (c : Nat) (kind : Int) (ow : Nat → Bool), c ≤ l.length ∧ k = .int .i64 c ∧ Bd B w wr B n kind c ow ∧ ∀ m, m < n → ow m = false) (fun k _ => l.length - (intOf k).toNat)
  case atStart => exact ⟨0, 0, _, Nat.zero_le _, rfl, HO.out, fun _ _ => rfl⟩
  case round =>
    clear HO
    obtain ⟨c, kind, ow, hc, rfl, hst, hal⟩ := hrel
    have HO := Lib.hid hst
    have HAL := Lib.hid hal
    clear hst hal
    by_cases hlt : c < l.length
    · have i1 : (c : Int) < (l.length : Int) := by omega
      have i0 : (0 : Int) ≤ (c : Int) := Int.natCast_nonneg _
      have i2 : (c : Int) ≤ 1000000 := by omega
      obtain ⟨b, off, rfl, hbS, hcx0⟩ := HA.out c hlt
      have hcx := (HO.out.bel.cell (p := ⟨b, off + c, none⟩) hbS).trans hcx0
      have HX0 := Lib.hid hcx0
      clear hcx0
      generalize l.getD c 0 = x at *
      go_wp2_with fail
      refine (HO.out.ask (Nat.le_of_eq HS.out) _ (allB_true.2 HAL.out) i0 i2).mono ?_
      rintro e w2 ⟨rfl, hst⟩
      have HO2 := Lib.hid hst
      have hcx2 := (hst.bel.cell (p := ⟨b, off + c, none⟩) hbS).trans HX0.out
      clear hst HO HAL hcx
      go_wp2_with fail
      refine (HO2.out.askNo (Nat.le_of_eq HS.out) _ (by unfold allB; simp only [decide_eq_false_iff_not]; exact fun h => by have := h 0 (by omega); simp [show 0 < n by omega] at this)).mono ?_
      rintro e w3 ⟨rfl, hst⟩
      have HO3 := Lib.hid hst
      clear hst HO2 hcx2
      go_wp2_with fail
      refine (count_any _ HO3.out.st).mono ?_
      rintro e wa ⟨rfl, rfl⟩
      go_wp2_with fail
      go_loopw [12] (fun k wr => ∃ (d : Nat) (ow : Nat → Bool), d ≤ n ∧ k = .int .i64 d ∧ Bd B w wr B n x ((c : Int) + 1) ow ∧ Till m n d ow) (fun k _ => n - (intOf k).toNat)
      case atStart => exact ⟨0, _, Nat.zero_le _, rfl, HO3.out, ⟨fun e he => by omega, fun e _ he => by simp [Nat.mod_lt _ (show 0 < n by omega)]⟩⟩
      case round =>
        clear HO3
        obtain ⟨d, ow, hd, rfl, hst, hti⟩ := hrel
        have HO := Lib.hid hst
        have HTI := Lib.hid hti
        clear hti
        have j0 : (0 : Int) ≤ (d : Int) := Int.natCast_nonneg _
        by_cases hdl : d < n
        · have j1 : (d : Int) < (n : Int) := by omega
          have hcx := (hst.bel.cell (p := ⟨b, off + c, none⟩) hbS).trans HX0.out
          clear hst
          obtain ⟨t, ht, hze, hon, htn⟩ : ∃ t : Nat, t < n ∧ ((m : Int) + (d : Int)) % (n : Int) = t ∧ ow t = true ∧ Till m n (d + 1) (upd ow t false) :=
            ⟨(m + d) % n, Nat.mod_lt _ (by omega), by simp, HTI.out.left d (Nat.le_refl _) hdl, HTI.out.step hm hdl⟩
          have HON := Lib.hid hon
          have HTN := Lib.hid htn
          have hxx : (x != x) = false := by simp
          clear hon htn HTI
          go_wp2_with fail
          refine (pend_open t _ HO.out.st ht HON.out).mono ?_
          rintro e wa ⟨rfl, rfl⟩
          go_wp2_with fail
          refine (HO.out.answer (Nat.le_of_eq HS.out) t ht HON.out).mono ?_
          rintro e w4 ⟨rfl, hst⟩
          have HO4 := Lib.hid hst
          clear hst
          go_wp2_with fail
          refine (pend_shut t _ HO4.out.st ht (by unfold upd; rw [if_pos rfl])).mono ?_
          rintro e wa ⟨rfl, rfl⟩
          go_wp2
          go_roundw
          case rel => exact ⟨d + 1, _, by omega, by go_num, HO4.out, HTN.out⟩
          case measure => simp [intOf]; omega
        · have j1 : ¬ (d : Int) < (n : Int) := by omega
          clear hst
          obtain rfl : d = n := by omega
          go_wp2
          go_roundw
          case rel => exact ⟨c + 1, _, _, by omega, by go_num, by have := HO.out; simpa using this, HTI.out.all hm⟩
          case measure => simp [intOf]; omega
    · obtain rfl : c = l.length := by omega
      have hall := HO.out.all (Nat.le_of_eq HS.out)
      rw [allB_true.2 HAL.out] at hall
      have HALL := Lib.hid hall
      clear hall
      go_wp2_with fail
      refine HALL.out.mono ?_
      rintro e w3 ⟨rfl, hst⟩
      have HO3 := Lib.hid hst
      clear hst
      go_wp2_with fail
      refine (awake_any _).mono ?_
      rintro e w5 ⟨rfl, hb5⟩
      have HB5 := Lib.hid hb5
      clear hb5
      go_wp2
      go_ret
      exact ⟨rfl, (HS.out ▸ HO3.out.bel).trans (HB5.out.mono (HS.out ▸ HO3.out.bel).size)⟩
end Go.Proofs.Ythkhngnfpljbbaa.Brd
