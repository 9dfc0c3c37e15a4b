/-
  The law's helpers: colors, place, what is painted; great.
-/
import Derived.Test.YtkfgchhlekdpgaaGreatDoorNtE
namespace Go.Proofs.YtkfgchhlekdpgaaGreatDoor.Nt
open Go.RowKit
open Hp (Ids St Is To Mine bnI coE coV colB objL)
open Lg (BfIs BxIs)
open Rf (paS paE paF)
open Go.Proofs.YtkfgchhlekdpgaaGreatDoor.Row (Chg rowB Rd cellsZ cellsZ_length cellsZ_at owns_lt owns_slice owns_chg push_row info_parts infoInt one_at)
open Go.Proofs.YtkfgchhlekdpgaaGreatDoor.Addr (Tabs)

/-- Where a number is in a list; 0 if it isn't. -/
def plN (l : List Int) (n : Int) : Nat := if n ∈ l then l.idxOf n else 0
theorem rd_cell {w : World} {p : Option Addr} {l : List Int} (h : Rd w p l) {j : Nat} (hj : j < l.length) : ∃ g off, p = some ⟨g, off, none⟩ ∧ w.cell? ⟨g, off + j, none⟩ = some (.int .i64 (l.getD j 0)) := h.at hj
set_option maxRecDepth 100000 in
set_option maxHeartbeats 2000000 in
theorem place_any (p : Option Addr) (cp : Nat) (l : List Int) (n : Int) (w : World) (h : Rd w p l) (hl : l.length ≤ 1000000) :
    Calls Tryz.prog 22 #[.slice p l.length cp, .int .i64 n] w fun e w' => e = .returned (.int .i64 (plN l n)) ∧ w' = w := by
  have HR := Lib.hid h
  clear h
  go_enter Tryz.func22, Tryz.ntmps22
  go_wp2_with fail
  go_loopw [5] (fun i wr => ∃ j : Nat, j ≤ l.length ∧ i = .int .i64 j ∧ wr = w ∧ ∀ k, k < j → l.getD k 0 ≠ n) (fun i _ => l.length - (intOf i).toNat)
  case atStart => exact ⟨0, Nat.zero_le _, rfl, rfl, fun k hk => absurd hk (Nat.not_lt_zero _)⟩
  case round =>
    obtain ⟨j, hj, rfl, rfl, hno⟩ := hrel
    have HNO := Lib.hid hno
    clear hno
    have j0 : (0 : Int) ≤ (j : Int) := by omega
    by_cases hlt : j < l.length
    · have j1 : (j : Int) < (l.length : Int) := by omega
      obtain ⟨g, off, rfl, c0⟩ := HR.out.at hlt
      by_cases he : l.getD j 0 = n
      · have hgot : l[j]? = some n := by
          rw [List.getD_eq_getElem?_getD] at he
          have := List.getElem?_eq_getElem hlt
          rw [this] at he ⊢
          simpa using he
        have hpl : plN l n = j := by
          unfold plN
          have hmem : n ∈ l := List.mem_of_getElem? hgot
          rw [if_pos hmem]
          have h1 : l.idxOf n ≤ j := by
            rcases Nat.lt_or_ge j (l.idxOf n) with h | h
            · exfalso
              have h2 := List.not_of_lt_findIdx (p := (· == n)) (xs := l) (i := j) h
              have h3 : l[j]'hlt = n := by
                have := List.getElem?_eq_getElem hlt
                rw [this] at hgot
                exact Option.some.inj hgot
              simp [h3] at h2
            · exact h
          rcases Nat.lt_or_ge (l.idxOf n) j with h | h
          · exfalso
            have h2 : l[l.idxOf n]? = some n := by
              have h4 := List.idxOf_lt_length_of_mem hmem
              rw [List.getElem?_eq_getElem h4, List.getElem_idxOf]
            refine HNO.out (l.idxOf n) h ?_
            rw [List.getD_eq_getElem?_getD, h2]; rfl
          · omega
        have HPL := Lib.hid hpl
        have hq : (l.getD j 0 == n) = true := by rw [beq_iff_eq]; exact he
        rw [he] at c0
        have hq2 : (n == n) = true := by simp
        clear he hgot hpl hq
        go_wp2_with fail
        go_ret
        exact ⟨by rw [HPL.out]; rfl, rfl⟩
      · have hq : (l.getD j 0 == n) = false := by rw [beq_eq_false_iff_ne]; exact he
        have HNE := Lib.hid he
        clear he
        generalize hv : l.getD j 0 = v at *
        have HV := Lib.hid hv
        clear hv
        go_wp2_with fail
        go_roundw
        case rel =>
          refine ⟨j + 1, by omega, by go_num, by first | rfl | trivial, fun k hk => ?_⟩
          rcases Nat.lt_or_ge k j with h | h
          · exact HNO.out k h
          · obtain rfl : k = j := by omega
            rw [HV.out]; exact HNE.out
        case measure => simp [intOf]; omega
    · obtain rfl : j = l.length := by omega
      have hpl : plN l n = 0 := by
        unfold plN
        rw [if_neg]
        intro hm
        obtain ⟨k, hk, e⟩ := List.mem_iff_getElem.1 hm
        refine HNO.out k hk ?_
        rw [List.getD_eq_getElem?_getD, List.getElem?_eq_getElem hk, e]; rfl
      have HPL := Lib.hid hpl
      clear hpl
      go_wp2_with fail
      go_ret
      exact ⟨by rw [HPL.out]; rfl, rfl⟩
end Go.Proofs.YtkfgchhlekdpgaaGreatDoor.Nt
