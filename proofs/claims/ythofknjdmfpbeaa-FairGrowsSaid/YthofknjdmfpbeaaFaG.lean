/-
  In; the law's own isFair, of any row.
-/
import Derived.Test.YthofknjdmfpbeaaFaF
namespace Go.Proofs.Ythofknjdmfpbeaa.Fa
open Go.RowKit Go.Shelf
open Go.Proofs.Ythofknjdmfpbeaa.Row
attribute [local go_sem] Oper.semAt_some

set_option maxHeartbeats 1000000 in
theorem in_any (p : Option Addr) (cp : Nat) (l : List Int) (x : Int) (w : World) (hp : Rd0 w p l) (hl : l.length ≤ 1048576) :
    Calls Try.prog 20 #[.slice p l.length cp, .int .i64 x] w fun e w' => e = .returned (.bool (decide (x ∈ l))) ∧ w = w' := by
  have HP := Lib.hid hp
  clear hp
  go_enter Try.func20, Try.ntmps20
  go_wp2
  go_loopw [5] (fun i wr => ∃ c : Nat, c ≤ l.length ∧ i = .int .i64 c ∧ x ∉ l.take c ∧ w = wr) (fun i _ => l.length - (intOf i).toNat)
  case atStart => exact ⟨0, by omega, rfl, by simp, rfl⟩
  case round =>
    obtain ⟨c, hc, rfl, hno, rfl⟩ := hrel
    have HNO := Lib.hid hno
    clear hno
    by_cases hlt : c < l.length
    · obtain ⟨b, off, rfl, h1⟩ := HP.out c hlt
      have i0 : (0 : Int) ≤ (c : Int) := Int.natCast_nonneg _
      have i1 : (c : Int) < (l.length : Int) := by omega
      have hget : l[c]? = some (l.getD c 0) := by rw [List.getD_eq_getElem?_getD]; simp [hlt]
      have hmem : l.getD c 0 ∈ l := List.mem_of_getElem? hget
      have HGET := Lib.hid hget
      have HMEM := Lib.hid hmem
      clear hget hmem
      generalize l.getD c 0 = y at *
      by_cases he : y = x
      · subst he
        have hyy : (y == y) = true := by simp
        have hd : decide (y ∈ l) = true := by simpa using HMEM.out
        go_wp2
        go_ret
        exact ⟨by rw [hd]; rfl, rfl⟩
      · have hyx : (y == x) = false := by simpa using he
        have hn2 : x ∉ l.take (c + 1) := by
          rw [List.take_add_one, HGET.out]
          simp only [Option.toList_some, List.mem_append, List.mem_singleton]
          exact fun h => h.elim HNO.out (fun e => he e.symm)
        have HN2 := Lib.hid hn2
        clear hn2
        go_wp2
        go_roundw
        case rel => exact ⟨c + 1, by omega, by go_num, HN2.out, trivial⟩
        case measure => simp [intOf]; omega
    · have hd : decide (x ∈ l) = false := by
        have := HNO.out
        rw [List.take_of_length_le (by omega)] at this
        simpa using this
      go_wp2
      go_ret
      exact ⟨by rw [hd]; rfl, rfl⟩
theorem in_anyL (p : Option Addr) (cp L : Nat) (l : List Int) (x : Int) (w : World) (hp : Rd0 w p l) (hL : l.length = L) (hl : L ≤ 1048576) :
    Calls Try.prog 20 #[.slice p L cp, .int .i64 x] w fun e w' => e = .returned (.bool (decide (x ∈ l))) ∧ w = w' := by
  subst hL
  exact in_any p cp l x w hp hl
set_option maxHeartbeats 2000000 in
set_option maxRecDepth 100000 in
theorem isfair_any {p : Option Addr} {l : List Int} {cap : Nat} (n k : Nat) (hn : n ≤ 1000) (hk1 : 1 ≤ k) (hk : k ≤ 100000) (w : World) (h : Pk w p l cap) :
    Calls Try.prog 12 #[.slice p l.length cap, .int .i64 n, .int .i64 k] w fun e w' => e = .returned (.bool (fair l n k)) ∧ w = w' := by
  have hlen := h.len
  have hcap := h.cap
  have H := Lib.hid h
  clear h
  go_enter Try.func12, Try.ntmps12
  go_wp2
  go_loopw [7, 8] (fun i _ wr => ∃ c : Nat, c ≤ l.length + 1 - k ∧ i = .int .i64 c ∧ (∀ j, j < c → ∀ q : Nat, q < n → (q : Int) ∈ win l j k) ∧ w = wr) (fun i _ _ => l.length + 1 - (intOf i).toNat)
  case atStart => exact ⟨0, Nat.zero_le _, rfl, fun j hj => by omega, rfl⟩
  case round =>
    obtain ⟨c, hc, rfl, hok, rfl⟩ := hrel
    have HOK := Lib.hid hok
    clear hok
    by_cases hlt : c < l.length + 1 - k
    · have i0 : (c : Int) + (k : Int) ≤ (l.length : Int) := by omega
      have i1 : (0 : Int) ≤ (c : Int) := Int.natCast_nonneg _
      have i2 : (c : Int) ≤ (c : Int) + (k : Int) := by omega
      have i3 : (c : Int) + (k : Int) ≤ (cap : Int) := by omega
      obtain ⟨g, off, rfl, _⟩ := H.out.rd 0 (by omega)
      have hwr : Rd0 w (some ⟨g, off + c, none⟩) (win l c k) := fun j hj => by
        rw [win_len (by omega)] at hj
        obtain ⟨g', off', e, hx⟩ := H.out.rd (c + j) (by omega)
        cases e
        exact ⟨g, off + c, rfl, by rw [win_at hj, show off + c + j = off + (c + j) by omega]; exact hx⟩
      have HWR := Lib.hid hwr
      clear hwr
      go_wp2
      go_loopw [8] (fun i wr => ∃ d : Nat, d ≤ n ∧ i = .int .i64 d ∧ (∀ q : Nat, q < d → (q : Int) ∈ win l c k) ∧ w = wr) (fun i _ => n - (intOf i).toNat)
      case atStart => exact ⟨0, Nat.zero_le _, rfl, fun j hj => by omega, rfl⟩
      case round =>
        obtain ⟨d, hd, rfl, hok2, rfl⟩ := hrel
        have HOK2 := Lib.hid hok2
        clear hok2
        by_cases hdn : d < n
        · have j0 : (d : Int) < (n : Int) := by omega
          have HI := Lib.hid (in_anyL (some ⟨g, off + c, none⟩) (cap - c) k (win l c k) (d : Int) w HWR.out (win_len (by omega)) (by omega))
          by_cases hin : (d : Int) ∈ win l c k
          · rw [decide_eq_true hin] at HI
            go_wp2_with (go_at_call 20; refine HI.out.mono ?_; rintro e w2 ⟨rfl, rfl⟩)
            go_roundw
            case rel =>
              refine ⟨d + 1, by omega, by go_num, fun q hq => ?_, by first | exact rfl | trivial⟩
              by_cases e : q = d
              · subst e; exact hin
              · exact HOK2.out q (by omega)
            case measure => simp [intOf]; omega
          · rw [decide_eq_false hin] at HI
            have hf : fair l n k = false := by
              cases hf : fair l n k with
              | false => rfl
              | true => exact absurd (fair_iff.1 hf c (by omega) d hdn) hin
            go_wp2_with (go_at_call 20; refine HI.out.mono ?_; rintro e w2 ⟨rfl, rfl⟩)
            go_ret
            exact ⟨by rw [hf]; rfl, rfl⟩
        · obtain rfl : d = n := by omega
          go_wp2
          go_roundw
          case rel =>
            refine ⟨c + 1, by omega, by go_num, fun j hj => ?_, by first | exact rfl | trivial⟩
            by_cases e : j = c
            · subst e; exact HOK2.out
            · exact HOK.out j (by omega)
          case measure => simp [intOf]; omega
    · have i0 : ¬ (c : Int) + (k : Int) ≤ (l.length : Int) := by omega
      have hf : fair l n k = true := fair_iff.2 fun i hi q hq => HOK.out i (by omega) q hq
      go_wp2
      go_ret
      exact ⟨rfl, rfl⟩
end Go.Proofs.Ythofknjdmfpbeaa.Fa
