/-
  Count; the document's example; the law FairTells answers true, of every row, and any who and k.
-/
import Derived.Test.YthofknjdmfpbeaaFaG
namespace Go.Proofs.Ythofknjdmfpbeaa.Fa
open Go.RowKit Go.Shelf
open Go.Proofs.Ythofknjdmfpbeaa.Row
attribute [local go_sem] Oper.semAt_some

theorem count_take {l : List Int} {c : Nat} (x : Int) (h : c < l.length) : (l.take (c + 1)).count x = (l.take c).count x + if l.getD c 0 = x then 1 else 0 := by
  rw [List.take_add_one, List.count_append, List.getElem?_eq_getElem h, List.getD_eq_getElem?_getD, List.getElem?_eq_getElem h]
  simp [List.count_cons]

set_option maxHeartbeats 1000000 in
theorem count_any {p : Option Addr} {l : List Int} {cap : Nat} (x : Int) (w : World) (h : Pk w p l cap) :
    Calls Try.prog 9 #[.slice p l.length cap, .int .i64 x] w fun e w' => e = .returned (.int .i64 (l.count x : Nat)) ∧ w = w' := by
  have hlen := h.len
  have H := Lib.hid h
  clear h
  go_enter Try.func9, Try.ntmps9
  go_wp2
  go_loopw [5, 7, 10] (fun s _ i wr => ∃ c : Nat, c ≤ l.length ∧ i = .int .i64 c ∧ s = .int .i64 ((l.take c).count x : Nat) ∧ w = wr) (fun _ _ i _ => l.length - (intOf i).toNat)
  case atStart => exact ⟨0, by omega, rfl, rfl, rfl⟩
  case round =>
    obtain ⟨c, hc, rfl, rfl, rfl⟩ := hrel
    by_cases hlt : c < l.length
    · obtain ⟨g, off, rfl, hx⟩ := H.out.rd c hlt
      have i0 : (0 : Int) ≤ (c : Int) := Int.natCast_nonneg _
      have i1 : (c : Int) < (l.length : Int) := by omega
      have HT := Lib.hid (count_take x hlt)
      have hle : (l.take c).count x ≤ (l.take c).length := List.count_le_length
      rw [List.length_take] at hle
      generalize (l.take c).count x = s at *
      generalize l.getD c 0 = y at *
      by_cases he : y = x
      · subst he
        have hyy : (y == y) = true := by simp
        rw [if_pos rfl] at HT
        go_wp2
        go_roundw
        case rel => exact ⟨c + 1, by omega, by go_num, by rw [HT.out]; go_num, by first | exact rfl | trivial⟩
        case measure => simp [intOf]; omega
      · have hyx : (y == x) = false := by simpa using he
        rw [if_neg he] at HT
        go_wp2
        go_roundw
        case rel => exact ⟨c + 1, by omega, by go_num, by rw [HT.out]; rfl, by first | exact rfl | trivial⟩
        case measure => simp [intOf]; omega
    · obtain rfl : c = l.length := by omega
      go_wp2
      go_ret
      exact ⟨by rw [List.take_length]; rfl, rfl⟩

theorem gap_four : Gap [0, 1, 1, 0] 2 2 := ⟨by decide, by decide, by decide⟩
set_option maxHeartbeats 1000000 in
theorem awake_any (w : World) : Calls Try.prog 8 #[] w fun e w' => e = .returned (.bool true) ∧ Below w.heap.size w w' := by
  go_enter Try.func8, Try.ntmps8
  go_wp2_with fail
  have hb0 : Below w.heap.size w (w.alloc (.cells #[.int .i64 0, .int .i64 1, .int .i64 1, .int .i64 0] 3)) := (Below.refl _ _).alloc (Nat.le_refl _) _
  have hpk : Pk (w.alloc (.cells #[.int .i64 0, .int .i64 1, .int .i64 1, .int .i64 0] 3)) (some ⟨w.heap.size, 0, none⟩) [0, 1, 1, 0] 4 := ⟨fun j hj => ⟨w.heap.size, 0, rfl, by
    match j, hj with
    | 0, _ => simp
    | 1, _ => simp
    | 2, _ => simp
    | 3, _ => simp⟩, by decide, by decide, by decide⟩
  refine (gap_any 2 (by decide) _ hpk).mono ?_
  rintro e w1 ⟨g, rfl, hg, hb⟩
  obtain rfl : g = 2 := hg.uniq gap_four
  have HB := Lib.hid (hb0.trans (hb.mono hb0.size))
  clear hb hb0 hpk hg
  go_wp2
  go_ret
  exact ⟨rfl, HB.out⟩
end Go.Proofs.Ythofknjdmfpbeaa.Fa
