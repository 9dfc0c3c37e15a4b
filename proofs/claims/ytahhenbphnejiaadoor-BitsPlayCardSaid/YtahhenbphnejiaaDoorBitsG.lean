/-
  The law's example (awake, of layer 1): of 100, with 3 and 70: the next from 4 on is 70.
-/
import Derived.Test.YtahhenbphnejiaaDoorBitsF
namespace Go.Proofs.YtahhenbphnejiaaDoor.Bits
open Go.RowKit

theorem below_grown {S : Nat} {w w1 w2 : World} {G : Nat} (hb : Below S w w1) (hg : w1.grownBy w2 (some G)) (hS : S ≤ w.heap.size) (hG : S ≤ G) : Below S w w2 :=
  hb.grown hg (Nat.le_trans hS hb.size) (fun k e => by cases e; exact hG)

theorem new_lit (z : Int) (n : Nat) (hz : z = n) (w : World) (h : n ≤ 2097152) : Calls Tryd.prog 12 #[.int .i64 z] w fun e w' => ∃ B G, e = .returned (.tuple #[.pointer (some ⟨B, 0, none⟩), .int .i64 0]) ∧
    SetIs w' B G n ((n + 63) / 64) (List.replicate ((n + 63) / 64) 0) ∧ w.heap.size ≤ B ∧ w.heap.size ≤ G ∧ B < w'.heap.size ∧ G < w'.heap.size ∧ B ≠ G ∧ Below w.heap.size w w' := by
  subst hz
  exact new_good n w h

/-- The example's words. -/
def ws3 : List Nat := putS 100 (List.replicate ((100 + 63) / 64) 0) 3 true
def ws70 : List Nat := putS 100 ws3 70 true
theorem put3 : putR 100 (List.replicate ((100 + 63) / 64) 0) 3 true = true := by decide
theorem put70 : putR 100 ws3 70 true = true := by decide
theorem next4 {v : Int} {ok : Bool} (h : NextIs ws70 4 v ok) : v = 70 ∧ ok = true := by
  have h70 : hasB ws70 70 = true := by decide
  have hlow : ∀ m, m < 70 → 4 ≤ m → hasB ws70 m = false := by decide
  rcases h with ⟨_, _, hn⟩ | ⟨m, rfl, rfl, h4, hm, hj⟩
  · rw [hn 70 (by decide)] at h70
    cases h70
  · rcases Nat.lt_trichotomy m 70 with h | h | h
    · rw [hlow m h h4] at hm
      cases hm
    · subst h
      exact ⟨rfl, rfl⟩
    · rw [hj 70 (by decide) h] at h70
      cases h70

set_option maxHeartbeats 2000000 in
theorem awake_any (w : World) (hT : TzTab w) (hTl : 1 < w.heap.size) : Calls Tryd.prog 11 #[] w fun e w' => e = .returned (.bool true) ∧ Below w.heap.size w w' := by
  have HT := Lib.hid hT
  clear hT
  go_enter Tryd.func11, Tryd.ntmps11
  go_wp2_with fail
  refine (new_lit 100 100 rfl _ (by decide)).mono ?_
  rintro e w1 ⟨B, G, rfl, hs1, hB1, hG1, hB2, hG2, hne, hb1⟩
  have HS1 := Lib.hid hs1
  clear hs1
  go_wp2_with fail
  have P3 := put_any B G 100 ((100 + 63) / 64) (List.replicate ((100 + 63) / 64) 0) 3 true w1 HS1.out hne
  rw [put3] at P3
  refine P3.mono ?_
  rintro e w2 ⟨rfl, hs2, hg2, hz2⟩
  have HS2 : Hid (SetIs w2 B G 100 ((100 + 63) / 64) ws3) := hs2
  clear hs2 P3
  go_wp2_with fail
  have P70 := put_any B G 100 ((100 + 63) / 64) ws3 70 true w2 HS2.out hne
  rw [put70] at P70
  refine P70.mono ?_
  rintro e w3 ⟨rfl, hs3, hg3, hz3⟩
  have HS3 : Hid (SetIs w3 B G 100 ((100 + 63) / 64) ws70) := hs3
  clear hs3 P70
  have hb3 : Below w.heap.size w w3 := below_grown (below_grown hb1 hg2 (Nat.le_refl _) hG1) hg3 (Nat.le_refl _) hG1
  have HB3 := Lib.hid hb3
  have HZ := Lib.hid (hz3.trans hz2)
  clear hg2 hg3 hz2 hz3 hb1 hb3
  go_wp2_with fail
  refine (next_any B G 100 ((100 + 63) / 64) ws70 4 w3 HS3.out (HT.out.below HB3.out hTl) (by rw [HZ.out]; exact hB2) (by rw [HZ.out]; exact hG2) (by have := HB3.out.size; omega)).mono ?_
  rintro e w4 ⟨v, ok, rfl, hn, hb4⟩
  obtain ⟨rfl, rfl⟩ := next4 hn
  have HB4 := Lib.hid hb4
  clear hb4 hn
  go_wp2
  go_ret
  exact ⟨rfl, HB3.out.trans (HB4.out.mono HB3.out.size)⟩
end Go.Proofs.YtahhenbphnejiaaDoor.Bits
