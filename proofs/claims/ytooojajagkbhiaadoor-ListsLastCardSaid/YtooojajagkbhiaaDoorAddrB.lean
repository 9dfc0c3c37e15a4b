/-
  addr.Of and Block, for every config, class, place and address.
-/
import Derived.Test.YtooojajagkbhiaaDoorAddrA
import Derived.Test.YtooojajagkbhiaaDoorClassC
namespace Go.Proofs.YtooojajagkbhiaaDoor.Addr
open Go.RowKit
open Class (SizTab isB sizI perI isB_true isB_false sizI_bd sizI_no perI_yes perI_noC perI_noW wordsB wordsB_true per_any size_any quiet_left below_drewN)

theorem slotI_pos {b wd m r ce lg st k block slot : Int} (hR : RightC b wd m r ce lg st) (h : sltB true b wd k block slot = true) : 1 ≤ block * wd + 1 + slot * sizI k ∧ block * wd + 1 + slot * sizI k ≤ 1048833 := by
  obtain ⟨_, hk, h0, h1⟩ := sltB_true.1 h
  obtain ⟨p0, p1⟩ := first_bd hR hk
  obtain ⟨_, s0, s1, m0, m1, m2⟩ := slot_bd h0 h1
  omega

/-- A place's address; 0 of none. -/
def ofI (R : Bool) (b wd k block slot word : Int) : Int := if sltB R b wd k block slot = true ∧ 0 ≤ word ∧ word < sizI k then block * wd + 1 + slot * sizI k + word else 0
/-- Is there such a place? -/
def ofB (R : Bool) (b wd k block slot word : Int) : Bool := sltB R b wd k block slot && (decide (0 ≤ word) && decide (word < sizI k))
theorem ofB_true {R : Bool} {b wd k block slot word : Int} : ofB R b wd k block slot word = true ↔ sltB R b wd k block slot = true ∧ 0 ≤ word ∧ word < sizI k := by simp [ofB]
theorem ofI_yes {R : Bool} {b wd k block slot word : Int} (h : ofB R b wd k block slot word = true) : ofI R b wd k block slot word = block * wd + 1 + slot * sizI k + word := if_pos (ofB_true.1 h)
theorem ofI_no {R : Bool} {b wd k block slot word : Int} (h : ofB R b wd k block slot word = false) : ofI R b wd k block slot word = 0 := if_neg (fun h' => by rw [ofB_true.2 h'] at h; cases h)

/-- What the calls tell of a number, and whether it is there. -/
def NumB (w : World) (x : Int) (y : Bool) (e : Ending) (w' : World) : Prop := e = .returned (.tuple #[.int .i64 x, .bool y]) ∧ Below w.heap.size w w'

/-- Is it an address? -/
def adrB (R : Bool) (b wd a : Int) : Bool := R && (decide (1 ≤ a) && decide (a ≤ b * wd))
theorem adrB_true {R : Bool} {b wd a : Int} : adrB R b wd a = true ↔ R = true ∧ 1 ≤ a ∧ a ≤ b * wd := by simp [adrB]
/-- The block of an address; 0 of none. -/
def blockI (R : Bool) (b wd a : Int) : Int := if adrB R b wd a = true then (a - 1) / wd else 0
theorem blockI_yes {R : Bool} {b wd a : Int} (h : adrB R b wd a = true) : blockI R b wd a = (a - 1) / wd := if_pos h
theorem blockI_no {R : Bool} {b wd a : Int} (h : adrB R b wd a = false) : blockI R b wd a = 0 := if_neg (by simp [h])

set_option maxHeartbeats 2000000 in
theorem block_any (b wd m r ce lg st a : Int) (w : World) (ht : LimTab w) :
    Calls Tryd.prog 32 #[.agg #[.int .i64 b, .int .i64 wd, .int .i64 m, .int .i64 r, .int .i64 ce, .int .i64 lg, .int .i64 st], .int .i64 a] w
      (NumB w (blockI (rightB b wd m r ce lg st) b wd a) (adrB (rightB b wd m r ce lg st) b wd a)) := by
  have HT := Lib.hid ht
  clear ht
  by_cases h0 : 1 ≤ a
  · have h0b : decide (a < 1) = false := by simp; omega
    by_cases hr : rightB b wd m r ce lg st = true
    · have hR : RightC b wd m r ce lg st := refRightB_true.1 ((rightB_ref ..).symm.trans hr)
      have HR := Lib.hid hR
      have HRR := Lib.hid hr
      obtain ⟨q0, q1⟩ := hR.words
      by_cases h1 : a ≤ b * wd
      · have hA : adrB (rightB b wd m r ce lg st) b wd a = true := adrB_true.2 ⟨hr, h0, h1⟩
        rw [blockI_yes hA, hA]
        have hw0 := hR.wd0
        have hw1 := hR.wd1
        have hwz : (wd == 0) = false := by simp; omega
        clear hA hr hR
        go_enter Tryd.func32, Tryd.ntmps32
        go_wp2_with (go_at_call 46; refine (words_yes _ _ _ _ _ _ _ _ (LimTab.alloc HT.out _) HR.out HRR.out).mono ?_; rintro e w' ⟨rfl, hb⟩; obtain ⟨hc, hf⟩ := bcell hb)
        go_ret2
        exact ⟨rfl, ((Below.refl _ _).alloc (Nat.le_refl _) _).trans (hb.mono (by simp))⟩
      · have hA : adrB (rightB b wd m r ce lg st) b wd a = false := by rw [← Bool.not_eq_true, adrB_true]; omega
        rw [blockI_no hA, hA]
        have h1' : b * wd < a := by omega
        clear hA hr hR
        go_enter Tryd.func32, Tryd.ntmps32
        go_wp2_with (go_at_call 46; refine (words_yes _ _ _ _ _ _ _ _ (LimTab.alloc HT.out _) HR.out HRR.out).mono ?_; rintro e w' ⟨rfl, hb⟩; obtain ⟨hc, hf⟩ := bcell hb)
        go_ret2
        exact ⟨rfl, ((Below.refl _ _).alloc (Nat.le_refl _) _).trans (hb.mono (by simp))⟩
    · have hr : rightB b wd m r ce lg st = false := by simpa using hr
      have hA : adrB (rightB b wd m r ce lg st) b wd a = false := by rw [← Bool.not_eq_true, adrB_true]; simp [hr]
      rw [blockI_no hA, hA]
      have HRR := Lib.hid hr
      clear hA hr
      go_enter Tryd.func32, Tryd.ntmps32
      go_wp2_with (go_at_call 46; refine (words_no _ _ _ _ _ _ _ _ (LimTab.alloc HT.out _) HRR.out).mono ?_; rintro e w' ⟨rfl, hb⟩; obtain ⟨hc, hf⟩ := bcell hb)
      go_ret2
      exact ⟨rfl, ((Below.refl _ _).alloc (Nat.le_refl _) _).trans (hb.mono (by simp))⟩
  · have hA : adrB (rightB b wd m r ce lg st) b wd a = false := by rw [← Bool.not_eq_true, adrB_true]; omega
    rw [blockI_no hA, hA]
    have h0' : a < 1 := by omega
    clear hA
    go_enter Tryd.func32, Tryd.ntmps32
    go_wp2
    go_ret2
    exact ⟨rfl, (Below.refl _ _).alloc (Nat.le_refl _) _⟩
end Go.Proofs.YtooojajagkbhiaaDoor.Addr
