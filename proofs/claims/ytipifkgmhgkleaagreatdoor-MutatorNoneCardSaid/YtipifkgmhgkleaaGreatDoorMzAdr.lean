/-
  Base texts, one behind the other: AddrA AddrB AddrD.
-/
import Derived.Test.YtipifkgmhgkleaaGreatDoorMzBa
import Derived.StillTailTactics
namespace Go.Proofs.YtipifkgmhgkleaaGreatDoor.Addr
open Go.RowKit
open Class (SizTab isB sizI perI isB_true isB_false sizI_bd sizI_no perI_yes perI_noC perI_noW wordsB wordsB_true per_any size_any)

theorem ret_int {k : IntKind} {a b : Int} (h : a = b) : Ending.returned (.int k a) = .returned (.int k b) := by rw [h]
theorem ret_bool {a b : Bool} (h : a = b) : Ending.returned (.bool a) = .returned (.bool b) := by rw [h]

/-- Both tables lie as they were laid. -/
structure Tabs (w : World) : Prop where
  lim : LimTab w
  siz : SizTab w
theorem Tabs.below {n : Nat} {w w' : World} (h : Tabs w) (hb : Below n w w') (h1 : 2 < n) (h2 : 9 < n) : Tabs w' := ⟨h.lim.below hb h1, h.siz.below hb h2⟩
theorem Tabs.later {w w' : World} (h : Tabs w) (hb : Below w.heap.size w w') : Tabs w' := h.below hb h.lim.blk h.siz.blk
theorem Tabs.alloc {w : World} (h : Tabs w) (o : Obj) : Tabs (w.alloc o) := ⟨h.lim.alloc o, h.siz.alloc o⟩
theorem Tabs.drew {w : World} (h : Tabs w) : Tabs w.drew := ⟨h.lim.drew, h.siz.drew⟩
theorem Tabs.drewN {w : World} (h : Tabs w) (k : Nat) : Tabs (w.drewN k) := ⟨h.lim.drewN k, h.siz.drewN k⟩

/-- Is there such a block? -/
def blkB (b block : Int) : Bool := decide (0 ≤ block) && decide (block < b)
theorem blkB_true {b block : Int} : blkB b block = true ↔ 0 ≤ block ∧ block < b := by simp [blkB]
theorem blkB_false {b block : Int} : blkB b block = false ↔ block < 0 ∨ b ≤ block := by
  rw [← Bool.not_eq_true, blkB_true]; omega

/-- The address of a block's first word; 0 of none. -/
def firstI (R : Bool) (b wd block : Int) : Int := if R = true ∧ blkB b block = true then block * wd + 1 else 0
theorem firstI_no {R : Bool} {b wd block : Int} (h : R = false ∨ blkB b block = false) : firstI R b wd block = 0 := if_neg (by rintro ⟨h1, h2⟩; rcases h with h | h <;> simp_all)
theorem firstI_yes {R : Bool} {b wd block : Int} (h : R = true) (h2 : blkB b block = true) : firstI R b wd block = block * wd + 1 := if_pos ⟨h, h2⟩
theorem first_bd {b wd m r ce lg st block : Int} (hR : RightC b wd m r ce lg st) (h : blkB b block = true) : 0 ≤ block * wd ∧ block * wd ≤ 1048576 := by
  obtain ⟨h0, h1⟩ := blkB_true.1 h
  obtain ⟨b0, b1, wd0, wd1, m0, m1, r0, r1, ce0, ce1, lg0, lg1, st0, st1⟩ := hR
  exact ⟨Int.mul_nonneg h0 (by omega), Int.le_trans (Int.mul_le_mul (show block ≤ 4096 by omega) wd1 (by omega) (by omega)) (by decide)⟩

set_option maxHeartbeats 1000000 in
theorem first_any (b wd m r ce lg st block : Int) (w : World) (ht : LimTab w) :
    Calls Tryz.prog 341 #[.agg #[.int .i64 b, .int .i64 wd, .int .i64 m, .int .i64 r, .int .i64 ce, .int .i64 lg, .int .i64 st], .int .i64 block] w
      fun e w' => e = .returned (.int .i64 (firstI (rightB b wd m r ce lg st) b wd block)) ∧ Below w.heap.size w w' := by
  have HT := Lib.hid ht
  clear ht
  by_cases hr : rightB b wd m r ce lg st = true
  · by_cases h0 : 0 ≤ block
    · by_cases h1 : block < b
      · have hk := blkB_true.2 ⟨h0, h1⟩
        have hR : RightC b wd m r ce lg st := refRightB_true.1 ((rightB_ref ..).symm.trans hr)
        obtain ⟨p0, p1⟩ := first_bd hR hk
        rw [firstI_yes hr hk]
        have HK := Lib.hid hk
        clear hk hR
        go_enter Tryz.func341, Tryz.ntmps341
        go_wp2_with (go_at_call 76; refine (right_any _ _ _ _ _ _ _ _ (by repeat (first | exact HT.out | apply LimTab.alloc))).mono ?_; rintro e w' ⟨rfl, hb⟩; rw [hr]; obtain ⟨hc, hf⟩ := bcell hb)
        go_ret
        exact ⟨rfl, ((Below.refl _ _).alloc (Nat.le_refl _) _).trans (hb.mono (by simp))⟩
      · rw [firstI_no (.inr (blkB_false.2 (by omega)))]
        have h1' : b ≤ block := by omega
        go_enter Tryz.func341, Tryz.ntmps341
        go_wp2_with (go_at_call 76; refine (right_any _ _ _ _ _ _ _ _ (by repeat (first | exact HT.out | apply LimTab.alloc))).mono ?_; rintro e w' ⟨rfl, hb⟩; rw [hr]; obtain ⟨hc, hf⟩ := bcell hb)
        go_ret
        exact ⟨rfl, ((Below.refl _ _).alloc (Nat.le_refl _) _).trans (hb.mono (by simp))⟩
    · rw [firstI_no (.inr (blkB_false.2 (by omega)))]
      have h0' : block < 0 := by omega
      go_enter Tryz.func341, Tryz.ntmps341
      go_wp2_with (go_at_call 76; refine (right_any _ _ _ _ _ _ _ _ (by repeat (first | exact HT.out | apply LimTab.alloc))).mono ?_; rintro e w' ⟨rfl, hb⟩; rw [hr]; obtain ⟨hc, hf⟩ := bcell hb)
      go_ret
      exact ⟨rfl, ((Below.refl _ _).alloc (Nat.le_refl _) _).trans (hb.mono (by simp))⟩
  · have hr : rightB b wd m r ce lg st = false := by simpa using hr
    rw [hr, firstI_no (.inl rfl)]
    go_enter Tryz.func341, Tryz.ntmps341
    go_wp2_with (go_at_call 76; refine (right_any _ _ _ _ _ _ _ _ (by repeat (first | exact HT.out | apply LimTab.alloc))).mono ?_; rintro e w' ⟨rfl, hb⟩; rw [hr]; obtain ⟨hc, hf⟩ := bcell hb)
    go_ret
    exact ⟨rfl, ((Below.refl _ _).alloc (Nat.le_refl _) _).trans (hb.mono (by simp))⟩

/-- Is there such a slot? -/
def sltB (R : Bool) (b wd k block slot : Int) : Bool := R && (blkB b block && (decide (0 ≤ slot) && decide (slot < perI wd k)))
theorem sltB_true {R : Bool} {b wd k block slot : Int} : sltB R b wd k block slot = true ↔ R = true ∧ blkB b block = true ∧ 0 ≤ slot ∧ slot < perI wd k := by simp [sltB]
/-- A slot's address; 0 of none. -/
def slotI (R : Bool) (b wd k block slot : Int) : Int := if sltB R b wd k block slot = true then block * wd + 1 + slot * sizI k else 0
theorem slotI_yes {R : Bool} {b wd k block slot : Int} (h : sltB R b wd k block slot = true) : slotI R b wd k block slot = block * wd + 1 + slot * sizI k := if_pos h
theorem slotI_no {R : Bool} {b wd k block slot : Int} (h : sltB R b wd k block slot = false) : slotI R b wd k block slot = 0 := if_neg (by simp [h])
theorem slot_bd {wd k slot : Int} (h0 : 0 ≤ slot) (h1 : slot < perI wd k) : isB k = true ∧ 2 ≤ sizI k ∧ sizI k ≤ 16 ∧ 0 ≤ slot * sizI k ∧ slot * sizI k + sizI k ≤ wd ∧ wd ≤ 256 := by
  have hk : isB k = true := by
    cases h : isB k with
    | true => rfl
    | false => rw [perI_noC h] at h1; omega
  have hw : wordsB wd = true := by
    cases h : wordsB wd with
    | true => rfl
    | false => rw [perI_noW h] at h1; omega
  obtain ⟨s0, s1⟩ := sizI_bd hk
  obtain ⟨n0, n1⟩ := wordsB_true.1 hw
  rw [perI_yes hk hw] at h1
  refine ⟨hk, s0, s1, Int.mul_nonneg h0 (by omega), ?_, n1⟩
  have h2 : (slot + 1) * sizI k ≤ (wd / sizI k) * sizI k := Int.mul_le_mul_of_nonneg_right (by omega) (by omega)
  have h3 : wd / sizI k * sizI k ≤ wd := Int.ediv_mul_le _ (by omega)
  have h4 : (slot + 1) * sizI k = slot * sizI k + sizI k := by rw [Int.add_mul, Int.one_mul]
  omega

set_option maxHeartbeats 1000000 in
theorem slot_any (b wd m r ce lg st k block slot : Int) (w : World) (ht : Tabs w) :
    Calls Tryz.prog 333 #[.agg #[.int .i64 b, .int .i64 wd, .int .i64 m, .int .i64 r, .int .i64 ce, .int .i64 lg, .int .i64 st], .int .i64 k, .int .i64 block, .int .i64 slot] w
      fun e w' => e = .returned (.int .i64 (slotI (rightB b wd m r ce lg st) b wd k block slot)) ∧ Below w.heap.size w w' := by
  have HT := Lib.hid ht
  clear ht
  by_cases hrk : rightB b wd m r ce lg st = true ∧ blkB b block = true
  · obtain ⟨hr, hk⟩ := hrk
    have hR : RightC b wd m r ce lg st := refRightB_true.1 ((rightB_ref ..).symm.trans hr)
    obtain ⟨p0, p1⟩ := first_bd hR hk
    have hfi := firstI_yes (wd := wd) hr hk
    have HFI := Lib.hid hfi
    have hfe : (block * wd + 1 == 0) = false := by simp; omega
    clear hR hfi
    by_cases h0 : 0 ≤ slot
    · by_cases h1 : slot < perI wd k
      · obtain ⟨hb, s0, s1, m0, m1, m2⟩ := slot_bd h0 h1
        rw [slotI_yes (sltB_true.2 ⟨hr, hk, h0, h1⟩)]
        have HK := Lib.hid (And.intro hr hk)
        clear hr hk hb
        go_enter Tryz.func333, Tryz.ntmps333
        go_wp2_with (first
          | (go_at_call 341; refine (first_any _ _ _ _ _ _ _ _ _ (by repeat (first | exact HT.out.lim | apply LimTab.alloc))).mono ?_; rintro e w' ⟨rfl, hb⟩; rw [HFI.out]; obtain ⟨hc, hf⟩ := bcell hb)
          | (go_at_call 342; refine (per_any _ _ _ (SizTab.later (SizTab.alloc HT.out.siz _) hb)).mono ?_; rintro e w' ⟨rfl, rfl⟩)
          | (go_at_call 343; refine (size_any _ _ (SizTab.later (SizTab.alloc HT.out.siz _) hb)).mono ?_; rintro e w' ⟨rfl, rfl⟩))
        go_ret
        exact ⟨rfl, ((Below.refl _ _).alloc (Nat.le_refl _) _).trans (hb.mono (by simp))⟩
      · rw [slotI_no (by rw [← Bool.not_eq_true, sltB_true]; omega)]
        have h1' : perI wd k ≤ slot := by omega
        go_enter Tryz.func333, Tryz.ntmps333
        go_wp2_with (first
          | (go_at_call 341; refine (first_any _ _ _ _ _ _ _ _ _ (by repeat (first | exact HT.out.lim | apply LimTab.alloc))).mono ?_; rintro e w' ⟨rfl, hb⟩; rw [HFI.out]; obtain ⟨hc, hf⟩ := bcell hb)
          | (go_at_call 342; refine (per_any _ _ _ (SizTab.later (SizTab.alloc HT.out.siz _) hb)).mono ?_; rintro e w' ⟨rfl, rfl⟩))
        go_ret
        exact ⟨rfl, ((Below.refl _ _).alloc (Nat.le_refl _) _).trans (hb.mono (by simp))⟩
    · rw [slotI_no (by rw [← Bool.not_eq_true, sltB_true]; omega)]
      have h0' : slot < 0 := by omega
      go_enter Tryz.func333, Tryz.ntmps333
      go_wp2_with (go_at_call 341; refine (first_any _ _ _ _ _ _ _ _ _ (by repeat (first | exact HT.out.lim | apply LimTab.alloc))).mono ?_; rintro e w' ⟨rfl, hb⟩; rw [HFI.out]; obtain ⟨hc, hf⟩ := bcell hb)
      go_ret
      exact ⟨rfl, ((Below.refl _ _).alloc (Nat.le_refl _) _).trans (hb.mono (by simp))⟩
  · rw [slotI_no (by rw [← Bool.not_eq_true, sltB_true]; exact fun h => hrk ⟨h.1, h.2.1⟩)]
    have hfi : firstI (rightB b wd m r ce lg st) b wd block = 0 := if_neg hrk
    have HFI := Lib.hid hfi
    clear hfi hrk
    go_enter Tryz.func333, Tryz.ntmps333
    go_wp2_with (go_at_call 341; refine (first_any _ _ _ _ _ _ _ _ _ (by repeat (first | exact HT.out.lim | apply LimTab.alloc))).mono ?_; rintro e w' ⟨rfl, hb⟩; rw [HFI.out]; obtain ⟨hc, hf⟩ := bcell hb)
    go_ret
    exact ⟨rfl, ((Below.refl _ _).alloc (Nat.le_refl _) _).trans (hb.mono (by simp))⟩
end Go.Proofs.YtipifkgmhgkleaaGreatDoor.Addr

namespace Go.Proofs.YtipifkgmhgkleaaGreatDoor.Addr
open Go.RowKit
open Class (SizTab isB sizI perI isB_true isB_false sizI_bd sizI_no perI_yes perI_noC perI_noW wordsB wordsB_true per_any size_any quiet_left below_drewN)

/-- A place's address; 0 of none. -/
def ofI (R : Bool) (b wd k block slot word : Int) : Int := if sltB R b wd k block slot = true ∧ 0 ≤ word ∧ word < sizI k then block * wd + 1 + slot * sizI k + word else 0
/-- Is there such a place? -/
def ofB (R : Bool) (b wd k block slot word : Int) : Bool := sltB R b wd k block slot && (decide (0 ≤ word) && decide (word < sizI k))

/-- What the calls tell of a number, and whether it is there. -/
def NumB (w : World) (x : Int) (y : Bool) (e : Ending) (w' : World) : Prop := e = .returned (.tuple #[.int .i64 x, .bool y]) ∧ Below w.heap.size w w'

/-- Is it an address? -/
def adrB (R : Bool) (b wd a : Int) : Bool := R && (decide (1 ≤ a) && decide (a ≤ b * wd))
theorem adrB_true {R : Bool} {b wd a : Int} : adrB R b wd a = true ↔ R = true ∧ 1 ≤ a ∧ a ≤ b * wd := by simp [adrB]
/-- The block of an address; 0 of none. -/
def blockI (R : Bool) (b wd a : Int) : Int := if adrB R b wd a = true then (a - 1) / wd else 0
theorem blockI_yes {R : Bool} {b wd a : Int} (h : adrB R b wd a = true) : blockI R b wd a = (a - 1) / wd := if_pos h
theorem blockI_no {R : Bool} {b wd a : Int} (h : adrB R b wd a = false) : blockI R b wd a = 0 := if_neg (by simp [h])

set_option maxHeartbeats 2000000 in
theorem block_any (b wd m r ce lg st a : Int) (w : World) (ht : LimTab w) :
    Calls Tryz.prog 345 #[.agg #[.int .i64 b, .int .i64 wd, .int .i64 m, .int .i64 r, .int .i64 ce, .int .i64 lg, .int .i64 st], .int .i64 a] w
      (NumB w (blockI (rightB b wd m r ce lg st) b wd a) (adrB (rightB b wd m r ce lg st) b wd a)) := by
  have HT := Lib.hid ht
  clear ht
  by_cases h0 : 1 ≤ a
  · have h0b : decide (a < 1) = false := by simp; omega
    by_cases hr : rightB b wd m r ce lg st = true
    · have hR : RightC b wd m r ce lg st := refRightB_true.1 ((rightB_ref ..).symm.trans hr)
      have HR := Lib.hid hR
      have HRR := Lib.hid hr
      obtain ⟨q0, q1⟩ := hR.words
      by_cases h1 : a ≤ b * wd
      · have hA : adrB (rightB b wd m r ce lg st) b wd a = true := adrB_true.2 ⟨hr, h0, h1⟩
        rw [blockI_yes hA, hA]
        have hw0 := hR.wd0
        have hw1 := hR.wd1
        have hwz : (wd == 0) = false := by simp; omega
        clear hA hr hR
        go_enter Tryz.func345, Tryz.ntmps345
        go_wp2_with (go_at_call 77; refine (words_yes _ _ _ _ _ _ _ _ (LimTab.alloc HT.out _) HR.out HRR.out).mono ?_; rintro e w' ⟨rfl, hb⟩; obtain ⟨hc, hf⟩ := bcell hb)
        go_ret2
        exact ⟨rfl, ((Below.refl _ _).alloc (Nat.le_refl _) _).trans (hb.mono (by simp))⟩
      · have hA : adrB (rightB b wd m r ce lg st) b wd a = false := by rw [← Bool.not_eq_true, adrB_true]; omega
        rw [blockI_no hA, hA]
        have h1' : b * wd < a := by omega
        clear hA hr hR
        go_enter Tryz.func345, Tryz.ntmps345
        go_wp2_with (go_at_call 77; refine (words_yes _ _ _ _ _ _ _ _ (LimTab.alloc HT.out _) HR.out HRR.out).mono ?_; rintro e w' ⟨rfl, hb⟩; obtain ⟨hc, hf⟩ := bcell hb)
        go_ret2
        exact ⟨rfl, ((Below.refl _ _).alloc (Nat.le_refl _) _).trans (hb.mono (by simp))⟩
    · have hr : rightB b wd m r ce lg st = false := by simpa using hr
      have hA : adrB (rightB b wd m r ce lg st) b wd a = false := by rw [← Bool.not_eq_true, adrB_true]; simp [hr]
      rw [blockI_no hA, hA]
      have HRR := Lib.hid hr
      clear hA hr
      go_enter Tryz.func345, Tryz.ntmps345
      go_wp2_with (go_at_call 77; refine (words_no _ _ _ _ _ _ _ _ (LimTab.alloc HT.out _) HRR.out).mono ?_; rintro e w' ⟨rfl, hb⟩; obtain ⟨hc, hf⟩ := bcell hb)
      go_ret2
      exact ⟨rfl, ((Below.refl _ _).alloc (Nat.le_refl _) _).trans (hb.mono (by simp))⟩
  · have hA : adrB (rightB b wd m r ce lg st) b wd a = false := by rw [← Bool.not_eq_true, adrB_true]; omega
    rw [blockI_no hA, hA]
    have h0' : a < 1 := by omega
    clear hA
    go_enter Tryz.func345, Tryz.ntmps345
    go_wp2
    go_ret2
    exact ⟨rfl, (Below.refl _ _).alloc (Nat.le_refl _) _⟩
end Go.Proofs.YtipifkgmhgkleaaGreatDoor.Addr

namespace Go.Proofs.YtipifkgmhgkleaaGreatDoor.Addr
open Go.RowKit
open Class (quiet_add_left SizTab isB sizI perI isB_true isB_false sizI_bd sizI_no perI_yes perI_noC perI_noW wordsB wordsB_true per_any size_any is_any quiet_left below_drewN)

/-- A place that is told, and whether there is one. -/
def PlaceB (w : World) (x y z : Int) (ok : Bool) (e : Ending) (w' : World) : Prop := e = .returned (.tuple #[.agg #[.int .i64 x, .int .i64 y, .int .i64 z], .bool ok]) ∧ Below w.heap.size w w'

/-- How far into its block an address is. -/
def offI (wd a : Int) : Int := (a - 1) % wd
/-- Has an address a place? -/
def finB (R : Bool) (b wd k a : Int) : Bool := adrB R b wd a && (isB k && decide (offI wd a / sizI k < perI wd k))
theorem finB_true {R : Bool} {b wd k a : Int} : finB R b wd k a = true ↔ adrB R b wd a = true ∧ isB k = true ∧ offI wd a / sizI k < perI wd k := by simp [finB]

theorem adr_parts {b wd m r ce lg st a : Int} (hR : RightC b wd m r ce lg st) (h1 : 1 ≤ a) (h2 : a ≤ b * wd) :
    blkB b ((a - 1) / wd) = true ∧ 0 ≤ (a - 1) / wd * wd ∧ a = (a - 1) / wd * wd + 1 + offI wd a ∧ 0 ≤ offI wd a ∧ offI wd a < wd := by
  obtain ⟨b0, b1, wd0, wd1, m0, m1, r0, r1, ce0, ce1, lg0, lg1, st0, st1⟩ := hR
  have e1 := Int.emod_add_mul_ediv (a - 1) wd
  have e2 := Int.emod_nonneg (a - 1) (show wd ≠ 0 by omega)
  have e3 := Int.emod_lt_of_pos (a - 1) (show 0 < wd by omega)
  have e4 : 0 ≤ (a - 1) / wd := Int.ediv_nonneg (by omega) (by omega)
  have e5 : (a - 1) / wd < b := Int.ediv_lt_of_lt_mul (by omega) (by omega)
  have e6 : wd * ((a - 1) / wd) = (a - 1) / wd * wd := Int.mul_comm ..
  refine ⟨blkB_true.2 ⟨e4, e5⟩, Int.mul_nonneg e4 (by omega), ?_, e2, e3⟩
  unfold offI
  omega

set_option maxHeartbeats 2000000 in
theorem find_noA (b wd m r ce lg st k a : Int) (w : World) (ht : Tabs w) (hA : adrB (rightB b wd m r ce lg st) b wd a = false) :
    Calls Tryz.prog 346 #[.agg #[.int .i64 b, .int .i64 wd, .int .i64 m, .int .i64 r, .int .i64 ce, .int .i64 lg, .int .i64 st], .int .i64 k, .int .i64 a] w (PlaceB w 0 0 0 false) := by
  have HT := Lib.hid ht
  have HA := Lib.hid hA
  clear ht hA
  go_enter Tryz.func346, Tryz.ntmps346
  go_wp2_with fail
  refine (block_any _ _ _ _ _ _ _ _ _ (LimTab.alloc (LimTab.alloc HT.out.lim _) _)).mono ?_
  rintro e w1 ⟨rfl, hb⟩
  rw [HA.out]
  obtain ⟨hc, hf⟩ := bcell hb
  have hz : w.heap.size + 1 < w1.heap.size := by have := hb.size; simp at this; omega
  go_wp2
  exact bodyPost_ret (v := .tuple #[.agg #[.int .i64 0, .int .i64 0, .int .i64 0], .bool false]) (by simp [results, Tryz.results346, go_sem, hc]) rfl ⟨rfl, (((((((Below.refl _ _).alloc (Nat.le_refl _) _).alloc (by simp) _).trans (hb.mono (by simp; omega))).setCell (by simp) _).setCell (by simp) _).setCell (by simp) _)⟩

set_option maxHeartbeats 2000000 in
theorem find_noK (b wd m r ce lg st k a : Int) (w : World) (ht : Tabs w) (hA : adrB (rightB b wd m r ce lg st) b wd a = true) (hk : isB k = false) :
    Calls Tryz.prog 346 #[.agg #[.int .i64 b, .int .i64 wd, .int .i64 m, .int .i64 r, .int .i64 ce, .int .i64 lg, .int .i64 st], .int .i64 k, .int .i64 a] w (PlaceB w 0 0 0 false) := by
  have HT := Lib.hid ht
  have HA := Lib.hid hA
  clear ht hA
  go_enter Tryz.func346, Tryz.ntmps346
  go_wp2_with fail
  refine (block_any _ _ _ _ _ _ _ _ _ (LimTab.alloc (LimTab.alloc HT.out.lim _) _)).mono ?_
  rintro e w1 ⟨rfl, hb⟩
  rw [HA.out]
  obtain ⟨hc, hf⟩ := bcell hb
  have hz : w.heap.size + 1 < w1.heap.size := by have := hb.size; simp at this; omega
  go_wp2_with (go_at_call 283; refine (is_any _ _).mono ?_; rintro e w' ⟨rfl, rfl⟩; rw [hk])
  exact bodyPost_ret (v := .tuple #[.agg #[.int .i64 0, .int .i64 0, .int .i64 0], .bool false]) (by simp [results, Tryz.results346, go_sem, hc]) rfl ⟨rfl, (((((((Below.refl _ _).alloc (Nat.le_refl _) _).alloc (by simp) _).trans (hb.mono (by simp; omega))).setCell (by simp) _).setCell (by simp) _).setCell (by simp) _)⟩

theorem find_facts {b wd m r ce lg st k a : Int} (hA : adrB (rightB b wd m r ce lg st) b wd a = true) (hk : isB k = true) :
    ∃ q x : Int, blockI (rightB b wd m r ce lg st) b wd a = q ∧ firstI (rightB b wd m r ce lg st) b wd q = q * wd + 1 ∧ offI wd a = x ∧ a = q * wd + 1 + x ∧ 0 ≤ q * wd ∧ q * wd ≤ 1048576 ∧ 0 ≤ x ∧ x ≤ 256 ∧ 2 ≤ sizI k ∧ sizI k ≤ 16 ∧ 0 ≤ q := by
  obtain ⟨hr, h1, h2⟩ := adrB_true.1 hA
  have hR : RightC b wd m r ce lg st := refRightB_true.1 ((rightB_ref ..).symm.trans hr)
  obtain ⟨g1, g2, g3, g4, g5⟩ := adr_parts hR h1 h2
  obtain ⟨s0, s1⟩ := sizI_bd hk
  obtain ⟨p0, p1⟩ := first_bd hR g1
  have := hR.wd1
  exact ⟨(a - 1) / wd, offI wd a, blockI_yes hA, firstI_yes hr g1, rfl, g3, g2, p1, g4, by omega, s0, s1, (blkB_true.1 g1).1⟩

set_option maxHeartbeats 4000000 in
theorem find_yes (b wd m r ce lg st k a q x : Int) (w : World) (ht : Tabs w) (hA : adrB (rightB b wd m r ce lg st) b wd a = true) (hk : isB k = true)
    (hq : blockI (rightB b wd m r ce lg st) b wd a = q) (hfi : firstI (rightB b wd m r ce lg st) b wd q = q * wd + 1) (ha : a = q * wd + 1 + x) (q0 : 0 ≤ q * wd) (q1 : q * wd ≤ 1048576) (x0 : 0 ≤ x) (x1 : x ≤ 256) (s0 : 2 ≤ sizI k) (s1 : sizI k ≤ 16)
    (hin : x / sizI k < perI wd k) :
    Calls Tryz.prog 346 #[.agg #[.int .i64 b, .int .i64 wd, .int .i64 m, .int .i64 r, .int .i64 ce, .int .i64 lg, .int .i64 st], .int .i64 k, .int .i64 a] w (PlaceB w q (x / sizI k) (x % sizI k) true) := by
  have HT := Lib.hid ht
  have HA := Lib.hid hA
  have HQ := Lib.hid hq
  have HFI := Lib.hid hfi
  have a1 : 1 ≤ a := by omega
  have a2 : a ≤ 1048833 := by omega
  have e1 : a - (q * wd + 1) = x := by omega
  have hinb : decide (perI wd k ≤ x / sizI k) = false := by simp; omega
  have hsz : (sizI k == 0) = false := by simp; omega
  clear ht hA hq hfi ha hin
  go_enter Tryz.func346, Tryz.ntmps346
  go_wp2_with fail
  refine (block_any _ _ _ _ _ _ _ _ _ (LimTab.alloc (LimTab.alloc HT.out.lim _) _)).mono ?_
  rintro e w1 ⟨rfl, hb⟩
  rw [HA.out, HQ.out]
  obtain ⟨hc, hf⟩ := bcell hb
  have hz : w.heap.size + 1 < w1.heap.size := by have := hb.size; simp at this; omega
  have hlim1 : LimTab w1 := LimTab.later (LimTab.alloc (LimTab.alloc HT.out.lim _) _) hb
  have HL1 := Lib.hid hlim1
  clear hlim1
  go_wp2_with (first
    | (go_at_call 283; refine (is_any _ _).mono ?_; rintro e w' ⟨rfl, rfl⟩; rw [hk])
    | (go_at_call 341; refine (first_any _ _ _ _ _ _ _ _ _ HL1.out).mono ?_; rintro e w2 ⟨rfl, hb2⟩; rw [HFI.out]; obtain ⟨hc2, hf2⟩ := bcell hb2))
  have hz2 : w.heap.size + 1 < w2.heap.size := by have := hb2.size; omega
  have hs2 : SizTab w2 := SizTab.later (SizTab.later (SizTab.alloc (SizTab.alloc HT.out.siz _) _) hb) hb2
  have HS2 := Lib.hid hs2
  have hz1 : w.heap.size < w2.heap.size := by omega
  have hcw : w2.cell? ⟨w.heap.size, 1, none⟩ = some (.int .i64 wd) := by rw [hc2 _ _ (by omega), hc _ _ (by simp; omega)]; go_simp
  have r0 : w2.cell? ⟨w.heap.size + 1, 0, none⟩ = some (.int .i64 0) := by rw [hc2 _ _ (by omega), hc _ _ (by simp)]; go_simp
  have r1 : w2.cell? ⟨w.heap.size + 1, 1, none⟩ = some (.int .i64 0) := by rw [hc2 _ _ (by omega), hc _ _ (by simp)]; go_simp
  have r2 : w2.cell? ⟨w.heap.size + 1, 2, none⟩ = some (.int .i64 0) := by rw [hc2 _ _ (by omega), hc _ _ (by simp)]; go_simp
  have f0 : w2.frozen? ⟨w.heap.size + 1, 0, none⟩ = false := by rw [hf2 _ _ (by omega), hf _ _ (by simp)]; go_simp
  have f1 : w2.frozen? ⟨w.heap.size + 1, 1, none⟩ = false := by rw [hf2 _ _ (by omega), hf _ _ (by simp)]; go_simp
  have f2 : w2.frozen? ⟨w.heap.size + 1, 2, none⟩ = false := by rw [hf2 _ _ (by omega), hf _ _ (by simp)]; go_simp
  have HBB := Lib.hid (((((Below.refl _ w).alloc (Nat.le_refl _) _).alloc (by simp) _).trans (hb.mono (by simp; omega))).trans (hb2.mono (by omega)))
  clear hs2 hc hf hc2 hf2 hb hb2
  have hne : ¬ sizI k = 0 := by omega
  have et : x.tdiv (sizI k) = x / sizI k := Int.tdiv_eq_ediv_of_nonneg x0
  have em : x.tmod (sizI k) = x % sizI k := Int.tmod_eq_emod_of_nonneg x0
  have d0 : 0 ≤ x / sizI k := Int.ediv_nonneg x0 (by omega)
  have d1 : x / sizI k ≤ 256 := Int.le_trans (Int.ediv_le_self _ x0) x1
  have ew : IntKind.i64.wrap (x / sizI k) = x / sizI k := IntWalk.i64_in _ (by omega)
  go_region_held3 (fun w' => SizTab w') (first | exact HS2.out | exact SizTab.drew HS2.out | (repeat (first | exact HS2.out | apply SizTab.drewN | apply SizTab.drew | apply SizTab.alloc)))
    (first
      | (go_at_call 343; refine (size_any _ _ (by repeat (first | exact HS2.out | apply SizTab.drewN | apply SizTab.drew | apply SizTab.alloc))).mono ?_; rintro e w' ⟨rfl, rfl⟩))
  all_goals clear et em ew hne
  all_goals
    go_wp2
    go_quiet ((go_at_call 342; exact quiet_add_left (per_any _ _ _ (SizTab.drewN (SizTab.alloc HS2.out _) _))))
    go_wp2
    exact bodyPost_ret (v := .tuple #[.agg #[.int .i64 (q), .int .i64 (x / sizI k), .int .i64 (x % sizI k)], .bool true]) (by first | (simp [results, Tryz.results346, go_sem, r0, r1, r2, hz2]; done) | simp [results, Tryz.results346, go_sem, r0, r1, r2, hz2, Nat.ne_of_lt hz2]) rfl ⟨rfl, ((((below_drewN (HBB.out.alloc (by omega) _) _).setCell (by simp) _).setCell (by simp) _).setCell (by simp) _)⟩

set_option maxHeartbeats 4000000 in
theorem find_noS (b wd m r ce lg st k a q x : Int) (w : World) (ht : Tabs w) (hA : adrB (rightB b wd m r ce lg st) b wd a = true) (hk : isB k = true)
    (hq : blockI (rightB b wd m r ce lg st) b wd a = q) (hfi : firstI (rightB b wd m r ce lg st) b wd q = q * wd + 1) (ha : a = q * wd + 1 + x) (q0 : 0 ≤ q * wd) (q1 : q * wd ≤ 1048576) (x0 : 0 ≤ x) (x1 : x ≤ 256) (s0 : 2 ≤ sizI k) (s1 : sizI k ≤ 16)
    (hin : perI wd k ≤ x / sizI k) :
    Calls Tryz.prog 346 #[.agg #[.int .i64 b, .int .i64 wd, .int .i64 m, .int .i64 r, .int .i64 ce, .int .i64 lg, .int .i64 st], .int .i64 k, .int .i64 a] w (PlaceB w 0 0 0 false) := by
  have HT := Lib.hid ht
  have HA := Lib.hid hA
  have HQ := Lib.hid hq
  have HFI := Lib.hid hfi
  have a1 : 1 ≤ a := by omega
  have a2 : a ≤ 1048833 := by omega
  have e1 : a - (q * wd + 1) = x := by omega
  have hinb : decide (perI wd k ≤ x / sizI k) = true := by simp; omega
  have hsz : (sizI k == 0) = false := by simp; omega
  clear ht hA hq hfi ha hin
  go_enter Tryz.func346, Tryz.ntmps346
  go_wp2_with fail
  refine (block_any _ _ _ _ _ _ _ _ _ (LimTab.alloc (LimTab.alloc HT.out.lim _) _)).mono ?_
  rintro e w1 ⟨rfl, hb⟩
  rw [HA.out, HQ.out]
  obtain ⟨hc, hf⟩ := bcell hb
  have hz : w.heap.size + 1 < w1.heap.size := by have := hb.size; simp at this; omega
  have hlim1 : LimTab w1 := LimTab.later (LimTab.alloc (LimTab.alloc HT.out.lim _) _) hb
  have HL1 := Lib.hid hlim1
  clear hlim1
  go_wp2_with (first
    | (go_at_call 283; refine (is_any _ _).mono ?_; rintro e w' ⟨rfl, rfl⟩; rw [hk])
    | (go_at_call 341; refine (first_any _ _ _ _ _ _ _ _ _ HL1.out).mono ?_; rintro e w2 ⟨rfl, hb2⟩; rw [HFI.out]; obtain ⟨hc2, hf2⟩ := bcell hb2))
  have hz2 : w.heap.size + 1 < w2.heap.size := by have := hb2.size; omega
  have hs2 : SizTab w2 := SizTab.later (SizTab.later (SizTab.alloc (SizTab.alloc HT.out.siz _) _) hb) hb2
  have HS2 := Lib.hid hs2
  have hz1 : w.heap.size < w2.heap.size := by omega
  have hcw : w2.cell? ⟨w.heap.size, 1, none⟩ = some (.int .i64 wd) := by rw [hc2 _ _ (by omega), hc _ _ (by simp; omega)]; go_simp
  have r0 : w2.cell? ⟨w.heap.size + 1, 0, none⟩ = some (.int .i64 0) := by rw [hc2 _ _ (by omega), hc _ _ (by simp)]; go_simp
  have r1 : w2.cell? ⟨w.heap.size + 1, 1, none⟩ = some (.int .i64 0) := by rw [hc2 _ _ (by omega), hc _ _ (by simp)]; go_simp
  have r2 : w2.cell? ⟨w.heap.size + 1, 2, none⟩ = some (.int .i64 0) := by rw [hc2 _ _ (by omega), hc _ _ (by simp)]; go_simp
  have f0 : w2.frozen? ⟨w.heap.size + 1, 0, none⟩ = false := by rw [hf2 _ _ (by omega), hf _ _ (by simp)]; go_simp
  have f1 : w2.frozen? ⟨w.heap.size + 1, 1, none⟩ = false := by rw [hf2 _ _ (by omega), hf _ _ (by simp)]; go_simp
  have f2 : w2.frozen? ⟨w.heap.size + 1, 2, none⟩ = false := by rw [hf2 _ _ (by omega), hf _ _ (by simp)]; go_simp
  have HBB := Lib.hid (((((Below.refl _ w).alloc (Nat.le_refl _) _).alloc (by simp) _).trans (hb.mono (by simp; omega))).trans (hb2.mono (by omega)))
  clear hs2 hc hf hc2 hf2 hb hb2
  have hne : ¬ sizI k = 0 := by omega
  have et : x.tdiv (sizI k) = x / sizI k := Int.tdiv_eq_ediv_of_nonneg x0
  have em : x.tmod (sizI k) = x % sizI k := Int.tmod_eq_emod_of_nonneg x0
  have d0 : 0 ≤ x / sizI k := Int.ediv_nonneg x0 (by omega)
  have d1 : x / sizI k ≤ 256 := Int.le_trans (Int.ediv_le_self _ x0) x1
  have ew : IntKind.i64.wrap (x / sizI k) = x / sizI k := IntWalk.i64_in _ (by omega)
  go_region_held3 (fun w' => SizTab w') (first | exact HS2.out | exact SizTab.drew HS2.out | (repeat (first | exact HS2.out | apply SizTab.drewN | apply SizTab.drew | apply SizTab.alloc)))
    (first
      | (go_at_call 343; refine (size_any _ _ (by repeat (first | exact HS2.out | apply SizTab.drewN | apply SizTab.drew | apply SizTab.alloc))).mono ?_; rintro e w' ⟨rfl, rfl⟩))
  all_goals clear et em ew hne
  all_goals
    go_wp2
    go_quiet ((go_at_call 342; exact quiet_add_left (per_any _ _ _ (SizTab.drewN (SizTab.alloc HS2.out _) _))))
    go_wp2
    exact bodyPost_ret (v := .tuple #[.agg #[.int .i64 (0), .int .i64 (0), .int .i64 (0)], .bool false]) (by first | (simp [results, Tryz.results346, go_sem, r0, r1, r2, hz2]; done) | simp [results, Tryz.results346, go_sem, r0, r1, r2, hz2, Nat.ne_of_lt hz2]) rfl ⟨rfl, ((((below_drewN (HBB.out.alloc (by omega) _) _).setCell (by simp) _).setCell (by simp) _).setCell (by simp) _)⟩

/-- The place of an address. -/
def findV (R : Bool) (b wd k a : Int) : Int × Int × Int := if finB R b wd k a = true then ((a - 1) / wd, offI wd a / sizI k, offI wd a % sizI k) else (0, 0, 0)

theorem find_any (b wd m r ce lg st k a : Int) (w : World) (ht : Tabs w) :
    Calls Tryz.prog 346 #[.agg #[.int .i64 b, .int .i64 wd, .int .i64 m, .int .i64 r, .int .i64 ce, .int .i64 lg, .int .i64 st], .int .i64 k, .int .i64 a] w
      (PlaceB w (findV (rightB b wd m r ce lg st) b wd k a).1 (findV (rightB b wd m r ce lg st) b wd k a).2.1 (findV (rightB b wd m r ce lg st) b wd k a).2.2 (finB (rightB b wd m r ce lg st) b wd k a)) := by
  by_cases hA : adrB (rightB b wd m r ce lg st) b wd a = true
  · by_cases hk : isB k = true
    · obtain ⟨q, x, hq, hfi, hx, ha, q0, q1, x0, x1, s0, s1, _⟩ := find_facts hA hk
      by_cases hin : x / sizI k < perI wd k
      · have hF : finB (rightB b wd m r ce lg st) b wd k a = true := finB_true.2 ⟨hA, hk, hx ▸ hin⟩
        rw [show findV (rightB b wd m r ce lg st) b wd k a = (q, x / sizI k, x % sizI k) from (if_pos hF).trans (by rw [hx, ← hq, blockI_yes hA]), hF]
        exact find_yes b wd m r ce lg st k a q x w ht hA hk hq hfi ha q0 q1 x0 x1 s0 s1 hin
      · have hF : finB (rightB b wd m r ce lg st) b wd k a = false := by rw [← Bool.not_eq_true, finB_true]; rintro ⟨_, _, h⟩; exact hin (hx ▸ h)
        rw [show findV (rightB b wd m r ce lg st) b wd k a = (0, 0, 0) from if_neg (by rw [hF]; decide), hF]
        exact find_noS b wd m r ce lg st k a q x w ht hA hk hq hfi ha q0 q1 x0 x1 s0 s1 (by omega)
    · have hk : isB k = false := by simpa using hk
      have hF : finB (rightB b wd m r ce lg st) b wd k a = false := by rw [← Bool.not_eq_true, finB_true]; simp [hk]
      rw [show findV (rightB b wd m r ce lg st) b wd k a = (0, 0, 0) from if_neg (by rw [hF]; decide), hF]
      exact find_noK b wd m r ce lg st k a w ht hA hk
  · have hA : adrB (rightB b wd m r ce lg st) b wd a = false := by simpa using hA
    have hF : finB (rightB b wd m r ce lg st) b wd k a = false := by rw [← Bool.not_eq_true, finB_true]; simp [hA]
    rw [show findV (rightB b wd m r ce lg st) b wd k a = (0, 0, 0) from if_neg (by rw [hF]; decide), hF]
    exact find_noA b wd m r ce lg st k a w ht hA
end Go.Proofs.YtipifkgmhgkleaaGreatDoor.Addr
