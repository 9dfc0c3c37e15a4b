/-
  addr.first, Slot, Of and Block, for every config, class and place, wherever the tables of limits and sizes lie as they were laid.
-/
import Derived.Test.YtooojajagkbhiaaDoorConfigR
import Derived.Test.YtooojajagkbhiaaDoorClassA
namespace Go.Proofs.YtooojajagkbhiaaDoor.Addr
open Go.RowKit
open Class (SizTab isB sizI perI isB_true isB_false sizI_bd sizI_no perI_yes perI_noC perI_noW wordsB wordsB_true per_any size_any)

theorem ret_int {k : IntKind} {a b : Int} (h : a = b) : Ending.returned (.int k a) = .returned (.int k b) := by rw [h]
theorem ret_bool {a b : Bool} (h : a = b) : Ending.returned (.bool a) = .returned (.bool b) := by rw [h]

/-- Both tables lie as they were laid. -/
structure Tabs (w : World) : Prop where
  lim : LimTab w
  siz : SizTab w
theorem Tabs.below {n : Nat} {w w' : World} (h : Tabs w) (hb : Below n w w') (h1 : 1 < n) (h2 : 0 < n) : Tabs w' := ⟨h.lim.below hb h1, h.siz.below hb h2⟩
theorem Tabs.later {w w' : World} (h : Tabs w) (hb : Below w.heap.size w w') : Tabs w' := h.below hb h.lim.blk h.siz.blk
theorem Tabs.alloc {w : World} (h : Tabs w) (o : Obj) : Tabs (w.alloc o) := ⟨h.lim.alloc o, h.siz.alloc o⟩
theorem Tabs.drew {w : World} (h : Tabs w) : Tabs w.drew := ⟨h.lim.drew, h.siz.drew⟩
theorem Tabs.drewN {w : World} (h : Tabs w) (k : Nat) : Tabs (w.drewN k) := ⟨h.lim.drewN k, h.siz.drewN k⟩

/-- Is there such a block? -/
def blkB (b block : Int) : Bool := decide (0 ≤ block) && decide (block < b)
theorem blkB_true {b block : Int} : blkB b block = true ↔ 0 ≤ block ∧ block < b := by simp [blkB]
theorem blkB_false {b block : Int} : blkB b block = false ↔ block < 0 ∨ b ≤ block := by
  rw [← Bool.not_eq_true, blkB_true]; omega

/-- The address of a block's first word; 0 of none. -/
def firstI (R : Bool) (b wd block : Int) : Int := if R = true ∧ blkB b block = true then block * wd + 1 else 0
theorem firstI_no {R : Bool} {b wd block : Int} (h : R = false ∨ blkB b block = false) : firstI R b wd block = 0 := if_neg (by rintro ⟨h1, h2⟩; rcases h with h | h <;> simp_all)
theorem firstI_yes {R : Bool} {b wd block : Int} (h : R = true) (h2 : blkB b block = true) : firstI R b wd block = block * wd + 1 := if_pos ⟨h, h2⟩
theorem first_bd {b wd m r ce lg st block : Int} (hR : RightC b wd m r ce lg st) (h : blkB b block = true) : 0 ≤ block * wd ∧ block * wd ≤ 1048576 := by
  obtain ⟨h0, h1⟩ := blkB_true.1 h
  obtain ⟨b0, b1, wd0, wd1, m0, m1, r0, r1, ce0, ce1, lg0, lg1, st0, st1⟩ := hR
  exact ⟨Int.mul_nonneg h0 (by omega), Int.le_trans (Int.mul_le_mul (show block ≤ 4096 by omega) wd1 (by omega) (by omega)) (by decide)⟩

set_option maxHeartbeats 1000000 in
theorem first_any (b wd m r ce lg st block : Int) (w : World) (ht : LimTab w) :
    Calls Tryd.prog 53 #[.agg #[.int .i64 b, .int .i64 wd, .int .i64 m, .int .i64 r, .int .i64 ce, .int .i64 lg, .int .i64 st], .int .i64 block] w
      fun e w' => e = .returned (.int .i64 (firstI (rightB b wd m r ce lg st) b wd block)) ∧ Below w.heap.size w w' := by
  have HT := Lib.hid ht
  clear ht
  by_cases hr : rightB b wd m r ce lg st = true
  · by_cases h0 : 0 ≤ block
    · by_cases h1 : block < b
      · have hk := blkB_true.2 ⟨h0, h1⟩
        have hR : RightC b wd m r ce lg st := refRightB_true.1 ((rightB_ref ..).symm.trans hr)
        obtain ⟨p0, p1⟩ := first_bd hR hk
        rw [firstI_yes hr hk]
        have HK := Lib.hid hk
        clear hk hR
        go_enter Tryd.func53, Tryd.ntmps53
        go_wp2_with (go_at_call 44; refine (right_any _ _ _ _ _ _ _ _ (by repeat (first | exact HT.out | apply LimTab.alloc))).mono ?_; rintro e w' ⟨rfl, hb⟩; rw [hr]; obtain ⟨hc, hf⟩ := bcell hb)
        go_ret
        exact ⟨rfl, ((Below.refl _ _).alloc (Nat.le_refl _) _).trans (hb.mono (by simp))⟩
      · rw [firstI_no (.inr (blkB_false.2 (by omega)))]
        have h1' : b ≤ block := by omega
        go_enter Tryd.func53, Tryd.ntmps53
        go_wp2_with (go_at_call 44; refine (right_any _ _ _ _ _ _ _ _ (by repeat (first | exact HT.out | apply LimTab.alloc))).mono ?_; rintro e w' ⟨rfl, hb⟩; rw [hr]; obtain ⟨hc, hf⟩ := bcell hb)
        go_ret
        exact ⟨rfl, ((Below.refl _ _).alloc (Nat.le_refl _) _).trans (hb.mono (by simp))⟩
    · rw [firstI_no (.inr (blkB_false.2 (by omega)))]
      have h0' : block < 0 := by omega
      go_enter Tryd.func53, Tryd.ntmps53
      go_wp2_with (go_at_call 44; refine (right_any _ _ _ _ _ _ _ _ (by repeat (first | exact HT.out | apply LimTab.alloc))).mono ?_; rintro e w' ⟨rfl, hb⟩; rw [hr]; obtain ⟨hc, hf⟩ := bcell hb)
      go_ret
      exact ⟨rfl, ((Below.refl _ _).alloc (Nat.le_refl _) _).trans (hb.mono (by simp))⟩
  · have hr : rightB b wd m r ce lg st = false := by simpa using hr
    rw [hr, firstI_no (.inl rfl)]
    go_enter Tryd.func53, Tryd.ntmps53
    go_wp2_with (go_at_call 44; refine (right_any _ _ _ _ _ _ _ _ (by repeat (first | exact HT.out | apply LimTab.alloc))).mono ?_; rintro e w' ⟨rfl, hb⟩; rw [hr]; obtain ⟨hc, hf⟩ := bcell hb)
    go_ret
    exact ⟨rfl, ((Below.refl _ _).alloc (Nat.le_refl _) _).trans (hb.mono (by simp))⟩

/-- Is there such a slot? -/
def sltB (R : Bool) (b wd k block slot : Int) : Bool := R && (blkB b block && (decide (0 ≤ slot) && decide (slot < perI wd k)))
theorem sltB_true {R : Bool} {b wd k block slot : Int} : sltB R b wd k block slot = true ↔ R = true ∧ blkB b block = true ∧ 0 ≤ slot ∧ slot < perI wd k := by simp [sltB]
/-- A slot's address; 0 of none. -/
def slotI (R : Bool) (b wd k block slot : Int) : Int := if sltB R b wd k block slot = true then block * wd + 1 + slot * sizI k else 0
theorem slotI_yes {R : Bool} {b wd k block slot : Int} (h : sltB R b wd k block slot = true) : slotI R b wd k block slot = block * wd + 1 + slot * sizI k := if_pos h
theorem slotI_no {R : Bool} {b wd k block slot : Int} (h : sltB R b wd k block slot = false) : slotI R b wd k block slot = 0 := if_neg (by simp [h])
theorem slot_bd {wd k slot : Int} (h0 : 0 ≤ slot) (h1 : slot < perI wd k) : isB k = true ∧ 2 ≤ sizI k ∧ sizI k ≤ 16 ∧ 0 ≤ slot * sizI k ∧ slot * sizI k + sizI k ≤ wd ∧ wd ≤ 256 := by
  have hk : isB k = true := by
    cases h : isB k with
    | true => rfl
    | false => rw [perI_noC h] at h1; omega
  have hw : wordsB wd = true := by
    cases h : wordsB wd with
    | true => rfl
    | false => rw [perI_noW h] at h1; omega
  obtain ⟨s0, s1⟩ := sizI_bd hk
  obtain ⟨n0, n1⟩ := wordsB_true.1 hw
  rw [perI_yes hk hw] at h1
  refine ⟨hk, s0, s1, Int.mul_nonneg h0 (by omega), ?_, n1⟩
  have h2 : (slot + 1) * sizI k ≤ (wd / sizI k) * sizI k := Int.mul_le_mul_of_nonneg_right (by omega) (by omega)
  have h3 : wd / sizI k * sizI k ≤ wd := Int.ediv_mul_le _ (by omega)
  have h4 : (slot + 1) * sizI k = slot * sizI k + sizI k := by rw [Int.add_mul, Int.one_mul]
  omega

set_option maxHeartbeats 1000000 in
theorem slot_any (b wd m r ce lg st k block slot : Int) (w : World) (ht : Tabs w) :
    Calls Tryd.prog 67 #[.agg #[.int .i64 b, .int .i64 wd, .int .i64 m, .int .i64 r, .int .i64 ce, .int .i64 lg, .int .i64 st], .int .i64 k, .int .i64 block, .int .i64 slot] w
      fun e w' => e = .returned (.int .i64 (slotI (rightB b wd m r ce lg st) b wd k block slot)) ∧ Below w.heap.size w w' := by
  have HT := Lib.hid ht
  clear ht
  by_cases hrk : rightB b wd m r ce lg st = true ∧ blkB b block = true
  · obtain ⟨hr, hk⟩ := hrk
    have hR : RightC b wd m r ce lg st := refRightB_true.1 ((rightB_ref ..).symm.trans hr)
    obtain ⟨p0, p1⟩ := first_bd hR hk
    have hfi := firstI_yes (wd := wd) hr hk
    have HFI := Lib.hid hfi
    have hfe : (block * wd + 1 == 0) = false := by simp; omega
    clear hR hfi
    by_cases h0 : 0 ≤ slot
    · by_cases h1 : slot < perI wd k
      · obtain ⟨hb, s0, s1, m0, m1, m2⟩ := slot_bd h0 h1
        rw [slotI_yes (sltB_true.2 ⟨hr, hk, h0, h1⟩)]
        have HK := Lib.hid (And.intro hr hk)
        clear hr hk hb
        go_enter Tryd.func67, Tryd.ntmps67
        go_wp2_with (first
          | (go_at_call 53; refine (first_any _ _ _ _ _ _ _ _ _ (by repeat (first | exact HT.out.lim | apply LimTab.alloc))).mono ?_; rintro e w' ⟨rfl, hb⟩; rw [HFI.out]; obtain ⟨hc, hf⟩ := bcell hb)
          | (go_at_call 55; refine (per_any _ _ _ (SizTab.later (SizTab.alloc HT.out.siz _) hb)).mono ?_; rintro e w' ⟨rfl, rfl⟩)
          | (go_at_call 54; refine (size_any _ _ (SizTab.later (SizTab.alloc HT.out.siz _) hb)).mono ?_; rintro e w' ⟨rfl, rfl⟩))
        go_ret
        exact ⟨rfl, ((Below.refl _ _).alloc (Nat.le_refl _) _).trans (hb.mono (by simp))⟩
      · rw [slotI_no (by rw [← Bool.not_eq_true, sltB_true]; omega)]
        have h1' : perI wd k ≤ slot := by omega
        go_enter Tryd.func67, Tryd.ntmps67
        go_wp2_with (first
          | (go_at_call 53; refine (first_any _ _ _ _ _ _ _ _ _ (by repeat (first | exact HT.out.lim | apply LimTab.alloc))).mono ?_; rintro e w' ⟨rfl, hb⟩; rw [HFI.out]; obtain ⟨hc, hf⟩ := bcell hb)
          | (go_at_call 55; refine (per_any _ _ _ (SizTab.later (SizTab.alloc HT.out.siz _) hb)).mono ?_; rintro e w' ⟨rfl, rfl⟩))
        go_ret
        exact ⟨rfl, ((Below.refl _ _).alloc (Nat.le_refl _) _).trans (hb.mono (by simp))⟩
    · rw [slotI_no (by rw [← Bool.not_eq_true, sltB_true]; omega)]
      have h0' : slot < 0 := by omega
      go_enter Tryd.func67, Tryd.ntmps67
      go_wp2_with (go_at_call 53; refine (first_any _ _ _ _ _ _ _ _ _ (by repeat (first | exact HT.out.lim | apply LimTab.alloc))).mono ?_; rintro e w' ⟨rfl, hb⟩; rw [HFI.out]; obtain ⟨hc, hf⟩ := bcell hb)
      go_ret
      exact ⟨rfl, ((Below.refl _ _).alloc (Nat.le_refl _) _).trans (hb.mono (by simp))⟩
  · rw [slotI_no (by rw [← Bool.not_eq_true, sltB_true]; exact fun h => hrk ⟨h.1, h.2.1⟩)]
    have hfi : firstI (rightB b wd m r ce lg st) b wd block = 0 := if_neg hrk
    have HFI := Lib.hid hfi
    clear hfi hrk
    go_enter Tryd.func67, Tryd.ntmps67
    go_wp2_with (go_at_call 53; refine (first_any _ _ _ _ _ _ _ _ _ (by repeat (first | exact HT.out.lim | apply LimTab.alloc))).mono ?_; rintro e w' ⟨rfl, hb⟩; rw [HFI.out]; obtain ⟨hc, hf⟩ := bcell hb)
    go_ret
    exact ⟨rfl, ((Below.refl _ _).alloc (Nat.le_refl _) _).trans (hb.mono (by simp))⟩
end Go.Proofs.YtooojajagkbhiaaDoor.Addr
