/-
  A board's All and Ask.
-/
import Derived.Test.YthpgnlcmpoldfaaGreatDoorBrdA
namespace Go.Proofs.YthpgnlcmpoldfaaGreatDoor.Brd
open Go.RowKit
open Go.Proofs.YthpgnlcmpoldfaaGreatDoor.Row

theorem all_nil (w : World) : Calls Tryz.prog 174 #[.pointer none] w fun e w' => e = .returned (.bool false) ∧ Below w.heap.size w w' := by
  go_enter Tryz.func174, Tryz.ntmps174
  go_wp2
  go_ret
  exact ⟨rfl, (Below.refl _ _).alloc (Nat.le_refl _) _⟩
theorem all1_any {B base n q : Nat} {kind count : Int} {ow : Nat → Bool} (m : Nat) (b : Bool) (w : World) (h : BdIs w B base n kind count ow) (hq : w.cell? ⟨q, 0, none⟩ = some (.pointer (some ⟨B, 0, none⟩))) (hm : m < 8) (ho : ow m = b) :
    Calls Tryz.prog 227 #[.int .i64 m, .pointer (some ⟨q, 0, none⟩)] w fun e w' => e = .returned (.bool (!b)) ∧ w = w' := by
  have hc := h.cs m hm
  rw [ho] at hc
  have h8 : (m : Int) < 8 := by omega
  have h0 : (0 : Int) ≤ (m : Int) := by omega
  clear h ho
  cases b
  all_goals
    go_enter Tryz.func227, Tryz.ntmps227
    go_wp2
    go_ret
    exact ⟨rfl, rfl⟩
theorem each_yes {B base n q : Nat} {kind count : Int} {ow : Nat → Bool} (w : World) (h : BdIs w B base n kind count ow) (hq : w.cell? ⟨q, 0, none⟩ = some (.pointer (some ⟨B, 0, none⟩))) (ho : ∀ m, m < n → ow m = false) :
    Calls Tryz.prog 226 #[.pointer (some ⟨B, 0, none⟩), .func (.func 227) #[] #[.pointer (some ⟨q, 0, none⟩)]] w fun e w' => e = .returned (.bool true) ∧ w = w' := by
  have HO := Lib.hid ho
  have HQ := Lib.hid hq
  have hc := h.c0
  have hn := h.n2
  have H := Lib.hid h
  clear h ho hq
  go_enter Tryz.func226, Tryz.ntmps226
  go_wp2
  go_loop [10] (fun i => ∃ c : Nat, c ≤ n ∧ i = .int .i64 c) (fun i => n - (intOf i).toNat)
  case atStart => exact ⟨0, Nat.zero_le _, rfl⟩
  case round =>
    obtain ⟨c, hcn, rfl⟩ := hrel
    by_cases hlt : c < n
    · have i1 : (c : Int) < (n : Int) := by omega
      go_wp2_with (go_at_call 227; refine (all1_any c false _ H.out HQ.out (by omega) (HO.out c hlt)).mono ?_; rintro e w' ⟨rfl, rfl⟩)
      go_round
      case rel => exact ⟨c + 1, by omega, by go_num⟩
      case measure => simp [intOf]; omega
    · have i1 : ¬ (c : Int) < (n : Int) := by omega
      go_wp2
      go_ret
      exact ⟨rfl, rfl⟩
theorem each_no {B base n q : Nat} {kind count : Int} {ow : Nat → Bool} (m : Nat) (w : World) (h : BdIs w B base n kind count ow) (hq : w.cell? ⟨q, 0, none⟩ = some (.pointer (some ⟨B, 0, none⟩))) (hm : m < n) (ho : ow m = true) :
    Calls Tryz.prog 226 #[.pointer (some ⟨B, 0, none⟩), .func (.func 227) #[] #[.pointer (some ⟨q, 0, none⟩)]] w fun e w' => e = .returned (.bool false) ∧ w = w' := by
  have HO := Lib.hid ho
  have HQ := Lib.hid hq
  have hc := h.c0
  have hn := h.n2
  have H := Lib.hid h
  clear h ho hq
  go_enter Tryz.func226, Tryz.ntmps226
  go_wp2
  go_loop [10] (fun i => ∃ c : Nat, c ≤ m ∧ i = .int .i64 c) (fun i => n - (intOf i).toNat)
  case atStart => exact ⟨0, Nat.zero_le _, rfl⟩
  case round =>
    obtain ⟨c, hcn, rfl⟩ := hrel
    have i1 : (c : Int) < (n : Int) := by omega
    cases hb : ow c with
    | false =>
      have HB := Lib.hid hb
      clear hb
      have hne : c ≠ m := fun e => by have := HB.out; rw [e, HO.out] at this; cases this
      go_wp2_with (go_at_call 227; refine (all1_any c false _ H.out HQ.out (by omega) HB.out).mono ?_; rintro e w' ⟨rfl, rfl⟩)
      go_round
      case rel => exact ⟨c + 1, by omega, by go_num⟩
      case measure => simp [intOf]; omega
    | true =>
      have HB := Lib.hid hb
      clear hb
      go_wp2_with (go_at_call 227; refine (all1_any c true _ H.out HQ.out (by omega) HB.out).mono ?_; rintro e w' ⟨rfl, rfl⟩)
      go_ret
      exact ⟨rfl, rfl⟩
theorem all_yes {B base n : Nat} {kind count : Int} {ow : Nat → Bool} (w : World) (h : BdIs w B base n kind count ow) (ho : ∀ m, m < n → ow m = false) : Calls Tryz.prog 174 #[.pointer (some ⟨B, 0, none⟩)] w fun e w' => e = .returned (.bool true) ∧ Below w.heap.size w w' := by
  have HO := Lib.hid ho
  have H := Lib.hid h
  clear h ho
  go_enter Tryz.func174, Tryz.ntmps174
  go_wp2_with (go_at_call 226; refine (each_yes _ (H.out.later ((Below.refl _ _).alloc (Nat.le_refl _) _)) (by simp) HO.out).mono ?_; rintro e w' ⟨rfl, rfl⟩)
  go_ret
  exact ⟨rfl, (Below.refl _ _).alloc (Nat.le_refl _) _⟩
theorem all_no {B base n : Nat} {kind count : Int} {ow : Nat → Bool} (m : Nat) (w : World) (h : BdIs w B base n kind count ow) (hm : m < n) (ho : ow m = true) : Calls Tryz.prog 174 #[.pointer (some ⟨B, 0, none⟩)] w fun e w' => e = .returned (.bool false) ∧ Below w.heap.size w w' := by
  have HO := Lib.hid ho
  have H := Lib.hid h
  clear h ho
  go_enter Tryz.func174, Tryz.ntmps174
  go_wp2_with (go_at_call 226; refine (each_no m _ (H.out.later ((Below.refl _ _).alloc (Nat.le_refl _) _)) (by simp) hm HO.out).mono ?_; rintro e w' ⟨rfl, rfl⟩)
  go_ret
  exact ⟨rfl, (Below.refl _ _).alloc (Nat.le_refl _) _⟩
/-- Whether all have answered. -/
def allB (n : Nat) (ow : Nat → Bool) : Bool := decide (∀ m, m < n → ow m = false)
theorem allB_true {n : Nat} {ow : Nat → Bool} : allB n ow = true ↔ ∀ m, m < n → ow m = false := by simp [allB]
theorem allB_false {n : Nat} {ow : Nat → Bool} (h : allB n ow = false) : ∃ m, m < n ∧ ow m = true := by
  have h1 : ¬ ∀ m, m < n → ow m = false := by simpa [allB] using h
  exact Classical.byContradiction fun hn => h1 fun m hm => by
    cases e : ow m with
    | false => rfl
    | true => exact absurd ⟨m, hm, e⟩ hn
theorem all_any {B base n : Nat} {kind count : Int} {ow : Nat → Bool} (w : World) (h : BdIs w B base n kind count ow) : Calls Tryz.prog 174 #[.pointer (some ⟨B, 0, none⟩)] w fun e w' => e = .returned (.bool (allB n ow)) ∧ Below w.heap.size w w' := by
  cases e : allB n ow with
  | true => exact all_yes w h (allB_true.1 e)
  | false => obtain ⟨m, hm, ho⟩ := allB_false e; exact all_no m w h hm ho

theorem ask_nil (k : Int) (w : World) : Calls Tryz.prog 132 #[.pointer none, .int .i64 k] w fun e w' => e = .returned (.int .i64 11) ∧ Below w.heap.size w w' := by
  go_enter Tryz.func132, Tryz.ntmps132
  go_wp2_with (go_at_call 174; refine (all_nil _).mono ?_; rintro e w' ⟨rfl, hb⟩)
  go_ret
  exact ⟨rfl, hb⟩
theorem ask_no {B base n : Nat} {kind count : Int} {ow : Nat → Bool} (k : Int) (w : World) (h : BdIs w B base n kind count ow) (ho : allB n ow = false) : Calls Tryz.prog 132 #[.pointer (some ⟨B, 0, none⟩), .int .i64 k] w fun e w' => e = .returned (.int .i64 11) ∧ Below w.heap.size w w' := by
  have hc := all_any w h
  rw [ho] at hc
  have HC := Lib.hid hc
  clear h ho hc
  go_enter Tryz.func132, Tryz.ntmps132
  go_wp2_with (go_at_call 174; refine HC.out.mono ?_; rintro e w' ⟨rfl, hb⟩)
  go_ret
  exact ⟨rfl, hb⟩

/-- While the request is laid: of the first ones it is known. -/
theorem BdIs.grow {w : World} {B base n c : Nat} {kind count : Int} {ow : Nat → Bool} (h : BdIs w B base n kind count (fun m => decide (m < c) || ow m)) (hc : c < 8) : BdIs (w.setCell ⟨B, 3 + c, none⟩ (.bool true)) B base n kind count (fun m => decide (m < c + 1) || ow m) := by
  have h2 := h.turn hc true
  have e : upd (fun m => decide (m < c) || ow m) c true = fun m => decide (m < c + 1) || ow m := by
    funext m
    unfold upd
    by_cases e : m = c
    · subst e; simp
    · rw [if_neg e]
      show (decide (m < c) || ow m) = (decide (m < c + 1) || ow m)
      have : decide (m < c) = decide (m < c + 1) := by simp only [decide_eq_decide]; omega
      rw [this]
  rwa [e] at h2

set_option maxHeartbeats 1000000 in
theorem ask_yes {B base n : Nat} {kind count : Int} {ow : Nat → Bool} (k : Int) (w : World) (h : BdIs w B base n kind count ow) (ho : allB n ow = true) (h0 : 0 ≤ count) (h1 : count ≤ 1000000) : Calls Tryz.prog 132 #[.pointer (some ⟨B, 0, none⟩), .int .i64 k] w fun e w' => e = .returned (.int .i64 0) ∧
    BdIs w' B base n k (count + 1) (fun m => decide (m < n) || ow m) ∧ Chg (fun k => k = B) w w' := by
  have hc := all_any w h
  rw [ho] at hc
  have HC := Lib.hid hc
  have H := Lib.hid h
  have hn := h.n2
  have hbB := h.base
  clear h ho hc
  go_enter Tryz.func132, Tryz.ntmps132
  go_wp2_with fail
  refine HC.out.mono ?_
  rintro e w1 ⟨rfl, hb⟩
  have h1 := H.out.later hb
  have HB := Lib.hid hb
  have c0 := h1.c0
  have c1 := h1.c1
  have c2 := h1.c2
  have f1 := h1.f 1 (by omega)
  have f2 := h1.f 2 (by omega)
  have H1 := Lib.hid (h1.asked k (count + 1))
  clear h1 hb
  go_wp2
  go_loopw [24] (fun i wr => ∃ c : Nat, c ≤ n ∧ i = .int .i64 c ∧ BdIs wr B base n k (count + 1) (fun m => decide (m < c) || ow m) ∧ Chg (fun k => k = B) w wr) (fun i _ => n - (intOf i).toNat)
  case atStart => exact ⟨0, Nat.zero_le _, rfl, by simpa using H1.out, Chg.set (S := fun k => k = B) (Chg.set (S := fun k => k = B) (Chg.of_below HB.out) (.inl rfl) _) (.inl rfl) _⟩
  case round =>
    obtain ⟨c, hcn, rfl, hs, hbl⟩ := hrel
    have HS := Lib.hid hs
    have HL := Lib.hid hbl
    clear hs hbl
    by_cases hlt : c < n
    · have i1 : (c : Int) < (n : Int) := by omega
      have i2 : (c : Int) < 8 := by omega
      have i0 : (0 : Int) ≤ (c : Int) := by omega
      have cc := HS.out.cs c (by omega)
      have cf := HS.out.f (3 + c) (by omega)
      go_wp2
      go_roundw
      case rel => exact ⟨c + 1, by omega, by go_num, HS.out.grow (by omega), Chg.set (S := fun k => k = B) HL.out (.inl rfl) _⟩
      case measure => simp [intOf]; omega
    · have i1 : ¬ (c : Int) < (n : Int) := by omega
      obtain rfl : c = n := by omega
      go_wp2
      go_ret
      exact ⟨rfl, HS.out, HL.out⟩
end Go.Proofs.YthpgnlcmpoldfaaGreatDoor.Brd
