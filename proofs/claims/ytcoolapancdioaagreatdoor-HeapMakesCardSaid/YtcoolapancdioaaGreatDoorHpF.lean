/-
  Cells of a heap.
-/
import Derived.Test.YtcoolapancdioaaGreatDoorHpE
namespace Go.Proofs.YtcoolapancdioaaGreatDoor.Hp
open Go.RowKit
open Class (isB isB_true isB_false is_any sizI sizI_bd roomI SizTab quiet_left below_drewN)
open Go.Proofs.YtcoolapancdioaaGreatDoor.Row (Chg Rd)
open Go.Proofs.YtcoolapancdioaaGreatDoor.Addr (Tabs adrB adrB_true)

/-- What Cell and SetCell tell. -/
def ccE (s : St) (i : Int) : Int := if 0 ≤ i ∧ i < (s.ce.length : Int) then 0 else 9
def cV (s : St) (i : Int) : Int := if 0 ≤ i ∧ i < (s.ce.length : Int) then s.ce.getD i.toNat 0 else 0
def scE (s : St) (i v : Int) : Int := if 0 ≤ i ∧ i < (s.ce.length : Int) then (if mayV s v = true then 0 else 4) else 9
def scS (s : St) (i v : Int) : St := { s with ce := s.ce.set i.toNat v }

set_option maxRecDepth 100000 in
set_option maxHeartbeats 1000000 in
theorem cell_nil (i : Int) (w : World) : Calls Tryz.prog 21 #[.pointer none, .int .i64 i] w fun e w' => e = .returned (.tuple #[.int .i64 0, .int .i64 11]) ∧ Below w.heap.size w w' := by
  go_enter Tryz.func21, Tryz.ntmps21
  go_wp2_with (go_enter Tryz.func69, Tryz.ntmps69)
  go_ret2
  exact ⟨rfl, (Below.refl _ _).alloc (Nat.le_refl _) _⟩
set_option maxRecDepth 100000 in
set_option maxHeartbeats 1000000 in
theorem setcell_nil (i v : Int) (w : World) : Calls Tryz.prog 33 #[.pointer none, .int .i64 i, .int .i64 v] w fun e w' => e = .returned (.int .i64 11) ∧ Below w.heap.size w w' := by
  go_enter Tryz.func33, Tryz.ntmps33
  go_wp2_with (go_enter Tryz.func69, Tryz.ntmps69)
  go_ret
  exact ⟨rfl, ((Below.refl _ _).alloc (Nat.le_refl _) _).alloc (by simp) _⟩
theorem cell1_any (p o q : Nat) (v : Int) (u : Value) (w : World) (hp : w.cell? ⟨p, o, none⟩ = some (.int .i64 v)) (hq : w.cell? ⟨q, 0, none⟩ = some u) (hqf : w.frozen? ⟨q, 0, none⟩ = false) :
    Calls Tryz.prog 70 #[.pointer (some ⟨p, o, none⟩), .pointer (some ⟨q, 0, none⟩)] w fun e w' => e = .returned (.int .i64 0) ∧ w' = w.setCell ⟨q, 0, none⟩ (.int .i64 v) := by
  go_enter Tryz.func70, Tryz.ntmps70
  go_wp2
  all_goals go_ret
  all_goals exact ⟨rfl, rfl⟩
set_option maxRecDepth 100000 in
set_option maxHeartbeats 1000000 in
theorem cell_any {H : Nat} {d : Ids} {s : St} {m : Nat} (i : Int) (w : World) (h : Is w H d s m) :
    Calls Tryz.prog 21 #[.pointer (some ⟨H, 0, none⟩), .int .i64 i] w fun e w' => e = .returned (.tuple #[.int .i64 (cV s i), .int .i64 (ccE s i)]) ∧ Below w.heap.size w w' := by
  have hcC := h.cC
  have hHl := h.ltH
  have hCl := h.ltCb
  have hlc := h.capc
  unfold cV ccE
  by_cases hi : 0 ≤ i ∧ i < (s.ce.length : Int)
  · rw [if_pos hi, if_pos hi]
    obtain ⟨k, rfl⟩ := Int.eq_ofNat_of_zero_le hi.1
    have hk : k < s.ce.length := by omega
    have hc := h.cells k hk
    rw [Int.toNat_natCast]
    obtain ⟨i1, i2⟩ := hi
    clear h
    generalize s.ce.getD k 0 = v at *
    generalize s.ce.length = n at *
    go_enter Tryz.func21, Tryz.ntmps21
    go_wp2_with (first
      | go_enter Tryz.func69, Tryz.ntmps69
      | (go_at_call 70; refine (cell1_any d.Cb k w.heap.size v (.int .i64 0) _ (((Below.refl _ _).alloc (Nat.le_refl _) _).cell (p := ⟨d.Cb, k, none⟩) hCl |>.trans hc) (by simp) (by simp)).mono ?_; rintro e w' ⟨rfl, rfl⟩))
    go_ret2
    exact ⟨rfl, (Below.refl _ _).alloc (Nat.le_refl _) _⟩
  · rw [if_neg hi, if_neg hi]
    clear h
    generalize s.ce.length = n at *
    by_cases h0 : i < 0
    · go_enter Tryz.func21, Tryz.ntmps21
      go_wp2_with (go_enter Tryz.func69, Tryz.ntmps69)
      go_ret2
      exact ⟨rfl, (Below.refl _ _).alloc (Nat.le_refl _) _⟩
    · have h1 : (n : Int) ≤ i := by omega
      go_enter Tryz.func21, Tryz.ntmps21
      go_wp2_with (go_enter Tryz.func69, Tryz.ntmps69)
      go_ret2
      exact ⟨rfl, (Below.refl _ _).alloc (Nat.le_refl _) _⟩
theorem setcell1_bad {H : Nat} {d : Ids} {s : St} {m : Nat} (b o : Nat) (v : Int) (p q : Nat) (w : World) (h : Is w H d s m) (hv : mayV s v = false) (hp : w.cell? ⟨p, 0, none⟩ = some (.pointer (some ⟨H, 0, none⟩))) (hq : w.cell? ⟨q, 0, none⟩ = some (.int .i64 v)) :
    Calls Tryz.prog 89 #[.pointer (some ⟨b, o, none⟩), .pointer (some ⟨p, 0, none⟩), .pointer (some ⟨q, 0, none⟩)] w fun e w' => e = .returned (.int .i64 4) ∧ w = w' := by
  have HM := Lib.hid (may_any v w h)
  rw [hv] at HM
  clear h
  go_enter Tryz.func89, Tryz.ntmps89
  go_wp2_with (go_at_call 88; refine HM.out.mono ?_; rintro e w1 ⟨rfl, rfl⟩)
  go_ret
  exact ⟨rfl, rfl⟩
theorem setcell1_any {H : Nat} {d : Ids} {s : St} {m : Nat} (b o : Nat) (u : Value) (v : Int) (p q : Nat) (w : World) (h : Is w H d s m) (hv : mayV s v = true) (hp : w.cell? ⟨p, 0, none⟩ = some (.pointer (some ⟨H, 0, none⟩))) (hq : w.cell? ⟨q, 0, none⟩ = some (.int .i64 v)) (hc : w.cell? ⟨b, o, none⟩ = some u) (hcf : w.frozen? ⟨b, o, none⟩ = false) :
    Calls Tryz.prog 89 #[.pointer (some ⟨b, o, none⟩), .pointer (some ⟨p, 0, none⟩), .pointer (some ⟨q, 0, none⟩)] w fun e w' => e = .returned (.int .i64 0) ∧ w' = w.setCell ⟨b, o, none⟩ (.int .i64 v) := by
  have HM := Lib.hid (may_any v w h)
  rw [hv] at HM
  clear h
  go_enter Tryz.func89, Tryz.ntmps89
  go_wp2_with (go_at_call 88; refine HM.out.mono ?_; rintro e w1 ⟨rfl, rfl⟩)
  all_goals go_ret
  all_goals exact ⟨rfl, rfl⟩
set_option maxRecDepth 100000 in
set_option maxHeartbeats 1000000 in
theorem setcell_any {H : Nat} {d : Ids} {s : St} {m : Nat} (i v : Int) (w : World) (h : Is w H d s m) :
    Calls Tryz.prog 33 #[.pointer (some ⟨H, 0, none⟩), .int .i64 i, .int .i64 v] w fun e w' => e = .returned (.int .i64 (scE s i v)) ∧ To w w' H d (if scE s i v = 0 then scS s i v else s) m := by
  have hcC := h.cC
  have hHl := h.ltH
  have hCl := h.ltCb
  have hlc := h.capc
  have hb0 : Below w.heap.size w ((w.alloc (.cells #[.pointer (some ⟨H, 0, none⟩)] 27)).alloc (.cells #[.int .i64 v] 3)) := two_new _ _ _ _
  have HB0 := Lib.hid hb0
  have HH := Lib.hid h
  have HI := Lib.hid (h.later hb0)
  unfold scE
  by_cases hi : 0 ≤ i ∧ i < (s.ce.length : Int)
  · rw [if_pos hi]
    obtain ⟨k, rfl⟩ := Int.eq_ofNat_of_zero_le hi.1
    have hk : k < s.ce.length := by omega
    have hc := (HI.out).cells k hk
    have hf := (HI.out).fz k hk
    obtain ⟨i1, i2⟩ := hi
    cases hv : mayV s v with
    | false =>
      rw [if_neg (by simp), if_neg (by omega)]
      clear h hb0 hc hf
      go_enter Tryz.func33, Tryz.ntmps33
      go_wp2_with (first
        | go_enter Tryz.func69, Tryz.ntmps69
        | (go_at_call 89; refine (setcell1_bad _ _ v w.heap.size (w.heap.size + 1) _ HI.out hv (by simp) (by simp)).mono ?_; rintro e w' ⟨rfl, rfl⟩))
      go_ret
      exact ⟨rfl, To.of_below HH.out HB0.out⟩
    | true =>
      rw [if_pos rfl, if_pos rfl]
      unfold scS
      rw [Int.toNat_natCast]
      clear h hb0
      have HC := Lib.hid hc
      have HF := Lib.hid hf
      clear hc hf
      go_enter Tryz.func33, Tryz.ntmps33
      go_wp2_with (first
        | go_enter Tryz.func69, Tryz.ntmps69
        | (go_at_call 89; refine (setcell1_any d.Cb k _ v w.heap.size (w.heap.size + 1) _ HI.out hv (by simp) (by simp) HC.out HF.out).mono ?_; rintro e w' ⟨rfl, rfl⟩))
      go_ret
      exact ⟨rfl, d, (HH.out.cell' hk v).later (two_new _ _ _ _), ((Chg.refl (Mine H d) w).set (p := ⟨d.Cb, k, none⟩) (.inl (.inr (.inl (.inr (.inr (.inr (.inr (.inr (.inr rfl))))))))) _).trans (Chg.of_below (S := Mine H d) (two_new _ _ _ _)) (fun _ e => .inl e), fun _ e => .inl e⟩
  · rw [if_neg hi, if_neg (by omega)]
    clear h
    generalize s.ce.length = n at *
    by_cases h0 : i < 0
    · go_enter Tryz.func33, Tryz.ntmps33
      go_wp2_with (go_enter Tryz.func69, Tryz.ntmps69)
      go_ret
      exact ⟨rfl, To.of_below HH.out HB0.out⟩
    · have h1 : (n : Int) ≤ i := by omega
      go_enter Tryz.func33, Tryz.ntmps33
      go_wp2_with (go_enter Tryz.func69, Tryz.ntmps69)
      go_ret
      exact ⟨rfl, To.of_below HH.out HB0.out⟩
end Go.Proofs.YtcoolapancdioaaGreatDoor.Hp
