/-
  Buffers and boxes in memory, all that is done with them; of those that aren't there.
-/
import Derived.Test.YthpgnlcmpoldfaaGreatDoorLogA
namespace Go.Proofs.YthpgnlcmpoldfaaGreatDoor.Lg
open Go.RowKit
open Go.Proofs.YthpgnlcmpoldfaaGreatDoor.Row
attribute [local go_sem] Oper.semAt_some

theorem quiet_left {P : Program} {f : FuncId} {args : Array Value} {w : World} {n : Nat} {v : Value}
    (h : Calls P f args (w.drewN n) fun e w' => e = .returned v ∧ w.drewN n = w') : Calls P f args (w.drewN n) fun e w'' => e = .returned v ∧ ∃ m, w'' = w.drewN m :=
  h.mono fun _ _ ⟨he, hm⟩ => ⟨he, n, hm.symm⟩

/-- A buffer in memory. -/
structure BfIs (T : Nat → Prop) (w : World) (B room : Nat) (xs : List Int) : Prop where
  r1 : 1 ≤ room
  r2 : room ≤ 256
  len : xs.length ≤ room
  c1 : w.cell? ⟨B, 1, none⟩ = some (.int .i64 room)
  row : ∃ p cap, RwIs T w B cap p xs
theorem BfIs.ltB {T : Nat → Prop} {w : World} {B room : Nat} {xs : List Int} (h : BfIs T w B room xs) : B < w.heap.size := World.block_lt_of_cell? w _ h.c1
theorem BfIs.tb {T : Nat → Prop} {w : World} {B room : Nat} {xs : List Int} (h : BfIs T w B room xs) : T B := by
  obtain ⟨p, cap, hr⟩ := h.row
  exact hr.tb
theorem BfIs.chg {T S : Nat → Prop} {w w' : World} {B room : Nat} {xs : List Int} (h : BfIs T w B room xs) (hc : Chg S w w') (hS : ∀ k, S k → T k) (hB : ¬ S B) : BfIs T w' B room xs := by
  obtain ⟨p, cap, hr⟩ := h.row
  exact ⟨h.r1, h.r2, h.len, (hc.cell (p := ⟨B, 1, none⟩) h.ltB hB).trans h.c1, p, cap, hr.chg hc hS hB⟩
theorem BfIs.later {T : Nat → Prop} {w w' : World} {B room : Nat} {xs : List Int} (h : BfIs T w B room xs) (hb : Below w.heap.size w w') : BfIs T w' B room xs :=
  h.chg (S := fun _ => False) (Chg.of_below hb) (fun _ e => e.elim) (fun e => e)
/-- A box in memory. -/
def BxIs (T : Nat → Prop) (w : World) (X : Nat) (ys : List Int) : Prop := ∃ p cap, RwIs T w X cap p ys
theorem BxIs.chg {T S : Nat → Prop} {w w' : World} {X : Nat} {ys : List Int} (h : BxIs T w X ys) (hc : Chg S w w') (hS : ∀ k, S k → T k) (hB : ¬ S X) : BxIs T w' X ys := by
  obtain ⟨p, cap, hr⟩ := h
  exact ⟨p, cap, hr.chg hc hS hB⟩
theorem BxIs.later {T : Nat → Prop} {w w' : World} {X : Nat} {ys : List Int} (h : BxIs T w X ys) (hb : Below w.heap.size w w') : BxIs T w' X ys :=
  h.chg (S := fun _ => False) (Chg.of_below hb) (fun _ e => e.elim) (fun e => e)
theorem BxIs.ltX {T : Nat → Prop} {w : World} {X : Nat} {ys : List Int} (h : BxIs T w X ys) : X < w.heap.size := by
  obtain ⟨p, cap, hr⟩ := h
  exact hr.ltB

theorem new_bad (n : Int) (w : World) (h : n < 1 ∨ 256 < n) : Calls Tryz.prog 59 #[.int .i64 n] w fun e w' => e = .returned (.tuple #[.pointer none, .int .i64 4]) ∧ w = w' := by
  rcases h with h | h
  · go_enter Tryz.func59, Tryz.ntmps59
    go_wp2
    go_ret2
    exact ⟨rfl, rfl⟩
  · have h1 : ¬ n < 1 := by omega
    go_enter Tryz.func59, Tryz.ntmps59
    go_wp2
    go_ret2
    exact ⟨rfl, rfl⟩
theorem new_good (n : Nat) (z : Int) (hz : z = n) (w : World) (h : 1 ≤ n) (h2 : n ≤ 256) : Calls Tryz.prog 59 #[.int .i64 z] w fun e w' => e = .returned (.tuple #[.pointer (some ⟨w.heap.size, 0, none⟩), .int .i64 0]) ∧
    (∀ T : Nat → Prop, T w.heap.size → BfIs T w' w.heap.size n []) ∧ Below w.heap.size w w' ∧ w'.heap.size = w.heap.size + 1 := by
  subst hz
  have h3 : ¬ (n : Int) < 1 := by omega
  have h4 : ¬ (256 < (n : Int)) := by omega
  go_enter Tryz.func59, Tryz.ntmps59
  go_wp2
  go_ret2
  exact ⟨rfl, fun T hT => ⟨h, h2, by simp, by simp, none, 0, ⟨by simp, by simp, by simp, Rd.nil _, fun _ => rfl, by simp, fun g hg => absurd hg (rowB_none g), hT⟩⟩, (Below.refl _ _).alloc (Nat.le_refl _) _, by simp⟩
theorem box_new (w : World) : Calls Tryz.prog 54 #[] w fun e w' => e = .returned (.pointer (some ⟨w.heap.size, 0, none⟩)) ∧
    (∀ T : Nat → Prop, T w.heap.size → BxIs T w' w.heap.size []) ∧ Below w.heap.size w w' ∧ w'.heap.size = w.heap.size + 1 := by
  go_enter Tryz.func54, Tryz.ntmps54
  go_wp2
  go_ret
  exact ⟨rfl, fun T hT => ⟨none, 0, ⟨by simp, by simp, by simp, Rd.nil _, fun _ => rfl, by simp, fun g hg => absurd hg (rowB_none g), hT⟩⟩, (Below.refl _ _).alloc (Nat.le_refl _) _, by simp⟩

theorem full_nil (w : World) : Calls Tryz.prog 234 #[.pointer none] w fun e w' => e = .returned (.bool false) ∧ ∃ q, w' = w.drewN q := by
  go_enter Tryz.func234, Tryz.ntmps234
  go_wp2
  go_quiet (fail)
  go_wp2
  go_ret
  exact ⟨rfl, _, rfl⟩
theorem full_any {T : Nat → Prop} {B room : Nat} {xs : List Int} (w : World) (h : BfIs T w B room xs) : Calls Tryz.prog 234 #[.pointer (some ⟨B, 0, none⟩)] w fun e w' => e = .returned (.bool (decide (xs.length = room))) ∧ ∃ q, w' = w.drewN q := by
  obtain ⟨p, cap, hr⟩ := h.row
  have c1 := h.c1
  have hb : (((xs.length : Nat) : Int) == (room : Int)) = decide (xs.length = room) := by rw [Bool.eq_iff_iff]; simp; omega
  have HC : Hid (∀ n W, W = w.drewN n → Calls Tryz.prog 270 #[.pointer (some ⟨B, 0, none⟩)] W fun e w' => e = .returned (.int .i64 xs.length) ∧ W = w') := Lib.hid fun n W e => by
    subst e
    exact count_any _ ⟨hr.len, hr.c, hr.f, hr.rd.drewN n, hr.nc, hr.le, hr.ap, hr.tb⟩
  clear h hr
  go_enter Tryz.func234, Tryz.ntmps234
  go_wp2
  go_quiet ((go_at_call 270; exact quiet_left (HC.out _ _ rfl)))
  go_wp2
  go_ret
  exact ⟨rfl, _, rfl⟩

theorem add_nil (a : Int) (w : World) : Calls Tryz.prog 231 #[.pointer none, .int .i64 a] w fun e w' => e = .returned (.bool false) ∧ w = w' := by
  go_enter Tryz.func231, Tryz.ntmps231
  go_wp2
  go_ret
  exact ⟨rfl, rfl⟩
theorem len_nil (w : World) : Calls Tryz.prog 235 #[.pointer none] w fun e w' => e = .returned (.int .i64 0) ∧ w = w' := by
  go_enter Tryz.func235, Tryz.ntmps235
  go_wp2
  go_ret
  exact ⟨rfl, rfl⟩
theorem all_nil (w : World) : Calls Tryz.prog 64 #[.pointer none] w fun e w' => e = .returned (.slice none 0 0) ∧ w = w' := by
  go_enter Tryz.func64, Tryz.ntmps64
  go_wp2
  go_ret
  exact ⟨rfl, rfl⟩
theorem next_nil (w : World) : Calls Tryz.prog 272 #[.pointer none] w fun e w' => e = .returned (.tuple #[.int .i64 0, .bool false]) ∧ w = w' := by
  go_enter Tryz.func272, Tryz.ntmps272
  go_wp2
  go_ret2
  exact ⟨rfl, rfl⟩
theorem clear_nil (w : World) : Calls Tryz.prog 179 #[.pointer none] w fun e w' => e = .returned (.tuple #[]) ∧ w = w' := by
  go_enter Tryz.func179, Tryz.ntmps179
  go_wp2
  exact bodyPost_end (results_none rfl _ _ _) rfl ⟨rfl, rfl⟩
theorem bnext_nil (w : World) : Calls Tryz.prog 304 #[.pointer none] w fun e w' => e = .returned (.tuple #[.int .i64 0, .bool false]) ∧ w = w' := by
  go_enter Tryz.func304, Tryz.ntmps304
  go_wp2
  go_ret2
  exact ⟨rfl, rfl⟩
theorem hand_nil (b : Option Addr) (w : World) : Calls Tryz.prog 237 #[.pointer none, .pointer b] w fun e w' => e = .returned (.bool false) ∧ w = w' := by
  go_enter Tryz.func237, Tryz.ntmps237
  go_wp2
  go_ret
  exact ⟨rfl, rfl⟩
theorem hand_none (X : Nat) (w : World) : Calls Tryz.prog 237 #[.pointer (some ⟨X, 0, none⟩), .pointer none] w fun e w' => e = .returned (.bool false) ∧ w = w' := by
  go_enter Tryz.func237, Tryz.ntmps237
  go_wp2
  go_ret
  exact ⟨rfl, rfl⟩

theorem add_full {T : Nat → Prop} {B room : Nat} {xs : List Int} (a : Int) (w : World) (h : BfIs T w B room xs) (hl : xs.length = room) : Calls Tryz.prog 231 #[.pointer (some ⟨B, 0, none⟩), .int .i64 a] w fun e w' => e = .returned (.bool false) ∧ ∃ q, w' = w.drewN q := by
  have HF := Lib.hid (full_any w h)
  have hd : decide (xs.length = room) = true := by simpa using hl
  rw [hd] at HF
  clear h
  go_enter Tryz.func231, Tryz.ntmps231
  go_wp2_with (go_at_call 234; refine HF.out.mono ?_; rintro e w' ⟨rfl, q, rfl⟩)
  go_ret
  exact ⟨rfl, _, rfl⟩
set_option maxHeartbeats 1000000 in
theorem add_good {T : Nat → Prop} {B room : Nat} {xs : List Int} (a : Int) (w : World) (h : BfIs T w B room xs) (hT : ∀ k, T k → k < w.heap.size) (hl : xs.length < room) : Calls Tryz.prog 231 #[.pointer (some ⟨B, 0, none⟩), .int .i64 a] w fun e w' => e = .returned (.bool true) ∧
    BfIs T w' B room (xs ++ [a]) ∧ Chg (fun k => k = B) w w' := by
  have HF := Lib.hid (full_any w h)
  have hd : decide (xs.length = room) = false := by simp; omega
  rw [hd] at HF
  have HA : Hid (∀ q, Calls Tryz.prog 267 #[.pointer (some ⟨B, 0, none⟩), .int .i64 a] (w.drewN q) fun e w' => e = .returned (.tuple #[]) ∧ BfIs T w' B room (xs ++ [a]) ∧ Chg (fun k => k = B) w w') := Lib.hid fun q => by
    obtain ⟨p, cap, hr⟩ := (h.later (below_drewN (Below.refl _ w) q)).row
    refine (add_any (x := a) _ hr hT (by have := h.r2; omega)).mono ?_
    rintro e w' ⟨rfl, p', cap', hr', hc', hj⟩
    exact ⟨rfl, ⟨h.r1, h.r2, by simp; omega, (hj 1 (by decide)).trans h.c1, p', cap', hr'⟩, (show Chg (fun k => k = B) w (w.drewN q) from (Chg.refl _ w).drewN q).trans hc' (fun _ e => .inl e)⟩
  clear h hT
  go_enter Tryz.func231, Tryz.ntmps231
  go_wp2_with (first
    | (go_at_call 234; refine HF.out.mono ?_; rintro e w' ⟨rfl, q, rfl⟩)
    | (go_at_call 267; refine (HA.out _).mono ?_; rintro e w' ⟨rfl, hb, hc⟩; have HB := Lib.hid hb; have HC := Lib.hid hc; clear hb hc))
  go_ret
  exact ⟨rfl, HB.out, HC.out⟩
theorem len_any {T : Nat → Prop} {B room : Nat} {xs : List Int} (w : World) (h : BfIs T w B room xs) : Calls Tryz.prog 235 #[.pointer (some ⟨B, 0, none⟩)] w fun e w' => e = .returned (.int .i64 xs.length) ∧ w = w' := by
  obtain ⟨p, cap, hr⟩ := h.row
  have HR := Lib.hid hr
  clear h hr
  go_enter Tryz.func235, Tryz.ntmps235
  go_wp2_with (go_at_call 270; refine (count_any w HR.out).mono ?_; rintro e w' ⟨rfl, rfl⟩)
  go_ret
  exact ⟨rfl, rfl⟩
set_option maxRecDepth 100000 in
theorem all_any {T : Nat → Prop} {B room : Nat} {xs : List Int} (w : World) (h : BfIs T w B room xs) : Calls Tryz.prog 64 #[.pointer (some ⟨B, 0, none⟩)] w fun e w' => ∃ p' cap', e = .returned (.slice p' xs.length cap') ∧ Rd w' p' xs ∧ Below w.heap.size w w' := by
  obtain ⟨p, cap, hr⟩ := h.row
  have hc := hr.c
  have HR := Lib.hid (clone_any p xs w (by have := hr.len; omega) hr.nc hr.rd)
  clear h hr
  go_enter Tryz.func64, Tryz.ntmps64
  go_wp2_with (first
    | go_enter Tryz.func89, Tryz.ntmps89
    | (go_at_call 63; refine HR.out.mono ?_; rintro e w' ⟨p', cap', rfl, ho, hb⟩))
  go_ret
  exact ⟨p', cap', rfl, Rd.of_owns ho, hb⟩
theorem next_empty {T : Nat → Prop} {B room : Nat} (w : World) (h : BfIs T w B room []) : Calls Tryz.prog 272 #[.pointer (some ⟨B, 0, none⟩)] w fun e w' => e = .returned (.tuple #[.int .i64 0, .bool false]) ∧ w = w' := by
  obtain ⟨p, cap, hr⟩ := h.row
  have HR := Lib.hid (next_none w hr)
  clear h hr
  go_enter Tryz.func272, Tryz.ntmps272
  go_wp2_with (go_at_call 291; refine HR.out.mono ?_; rintro e w' ⟨rfl, rfl⟩)
  go_ret2
  exact ⟨rfl, rfl⟩
theorem bnext_empty {T : Nat → Prop} {X : Nat} (w : World) (h : BxIs T w X []) : Calls Tryz.prog 304 #[.pointer (some ⟨X, 0, none⟩)] w fun e w' => e = .returned (.tuple #[.int .i64 0, .bool false]) ∧ w = w' := by
  obtain ⟨p, cap, hr⟩ := h
  have HR := Lib.hid (next_none w hr)
  clear hr
  go_enter Tryz.func304, Tryz.ntmps304
  go_wp2_with (go_at_call 291; refine HR.out.mono ?_; rintro e w' ⟨rfl, rfl⟩)
  go_ret2
  exact ⟨rfl, rfl⟩
theorem next_first {T : Nat → Prop} {B room : Nat} {x : Int} {xs : List Int} (w : World) (h : BfIs T w B room (x :: xs)) : Calls Tryz.prog 272 #[.pointer (some ⟨B, 0, none⟩)] w fun e w' => e = .returned (.tuple #[.int .i64 x, .bool true]) ∧ BfIs T w' B room xs ∧ Chg (fun k => k = B) w w' := by
  obtain ⟨p, cap, hr⟩ := h.row
  have HR : Hid (Calls Tryz.prog 291 #[.pointer (some ⟨B, 0, none⟩)] w fun e w' => e = .returned (.tuple #[.int .i64 x, .bool true]) ∧ BfIs T w' B room xs ∧ Chg (fun k => k = B) w w') := Lib.hid <| (next_some w hr).mono fun e w' ⟨he, p', cap', hw, hr'⟩ =>
    ⟨he, ⟨h.r1, h.r2, by have := h.len; simp at this; omega, by rw [hw]; exact (other (by simp)).trans h.c1, p', cap', hr'⟩, by rw [hw]; exact Chg.set (S := fun k => k = B) (Chg.refl _ w) (.inl rfl) _⟩
  clear h hr
  go_enter Tryz.func272, Tryz.ntmps272
  go_wp2_with (go_at_call 291; refine HR.out.mono ?_; rintro e w' ⟨rfl, hb, hc⟩; have HB := Lib.hid hb; have HC := Lib.hid hc; clear hb hc)
  go_ret2
  exact ⟨rfl, HB.out, HC.out⟩
theorem bnext_first {T : Nat → Prop} {X : Nat} {x : Int} {xs : List Int} (w : World) (h : BxIs T w X (x :: xs)) : Calls Tryz.prog 304 #[.pointer (some ⟨X, 0, none⟩)] w fun e w' => e = .returned (.tuple #[.int .i64 x, .bool true]) ∧ BxIs T w' X xs ∧ Chg (fun k => k = X) w w' := by
  obtain ⟨p, cap, hr⟩ := h
  have HR : Hid (Calls Tryz.prog 291 #[.pointer (some ⟨X, 0, none⟩)] w fun e w' => e = .returned (.tuple #[.int .i64 x, .bool true]) ∧ BxIs T w' X xs ∧ Chg (fun k => k = X) w w') := Lib.hid <| (next_some w hr).mono fun e w' ⟨he, p', cap', hw, hr'⟩ =>
    ⟨he, ⟨p', cap', hr'⟩, by rw [hw]; exact Chg.set (S := fun k => k = X) (Chg.refl _ w) (.inl rfl) _⟩
  clear hr
  go_enter Tryz.func304, Tryz.ntmps304
  go_wp2_with (go_at_call 291; refine HR.out.mono ?_; rintro e w' ⟨rfl, hb, hc⟩; have HB := Lib.hid hb; have HC := Lib.hid hc; clear hb hc)
  go_ret2
  exact ⟨rfl, HB.out, HC.out⟩
/-- What is given: all goes. -/
theorem give_all {T : Nat → Prop} {B cap : Nat} {p : Option Addr} {xs : List Int} {w : World} (hr : RwIs T w B cap p xs) : RwIs T (w.setCell ⟨B, 0, none⟩ (.slice none 0 0)) B 0 none [] :=
  hr.lay (ys := []) (by simp) (Rd.nil _) (fun _ => rfl) (by simp) (fun g hg => absurd hg (rowB_none g))
theorem clear_any {T : Nat → Prop} {B room : Nat} {xs : List Int} (w : World) (h : BfIs T w B room xs) : Calls Tryz.prog 179 #[.pointer (some ⟨B, 0, none⟩)] w fun e w' => e = .returned (.tuple #[]) ∧ BfIs T w' B room [] ∧ Chg (fun k => k = B) w w' := by
  obtain ⟨p, cap, hr⟩ := h.row
  have HR : Hid (Calls Tryz.prog 229 #[.pointer (some ⟨B, 0, none⟩)] w fun e w' => e = .returned (.slice p xs.length cap) ∧ BfIs T w' B room [] ∧ Chg (fun k => k = B) w w') := Lib.hid <| (give_any w hr).mono fun e w' ⟨he, hw⟩ =>
    ⟨he, ⟨h.r1, h.r2, by simp, by rw [hw]; exact (other (by simp)).trans h.c1, none, 0, by rw [hw]; exact give_all hr⟩, by rw [hw]; exact Chg.set (S := fun k => k = B) (Chg.refl _ w) (.inl rfl) _⟩
  clear h hr
  go_enter Tryz.func179, Tryz.ntmps179
  go_wp2_with (go_at_call 229; refine HR.out.mono ?_; rintro e w' ⟨rfl, hb, hc⟩; have HB := Lib.hid hb; have HC := Lib.hid hc; clear hb hc)
  exact bodyPost_end (results_none rfl _ _ _) rfl ⟨rfl, HB.out, HC.out⟩
theorem hand_some {T : Nat → Prop} {X B : Nat} {y : Int} {ys : List Int} (w : World) (h : BxIs T w X (y :: ys)) : Calls Tryz.prog 237 #[.pointer (some ⟨X, 0, none⟩), .pointer (some ⟨B, 0, none⟩)] w fun e w' => e = .returned (.bool false) ∧ w = w' := by
  obtain ⟨p, cap, hr⟩ := h
  have HR := Lib.hid (count_any w hr)
  clear hr
  have h0 : (0 : Int) < ((y :: ys).length : Nat) := by simp
  generalize (y :: ys).length = m at *
  go_enter Tryz.func237, Tryz.ntmps237
  go_wp2_with (go_at_call 270; refine HR.out.mono ?_; rintro e w' ⟨rfl, rfl⟩)
  go_ret
  exact ⟨rfl, rfl⟩
set_option maxHeartbeats 1000000 in
theorem hand_good {T : Nat → Prop} {X B room : Nat} {xs : List Int} (w : World) (h : BxIs T w X []) (hb : BfIs T w B room xs) (hne : X ≠ B) : Calls Tryz.prog 237 #[.pointer (some ⟨X, 0, none⟩), .pointer (some ⟨B, 0, none⟩)] w fun e w' => e = .returned (.bool true) ∧
    BxIs T w' X xs ∧ BfIs T w' B room [] ∧ Chg (fun k => k = B ∨ k = X) w w' := by
  obtain ⟨p, cap, hr⟩ := h
  obtain ⟨pb, capb, hrb⟩ := hb.row
  have HR : Hid (Calls Tryz.prog 270 #[.pointer (some ⟨X, 0, none⟩)] w fun e w' => e = .returned (.int .i64 0) ∧ w = w') := Lib.hid (count_any w hr)
  have HG := Lib.hid (give_any w hrb)
  have c1 : Chg (fun k => k = B) w (w.setCell ⟨B, 0, none⟩ (.slice none 0 0)) := Chg.set (S := fun k => k = B) (Chg.refl _ w) (.inl rfl) _
  have hX : RwIs T (w.setCell ⟨B, 0, none⟩ (.slice none 0 0)) X cap p [] := hr.chg c1 (fun k e => e ▸ hrb.tb) hne
  have hB : RwIs T (w.setCell ⟨B, 0, none⟩ (.slice none 0 0)) B 0 none [] := give_all hrb
  have cX := hX.c
  have fX := hX.f
  have c2 : Chg (fun k => k = X) (w.setCell ⟨B, 0, none⟩ (.slice none 0 0)) ((w.setCell ⟨B, 0, none⟩ (.slice none 0 0)).setCell ⟨X, 0, none⟩ (.slice pb xs.length capb)) := Chg.set (S := fun k => k = X) (Chg.refl _ _) (.inl rfl) _
  have hrd : Rd (w.setCell ⟨B, 0, none⟩ (.slice none 0 0)) pb xs := hrb.rd.chg c1 (fun g hg e => (hrb.ap g hg).1 (e ▸ hrb.tb))
  have FX : Hid (BxIs T ((w.setCell ⟨B, 0, none⟩ (.slice none 0 0)).setCell ⟨X, 0, none⟩ (.slice pb xs.length capb)) X xs) :=
    Lib.hid ⟨pb, capb, hX.lay hrb.len hrd hrb.nc hrb.le (fun g hg => ⟨(hrb.ap g hg).1, by rw [size_setCell]; exact (hrb.ap g hg).2⟩)⟩
  have hB1 : BfIs T (w.setCell ⟨B, 0, none⟩ (.slice none 0 0)) B room [] := ⟨hb.r1, hb.r2, by simp, (other (by simp)).trans hb.c1, none, 0, hB⟩
  have FB : Hid (BfIs T ((w.setCell ⟨B, 0, none⟩ (.slice none 0 0)).setCell ⟨X, 0, none⟩ (.slice pb xs.length capb)) B room []) :=
    Lib.hid (hB1.chg c2 (fun k e => e ▸ hr.tb) (fun e => hne e.symm))
  have FC : Hid (Chg (fun k => k = B ∨ k = X) w ((w.setCell ⟨B, 0, none⟩ (.slice none 0 0)).setCell ⟨X, 0, none⟩ (.slice pb xs.length capb))) :=
    Lib.hid ((c1.mono (T := fun k => k = B ∨ k = X) fun _ e => .inl e).trans c2 (fun _ e => .inl (.inr e)))
  clear hr hrb hb c1 c2 hX hB hrd hB1
  go_enter Tryz.func237, Tryz.ntmps237
  go_wp2_with (first
    | (go_at_call 270; refine HR.out.mono ?_; rintro e w' ⟨rfl, rfl⟩)
    | (go_at_call 229; refine HG.out.mono ?_; rintro e w' ⟨rfl, rfl⟩))
  go_ret
  exact ⟨rfl, FX.out, FB.out, FC.out⟩
end Go.Proofs.YthpgnlcmpoldfaaGreatDoor.Lg
