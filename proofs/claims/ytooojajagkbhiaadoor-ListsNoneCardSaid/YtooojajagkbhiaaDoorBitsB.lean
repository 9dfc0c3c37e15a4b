/-
  (*bits.Set).Put, of every set that there is, and of none: whether it changes the set; what the set has then.
-/
import Derived.Test.YtooojajagkbhiaaDoorBitsA
import Derived.Deep.RegionWith
namespace Go.Proofs.YtooojajagkbhiaaDoor.Bits
open Go.RowKit

theorem other {W : World} {a b : Addr} {v : Value} (h : a ≠ b) : (W.setCell a v).cell? b = W.cell? b := World.cell?_setCell_other (h := h) ..
theorem same {W : World} {a : Addr} {u v : Value} (h : W.cell? a = some u) : (W.setCell a v).cell? a = some v := World.cell?_setCell_same (h := h) ..
theorem only_drewN {a w : World} {row : Option Nat} (h : a.grownBy w row) (n : Nat) : a.grownBy (w.drewN n) row := ⟨h.os, h.tape, h.output, h.size, h.block⟩
theorem only_drew {a w : World} {row : Option Nat} (h : a.grownBy w row) : a.grownBy w.drew row := ⟨h.os, h.tape, h.output, h.size, h.block⟩
theorem only_setCell {a w : World} {g : Nat} (h : a.grownBy w (some g)) {p : Addr} (hp : p.block = g) (u : Value) : a.grownBy (w.setCell p u) (some g) :=
  ⟨h.os, h.tape, h.output, by simpa [World.setCell] using h.size, fun i hi hne => (Below.heap_setCell w p u i (by
    rintro rfl
    exact hne (by rw [hp]))).trans (h.block i hi hne)⟩
theorem size_setCell (w : World) (p : Addr) (u : Value) : (w.setCell p u).heap.size = w.heap.size := by simp [World.setCell]

theorem put_nil (n : Int) (x : Bool) (w : World) : Calls Tryd.prog 30 #[.pointer none, .int .i64 n, .bool x] w fun e w' => e = .returned (.bool false) ∧ w = w' := by
  go_enter Tryd.func30, Tryd.ntmps30
  go_wp2_with (go_at_call 51; refine (may_nil _ _).mono ?_; rintro e w' ⟨rfl, rfl⟩)
  go_ret
  exact ⟨rfl, rfl⟩
theorem put_out (B : Nat) (n size : Int) (x : Bool) (w : World) (hc : w.cell? ⟨B, 0, none⟩ = some (.int .i64 size)) (hm : mayB n size = false) :
    Calls Tryd.prog 30 #[.pointer (some ⟨B, 0, none⟩), .int .i64 n, .bool x] w fun e w' => e = .returned (.bool false) ∧ w = w' := by
  go_enter Tryd.func30, Tryd.ntmps30
  go_wp2_with (go_at_call 51; refine (may_out B n size _ hc hm).mono ?_; rintro e w' ⟨rfl, rfl⟩)
  go_ret
  exact ⟨rfl, rfl⟩
theorem put_same (B G size cap : Nat) (ws : List Nat) (n : Nat) (w : World) (hs : SetIs w B G size cap ws) (hn : n < size) :
    Calls Tryd.prog 30 #[.pointer (some ⟨B, 0, none⟩), .int .i64 n, .bool (hasB ws n)] w fun e w' => e = .returned (.bool false) ∧ ∃ k, w' = w.drewN k := by
  have hm : mayB n size = true := by simp [mayB, hn]
  have hc := hs.cs
  have HS := Lib.hid hs
  clear hs
  generalize hx : hasB ws n = x
  go_enter Tryd.func30, Tryd.ntmps30
  go_wp2_with (first
    | (go_at_call 51; refine (may_in B n size _ hc hm).mono ?_; rintro e w' ⟨rfl, rfl⟩)
    | (go_at_call 31; refine (has_in B G size cap ws n _ HS.out hn).mono ?_; rintro e w' ⟨rfl, k, rfl⟩))
  go_ret
  exact ⟨rfl, _, rfl⟩

theorem put_val (ws : List Nat) (n : Nat) (h : wd ws (n / 64) < 18446744073709551616) : bits BinOp.xor IntKind.u64 ((wd ws (n / 64) : Nat) : Int) (2 ^ (n % 64) : Int) = ((wd ws (n / 64) ^^^ 2 ^ (n % 64) : Nat) : Int) := by
  rw [show (2 ^ (n % 64) : Int) = ((2 ^ (n % 64) : Nat) : Int) by simp, u64_xor_nat _ _ h (pow_lt64 n)]

theorem SetIs.drewN {w : World} {B G size cap : Nat} {ws : List Nat} (h : SetIs w B G size cap ws) (k : Nat) : SetIs (w.drewN k) B G size cap ws := ⟨h.small, h.row, h.capn, h.cs, h.cw, h.at_, h.fz⟩
theorem SetIs.drew {w : World} {B G size cap : Nat} {ws : List Nat} (h : SetIs w B G size cap ws) : SetIs w.drew B G size cap ws := ⟨h.small, h.row, h.capn, h.cs, h.cw, h.at_, h.fz⟩
/-- One bit turned in memory. -/
theorem SetIs.put {w : World} {B G size cap : Nat} {ws : List Nat} (h : SetIs w B G size cap ws) (hBG : B ≠ G) {n : Nat} (hn : n < size) :
    SetIs (w.setCell ⟨G, n / 64, none⟩ (.int .u64 ((wd ws (n / 64) ^^^ 2 ^ (n % 64) : Nat) : Int))) B G size cap (putW ws n) := by
  have hl : (putW ws n).length = ws.length := by simp [putW]
  have hp := h.row.place hn
  refine ⟨h.small, h.row.put hn, by rw [hl]; exact h.capn, ?_, ?_, fun j hj => ?_, fun j hj => ?_⟩
  · rw [other (a := ⟨G, n / 64, none⟩) (b := ⟨B, 0, none⟩) (fun e => hBG (congrArg Addr.block e).symm)]; exact h.cs
  · rw [other (a := ⟨G, n / 64, none⟩) (b := ⟨B, 1, none⟩) (fun e => hBG (congrArg Addr.block e).symm), hl]; exact h.cw
  · rw [hl] at hj
    unfold putW
    rw [wd_set]
    by_cases e : n / 64 = j
    · subst e
      rw [if_pos ⟨rfl, hj⟩]
      exact same (h.at_ _ hj)
    · rw [if_neg (fun x => e x.1), other (a := ⟨G, n / 64, none⟩) (b := ⟨G, j, none⟩) (fun x => e (congrArg Addr.off x))]
      exact h.at_ j hj
  · rw [hl] at hj
    rw [World.frozen?_setCell]
    exact h.fz j hj

set_option maxHeartbeats 2000000 in
theorem put_turn (B G size cap : Nat) (ws : List Nat) (n : Nat) (x : Bool) (w : World) (hs : SetIs w B G size cap ws) (hBG : B ≠ G) (hn : n < size) (hx : x = !hasB ws n) :
    Calls Tryd.prog 30 #[.pointer (some ⟨B, 0, none⟩), .int .i64 n, .bool x] w fun e w' => e = .returned (.bool true) ∧ SetIs w' B G size cap (putW ws n) ∧ w.grownBy w' (some G) ∧ w'.heap.size = w.heap.size := by
  have hm : mayB n size = true := by simp [mayB, hn]
  have hc := hs.cs
  have hp := hs.row.place hn
  have hsm := hs.small
  have hcap := hs.capn
  have hcw := hs.cw
  have hat := hs.at_ _ hp
  have hfz := hs.fz _ hp
  have i1 : (0 : Int) ≤ ((n / 64 : Nat) : Int) := Int.natCast_nonneg _
  have i2 : ((n / 64 : Nat) : Int) < (ws.length : Int) := by omega
  have i3 : (0 : Int) ≤ (n : Int) / 64 := by omega
  have i4 : (n : Int) / 64 < (ws.length : Int) := by omega
  have hv := put_val ws n (hs.row.lt _)
  have hxe : (hasB ws n == x) = false := by rw [hx]; cases hasB ws n <;> rfl
  have HS := Lib.hid hs
  clear hs hx
  go_enter Tryd.func30, Tryd.ntmps30
  go_wp2_with (first
    | (go_at_call 51; refine (may_in B n size _ hc hm).mono ?_; rintro e w' ⟨rfl, rfl⟩)
    | (go_at_call 31; refine (has_in B G size cap ws n _ HS.out hn).mono ?_; rintro e w' ⟨rfl, k, rfl⟩))
  have hq : IntKind.i64.wrap ((n : Int) / 64) = (n : Int) / 64 := IntWalk.i64_in _ (by omega)
  have hq2 : ((n : Int) / 64).toNat = n / 64 := by omega
  have hGB : G ≠ B := fun e => hBG e.symm
  go_region_with (go_at_call 52; refine (bit_any _ (Int.natCast_nonneg _) _).mono ?_; rintro e w' ⟨rfl, rfl⟩)
  all_goals go_wp2
  all_goals go_ret
  all_goals exact ⟨rfl, (HS.out.drewN _).put hBG hn, only_setCell (only_drewN (World.grownBy.refl _ _) _) rfl _, size_setCell _ _ _⟩

/-- Does Put change a set? -/
def putR (size : Nat) (ws : List Nat) (n : Int) (x : Bool) : Bool := mayB n size && (hasB ws n.toNat != x)
/-- What the set has then. -/
def putS (size : Nat) (ws : List Nat) (n : Int) (x : Bool) : List Nat := if putR size ws n x = true then putW ws n.toNat else ws
theorem put_any (B G size cap : Nat) (ws : List Nat) (n : Int) (x : Bool) (w : World) (hs : SetIs w B G size cap ws) (hBG : B ≠ G) :
    Calls Tryd.prog 30 #[.pointer (some ⟨B, 0, none⟩), .int .i64 n, .bool x] w fun e w' => e = .returned (.bool (putR size ws n x)) ∧ SetIs w' B G size cap (putS size ws n x) ∧ w.grownBy w' (some G) ∧ w'.heap.size = w.heap.size := by
  cases hm : mayB n size with
  | false =>
    have e1 : putR size ws n x = false := by simp [putR, hm]
    have e2 : putS size ws n x = ws := by simp [putS, e1]
    rw [e1, e2]
    exact (put_out B n size x w hs.cs hm).mono fun e w' ⟨he, hw⟩ => by subst hw; exact ⟨he, hs, World.grownBy.refl _ _, rfl⟩
  | true =>
    have h := hm
    unfold mayB at h
    rw [Bool.and_eq_true, decide_eq_true_eq, decide_eq_true_eq] at h
    obtain ⟨k, rfl⟩ := Int.eq_ofNat_of_zero_le h.1
    by_cases hx : x = hasB ws k
    · have e1 : putR size ws k x = false := by simp [putR, hx]
      have e2 : putS size ws k x = ws := by simp [putS, e1]
      rw [e1, e2, hx]
      exact (put_same B G size cap ws k w hs (by omega)).mono fun e w' ⟨he, j, hw⟩ => by subst hw; exact ⟨he, hs.drewN j, only_drewN (World.grownBy.refl _ _) _, rfl⟩
    · have hx2 : x = !hasB ws k := by cases x <;> cases h2 : hasB ws k <;> simp_all
      have e1 : putR size ws k x = true := by simp [putR, hm, hx2]
      have e2 : putS size ws k x = putW ws k := by simp [putS, e1]
      rw [e1, e2]
      exact put_turn B G size cap ws k x w hs hBG (by omega) hx2
end Go.Proofs.YtooojajagkbhiaaDoor.Bits
