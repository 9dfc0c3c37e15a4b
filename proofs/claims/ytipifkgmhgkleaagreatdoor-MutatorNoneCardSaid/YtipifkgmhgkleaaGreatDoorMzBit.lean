/-
  Base texts, one behind the other: BitsMath BitsA BitsB.
-/
import Derived.Test.YtipifkgmhgkleaaGreatDoorRows
import Derived.WalkKit
import Derived.WalkSpells
import Derived.WalkLawsBesides
import Derived.Deep.QuietTactic
import Derived.BigQuiet
import Derived.Deep.RegionHeld3
import Derived.Lib.Hide
import Derived.Laws.BitsAllLaws
import Derived.Deep.RegionWith
namespace Go.Proofs.YtipifkgmhgkleaaGreatDoor
/-- A word of a row; 0 beyond its end. -/
def wd (ws : List Nat) (j : Nat) : Nat := ws.getD j 0
/-- Has a row a number? -/
def hasB (ws : List Nat) (n : Nat) : Bool := (wd ws (n / 64)).testBit (n % 64)
/-- A row with one number's bit turned. -/
def putW (ws : List Nat) (n : Nat) : List Nat := ws.set (n / 64) (wd ws (n / 64) ^^^ 2 ^ (n % 64))
/-- A row that stands for a set of numbers below a size. -/
structure SetW (size : Nat) (ws : List Nat) : Prop where
  len : ws.length = (size + 63) / 64
  lt : ∀ j, wd ws j < 18446744073709551616
  top : ∀ n, size ≤ n → hasB ws n = false

theorem wd_set (ws : List Nat) (i j x : Nat) : wd (ws.set i x) j = if i = j ∧ i < ws.length then x else wd ws j := by
  unfold wd
  simp only [List.getD_eq_getElem?_getD, List.getElem?_set]
  by_cases h : i = j
  · subst h
    by_cases h2 : i < ws.length
    · simp [h2]
    · simp [h2]
  · simp [h]
theorem pow_lt64 (n : Nat) : 2 ^ (n % 64) < 18446744073709551616 := by
  have h : n % 64 < 64 := Nat.mod_lt _ (by decide)
  exact Nat.pow_lt_pow_right (a := 2) (by decide) h
theorem xor_lt64 {a b : Nat} (ha : a < 18446744073709551616) (hb : b < 18446744073709551616) : a ^^^ b < 18446744073709551616 :=
  Nat.xor_lt_two_pow (n := 64) ha hb
theorem and_pow_ne (x n : Nat) : (x &&& 2 ^ n ≠ 0) ↔ x.testBit n = true := by
  constructor
  · intro h
    cases hb : x.testBit n with
    | true => rfl
    | false =>
      refine absurd (Nat.eq_of_testBit_eq fun i => ?_) h
      rw [Nat.testBit_and, Nat.testBit_two_pow, Nat.zero_testBit]
      by_cases e : n = i
      · subst e; simp [hb]
      · simp [e]
  · intro h e
    have : (x &&& 2 ^ n).testBit n = true := by rw [Nat.testBit_and, Nat.testBit_two_pow]; simp [h]
    rw [e, Nat.zero_testBit] at this
    exact Bool.noConfusion this
namespace SetW
variable {size : Nat} {ws : List Nat}
theorem place (h : SetW size ws) {n : Nat} (hn : n < size) : n / 64 < ws.length := by rw [h.len]; omega
theorem has_put (h : SetW size ws) {n : Nat} (hn : n < size) (m : Nat) : hasB (putW ws n) m = if m = n then !hasB ws n else hasB ws m := by
  have hp := h.place hn
  unfold hasB putW
  rw [wd_set]
  by_cases e : n / 64 = m / 64
  · rw [if_pos ⟨e, hp⟩, Nat.testBit_xor, Nat.testBit_two_pow, e]
    by_cases e2 : m = n
    · subst e2; simp
    · have : n % 64 ≠ m % 64 := by omega
      simp [this, e2]
  · rw [if_neg (fun x => e x.1)]
    have : m ≠ n := fun x => e (by rw [x])
    simp [this]
theorem put (h : SetW size ws) {n : Nat} (hn : n < size) : SetW size (putW ws n) := by
  refine ⟨by simp [putW, h.len], fun j => ?_, fun m hm => ?_⟩
  · unfold putW
    rw [wd_set]
    split
    · exact xor_lt64 (h.lt _) (pow_lt64 n)
    · exact h.lt j
  · rw [h.has_put hn, if_neg (by omega)]
    exact h.top m hm
end SetW
theorem setW_zero (size : Nat) : SetW size (List.replicate ((size + 63) / 64) 0) := by
  have hw : ∀ j, wd (List.replicate ((size + 63) / 64) 0) j = 0 := fun j => by
    unfold wd
    simp only [List.getD_eq_getElem?_getD, List.getElem?_replicate]
    split <;> rfl
  exact ⟨by simp, fun j => by rw [hw]; decide, fun n _ => by unfold hasB; rw [hw]; simp⟩
theorem hasB_zero (size n : Nat) : hasB (List.replicate ((size + 63) / 64) 0) n = false := by
  have hw : ∀ j, wd (List.replicate ((size + 63) / 64) 0) j = 0 := fun j => by
    unfold wd
    simp only [List.getD_eq_getElem?_getD, List.getElem?_replicate]
    split <;> rfl
  unfold hasB; rw [hw]; simp
end Go.Proofs.YtipifkgmhgkleaaGreatDoor

namespace Go.Proofs.YtipifkgmhgkleaaGreatDoor.Bits
open Go.RowKit

theorem ret_int {k : IntKind} {a b : Int} (h : a = b) : Ending.returned (.int k a) = .returned (.int k b) := by rw [h]
theorem ret_bool {a b : Bool} (h : a = b) : Ending.returned (.bool a) = .returned (.bool b) := by rw [h]

/-- A set in memory: its size, its words. -/
structure SetIs (w : World) (B G size cap : Nat) (ws : List Nat) : Prop where
  small : size ≤ 2097152
  row : SetW size ws
  capn : ws.length ≤ cap
  cs : w.cell? ⟨B, 0, none⟩ = some (.int .i64 size)
  cw : w.cell? ⟨B, 1, none⟩ = some (.slice (some ⟨G, 0, none⟩) ws.length cap)
  at_ : ∀ j, j < ws.length → w.cell? ⟨G, j, none⟩ = some (.int .u64 (wd ws j))
  fz : ∀ j, j < ws.length → w.frozen? ⟨G, j, none⟩ = false

set_option maxHeartbeats 400000 in
theorem size_any (B : Nat) (n : Int) (w : World) (h : w.cell? ⟨B, 0, none⟩ = some (.int .i64 n)) : Calls Tryz.prog 327 #[.pointer (some ⟨B, 0, none⟩)] w fun e w' => e = .returned (.int .i64 n) ∧ w = w' := by
  go_enter Tryz.func327, Tryz.ntmps327
  go_wp2
  go_ret
  exact ⟨rfl, rfl⟩

/-- May a number be in a set of a size? -/
def mayB (n : Int) (size : Int) : Bool := decide (0 ≤ n) && decide (n < size)
set_option maxHeartbeats 400000 in
theorem may_any (B : Nat) (n size : Int) (w : World) (hc : w.cell? ⟨B, 0, none⟩ = some (.int .i64 size)) : Calls Tryz.prog 304 #[.pointer (some ⟨B, 0, none⟩), .int .i64 n] w fun e w' => e = .returned (.bool (mayB n size)) ∧ w = w' := by
  by_cases h : 0 ≤ n
  all_goals
    go_enter Tryz.func304, Tryz.ntmps304
    go_wp2_with (go_at_call 327; refine (size_any B size _ hc).mono ?_; rintro e w' ⟨rfl, rfl⟩)
    go_ret
    exact ⟨ret_bool (by first | (simp [mayB, h]; done) | (simp [mayB]; omega)), rfl⟩

theorem may_out (B : Nat) (n size : Int) (w : World) (hc : w.cell? ⟨B, 0, none⟩ = some (.int .i64 size)) (hm : mayB n size = false) : Calls Tryz.prog 304 #[.pointer (some ⟨B, 0, none⟩), .int .i64 n] w fun e w' => e = .returned (.bool false) ∧ w = w' := by
  have h := may_any B n size w hc
  rw [hm] at h
  exact h
theorem may_in (B : Nat) (n size : Int) (w : World) (hc : w.cell? ⟨B, 0, none⟩ = some (.int .i64 size)) (hm : mayB n size = true) : Calls Tryz.prog 304 #[.pointer (some ⟨B, 0, none⟩), .int .i64 n] w fun e w' => e = .returned (.bool true) ∧ w = w' := by
  have h := may_any B n size w hc
  rw [hm] at h
  exact h

theorem bit_val (n : Int) (h : 0 ≤ n) : IntKind.u64.wrap (2 ^ (n % 64).toNat) = ((2 ^ (n.toNat % 64) : Nat) : Int) := by
  obtain ⟨k, rfl⟩ := Int.eq_ofNat_of_zero_le h
  have e : ((k : Int) % 64).toNat = k % 64 := by omega
  rw [e, Int.toNat_natCast, IntKind.wrap_u64]
  have hp := pow_lt64 k
  have e2 : ((2 ^ (k % 64) : Nat) : Int) = 2 ^ (k % 64) := by simp
  rw [← e2]
  clear e2
  generalize 2 ^ (k % 64) = x at *
  omega

theorem quiet_left {P : Program} {f : FuncId} {args : Array Value} {w : World} {n : Nat} {v : Value}
    (h : Calls P f args (w.drewN n) fun e w' => e = .returned v ∧ w.drewN n = w') : Calls P f args (w.drewN n) fun e w'' => e = .returned v ∧ ∃ m, w'' = w.drewN m :=
  h.mono fun _ _ ⟨he, hm⟩ => ⟨he, n, hm.symm⟩

set_option maxHeartbeats 400000 in
theorem bit_any (n : Int) (h : 0 ≤ n) (w : World) : Calls Tryz.prog 305 #[.int .i64 n] w fun e w' => e = .returned (.int .u64 ((2 ^ (n.toNat % 64) : Nat) : Int)) ∧ w = w' := by
  go_enter Tryz.func305, Tryz.ntmps305
  go_wp2
  go_ret
  exact ⟨ret_int (bit_val n h), rfl⟩

theorem has_val (ws : List Nat) (n : Nat) (h : wd ws (n / 64) < 18446744073709551616) : ((bits BinOp.and IntKind.u64 ((wd ws (n / 64) : Nat) : Int) (2 ^ (n % 64) : Int)) != 0) = hasB ws n := by
  rw [show (2 ^ (n % 64) : Int) = ((2 ^ (n % 64) : Nat) : Int) by simp, u64_and_nat _ _ h (pow_lt64 n)]
  unfold hasB
  have hx := and_pow_ne (wd ws (n / 64)) (n % 64)
  rw [Bool.eq_iff_iff, bne_iff_ne, ← hx]
  omega

theorem has_out (B : Nat) (n size : Int) (w : World) (hc : w.cell? ⟨B, 0, none⟩ = some (.int .i64 size)) (hm : mayB n size = false) :
    Calls Tryz.prog 276 #[.pointer (some ⟨B, 0, none⟩), .int .i64 n] w fun e w' => e = .returned (.bool false) ∧ ∃ k, w' = w.drewN k := by
  have hc' : ∀ k, (w.drewN k).cell? ⟨B, 0, none⟩ = some (.int .i64 size) := fun _ => hc
  go_enter Tryz.func276, Tryz.ntmps276
  go_wp2
  go_quiet ((go_at_call 304; exact quiet_left (may_out B n size _ (hc' _) hm)))
  go_wp2
  go_ret
  exact ⟨rfl, _, rfl⟩

set_option maxHeartbeats 1000000 in
theorem has_in (B G size cap : Nat) (ws : List Nat) (n : Nat) (w : World) (hs : SetIs w B G size cap ws) (hn : n < size) :
    Calls Tryz.prog 276 #[.pointer (some ⟨B, 0, none⟩), .int .i64 n] w fun e w' => e = .returned (.bool (hasB ws n)) ∧ ∃ k, w' = w.drewN k := by
  have hp := hs.row.place hn
  have hsm := hs.small
  have hcap := hs.capn
  have hm : mayB n size = true := by simp [mayB, hn]
  have hc := hs.cs
  have hcw := hs.cw
  have hat := hs.at_ _ hp
  have hc' : ∀ k, (w.drewN k).cell? ⟨B, 0, none⟩ = some (.int .i64 size) := fun _ => hc
  have hfin := Lib.hid (has_val ws n (hs.row.lt _))
  have i1 : (0 : Int) ≤ ((n / 64 : Nat) : Int) := Int.natCast_nonneg _
  have i2 : ((n / 64 : Nat) : Int) < (ws.length : Int) := by omega
  clear hs
  go_enter Tryz.func276, Tryz.ntmps276
  go_wp2
  go_quiet ((first | (go_at_call 304; exact quiet_left (may_in B n size _ (hc' _) hm)) | (go_at_call 305; exact quiet_left (bit_any _ (Int.natCast_nonneg _) _))))
  go_wp2
  go_ret
  exact ⟨ret_bool hfin.out, _, rfl⟩

/-- .. whatever number is asked. -/
theorem has_any (B G size cap : Nat) (ws : List Nat) (n : Int) (w : World) (hs : SetIs w B G size cap ws) :
    Calls Tryz.prog 276 #[.pointer (some ⟨B, 0, none⟩), .int .i64 n] w fun e w' => e = .returned (.bool (mayB n size && hasB ws n.toNat)) ∧ ∃ k, w' = w.drewN k := by
  cases hm : mayB n size with
  | false => exact has_out B n size w hs.cs hm
  | true =>
    have h := hm
    unfold mayB at h
    rw [Bool.and_eq_true, decide_eq_true_eq, decide_eq_true_eq] at h
    obtain ⟨k, rfl⟩ := Int.eq_ofNat_of_zero_le h.1
    exact has_in B G size cap ws k w hs (by omega)

theorem new_bad (n : Int) (w : World) (h : n < 0 ∨ 2097152 < n) : Calls Tryz.prog 81 #[.int .i64 n] w fun e w' => e = .returned (.tuple #[.pointer none, .int .i64 4]) ∧ w = w' := by
  rcases h with h | h
  · go_enter Tryz.func81, Tryz.ntmps81
    go_wp2
    go_ret2
    exact ⟨rfl, rfl⟩
  · have h1 : ¬ n < 0 := by omega
    go_enter Tryz.func81, Tryz.ntmps81
    go_wp2
    go_ret2
    exact ⟨rfl, rfl⟩

theorem info64 : (Tryz.prog.info? 201).map (fun i => (i.zero, i.size, i.bytes)) = some (some (.int .u64 0), 1, 8) := by kernel_rfl

/-- A new row of words, all 0. -/
def zeroCells (nw : Nat) : Array Value := madeCells #[.int .u64 0] nw
theorem zeroCells_at (nw j : Nat) (h : j < nw) : (zeroCells nw)[j]? = some (.int .u64 0) := by
  unfold zeroCells
  have := toList_madeCells_one (.int .u64 0) nw
  rw [← Array.getElem?_toList, this, List.getElem?_replicate]
  simp [h]
theorem make_words (nw : Nat) (h : nw ≤ 2097152) (W : World) :
    (Instr.makeSlice 205 (.int .i64 (nw : Int)) (.int .i64 (nw : Int))).run Tryz.prog W = .ok (.slice (some ⟨W.heap.size, 0, none⟩) nw nw) (W.alloc (.cells (zeroCells nw) 201)) := by
  obtain ⟨i, hi, hz, hs, hb⟩ : ∃ i, Tryz.prog.info? 201 = some i ∧ i.zero = some (.int .u64 0) ∧ i.size = 1 ∧ i.bytes = 8 := by
    have := info64
    cases h : Tryz.prog.info? 201 with
    | none => rw [h] at this; cases this
    | some i =>
      rw [h] at this
      simp only [Option.map_some, Option.some.injEq, Prod.mk.injEq] at this
      exact ⟨i, rfl, this.1, this.2.1, this.2.2⟩
  have hr := run_make (P := Tryz.prog) W 205 201 i (.int .u64 0) Tryz.underlying205 hi hz .i64 .i64 nw nw (by omega) (by omega) (by rw [hb]; omega) (by omega)
  simp only [Int.toNat_natCast, hs, Nat.mul_one] at hr
  exact hr

set_option maxHeartbeats 1000000 in
theorem new_good (n : Nat) (w : World) (h : n ≤ 2097152) : Calls Tryz.prog 81 #[.int .i64 n] w fun e w' => ∃ B G, e = .returned (.tuple #[.pointer (some ⟨B, 0, none⟩), .int .i64 0]) ∧
    SetIs w' B G n ((n + 63) / 64) (List.replicate ((n + 63) / 64) 0) ∧ w.heap.size ≤ B ∧ w.heap.size ≤ G ∧ B < w'.heap.size ∧ G < w'.heap.size ∧ B ≠ G ∧ Below w.heap.size w w' := by
  have hsz := setW_zero n
  obtain ⟨nw, hnw⟩ : ∃ nw, (n + 63) / 64 = nw := ⟨_, rfl⟩
  rw [hnw] at hsz ⊢
  have hq : ((n : Int) + 64 - 1) / 64 = (nw : Int) := by omega
  have hmk := make_words nw (by omega)
  have hat := zeroCells_at nw
  clear hnw
  have HF : ∀ W : World, W = (w.alloc (.cells (zeroCells nw) 201)).alloc (.cells #[.int .i64 n, .slice (some ⟨w.heap.size, 0, none⟩) nw nw] 213) →
      SetIs W (w.heap.size + 1) w.heap.size n nw (List.replicate nw 0) := fun W hW => by
    subst hW
    refine ⟨h, hsz, by simp, by simp, by simp, fun j hj => ?_, fun j hj => by simp⟩
    have hj' : j < nw := by simpa using hj
    have hw : wd (List.replicate nw 0) j = 0 := by simp [wd, List.getD_eq_getElem?_getD, List.getElem?_replicate]; split <;> rfl
    rw [hw]
    simp [hat j hj']
  have HF' := Lib.hid HF
  clear hat hsz HF
  go_enter Tryz.func81, Tryz.ntmps81
  go_wp2
  go_ret2
  exact ⟨w.heap.size + 1, w.heap.size, rfl, HF'.out _ rfl, by omega, by omega, by simp, by simp; omega, by omega, ((Below.refl _ _).alloc (Nat.le_refl _) _).alloc (by simp) _⟩
end Go.Proofs.YtipifkgmhgkleaaGreatDoor.Bits

namespace Go.Proofs.YtipifkgmhgkleaaGreatDoor.Bits
open Go.RowKit

theorem other {W : World} {a b : Addr} {v : Value} (h : a ≠ b) : (W.setCell a v).cell? b = W.cell? b := World.cell?_setCell_other (h := h) ..
theorem same {W : World} {a : Addr} {u v : Value} (h : W.cell? a = some u) : (W.setCell a v).cell? a = some v := World.cell?_setCell_same (h := h) ..
theorem only_drewN {a w : World} {row : Option Nat} (h : a.grownBy w row) (n : Nat) : a.grownBy (w.drewN n) row := ⟨h.os, h.tape, h.output, h.size, h.block⟩
theorem only_setCell {a w : World} {g : Nat} (h : a.grownBy w (some g)) {p : Addr} (hp : p.block = g) (u : Value) : a.grownBy (w.setCell p u) (some g) :=
  ⟨h.os, h.tape, h.output, by simpa [World.setCell] using h.size, fun i hi hne => (Below.heap_setCell w p u i (by
    rintro rfl
    exact hne (by rw [hp]))).trans (h.block i hi hne)⟩
theorem size_setCell (w : World) (p : Addr) (u : Value) : (w.setCell p u).heap.size = w.heap.size := by simp [World.setCell]

theorem put_out (B : Nat) (n size : Int) (x : Bool) (w : World) (hc : w.cell? ⟨B, 0, none⟩ = some (.int .i64 size)) (hm : mayB n size = false) :
    Calls Tryz.prog 309 #[.pointer (some ⟨B, 0, none⟩), .int .i64 n, .bool x] w fun e w' => e = .returned (.bool false) ∧ w = w' := by
  go_enter Tryz.func309, Tryz.ntmps309
  go_wp2_with (go_at_call 304; refine (may_out B n size _ hc hm).mono ?_; rintro e w' ⟨rfl, rfl⟩)
  go_ret
  exact ⟨rfl, rfl⟩
theorem put_same (B G size cap : Nat) (ws : List Nat) (n : Nat) (w : World) (hs : SetIs w B G size cap ws) (hn : n < size) :
    Calls Tryz.prog 309 #[.pointer (some ⟨B, 0, none⟩), .int .i64 n, .bool (hasB ws n)] w fun e w' => e = .returned (.bool false) ∧ ∃ k, w' = w.drewN k := by
  have hm : mayB n size = true := by simp [mayB, hn]
  have hc := hs.cs
  have HS := Lib.hid hs
  clear hs
  generalize hx : hasB ws n = x
  go_enter Tryz.func309, Tryz.ntmps309
  go_wp2_with (first
    | (go_at_call 304; refine (may_in B n size _ hc hm).mono ?_; rintro e w' ⟨rfl, rfl⟩)
    | (go_at_call 276; refine (has_in B G size cap ws n _ HS.out hn).mono ?_; rintro e w' ⟨rfl, k, rfl⟩))
  go_ret
  exact ⟨rfl, _, rfl⟩

theorem put_val (ws : List Nat) (n : Nat) (h : wd ws (n / 64) < 18446744073709551616) : bits BinOp.xor IntKind.u64 ((wd ws (n / 64) : Nat) : Int) (2 ^ (n % 64) : Int) = ((wd ws (n / 64) ^^^ 2 ^ (n % 64) : Nat) : Int) := by
  rw [show (2 ^ (n % 64) : Int) = ((2 ^ (n % 64) : Nat) : Int) by simp, u64_xor_nat _ _ h (pow_lt64 n)]

theorem SetIs.drewN {w : World} {B G size cap : Nat} {ws : List Nat} (h : SetIs w B G size cap ws) (k : Nat) : SetIs (w.drewN k) B G size cap ws := ⟨h.small, h.row, h.capn, h.cs, h.cw, h.at_, h.fz⟩
theorem SetIs.drew {w : World} {B G size cap : Nat} {ws : List Nat} (h : SetIs w B G size cap ws) : SetIs w.drew B G size cap ws := ⟨h.small, h.row, h.capn, h.cs, h.cw, h.at_, h.fz⟩
/-- One bit turned in memory. -/
theorem SetIs.put {w : World} {B G size cap : Nat} {ws : List Nat} (h : SetIs w B G size cap ws) (hBG : B ≠ G) {n : Nat} (hn : n < size) :
    SetIs (w.setCell ⟨G, n / 64, none⟩ (.int .u64 ((wd ws (n / 64) ^^^ 2 ^ (n % 64) : Nat) : Int))) B G size cap (putW ws n) := by
  have hl : (putW ws n).length = ws.length := by simp [putW]
  have hp := h.row.place hn
  refine ⟨h.small, h.row.put hn, by rw [hl]; exact h.capn, ?_, ?_, fun j hj => ?_, fun j hj => ?_⟩
  · rw [other (a := ⟨G, n / 64, none⟩) (b := ⟨B, 0, none⟩) (fun e => hBG (congrArg Addr.block e).symm)]; exact h.cs
  · rw [other (a := ⟨G, n / 64, none⟩) (b := ⟨B, 1, none⟩) (fun e => hBG (congrArg Addr.block e).symm), hl]; exact h.cw
  · rw [hl] at hj
    unfold putW
    rw [wd_set]
    by_cases e : n / 64 = j
    · subst e
      rw [if_pos ⟨rfl, hj⟩]
      exact same (h.at_ _ hj)
    · rw [if_neg (fun x => e x.1), other (a := ⟨G, n / 64, none⟩) (b := ⟨G, j, none⟩) (fun x => e (congrArg Addr.off x))]
      exact h.at_ j hj
  · rw [hl] at hj
    rw [World.frozen?_setCell]
    exact h.fz j hj

set_option maxHeartbeats 2000000 in
theorem put_turn (B G size cap : Nat) (ws : List Nat) (n : Nat) (x : Bool) (w : World) (hs : SetIs w B G size cap ws) (hBG : B ≠ G) (hn : n < size) (hx : x = !hasB ws n) :
    Calls Tryz.prog 309 #[.pointer (some ⟨B, 0, none⟩), .int .i64 n, .bool x] w fun e w' => e = .returned (.bool true) ∧ SetIs w' B G size cap (putW ws n) ∧ w.grownBy w' (some G) ∧ w'.heap.size = w.heap.size := by
  have hm : mayB n size = true := by simp [mayB, hn]
  have hc := hs.cs
  have hp := hs.row.place hn
  have hsm := hs.small
  have hcap := hs.capn
  have hcw := hs.cw
  have hat := hs.at_ _ hp
  have hfz := hs.fz _ hp
  have i1 : (0 : Int) ≤ ((n / 64 : Nat) : Int) := Int.natCast_nonneg _
  have i2 : ((n / 64 : Nat) : Int) < (ws.length : Int) := by omega
  have i3 : (0 : Int) ≤ (n : Int) / 64 := by omega
  have i4 : (n : Int) / 64 < (ws.length : Int) := by omega
  have hv := put_val ws n (hs.row.lt _)
  have hxe : (hasB ws n == x) = false := by rw [hx]; cases hasB ws n <;> rfl
  have HS := Lib.hid hs
  clear hs hx
  go_enter Tryz.func309, Tryz.ntmps309
  go_wp2_with (first
    | (go_at_call 304; refine (may_in B n size _ hc hm).mono ?_; rintro e w' ⟨rfl, rfl⟩)
    | (go_at_call 276; refine (has_in B G size cap ws n _ HS.out hn).mono ?_; rintro e w' ⟨rfl, k, rfl⟩))
  have hq : IntKind.i64.wrap ((n : Int) / 64) = (n : Int) / 64 := IntWalk.i64_in _ (by omega)
  have hq2 : ((n : Int) / 64).toNat = n / 64 := by omega
  have hGB : G ≠ B := fun e => hBG e.symm
  go_region_with (go_at_call 305; refine (bit_any _ (Int.natCast_nonneg _) _).mono ?_; rintro e w' ⟨rfl, rfl⟩)
  all_goals go_wp2
  all_goals go_ret
  all_goals exact ⟨rfl, (HS.out.drewN _).put hBG hn, only_setCell (only_drewN (World.grownBy.refl _ _) _) rfl _, size_setCell _ _ _⟩

/-- Does Put change a set? -/
def putR (size : Nat) (ws : List Nat) (n : Int) (x : Bool) : Bool := mayB n size && (hasB ws n.toNat != x)
/-- What the set has then. -/
def putS (size : Nat) (ws : List Nat) (n : Int) (x : Bool) : List Nat := if putR size ws n x = true then putW ws n.toNat else ws
theorem put_any (B G size cap : Nat) (ws : List Nat) (n : Int) (x : Bool) (w : World) (hs : SetIs w B G size cap ws) (hBG : B ≠ G) :
    Calls Tryz.prog 309 #[.pointer (some ⟨B, 0, none⟩), .int .i64 n, .bool x] w fun e w' => e = .returned (.bool (putR size ws n x)) ∧ SetIs w' B G size cap (putS size ws n x) ∧ w.grownBy w' (some G) ∧ w'.heap.size = w.heap.size := by
  cases hm : mayB n size with
  | false =>
    have e1 : putR size ws n x = false := by simp [putR, hm]
    have e2 : putS size ws n x = ws := by simp [putS, e1]
    rw [e1, e2]
    exact (put_out B n size x w hs.cs hm).mono fun e w' ⟨he, hw⟩ => by subst hw; exact ⟨he, hs, World.grownBy.refl _ _, rfl⟩
  | true =>
    have h := hm
    unfold mayB at h
    rw [Bool.and_eq_true, decide_eq_true_eq, decide_eq_true_eq] at h
    obtain ⟨k, rfl⟩ := Int.eq_ofNat_of_zero_le h.1
    by_cases hx : x = hasB ws k
    · have e1 : putR size ws k x = false := by simp [putR, hx]
      have e2 : putS size ws k x = ws := by simp [putS, e1]
      rw [e1, e2, hx]
      exact (put_same B G size cap ws k w hs (by omega)).mono fun e w' ⟨he, j, hw⟩ => by subst hw; exact ⟨he, hs.drewN j, only_drewN (World.grownBy.refl _ _) _, rfl⟩
    · have hx2 : x = !hasB ws k := by cases x <;> cases h2 : hasB ws k <;> simp_all
      have e1 : putR size ws k x = true := by simp [putR, hm, hx2]
      have e2 : putS size ws k x = putW ws k := by simp [putS, e1]
      rw [e1, e2]
      exact put_turn B G size cap ws k x w hs hBG (by omega) hx2
end Go.Proofs.YtipifkgmhgkleaaGreatDoor.Bits
