/-
  bits.New, Size, may, bit, Has and Put, of every set that there is, and of none.
-/
import Derived.Test.YtooojajagkbhiaaDoorRows
import Derived.Test.YtooojajagkbhiaaDoorBitsMath
import Derived.WalkKit
import Derived.WalkSpells
import Derived.WalkLawsBesides
import Derived.Deep.QuietTactic
import Derived.BigQuiet
import Derived.Deep.RegionHeld3
import Derived.Lib.Hide
import Derived.Laws.BitsAllLaws
namespace Go.Proofs.YtooojajagkbhiaaDoor.Bits
open Go.RowKit

theorem ret_int {k : IntKind} {a b : Int} (h : a = b) : Ending.returned (.int k a) = .returned (.int k b) := by rw [h]
theorem ret_bool {a b : Bool} (h : a = b) : Ending.returned (.bool a) = .returned (.bool b) := by rw [h]

/-- A set in memory: its size, its words. -/
structure SetIs (w : World) (B G size cap : Nat) (ws : List Nat) : Prop where
  small : size ≤ 2097152
  row : SetW size ws
  capn : ws.length ≤ cap
  cs : w.cell? ⟨B, 0, none⟩ = some (.int .i64 size)
  cw : w.cell? ⟨B, 1, none⟩ = some (.slice (some ⟨G, 0, none⟩) ws.length cap)
  at_ : ∀ j, j < ws.length → w.cell? ⟨G, j, none⟩ = some (.int .u64 (wd ws j))
  fz : ∀ j, j < ws.length → w.frozen? ⟨G, j, none⟩ = false

set_option maxHeartbeats 400000 in
theorem size_nil (w : World) : Calls Tryd.prog 69 #[.pointer none] w fun e w' => e = .returned (.int .i64 0) ∧ w = w' := by
  go_enter Tryd.func69, Tryd.ntmps69
  go_wp2
  go_ret
  exact ⟨rfl, rfl⟩
set_option maxHeartbeats 400000 in
theorem size_any (B : Nat) (n : Int) (w : World) (h : w.cell? ⟨B, 0, none⟩ = some (.int .i64 n)) : Calls Tryd.prog 69 #[.pointer (some ⟨B, 0, none⟩)] w fun e w' => e = .returned (.int .i64 n) ∧ w = w' := by
  go_enter Tryd.func69, Tryd.ntmps69
  go_wp2
  go_ret
  exact ⟨rfl, rfl⟩

/-- May a number be in a set of a size? -/
def mayB (n : Int) (size : Int) : Bool := decide (0 ≤ n) && decide (n < size)
set_option maxHeartbeats 400000 in
theorem may_nil (n : Int) (w : World) : Calls Tryd.prog 51 #[.pointer none, .int .i64 n] w fun e w' => e = .returned (.bool false) ∧ w = w' := by
  by_cases h : 0 ≤ n
  all_goals
    go_enter Tryd.func51, Tryd.ntmps51
    go_wp2_with (go_at_call 69; refine (size_nil _).mono ?_; rintro e w' ⟨rfl, rfl⟩)
    go_ret
    exact ⟨ret_bool (by simp <;> omega), rfl⟩
set_option maxHeartbeats 400000 in
theorem may_any (B : Nat) (n size : Int) (w : World) (hc : w.cell? ⟨B, 0, none⟩ = some (.int .i64 size)) : Calls Tryd.prog 51 #[.pointer (some ⟨B, 0, none⟩), .int .i64 n] w fun e w' => e = .returned (.bool (mayB n size)) ∧ w = w' := by
  by_cases h : 0 ≤ n
  all_goals
    go_enter Tryd.func51, Tryd.ntmps51
    go_wp2_with (go_at_call 69; refine (size_any B size _ hc).mono ?_; rintro e w' ⟨rfl, rfl⟩)
    go_ret
    exact ⟨ret_bool (by first | (simp [mayB, h]; done) | (simp [mayB]; omega)), rfl⟩

theorem may_out (B : Nat) (n size : Int) (w : World) (hc : w.cell? ⟨B, 0, none⟩ = some (.int .i64 size)) (hm : mayB n size = false) : Calls Tryd.prog 51 #[.pointer (some ⟨B, 0, none⟩), .int .i64 n] w fun e w' => e = .returned (.bool false) ∧ w = w' := by
  have h := may_any B n size w hc
  rw [hm] at h
  exact h
theorem may_in (B : Nat) (n size : Int) (w : World) (hc : w.cell? ⟨B, 0, none⟩ = some (.int .i64 size)) (hm : mayB n size = true) : Calls Tryd.prog 51 #[.pointer (some ⟨B, 0, none⟩), .int .i64 n] w fun e w' => e = .returned (.bool true) ∧ w = w' := by
  have h := may_any B n size w hc
  rw [hm] at h
  exact h

theorem bit_val (n : Int) (h : 0 ≤ n) : IntKind.u64.wrap (2 ^ (n % 64).toNat) = ((2 ^ (n.toNat % 64) : Nat) : Int) := by
  obtain ⟨k, rfl⟩ := Int.eq_ofNat_of_zero_le h
  have e : ((k : Int) % 64).toNat = k % 64 := by omega
  rw [e, Int.toNat_natCast, IntKind.wrap_u64]
  have hp := pow_lt64 k
  have e2 : ((2 ^ (k % 64) : Nat) : Int) = 2 ^ (k % 64) := by simp
  rw [← e2]
  clear e2
  generalize 2 ^ (k % 64) = x at *
  omega

theorem quiet_left {P : Program} {f : FuncId} {args : Array Value} {w : World} {n : Nat} {v : Value}
    (h : Calls P f args (w.drewN n) fun e w' => e = .returned v ∧ w.drewN n = w') : Calls P f args (w.drewN n) fun e w'' => e = .returned v ∧ ∃ m, w'' = w.drewN m :=
  h.mono fun _ _ ⟨he, hm⟩ => ⟨he, n, hm.symm⟩

set_option maxHeartbeats 400000 in
theorem bit_any (n : Int) (h : 0 ≤ n) (w : World) : Calls Tryd.prog 52 #[.int .i64 n] w fun e w' => e = .returned (.int .u64 ((2 ^ (n.toNat % 64) : Nat) : Int)) ∧ w = w' := by
  go_enter Tryd.func52, Tryd.ntmps52
  go_wp2
  go_ret
  exact ⟨ret_int (bit_val n h), rfl⟩

theorem has_val (ws : List Nat) (n : Nat) (h : wd ws (n / 64) < 18446744073709551616) : ((bits BinOp.and IntKind.u64 ((wd ws (n / 64) : Nat) : Int) (2 ^ (n % 64) : Int)) != 0) = hasB ws n := by
  rw [show (2 ^ (n % 64) : Int) = ((2 ^ (n % 64) : Nat) : Int) by simp, u64_and_nat _ _ h (pow_lt64 n)]
  unfold hasB
  have hx := and_pow_ne (wd ws (n / 64)) (n % 64)
  rw [Bool.eq_iff_iff, bne_iff_ne, ← hx]
  omega

theorem has_nil (n : Int) (w : World) : Calls Tryd.prog 31 #[.pointer none, .int .i64 n] w fun e w' => e = .returned (.bool false) ∧ ∃ k, w' = w.drewN k := by
  go_enter Tryd.func31, Tryd.ntmps31
  go_wp2
  go_quiet ((go_at_call 51; exact quiet_left (may_nil _ _)))
  go_wp2
  go_ret
  exact ⟨rfl, _, rfl⟩
theorem has_out (B : Nat) (n size : Int) (w : World) (hc : w.cell? ⟨B, 0, none⟩ = some (.int .i64 size)) (hm : mayB n size = false) :
    Calls Tryd.prog 31 #[.pointer (some ⟨B, 0, none⟩), .int .i64 n] w fun e w' => e = .returned (.bool false) ∧ ∃ k, w' = w.drewN k := by
  have hc' : ∀ k, (w.drewN k).cell? ⟨B, 0, none⟩ = some (.int .i64 size) := fun _ => hc
  go_enter Tryd.func31, Tryd.ntmps31
  go_wp2
  go_quiet ((go_at_call 51; exact quiet_left (may_out B n size _ (hc' _) hm)))
  go_wp2
  go_ret
  exact ⟨rfl, _, rfl⟩

set_option maxHeartbeats 1000000 in
theorem has_in (B G size cap : Nat) (ws : List Nat) (n : Nat) (w : World) (hs : SetIs w B G size cap ws) (hn : n < size) :
    Calls Tryd.prog 31 #[.pointer (some ⟨B, 0, none⟩), .int .i64 n] w fun e w' => e = .returned (.bool (hasB ws n)) ∧ ∃ k, w' = w.drewN k := by
  have hp := hs.row.place hn
  have hsm := hs.small
  have hcap := hs.capn
  have hm : mayB n size = true := by simp [mayB, hn]
  have hc := hs.cs
  have hcw := hs.cw
  have hat := hs.at_ _ hp
  have hc' : ∀ k, (w.drewN k).cell? ⟨B, 0, none⟩ = some (.int .i64 size) := fun _ => hc
  have hfin := Lib.hid (has_val ws n (hs.row.lt _))
  have i1 : (0 : Int) ≤ ((n / 64 : Nat) : Int) := Int.natCast_nonneg _
  have i2 : ((n / 64 : Nat) : Int) < (ws.length : Int) := by omega
  clear hs
  go_enter Tryd.func31, Tryd.ntmps31
  go_wp2
  go_quiet ((first | (go_at_call 51; exact quiet_left (may_in B n size _ (hc' _) hm)) | (go_at_call 52; exact quiet_left (bit_any _ (Int.natCast_nonneg _) _))))
  go_wp2
  go_ret
  exact ⟨ret_bool hfin.out, _, rfl⟩

/-- .. whatever number is asked. -/
theorem has_any (B G size cap : Nat) (ws : List Nat) (n : Int) (w : World) (hs : SetIs w B G size cap ws) :
    Calls Tryd.prog 31 #[.pointer (some ⟨B, 0, none⟩), .int .i64 n] w fun e w' => e = .returned (.bool (mayB n size && hasB ws n.toNat)) ∧ ∃ k, w' = w.drewN k := by
  cases hm : mayB n size with
  | false => exact has_out B n size w hs.cs hm
  | true =>
    have h := hm
    unfold mayB at h
    rw [Bool.and_eq_true, decide_eq_true_eq, decide_eq_true_eq] at h
    obtain ⟨k, rfl⟩ := Int.eq_ofNat_of_zero_le h.1
    exact has_in B G size cap ws k w hs (by omega)

theorem new_bad (n : Int) (w : World) (h : n < 0 ∨ 2097152 < n) : Calls Tryd.prog 47 #[.int .i64 n] w fun e w' => e = .returned (.tuple #[.pointer none, .int .i64 4]) ∧ w = w' := by
  rcases h with h | h
  · go_enter Tryd.func47, Tryd.ntmps47
    go_wp2
    go_ret2
    exact ⟨rfl, rfl⟩
  · have h1 : ¬ n < 0 := by omega
    go_enter Tryd.func47, Tryd.ntmps47
    go_wp2
    go_ret2
    exact ⟨rfl, rfl⟩

theorem info64 : (Tryd.prog.info? 49).map (fun i => (i.zero, i.size, i.bytes)) = some (some (.int .u64 0), 1, 8) := by kernel_rfl

/-- A new row of words, all 0. -/
def zeroCells (nw : Nat) : Array Value := madeCells #[.int .u64 0] nw
theorem zeroCells_at (nw j : Nat) (h : j < nw) : (zeroCells nw)[j]? = some (.int .u64 0) := by
  unfold zeroCells
  have := toList_madeCells_one (.int .u64 0) nw
  rw [← Array.getElem?_toList, this, List.getElem?_replicate]
  simp [h]
theorem make_words (nw : Nat) (h : nw ≤ 2097152) (W : World) :
    (Instr.makeSlice 88 (.int .i64 (nw : Int)) (.int .i64 (nw : Int))).run Tryd.prog W = .ok (.slice (some ⟨W.heap.size, 0, none⟩) nw nw) (W.alloc (.cells (zeroCells nw) 49)) := by
  obtain ⟨i, hi, hz, hs, hb⟩ : ∃ i, Tryd.prog.info? 49 = some i ∧ i.zero = some (.int .u64 0) ∧ i.size = 1 ∧ i.bytes = 8 := by
    have := info64
    cases h : Tryd.prog.info? 49 with
    | none => rw [h] at this; cases this
    | some i =>
      rw [h] at this
      simp only [Option.map_some, Option.some.injEq, Prod.mk.injEq] at this
      exact ⟨i, rfl, this.1, this.2.1, this.2.2⟩
  have hr := run_make (P := Tryd.prog) W 88 49 i (.int .u64 0) Tryd.underlying88 hi hz .i64 .i64 nw nw (by omega) (by omega) (by rw [hb]; omega) (by omega)
  simp only [Int.toNat_natCast, hs, Nat.mul_one] at hr
  exact hr

set_option maxHeartbeats 1000000 in
theorem new_good (n : Nat) (w : World) (h : n ≤ 2097152) : Calls Tryd.prog 47 #[.int .i64 n] w fun e w' => ∃ B G, e = .returned (.tuple #[.pointer (some ⟨B, 0, none⟩), .int .i64 0]) ∧
    SetIs w' B G n ((n + 63) / 64) (List.replicate ((n + 63) / 64) 0) ∧ w.heap.size ≤ B ∧ w.heap.size ≤ G ∧ B < w'.heap.size ∧ G < w'.heap.size ∧ B ≠ G ∧ Below w.heap.size w w' := by
  have hsz := setW_zero n
  obtain ⟨nw, hnw⟩ : ∃ nw, (n + 63) / 64 = nw := ⟨_, rfl⟩
  rw [hnw] at hsz ⊢
  have hq : ((n : Int) + 64 - 1) / 64 = (nw : Int) := by omega
  have hmk := make_words nw (by omega)
  have hat := zeroCells_at nw
  clear hnw
  have HF : ∀ W : World, W = (w.alloc (.cells (zeroCells nw) 49)).alloc (.cells #[.int .i64 n, .slice (some ⟨w.heap.size, 0, none⟩) nw nw] 102) →
      SetIs W (w.heap.size + 1) w.heap.size n nw (List.replicate nw 0) := fun W hW => by
    subst hW
    refine ⟨h, hsz, by simp, by simp, by simp, fun j hj => ?_, fun j hj => by simp⟩
    have hj' : j < nw := by simpa using hj
    have hw : wd (List.replicate nw 0) j = 0 := by simp [wd, List.getD_eq_getElem?_getD, List.getElem?_replicate]; split <;> rfl
    rw [hw]
    simp [hat j hj']
  have HF' := Lib.hid HF
  clear hat hsz HF
  go_enter Tryd.func47, Tryd.ntmps47
  go_wp2
  go_ret2
  exact ⟨w.heap.size + 1, w.heap.size, rfl, HF'.out _ rfl, by omega, by omega, by simp, by simp; omega, by omega, ((Below.refl _ _).alloc (Nat.le_refl _) _).alloc (by simp) _⟩
end Go.Proofs.YtooojajagkbhiaaDoor.Bits
