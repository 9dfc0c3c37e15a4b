/-
  math/bits.OnesCount64: how many bits a word has.
-/
import Derived.Test.YtahhenbphnejiaaDoorBitsI
import Derived.Test.YtahhenbphnejiaaDoorBitsPop
import Derived.Laws.Bits128
namespace Go.Proofs.YtahhenbphnejiaaDoor.Bits
open Go.RowKit Go.Shelf
attribute [local go_sem] Oper.semAt_some

theorem wrap_nat (n : Nat) (h : n < 18446744073709551616) : IntKind.u64.wrap ((n : Nat) : Int) = ((n : Nat) : Int) := by
  rw [IntKind.wrap_u64]
  omega
theorem and_nat (x m : Nat) (hx : x < 18446744073709551616) (hm : m < 18446744073709551616) : bits BinOp.and IntKind.u64 ((x : Nat) : Int) ((m : Nat) : Int) = ((x &&& m : Nat) : Int) := u64_and_nat _ _ hx hm
theorem e1_val (x : Nat) (hx : x < 18446744073709551616) : IntKind.u64.wrap (bits BinOp.and IntKind.u64 ((x : Int) / 2) 6148914691236517205 + bits BinOp.and IntKind.u64 (x : Int) 6148914691236517205) = ((s1 8 x : Nat) : Int) := by
  have r : rep 0x55 8 = 6148914691236517205 := by decide
  have h1 := and_nat (x / 2) 6148914691236517205 (by omega) (by decide)
  have h2 := and_nat x 6148914691236517205 hx (by decide)
  have l1 : x / 2 &&& 6148914691236517205 ≤ 6148914691236517205 := Nat.and_le_right
  have l2 : x &&& 6148914691236517205 ≤ 6148914691236517205 := Nat.and_le_right
  rw [Int.natCast_ediv] at h1
  simp only [Int.cast_ofNat_Int] at h1 h2
  rw [h1, h2, ← Int.natCast_add, wrap_nat _ (by omega), s1, r]
theorem e2_val (x : Nat) (hx : x < 18446744073709551616) : IntKind.u64.wrap (bits BinOp.and IntKind.u64 ((x : Int) / 4) 3689348814741910323 + bits BinOp.and IntKind.u64 (x : Int) 3689348814741910323) = ((s2 8 x : Nat) : Int) := by
  have r : rep 0x33 8 = 3689348814741910323 := by decide
  have h1 := and_nat (x / 4) 3689348814741910323 (by omega) (by decide)
  have h2 := and_nat x 3689348814741910323 hx (by decide)
  have l1 : x / 4 &&& 3689348814741910323 ≤ 3689348814741910323 := Nat.and_le_right
  have l2 : x &&& 3689348814741910323 ≤ 3689348814741910323 := Nat.and_le_right
  rw [Int.natCast_ediv] at h1
  simp only [Int.cast_ofNat_Int] at h1 h2
  rw [h1, h2, ← Int.natCast_add, wrap_nat _ (by omega), s2, r]
theorem s1_lt (x : Nat) : s1 8 x < 12297829382473034411 := by
  have r : rep 0x55 8 = 6148914691236517205 := by decide
  have l1 : x / 2 &&& 6148914691236517205 ≤ 6148914691236517205 := Nat.and_le_right
  have l2 : x &&& 6148914691236517205 ≤ 6148914691236517205 := Nat.and_le_right
  rw [s1, r]; omega
theorem s2_lt (x : Nat) : s2 8 x < 7378697629483820647 := by
  have r : rep 0x33 8 = 3689348814741910323 := by decide
  have l1 : x / 4 &&& 3689348814741910323 ≤ 3689348814741910323 := Nat.and_le_right
  have l2 : x &&& 3689348814741910323 ≤ 3689348814741910323 := Nat.and_le_right
  rw [s2, r]; omega
theorem e3_val (x : Nat) (hx : x < 7378697629483820647) : bits BinOp.and IntKind.u64 (IntKind.u64.wrap ((x : Int) / 16 + (x : Int))) 1085102592571150095 = ((s3 8 x : Nat) : Int) := by
  have r : rep 0x0f 8 = 1085102592571150095 := by decide
  have h1 := and_nat (x / 16 + x) 1085102592571150095 (by omega) (by decide)
  have h2 := wrap_nat (x / 16 + x) (by omega)
  rw [Int.natCast_add, Int.natCast_ediv] at h1 h2
  simp only [Int.cast_ofNat_Int] at h1 h2
  rw [h2, h1, s3, r]
theorem e4_val (y d k : Nat) (hd : 2 ≤ d) (hy : y < 9223372036854775808) (hk : (d : Int) = k) : IntKind.u64.wrap ((y : Int) + (y : Int) / (k : Int)) = ((y + y / d : Nat) : Int) := by
  have h : y / d ≤ y / 2 := Nat.div_le_div_left hd (by decide)
  have h2 := wrap_nat (y + y / d) (by omega)
  rw [Int.natCast_add, Int.natCast_ediv, hk] at h2
  rw [h2, Int.natCast_add, Int.natCast_ediv, hk]

set_option maxHeartbeats 1000000 in
theorem ones_any (x : Nat) (hx : x < 18446744073709551616) (w : World) :
    Calls Tryd.prog 49 #[.int .u64 x] w fun e w' => e = .returned (.int .i64 ((bitsOf x).length : Nat)) ∧ w = w' := by
  have k1 := e1_val x hx
  have k2 := e2_val (s1 8 x) (by have := s1_lt x; omega)
  have k3 := e3_val (s2 8 (s1 8 x)) (s2_lt _)
  obtain ⟨hp, hlt⟩ := hsum_pop x
  generalize s1 8 x = x1 at *
  generalize s2 8 x1 = x2 at *
  generalize s3 8 x2 = x3 at *
  have k4 := e4_val x3 256 256 (by decide) (by omega) rfl
  have k5 := e4_val (x3 + x3 / 256) 65536 65536 (by decide) (by omega) rfl
  have k6 := e4_val (x3 + x3 / 256 + (x3 + x3 / 256) / 65536) 4294967296 4294967296 (by decide) (by omega) rfl
  simp only [Int.cast_ofNat_Int] at k4 k5 k6
  simp only [hsum] at hp
  have fin : bits BinOp.and IntKind.i64 ((x3 : Int) + (x3 : Int) / 256 + ((x3 : Int) + (x3 : Int) / 256) / 65536 + ((x3 : Int) + (x3 : Int) / 256 + ((x3 : Int) + (x3 : Int) / 256) / 65536) / 4294967296) 127 = (((bitsOf x).length : Nat) : Int) := by
    rw [i64_and127, ← hp]
    simp only [Int.natCast_add, Int.natCast_ediv, Int.natCast_emod, Int.cast_ofNat_Int]
  have HF := Lib.hid fin
  clear fin
  go_enter Tryd.func49, Tryd.ntmps49
  go_wp2_with (simp only [k1, k2, k3, k4, k5, k6])
  go_ret
  exact ⟨ret_int HF.out, rfl⟩
end Go.Proofs.YtahhenbphnejiaaDoor.Bits
