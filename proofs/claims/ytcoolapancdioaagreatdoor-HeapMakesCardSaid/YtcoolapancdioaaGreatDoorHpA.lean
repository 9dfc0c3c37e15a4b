/-
  header.Object and Parse, of every class, number of fields and word.
-/
import Derived.Test.YtcoolapancdioaaGreatDoorHdr
import Derived.Test.YtcoolapancdioaaGreatDoorBas
namespace Go.Proofs.YtcoolapancdioaaGreatDoor.Hdr
open Go.RowKit
open Class (SizTab isB isB_true isB_false is_any room_any roomI roomI_yes roomI_no sizI sizI_bd)

theorem i64_bits_nat (a b : Nat) (ha : a < 9223372036854775808) (hb : b < 9223372036854775808) : bits .or .i64 (a : Int) (b : Int) = ((a ||| b : Nat) : Int) ∧ bits .and .i64 (a : Int) (b : Int) = ((a &&& b : Nat) : Int) := by
  have h1 : (BitVec.ofInt 64 (a : Int)).toNat = a := by rw [BitVec.ofInt_natCast, BitVec.toNat_ofNat]; exact Nat.mod_eq_of_lt (by omega)
  have h2 : (BitVec.ofInt 64 (b : Int)).toNat = b := by rw [BitVec.ofInt_natCast, BitVec.toNat_ofNat]; exact Nat.mod_eq_of_lt (by omega)
  have hx : a ||| b < 2 ^ 63 := Nat.or_lt_two_pow (by omega) (by omega)
  have hy : a &&& b < 2 ^ 63 := Nat.and_lt_two_pow _ (by omega)
  constructor
  · show IntKind.i64.wrap ((BitVec.ofInt 64 (a : Int) ||| BitVec.ofInt 64 (b : Int)).toNat : Int) = _
    rw [BitVec.toNat_or, h1, h2]
    exact IntWalk.i64_in _ (by omega)
  · show IntKind.i64.wrap ((BitVec.ofInt 64 (a : Int) &&& BitVec.ofInt 64 (b : Int)).toNat : Int) = _
    rw [BitVec.toNat_and, h1, h2]
    exact IntWalk.i64_in _ (by omega)

/-- An object's word. -/
def ob (s : Nat) : Nat := 4611686018427387904 + s
theorem or_ob {a : Nat} (h : a ≤ 63) : (4611686018427387904 ||| a : Nat) = ob a := by
  unfold ob
  have := Nat.two_pow_add_eq_or_of_lt (i := 62) (b := a) (show a < 2 ^ 62 by omega) 1
  simpa using this.symm
theorem or_16 {k f : Nat} (hf : f ≤ 15) : (k * 16 ||| f : Nat) = k * 16 + f := by
  have := Nat.two_pow_add_eq_or_of_lt (i := 4) (b := f) (show f < 2 ^ 4 by omega) k
  rw [show (2 ^ 4 : Nat) = 16 from rfl, Nat.mul_comm] at this
  exact this.symm

set_option maxHeartbeats 400000 in
theorem wordO_any (a : Nat) (W : World) (h : a ≤ 63) : Calls Tryz.prog 121 #[.int .i64 1, .int .i64 a] W fun e W' => e = .returned (.int .u64 (ob a)) ∧ W = W' := by
  have ho : bits BinOp.or IntKind.u64 4611686018427387904 (a : Int) = ((ob a : Nat) : Int) := by
    have := u64_or_nat 4611686018427387904 a (by decide) (by omega)
    rw [or_ob h] at this
    exact this
  have hc : IntKind.u64.wrap (a : Int) = (a : Int) := by rw [IntKind.wrap_u64]; omega
  go_enter Tryz.func121, Tryz.ntmps121
  go_wp2
  go_ret
  exact ⟨rfl, rfl⟩

/-- Is there such an object's word? -/
def okB (k f : Int) : Bool := isB k && (decide (0 ≤ f) && decide (f ≤ roomI k))
theorem okB_true {k f : Int} : okB k f = true ↔ isB k = true ∧ 0 ≤ f ∧ f ≤ roomI k := by simp [okB]
def obI (k f : Int) : Nat := if okB k f = true then ob (16 * k.toNat + f.toNat) else 0
theorem room_le {k : Int} (h : isB k = true) : roomI k ≤ 15 ∧ 1 ≤ roomI k := by
  rw [roomI_yes h]; have := sizI_bd h; omega

set_option maxRecDepth 100000 in
set_option maxHeartbeats 1000000 in
theorem object_any (k f : Int) (W : World) (ht : SizTab W) : Calls Tryz.prog 83 #[.int .i64 k, .int .i64 f] W fun e W' => e = .returned (.tuple #[.int .u64 (obI k f), .bool (okB k f)]) ∧ W = W' := by
  cases hk : isB k with
  | false =>
    have e1 : okB k f = false := by simp [okB, hk]
    rw [obI, e1]
    go_enter Tryz.func83, Tryz.ntmps83
    go_wp2_with (go_at_call 115; refine (is_any k _).mono ?_; rintro e w' ⟨rfl, rfl⟩; rw [hk])
    go_ret2
    exact ⟨rfl, rfl⟩
  | true =>
    obtain ⟨r1, r2⟩ := room_le hk
    by_cases h0 : f < 0
    · have e1 : okB k f = false := by simp [okB, hk]; omega
      rw [obI, e1]
      go_enter Tryz.func83, Tryz.ntmps83
      go_wp2_with (go_at_call 115; refine (is_any k _).mono ?_; rintro e w' ⟨rfl, rfl⟩; rw [hk])
      go_ret2
      exact ⟨rfl, rfl⟩
    · by_cases h1 : roomI k < f
      · have e1 : okB k f = false := by simp [okB, hk]; omega
        rw [obI, e1]
        go_enter Tryz.func83, Tryz.ntmps83
        go_wp2_with (first
          | (go_at_call 115; refine (is_any k _).mono ?_; rintro e w' ⟨rfl, rfl⟩; rw [hk])
          | (go_at_call 116; refine (room_any k _ ht).mono ?_; rintro e w' ⟨rfl, rfl⟩))
        go_ret2
        exact ⟨rfl, rfl⟩
      · have e1 : okB k f = true := okB_true.2 ⟨hk, by omega, by omega⟩
        obtain ⟨k1, k2⟩ := isB_true.1 hk
        rw [obI, if_pos e1, e1]
        obtain ⟨K, rfl⟩ := Int.eq_ofNat_of_zero_le k1
        obtain ⟨f', rfl⟩ := Int.eq_ofNat_of_zero_le (show 0 ≤ f by omega)
        rw [Int.toNat_natCast, Int.toNat_natCast]
        have hs : IntKind.i64.wrap ((K : Int) * 16) = ((K * 16 : Nat) : Int) := by rw [IntWalk.i64_in _ (by omega)]; omega
        have ho := (i64_bits_nat (K * 16) f' (by omega) (by omega)).1
        rw [or_16 (by omega), show ((K * 16 : Nat) : Int) = (K : Int) * 16 by omega] at ho
        have h63 : K * 16 + f' ≤ 63 := by omega
        have HW := Lib.hid (wordO_any (K * 16 + f') W h63)
        rw [show ((K * 16 + f' : Nat) : Int) = (K : Int) * 16 + (f' : Int) by omega] at HW ho
        have hcomm : 16 * K + f' = K * 16 + f' := by omega
        rw [hcomm]
        go_enter Tryz.func83, Tryz.ntmps83
        go_wp2_with (first
          | (go_at_call 115; refine (is_any K _).mono ?_; rintro e w' ⟨rfl, rfl⟩; rw [hk])
          | (go_at_call 116; refine (room_any K _ ht).mono ?_; rintro e w' ⟨rfl, rfl⟩)
          | (go_at_call 121; refine HW.out.mono ?_; rintro e w' ⟨rfl, rfl⟩))
        go_ret2
        exact ⟨rfl, rfl⟩

/-- What an object's word says. -/
def isOb (w : Nat) : Bool := okB ((w % 4611686018427387904 / 16 : Nat) : Int) ((w % 4611686018427387904 % 16 : Nat) : Int) && (obI ((w % 4611686018427387904 / 16 : Nat) : Int) ((w % 4611686018427387904 % 16 : Nat) : Int) == w)
def obK (w : Nat) : Nat := if isOb w = true then w % 4611686018427387904 / 16 else 0
def obF (w : Nat) : Nat := if isOb w = true then w % 4611686018427387904 % 16 else 0

set_option maxRecDepth 100000 in
set_option maxHeartbeats 1000000 in
theorem parse_any (w : Nat) (W : World) (hw : w < 18446744073709551616) (ht : SizTab W) : Calls Tryz.prog 106 #[.int .u64 w] W fun e W' => e = .returned (.tuple #[.int .i64 (obK w), .int .i64 (obF w), .bool (isOb w)]) ∧ W = W' := by
  have hs := said_any w W hw
  have hlt : w % 4611686018427387904 < 4611686018427387904 := Nat.mod_lt _ (by decide)
  have hK : obK w = if isOb w = true then w % 4611686018427387904 / 16 else 0 := rfl
  have hF : obF w = if isOb w = true then w % 4611686018427387904 % 16 else 0 := rfl
  have hO : isOb w = (okB ((w % 4611686018427387904 / 16 : Nat) : Int) ((w % 4611686018427387904 % 16 : Nat) : Int) && (obI ((w % 4611686018427387904 / 16 : Nat) : Int) ((w % 4611686018427387904 % 16 : Nat) : Int) == w)) := rfl
  generalize obK w = vK at *
  generalize obF w = vF at *
  generalize isOb w = vO at *
  generalize w % 4611686018427387904 = s at *
  have ha : bits BinOp.and IntKind.i64 (s : Int) 15 = ((s % 16 : Nat) : Int) := by
    have := (i64_bits_nat s 15 (by omega) (by decide)).2
    rw [show (15 : Nat) = 2 ^ 4 - 1 from rfl, Nat.and_two_pow_sub_one_eq_mod] at this
    exact this
  have hob := object_any ((s / 16 : Nat) : Int) ((s % 16 : Nat) : Int) W ht
  generalize hX : obI ((s / 16 : Nat) : Int) ((s % 16 : Nat) : Int) = x at *
  generalize okB ((s / 16 : Nat) : Int) ((s % 16 : Nat) : Int) = o at *
  have eK : ((s / 16 : Nat) : Int) = (s : Int) / 16 := by omega
  have eF : ((s % 16 : Nat) : Int) = (s : Int) % 16 := by omega
  have HS := Lib.hid hs
  have HO := Lib.hid hob
  have EK := Lib.hid eK
  have EF := Lib.hid eF
  rw [eK, eF] at HO
  rw [eF] at ha
  clear eK eF hob hs hX
  have hne : (((x : Nat) : Int) != ((w : Nat) : Int)) = !(x == w) := by
    show (!(((x : Nat) : Int) == ((w : Nat) : Int))) = _
    congr 1
    rw [Bool.eq_iff_iff, beq_iff_eq, beq_iff_eq]
    omega
  cases o with
  | false =>
    rw [Bool.false_and] at hO
    subst hO hK hF
    go_enter Tryz.func106, Tryz.ntmps106
    go_wp2_with (first
      | (go_at_call 132; refine HS.out.mono ?_; rintro e w' ⟨rfl, rfl⟩)
      | (go_at_call 83; refine HO.out.mono ?_; rintro e w' ⟨rfl, rfl⟩))
    go_ret3
    exact ⟨rfl, rfl⟩
  | true =>
    rw [Bool.true_and] at hO
    cases hx : x == w with
    | true =>
      rw [hx] at hO hne
      subst hO
      rw [if_pos rfl] at hK hF
      subst hK hF
      rw [EK.out, EF.out]
      go_enter Tryz.func106, Tryz.ntmps106
      go_wp2_with (first
        | (go_at_call 132; refine HS.out.mono ?_; rintro e w' ⟨rfl, rfl⟩)
        | (go_at_call 83; refine HO.out.mono ?_; rintro e w' ⟨rfl, rfl⟩))
      go_ret3
      exact ⟨rfl, rfl⟩
    | false =>
      rw [hx] at hO hne
      subst hO
      rw [if_neg (by simp)] at hK hF
      subst hK hF
      go_enter Tryz.func106, Tryz.ntmps106
      go_wp2_with (first
        | (go_at_call 132; refine HS.out.mono ?_; rintro e w' ⟨rfl, rfl⟩)
        | (go_at_call 83; refine HO.out.mono ?_; rintro e w' ⟨rfl, rfl⟩))
      go_ret3
      exact ⟨rfl, rfl⟩

theorem obK_lt (w : Nat) : obK w < 4 := by
  unfold obK
  split
  · rename_i h
    simp only [isOb, Bool.and_eq_true] at h
    have := isB_true.1 (okB_true.1 h.1).1
    omega
  · omega
theorem obF_le (w : Nat) : obF w ≤ 15 := by
  unfold obF
  split
  · have := Nat.mod_lt (w % 4611686018427387904) (show 0 < 16 by decide); omega
  · omega
/-- What is laid is read. -/
theorem isOb_ob {k f : Nat} (h : okB (k : Int) (f : Int) = true) : isOb (obI k f) = true ∧ obK (obI k f) = k ∧ obF (obI k f) = f := by
  obtain ⟨h1, h2, h3⟩ := okB_true.1 h
  obtain ⟨k1, k2⟩ := isB_true.1 h1
  obtain ⟨r1, r2⟩ := room_le h1
  have e : obI k f = ob (16 * k + f) := by rw [obI, if_pos h, Int.toNat_natCast, Int.toNat_natCast]
  have em : ob (16 * k + f) % 4611686018427387904 = 16 * k + f := by unfold ob; omega
  have e1 : (16 * k + f) / 16 = k := by omega
  have e2 : (16 * k + f) % 16 = f := by omega
  have hi : isOb (ob (16 * k + f)) = true := by
    rw [isOb, em, e1, e2, h, e]
    simp
  rw [e]
  exact ⟨hi, by rw [obK, if_pos hi, em, e1], by rw [obF, if_pos hi, em, e2]⟩
theorem obI_lt (k f : Int) : obI k f < 18446744073709551616 := by
  unfold obI
  split
  · rename_i h
    obtain ⟨h1, h2, h3⟩ := okB_true.1 h
    obtain ⟨k1, k2⟩ := isB_true.1 h1
    obtain ⟨r1, r2⟩ := room_le h1
    unfold ob
    omega
  · omega
/-- What a word says that is an object's: its class has room. -/
theorem isOb_room {w : Nat} (h : isOb w = true) : ((obF w : Nat) : Int) ≤ roomI (obK w : Nat) ∧ w = obI (obK w : Nat) (obF w : Nat) := by
  have h0 := h
  simp only [isOb, Bool.and_eq_true, beq_iff_eq] at h
  rw [obF, if_pos h0, obK, if_pos h0]
  exact ⟨(okB_true.1 h.1).2.2, h.2.symm⟩
theorem isOb_small {w : Nat} (h : w < 4611686018427387904) : isOb w = false := by
  cases e : isOb w with
  | false => rfl
  | true =>
    have h1 := (isOb_room e).2
    unfold obI at h1
    split at h1
    · unfold ob at h1; omega
    · subst h1; exact absurd e (by decide)
theorem isOb_lk {a : Nat} (h : a ≤ 1048576) : isOb (lk a) = false := by
  cases e : isOb (lk a) with
  | false => rfl
  | true =>
    have h1 := (isOb_room e).2
    have h2 := obK_lt (lk a)
    have h3 := obF_le (lk a)
    generalize obK (lk a) = x at *
    generalize obF (lk a) = y at *
    unfold obI at h1
    split at h1
    · unfold ob lk at h1; omega
    · unfold lk at h1; omega
end Go.Proofs.YtcoolapancdioaaGreatDoor.Hdr
