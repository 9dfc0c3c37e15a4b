/-
  Texts of the heap, one behind the other: HpA HpB HpC HpG HpD.
-/
import Derived.Test.YtipifkgmhgkleaaGreatDoorMzBa
import Derived.Test.YtipifkgmhgkleaaGreatDoorMzLs2
namespace Go.Proofs.YtipifkgmhgkleaaGreatDoor.Hdr
open Go.RowKit
open Class (SizTab isB isB_true isB_false is_any room_any roomI roomI_yes roomI_no sizI sizI_bd)

theorem i64_bits_nat (a b : Nat) (ha : a < 9223372036854775808) (hb : b < 9223372036854775808) : bits .or .i64 (a : Int) (b : Int) = ((a ||| b : Nat) : Int) ∧ bits .and .i64 (a : Int) (b : Int) = ((a &&& b : Nat) : Int) := by
  have h1 : (BitVec.ofInt 64 (a : Int)).toNat = a := by rw [BitVec.ofInt_natCast, BitVec.toNat_ofNat]; exact Nat.mod_eq_of_lt (by omega)
  have h2 : (BitVec.ofInt 64 (b : Int)).toNat = b := by rw [BitVec.ofInt_natCast, BitVec.toNat_ofNat]; exact Nat.mod_eq_of_lt (by omega)
  have hx : a ||| b < 2 ^ 63 := Nat.or_lt_two_pow (by omega) (by omega)
  have hy : a &&& b < 2 ^ 63 := Nat.and_lt_two_pow _ (by omega)
  constructor
  · show IntKind.i64.wrap ((BitVec.ofInt 64 (a : Int) ||| BitVec.ofInt 64 (b : Int)).toNat : Int) = _
    rw [BitVec.toNat_or, h1, h2]
    exact IntWalk.i64_in _ (by omega)
  · show IntKind.i64.wrap ((BitVec.ofInt 64 (a : Int) &&& BitVec.ofInt 64 (b : Int)).toNat : Int) = _
    rw [BitVec.toNat_and, h1, h2]
    exact IntWalk.i64_in _ (by omega)

/-- An object's word. -/
def ob (s : Nat) : Nat := 4611686018427387904 + s
theorem or_ob {a : Nat} (h : a ≤ 63) : (4611686018427387904 ||| a : Nat) = ob a := by
  unfold ob
  have := Nat.two_pow_add_eq_or_of_lt (i := 62) (b := a) (show a < 2 ^ 62 by omega) 1
  simpa using this.symm
theorem or_16 {k f : Nat} (hf : f ≤ 15) : (k * 16 ||| f : Nat) = k * 16 + f := by
  have := Nat.two_pow_add_eq_or_of_lt (i := 4) (b := f) (show f < 2 ^ 4 by omega) k
  rw [show (2 ^ 4 : Nat) = 16 from rfl, Nat.mul_comm] at this
  exact this.symm

set_option maxHeartbeats 400000 in
theorem wordO_any (a : Nat) (W : World) (h : a ≤ 63) : Calls Tryz.prog 328 #[.int .i64 1, .int .i64 a] W fun e W' => e = .returned (.int .u64 (ob a)) ∧ W = W' := by
  have ho : bits BinOp.or IntKind.u64 4611686018427387904 (a : Int) = ((ob a : Nat) : Int) := by
    have := u64_or_nat 4611686018427387904 a (by decide) (by omega)
    rw [or_ob h] at this
    exact this
  have hc : IntKind.u64.wrap (a : Int) = (a : Int) := by rw [IntKind.wrap_u64]; omega
  go_enter Tryz.func328, Tryz.ntmps328
  go_wp2
  go_ret
  exact ⟨rfl, rfl⟩

/-- Is there such an object's word? -/
def okB (k f : Int) : Bool := isB k && (decide (0 ≤ f) && decide (f ≤ roomI k))
theorem okB_true {k f : Int} : okB k f = true ↔ isB k = true ∧ 0 ≤ f ∧ f ≤ roomI k := by simp [okB]
def obI (k f : Int) : Nat := if okB k f = true then ob (16 * k.toNat + f.toNat) else 0
theorem room_le {k : Int} (h : isB k = true) : roomI k ≤ 15 ∧ 1 ≤ roomI k := by
  rw [roomI_yes h]; have := sizI_bd h; omega

set_option maxRecDepth 100000 in
set_option maxHeartbeats 1000000 in
theorem object_any (k f : Int) (W : World) (ht : SizTab W) : Calls Tryz.prog 315 #[.int .i64 k, .int .i64 f] W fun e W' => e = .returned (.tuple #[.int .u64 (obI k f), .bool (okB k f)]) ∧ W = W' := by
  cases hk : isB k with
  | false =>
    have e1 : okB k f = false := by simp [okB, hk]
    rw [obI, e1]
    go_enter Tryz.func315, Tryz.ntmps315
    go_wp2_with (go_at_call 283; refine (is_any k _).mono ?_; rintro e w' ⟨rfl, rfl⟩; rw [hk])
    go_ret2
    exact ⟨rfl, rfl⟩
  | true =>
    obtain ⟨r1, r2⟩ := room_le hk
    by_cases h0 : f < 0
    · have e1 : okB k f = false := by simp [okB, hk]; omega
      rw [obI, e1]
      go_enter Tryz.func315, Tryz.ntmps315
      go_wp2_with (go_at_call 283; refine (is_any k _).mono ?_; rintro e w' ⟨rfl, rfl⟩; rw [hk])
      go_ret2
      exact ⟨rfl, rfl⟩
    · by_cases h1 : roomI k < f
      · have e1 : okB k f = false := by simp [okB, hk]; omega
        rw [obI, e1]
        go_enter Tryz.func315, Tryz.ntmps315
        go_wp2_with (first
          | (go_at_call 283; refine (is_any k _).mono ?_; rintro e w' ⟨rfl, rfl⟩; rw [hk])
          | (go_at_call 240; refine (room_any k _ ht).mono ?_; rintro e w' ⟨rfl, rfl⟩))
        go_ret2
        exact ⟨rfl, rfl⟩
      · have e1 : okB k f = true := okB_true.2 ⟨hk, by omega, by omega⟩
        obtain ⟨k1, k2⟩ := isB_true.1 hk
        rw [obI, if_pos e1, e1]
        obtain ⟨K, rfl⟩ := Int.eq_ofNat_of_zero_le k1
        obtain ⟨f', rfl⟩ := Int.eq_ofNat_of_zero_le (show 0 ≤ f by omega)
        rw [Int.toNat_natCast, Int.toNat_natCast]
        have hs : IntKind.i64.wrap ((K : Int) * 16) = ((K * 16 : Nat) : Int) := by rw [IntWalk.i64_in _ (by omega)]; omega
        have ho := (i64_bits_nat (K * 16) f' (by omega) (by omega)).1
        rw [or_16 (by omega), show ((K * 16 : Nat) : Int) = (K : Int) * 16 by omega] at ho
        have h63 : K * 16 + f' ≤ 63 := by omega
        have HW := Lib.hid (wordO_any (K * 16 + f') W h63)
        rw [show ((K * 16 + f' : Nat) : Int) = (K : Int) * 16 + (f' : Int) by omega] at HW ho
        have hcomm : 16 * K + f' = K * 16 + f' := by omega
        rw [hcomm]
        go_enter Tryz.func315, Tryz.ntmps315
        go_wp2_with (first
          | (go_at_call 283; refine (is_any K _).mono ?_; rintro e w' ⟨rfl, rfl⟩; rw [hk])
          | (go_at_call 240; refine (room_any K _ ht).mono ?_; rintro e w' ⟨rfl, rfl⟩)
          | (go_at_call 328; refine HW.out.mono ?_; rintro e w' ⟨rfl, rfl⟩))
        go_ret2
        exact ⟨rfl, rfl⟩

/-- What an object's word says. -/
def isOb (w : Nat) : Bool := okB ((w % 4611686018427387904 / 16 : Nat) : Int) ((w % 4611686018427387904 % 16 : Nat) : Int) && (obI ((w % 4611686018427387904 / 16 : Nat) : Int) ((w % 4611686018427387904 % 16 : Nat) : Int) == w)
def obK (w : Nat) : Nat := if isOb w = true then w % 4611686018427387904 / 16 else 0
def obF (w : Nat) : Nat := if isOb w = true then w % 4611686018427387904 % 16 else 0

set_option maxRecDepth 100000 in
set_option maxHeartbeats 1000000 in
theorem parse_any (w : Nat) (W : World) (hw : w < 18446744073709551616) (ht : SizTab W) : Calls Tryz.prog 326 #[.int .u64 w] W fun e W' => e = .returned (.tuple #[.int .i64 (obK w), .int .i64 (obF w), .bool (isOb w)]) ∧ W = W' := by
  have hs := said_any w W hw
  have hlt : w % 4611686018427387904 < 4611686018427387904 := Nat.mod_lt _ (by decide)
  have hK : obK w = if isOb w = true then w % 4611686018427387904 / 16 else 0 := rfl
  have hF : obF w = if isOb w = true then w % 4611686018427387904 % 16 else 0 := rfl
  have hO : isOb w = (okB ((w % 4611686018427387904 / 16 : Nat) : Int) ((w % 4611686018427387904 % 16 : Nat) : Int) && (obI ((w % 4611686018427387904 / 16 : Nat) : Int) ((w % 4611686018427387904 % 16 : Nat) : Int) == w)) := rfl
  generalize obK w = vK at *
  generalize obF w = vF at *
  generalize isOb w = vO at *
  generalize w % 4611686018427387904 = s at *
  have ha : bits BinOp.and IntKind.i64 (s : Int) 15 = ((s % 16 : Nat) : Int) := by
    have := (i64_bits_nat s 15 (by omega) (by decide)).2
    rw [show (15 : Nat) = 2 ^ 4 - 1 from rfl, Nat.and_two_pow_sub_one_eq_mod] at this
    exact this
  have hob := object_any ((s / 16 : Nat) : Int) ((s % 16 : Nat) : Int) W ht
  generalize hX : obI ((s / 16 : Nat) : Int) ((s % 16 : Nat) : Int) = x at *
  generalize okB ((s / 16 : Nat) : Int) ((s % 16 : Nat) : Int) = o at *
  have eK : ((s / 16 : Nat) : Int) = (s : Int) / 16 := by omega
  have eF : ((s % 16 : Nat) : Int) = (s : Int) % 16 := by omega
  have HS := Lib.hid hs
  have HO := Lib.hid hob
  have EK := Lib.hid eK
  have EF := Lib.hid eF
  rw [eK, eF] at HO
  rw [eF] at ha
  clear eK eF hob hs hX
  have hne : (((x : Nat) : Int) != ((w : Nat) : Int)) = !(x == w) := by
    show (!(((x : Nat) : Int) == ((w : Nat) : Int))) = _
    congr 1
    rw [Bool.eq_iff_iff, beq_iff_eq, beq_iff_eq]
    omega
  cases o with
  | false =>
    rw [Bool.false_and] at hO
    subst hO hK hF
    go_enter Tryz.func326, Tryz.ntmps326
    go_wp2_with (first
      | (go_at_call 340; refine HS.out.mono ?_; rintro e w' ⟨rfl, rfl⟩)
      | (go_at_call 315; refine HO.out.mono ?_; rintro e w' ⟨rfl, rfl⟩))
    go_ret3
    exact ⟨rfl, rfl⟩
  | true =>
    rw [Bool.true_and] at hO
    cases hx : x == w with
    | true =>
      rw [hx] at hO hne
      subst hO
      rw [if_pos rfl] at hK hF
      subst hK hF
      rw [EK.out, EF.out]
      go_enter Tryz.func326, Tryz.ntmps326
      go_wp2_with (first
        | (go_at_call 340; refine HS.out.mono ?_; rintro e w' ⟨rfl, rfl⟩)
        | (go_at_call 315; refine HO.out.mono ?_; rintro e w' ⟨rfl, rfl⟩))
      go_ret3
      exact ⟨rfl, rfl⟩
    | false =>
      rw [hx] at hO hne
      subst hO
      rw [if_neg (by simp)] at hK hF
      subst hK hF
      go_enter Tryz.func326, Tryz.ntmps326
      go_wp2_with (first
        | (go_at_call 340; refine HS.out.mono ?_; rintro e w' ⟨rfl, rfl⟩)
        | (go_at_call 315; refine HO.out.mono ?_; rintro e w' ⟨rfl, rfl⟩))
      go_ret3
      exact ⟨rfl, rfl⟩

theorem obK_lt (w : Nat) : obK w < 4 := by
  unfold obK
  split
  · rename_i h
    simp only [isOb, Bool.and_eq_true] at h
    have := isB_true.1 (okB_true.1 h.1).1
    omega
  · omega
theorem obF_le (w : Nat) : obF w ≤ 15 := by
  unfold obF
  split
  · have := Nat.mod_lt (w % 4611686018427387904) (show 0 < 16 by decide); omega
  · omega
/-- What is laid is read. -/
theorem isOb_ob {k f : Nat} (h : okB (k : Int) (f : Int) = true) : isOb (obI k f) = true ∧ obK (obI k f) = k ∧ obF (obI k f) = f := by
  obtain ⟨h1, h2, h3⟩ := okB_true.1 h
  obtain ⟨k1, k2⟩ := isB_true.1 h1
  obtain ⟨r1, r2⟩ := room_le h1
  have e : obI k f = ob (16 * k + f) := by rw [obI, if_pos h, Int.toNat_natCast, Int.toNat_natCast]
  have em : ob (16 * k + f) % 4611686018427387904 = 16 * k + f := by unfold ob; omega
  have e1 : (16 * k + f) / 16 = k := by omega
  have e2 : (16 * k + f) % 16 = f := by omega
  have hi : isOb (ob (16 * k + f)) = true := by
    rw [isOb, em, e1, e2, h, e]
    simp
  rw [e]
  exact ⟨hi, by rw [obK, if_pos hi, em, e1], by rw [obF, if_pos hi, em, e2]⟩
theorem obI_lt (k f : Int) : obI k f < 18446744073709551616 := by
  unfold obI
  split
  · rename_i h
    obtain ⟨h1, h2, h3⟩ := okB_true.1 h
    obtain ⟨k1, k2⟩ := isB_true.1 h1
    obtain ⟨r1, r2⟩ := room_le h1
    unfold ob
    omega
  · omega
/-- What a word says that is an object's: its class has room. -/
theorem isOb_room {w : Nat} (h : isOb w = true) : ((obF w : Nat) : Int) ≤ roomI (obK w : Nat) ∧ w = obI (obK w : Nat) (obF w : Nat) := by
  have h0 := h
  simp only [isOb, Bool.and_eq_true, beq_iff_eq] at h
  rw [obF, if_pos h0, obK, if_pos h0]
  exact ⟨(okB_true.1 h.1).2.2, h.2.symm⟩
theorem isOb_lk {a : Nat} (h : a ≤ 1048576) : isOb (lk a) = false := by
  cases e : isOb (lk a) with
  | false => rfl
  | true =>
    have h1 := (isOb_room e).2
    have h2 := obK_lt (lk a)
    have h3 := obF_le (lk a)
    generalize obK (lk a) = x at *
    generalize obF (lk a) = y at *
    unfold obI at h1
    split at h1
    · unfold ob lk at h1; omega
    · unfold lk at h1; omega
end Go.Proofs.YtipifkgmhgkleaaGreatDoor.Hdr

namespace Go.Proofs.YtipifkgmhgkleaaGreatDoor.Hp
open Go.RowKit
open Class (isB isB_true isB_false is_any sizI sizI_bd roomI SizTab)
open Blk (Cfg TbIs ownB ownB_true blk kAt rowB adr perN seg)
open Go.Proofs.YtipifkgmhgkleaaGreatDoor.Row (Chg Rd)
open Arena (ArIs Two)
open Bits (SetIs)
open Lis (Sit Five Held upd upd_same upd_other set_kept lastN)
open Go.Proofs.YtipifkgmhgkleaaGreatDoor.Addr (Tabs adrB adrB_true)

/-- Where a heap lies. -/
structure Ids where
  A : Nat
  G : Nat
  T : Nat
  L : Nat
  I : Nat
  J : Nat
  B : Nat
  Bw : Nat
  O : Nat
  Ow : Nat
  Cb : Nat
  cap : Nat
  capS : Nat
  capT : Nat
  capB : Nat
  capO : Nat
  capC : Nat
  base : Nat
  baseT : Nat
  ps : Nat → Option Addr
  cs : Nat → Nat
  pt : Option Addr
  sw : List Nat
  ld : Nat
  st : Nat

/-- What a heap has: its config, its blocks' classes, its free slots, its words, what is born, what has the color 1, its cells. -/
structure St where
  c : Cfg
  ks : List Nat
  hv : Nat → List Nat
  ws : List Nat
  bs : List Nat
  os : List Nat
  ce : List Int

def own (s : St) (a : Int) : Bool := ownB s.c s.ks a
def cls (s : St) (a : Int) : Nat := kAt s.ks (blk s.c a)
def wdA (s : St) (a : Nat) : Nat := Arena.wd s.ws (a - 1)
def bn (s : St) (a : Nat) : Bool := hasB s.bs a
def fr (s : St) (a : Nat) : Bool := decide (a ∈ s.hv 0) || (decide (a ∈ s.hv 1) || (decide (a ∈ s.hv 2) || decide (a ∈ s.hv 3)))
theorem fr_true {s : St} {a : Nat} : fr s a = true ↔ ∃ k, k < 4 ∧ a ∈ s.hv k := by
  simp only [fr, Bool.or_eq_true, decide_eq_true_eq]
  constructor
  · rintro (h | h | h | h)
    · exact ⟨0, by omega, h⟩
    · exact ⟨1, by omega, h⟩
    · exact ⟨2, by omega, h⟩
    · exact ⟨3, by omega, h⟩
  · rintro ⟨k, hk, h⟩
    have : k = 0 ∨ k = 1 ∨ k = 2 ∨ k = 3 := by omega
    rcases this with rfl | rfl | rfl | rfl
    · exact .inl h
    · exact .inr (.inl h)
    · exact .inr (.inr (.inl h))
    · exact .inr (.inr (.inr h))
theorem fr_false {s : St} {a : Nat} : fr s a = false ↔ ∀ k, k < 4 → a ∉ s.hv k := by
  rw [← Bool.not_eq_true, fr_true]
  exact ⟨fun h k hk hm => h ⟨k, hk, hm⟩, fun h ⟨k, hk, hm⟩ => h k hk hm⟩

/-- What always holds of a heap. -/
structure Wf (s : St) : Prop where
  right : rightB s.c.b s.c.wd s.c.m s.c.r s.c.ce s.c.lg s.c.st = true
  words : s.c.b * s.c.wd = (s.ws.length : Int)
  full : (s.ks.length : Int) ≤ s.c.b
  free : ∀ k, k < 4 → ∀ a ∈ s.hv k, own s a = true ∧ cls s a = k ∧ bn s a = false ∧ Hdr.isOb (wdA s a) = false
  born : ∀ a, bn s a = true → own s a = true ∧ Hdr.isOb (wdA s a) = true
  room : ∀ a : Nat, own s a = true → Hdr.isOb (wdA s a) = true → Hdr.obK (wdA s a) = cls s a
  fresh : ∀ j : Nat, (s.ks.length : Int) * s.c.wd ≤ (j : Int) → Arena.wd s.ws j = 0

def seven (H : Nat) (d : Ids) (k : Nat) : Prop := k = H ∨ k = d.T ∨ k = d.B ∨ k = d.Bw ∨ k = d.O ∨ k = d.Ow ∨ k = d.Cb
def lo (d : Ids) (k : Nat) : Prop := Lis.Own d.L d.A d.G d.I d.J d.ps k
/-- The blocks that are a heap's own. -/
def Mine (H : Nat) (d : Ids) (k : Nat) : Prop := lo d k ∨ seven H d k ∨ rowB d.pt k
structure Is (w : World) (H : Nat) (d : Ids) (s : St) (m : Nat) : Prop where
  sit : Sit w d.L d.A d.G d.T d.I d.J d.cap d.capS d.base d.ps d.cs (fun k => (s.hv k).reverse) s.ws d.sw d.ld d.st
  held : Held s.ws d.sw s.hv
  tb : TbIs w d.T d.baseT s.c s.ks d.pt d.capT
  born : SetIs w d.B d.Bw (s.ws.length + 1) d.capB s.bs
  ones : SetIs w d.O d.Ow (s.ws.length + 1) d.capO s.os
  cA : w.cell? ⟨H, 0, none⟩ = some (.pointer (some ⟨d.A, 0, none⟩))
  cT : w.cell? ⟨H, 1, none⟩ = some (.pointer (some ⟨d.T, 0, none⟩))
  cL : w.cell? ⟨H, 2, none⟩ = some (.pointer (some ⟨d.L, 0, none⟩))
  cB : w.cell? ⟨H, 3, none⟩ = some (.pointer (some ⟨d.B, 0, none⟩))
  cO : w.cell? ⟨H, 4, none⟩ = some (.pointer (some ⟨d.O, 0, none⟩))
  cC : w.cell? ⟨H, 5, none⟩ = some (.slice (some ⟨d.Cb, 0, none⟩) s.ce.length d.capC)
  cells : ∀ j, j < s.ce.length → w.cell? ⟨d.Cb, j, none⟩ = some (.int .i64 (s.ce.getD j 0))
  fz : ∀ j, j < s.ce.length → w.frozen? ⟨d.Cb, j, none⟩ = false
  ltBw : d.Bw < w.heap.size
  ltOw : d.Ow < w.heap.size
  ltCb : d.Cb < w.heap.size
  nd : [H, d.T, d.B, d.Bw, d.O, d.Ow, d.Cb].Nodup
  ap : ∀ k, lo d k → ¬ seven H d k
  apT : ∀ g, rowB d.pt g → ¬ lo d g ∧ ¬ seven H d g
  bt : d.baseT ≤ w.heap.size
  hi : ∀ k, Mine H d k → 2 < k ∧ 9 < k
  cnt : d.ld ≤ m ∧ d.st ≤ m ∧ ∀ k, k < 4 → (s.hv k).length ≤ m
  capc : s.ce.length ≤ d.capC ∧ s.ce.length ≤ 64
  wf : Wf s

section
variable {w w' : World} {H : Nat} {d : Ids} {s : St} {m : Nat}
theorem Is.ltH (h : Is w H d s m) : H < w.heap.size := World.block_lt_of_cell? w _ h.cA
theorem Is.ltB (h : Is w H d s m) : d.B < w.heap.size := World.block_lt_of_cell? w _ h.born.cs
theorem Is.ltO (h : Is w H d s m) : d.O < w.heap.size := World.block_lt_of_cell? w _ h.ones.cs
theorem Is.lt (h : Is w H d s m) {k : Nat} (hk : Mine H d k) : k < w.heap.size := by
  have := h.ltH; have := h.ltB; have := h.ltO; have := h.ltBw; have := h.ltOw; have := h.ltCb; have := h.tb.ltB
  rcases hk with e | e | e
  · exact h.sit.ltO e
  · unfold seven at e; omega
  · exact (h.tb.ltG e).2
theorem Is.kept (h : Is w H d s m) (hk : ∀ k, Mine H d k → w'.heap[k]? = w.heap[k]?) (hs : w.heap.size ≤ w'.heap.size) : Is w' H d s m := by
  have h7 : ∀ k, seven H d k → w'.heap[k]? = w.heap[k]? := fun k e => hk k (.inr (.inl e))
  have cH : ∀ i, w'.cell? ⟨H, i, none⟩ = w.cell? ⟨H, i, none⟩ := fun i => Row.cell_of_block (a := ⟨H, i, none⟩) (h7 H (.inl rfl))
  have cC : ∀ i, w'.cell? ⟨d.Cb, i, none⟩ = w.cell? ⟨d.Cb, i, none⟩ := fun i => Row.cell_of_block (a := ⟨d.Cb, i, none⟩) (h7 d.Cb (.inr (.inr (.inr (.inr (.inr (.inr rfl)))))))
  have fC : ∀ i, w'.frozen? ⟨d.Cb, i, none⟩ = w.frozen? ⟨d.Cb, i, none⟩ := fun i => Row.frozen_of_block (a := ⟨d.Cb, i, none⟩) (h7 d.Cb (.inr (.inr (.inr (.inr (.inr (.inr rfl)))))))
  exact ⟨h.sit.kept (fun k e => hk k (.inl e)) hs, h.held, h.tb.kept (h7 _ (.inr (.inl rfl))) (fun g hg => hk g (.inr (.inr hg))), set_kept h.born (h7 _ (.inr (.inr (.inl rfl)))) (h7 _ (.inr (.inr (.inr (.inl rfl))))),
    set_kept h.ones (h7 _ (.inr (.inr (.inr (.inr (.inl rfl)))))) (h7 _ (.inr (.inr (.inr (.inr (.inr (.inl rfl))))))), (cH 0).trans h.cA, (cH 1).trans h.cT, (cH 2).trans h.cL, (cH 3).trans h.cB, (cH 4).trans h.cO, (cH 5).trans h.cC,
    fun j hj => (cC j).trans (h.cells j hj), fun j hj => (fC j).trans (h.fz j hj), Nat.lt_of_lt_of_le h.ltBw hs, Nat.lt_of_lt_of_le h.ltOw hs, Nat.lt_of_lt_of_le h.ltCb hs, h.nd, h.ap, h.apT, Nat.le_trans h.bt hs, h.hi, h.cnt, h.capc, h.wf⟩
theorem Is.later (h : Is w H d s m) (hb : Below w.heap.size w w') : Is w' H d s m := h.kept (fun k hk => hb.block k (h.lt hk)) hb.size
theorem Is.drewN (h : Is w H d s m) (n : Nat) : Is (w.drewN n) H d s m := h.kept (fun _ _ => rfl) (Nat.le_refl _)
theorem Is.chg {S : Nat → Prop} (h : Is w H d s m) (hc : Chg S w w') (hS : ∀ k, Mine H d k → ¬ S k) : Is w' H d s m := h.kept (fun k hk => hc.block k (h.lt hk) (hS k hk)) hc.size
theorem Is.more (h : Is w H d s m) {m' : Nat} (hm : m ≤ m') : Is w H d s m' :=
  { h with cnt := ⟨Nat.le_trans h.cnt.1 hm, Nat.le_trans h.cnt.2.1 hm, fun k hk => Nat.le_trans (h.cnt.2.2 k hk) hm⟩ }
/-- The lists, or the arena, turned. -/
theorem Is.lists (h : Is w H d s m) {ps : Nat → Option Addr} {cs : Nat → Nat} {hv : Nat → List Nat} {ws sw : List Nat} {ld st m' : Nat}
    (hs : Sit w' d.L d.A d.G d.T d.I d.J d.cap d.capS d.base ps cs (fun k => (hv k).reverse) ws sw ld st) (hh : Held ws sw hv) (hl : ws.length = s.ws.length) (hc : Chg (lo d) w w')
    (hR : ∀ j, Lis.Own d.L d.A d.G d.I d.J ps j → lo d j ∨ w.heap.size ≤ j) (hm : ld ≤ m' ∧ st ≤ m' ∧ ∀ k, k < 4 → (hv k).length ≤ m') (hw : Wf { s with hv := hv, ws := ws }) :
    Is w' H { d with ps := ps, cs := cs, sw := sw, ld := ld, st := st } { s with hv := hv, ws := ws } m' := by
  have h7 : ∀ k, seven H d k → w'.heap[k]? = w.heap[k]? := fun k e => hc.block k (h.lt (.inr (.inl e))) (fun hl => h.ap k hl e)
  have cH : ∀ i, w'.cell? ⟨H, i, none⟩ = w.cell? ⟨H, i, none⟩ := fun i => Row.cell_of_block (a := ⟨H, i, none⟩) (h7 H (.inl rfl))
  have cC : ∀ i, w'.cell? ⟨d.Cb, i, none⟩ = w.cell? ⟨d.Cb, i, none⟩ := fun i => Row.cell_of_block (a := ⟨d.Cb, i, none⟩) (h7 d.Cb (.inr (.inr (.inr (.inr (.inr (.inr rfl)))))))
  have fC : ∀ i, w'.frozen? ⟨d.Cb, i, none⟩ = w.frozen? ⟨d.Cb, i, none⟩ := fun i => Row.frozen_of_block (a := ⟨d.Cb, i, none⟩) (h7 d.Cb (.inr (.inr (.inr (.inr (.inr (.inr rfl)))))))
  have hs' := hc.size
  have e1 : s.ws.length + 1 = ws.length + 1 := by rw [hl]
  refine ⟨hs, hh, h.tb.kept (h7 _ (.inr (.inl rfl))) (fun g hg => hc.block g (h.tb.ltG hg).2 (h.apT g hg).1), ?_, ?_, (cH 0).trans h.cA, (cH 1).trans h.cT, (cH 2).trans h.cL, (cH 3).trans h.cB, (cH 4).trans h.cO, (cH 5).trans h.cC,
    fun j hj => (cC j).trans (h.cells j hj), fun j hj => (fC j).trans (h.fz j hj), Nat.lt_of_lt_of_le h.ltBw hs', Nat.lt_of_lt_of_le h.ltOw hs', Nat.lt_of_lt_of_le h.ltCb hs', h.nd, fun k hk e => ?_, fun g hg => ⟨fun hk => ?_, (h.apT g hg).2⟩, Nat.le_trans h.bt hs', fun k hk => ?_, hm, h.capc, hw⟩
  · show SetIs w' d.B d.Bw (ws.length + 1) d.capB s.bs
    rw [← e1]
    exact set_kept h.born (h7 _ (.inr (.inr (.inl rfl)))) (h7 _ (.inr (.inr (.inr (.inl rfl)))))
  · show SetIs w' d.O d.Ow (ws.length + 1) d.capO s.os
    rw [← e1]
    exact set_kept h.ones (h7 _ (.inr (.inr (.inr (.inr (.inl rfl)))))) (h7 _ (.inr (.inr (.inr (.inr (.inr (.inl rfl)))))))
  · rcases hR k hk with e2 | e2
    · exact h.ap k e2 e
    · have := h.lt (.inr (.inl e)); omega
  · rcases hR g hk with e2 | e2
    · exact (h.apT g hg).1 e2
    · have := (h.tb.ltG hg).2; omega
  · have hH := h.hi H (.inr (.inl (.inl rfl)))
    have hHl := h.ltH
    rcases hk with e | e | e
    · rcases hR k e with e2 | e2
      · exact h.hi k (.inl e2)
      · omega
    · exact h.hi k (.inr (.inl e))
    · exact h.hi k (.inr (.inr e))
/-- A set, or the cells, turned: one block. -/
theorem Is.born' (h : Is w H d s m) {bs : List Nat} (hb : SetIs w' d.B d.Bw (s.ws.length + 1) d.capB bs) (hc : ∀ k, k ≠ d.Bw → w'.heap[k]? = w.heap[k]?) (hs : w.heap.size ≤ w'.heap.size) (hw : Wf { s with bs := bs }) : Is w' H d { s with bs := bs } m := by
  have hnd := h.nd
  simp only [List.nodup_cons, List.mem_cons, List.not_mem_nil, or_false, not_or] at hnd
  have h7 : ∀ k, k ≠ d.Bw → w'.heap[k]? = w.heap[k]? := hc
  have cH : ∀ i, w'.cell? ⟨H, i, none⟩ = w.cell? ⟨H, i, none⟩ := fun i => Row.cell_of_block (a := ⟨H, i, none⟩) (h7 H (by omega))
  have cC : ∀ i, w'.cell? ⟨d.Cb, i, none⟩ = w.cell? ⟨d.Cb, i, none⟩ := fun i => Row.cell_of_block (a := ⟨d.Cb, i, none⟩) (h7 d.Cb (by omega))
  have fC : ∀ i, w'.frozen? ⟨d.Cb, i, none⟩ = w.frozen? ⟨d.Cb, i, none⟩ := fun i => Row.frozen_of_block (a := ⟨d.Cb, i, none⟩) (h7 d.Cb (by omega))
  exact ⟨h.sit.kept (fun k e => h7 k (fun x => h.ap k e (by unfold seven; omega))) hs, h.held, h.tb.kept (h7 _ (by omega)) (fun g hg => h7 g (fun x => (h.apT g hg).2 (by unfold seven; omega))), hb,
    set_kept h.ones (h7 _ (by omega)) (h7 _ (by omega)), (cH 0).trans h.cA, (cH 1).trans h.cT, (cH 2).trans h.cL, (cH 3).trans h.cB, (cH 4).trans h.cO, (cH 5).trans h.cC,
    fun j hj => (cC j).trans (h.cells j hj), fun j hj => (fC j).trans (h.fz j hj), Nat.lt_of_lt_of_le h.ltBw hs, Nat.lt_of_lt_of_le h.ltOw hs, Nat.lt_of_lt_of_le h.ltCb hs, h.nd, h.ap, h.apT, Nat.le_trans h.bt hs, h.hi, h.cnt, h.capc, hw⟩
theorem Is.ones' (h : Is w H d s m) {os : List Nat} (hb : SetIs w' d.O d.Ow (s.ws.length + 1) d.capO os) (hc : ∀ k, k ≠ d.Ow → w'.heap[k]? = w.heap[k]?) (hs : w.heap.size ≤ w'.heap.size) : Is w' H d { s with os := os } m := by
  have hnd := h.nd
  simp only [List.nodup_cons, List.mem_cons, List.not_mem_nil, or_false, not_or] at hnd
  have h7 : ∀ k, k ≠ d.Ow → w'.heap[k]? = w.heap[k]? := hc
  have cH : ∀ i, w'.cell? ⟨H, i, none⟩ = w.cell? ⟨H, i, none⟩ := fun i => Row.cell_of_block (a := ⟨H, i, none⟩) (h7 H (by omega))
  have cC : ∀ i, w'.cell? ⟨d.Cb, i, none⟩ = w.cell? ⟨d.Cb, i, none⟩ := fun i => Row.cell_of_block (a := ⟨d.Cb, i, none⟩) (h7 d.Cb (by omega))
  have fC : ∀ i, w'.frozen? ⟨d.Cb, i, none⟩ = w.frozen? ⟨d.Cb, i, none⟩ := fun i => Row.frozen_of_block (a := ⟨d.Cb, i, none⟩) (h7 d.Cb (by omega))
  exact ⟨h.sit.kept (fun k e => h7 k (fun x => h.ap k e (by unfold seven; omega))) hs, h.held, h.tb.kept (h7 _ (by omega)) (fun g hg => h7 g (fun x => (h.apT g hg).2 (by unfold seven; omega))),
    set_kept h.born (h7 _ (by omega)) (h7 _ (by omega)), hb, (cH 0).trans h.cA, (cH 1).trans h.cT, (cH 2).trans h.cL, (cH 3).trans h.cB, (cH 4).trans h.cO, (cH 5).trans h.cC,
    fun j hj => (cC j).trans (h.cells j hj), fun j hj => (fC j).trans (h.fz j hj), Nat.lt_of_lt_of_le h.ltBw hs, Nat.lt_of_lt_of_le h.ltOw hs, Nat.lt_of_lt_of_le h.ltCb hs, h.nd, h.ap, h.apT, Nat.le_trans h.bt hs, h.hi, h.cnt, h.capc,
    ⟨h.wf.right, h.wf.words, h.wf.full, h.wf.free, h.wf.born, h.wf.room, h.wf.fresh⟩⟩
/-- The table turned. -/
theorem Is.table (h : Is w H d s m) {ks : List Nat} {pt : Option Addr} {capT baseT : Nat} (ht : TbIs w' d.T baseT s.c ks pt capT) (hc : Chg (fun k => k = d.T ∨ rowB d.pt k) w w') (hR : ∀ g, rowB pt g → rowB d.pt g ∨ w.heap.size ≤ g) (hbt : baseT ≤ w'.heap.size)
    (hw : Wf { s with ks := ks }) : Is w' H { d with pt := pt, capT := capT, baseT := baseT } { s with ks := ks } m := by
  have hnd := h.nd
  simp only [List.nodup_cons, List.mem_cons, List.not_mem_nil, or_false, not_or] at hnd
  have h7 : ∀ k, seven H d k → k ≠ d.T → w'.heap[k]? = w.heap[k]? := fun k e hne => hc.block k (h.lt (.inr (.inl e))) (fun x => x.elim hne (fun x => (h.apT k x).2 e))
  have cH : ∀ i, w'.cell? ⟨H, i, none⟩ = w.cell? ⟨H, i, none⟩ := fun i => Row.cell_of_block (a := ⟨H, i, none⟩) (h7 H (.inl rfl) (by omega))
  have cC : ∀ i, w'.cell? ⟨d.Cb, i, none⟩ = w.cell? ⟨d.Cb, i, none⟩ := fun i => Row.cell_of_block (a := ⟨d.Cb, i, none⟩) (h7 d.Cb (.inr (.inr (.inr (.inr (.inr (.inr rfl)))))) (by omega))
  have fC : ∀ i, w'.frozen? ⟨d.Cb, i, none⟩ = w.frozen? ⟨d.Cb, i, none⟩ := fun i => Row.frozen_of_block (a := ⟨d.Cb, i, none⟩) (h7 d.Cb (.inr (.inr (.inr (.inr (.inr (.inr rfl)))))) (by omega))
  have hs := hc.size
  exact ⟨h.sit.kept (fun k e => hc.block k (h.lt (.inl e)) (fun x => x.elim (fun x => h.ap k e (by unfold seven; omega)) (fun x => (h.apT k x).1 e))) hs, h.held, ht,
    set_kept h.born (h7 d.B (by unfold seven; omega) (by omega)) (h7 d.Bw (by unfold seven; omega) (by omega)), set_kept h.ones (h7 d.O (by unfold seven; omega) (by omega)) (h7 d.Ow (by unfold seven; omega) (by omega)), (cH 0).trans h.cA, (cH 1).trans h.cT, (cH 2).trans h.cL, (cH 3).trans h.cB, (cH 4).trans h.cO, (cH 5).trans h.cC,
    fun j hj => (cC j).trans (h.cells j hj), fun j hj => (fC j).trans (h.fz j hj), Nat.lt_of_lt_of_le h.ltBw hs, Nat.lt_of_lt_of_le h.ltOw hs, Nat.lt_of_lt_of_le h.ltCb hs, h.nd, h.ap,
    fun g hg => (hR g hg).elim (fun e => h.apT g e) (fun e => ⟨fun x => by have := h.lt (.inl x); omega, fun x => by have := h.lt (.inr (.inl x)); omega⟩), hbt,
    fun k hk => hk.elim (fun e => h.hi k (.inl e)) (fun e => e.elim (fun e => h.hi k (.inr (.inl e))) (fun e => (hR k e).elim (fun e => h.hi k (.inr (.inr e))) (fun e => by have := h.hi H (.inr (.inl (.inl rfl))); have := h.ltH; omega))), h.cnt, h.capc, hw⟩
end

theorem Is.tabs {w w' : World} {H : Nat} {d : Ids} {s : St} {m : Nat} (h : Is w H d s m) (hc : Chg (Mine H d) w w') (ht : Tabs w) : Tabs w' := by
  have hb : Below (max 2 9 + 1) w w' := hc.below (fun k hk => by have := h.hi k hk; omega) (by have := h.hi H (.inr (.inl (.inl rfl))); have := h.ltH; omega)
  exact ht.below hb (by omega) (by omega)
/-- A heap that has turned: where it lies then, what it has then. -/
def To (w w' : World) (H : Nat) (d : Ids) (s : St) (m : Nat) : Prop := ∃ d', Is w' H d' s m ∧ Chg (Mine H d) w w' ∧ ∀ j, Mine H d' j → Mine H d j ∨ w.heap.size ≤ j
section
variable {w w1 w2 : World} {H : Nat} {d d1 : Ids} {s s1 : St} {m m1 : Nat}
theorem To.of_below (h : Is w H d s m) (hb : Below w.heap.size w w1) : To w w1 H d s m := ⟨d, h.later hb, Chg.of_below hb, fun _ e => .inl e⟩
theorem To.trans (hc : Chg (Mine H d) w w1) (hR : ∀ j, Mine H d1 j → Mine H d j ∨ w.heap.size ≤ j) (h2 : To w1 w2 H d1 s1 m1) : To w w2 H d s1 m1 := by
  obtain ⟨d2, h3, h4, h5⟩ := h2
  have hs := hc.size
  exact ⟨d2, h3, hc.trans h4 hR, fun j hj => (h5 j hj).elim (hR j) (fun e => .inr (by omega))⟩
end
end Go.Proofs.YtipifkgmhgkleaaGreatDoor.Hp

namespace Go.Proofs.YtipifkgmhgkleaaGreatDoor.Hp
open Go.RowKit
open Class (isB isB_true isB_false is_any sizI sizI_bd roomI SizTab quiet_left)
open Blk (Cfg TbIs ownB ownB_true blk kAt rowB adr perN seg ownV ownV_yes ownV_no OwnIs owner_any)
open Go.Proofs.YtipifkgmhgkleaaGreatDoor.Row (Chg Rd)
open Arena (ArIs Two)
open Bits (SetIs)
open Lis (Sit Five Held upd upd_same upd_other set_kept lastN)
open Go.Proofs.YtipifkgmhgkleaaGreatDoor.Addr (Tabs adrB adrB_true)

theorem ret_int {k : IntKind} {a b : Int} (h : a = b) : Ending.returned (.int k a) = .returned (.int k b) := by rw [h]
theorem ret_bool {a b : Bool} (h : a = b) : Ending.returned (.bool a) = .returned (.bool b) := by rw [h]

/-- Is an address an object's? A free slot's? -/
def bnI (s : St) (a : Int) : Bool := decide (0 ≤ a) && bn s a.toNat
def frI (s : St) (a : Int) : Bool := decide (0 ≤ a) && fr s a.toNat
theorem bnI_nat (s : St) (a : Nat) : bnI s (a : Int) = bn s a := by simp [bnI]
theorem frI_nat (s : St) (a : Nat) : frI s (a : Int) = fr s a := by simp [frI]
/-- Is a slot in hand? -/
def handB (s : St) (a : Int) : Bool := own s a && (!bnI s a && !frI s a)

theorem Wf.own_bd {s : St} (h : Wf s) {a : Int} (ho : own s a = true) : 1 ≤ a ∧ a ≤ (s.ws.length : Int) := by
  obtain ⟨_, h1, h2⟩ := adrB_true.1 (ownB_true.1 ho).1
  have := h.words
  omega
theorem Wf.bn_bd {s : St} (h : Wf s) {a : Nat} (ho : bn s a = true) : 1 ≤ a ∧ a ≤ s.ws.length := by
  have := h.own_bd (h.born a ho).1; omega
theorem Wf.fr_bd {s : St} (h : Wf s) {a : Nat} (ho : fr s a = true) : 1 ≤ a ∧ a ≤ s.ws.length := by
  obtain ⟨k, hk, hm⟩ := fr_true.1 ho
  have := h.own_bd (h.free k hk a hm).1; omega
theorem Wf.bnI_eq {s : St} (h : Wf s) (a : Int) : (Bits.mayB a (s.ws.length + 1 : Nat) && hasB s.bs a.toNat) = bnI s a := by
  rw [Bool.eq_iff_iff]
  simp only [Bits.mayB, bnI, bn, Bool.and_eq_true, decide_eq_true_eq]
  constructor
  · rintro ⟨⟨h1, h2⟩, h3⟩; exact ⟨h1, h3⟩
  · rintro ⟨h1, h3⟩; have := (h.bn_bd h3).2; exact ⟨⟨h1, by omega⟩, h3⟩
theorem Wf.own_cls {s : St} (_ : Wf s) {a : Int} (ho : own s a = true) : blk s.c a < s.ks.length := (ownB_true.1 ho).2.1

section
variable {w w' : World} {H : Nat} {d : Ids} {s : St} {m : Nat}
theorem Is.frI_eq (h : Is w H d s m) (a : Int) : (Bits.mayB a (s.ws.length + 1 : Nat) && hasB d.sw a.toNat) = frI s a := by
  rw [Bool.eq_iff_iff]
  simp only [Bits.mayB, frI, Bool.and_eq_true, decide_eq_true_eq]
  constructor
  · rintro ⟨⟨h1, h2⟩, h3⟩; exact ⟨h1, fr_true.2 ((h.held.isIn a.toNat (by omega)).1 h3)⟩
  · rintro ⟨h1, h3⟩
    have := (h.wf.fr_bd h3).2
    exact ⟨⟨h1, by omega⟩, (h.held.isIn a.toNat (by omega)).2 (fr_true.1 h3)⟩
end

theorem isO_any {H : Nat} {d : Ids} {s : St} {m : Nat} (a : Int) (w : World) (h : Is w H d s m) : Calls Tryz.prog 303 #[.pointer (some ⟨H, 0, none⟩), .int .i64 a] w fun e w' => e = .returned (.bool (bnI s a)) ∧ ∃ q, w' = w.drewN q := by
  have hcB := h.cB
  have hb := Lib.hid h.born
  rw [← h.wf.bnI_eq a]
  clear h
  go_enter Tryz.func303, Tryz.ntmps303
  go_wp2_with (go_at_call 276; refine (Bits.has_any _ _ _ _ _ a _ hb.out).mono ?_; rintro e w' ⟨rfl, k, rfl⟩)
  go_ret
  exact ⟨rfl, _, rfl⟩
theorem has_any {H : Nat} {d : Ids} {s : St} {m : Nat} (a : Int) (w : World) (h : Is w H d s m) : Calls Tryz.prog 348 #[.pointer (some ⟨d.L, 0, none⟩), .int .i64 a] w fun e w' => e = .returned (.bool (frI s a)) ∧ ∃ q, w' = w.drewN q := by
  have := Lis.has_any a w h.sit.ls h.sit.si
  rw [h.frI_eq a] at this
  exact this
theorem loose_any {H : Nat} {d : Ids} {s : St} {m : Nat} (a : Int) (w : World) (h : Is w H d s m) : Calls Tryz.prog 339 #[.pointer (some ⟨H, 0, none⟩), .int .i64 a] w fun e w' => e = .returned (.bool (!bnI s a && !frI s a)) ∧ ∃ q, w' = w.drewN q := by
  have hcL := h.cL
  have HI := Lib.hid (isO_any a w h)
  have HF := Lib.hid (fun n => has_any a _ (h.drewN n))
  clear h
  generalize frI s a = y at *
  cases hb : bnI s a with
  | true =>
    rw [hb] at HI
    go_enter Tryz.func339, Tryz.ntmps339
    go_wp2_with (go_at_call 303; refine HI.out.mono ?_; rintro e w' ⟨rfl, k, rfl⟩)
    go_ret
    exact ⟨rfl, _, rfl⟩
  | false =>
    rw [hb] at HI
    go_enter Tryz.func339, Tryz.ntmps339
    go_wp2_with (first
      | (go_at_call 303; refine HI.out.mono ?_; rintro e w' ⟨rfl, k, rfl⟩)
      | (go_at_call 348; refine (HF.out _).mono ?_; rintro e w' ⟨rfl, k2, rfl⟩))
    go_ret
    exact ⟨rfl, _, rfl⟩
set_option maxHeartbeats 1000000 in
theorem hand_any {H : Nat} {d : Ids} {s : St} {m : Nat} (a : Int) (w : World) (h : Is w H d s m) (ht : Tabs w) : Calls Tryz.prog 325 #[.pointer (some ⟨H, 0, none⟩), .int .i64 a] w fun e w' => e = .returned (.tuple #[.int .i64 ((if handB s a = true then cls s a else 0 : Nat) : Int), .bool (handB s a)]) ∧ Below w.heap.size w w' := by
  have hcT := h.cT
  have HH := Lib.hid h
  have HO := Lib.hid (owner_any a w h.tb ht h.wf.right)
  cases ho : own s a with
  | false =>
    have hh : handB s a = false := by simp [handB, ho]
    rw [hh]
    rw [ownV_no ho] at HO
    clear h
    go_enter Tryz.func325, Tryz.ntmps325
    go_wp2_with (go_at_call 336; refine HO.out.mono ?_; rintro e w1 ⟨rfl, hb1⟩)
    go_ret2
    exact ⟨rfl, hb1⟩
  | true =>
    have hh : handB s a = (!bnI s a && !frI s a) := by simp [handB, ho]
    rw [ownV_yes ho] at HO
    rw [hh]
    clear h
    cases hl : (!bnI s a && !frI s a) with
    | true =>
      go_enter Tryz.func325, Tryz.ntmps325
      go_wp2_with (first
        | (go_at_call 336; refine HO.out.mono ?_; rintro e w1 ⟨rfl, hb1⟩)
        | (go_at_call 339; refine (loose_any a _ (HH.out.later hb1)).mono ?_; rintro e w2 ⟨rfl, q, rfl⟩; rw [hl]))
      go_ret2
      exact ⟨rfl, Class.below_drewN hb1 _⟩
    | false =>
      go_enter Tryz.func325, Tryz.ntmps325
      go_wp2_with (first
        | (go_at_call 336; refine HO.out.mono ?_; rintro e w1 ⟨rfl, hb1⟩)
        | (go_at_call 339; refine (loose_any a _ (HH.out.later hb1)).mono ?_; rintro e w2 ⟨rfl, q, rfl⟩; rw [hl]))
      go_ret2
      exact ⟨rfl, Class.below_drewN hb1 _⟩
theorem taken_any {H : Nat} {d : Ids} {s : St} {m : Nat} (a : Int) (w : World) (h : Is w H d s m) (ht : Tabs w) : Calls Tryz.prog 298 #[.pointer (some ⟨H, 0, none⟩), .int .i64 a] w fun e w' => e = .returned (.bool (bnI s a || handB s a)) ∧ Below w.heap.size w w' := by
  have HI := Lib.hid (isO_any a w h)
  have HT := Lib.hid (fun n => hand_any a _ (h.drewN n) (ht.drewN n))
  clear h ht
  cases hb : bnI s a with
  | true =>
    rw [hb] at HI
    go_enter Tryz.func298, Tryz.ntmps298
    go_wp2_with (go_at_call 303; refine HI.out.mono ?_; rintro e w' ⟨rfl, k, rfl⟩)
    go_ret
    exact ⟨rfl, Class.below_drewN (Below.refl _ _) _⟩
  | false =>
    rw [hb] at HI
    rw [Bool.false_or]
    generalize handB s a = v at *
    generalize (if v = true then cls s a else 0) = u at *
    go_enter Tryz.func298, Tryz.ntmps298
    go_wp2_with (first
      | (go_at_call 303; refine HI.out.mono ?_; rintro e w' ⟨rfl, k, rfl⟩)
      | (go_at_call 325; refine (HT.out _).mono ?_; rintro e w2 ⟨rfl, hb2⟩))
    go_ret
    exact ⟨rfl, (Class.below_drewN (Below.refl _ _) _).trans hb2⟩

/-- A word that is loaded: the arena counts it. -/
theorem Is.loaded {w w' : World} {H : Nat} {d : Ids} {s : St} {m : Nat} (h : Is w H d s m) (ha : ArIs w' d.A d.G d.cap s.ws (d.ld + 1) d.st) (ht : Two d.A d.G w w') : To w w' H d s (m + 1) := by
  have F := h.sit.five
  have hl : ∀ k, lo d k → k ≠ d.A → k ≠ d.G → w'.heap[k]? = w.heap[k]? := fun k hk n1 n2 => ht.block k (h.lt (.inl hk)) n1 n2
  have hs : Sit w' d.L d.A d.G d.T d.I d.J d.cap d.capS d.base d.ps d.cs (fun k => (s.hv k).reverse) s.ws d.sw (d.ld + 1) d.st :=
    ⟨h.sit.ls.kept (hl _ (.inl rfl) F.la F.lg) (fun k hk g hg => hl g (.inr (.inr (.inr (.inr (.inr ⟨k, hk, hg⟩))))) (h.sit.rows k hk g hg).1 (h.sit.rows k hk g hg).2.1), ha, set_kept h.sit.si (hl _ (.inr (.inr (.inr (.inl rfl)))) (Ne.symm F.ai) (Ne.symm F.gi)) (hl _ (.inr (.inr (.inr (.inr (.inl rfl))))) (Ne.symm F.aj) (Ne.symm F.gj)), F,
      Nat.lt_of_lt_of_le h.sit.ltG ht.size, Nat.lt_of_lt_of_le h.sit.ltJ ht.size, h.sit.rows, Nat.le_trans h.sit.bs ht.size⟩
  have hc := Lis.own_two (L := d.L) (I := d.I) (J := d.J) (ps := d.ps) ht
  obtain ⟨c1, c2, c3⟩ := h.cnt
  exact ⟨_, h.lists hs h.held rfl hc (fun _ e => .inl e) ⟨by omega, by omega, fun k hk => by have := c3 k hk; omega⟩ h.wf, hc.mono (fun _ e => .inl e), fun _ e => .inl e⟩
set_option maxHeartbeats 1000000 in
theorem begun_any {H : Nat} {d : Ids} {s : St} {m : Nat} (a : Nat) (w : World) (h : Is w H d s m) (ht : Tabs w) (hm : m < 1000000) (h1 : 1 ≤ a) (h2 : a ≤ s.ws.length) :
    Calls Tryz.prog 299 #[.pointer (some ⟨H, 0, none⟩), .int .i64 a] w fun e w' => e = .returned (.tuple #[.int .i64 (Hdr.obF (wdA s a)), .bool (Hdr.isOb (wdA s a))]) ∧ To w w' H d s (m + 1) := by
  have hcA := h.cA
  have hz : Arena.codeN s.ws.length (a : Int) = 0 := by unfold Arena.codeN; rw [if_neg (by omega), if_neg (by omega)]
  have e1 : Arena.getR s.ws (a : Int) = wdA s a := by rw [Arena.getR, if_pos hz, Int.toNat_natCast]; rfl
  have e2 : Arena.oneN s.ws.length (a : Int) = 1 := if_pos hz
  have hld := h.cnt.1
  have hl := Arena.load_any w h.sit.ar h.sit.ltG (by omega) (a : Int)
  rw [e1, e2, hz] at hl
  have HL := Lib.hid hl
  have HP := Lib.hid (fun W : World => fun hs : SizTab W => Hdr.parse_any (wdA s a) W (h.held.word _) hs)
  have HX : Hid (∀ w1 : World, ArIs w1 d.A d.G d.cap s.ws (d.ld + 1) d.st → Two d.A d.G w w1 → SizTab w1 ∧ To w w1 H d s (m + 1)) := Lib.hid fun w1 ha h2 => by
    have ht1 := h.loaded ha h2
    obtain ⟨d', h3, h4, h5⟩ := ht1
    exact ⟨(h.tabs h4 ht).siz, d', h3, h4, h5⟩
  clear h ht hl e1 e2 hz
  generalize wdA s a = x at *
  go_enter Tryz.func299, Tryz.ntmps299
  go_wp2_with (first
    | (go_at_call 258; refine HL.out.mono ?_; rintro e w1 ⟨rfl, ha, h2⟩)
    | (go_at_call 326; refine (HP.out _ (HX.out _ ha h2).1).mono ?_; rintro e w2 ⟨rfl, rfl⟩))
  go_ret2
  exact ⟨rfl, (HX.out _ ha h2).2⟩
end Go.Proofs.YtipifkgmhgkleaaGreatDoor.Hp

namespace Go.Proofs.YtipifkgmhgkleaaGreatDoor.Hp
open Go.RowKit
open Class (isB isB_true isB_false sizI sizI_bd roomI)
open Blk (Cfg ownB ownB_true blk kAt)
open Lis (upd upd_same upd_other)
open Go.Proofs.YtipifkgmhgkleaaGreatDoor.Addr (adrB adrB_true)

theorem siz_four {k : Int} (h : isB k = true) : sizI k = 2 ∨ sizI k = 4 ∨ sizI k = 8 ∨ sizI k = 16 := by
  obtain ⟨h1, h2⟩ := isB_true.1 h
  unfold sizI
  have : k = 0 ∨ k = 1 ∨ k = 2 ∨ k = 3 := by omega
  rcases this with rfl | rfl | rfl | rfl <;> simp
/-- Where a slot lies. -/
structure Geo (s : St) (a : Int) : Prop where
  cl : isB (cls s a) = true
  bl : blk s.c a < s.ks.length
  at_ : a = (blk s.c a : Int) * s.c.wd + 1 + Addr.offI s.c.wd a
  off0 : 0 ≤ Addr.offI s.c.wd a
  off1 : Addr.offI s.c.wd a + sizI (cls s a) ≤ s.c.wd
  mod : Addr.offI s.c.wd a % sizI (cls s a) = 0
  wd0 : 16 ≤ s.c.wd
theorem Wf.geo {s : St} (h : Wf s) {a : Int} (ho : own s a = true) : Geo s a := by
  obtain ⟨hA, hb1, hF, h0⟩ := ownB_true.1 ho
  obtain ⟨_, hB, hlt⟩ := Addr.finB_true.1 hF
  have hbd := h.own_bd ho
  have hRC := Blk.slots_bd h.right
  obtain ⟨g1, g2, g3, g4, g5⟩ := Addr.adr_parts hRC (show 1 ≤ a by omega) (by have := h.words; omega)
  have hd := (Addr.blkB_true.1 g1).1
  have hblk : ((Blk.blk s.c a : Nat) : Int) = (a - 1) / s.c.wd := by unfold Blk.blk; omega
  have hB' : isB (cls s a) = true := hB
  have hp : Addr.offI s.c.wd a / sizI (cls s a) < s.c.wd / sizI (cls s a) := by
    have := Class.perI_yes hB' (Class.wordsB_true.2 ⟨hRC.wd0, hRC.wd1⟩)
    rw [← this]; exact hlt
  have h0' : Addr.offI s.c.wd a % sizI (cls s a) = 0 := h0
  refine ⟨hB', hb1, by rw [hblk]; exact g3, g4, ?_, h0', hRC.wd0⟩
  rcases siz_four hB' with e | e | e | e <;> rw [e] at hp h0' ⊢ <;> omega
theorem Geo.le {s : St} {a : Int} (h : Geo s a) : a - 1 + sizI (cls s a) ≤ (s.ks.length : Int) * s.c.wd := by
  have h1 := h.at_
  have h2 := h.off1
  have h3 := h.wd0
  have h4 := h.bl
  have h5 : ((Blk.blk s.c a : Int) + 1) * s.c.wd ≤ (s.ks.length : Int) * s.c.wd := Int.mul_le_mul_of_nonneg_right (by omega) (by omega)
  rw [Int.add_mul, Int.one_mul] at h5
  omega
/-- What belongs to two slots is apart. -/
theorem Wf.apart {s : St} (h : Wf s) {a b : Int} (ha : own s a = true) (hb : own s b = true) {i j : Int} (hi : 0 ≤ i) (hj : 0 ≤ j) (hi2 : i < sizI (cls s a)) (hj2 : j < sizI (cls s b)) (e : a + i = b + j) : a = b ∧ i = j := by
  have ga := h.geo ha
  have gb := h.geo hb
  have a1 := ga.at_
  have a2 := ga.off0
  have a3 := ga.off1
  have a4 := ga.wd0
  have b1 := gb.at_
  have b2 := gb.off0
  have b3 := gb.off1
  rcases Nat.lt_trichotomy (Blk.blk s.c a) (Blk.blk s.c b) with hl | he | hl
  · have h5 : ((Blk.blk s.c a : Int) + 1) * s.c.wd ≤ (Blk.blk s.c b : Int) * s.c.wd := Int.mul_le_mul_of_nonneg_right (by omega) (by omega)
    rw [Int.add_mul, Int.one_mul] at h5
    omega
  · have hc : cls s a = cls s b := by unfold cls; rw [he]
    have a5 := ga.mod
    have b5 := gb.mod
    rw [he] at a1
    rw [← hc] at b3 b5 hj2
    rcases siz_four ga.cl with e4 | e4 | e4 | e4 <;> rw [e4] at a5 b5 hi2 hj2 <;> omega
  · have h5 : ((Blk.blk s.c b : Int) + 1) * s.c.wd ≤ (Blk.blk s.c a : Int) * s.c.wd := Int.mul_le_mul_of_nonneg_right (by omega) (by omega)
    rw [Int.add_mul, Int.one_mul] at h5
    omega
theorem Wf.in_ws {s : St} (h : Wf s) {a : Nat} (ho : own s a = true) : ((a - 1 : Nat) : Int) + sizI (cls s a) ≤ (s.ws.length : Int) ∧ ((a - 1 : Nat) : Int) + sizI (cls s a) ≤ (s.ks.length : Int) * s.c.wd ∧ 1 ≤ a ∧ 2 ≤ sizI (cls s a) := by
  have h1 := (h.geo ho).le
  have h2 := (h.own_bd ho).1
  have h3 := h.full
  have h4 : (s.ks.length : Int) * s.c.wd ≤ s.c.b * s.c.wd := Int.mul_le_mul_of_nonneg_right h3 (by have := (h.geo ho).wd0; omega)
  have h5 := h.words
  have h6 := (sizI_bd (h.geo ho).cl).1
  omega

/-- A word of a slot laid: what the first words of slots are then. -/
theorem Wf.wdA_set {s : St} (h : Wf s) {a b i v : Nat} (ha : own s a = true) (hb : own s b = true) (hi : (i : Int) < sizI (cls s a)) : Arena.wd (s.ws.set (a - 1 + i) v) (b - 1) = if b = a ∧ i = 0 then v else wdA s b := by
  have ga := h.in_ws ha
  have gb := h.in_ws hb
  rw [Arena.wd_set]
  by_cases e : b = a ∧ i = 0
  · rw [if_pos e, if_pos (by omega)]
  · rw [if_neg e, if_neg ?_]
    · rfl
    · intro hx
      have := h.apart (a := a) (b := b) ha hb (i := i) (j := 0) (by omega) (by omega) hi (by omega) (by omega)
      omega
theorem fresh_set {s : St} (h : Wf s) {a i v : Nat} (ha : own s a = true) (hi : (i : Int) < sizI (cls s a)) (j : Nat) (hj : (s.ks.length : Int) * s.c.wd ≤ (j : Int)) : Arena.wd (s.ws.set (a - 1 + i) v) j = 0 := by
  have ga := h.in_ws ha
  rw [Arena.wd_set, if_neg (by omega)]
  exact h.fresh j hj

theorem Wf.take {s : St} (h : Wf s) {k a : Nat} {l : List Nat} (he : s.hv k = a :: l) : Wf { s with hv := upd s.hv k l } := by
  refine ⟨h.right, h.words, h.full, fun j hj x hx => ?_, h.born, h.room, h.fresh⟩
  have hx' : x ∈ upd s.hv k l j := hx
  by_cases e : j = k
  · subst e
    rw [upd_same] at hx'
    exact h.free j hj x (by rw [he]; exact List.mem_cons_of_mem _ hx')
  · rw [upd_other _ _ e] at hx'
    exact h.free j hj x hx'
theorem Wf.put {s : St} (h : Wf s) {a x : Nat} (ho : own s a = true) (hn : bn s a = false) (hx : x ≤ 1048576) : Wf { s with hv := upd s.hv (cls s a) (a :: s.hv (cls s a)), ws := s.ws.set (a - 1) (Hdr.lk x) } := by
  have h2 : (0 : Int) < sizI (cls s a) := by have := (h.in_ws ho).2.2.2; omega
  have hw : ∀ b : Nat, own s b = true → Arena.wd (s.ws.set (a - 1) (Hdr.lk x)) (b - 1) = if b = a then Hdr.lk x else wdA s b := fun b hb => by
    have := h.wdA_set (i := 0) (v := Hdr.lk x) ho hb h2
    rw [Nat.add_zero] at this
    rw [this]
    simp
  have hk := Hdr.isOb_lk hx
  refine ⟨h.right, by show _ = ((s.ws.set (a - 1) (Hdr.lk x)).length : Int); rw [List.length_set]; exact h.words, h.full, fun j hj b hb => ?_, fun b hb => ?_, fun b hb hi => ?_, fun j hj => ?_⟩
  · have hb' : b ∈ upd s.hv (cls s a) (a :: s.hv (cls s a)) j := hb
    have hc : b = a ∧ j = cls s a ∨ b ∈ s.hv j := by
      by_cases e : j = cls s a
      · rw [e, upd_same] at hb'
        rcases List.mem_cons.1 hb' with e2 | e2
        · exact .inl ⟨e2, e⟩
        · right; rw [e]; exact e2
      · rw [upd_other _ _ e] at hb'; exact .inr hb'
    show own s b = true ∧ cls s b = j ∧ bn s b = false ∧ Hdr.isOb (Arena.wd (s.ws.set (a - 1) (Hdr.lk x)) (b - 1)) = false
    rcases hc with ⟨rfl, rfl⟩ | hm
    · exact ⟨ho, rfl, hn, by rw [hw b ho, if_pos rfl]; exact hk⟩
    · obtain ⟨c1, c2, c3, c4⟩ := h.free j hj b hm
      refine ⟨c1, c2, c3, ?_⟩
      rw [hw b c1]
      split
      · exact hk
      · exact c4
  · obtain ⟨c1, c2⟩ := h.born b hb
    refine ⟨c1, ?_⟩
    show Hdr.isOb (Arena.wd (s.ws.set (a - 1) (Hdr.lk x)) (b - 1)) = true
    have hb' : bn s b = true := hb
    rw [hw b c1, if_neg (fun e => by subst e; rw [hn] at hb'; cases hb')]
    exact c2
  · have hi' : Hdr.isOb (Arena.wd (s.ws.set (a - 1) (Hdr.lk x)) (b - 1)) = true := hi
    show Hdr.obK (Arena.wd (s.ws.set (a - 1) (Hdr.lk x)) (b - 1)) = cls s b
    rw [hw b hb] at hi' ⊢
    split at hi'
    · rw [hk] at hi'; cases hi'
    · rename_i e; rw [if_neg e]; exact h.room b hb hi'
  · have := fresh_set h (i := 0) (v := Hdr.lk x) ho h2 j hj
    rwa [Nat.add_zero] at this
/-- A field laid. -/
theorem Wf.store {s : St} (h : Wf s) {a f v : Nat} (ho : own s a = true) (hf : (f : Int) + 1 < sizI (cls s a)) : Wf { s with ws := s.ws.set (a + f) v } := by
  have hp := h.in_ws ho
  have e1 : a + f = a - 1 + (f + 1) := by omega
  have hw : ∀ b : Nat, own s b = true → Arena.wd (s.ws.set (a + f) v) (b - 1) = wdA s b := fun b hb => by
    rw [e1, h.wdA_set (i := f + 1) ho hb (by omega), if_neg (by omega)]
  refine ⟨h.right, by show _ = ((s.ws.set (a + f) v).length : Int); rw [List.length_set]; exact h.words, h.full, fun j hj b hb => ?_, fun b hb => ?_, fun b hb hi => ?_, fun j hj => ?_⟩
  · obtain ⟨c1, c2, c3, c4⟩ := h.free j hj b hb
    exact ⟨c1, c2, c3, by show Hdr.isOb (Arena.wd (s.ws.set (a + f) v) (b - 1)) = false; rw [hw b c1]; exact c4⟩
  · obtain ⟨c1, c2⟩ := h.born b hb
    exact ⟨c1, by show Hdr.isOb (Arena.wd (s.ws.set (a + f) v) (b - 1)) = true; rw [hw b c1]; exact c2⟩
  · have hi' : Hdr.isOb (Arena.wd (s.ws.set (a + f) v) (b - 1)) = true := hi
    show Hdr.obK (Arena.wd (s.ws.set (a + f) v) (b - 1)) = cls s b
    rw [hw b hb] at hi' ⊢
    exact h.room b hb hi'
  · show Arena.wd (s.ws.set (a + f) v) j = 0
    rw [e1]
    exact fresh_set h (i := f + 1) ho (by omega) j hj
/-- A header laid. -/
theorem Wf.begin {s : St} (h : Wf s) {a n : Nat} (ho : own s a = true) (hb : bn s a = false) (hf : fr s a = false) (hok : Hdr.okB (cls s a : Nat) (n : Nat) = true) : Wf { s with ws := s.ws.set (a - 1) (Hdr.obI (cls s a : Nat) (n : Nat)) } := by
  have h2 : (0 : Int) < sizI (cls s a) := by have := (h.in_ws ho).2.2.2; omega
  obtain ⟨i1, i2, i3⟩ := Hdr.isOb_ob hok
  generalize Hdr.obI (cls s a : Nat) (n : Nat) = x at *
  have hw : ∀ b : Nat, own s b = true → Arena.wd (s.ws.set (a - 1) x) (b - 1) = if b = a then x else wdA s b := fun b hb => by
    have := h.wdA_set (i := 0) (v := x) ho hb h2
    rw [Nat.add_zero] at this
    rw [this]
    simp
  refine ⟨h.right, by show _ = ((s.ws.set (a - 1) x).length : Int); rw [List.length_set]; exact h.words, h.full, fun j hj b hm => ?_, fun b hb => ?_, fun b hb hi => ?_, fun j hj => ?_⟩
  · obtain ⟨c1, c2, c3, c4⟩ := h.free j hj b hm
    refine ⟨c1, c2, c3, ?_⟩
    show Hdr.isOb (Arena.wd (s.ws.set (a - 1) x) (b - 1)) = false
    rw [hw b c1, if_neg (fun e => by subst e; exact fr_false.1 hf j hj hm)]
    exact c4
  · obtain ⟨c1, c2⟩ := h.born b hb
    refine ⟨c1, ?_⟩
    show Hdr.isOb (Arena.wd (s.ws.set (a - 1) x) (b - 1)) = true
    rw [hw b c1]
    split
    · exact i1
    · exact c2
  · have hi' : Hdr.isOb (Arena.wd (s.ws.set (a - 1) x) (b - 1)) = true := hi
    show Hdr.obK (Arena.wd (s.ws.set (a - 1) x) (b - 1)) = cls s b
    rw [hw b hb] at hi' ⊢
    split
    · rename_i e; subst e; exact i2
    · rename_i e; rw [if_neg e] at hi'; exact h.room b hb hi'
  · have := fresh_set h (i := 0) (v := x) ho h2 j hj
    rwa [Nat.add_zero] at this
/-- A slot in hand born; an object no longer. -/
theorem Wf.bear {s : St} (h : Wf s) {a : Nat} {bs : List Nat} (ho : own s a = true) (hf : fr s a = false) (hi : Hdr.isOb (wdA s a) = true) (hbs : ∀ b, hasB bs b = if b = a then true else bn s b) : Wf { s with bs := bs } := by
  refine ⟨h.right, h.words, h.full, fun j hj b hm => ?_, fun b hb => ?_, h.room, h.fresh⟩
  · obtain ⟨c1, c2, c3, c4⟩ := h.free j hj b hm
    refine ⟨c1, c2, ?_, c4⟩
    show hasB bs b = false
    rw [hbs b, if_neg (fun e => by subst e; exact fr_false.1 hf j hj hm)]
    exact c3
  · have hb' : hasB bs b = true := hb
    rw [hbs b] at hb'
    split at hb'
    · rename_i e; subst e; exact ⟨ho, hi⟩
    · exact h.born b hb'

/-- A block assigned: whose slots there are then. -/
theorem kAt_snoc {ks : List Nat} {k j : Nat} (h : j < ks.length) : kAt (ks ++ [k]) j = kAt ks j := by
  simp [kAt, List.getD_eq_getElem?_getD, List.getElem?_append_left h]
theorem kAt_last {ks : List Nat} {k : Nat} : kAt (ks ++ [k]) ks.length = k := by simp [kAt, List.getD_eq_getElem?_getD]
theorem own_old {s : St} {k : Nat} {a : Int} (h : blk s.c a < s.ks.length) : ownB s.c (s.ks ++ [k]) a = own s a ∧ kAt (s.ks ++ [k]) (blk s.c a) = cls s a := by
  have e := kAt_snoc (k := k) h
  refine ⟨?_, e⟩
  unfold own ownB
  rw [e]
  have e2 : decide (blk s.c a < (s.ks ++ [k]).length) = decide (blk s.c a < s.ks.length) := by
    rw [decide_eq_true h, decide_eq_true (by simp; omega)]
  rw [e2]
theorem own_new {s : St} {k : Nat} {a : Int} (h : ownB s.c (s.ks ++ [k]) a = true) : blk s.c a < s.ks.length ∧ own s a = true ∨ blk s.c a = s.ks.length ∧ own s a = false := by
  have hb := (ownB_true.1 h).2.1
  rw [List.length_append, List.length_singleton] at hb
  by_cases hl : blk s.c a < s.ks.length
  · exact .inl ⟨hl, by rw [← (own_old (k := k) hl).1]; exact h⟩
  · refine .inr ⟨by omega, ?_⟩
    rw [← Bool.not_eq_true]
    intro ho
    exact hl (ownB_true.1 ho).2.1
theorem Wf.assign {s : St} (h : Wf s) {k : Nat} (_ : k < 4) (hl : (s.ks.length : Int) < s.c.b) : Wf { s with ks := s.ks ++ [k] } := by
  have hRC := Blk.slots_bd h.right
  have hold : ∀ a : Int, own s a = true → ownB s.c (s.ks ++ [k]) a = true ∧ kAt (s.ks ++ [k]) (blk s.c a) = cls s a := fun a ha => by
    have := own_old (k := k) (h.own_cls ha)
    exact ⟨by rw [this.1]; exact ha, this.2⟩
  refine ⟨h.right, h.words, by show ((s.ks ++ [k]).length : Int) ≤ s.c.b; rw [List.length_append, List.length_singleton]; omega, fun j hj b hm => ?_, fun b hb => ?_, fun b hb hi => ?_, fun j hj => ?_⟩
  · obtain ⟨c1, c2, c3, c4⟩ := h.free j hj b hm
    exact ⟨(hold _ c1).1, (hold _ c1).2.trans c2, c3, c4⟩
  · obtain ⟨c1, c2⟩ := h.born b hb
    exact ⟨(hold _ c1).1, c2⟩
  · have hb' : ownB s.c (s.ks ++ [k]) (b : Int) = true := hb
    rcases own_new hb' with ⟨h1, h2⟩ | ⟨h1, h2⟩
    · exact (h.room b h2 hi).trans (hold _ h2).2.symm
    · exfalso
      have hA := adrB_true.1 (ownB_true.1 hb').1
      obtain ⟨g1, g2, g3, g4, g5⟩ := Addr.adr_parts hRC (show 1 ≤ (b : Int) by omega) hA.2.2
      have hd := (Addr.blkB_true.1 g1).1
      have hblk : ((Blk.blk s.c b : Nat) : Int) = ((b : Int) - 1) / s.c.wd := by unfold Blk.blk; omega
      rw [← hblk, h1] at g3
      have hz : wdA s b = 0 := h.fresh (b - 1) (by omega)
      have hi' : Hdr.isOb (wdA s b) = true := hi
      rw [hz] at hi'
      revert hi'
      decide
  · apply h.fresh j
    have h3 : (s.ks.length : Int) * s.c.wd ≤ ((s.ks ++ [k]).length : Int) * s.c.wd := Int.mul_le_mul_of_nonneg_right (by rw [List.length_append, List.length_singleton]; omega) (by have := hRC.wd0; omega)
    have hj' : ((s.ks ++ [k]).length : Int) * s.c.wd ≤ (j : Int) := hj
    omega
end Go.Proofs.YtipifkgmhgkleaaGreatDoor.Hp

namespace Go.Proofs.YtipifkgmhgkleaaGreatDoor.Hp
open Go.RowKit
open Class (isB isB_true isB_false is_any sizI sizI_bd roomI SizTab quiet_left below_drewN)
open Blk (Cfg TbIs ownB ownB_true blk kAt rowB adr perN seg)
open Go.Proofs.YtipifkgmhgkleaaGreatDoor.Row (Chg Rd)
open Arena (ArIs Two)
open Bits (SetIs)
open Lis (Sit Five Held upd upd_same upd_other set_kept lastN)
open Go.Proofs.YtipifkgmhgkleaaGreatDoor.Addr (Tabs adrB adrB_true)

/-- What Fields tells: an error; how many. -/
def takB (s : St) (a : Int) : Bool := (bnI s a || handB s a) && Hdr.isOb (wdA s a.toNat)
def fE (s : St) (a : Int) : Int := if a = 0 then 6 else if takB s a = true then 0 else 1
def fN (s : St) (a : Int) : Nat := if a = 0 then 0 else if takB s a = true then Hdr.obF (wdA s a.toNat) else 0
theorem Wf.bnI_own {s : St} (h : Wf s) {a : Int} (hb : bnI s a = true) : own s a = true := by
  unfold bnI at hb
  rw [Bool.and_eq_true, decide_eq_true_eq] at hb
  have := (h.born a.toNat hb.2).1
  rwa [Int.toNat_of_nonneg hb.1] at this
theorem Wf.taken_own {s : St} (h : Wf s) {a : Int} (hb : (bnI s a || handB s a) = true) : own s a = true := by
  rcases Bool.or_eq_true _ _ ▸ hb with e | e
  · exact h.bnI_own e
  · unfold handB at e; rw [Bool.and_eq_true] at e; exact e.1

set_option maxHeartbeats 1000000 in
theorem fields_any {H : Nat} {d : Ids} {s : St} {m : Nat} (a : Int) (w : World) (h : Is w H d s m) (ht : Tabs w) (hm : m < 1000000) :
    Calls Tryz.prog 254 #[.pointer (some ⟨H, 0, none⟩), .int .i64 a] w fun e w' => e = .returned (.tuple #[.int .i64 (fN s a), .int .i64 (fE s a)]) ∧ To w w' H d s (m + 1) := by
  have HH := Lib.hid h
  have HT := Lib.hid ht
  by_cases h0 : a = 0
  · rw [fN, fE, if_pos h0, if_pos h0]
    subst h0
    clear h ht
    go_enter Tryz.func254, Tryz.ntmps254
    go_wp2
    go_ret2
    exact ⟨rfl, To.of_below (HH.out.more (Nat.le_succ _)) (Below.refl _ _)⟩
  · have h0b : (a == 0) = false := by simpa using h0
    have HK := Lib.hid (taken_any a w h ht)
    rw [fN, fE, if_neg h0, if_neg h0]
    cases hk : (bnI s a || handB s a) with
    | false =>
      have e : takB s a = false := by simp only [takB, hk, Bool.false_and]
      rw [if_neg (by simp [e]), if_neg (by simp [e])]
      rw [hk] at HK
      clear h ht e
      go_enter Tryz.func254, Tryz.ntmps254
      go_wp2_with (go_at_call 298; refine HK.out.mono ?_; rintro e w' ⟨rfl, hb1⟩)
      go_ret2
      exact ⟨rfl, To.of_below (HH.out.more (Nat.le_succ _)) hb1⟩
    | true =>
      have ho := h.wf.own_bd (h.wf.taken_own hk)
      obtain ⟨n, rfl⟩ := Int.eq_ofNat_of_zero_le (show 0 ≤ a by omega)
      have HB := Lib.hid (fun W : World => fun hb : Below w.heap.size w W => begun_any n W (h.later hb) (ht.later hb) hm (by omega) (by omega))
      have e : takB s n = Hdr.isOb (wdA s n) := by simp only [takB, hk, Bool.true_and, Int.toNat_natCast]
      have hto : ∀ (w1 w2 : World), Below w.heap.size w w1 → To w1 w2 H d s (m + 1) → To w w2 H d s (m + 1) := fun w1 w2 hb h2 => To.trans (Chg.of_below hb) (fun _ e => .inl e) h2
      have HTO := Lib.hid hto
      rw [e, Int.toNat_natCast]
      rw [hk] at HK
      clear h ht e hto ho
      generalize wdA s n = x at *
      cases hx : Hdr.isOb x with
      | false =>
        rw [hx] at HB
        go_enter Tryz.func254, Tryz.ntmps254
        go_wp2_with (first
          | (go_at_call 298; refine HK.out.mono ?_; rintro e w1 ⟨rfl, hb1⟩)
          | (go_at_call 299; refine (HB.out _ hb1).mono ?_; rintro e w2 ⟨rfl, h2⟩))
        go_ret2
        exact ⟨rfl, HTO.out _ _ hb1 h2⟩
      | true =>
        rw [hx] at HB
        go_enter Tryz.func254, Tryz.ntmps254
        go_wp2_with (first
          | (go_at_call 298; refine HK.out.mono ?_; rintro e w1 ⟨rfl, hb1⟩)
          | (go_at_call 299; refine (HB.out _ hb1).mono ?_; rintro e w2 ⟨rfl, h2⟩))
        go_ret2
        exact ⟨rfl, HTO.out _ _ hb1 h2⟩

/-- What Load tells. -/
def lE (s : St) (a f : Int) : Int := if fE s a = 0 then (if 0 ≤ f ∧ f < (fN s a : Int) then 0 else 7) else fE s a
def fl (s : St) (a f : Nat) : Nat := Arena.wd s.ws (a + f)
def lV (s : St) (a f : Int) : Int := if lE s a f = 0 then wrap64 (fl s a.toNat f.toNat : Nat) else 0
/-- What a slot that is begun has room for lies in the arena. -/
theorem Wf.in_arena {s : St} (h : Wf s) {a : Int} (hk : takB s a = true) : 1 ≤ a ∧ a + Hdr.obF (wdA s a.toNat) ≤ s.ws.length ∧ (Hdr.obF (wdA s a.toNat) : Int) + 1 ≤ sizI (cls s a) ∧ own s a = true ∧ Hdr.isOb (wdA s a.toNat) = true := by
  unfold takB at hk
  rw [Bool.and_eq_true] at hk
  have ho := h.taken_own hk.1
  have hb := h.own_bd ho
  obtain ⟨n, rfl⟩ := Int.eq_ofNat_of_zero_le (show 0 ≤ a by omega)
  rw [Int.toNat_natCast] at hk ⊢
  have hr2 := (Hdr.isOb_room hk.2).1
  rw [h.room n ho hk.2, Class.roomI_yes (h.geo ho).cl] at hr2
  have hi := h.in_ws ho
  exact ⟨by omega, by omega, by omega, ho, hk.2⟩

set_option maxHeartbeats 1000000 in
theorem load1_any {H : Nat} {d : Ids} {s : St} {m : Nat} (i : Nat) (p q : Nat) (u : Value) (w : World) (h : Is w H d s m) (hm : m < 1000000) (h1 : 1 ≤ i) (h2 : i ≤ s.ws.length) (hp : w.cell? ⟨p, 0, none⟩ = some (.pointer (some ⟨H, 0, none⟩))) (hq : w.cell? ⟨q, 0, none⟩ = some u) (hqf : w.frozen? ⟨q, 0, none⟩ = false)
    (_hpo : ¬ Mine H d p) (hqo : ¬ Mine H d q) :
    Calls Tryz.prog 257 #[.int .i64 i, .pointer (some ⟨p, 0, none⟩), .pointer (some ⟨q, 0, none⟩)] w fun e w' => e = .returned (.int .i64 0) ∧
      ∃ w1, To w w1 H d s (m + 1) ∧ w1.cell? ⟨q, 0, none⟩ = some u ∧ w1.frozen? ⟨q, 0, none⟩ = false ∧ w' = w1.setCell ⟨q, 0, none⟩ (.int .i64 (wrap64 (Arena.wd s.ws (i - 1) : Nat))) := by
  have hcA := h.cA
  have hz : Arena.codeN s.ws.length (i : Int) = 0 := by unfold Arena.codeN; rw [if_neg (by omega), if_neg (by omega)]
  have e1 : Arena.getR s.ws (i : Int) = Arena.wd s.ws (i - 1) := by rw [Arena.getR, if_pos hz, Int.toNat_natCast]
  have e2 : Arena.oneN s.ws.length (i : Int) = 1 := if_pos hz
  have hld := h.cnt.1
  have hl := Arena.load_any w h.sit.ar h.sit.ltG (by omega) (i : Int)
  rw [e1, e2, hz] at hl
  have HL := Lib.hid hl
  have HX : Hid (∀ w1 : World, ArIs w1 d.A d.G d.cap s.ws (d.ld + 1) d.st → Two d.A d.G w w1 → To w w1 H d s (m + 1) ∧ w1.cell? ⟨q, 0, none⟩ = some u ∧ w1.frozen? ⟨q, 0, none⟩ = false) := Lib.hid fun w1 ha h2 => by
    have hql := World.block_lt_of_cell? w _ hq
    exact ⟨h.loaded ha h2, (h2.cell (p := ⟨q, 0, none⟩) hql (fun e => hqo (.inl (.inr (.inl e)))) (fun e => hqo (.inl (.inr (.inr (.inl e)))))).trans hq, (h2.frozen (p := ⟨q, 0, none⟩) hql (fun e => hqo (.inl (.inr (.inl e)))) (fun e => hqo (.inl (.inr (.inr (.inl e)))))).trans hqf⟩
  clear h hl e1 e2 hz _hpo hqo
  generalize Arena.wd s.ws (i - 1) = x at *
  go_enter Tryz.func257, Tryz.ntmps257
  go_wp2_with (go_at_call 258; refine HL.out.mono ?_; rintro e w1 ⟨rfl, ha, h2⟩; have HX1 := Lib.hid (HX.out _ ha h2); have hq1 := HX1.out.2.1; have hqf1 := HX1.out.2.2; clear hq hqf)
  all_goals go_ret
  all_goals exact ⟨rfl, w1, HX1.out.1, HX1.out.2.1, HX1.out.2.2, rfl⟩

theorem fE_cases (s : St) (a : Int) : (fE s a = 0 ∧ takB s a = true ∧ fN s a = Hdr.obF (wdA s a.toNat)) ∨ ((fE s a = 1 ∨ fE s a = 6) ∧ fN s a = 0) := by
  unfold fE fN
  by_cases h0 : a = 0
  · rw [if_pos h0, if_pos h0]; exact .inr ⟨.inr rfl, rfl⟩
  · rw [if_neg h0, if_neg h0]
    cases hk : takB s a with
    | true => rw [if_pos rfl, if_pos rfl]; exact .inl ⟨rfl, rfl, rfl⟩
    | false => rw [if_neg (by simp), if_neg (by simp)]; exact .inr ⟨.inl rfl, rfl⟩
theorem To.alloc {w w1 : World} {H : Nat} {d : Ids} {s : St} {m : Nat} (hb : Below w.heap.size w w1) {w2 : World} (h : To w1 w2 H d s m) : To w w2 H d s m := To.trans (Chg.of_below hb) (fun _ e => .inl e) h
/-- A cell of somebody else's, laid. -/
theorem To.other {w w1 : World} {H : Nat} {d : Ids} {s : St} {m : Nat} {p : Addr} (hp : w.heap.size ≤ p.block) {w0 : World} (h0 : To w0 w1 H d s m) (hp0 : p.block < w0.heap.size) (hn : ¬ Mine H d p.block) (hq : Below w.heap.size w w0) (v : Value) : To w (w1.setCell p v) H d s m := by
  obtain ⟨d', h1, h2, h3⟩ := h0
  have hno : ¬ Mine H d' p.block := fun e => (h3 _ e).elim hn (fun e => by omega)
  refine ⟨d', h1.kept (fun k hk => Lis.heap_set (fun e => hno (e ▸ hk))) (by rw [Row.size_setCell]; exact Nat.le_refl _), ?_, fun j hj => (h3 j hj).imp id (fun e => Nat.le_trans hq.size e)⟩
  exact ((Chg.of_below hq).trans h2 (fun _ e => .inl e)).set (.inr hp) v
theorem To.more {w w1 : World} {H : Nat} {d : Ids} {s : St} {m m' : Nat} (h : To w w1 H d s m) (hm : m ≤ m') : To w w1 H d s m' := by
  obtain ⟨d', h1, h2⟩ := h
  exact ⟨d', h1.more hm, h2⟩
theorem not_mine {w : World} {H : Nat} {d : Ids} {s : St} {m : Nat} (h : Is w H d s m) {k : Nat} (hk : w.heap.size ≤ k) : ¬ Mine H d k := fun e => by have := h.lt e; omega
theorem two_new {w : World} (u v : Value) (s t : TypeId) : Below w.heap.size w ((w.alloc (.cells #[u] s)).alloc (.cells #[v] t)) := ((Below.refl _ _).alloc (Nat.le_refl _) _).alloc (by simp) _
theorem To.cell {w w1 : World} {H : Nat} {d : Ids} {s : St} {m : Nat} (h : To w w1 H d s m) {p : Addr} {v : Value} (hc : w.cell? p = some v) (hn : ¬ Mine H d p.block) : w1.cell? p = some v := by
  obtain ⟨d', h1, h2, h3⟩ := h
  exact (h2.cell (World.block_lt_of_cell? w _ hc) hn).trans hc
theorem To.fz {w w1 : World} {H : Nat} {d : Ids} {s : St} {m : Nat} (h : To w w1 H d s m) {p : Addr} {v : Value} (hc : w.cell? p = some v) (hn : ¬ Mine H d p.block) {b : Bool} (hf : w.frozen? p = b) : w1.frozen? p = b := by
  obtain ⟨d', h1, h2, h3⟩ := h
  exact (h2.frozen (World.block_lt_of_cell? w _ hc) hn).trans hf
theorem To.not_mine {w : World} {H : Nat} {d d1 : Ids} (h3 : ∀ j, Mine H d1 j → Mine H d j ∨ w.heap.size ≤ j) {k : Nat} (h1 : ¬ Mine H d k) (h2 : k < w.heap.size) : ¬ Mine H d1 k := fun e => (h3 k e).elim h1 (fun e => by omega)

theorem two_kept {w w1 : World} {H : Nat} {d d1 : Ids} {s : St} {m _m1 : Nat} {u v : Value} {r t : TypeId} (h : Is w H d s m) (hC : Chg (Mine H d) ((w.alloc (.cells #[u] r)).alloc (.cells #[v] t)) w1) (hR : ∀ j, Mine H d1 j → Mine H d j ∨ ((w.alloc (.cells #[u] r)).alloc (.cells #[v] t)).heap.size ≤ j) :
    w1.cell? ⟨w.heap.size, 0, none⟩ = some u ∧ w1.cell? ⟨w.heap.size + 1, 0, none⟩ = some v ∧ w1.frozen? ⟨w.heap.size + 1, 0, none⟩ = false ∧ ¬ Mine H d1 w.heap.size ∧ ¬ Mine H d1 (w.heap.size + 1) := by
  have n1 := not_mine h (Nat.le_refl _)
  have n2 := not_mine h (Nat.le_succ w.heap.size)
  refine ⟨(hC.cell (p := ⟨w.heap.size, 0, none⟩) (by simp; omega) n1).trans (by simp), (hC.cell (p := ⟨w.heap.size + 1, 0, none⟩) (by simp) n2).trans (by simp), (hC.frozen (p := ⟨w.heap.size + 1, 0, none⟩) (by simp) n2).trans (by simp), fun e => (hR _ e).elim n1 (fun e => by simp at e; omega), fun e => (hR _ e).elim n2 (fun e => by simp at e; omega)⟩
theorem To.step {w0 w1 w2 : World} {H : Nat} {d d1 : Ids} {s1 : St} {m : Nat} (hC : Chg (Mine H d) w0 w1) (hR : ∀ j, Mine H d1 j → Mine H d j ∨ w0.heap.size ≤ j) (h2 : To w1 w2 H d1 s1 m) : To w0 w2 H d s1 m := To.trans hC hR h2
set_option maxRecDepth 100000 in
set_option maxHeartbeats 2000000 in
theorem load_any {H : Nat} {d : Ids} {s : St} {m : Nat} (a f : Int) (w : World) (h : Is w H d s m) (ht : Tabs w) (hm : m < 900000) :
    Calls Tryz.prog 199 #[.pointer (some ⟨H, 0, none⟩), .int .i64 a, .int .i64 f] w fun e w' => e = .returned (.tuple #[.int .i64 (lV s a f), .int .i64 (lE s a f)]) ∧ To w w' H d s (m + 2) := by
  have hb0 : Below w.heap.size w ((w.alloc (.cells #[.pointer (some ⟨H, 0, none⟩)] 76)).alloc (.cells #[.int .i64 0] 3)) := two_new _ _ _ _
  have HB0 := Lib.hid hb0
  have HF := Lib.hid (fields_any a _ (h.later hb0) (ht.later hb0) (by omega))
  have HN := Lib.hid (show ∀ k, w.heap.size ≤ k → ¬ Mine H d k from fun k hk => not_mine h hk)
  rcases fE_cases s a with ⟨h1, h2, h3⟩ | ⟨h1, h3⟩
  · rw [h1, h3] at HF
    by_cases hf : 0 ≤ f ∧ f < (Hdr.obF (wdA s a.toNat) : Int)
    · have hE : lE s a f = 0 := by rw [lE, if_pos h1, h3, if_pos hf]
      rw [lV, hE, if_pos rfl]
      obtain ⟨b1, b2, b3, b4, b5⟩ := h.wf.in_arena h2
      obtain ⟨n, rfl⟩ := Int.eq_ofNat_of_zero_le (show 0 ≤ a by omega)
      obtain ⟨g, rfl⟩ := Int.eq_ofNat_of_zero_le hf.1
      have hsm := h.sit.ar.small
      rw [Int.toNat_natCast] at *
      rw [Int.toNat_natCast]
      have HL := Lib.hid (fun (W : World) (d1 : Ids) (hI : Is W H d1 s (m + 1)) (p q : Nat) (hp : W.cell? ⟨p, 0, none⟩ = some (.pointer (some ⟨H, 0, none⟩))) (hq : W.cell? ⟨q, 0, none⟩ = some (.int .i64 0)) (hqf : W.frozen? ⟨q, 0, none⟩ = false) (n1 : ¬ Mine H d1 p) (n2 : ¬ Mine H d1 q) => load1_any (n + 1 + g) p q _ W hI (by omega) (by omega) (by omega) hp hq hqf n1 n2)
      have H2 := Lib.hid (fun (w1 : World) (d1 : Ids) hC hR => two_kept (w := w) (w1 := w1) (d1 := d1) (u := .pointer (some ⟨H, 0, none⟩)) (v := .int .i64 0) (r := 76) (t := 3) (_m1 := m) h hC hR)
      rw [show ((n + 1 + g : Nat) : Int) = (n : Int) + 1 + (g : Int) by omega] at HL
      have i1 : (0 : Int) ≤ (g : Int) := Int.natCast_nonneg _
      have i2 : (g : Int) < (Hdr.obF (wdA s n) : Int) := hf.2
      have i3 : (Hdr.obF (wdA s n) : Int) ≤ 15 := by have := Hdr.obF_le (wdA s n); omega
      have i4 : (n : Int) ≤ 1048576 := by omega
      have i5 : (0 : Int) ≤ (n : Int) := Int.natCast_nonneg _
      have e9 : n + 1 + g - 1 = n + g := by omega
      rw [e9] at HL
      unfold fl
      clear h ht h1 h2 h3 hE b1 b2 b3 b4 b5 hf e9
      generalize Arena.wd s.ws (n + g) = x at *
      generalize Hdr.obF (wdA s n) = y at *
      go_enter Tryz.func199, Tryz.ntmps199
      go_wp2_with (first
        | go_enter Tryz.func256, Tryz.ntmps256
        | (go_at_call 254; refine HF.out.mono ?_; rintro e w1 ⟨rfl, hT1⟩; have HT1 := Lib.hid hT1; obtain ⟨d1, hI1, hC1, hR1⟩ := hT1; have HI1 := Lib.hid hI1; have HC1 := Lib.hid hC1; have HR1 := Lib.hid hR1; clear hI1 hC1 hR1)
        | (go_at_call 257; have HK := Lib.hid (H2.out _ _ HC1.out HR1.out); refine (HL.out _ _ HI1.out _ _ HK.out.1 HK.out.2.1 HK.out.2.2.1 HK.out.2.2.2.1 HK.out.2.2.2.2).mono ?_; rintro e w3 ⟨rfl, w2, hT2, hq2, hf2, rfl⟩; have HT2 := Lib.hid hT2; clear hT2))
      go_ret2
      exact ⟨rfl, To.other (p := ⟨w.heap.size + 1, 0, none⟩) (by simp) (To.step HC1.out HR1.out HT2.out) (by simp) (HN.out _ (by simp)) HB0.out _⟩
    · have hE : lE s a f = 7 := by rw [lE, if_pos h1, h3, if_neg hf]
      rw [lV, hE, if_neg (by omega)]
      generalize Hdr.obF (wdA s a.toNat) = y at *
      clear h ht h1 h2 h3 hE
      by_cases hf0 : f < 0
      · go_enter Tryz.func199, Tryz.ntmps199
        go_wp2_with (first
          | go_enter Tryz.func256, Tryz.ntmps256
          | (go_at_call 254; refine HF.out.mono ?_; rintro e w1 ⟨rfl, hT1⟩; have hk1 := hT1.cell (p := ⟨w.heap.size + 1, 0, none⟩) (v := .int .i64 0) (by simp) (HN.out _ (by simp)); have HT1 := Lib.hid hT1; clear hT1))
        go_ret2
        exact ⟨rfl, (To.alloc HB0.out HT1.out).more (by omega)⟩
      · have hf1 : (y : Int) ≤ f := by omega
        go_enter Tryz.func199, Tryz.ntmps199
        go_wp2_with (first
          | go_enter Tryz.func256, Tryz.ntmps256
          | (go_at_call 254; refine HF.out.mono ?_; rintro e w1 ⟨rfl, hT1⟩; have hk1 := hT1.cell (p := ⟨w.heap.size + 1, 0, none⟩) (v := .int .i64 0) (by simp) (HN.out _ (by simp)); have HT1 := Lib.hid hT1; clear hT1))
        go_ret2
        exact ⟨rfl, (To.alloc HB0.out HT1.out).more (by omega)⟩
  · have hE : lE s a f = fE s a := by rw [lE, if_neg (by omega)]
    rw [lV, hE, if_neg (by omega)]
    have hne : ((fE s a) != 0) = true := by simp; omega
    rw [h3] at HF
    clear h ht hE h1 h3
    generalize fE s a = x at *
    go_enter Tryz.func199, Tryz.ntmps199
    go_wp2_with (first
      | go_enter Tryz.func256, Tryz.ntmps256
      | (go_at_call 254; refine HF.out.mono ?_; rintro e w1 ⟨rfl, hT1⟩; have hk1 := hT1.cell (p := ⟨w.heap.size + 1, 0, none⟩) (v := .int .i64 0) (by simp) (HN.out _ (by simp)); have HT1 := Lib.hid hT1; clear hT1))
    go_ret2
    exact ⟨rfl, (To.alloc HB0.out HT1.out).more (by omega)⟩
end Go.Proofs.YtipifkgmhgkleaaGreatDoor.Hp
