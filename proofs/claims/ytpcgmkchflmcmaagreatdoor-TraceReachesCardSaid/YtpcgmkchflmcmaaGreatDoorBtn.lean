/-
  Texts of layer 1: a set's numbers, rising; clones.
-/
import Derived.Test.YtpcgmkchflmcmaaGreatDoorBtm
import Derived.Deep.LoopGhost
import Derived.Lib.Walk
import Derived.Lib.SliceRun
namespace Go.Proofs.YtpcgmkchflmcmaaGreatDoor
/-- The bits of a word, rising. -/
def bitsOf (v : Nat) : List Nat := (List.range 64).filter v.testBit
theorem bitsOf_zero : bitsOf 0 = [] := by simp [bitsOf]
theorem bitsOf_length_le (v : Nat) : (bitsOf v).length ≤ 64 := by
  have h := List.length_filter_le v.testBit (List.range 64)
  simpa [bitsOf] using h

theorem testBit_drop (v c : Nat) (hc : v.testBit c = true) (hl : ∀ i, i < c → v.testBit i = false) (i : Nat) : (v &&& (v - 1)).testBit i = (v.testBit i && decide (i ≠ c)) := by
  have h1 : v = 2 ^ (c + 1) * (v / 2 ^ (c + 1)) + 2 ^ c := by
    refine Nat.eq_of_testBit_eq fun j => ?_
    rw [Nat.testBit_two_pow_mul_add _ (Nat.pow_lt_pow_right (by decide) (Nat.lt_succ_self c)), Nat.testBit_two_pow]
    by_cases hj : j < c + 1
    · rw [if_pos hj]
      by_cases e : c = j
      · subst e; simp [hc]
      · rw [hl j (by omega)]; simp [e]
    · rw [if_neg hj, Nat.testBit_div_two_pow]
      congr 1
      omega
  have h2 : v - 1 = 2 ^ (c + 1) * (v / 2 ^ (c + 1)) + (2 ^ c - 1) := by
    have := Nat.pow_pos (n := c) (show 0 < 2 by decide)
    generalize 2 ^ (c + 1) * (v / 2 ^ (c + 1)) = y at *
    omega
  have h3 : 2 ^ c - 1 < 2 ^ (c + 1) := by
    have := Nat.pow_lt_pow_right (a := 2) (by decide) (Nat.lt_succ_self c)
    omega
  rw [Nat.testBit_and, h2, Nat.testBit_two_pow_mul_add _ h3, Nat.testBit_two_pow_sub_one]
  by_cases hj : i < c + 1
  · rw [if_pos hj]
    by_cases e : i = c
    · subst e; simp
    · rw [hl i (by omega)]; simp
  · rw [if_neg hj, Nat.testBit_div_two_pow, show i - (c + 1) + (c + 1) = i by omega]
    simp; omega

/-- The lowest bit, and what is left when it is taken off. -/
theorem bitsOf_step (v : Nat) (h0 : v ≠ 0) (h : v < 18446744073709551616) : bitsOf v = Go.Lib.ctz 64 v :: bitsOf (v &&& (v - 1)) := by
  obtain ⟨hc, hl, h64⟩ := ctz_spec v h0 h
  generalize Go.Lib.ctz 64 v = c at *
  have hr : List.range 64 = List.range c ++ c :: (List.range (63 - c)).map (c + 1 + ·) := by
    have e : (64 : Nat) = c + (1 + (63 - c)) := by omega
    rw [e, List.range_add, List.range_add]
    simp [List.range_succ, Nat.add_assoc]
  have e1 : (List.range c).filter v.testBit = [] := List.filter_eq_nil_iff.2 fun i hi => by simp [hl i (List.mem_range.1 hi)]
  have e2 : (List.range c).filter (v &&& (v - 1)).testBit = [] := List.filter_eq_nil_iff.2 fun i hi => by rw [testBit_drop v c hc hl, hl i (List.mem_range.1 hi)]; simp
  have e3 : ((List.range (63 - c)).map (c + 1 + ·)).filter (v &&& (v - 1)).testBit = ((List.range (63 - c)).map (c + 1 + ·)).filter v.testBit := List.filter_congr fun i hi => by
    obtain ⟨j, _, rfl⟩ := List.mem_map.1 hi
    rw [testBit_drop v c hc hl]
    simp; omega
  unfold bitsOf
  rw [hr, List.filter_append, List.filter_append, e1, e2, List.filter_cons, List.filter_cons, if_pos hc, if_neg (by rw [testBit_drop v c hc hl]; simp), e3]
  rfl
theorem drop_lt (v : Nat) (h : v < 18446744073709551616) : v &&& (v - 1) < 18446744073709551616 := Nat.lt_of_le_of_lt Nat.and_le_left h

/-- What a row of words tells, from the words at some places. -/
def toldP (ws : List Nat) (pre : List Nat) : List Nat := pre.flatMap fun x => (bitsOf (wd ws x)).map (x * 64 + ·)
theorem toldP_snoc (ws pre : List Nat) (x : Nat) : toldP ws (pre ++ [x]) = toldP ws pre ++ (bitsOf (wd ws x)).map (x * 64 + ·) := by simp [toldP]
theorem toldP_length_le (ws pre : List Nat) : (toldP ws pre).length ≤ 64 * pre.length := by
  induction pre with
  | nil => simp [toldP]
  | cons x t ih =>
    have h := bitsOf_length_le (wd ws x)
    simp only [toldP, List.flatMap_cons, List.length_append, List.length_map, List.length_cons] at ih ⊢
    omega
/-- What a row of words has, rising. -/
def elems (ws : List Nat) (size : Nat) : List Nat := (List.range size).filter (hasB ws)
theorem toldP_upto (ws : List Nat) (k : Nat) : toldP ws ((List.range k).map (0 + ·)) = (List.range (64 * k)).filter (hasB ws) := by
  induction k with
  | zero => simp [toldP]
  | succ k ih =>
    have e : (List.range (k + 1)).map (0 + ·) = (List.range k).map (0 + ·) ++ [k] := by simp [List.range_succ]
    rw [e, toldP_snoc, ih, show 64 * (k + 1) = 64 * k + 64 by omega, List.range_add, List.filter_append, List.filter_map, bitsOf]
    congr 1
    rw [show k * 64 = 64 * k by omega]
    congr 1
    refine List.filter_congr fun i hi => ?_
    have hi := List.mem_range.1 hi
    have e1 : (64 * k + i) / 64 = k := by omega
    have e2 : (64 * k + i) % 64 = i := by omega
    simp [hasB, e1, e2]
theorem elems_over {size : Nat} {ws : List Nat} (h : SetW size ws) (n : Nat) (hn : size ≤ n) : (List.range n).filter (hasB ws) = elems ws size := by
  obtain ⟨d, rfl⟩ : ∃ d, n = size + d := ⟨n - size, by omega⟩
  rw [List.range_add, List.filter_append, elems]
  have : ((List.range d).map (size + ·)).filter (hasB ws) = [] := List.filter_eq_nil_iff.2 fun i hi => by
    obtain ⟨j, _, rfl⟩ := List.mem_map.1 hi
    simp [h.top (size + j) (by omega)]
  rw [this, List.append_nil]
theorem toldP_elems {size : Nat} {ws : List Nat} (h : SetW size ws) : toldP ws ((List.range ws.length).map (0 + ·)) = elems ws size := by
  rw [toldP_upto]
  exact elems_over h _ (by rw [h.len]; omega)
theorem mem_elems {size : Nat} {ws : List Nat} (h : SetW size ws) (n : Nat) : n ∈ elems ws size ↔ hasB ws n = true := by
  simp only [elems, List.mem_filter, List.mem_range]
  refine ⟨fun x => x.2, fun x => ⟨?_, x⟩⟩
  rcases Nat.lt_or_ge n size with h1 | h1
  · exact h1
  · rw [h.top n h1] at x; cases x

/-! How many bits: the library's sum, byte by byte. -/
def pc (k x : Nat) : Nat := ((List.range k).filter x.testBit).length
theorem pc_split (k a b : Nat) (hb : b < 256) : pc (8 + k) (256 * a + b) = pc 8 b + pc k a := by
  have hb' : b < 2 ^ 8 := hb
  unfold pc
  rw [List.range_add, List.filter_append, List.filter_map, List.length_append, List.length_map]
  congr 2
  · refine List.filter_congr fun i hi => ?_
    rw [show 256 * a + b = 2 ^ 8 * a + b from rfl, Nat.testBit_two_pow_mul_add _ hb', if_pos (List.mem_range.1 hi)]
  · refine List.filter_congr fun i hi => ?_
    simp only [Function.comp]
    rw [show 256 * a + b = 2 ^ 8 * a + b from rfl, Nat.testBit_two_pow_mul_add _ hb', if_neg (by omega)]
    congr 1
    omega
theorem and_split (a b c d : Nat) (hb : b < 256) (hd : d < 256) : (256 * a + b) &&& (256 * c + d) = 256 * (a &&& c) + (b &&& d) := by
  have hb' : b < 2 ^ 8 := hb
  have hd' : d < 2 ^ 8 := hd
  have hbd : b &&& d < 2 ^ 8 := Nat.lt_of_le_of_lt Nat.and_le_left hb
  refine Nat.eq_of_testBit_eq fun i => ?_
  rw [Nat.testBit_and, show 256 * a + b = 2 ^ 8 * a + b from rfl, show 256 * c + d = 2 ^ 8 * c + d from rfl, show 256 * (a &&& c) + (b &&& d) = 2 ^ 8 * (a &&& c) + (b &&& d) from rfl,
    Nat.testBit_two_pow_mul_add _ hb', Nat.testBit_two_pow_mul_add _ hd', Nat.testBit_two_pow_mul_add _ hbd]
  split <;> rw [Nat.testBit_and]
/-- A mask of so many bytes. -/
def rep (d : Nat) : Nat → Nat
  | 0 => 0
  | k + 1 => 256 * rep d k + d
def s1 (k x : Nat) : Nat := (x / 2 &&& rep 0x55 k) + (x &&& rep 0x55 k)
def s2 (k x : Nat) : Nat := (x / 4 &&& rep 0x33 k) + (x &&& rep 0x33 k)
def s3 (k x : Nat) : Nat := (x / 16 + x) &&& rep 0x0f k
def b1 (b : Nat) : Nat := (b / 2 &&& 0x55) + (b &&& 0x55)
def b2 (b : Nat) : Nat := (b / 4 &&& 0x33) + (b &&& 0x33)
def b3 (b : Nat) : Nat := (b / 16 + b) &&& 0x0f
theorem c1 : ∀ e : Fin 2, ∀ f : Fin 128, (128 * e.val + f.val) &&& 0x55 = f.val &&& 0x55 := by decide +kernel
theorem c2 : ∀ e : Fin 4, ∀ f : Fin 64, (64 * e.val + f.val) &&& 0x33 = f.val &&& 0x33 := by decide +kernel
theorem c3 : ∀ e : Fin 5, ∀ f : Fin 80, (16 * e.val + f.val) &&& 0x0f = f.val &&& 0x0f := by decide +kernel
theorem byte : ∀ b : Fin 256, b1 b.val < 256 ∧ b2 (b1 b.val) < 80 ∧ b2 (b1 b.val) / 16 + b2 (b1 b.val) < 80 ∧ b2 (b1 b.val) % 16 ≤ 4 ∧ b3 (b2 (b1 b.val)) = pc 8 b.val ∧ pc 8 b.val ≤ 8 := by decide +kernel
theorem s1_split (k a b : Nat) (hb : b < 256) : s1 (k + 1) (256 * a + b) = 256 * s1 k a + b1 b := by
  have e : (256 * a + b) / 2 = 256 * (a / 2) + (128 * (a % 2) + b / 2) := by omega
  have h := c1 ⟨a % 2, by omega⟩ ⟨b / 2, by omega⟩
  simp only at h
  simp only [s1, b1, rep]
  rw [e, and_split _ _ _ _ (by omega) (by decide), and_split _ _ _ _ hb (by decide), h]
  omega
theorem s2_split (k a b : Nat) (hb : b < 256) : s2 (k + 1) (256 * a + b) = 256 * s2 k a + b2 b := by
  have e : (256 * a + b) / 4 = 256 * (a / 4) + (64 * (a % 4) + b / 4) := by omega
  have h := c2 ⟨a % 4, by omega⟩ ⟨b / 4, by omega⟩
  simp only at h
  simp only [s2, b2, rep]
  rw [e, and_split _ _ _ _ (by omega) (by decide), and_split _ _ _ _ hb (by decide), h]
  omega
theorem s3_split (k a b : Nat) (ha : a % 16 ≤ 4) (hb : b / 16 + b < 80) : s3 (k + 1) (256 * a + b) = 256 * s3 k a + b3 b := by
  have e : (256 * a + b) / 16 + (256 * a + b) = 256 * (a / 16 + a) + (16 * (a % 16) + (b / 16 + b)) := by omega
  have h := c3 ⟨a % 16, by omega⟩ ⟨b / 16 + b, hb⟩
  simp only at h
  simp only [s3, b3, rep]
  rw [e, and_split _ _ _ _ (by omega) (by decide), h]
theorem low (k a : Nat) : s2 k (s1 k a) % 16 ≤ 4 := by
  cases k with
  | zero => simp [s1, s2, rep]
  | succ k =>
    have h := byte ⟨a % 256, by omega⟩
    simp only at h
    rw [show a = 256 * (a / 256) + a % 256 by omega, s1_split _ _ _ (by omega), s2_split _ _ _ h.1]
    omega
theorem swar (k a b : Nat) (hb : b < 256) : s3 (k + 1) (s2 (k + 1) (s1 (k + 1) (256 * a + b))) = 256 * s3 k (s2 k (s1 k a)) + pc 8 b := by
  have h := byte ⟨b, hb⟩
  simp only at h
  rw [s1_split _ _ _ hb, s2_split _ _ _ h.1, s3_split _ _ _ (low k a) h.2.2.1, h.2.2.2.2.1]
/-- The sum of a row of bytes in one. -/
def hsum (y : Nat) : Nat :=
  let y1 := y + y / 256
  let y2 := y1 + y1 / 65536
  let y3 := y2 + y2 / 4294967296
  y3 % 128
theorem hsum_eq (p0 p1 p2 p3 p4 p5 p6 p7 : Nat) (h0 : p0 ≤ 8) (h1 : p1 ≤ 8) (h2 : p2 ≤ 8) (h3 : p3 ≤ 8) (h4 : p4 ≤ 8) (h5 : p5 ≤ 8) (h6 : p6 ≤ 8) (h7 : p7 ≤ 8) :
    hsum (256 * (256 * (256 * (256 * (256 * (256 * (256 * p7 + p6) + p5) + p4) + p3) + p2) + p1) + p0) = p0 + p1 + p2 + p3 + p4 + p5 + p6 + p7 := by
  have key : ∀ y z1 z2 z3 : Nat, y / 256 = z1 → (y + z1) / 65536 = z2 → (y + z1 + z2) / 4294967296 = z3 → hsum y = (y + z1 + z2 + z3) % 128 := fun y z1 z2 z3 e1 e2 e3 => by
    simp only [hsum]
    rw [e1, e2, e3]
  rw [key _ (p1 + 256 * p2 + 65536 * p3 + 16777216 * p4 + 4294967296 * p5 + 1099511627776 * p6 + 281474976710656 * p7)
    ((p2 + p3) + 256 * (p3 + p4) + 65536 * (p4 + p5) + 16777216 * (p5 + p6) + 4294967296 * (p6 + p7) + 1099511627776 * p7)
    ((p4 + p5 + p6 + p7) + 256 * (p5 + p6 + p7) + 65536 * (p6 + p7) + 16777216 * p7) (by omega) (by omega) (by omega)]
  omega
/-- The library's sum of a word's bits. -/
theorem hsum_pop (x : Nat) : hsum (s3 8 (s2 8 (s1 8 x))) = (bitsOf x).length ∧ s3 8 (s2 8 (s1 8 x)) < 1152921504606846976 := by
  have B : ∀ y, pc 8 (y % 256) ≤ 8 := fun y => (byte ⟨y % 256, by omega⟩).2.2.2.2.2
  have S : ∀ k y, s3 (k + 1) (s2 (k + 1) (s1 (k + 1) y)) = 256 * s3 k (s2 k (s1 k (y / 256))) + pc 8 (y % 256) := fun k y => by
    have h := swar k (y / 256) (y % 256) (by omega)
    rwa [show 256 * (y / 256) + y % 256 = y by omega] at h
  have Q : ∀ k y, pc (8 + k) y = pc 8 (y % 256) + pc k (y / 256) := fun k y => by
    have h := pc_split k (y / 256) (y % 256) (by omega)
    rwa [show 256 * (y / 256) + y % 256 = y by omega] at h
  have e : (bitsOf x).length = pc (8 + (8 + (8 + (8 + (8 + (8 + (8 + (8 + 0)))))))) x := rfl
  have z : ∀ y, s3 0 (s2 0 (s1 0 y)) = 0 := fun y => by simp [s3, rep]
  have z2 : ∀ y, pc 0 y = 0 := fun y => rfl
  rw [e, Q, Q, Q, Q, Q, Q, Q, Q, S, S, S, S, S, S, S, S, z, z2]
  have b0 := B x
  have b1 := B (x / 256)
  have b2 := B (x / 256 / 256)
  have b3 := B (x / 256 / 256 / 256)
  have b4 := B (x / 256 / 256 / 256 / 256)
  have b5 := B (x / 256 / 256 / 256 / 256 / 256)
  have b6 := B (x / 256 / 256 / 256 / 256 / 256 / 256)
  have b7 := B (x / 256 / 256 / 256 / 256 / 256 / 256 / 256)
  generalize pc 8 (x % 256) = p0 at *
  generalize pc 8 (x / 256 % 256) = p1 at *
  generalize pc 8 (x / 256 / 256 % 256) = p2 at *
  generalize pc 8 (x / 256 / 256 / 256 % 256) = p3 at *
  generalize pc 8 (x / 256 / 256 / 256 / 256 % 256) = p4 at *
  generalize pc 8 (x / 256 / 256 / 256 / 256 / 256 % 256) = p5 at *
  generalize pc 8 (x / 256 / 256 / 256 / 256 / 256 / 256 % 256) = p6 at *
  generalize pc 8 (x / 256 / 256 / 256 / 256 / 256 / 256 / 256 % 256) = p7 at *
  have h := hsum_eq p0 p1 p2 p3 p4 p5 p6 p7 b0 b1 b2 b3 b4 b5 b6 b7
  rw [show 256 * 0 + p7 = p7 by omega]
  exact ⟨by rw [h]; omega, by omega⟩
end Go.Proofs.YtpcgmkchflmcmaaGreatDoor

namespace Go.Proofs.YtpcgmkchflmcmaaGreatDoor.Bits
open Go.RowKit Go.Shelf
attribute [local go_sem] Oper.semAt_some

theorem infoU64 : (Tryz.prog.info? 78).map (fun i => (i.zero, i.size, i.bytes)) = some (some (.int .u64 0), 1, 8) := by kernel_rfl

/-- Words that lie in memory, not frozen. -/
structure WordsAt (w : World) (G cap : Nat) (ws : List Nat) : Prop where
  capn : ws.length ≤ cap
  at_ : ∀ j, j < ws.length → w.cell? ⟨G, j, none⟩ = some (.int .u64 (wd ws j))
  fz : ∀ j, j < ws.length → w.frozen? ⟨G, j, none⟩ = false

theorem words_of_owns {w : World} {B : Nat} {v : Value} {ws : List Nat} (h : w.ownsRow B 78 1 v ws.length ((List.range ws.length).map fun j => .int .u64 (wd ws j))) (hn : v ≠ .slice none 0 0) :
    ∃ G cap, v = .slice (some ⟨G, 0, none⟩) ws.length cap ∧ B ≤ G ∧ G < w.heap.size ∧ WordsAt w G cap ws := by
  obtain ⟨h1, ⟨h2, _⟩ | ⟨g, cap, cur, rfl, hb, hg, hc, hm, hs, ht⟩⟩ := h
  · exact absurd h2 hn
  · refine ⟨g, cap, rfl, hb, (Array.getElem?_eq_some_iff.1 hg).1, hc, fun j hj => ?_, fun j hj => ?_⟩
    · have e : cur[j]? = some (.int .u64 (wd ws j)) := by
        have h3 := congrArg (fun l => l[j]?) ht
        simp [hj] at h3
        exact h3
      simp [World.cell?, hg, e]
    · simp [World.frozen?, hg]

set_option maxHeartbeats 2000000 in
set_option maxRecDepth 100000 in
theorem clone_any (G cap : Nat) (ws : List Nat) (w : World) (hlen : ws.length ≤ 2097152) (hc : ∀ j, j < ws.length → w.cell? ⟨G, j, none⟩ = some (.int .u64 (wd ws j))) :
    Calls Tryz.prog 65 #[.slice (some ⟨G, 0, none⟩) ws.length cap] w fun e w' => ∃ G' cap', e = .returned (.slice (some ⟨G', 0, none⟩) ws.length cap') ∧ w.heap.size ≤ G' ∧ G' < w'.heap.size ∧ WordsAt w' G' cap' ws ∧ Below w.heap.size w w' := by
  obtain ⟨i0, hi, hz0, hz1, hz2⟩ := info_parts infoU64
  have q22 : ∀ (w : World) (a : Option Addr) (n c n' c' : Nat), (binOp .eql 117 (.slice a n c) (.slice none n' c')).run Tryz.prog w = .ok (.bool a.isNone) w := fun w a n c n' c' => Lib.run_eql_slice_nil w _ _ a n c n' c' Tryz.underlying117
  have A := Lib.hid hc
  clear hc
  go_enter Tryz.func65, Tryz.ntmps65
  go_wp2_with (at_builtin; refine wpList_append_own _ rfl _ _ 117 rfl w.heap.size 78 i0 (.int .u64 0) 1 8 Tryz.underlying117 hi hz0 hz1 hz2 rfl (by decide) _ _ _ rfl (World.ownsRow_made w #[] 0 (Nat.le_refl _) (Nat.zero_le _) rfl) ⟨G, 0, none⟩ ws.length cap ((List.range ws.length).map fun j => .int .u64 (wd ws j)) rfl ?qc1 ?qc2 ?qc3 ?qc4 ?qc5 ?qc6 ?_)
  case qc1 => simp
  case qc2 =>
    intro j u hj
    have hjn : j < ws.length := by
      have := (List.getElem?_eq_some_iff.1 hj).1
      simpa using this
    rw [Addr.add_lit, Nat.zero_add]
    refine Lib.cell?_alloc_some _ ?_
    rw [A.out j hjn]
    simpa [hjn] using hj
  case qc3 => intro u hu; obtain ⟨x, _, rfl⟩ := List.mem_map.1 hu; rfl
  case qc4 => unfold maxLen; omega
  case qc5 => omega
  case qc6 => simp
  intro v' w1 hown hgrow hnil
  go_wp2
  go_ret
  obtain ⟨G', cap', rfl, h1, h2, h3⟩ := words_of_owns (by simpa using hown) (by simpa using hnil)
  refine ⟨G', cap', rfl, h1, h2, h3, ?_⟩
  exact ((Below.refl _ w).alloc (Nat.le_refl _) _).grown hgrow (by simp) (by intro k hk; simp [Value.ownBlock] at hk; omega)
end Go.Proofs.YtpcgmkchflmcmaaGreatDoor.Bits
