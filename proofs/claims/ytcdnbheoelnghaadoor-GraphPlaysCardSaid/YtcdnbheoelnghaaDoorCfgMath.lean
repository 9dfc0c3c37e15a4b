/-
  Plain arithmetic on the bounds of configs. No condition beyond what each theorem says.
-/
namespace Go.Proofs.YtcdnbheoelnghaaDoor
def slotsI (b wd : Int) : Int := b * (wd / 2)
def opI (lg wd : Int) : Int := 64 + 4 * lg + wd
def ansI (r lg : Int) : Int := 16 + r * (lg + 8) + 4 * lg
def restI (b wd m r lg : Int) : Int := 2 * b * (wd + 8) + 3 * opI lg wd + 2 * ansI r lg + 4 * m + 60
def looksI (n m ce lg : Int) : Int := 40 * n + 2 * m * (lg + 4) + 2 * ce
def markI (b wd m r ce lg : Int) : Int := (2 * slotsI b wd + 6) * (looksI (slotsI b wd) m ce lg + opI lg wd + ansI r lg + 40)

/-- The greatest number of picks there is. -/
def topI : Int := 4611686018427387904
/-- A product, at most topI; 0 of what is below 1. -/
def timesI (k n : Int) : Int := if k < 1 then 0 else if n < 1 then 0 else if topI / n < k then topI else k * n
theorem timesI_k0 {k n : Int} (h : k < 1) : timesI k n = 0 := by unfold timesI; rw [if_pos h]
theorem timesI_n0 {k n : Int} (h : ¬ k < 1) (h2 : n < 1) : timesI k n = 0 := by unfold timesI; rw [if_neg h, if_pos h2]
theorem timesI_top {k n : Int} (h : ¬ k < 1) (h2 : ¬ n < 1) (h3 : topI / n < k) : timesI k n = topI := by unfold timesI; rw [if_neg h, if_neg h2, if_pos h3]
theorem timesI_mul {k n : Int} (h : ¬ k < 1) (h2 : ¬ n < 1) (h3 : ¬ topI / n < k) : timesI k n = k * n := by unfold timesI; rw [if_neg h, if_neg h2, if_neg h3]
theorem timesI_bd {k n : Int} (h : ¬ k < 1) (h2 : ¬ n < 1) (h3 : ¬ topI / n < k) : 0 ≤ k * n ∧ k * n ≤ topI := by
  refine ⟨Int.mul_nonneg (by omega) (by omega), ?_⟩
  exact (Int.le_ediv_iff_mul_le (by omega)).1 (Int.not_lt.1 h3)
theorem timesI_zero (k : Int) : timesI k 0 = 0 := by
  by_cases h : k < 1
  · exact timesI_k0 h
  · exact timesI_n0 h (by omega)

structure RightC (b wd m r ce lg st : Int) : Prop where
  b0 : 1 ≤ b
  b1 : b ≤ 4096
  wd0 : 16 ≤ wd
  wd1 : wd ≤ 256
  m0 : 1 ≤ m
  m1 : m ≤ 8
  r0 : 1 ≤ r
  r1 : r ≤ 64
  ce0 : 0 ≤ ce
  ce1 : ce ≤ 64
  lg0 : 1 ≤ lg
  lg1 : lg ≤ 256
  st0 : 1 ≤ st
  st1 : st ≤ 4096

theorem mul_bd {a c A C : Int} (a0 : 0 ≤ a) (a1 : a ≤ A) (c0 : 0 ≤ c) (c1 : c ≤ C) : 0 ≤ a * c ∧ a * c ≤ A * C :=
  ⟨Int.mul_nonneg a0 c0, Int.mul_le_mul a1 c1 c0 (Int.le_trans a0 a1)⟩

/-- Is a number from a least one to a greatest one? -/
def withinB (n lo hi : Int) : Bool := decide (lo ≤ n) && decide (n ≤ hi)
def refRightB (b wd m r ce lg st : Int) : Bool := withinB b 1 4096 && (withinB wd 16 256 && (withinB m 1 8 && (withinB r 1 64 && (withinB ce 0 64 && (withinB lg 1 256 && withinB st 1 4096)))))
theorem refRightB_true {b wd m r ce lg st : Int} : refRightB b wd m r ce lg st = true ↔ RightC b wd m r ce lg st := by
  simp only [refRightB, withinB, Bool.and_eq_true, decide_eq_true_eq]
  exact ⟨fun ⟨⟨a, b⟩, ⟨c, d⟩, ⟨e, f⟩, ⟨g, h⟩, ⟨i, j⟩, ⟨k, l⟩, ⟨m, n⟩⟩ => ⟨a, b, c, d, e, f, g, h, i, j, k, l, m, n⟩,
    fun ⟨a, b, c, d, e, f, g, h, i, j, k, l, m, n⟩ => ⟨⟨a, b⟩, ⟨c, d⟩, ⟨e, f⟩, ⟨g, h⟩, ⟨i, j⟩, ⟨k, l⟩, ⟨m, n⟩⟩⟩

namespace RightC
variable {b wd m r ce lg st : Int}
theorem words (h : RightC b wd m r ce lg st) : 0 ≤ b * wd ∧ b * wd ≤ 1048576 := by
  obtain ⟨b0, b1, wd0, wd1, m0, m1, r0, r1, ce0, ce1, lg0, lg1, st0, st1⟩ := h
  have := mul_bd (a := b) (c := wd) (A := 4096) (C := 256) (by omega) (by omega) (by omega) (by omega)
  omega
theorem slots (h : RightC b wd m r ce lg st) : 0 ≤ b * (wd / 2) ∧ b * (wd / 2) ≤ 524288 := by
  obtain ⟨b0, b1, wd0, wd1, m0, m1, r0, r1, ce0, ce1, lg0, lg1, st0, st1⟩ := h
  have := mul_bd (a := b) (c := wd / 2) (A := 4096) (C := 128) (by omega) (by omega) (by omega) (by omega)
  omega
theorem slots1 (h : RightC b wd m r ce lg st) : 8 ≤ slotsI b wd ∧ slotsI b wd ≤ 524288 := by
  have h1 := h.slots
  obtain ⟨b0, b1, wd0, wd1, m0, m1, r0, r1, ce0, ce1, lg0, lg1, st0, st1⟩ := h
  have := Int.mul_le_mul (a := 1) (b := 8) (c := b) (d := wd / 2) b0 (by omega) (by omega) (by omega)
  unfold slotsI
  omega
theorem regs (h : RightC b wd m r ce lg st) : 0 ≤ r * (lg + 8) ∧ r * (lg + 8) ≤ 16896 := by
  obtain ⟨b0, b1, wd0, wd1, m0, m1, r0, r1, ce0, ce1, lg0, lg1, st0, st1⟩ := h
  have := mul_bd (a := r) (c := lg + 8) (A := 64) (C := 264) (by omega) (by omega) (by omega) (by omega)
  omega
theorem rest (h : RightC b wd m r ce lg st) : 0 ≤ 2 * b * (wd + 8) ∧ 2 * b * (wd + 8) ≤ 2162688 := by
  obtain ⟨b0, b1, wd0, wd1, m0, m1, r0, r1, ce0, ce1, lg0, lg1, st0, st1⟩ := h
  have := mul_bd (a := 2 * b) (c := wd + 8) (A := 8192) (C := 264) (by omega) (by omega) (by omega) (by omega)
  omega
theorem muts (h : RightC b wd m r ce lg st) : 0 ≤ 2 * m * (lg + 4) ∧ 2 * m * (lg + 4) ≤ 4160 := by
  obtain ⟨b0, b1, wd0, wd1, m0, m1, r0, r1, ce0, ce1, lg0, lg1, st0, st1⟩ := h
  have := mul_bd (a := 2 * m) (c := lg + 4) (A := 16) (C := 260) (by omega) (by omega) (by omega) (by omega)
  omega
theorem op (h : RightC b wd m r ce lg st) : 84 ≤ opI lg wd ∧ opI lg wd ≤ 1344 := by
  obtain ⟨b0, b1, wd0, wd1, m0, m1, r0, r1, ce0, ce1, lg0, lg1, st0, st1⟩ := h
  unfold opI; omega
theorem ans (h : RightC b wd m r ce lg st) : 20 ≤ ansI r lg ∧ ansI r lg ≤ 17936 := by
  have h1 := h.regs
  obtain ⟨b0, b1, wd0, wd1, m0, m1, r0, r1, ce0, ce1, lg0, lg1, st0, st1⟩ := h
  unfold ansI; omega
theorem looks (h : RightC b wd m r ce lg st) : 0 ≤ looksI (slotsI b wd) m ce lg ∧ looksI (slotsI b wd) m ce lg ≤ 20975808 := by
  have h1 := h.muts
  have h2 := h.slots1
  obtain ⟨b0, b1, wd0, wd1, m0, m1, r0, r1, ce0, ce1, lg0, lg1, st0, st1⟩ := h
  unfold looksI; omega
theorem mark (h : RightC b wd m r ce lg st) : 22 ≤ markI b wd m r ce lg ∧ markI b wd m r ce lg ≤ 30000000000000 := by
  have h1 := h.looks
  have h2 := h.slots1
  have h3 := h.op
  have h4 := h.ans
  have := mul_bd (a := 2 * slotsI b wd + 6) (c := looksI (slotsI b wd) m ce lg + opI lg wd + ansI r lg + 40) (A := 1048582) (C := 20995128) (by omega) (by omega) (by omega) (by omega)
  have := Int.mul_le_mul (a := 22) (b := 1) (c := 2 * slotsI b wd + 6) (d := looksI (slotsI b wd) m ce lg + opI lg wd + ansI r lg + 40) (by omega) (by omega) (by omega) (by omega)
  unfold markI
  omega
theorem restB (h : RightC b wd m r ce lg st) : 1 ≤ restI b wd m r lg ∧ restI b wd m r lg ≤ 3000000 := by
  have h1 := h.rest
  have h3 := h.op
  have h4 := h.ans
  obtain ⟨b0, b1, wd0, wd1, m0, m1, r0, r1, ce0, ce1, lg0, lg1, st0, st1⟩ := h
  unfold restI; omega
end RightC

/-- A number, at most topI. -/
def capI (x : Int) : Int := if topI < x then topI else x
theorem timesI_cap {a c : Int} (ha : 1 ≤ a) (hc : 1 ≤ c) : timesI a c = capI (a * c) := by
  by_cases h : topI / c < a
  · rw [timesI_top (by omega) (by omega) h]
    have : topI < a * c := (Int.ediv_lt_iff_lt_mul (by omega)).1 h
    unfold capI
    rw [if_pos this]
  · rw [timesI_mul (by omega) (by omega) h]
    have := (timesI_bd (k := a) (n := c) (by omega) (by omega) h).2
    unfold capI
    rw [if_neg (by omega)]
theorem reftimes_top {a c : Int} (ha : 1 ≤ a) (hc : 1 ≤ c) (h : topI / a < c) : timesI a c = topI := by
  rw [timesI_cap ha hc]
  have : topI < a * c := by rw [Int.mul_comm]; exact (Int.ediv_lt_iff_lt_mul (by omega)).1 h
  unfold capI
  rw [if_pos this]
theorem reftimes_mul {a c : Int} (ha : 1 ≤ a) (hc : 1 ≤ c) (h : ¬ topI / a < c) : timesI a c = a * c ∧ 0 ≤ a * c ∧ a * c ≤ topI := by
  have h1 : a * c ≤ topI := by rw [Int.mul_comm]; exact (Int.le_ediv_iff_mul_le (by omega)).1 (Int.not_lt.1 h)
  refine ⟨?_, Int.mul_nonneg (by omega) (by omega), h1⟩
  rw [timesI_cap ha hc]
  unfold capI
  rw [if_neg (by omega)]
theorem one_le_mul {a c : Int} (ha : 1 ≤ a) (hc : 1 ≤ c) : a ≤ a * c := by
  have := Int.mul_le_mul_of_nonneg_left hc (show (0 : Int) ≤ a by omega)
  omega
theorem timesI_pos {a c : Int} (ha : 1 ≤ a) (hc : 1 ≤ c) : 1 ≤ timesI a c ∧ timesI a c ≤ topI := by
  rw [timesI_cap ha hc]
  have := one_le_mul ha hc
  unfold capI topI
  split <;> omega
theorem timesI_assoc {k y x : Int} (hk : 1 ≤ k) (hy : 1 ≤ y) (hx : 1 ≤ x) : timesI (timesI k y) x = timesI k (y * x) := by
  have h1 := one_le_mul hy hx
  have h2 := one_le_mul hk hy
  rw [timesI_cap (timesI_pos hk hy).1 hx, timesI_cap hk hy, timesI_cap hk (by omega), ← Int.mul_assoc]
  have h3 := one_le_mul (show (1 : Int) ≤ k * y by omega) hx
  have h4 : topI ≤ topI * x := one_le_mul (by decide) hx
  unfold capI
  by_cases h : topI < k * y
  · rw [if_pos h, if_pos (show topI < k * y * x by omega)]
    split <;> omega
  · rw [if_neg h]
theorem timesI_add {k u v : Int} (hk : 1 ≤ k) (hu : 1 ≤ u) (hv : 1 ≤ v) :
    (if topI - timesI k v < timesI k u then topI else timesI k u + timesI k v) = timesI k (u + v) := by
  rw [timesI_cap hk hu, timesI_cap hk hv, timesI_cap hk (by omega), Int.mul_add]
  have h2 := one_le_mul hk hu
  have h3 := one_le_mul hk hv
  generalize k * u = p at *
  generalize k * v = q at *
  unfold capI topI
  (repeat' split) <;> omega
theorem refmark_eq {b wd m r ce lg st k : Int} (hk : 1 ≤ k) (hR : RightC b wd m r ce lg st) :
    timesI (timesI k (2 * slotsI b wd + 6)) (40 * slotsI b wd + 2 * m * (lg + 4) + 2 * ce + opI lg wd + ansI r lg + 40) = timesI k (markI b wd m r ce lg) := by
  have h1 := hR.slots1
  have h2 := hR.looks
  have h3 := hR.op
  have h4 := hR.ans
  have h5 : 40 * slotsI b wd + 2 * m * (lg + 4) + 2 * ce = looksI (slotsI b wd) m ce lg := rfl
  rw [h5, timesI_assoc hk (by omega) (by omega)]
  rfl
theorem slots_mono {b wd b' wd' : Int} (b0 : 0 ≤ b) (w0 : 0 ≤ wd) (hb : b ≤ b') (hw : wd ≤ wd') : slotsI b wd ≤ slotsI b' wd' := by
  unfold slotsI
  exact Int.mul_le_mul hb (by omega) (by omega) (by omega)
theorem mark_mono {b wd m r ce lg st b' wd' m' r' ce' lg' st' : Int} (h : RightC b wd m r ce lg st) (h' : RightC b' wd' m' r' ce' lg' st')
    (hb : b ≤ b') (hw : wd ≤ wd') (hm : m ≤ m') (hr : r ≤ r') (hc : ce ≤ ce') (hl : lg ≤ lg') : markI b wd m r ce lg ≤ markI b' wd' m' r' ce' lg' := by
  have s0 := h.slots1
  have l0 := h.looks
  have o0 := h.op
  have a0 := h.ans
  have s1 := slots_mono (b := b) (wd := wd) (by have := h.b0; omega) (by have := h.wd0; omega) hb hw
  have e1 : 2 * m * (lg + 4) ≤ 2 * m' * (lg' + 4) := Int.mul_le_mul (by omega) (by omega) (by have := h.lg0; omega) (by have := h'.m0; omega)
  have e2 : r * (lg + 8) ≤ r' * (lg' + 8) := Int.mul_le_mul hr (by omega) (by have := h.lg0; omega) (by have := h'.r0; omega)
  have l1 : looksI (slotsI b wd) m ce lg ≤ looksI (slotsI b' wd') m' ce' lg' := by unfold looksI; omega
  have o1 : opI lg wd ≤ opI lg' wd' := by unfold opI; omega
  have a1 : ansI r lg ≤ ansI r' lg' := by unfold ansI; omega
  unfold markI
  exact Int.mul_le_mul (by omega) (by omega) (by omega) (by omega)
theorem rest_mono {b wd m r ce lg st b' wd' m' r' ce' lg' st' : Int} (h : RightC b wd m r ce lg st) (h' : RightC b' wd' m' r' ce' lg' st')
    (hb : b ≤ b') (hw : wd ≤ wd') (hm : m ≤ m') (hr : r ≤ r') (hl : lg ≤ lg') : restI b wd m r lg ≤ restI b' wd' m' r' lg' := by
  have e1 : 2 * b * (wd + 8) ≤ 2 * b' * (wd' + 8) := Int.mul_le_mul (by omega) (by omega) (by have := h.wd0; omega) (by have := h'.b0; omega)
  have e2 : r * (lg + 8) ≤ r' * (lg' + 8) := Int.mul_le_mul hr (by omega) (by have := h.lg0; omega) (by have := h'.r0; omega)
  unfold restI opI ansI
  omega
theorem timesI_mono {k u v : Int} (hu : 1 ≤ u) (hv : u ≤ v) : timesI k u ≤ timesI k v := by
  by_cases hk : k < 1
  · rw [timesI_k0 hk, timesI_k0 hk]; exact Int.le_refl _
  · rw [timesI_cap (by omega) hu, timesI_cap (by omega) (by omega)]
    have : k * u ≤ k * v := Int.mul_le_mul_of_nonneg_left hv (by omega)
    unfold capI
    (repeat' split) <;> omega
end Go.Proofs.YtcdnbheoelnghaaDoor
