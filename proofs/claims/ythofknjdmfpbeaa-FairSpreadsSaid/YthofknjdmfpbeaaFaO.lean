/-
  cmp.Compare, the function that compares places by their numbers, slices.SortStableFunc of at most twenty places, order.
-/
import Derived.Test.YthofknjdmfpbeaaFaN
import Derived.Test.YthofknjdmfpbeaaFaB
import Derived.Test.YthofknjdmfpbeaaFaSh
namespace Go.Proofs.Ythofknjdmfpbeaa.Fa
open Go.RowKit Go.Shelf
open Go.Proofs.Ythofknjdmfpbeaa.Row
open Go.Sort (putRow Holds holds_putRow size_putRow)
attribute [local go_sem] Oper.semAt_some

/-- A row of small numbers reads so. -/
def Ru (w : World) (p : Option Addr) (l : List Nat) : Prop := ∀ j, j < l.length → l.getD j 0 < 65536 ∧ ∃ g off, p = some ⟨g, off, none⟩ ∧ w.cell? ⟨g, off + j, none⟩ = some (.int .u16 (l.getD j 0 : Nat))
theorem Ru.later {w w' : World} {p : Option Addr} {l : List Nat} (h : Ru w p l) (hb : Below w.heap.size w w') : Ru w' p l := fun j hj => by
  obtain ⟨h1, g, off, e, hc⟩ := h j hj
  exact ⟨h1, g, off, e, (hb.cell (p := ⟨g, off + j, none⟩) (World.block_lt_of_cell? w _ hc)).trans hc⟩

theorem nan_any (x : Nat) (w : World) : Calls Try.prog 31 #[.int .u16 x] w fun e w' => e = .returned (.bool false) ∧ w' = w := by
  have hx : ((x : Int) != (x : Int)) = false := by simp
  go_enter Try.func31, Try.ntmps31
  go_wp2
  go_ret
  exact ⟨rfl, rfl⟩
theorem compare_any (x y : Nat) (w : World) : Calls Try.prog 29 #[.int .u16 x, .int .u16 y] w fun e w' => e = .returned (.int .i64 (cmpU x y)) ∧ w' = w := by
  unfold cmpU
  by_cases h1 : x < y
  · rw [if_pos h1]
    have i1 : (x : Int) < (y : Int) := by omega
    go_enter Try.func29, Try.ntmps29
    go_wp2_with (go_at_call 31; refine (nan_any _ _).mono ?_; rintro e wa ⟨rfl, rfl⟩)
    go_ret
    exact ⟨rfl, rfl⟩
  · rw [if_neg h1]
    have i1 : ¬ (x : Int) < (y : Int) := by omega
    by_cases h2 : y < x
    · rw [if_pos h2]
      have i2 : (y : Int) < (x : Int) := by omega
      go_enter Try.func29, Try.ntmps29
      go_wp2_with (go_at_call 31; refine (nan_any _ _).mono ?_; rintro e wa ⟨rfl, rfl⟩)
      go_ret
      exact ⟨rfl, rfl⟩
    · rw [if_neg h2]
      have i2 : ¬ (y : Int) < (x : Int) := by omega
      go_enter Try.func29, Try.ntmps29
      go_wp2_with (go_at_call 31; refine (nan_any _ _).mono ?_; rintro e wa ⟨rfl, rfl⟩)
      go_ret
      exact ⟨rfl, rfl⟩

theorem order1_any (b g off cap L i j x y : Nat) (w : World) (hi : i < L) (hj : j < L) (hb : w.cell? ⟨b, 0, none⟩ = some (.slice (some ⟨g, off, none⟩) L cap)) (hx : w.cell? ⟨g, off + i, none⟩ = some (.int .u16 x)) (hy : w.cell? ⟨g, off + j, none⟩ = some (.int .u16 y)) :
    Calls Try.prog 28 #[.int .i64 i, .int .i64 j, .pointer (some ⟨b, 0, none⟩)] w fun e w' => e = .returned (.int .i64 (cmpU x y)) ∧ ∃ q, w' = w.drewN q := by
  have i0 : (0 : Int) ≤ (i : Int) := Int.natCast_nonneg _
  have j0 : (0 : Int) ≤ (j : Int) := Int.natCast_nonneg _
  have i1 : (i : Int) < (L : Int) := by omega
  have j1 : (j : Int) < (L : Int) := by omega
  have HC : Hid (∀ W, Calls Try.prog 29 #[.int .u16 x, .int .u16 y] W fun e w' => e = .returned (.int .i64 (cmpU x y)) ∧ ∃ q, w' = W.drewN q) := Lib.hid (fun W => (compare_any x y W).mono fun e w' h => ⟨h.1, 0, h.2⟩)
  go_enter Try.func28, Try.ntmps28
  go_wp2_with fail
  go_quiet (first | (go_at_call 29; refine Calls.quiet_of (HC.out _)))
  go_wp2
  go_ret
  exact ⟨rfl, _, rfl⟩

/-- A place, as a cell. -/
def encF {m : Nat} (x : Fin (m + 1)) : Value := .int .i64 ((x.val : Nat) : Int)
theorem encF_one {m : Nat} : OneCell (encF (m := m)) := fun _ => rfl

theorem cmp_reads {m : Nat} (b g off cap blk : Nat) (v : List Nat) (W : World) (hv : v.length = m + 1) (hb : W.cell? ⟨b, 0, none⟩ = some (.slice (some ⟨g, off, none⟩) (m + 1) cap)) (hr : Ru W (some ⟨g, off, none⟩) v) (hbb : b ≠ blk) (hgb : g ≠ blk) :
    CmpReads Try.prog 28 #[.pointer (some ⟨b, 0, none⟩)] (encF (m := m)) (cfU fun i => v.getD i 0) blk 0 (idA m).size W := by
  intro k os dk _ x y
  have hcell : ∀ a : Addr, a.block ≠ blk → ∀ u, W.cell? a = some u → (sortWorld (encF (m := m)) W blk 0 k dk os).cell? a = some u := fun a ha u hu => by
    unfold sortWorld
    rw [Go.Sort.cell?_grow _ _ _ (by rw [size_putRow]; exact World.block_lt_of_cell? W _ hu), Go.Sort.cell?_putRow_other _ _ _ _ _ _ (.inl ha)]
    exact hu
  have hx : ∀ z : Fin (m + 1), W.cell? ⟨g, off + z.val, none⟩ = some (.int .u16 (v.getD z.val 0 : Nat)) := fun z => by
    obtain ⟨_, g', off', e, hc⟩ := hr z.val (by omega)
    cases e
    exact hc
  exact order1_any b g off cap (m + 1) x.val y.val _ _ _ x.isLt y.isLt (hcell _ hbb _ hb) (hcell _ hgb _ (hx x)) (hcell _ hgb _ (hx y))

theorem stable_any {m : Nat} (b g off cap blk : Nat) (v : List Nat) (W : World) (hv : v.length = m + 1) (hm : m + 1 ≤ 16) (hb : W.cell? ⟨b, 0, none⟩ = some (.slice (some ⟨g, off, none⟩) (m + 1) cap)) (hr : Ru W (some ⟨g, off, none⟩) v) (hbb : b ≠ blk) (hgb : g ≠ blk)
    (hH : Holds (encF (m := m)) W blk 0 (idA m)) :
    Calls Try.prog 30 #[.slice (some ⟨blk, 0, none⟩) (m + 1) (m + 1), .int .i64 ((m : Int) + 1), .func (.func 28) #[] #[.pointer (some ⟨b, 0, none⟩)]] W fun e w' =>
      e = .returned (.tuple #[]) ∧ ∃ q, w' = (putRow (encF (m := m)) W blk 0 (Go.Sort.insertionSort (ltOf (cfU fun i => v.getD i 0)) (idA m) 0 (m + 1))).drewN q := by
  have hi := Any.insertionSortCmpFunc_one Try.laysSlF20_f32 (encF (m := m)) encF_one (cfU fun i => v.getD i 0) 28 #[.pointer (some ⟨b, 0, none⟩)] blk 0 (m + 1) 0 (m + 1) (idA m) W
    (enters_of Try.func28 (by kernel_rfl) rfl) (cmp_reads b g off cap blk v W hv hb hr hbb hgb) hH (Nat.zero_le _) (by rw [idA_size]; exact Nat.le_refl _) (by rw [idA_size]; omega)
  rw [idA_size, show ((0 : Nat) : Int) = 0 from rfl, show ((m + 1 : Nat) : Int) = (m : Int) + 1 by omega] at hi
  have HI : Hid (Calls Try.prog 32 #[.slice (some ⟨blk, 0, none⟩) (m + 1) (m + 1), .int .i64 0, .int .i64 ((m : Int) + 1), .func (.func 28) #[] #[.pointer (some ⟨b, 0, none⟩)]] W fun e w' =>
      e = .returned (.tuple #[]) ∧ ∃ q, w' = (putRow (encF (m := m)) W blk 0 (Go.Sort.insertionSort (ltOf (cfU fun i => v.getD i 0)) (idA m) 0 (m + 1))).drewN q) := Lib.hid hi
  clear hi hb hr hH
  have i0 : ¬ (20 : Int) ≤ (m : Int) + 1 := by omega
  have i1 : ¬ (20 : Int) < (m : Int) + 1 := by omega
  go_enter Try.func30, Try.ntmps30
  go_wp2
  go_loopw [7, 8] (fun a b wr => a = .int .i64 0 ∧ b = .int .i64 20 ∧ W = wr) (fun _ _ _ => 0)
  case atStart => exact ⟨rfl, rfl, rfl⟩
  case round =>
    obtain ⟨rfl, rfl, rfl⟩ := hrel
    go_wp2_with (go_at_call 32; refine HI.out.mono ?_; rintro e w1 ⟨rfl, q, rfl⟩)
    generalize hW : World.drewN _ _ = W2
    go_loopw [6, 7, 8, 9] (fun a _ _ _ wr => a = .int .i64 20 ∧ W2 = wr) (fun _ _ _ _ _ => 0)
    case atStart => exact ⟨rfl, rfl⟩
    case round =>
      obtain ⟨rfl, rfl⟩ := hrel
      go_wp2
      exact bodyPost_end (results_none rfl _ _ _) rfl ⟨rfl, q, hW.symm⟩

theorem sort_any {m : Nat} (b g off cap blk : Nat) (v : List Nat) (W : World) (hv : v.length = m + 1) (hm : m + 1 ≤ 16) (hb : W.cell? ⟨b, 0, none⟩ = some (.slice (some ⟨g, off, none⟩) (m + 1) cap)) (hr : Ru W (some ⟨g, off, none⟩) v) (hbb : b ≠ blk) (hgb : g ≠ blk)
    (hH : Holds (encF (m := m)) W blk 0 (idA m)) :
    Calls Try.prog 27 #[.slice (some ⟨blk, 0, none⟩) (m + 1) (m + 1), .func (.func 28) #[] #[.pointer (some ⟨b, 0, none⟩)]] W fun e w' =>
      e = .returned (.tuple #[]) ∧ ∃ q, w' = (putRow (encF (m := m)) W blk 0 (Go.Sort.insertionSort (ltOf (cfU fun i => v.getD i 0)) (idA m) 0 (m + 1))).drewN q := by
  have HS := Lib.hid (stable_any b g off cap blk v W hv hm hb hr hbb hgb hH)
  clear hb hr hH
  go_enter Try.func27, Try.ntmps27
  go_wp2_with (go_at_call 30; refine HS.out.mono ?_; rintro e w1 ⟨rfl, q, rfl⟩)
  exact bodyPost_end (results_none rfl _ _ _) rfl ⟨rfl, q, rfl⟩

/-- order: the places of some numbers, by these. -/
theorem order_any {m : Nat} (g off cap : Nat) (v : List Nat) (w : World) (hv : v.length = m + 1) (hm : m + 1 ≤ 16) (hr : Ru w (some ⟨g, off, none⟩) v) :
    Calls Try.prog 23 #[.slice (some ⟨g, off, none⟩) (m + 1) cap] w fun e w' => ∃ b R, e = .returned (.slice (some ⟨b, 0, none⟩) (m + 1) (m + 1)) ∧ OrdP (fun i => v.getD i 0) (m + 1) R ∧
      (∀ j, j < m + 1 → w'.cell? ⟨b, j, none⟩ = some (.int .i64 (R.getD j 0 : Nat))) ∧ Below w.heap.size w w' := by
  have hmk : ∀ W : World, (Instr.makeSlice 22 (.int .i64 ((m : Int) + 1)) (.int .i64 ((m : Int) + 1))).run Try.prog W = .ok (.slice (some ⟨W.heap.size, 0, none⟩) (m + 1) (m + 1)) (W.alloc (.cells (zeroInts (m + 1)) 3)) := fun W => make_ints (m + 1) (by omega) W
  have HR := Lib.hid hr
  have hg : g < w.heap.size := by
    obtain ⟨_, g', off', e, hc⟩ := hr 0 (by omega)
    cases e
    exact World.block_lt_of_cell? w _ hc
  have HAT := Lib.hid (fun p => @zeroInts_at (m + 1) p)
  clear hr
  generalize zeroInts (m + 1) = Z at *
  go_enter Try.func23, Try.ntmps23
  have hb0 : Below w.heap.size w ((w.alloc (.cells #[.slice (some ⟨g, off, none⟩) (m + 1) cap] 31)).alloc (.cells Z 3)) := ((Below.refl _ _).alloc (Nat.le_refl _) _).alloc (by simp) _
  have x1 : ((w.alloc (.cells #[.slice (some ⟨g, off, none⟩) (m + 1) cap] 31)).alloc (.cells Z 3)).cell? ⟨w.heap.size, 0, none⟩ = some (.slice (some ⟨g, off, none⟩) (m + 1) cap) := cell_old (by simp) (cell_last rfl rfl)
  have x2 : ∀ p, p < m + 1 → ((w.alloc (.cells #[.slice (some ⟨g, off, none⟩) (m + 1) cap] 31)).alloc (.cells Z 3)).cell? ⟨w.heap.size + 1, p, none⟩ = some (.int .i64 0) := fun p hp => cell_last (by simp) (HAT.out p hp)
  have x3 : ∀ p, ((w.alloc (.cells #[.slice (some ⟨g, off, none⟩) (m + 1) cap] 31)).alloc (.cells Z 3)).frozen? ⟨w.heap.size + 1, p, none⟩ = false := fun p => froz_last (by simp)
  have HB0 := Lib.hid hb0
  have HX1 := Lib.hid x1
  have HX2 := Lib.hid x2
  have HX3 := Lib.hid x3
  clear hb0 x1 x2 x3
  go_wp2
  generalize hW : World.alloc _ _ = W0 at *
  go_loopw [4, 10] (fun _ i wr => ∃ c : Nat, c ≤ m + 1 ∧ i = .int .i64 c ∧ Below w.heap.size w wr ∧ wr.cell? ⟨w.heap.size, 0, none⟩ = some (.slice (some ⟨g, off, none⟩) (m + 1) cap) ∧ (∀ p, p < c → wr.cell? ⟨w.heap.size + 1, p, none⟩ = some (.int .i64 (p : Nat))) ∧ (∀ p, c ≤ p → p < m + 1 → wr.cell? ⟨w.heap.size + 1, p, none⟩ = some (.int .i64 0)) ∧ ∀ p, wr.frozen? ⟨w.heap.size + 1, p, none⟩ = false) (fun _ i _ => m + 1 - (intOf i).toNat)
  case atStart => exact ⟨0, by omega, rfl, HB0.out, HX1.out, fun p hp => by omega, fun p _ hp => HX2.out p hp, HX3.out⟩
  case round =>
    obtain ⟨c, hc, rfl, h1, h2, h3, h4, h5⟩ := hrel
    by_cases hlt : c < m + 1
    · have j0 : (0 : Int) ≤ (c : Int) := Int.natCast_nonneg _
      have j1 : (c : Int) < (m : Int) + 1 := by omega
      have hx := h4 c (Nat.le_refl _) hlt
      have hf := h5 c
      have H1 := Lib.hid h1
      have H2 := Lib.hid h2
      have H3 := Lib.hid h3
      have H4 := Lib.hid h4
      have H5 := Lib.hid h5
      clear h1 h2 h3 h4 h5
      go_wp2
      go_roundw
      case rel =>
        refine ⟨c + 1, by omega, by go_num, H1.out.trans (((Chg.refl (fun x => w.heap.size ≤ x) wr).set (.inl (by simp)) _).below (fun _ h => h) H1.out.size), (other (by simp)).trans H2.out, fun p hp => ?_, fun p h1 h2 => (other (by first | (simp; done) | (simp; omega))).trans (H4.out p (by omega) h2), fun p => (World.frozen?_setCell ..).trans (H5.out p)⟩
        by_cases e : p = c
        · subst e; exact same hx
        · exact (other (by first | (simp; done) | (simp; omega))).trans (H3.out p (by omega))
      case measure => simp [intOf]; omega
    · obtain rfl : c = m + 1 := by omega
      have j1 : ¬ ((m + 1 : Nat) : Int) < (m : Int) + 1 := by omega
      have hH : Holds (encF (m := m)) wr (w.heap.size + 1) 0 (idA m) := fun j hj => by
        rw [idA_size] at hj
        refine ⟨?_, by rw [Nat.zero_add]; exact h5 j⟩
        rw [Nat.zero_add, h3 j hj]
        simp only [encF, idA_at hj]
      have HS := Lib.hid (sort_any w.heap.size g off cap (w.heap.size + 1) v wr hv hm h2 (HR.out.later h1) (by omega) (by omega) hH)
      have HH := Lib.hid hH
      have H1 := Lib.hid h1
      clear h1 h2 h3 h4 h5 hH
      obtain ⟨hord, hsz⟩ := ins_ord (m := m) (fun i => v.getD i 0)
      generalize Go.Sort.insertionSort (ltOf (cfU fun i => v.getD i 0)) (idA m) 0 (m + 1) = r at *
      go_wp2_with (go_at_call 27; refine HS.out.mono ?_; rintro e w1 ⟨rfl, q, rfl⟩)
      go_ret
      have hh := holds_putRow encF wr (w.heap.size + 1) 0 (idA m) r HH.out (by rw [hsz, idA_size])
      refine ⟨w.heap.size + 1, _, rfl, hord, fun j hj => ?_, ?_⟩
      · have := (hh j (by rw [hsz]; exact hj)).1
        rw [Nat.zero_add] at this
        show (putRow encF wr (w.heap.size + 1) 0 r).cell? _ = _
        rw [this, List.getD_eq_getElem?_getD, List.getElem?_map, Array.getElem?_toList, getElem!_pos r j (by omega), Array.getElem?_eq_getElem (by omega)]
        rfl
      · have hB : Below w.heap.size wr (putRow encF wr (w.heap.size + 1) 0 r) := ⟨rfl, rfl, rfl, Nat.le_of_eq (size_putRow encF wr (w.heap.size + 1) 0 r).symm, fun k hk => by
          unfold putRow Go.Sort.mapBlock
          simp only [Array.getElem?_modify]
          rw [if_neg (by omega)]⟩
        exact below_drewN (H1.out.trans hB) q
end Go.Proofs.Ythofknjdmfpbeaa.Fa
