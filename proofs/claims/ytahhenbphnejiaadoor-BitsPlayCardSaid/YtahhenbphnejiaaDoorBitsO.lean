/-
  The reference's search in a list; what the law's list is, as numbers; the numbers of a set, one behind the other.
-/
import Derived.Test.YtahhenbphnejiaaDoorBitsM
namespace Go.Proofs.YtahhenbphnejiaaDoor.Bits
open Go.RowKit Go.Shelf

/-- Numbers, as the program's. -/
def zsOf (l : List Nat) : List Int := l.map fun n => ((n : Nat) : Int)
theorem zsOf_length (l : List Nat) : (zsOf l).length = l.length := by simp [zsOf]
theorem zsOf_at (l : List Nat) (k : Nat) (h : k < l.length) : (zsOf l)[k]?.getD 0 = ((l[k] : Nat) : Int) := by simp [zsOf, h]

theorem ints_of_owns {W : World} {b : Nat} {v : Value} {l : List Nat} (h : W.ownsRow b 3 1 v l.length (cellsZ l)) : ∃ a cap, v = .slice a l.length cap ∧ IntsP W.heap.size W a (zsOf l) := by
  have hl := h.lt
  rcases hx : h.2 with ⟨rfl, h0⟩ | ⟨g, cap, cur, rfl, hr⟩
  · exact ⟨none, 0, by rw [h0], fun j hj => by rw [zsOf_length, h0] at hj; omega⟩
  · refine ⟨_, cap, rfl, fun j hj => ⟨g, 0, rfl, (hl g rfl).2, ?_⟩⟩
    rw [zsOf_length] at hj
    have hc := h.cells (g := g) rfl j (.int .i64 ((l[j] : Nat) : Int)) (by simp [cellsZ, hj])
    rw [Addr.add_lit, Nat.zero_add] at hc
    rw [zsOf_at l j hj, Nat.zero_add]
    exact hc

set_option maxHeartbeats 1000000 in
theorem in_any (p : Option Addr) (cap : Nat) (zs : List Int) (z : Int) (w : World) (hz : IntsP w.heap.size w p zs) (hl : zs.length ≤ 2097152) :
    Calls Tryd.prog 28 #[.slice p zs.length cap, .int .i64 z] w fun e w' => e = .returned (.bool (decide (z ∈ zs))) ∧ w = w' := by
  have HZ := Lib.hid hz
  clear hz
  go_enter Tryd.func28, Tryd.ntmps28
  go_wp2
  go_loopw [5] (fun i wr => ∃ k : Nat, k ≤ zs.length ∧ i = .int .i64 k ∧ wr = w ∧ z ∉ zs.take k) (fun i _ => zs.length - (intOf i).toNat)
  case atStart => exact ⟨0, Nat.zero_le _, rfl, rfl, by simp⟩
  case round =>
    obtain ⟨k, hk, rfl, rfl, hno⟩ := hrel
    by_cases hlt : k < zs.length
    · obtain ⟨b, off, rfl, hbS, hcx⟩ := HZ.out k hlt
      have i1 : (0 : Int) ≤ (k : Int) := Int.natCast_nonneg _
      have i2 : (k : Int) < (zs.length : Int) := by omega
      have hg : zs[k]?.getD 0 = zs[k] := by simp [hlt]
      rw [hg] at hcx
      by_cases he : zs[k] = z
      · have hb : (zs[k] == z) = true := by simp [he]
        have hfin : decide (z ∈ zs) = true := by
          rw [decide_eq_true_eq, ← he]
          exact List.getElem_mem hlt
        have HF := Lib.hid hfin
        clear hfin hno he
        go_wp2
        go_ret
        exact ⟨ret_bool HF.out.symm, rfl⟩
      · have hb : (zs[k] == z) = false := by simp [he]
        have hno2 : z ∉ zs.take (k + 1) := by
          rw [List.take_succ_eq_append_getElem hlt, List.mem_append]
          simp [hno]
          exact fun e => he e.symm
        have HN := Lib.hid hno2
        clear hno hno2 he
        go_wp2
        go_roundw
        case rel => exact ⟨k + 1, by omega, by go_num, by first | rfl | trivial, HN.out⟩
        case measure => simp [intOf]; omega
    · have hfin : decide (z ∈ zs) = false := by
        rw [decide_eq_false_iff_not]
        rwa [List.take_of_length_le (by omega)] at hno
      have HF := Lib.hid hfin
      clear hfin hno
      go_wp2
      go_ret
      exact ⟨ret_bool HF.out.symm, rfl⟩

theorem elems_sorted (ws : List Nat) (size : Nat) : (elems ws size).Pairwise (· < ·) := List.Pairwise.filter _ List.pairwise_lt_range
theorem elems_length_le (ws : List Nat) (size : Nat) : (elems ws size).length ≤ size := by
  have h := List.length_filter_le (hasB ws) (List.range size)
  simpa [elems] using h
/-- Where the search goes on, when so many have been told. -/
def atK (l : List Nat) (k : Nat) : Nat := if k = 0 then 0 else l.getD (k - 1) 0 + 1
theorem atK_succ (l : List Nat) (k : Nat) (h : k < l.length) : atK l (k + 1) = l[k] + 1 := by simp [atK, h]
theorem sorted_lt {l : List Nat} (h : l.Pairwise (· < ·)) {i j : Nat} (hi : i < j) (hj : j < l.length) : l[i] < l[j] := List.pairwise_iff_getElem.1 h i j (by omega) hj hi
theorem atK_le {l : List Nat} (h : l.Pairwise (· < ·)) (k : Nat) (hk : k < l.length) : atK l k ≤ l[k] := by
  unfold atK
  split
  · omega
  · have := sorted_lt h (i := k - 1) (j := k) (by omega) hk
    rw [List.getD_eq_getElem?_getD, List.getElem?_eq_getElem (by omega), Option.getD_some]
    omega
theorem below_atK {l : List Nat} (h : l.Pairwise (· < ·)) {i k : Nat} (hi : i < k) (hk : k ≤ l.length) : l[i] < atK l k := by
  have e : atK l k = l[k - 1] + 1 := by
    have := atK_succ l (k - 1) (by omega)
    rwa [show k - 1 + 1 = k by omega] at this
  rw [e]
  rcases Nat.lt_or_ge i (k - 1) with h1 | h1
  · have := sorted_lt h h1 (by omega); omega
  · have : i = k - 1 := by omega
    subst this; omega
theorem next_told {size : Nat} {ws : List Nat} (hs : SetW size ws) {k : Nat} (hk : k < (elems ws size).length) {v : Int} {ok : Bool} (h : NextIs ws (atK (elems ws size) k) v ok) : v = (((elems ws size)[k] : Nat) : Int) ∧ ok = true := by
  have hp := elems_sorted ws size
  have hm := (mem_elems hs _).1 (List.getElem_mem hk)
  have hle := atK_le hp k hk
  rcases h with ⟨_, _, h⟩ | ⟨m, rfl, rfl, h1, h2, h3⟩
  · rw [h _ hle] at hm; cases hm
  · refine ⟨?_, rfl⟩
    obtain ⟨i, hi, he⟩ := List.getElem_of_mem ((mem_elems hs m).2 h2)
    have h4 : ¬ (elems ws size)[k] < m := fun h5 => by rw [h3 _ hle h5] at hm; cases hm
    have h5 : ¬ i < k := fun h6 => by have := below_atK hp h6 (Nat.le_of_lt hk); omega
    have h6 : ¬ k < i := fun h6 => h4 (by rw [← he]; exact sorted_lt hp h6 hi)
    have : i = k := by omega
    subst this
    rw [← he]
theorem next_end {size : Nat} {ws : List Nat} (hs : SetW size ws) {v : Int} {ok : Bool} (h : NextIs ws (atK (elems ws size) (elems ws size).length) v ok) : ok = false := by
  have hp := elems_sorted ws size
  rcases h with ⟨_, rfl, _⟩ | ⟨m, rfl, rfl, h1, h2, h3⟩
  · rfl
  · obtain ⟨i, hi, he⟩ := List.getElem_of_mem ((mem_elems hs m).2 h2)
    have := below_atK hp hi (Nat.le_refl _)
    omega
theorem has_told {size : Nat} {ws : List Nat} (hs : SetW size ws) (z : Int) : (mayB z size && hasB ws z.toNat) = decide (z ∈ zsOf (elems ws size)) := by
  rw [Bool.eq_iff_iff, decide_eq_true_eq, Bool.and_eq_true]
  simp only [zsOf, List.mem_map, mayB, Bool.and_eq_true, decide_eq_true_eq]
  constructor
  · rintro ⟨⟨h1, h2⟩, h3⟩
    exact ⟨z.toNat, (mem_elems hs _).2 h3, by omega⟩
  · rintro ⟨n, hn, rfl⟩
    have h := (mem_elems hs n).1 hn
    have hlt : n < size := by simpa using (List.mem_filter.1 hn).1
    exact ⟨⟨by omega, by omega⟩, by simpa using h⟩
end Go.Proofs.YtahhenbphnejiaaDoor.Bits
