/-
  The rows that the law BoardPlays keeps beside a board.
-/
import Derived.Test.YthkhngnfpljbbaaBrdE
import Derived.Test.YthkhngnfpljbbaaRowB
namespace Go.Proofs.Ythkhngnfpljbbaa.Brd
open Go.RowKit
open Go.Proofs.Ythkhngnfpljbbaa.Row

theorem in_any (p : Option Addr) (cp : Nat) (l : List Int) (x : Int) (w : World) (hp : Rd0 w p l) (hl : l.length ≤ 1048576) :
    Calls Try.prog 11 #[.slice p l.length cp, .int .i64 x] w fun e w' => e = .returned (.bool (decide (x ∈ l))) ∧ w = w' := by
  have HP := Lib.hid hp
  clear hp
  go_enter Try.func11, Try.ntmps11
  go_wp2
  go_loopw [5] (fun i wr => ∃ c : Nat, c ≤ l.length ∧ i = .int .i64 c ∧ x ∉ l.take c ∧ w = wr) (fun i _ => l.length - (intOf i).toNat)
  case atStart => exact ⟨0, by omega, rfl, by simp, rfl⟩
  case round =>
    obtain ⟨c, hc, rfl, hno, rfl⟩ := hrel
    have HNO := Lib.hid hno
    clear hno
    by_cases hlt : c < l.length
    · obtain ⟨b, off, rfl, h1⟩ := HP.out c hlt
      have i0 : (0 : Int) ≤ (c : Int) := Int.natCast_nonneg _
      have i1 : (c : Int) < (l.length : Int) := by omega
      have hget : l[c]? = some (l.getD c 0) := by rw [List.getD_eq_getElem?_getD]; simp [hlt]
      have hmem : l.getD c 0 ∈ l := List.mem_of_getElem? hget
      have HGET := Lib.hid hget
      have HMEM := Lib.hid hmem
      clear hget hmem
      generalize l.getD c 0 = y at *
      by_cases he : y = x
      · subst he
        have hyy : (y == y) = true := by simp
        have hd : decide (y ∈ l) = true := by simpa using HMEM.out
        go_wp2
        go_ret
        exact ⟨by rw [hd]; rfl, rfl⟩
      · have hyx : (y == x) = false := by simpa using he
        have hn2 : x ∉ l.take (c + 1) := by
          rw [List.take_add_one, HGET.out]
          simp only [Option.toList_some, List.mem_append, List.mem_singleton]
          exact fun h => h.elim HNO.out (fun e => he e.symm)
        have HN2 := Lib.hid hn2
        clear hn2
        go_wp2
        go_roundw
        case rel => exact ⟨c + 1, by omega, by go_num, HN2.out, trivial⟩
        case measure => simp [intOf]; omega
    · have hd : decide (x ∈ l) = false := by
        have := HNO.out
        rw [List.take_of_length_le (by omega)] at this
        simpa using this
      go_wp2
      go_ret
      exact ⟨by rw [hd]; rfl, rfl⟩
theorem in_anyL (p : Option Addr) (cp L : Nat) (l : List Int) (x : Int) (w : World) (hp : Rd0 w p l) (hL : l.length = L) (hl : L ≤ 1048576) :
    Calls Try.prog 11 #[.slice p L cp, .int .i64 x] w fun e w' => e = .returned (.bool (decide (x ∈ l))) ∧ w = w' := by
  subst hL
  exact in_any p cp l x w hp hl

/-- A row that says who hasn't answered. -/
structure Ln (n : Nat) (ow : Nat → Bool) (l : List Int) : Prop where
  mem : ∀ k : Nat, k < n → ((k : Int) ∈ l ↔ ow k = true)
  rng : ∀ z, z ∈ l → 0 ≤ z ∧ z < n
theorem Ln.none (n : Nat) : Ln n (fun _ => false) [] := ⟨fun k _ => by simp, fun z h => by simp at h⟩
theorem Ln.full (n : Nat) (ow : Nat → Bool) : Ln n (fun m => decide (m < n) || ow m) ((List.range n).map fun k : Nat => (k : Int)) :=
  ⟨fun k hk => by simp [hk]; exact ⟨k, hk, rfl⟩, fun z h => by
    obtain ⟨k, hk, rfl⟩ := List.mem_map.1 h
    have := List.mem_range.1 hk
    omega⟩
theorem Ln.less {n m : Nat} {ow : Nat → Bool} {l : List Int} (h : Ln n ow l) : Ln n (upd ow m false) (l.filter fun z => z != (m : Int)) :=
  ⟨fun k hk => by
    rw [List.mem_filter, h.mem k hk]
    unfold upd
    by_cases e : k = m
    · subst e; simp
    · rw [if_neg e]
      have : ((k : Int) != (m : Int)) = true := by simp; omega
      simp [this],
   fun z hz => h.rng z (List.mem_filter.1 hz).1⟩
theorem Ln.nil {n : Nat} {ow : Nat → Bool} {l : List Int} (h : Ln n ow l) : allB n ow = (l == []) := by
  rw [Bool.eq_iff_iff, allB_true]
  constructor
  · intro ha
    cases l with
    | nil => rfl
    | cons z l =>
      have h1 := h.rng z (by simp)
      obtain ⟨k, rfl⟩ := Int.eq_ofNat_of_zero_le h1.1
      have h2 := (h.mem k (by omega)).1 (by simp)
      rw [ha k (by omega)] at h2
      cases h2
  · intro e m hm
    have : l = [] := by simpa using e
    subst this
    cases e2 : ow m with
    | false => rfl
    | true => have := (h.mem m hm).2 e2; simp at this

/-- A board above what lay, and the row beside it. -/
structure Pl (S : Nat) (w wr : World) (n : Nat) (kind count : Int) (ow : Nat → Bool) (l : List Int) (p : Option Addr) (L cap : Nat) : Prop where
  bd : Bd S w wr S n kind count ow
  own : wr.ownsRow (S + 1) 3 1 (.slice p L cap) L (cellsZ l)
  len : L ≤ 8
theorem Pl.eq {S : Nat} {w wr : World} {n : Nat} {kind count : Int} {ow : Nat → Bool} {l : List Int} {p : Option Addr} {L cap : Nat} (h : Pl S w wr n kind count ow l p L cap) : l.length = L := by
  have := h.own.1
  rw [cellsZ_length] at this
  omega
theorem Pl.ge {S : Nat} {w wr : World} {n : Nat} {kind count : Int} {ow : Nat → Bool} {l : List Int} {p : Option Addr} {L cap : Nat} (h : Pl S w wr n kind count ow l p L cap) {g : Nat} (hg : rowB p g) : S + 1 ≤ g ∧ g < wr.heap.size := owns_lt h.own hg
theorem Pl.rd {S : Nat} {w wr : World} {n : Nat} {kind count : Int} {ow : Nat → Bool} {l : List Int} {p : Option Addr} {L cap : Nat} (h : Pl S w wr n kind count ow l p L cap) : Rd wr p l := by
  have h1 := h.own
  have h2 := h.eq
  subst h2
  exact Rd.of_owns h1
theorem Pl.later {S : Nat} {w wr w' : World} {n : Nat} {kind count : Int} {ow : Nat → Bool} {l : List Int} {p : Option Addr} {L cap : Nat} (h : Pl S w wr n kind count ow l p L cap) (hS : S ≤ w.heap.size) (hb : Below wr.heap.size wr w') : Pl S w w' n kind count ow l p L cap :=
  ⟨h.bd.later hS hb, owns_block h.own (fun g hg => hb.block g (h.ge hg).2), h.len⟩
theorem Pl.ask {S : Nat} {w wr : World} {n : Nat} {kind count : Int} {ow : Nat → Bool} {l : List Int} {p : Option Addr} {L cap : Nat} (h : Pl S w wr n kind count ow l p L cap) (hS : S ≤ w.heap.size) (k : Int) (ho : allB n ow = true) (h0 : 0 ≤ count) (h1 : count ≤ 1000000) :
    Calls Try.prog 9 #[.pointer (some ⟨S, 0, none⟩), .int .i64 k] wr fun e w' => e = .returned (.int .i64 0) ∧ Pl S w w' n k (count + 1) (fun m => decide (m < n) || ow m) l p L cap := by
  refine (ask_yes k wr h.bd.st ho h0 h1).mono ?_
  rintro e w' ⟨rfl, hs, hc⟩
  exact ⟨rfl, ⟨hs, h.bd.bel.trans (hc.below (fun k hk => hk ▸ h.bd.st.base) (Nat.le_trans hS h.bd.bel.size))⟩, owns_chg h.own hc (fun g hg => by have := (h.ge hg).1; omega), h.len⟩
theorem Pl.askNo {S : Nat} {w wr : World} {n : Nat} {kind count : Int} {ow : Nat → Bool} {l : List Int} {p : Option Addr} {L cap : Nat} (h : Pl S w wr n kind count ow l p L cap) (hS : S ≤ w.heap.size) (k : Int) (ho : allB n ow = false) :
    Calls Try.prog 9 #[.pointer (some ⟨S, 0, none⟩), .int .i64 k] wr fun e w' => e = .returned (.int .i64 11) ∧ Pl S w w' n kind count ow l p L cap := by
  refine (ask_no k wr h.bd.st ho).mono ?_
  rintro e w' ⟨rfl, hb⟩
  exact ⟨rfl, h.later hS hb⟩
theorem Pl.all {S : Nat} {w wr : World} {n : Nat} {kind count : Int} {ow : Nat → Bool} {l : List Int} {p : Option Addr} {L cap : Nat} (h : Pl S w wr n kind count ow l p L cap) (hS : S ≤ w.heap.size) :
    Calls Try.prog 13 #[.pointer (some ⟨S, 0, none⟩)] wr fun e w' => e = .returned (.bool (allB n ow)) ∧ Pl S w w' n kind count ow l p L cap := by
  refine (all_any wr h.bd.st).mono ?_
  rintro e w' ⟨rfl, hb⟩
  exact ⟨rfl, h.later hS hb⟩
theorem Pl.answer {S : Nat} {w wr : World} {n : Nat} {kind count : Int} {ow : Nat → Bool} {l : List Int} {p : Option Addr} {L cap : Nat} (h : Pl S w wr n kind count ow l p L cap) (hS : S ≤ w.heap.size) (m : Nat) (hm : m < n) (ho : ow m = true) :
    Calls Try.prog 10 #[.pointer (some ⟨S, 0, none⟩), .int .i64 m] wr fun e w' => e = .returned (.int .i64 0) ∧ Pl S w w' n kind count (upd ow m false) l p L cap := by
  refine (ans_open m wr h.bd.st hm ho).mono ?_
  rintro e w' ⟨rfl, hs, hc⟩
  exact ⟨rfl, ⟨hs, h.bd.bel.trans (hc.below (fun k hk => hk ▸ h.bd.st.base) (Nat.le_trans hS h.bd.bel.size))⟩, owns_chg h.own hc (fun g hg => by have := (h.ge hg).1; omega), h.len⟩
/-- What an append to the row leaves. -/
theorem Pl.push {S : Nat} {w wr Y0 w3 : World} {n : Nat} {kind count : Int} {ow : Nat → Bool} {l : List Int} {p : Option Addr} {L cap : Nat} {x : Int} {v' : Value} (h : Pl S w wr n kind count ow l p L cap) (hS : S ≤ w.heap.size) (hL : L < 8) (hb : Below wr.heap.size wr Y0)
    (hown : w3.ownsRow (S + 1) 3 1 v' (L + 1) (cellsZ l ++ [.int .i64 x])) (hg : Y0.grownBy w3 (Value.slice p L cap).ownBlock)
    (hat : v'.ownBlock = (Value.slice p L cap).ownBlock ∨ v'.ownBlock = some Y0.heap.size) :
    ∃ p' cap', v' = .slice p' (L + 1) cap' ∧ Pl S w w3 n kind count ow (l ++ [x]) p' (L + 1) cap' := by
  obtain ⟨p', cap', rfl, hC, hR⟩ := push_row hb hown hg hat
  have hn : ¬ rowB p S := fun e => by have := (h.ge e).1; omega
  refine ⟨p', cap', rfl, ⟨⟨h.bd.st.chg hC hn, h.bd.bel.trans (hC.below (fun k hk => by have := (h.ge hk).1; omega) (Nat.le_trans hS h.bd.bel.size))⟩, ?_, by omega⟩⟩
  rw [cellsZ_snoc]
  exact hown
theorem Pl.alloc {S : Nat} {w wr : World} {n : Nat} {kind count : Int} {ow : Nat → Bool} {l : List Int} {p : Option Addr} {L cap : Nat} (h : Pl S w wr n kind count ow l p L cap) (o) : (wr.alloc o).ownsRow (S + 1) 3 1 (.slice p L cap) L (cellsZ l) :=
  owns_block h.own (fun g hg => Below.heap_alloc _ _ _ (by simpa using (h.ge hg).2))

/-- What is done: a truth and a number each. -/
def DeedsP (S : Nat) (W : World) (p : Option Addr) (l : List (Bool × Int)) : Prop := ∀ j, j < l.length → ∃ b off, p = some ⟨b, off, none⟩ ∧ b < S ∧ W.cell? ⟨b, off + j * 2, none⟩ = some (.bool (l.getD j (false, 0)).1) ∧ W.cell? ⟨b, off + j * 2 + 1, none⟩ = some (.int .i64 (l.getD j (false, 0)).2)
end Go.Proofs.Ythkhngnfpljbbaa.Brd
