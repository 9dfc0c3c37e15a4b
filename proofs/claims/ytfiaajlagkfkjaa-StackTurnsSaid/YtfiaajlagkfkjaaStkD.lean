/-
  A stack above what lay, through pushes and pops; the laws StackTurns and StackCalms answer true.
-/
import Derived.Test.YtfiaajlagkfkjaaStkC
namespace Go.Proofs.Ytfiaajlagkfkjaa.Stk
open Go.RowKit
open Go.Proofs.Ytfiaajlagkfkjaa.Row

/-- A stack in memory, above what lay. -/
structure St (S : Nat) (w wr : World) (B room : Nat) (ns : List Int) (over : Bool) : Prop where
  st : ∃ p cap, StIs wr B S room cap p ns over
  bel : Below S w wr
theorem St.new {w w1 : World} {n : Nat} (h : StIs w1 w.heap.size w.heap.size n 0 none [] false) (hb : Below w.heap.size w w1) : St w.heap.size w w1 w.heap.size n [] false := ⟨⟨_, _, h⟩, hb⟩
theorem St.push {S : Nat} {w wr : World} {B room : Nat} {ns : List Int} {over : Bool} (h : St S w wr B room ns over) (hS : S ≤ w.heap.size) (hl : ns.length < room) (x : Int) :
    Calls Try.prog 14 #[.pointer (some ⟨B, 0, none⟩), .int .i64 x] wr fun e w' => e = .returned (.bool true) ∧ St S w w' B room (ns ++ [x]) over := by
  obtain ⟨⟨p, cap, hs⟩, hb⟩ := h
  have hSr : S ≤ wr.heap.size := Nat.le_trans hS hb.size
  refine (push_good x wr hs hSr hl).mono ?_
  rintro e w' ⟨rfl, p', cap', hs', hc, _⟩
  exact ⟨rfl, ⟨_, _, hs'⟩, hb.trans (hc.below (fun k hk => hk.elim (fun e => e ▸ hs.base) (fun e => (hs.ltG e).1)) hSr)⟩
theorem St.full {S : Nat} {w wr : World} {B room : Nat} {ns : List Int} {over : Bool} (h : St S w wr B room ns over) (hS : S ≤ w.heap.size) (hl : ns.length = room) (x : Int) :
    Calls Try.prog 14 #[.pointer (some ⟨B, 0, none⟩), .int .i64 x] wr fun e w' => e = .returned (.bool false) ∧ St S w w' B room ns true := by
  obtain ⟨⟨p, cap, hs⟩, hb⟩ := h
  have hSr : S ≤ wr.heap.size := Nat.le_trans hS hb.size
  refine (push_full x wr hs hl).mono ?_
  rintro e w' ⟨rfl, hs', hc⟩
  exact ⟨rfl, ⟨_, _, hs'⟩, hb.trans (hc.below (fun k hk => hk ▸ hs.base) hSr)⟩
theorem St.pop {S : Nat} {w wr : World} {B room : Nat} {ns : List Int} {x : Int} {over : Bool} (h : St S w wr B room (ns ++ [x]) over) (hS : S ≤ w.heap.size) :
    Calls Try.prog 12 #[.pointer (some ⟨B, 0, none⟩)] wr fun e w' => e = .returned (.tuple #[.int .i64 x, .bool true]) ∧ St S w w' B room ns over := by
  obtain ⟨⟨p, cap, hs⟩, hb⟩ := h
  have hSr : S ≤ wr.heap.size := Nat.le_trans hS hb.size
  refine (pop_good wr hs).mono ?_
  rintro e w' ⟨rfl, hs', hc⟩
  exact ⟨rfl, ⟨_, _, hs'⟩, hb.trans (hc.below (fun k hk => hk ▸ hs.base) hSr)⟩
theorem St.empty {S : Nat} {w wr : World} {B room : Nat} {over : Bool} (h : St S w wr B room [] over) (hS : S ≤ w.heap.size) :
    Calls Try.prog 12 #[.pointer (some ⟨B, 0, none⟩)] wr fun e w' => e = .returned (.tuple #[.int .i64 0, .bool false]) ∧ St S w w' B room [] over := by
  obtain ⟨⟨p, cap, hs⟩, hb⟩ := h
  refine (pop_none wr hs).mono ?_
  rintro e w' ⟨rfl, hb'⟩
  exact ⟨rfl, ⟨_, _, hs.later hb'⟩, hb.trans (hb'.mono (Nat.le_trans hS hb.size))⟩
theorem St.calm {S : Nat} {w wr : World} {B room : Nat} {ns : List Int} {over : Bool} (h : St S w wr B room ns over) (hS : S ≤ w.heap.size) :
    Calls Try.prog 13 #[.pointer (some ⟨B, 0, none⟩)] wr fun e w' => e = .returned (.bool over) ∧ St S w w' B room ns false := by
  obtain ⟨⟨p, cap, hs⟩, hb⟩ := h
  refine (calm_any wr hs).mono ?_
  rintro e w' ⟨rfl, hs', hc, _⟩
  exact ⟨rfl, ⟨_, _, hs'⟩, hb.trans (hc.below (fun k hk => hk ▸ hs.base) (Nat.le_trans hS hb.size))⟩
theorem St.over {S : Nat} {w wr : World} {B room : Nat} {ns : List Int} {over : Bool} (h : St S w wr B room ns over) :
    Calls Try.prog 16 #[.pointer (some ⟨B, 0, none⟩)] wr fun e w' => e = .returned (.bool over) ∧ wr = w' := by
  obtain ⟨⟨p, cap, hs⟩, _⟩ := h
  exact over_any wr hs
theorem St.len {S : Nat} {w wr : World} {B room : Nat} {ns : List Int} {over : Bool} (h : St S w wr B room ns over) :
    Calls Try.prog 15 #[.pointer (some ⟨B, 0, none⟩)] wr fun e w' => e = .returned (.int .i64 ns.length) ∧ wr = w' := by
  obtain ⟨⟨p, cap, hs⟩, _⟩ := h
  exact len_any wr hs

theorem take_snoc (l : List Int) {c : Nat} (h : c < l.length) : l.take c ++ [l.getD c 0] = l.take (c + 1) := by
  rw [List.take_add_one, List.getD_eq_getElem?_getD]
  simp [h]

/-- The numbers of a row that came in, below S. -/
def IntsP (S : Nat) (W : World) (p : Option Addr) (zs : List Int) : Prop := ∀ j, j < zs.length → ∃ b off, p = some ⟨b, off, none⟩ ∧ b < S ∧ W.cell? ⟨b, off + j, none⟩ = some (.int .i64 (zs.getD j 0))
theorem IntsP.below {S : Nat} {W W' : World} {p : Option Addr} {zs : List Int} (h : IntsP S W p zs) (hb : Below S W W') : IntsP S W' p zs := fun j hj => by
  obtain ⟨b, off, e, hb', hc⟩ := h j hj
  exact ⟨b, off, e, hb', (hb.cell (p := ⟨b, off + j, none⟩) hb').trans hc⟩

set_option maxRecDepth 100000 in
set_option maxHeartbeats 4000000 in
theorem turns_walk (s : Nat) (hs : s < 256) (pa : Option Addr) (ca : Nat) (l : List Int) (w : World) (ha : IntsP w.heap.size w pa l) (hla : l.length ≤ maxLen) :
    Calls Try.prog 5 #[.int .u8 s, .slice pa l.length ca] w fun e w' => e = .returned (.bool true) ∧ Below w.heap.size w w' := by
  unfold maxLen at hla
  have HA := Lib.hid ha
  clear ha
  by_cases hbig : 200 < l.length
  · have h1 : (200 : Int) < (l.length : Int) := by omega
    go_enter Try.func5, Try.ntmps5
    go_wp2_with fail
    refine (awake_any _).mono ?_
    rintro e w1 ⟨rfl, hb1⟩
    have HB1 := Lib.hid hb1
    clear hb1
    go_wp2
    go_ret
    exact ⟨rfl, HB1.out⟩
  have h1 : (l.length : Int) ≤ 200 := by omega
  have hd1 : decide ((200 : Int) < (l.length : Int)) = false := by simpa using h1
  obtain ⟨k, hk1, hk2, hk⟩ : ∃ k : Nat, 1 ≤ k ∧ k ≤ 50 ∧ 1 + (s : Int) % 50 = (k : Int) := ⟨1 + s % 50, by omega, by omega, by omega⟩
  go_enter Try.func5, Try.ntmps5
  go_wp2_with fail
  refine (new_good k _ (by omega) _ hk1 (by omega)).mono ?_
  rintro e w1 ⟨rfl, hs1, hb1, _⟩
  have HO := Lib.hid (St.new hs1 hb1)
  clear hs1 hb1
  generalize hB : w.heap.size = B at *
  have HS : Hid (B = w.heap.size) := Lib.hid hB.symm
  clear hB hk
  go_wp2_with fail
  go_loopw [8] (fun i wr => ∃ c : Nat, c ≤ l.length ∧ i = .int .i64 c ∧ St B w wr B k (l.take (min c k)) (decide (k < c))) (fun i _ => l.length - (intOf i).toNat)
  case atStart => exact ⟨0, Nat.zero_le _, rfl, by simpa using HO.out⟩
  case round =>
    clear HO
    obtain ⟨c, hc, rfl, hst⟩ := hrel
    have HO := Lib.hid hst
    by_cases hlt : c < l.length
    · obtain ⟨b, off, rfl, hbS, hcx⟩ := (HA.out.below hst.bel) c hlt
      clear hst
      have i1 : (0 : Int) ≤ (c : Int) := Int.natCast_nonneg _
      have i2 : (c : Int) < (l.length : Int) := by omega
      by_cases hck : c < k
      · have i3 : (c : Int) < (k : Int) := by omega
        have hr := HO.out.push (Nat.le_of_eq HS.out) (by rw [List.length_take]; omega) (l.getD c 0)
        rw [Nat.min_eq_left (by omega : c ≤ k), take_snoc l hlt] at hr
        have HR := Lib.hid hr
        clear hr HO
        generalize l.getD c 0 = x at *
        go_wp2_with (go_at_call 14; refine HR.out.mono ?_; rintro e w3 ⟨rfl, ht2⟩)
        go_roundw
        case rel => exact ⟨c + 1, by omega, by go_num, by rw [Nat.min_eq_left (by omega : c + 1 ≤ k)]; simpa [show ¬ k < c by omega, show ¬ k < c + 1 by omega] using ht2⟩
        case measure => simp [intOf]; omega
      · have i3 : ¬ (c : Int) < (k : Int) := by omega
        have hr := HO.out.full (Nat.le_of_eq HS.out) (by rw [List.length_take]; omega) (l.getD c 0)
        have HR := Lib.hid hr
        clear hr HO
        generalize l.getD c 0 = x at *
        go_wp2_with (go_at_call 14; refine HR.out.mono ?_; rintro e w3 ⟨rfl, ht2⟩)
        go_roundw
        case rel => exact ⟨c + 1, by omega, by go_num, by rw [Nat.min_eq_right (by omega : k ≤ c)] at ht2; rw [Nat.min_eq_right (by omega : k ≤ c + 1)]; simpa [show k < c + 1 by omega] using ht2⟩
        case measure => simp [intOf]; omega
    · obtain rfl : c = l.length := by omega
      clear hst hlt hc
      obtain ⟨m, hm, hml⟩ : ∃ m : Nat, min k l.length = m ∧ (l.take (min l.length k)).length = m := ⟨_, rfl, by rw [List.length_take]; omega⟩
      have hmi : min (k : Int) (l.length : Int) = (m : Int) := by omega
      obtain ⟨b, hb⟩ : ∃ b, decide (k < l.length) = b := ⟨_, rfl⟩
      have hb' : decide ((k : Int) < (l.length : Int)) = b := by rw [← hb]; simp
      have hbb : (b == b) = true := by simp
      rw [hb] at HO
      rw [Nat.min_comm, hm] at HO
      have e1 : (((l.take m).length : Nat) : Int) = (m : Int) := by rw [List.length_take]; omega
      have hmm : ((m : Int) == (m : Int)) = true := by simp
      go_wp2_with fail
      refine HO.out.over.mono ?_
      rintro e wa ⟨rfl, rfl⟩
      go_wp2_with fail
      refine HO.out.len.mono ?_
      rintro e wa ⟨rfl, rfl⟩
      rw [e1]
      generalize wr = wx at *
      have hm2 : m ≤ l.length := by omega
      clear e1
      go_wp2_with fail
      go_loopw [9] (fun i wr => ∃ c : Nat, c ≤ m ∧ i = .int .i64 ((c : Int) - 1) ∧ St B w wr B k (l.take c) b) (fun i _ => (intOf i + 1).toNat)
      case atStart => exact ⟨m, Nat.le_refl _, rfl, HO.out⟩
      case round =>
        clear HO
        obtain ⟨c, hc, rfl, hst⟩ := hrel
        have HO := Lib.hid hst
        rcases c with _ | c
        · clear hst
          have i0 : ((0 : Nat) : Int) - 1 = -1 := by omega
          go_wp2_with fail
          refine HO.out.len.mono ?_
          rintro e wa ⟨rfl, rfl⟩
          go_wp2_with fail
          refine (HO.out.calm (Nat.le_of_eq HS.out)).mono ?_
          rintro e w3 ⟨rfl, ht3⟩
          have HT3 := Lib.hid ht3
          clear ht3
          go_wp2_with fail
          refine HT3.out.over.mono ?_
          rintro e wa ⟨rfl, rfl⟩
          go_wp2_with fail
          refine (awake_any _).mono ?_
          rintro e w5 ⟨rfl, hb5⟩
          have HB5 := Lib.hid hb5
          clear hb5
          go_wp2
          go_ret
          exact ⟨rfl, (HS.out ▸ HT3.out.bel).trans (HB5.out.mono (HS.out ▸ HT3.out.bel).size)⟩
        · clear hst
          rw [← take_snoc l (by omega)] at HO
          have i0 : ((c + 1 : Nat) : Int) - 1 = (c : Int) := by omega
          have i1 : (0 : Int) ≤ (c : Int) := Int.natCast_nonneg _
          have i2 : (c : Int) < (l.length : Int) := by omega
          go_wp2_with fail
          refine (HO.out.pop (Nat.le_of_eq HS.out)).mono ?_
          rintro e w3 ⟨rfl, ht3⟩
          obtain ⟨bb, off, rfl, hbS, hcx⟩ := (HA.out.below ht3.bel) c (by omega)
          generalize l.getD c 0 = x at *
          have hxx : (x != x) = false := by simp
          have HT3 := Lib.hid ht3
          clear ht3 HO
          go_wp2
          go_roundw
          case rel => exact ⟨c, by omega, by go_num, HT3.out⟩
          case measure => simp [intOf]
end Go.Proofs.Ytfiaajlagkfkjaa.Stk
