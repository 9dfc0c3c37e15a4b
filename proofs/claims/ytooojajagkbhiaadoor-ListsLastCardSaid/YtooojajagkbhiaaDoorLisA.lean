/-
  Lists in memory; all calls of lists that aren't there; New; Len, First, Has, next and link of lists that are there.
-/
import Derived.Test.YtooojajagkbhiaaDoorBlkC
import Derived.Test.YtooojajagkbhiaaDoorConfigW
import Derived.Test.YtooojajagkbhiaaDoorArB
import Derived.Test.YtooojajagkbhiaaDoorBits3
import Derived.Test.YtooojajagkbhiaaDoorHdrA
import Derived.Test.YtooojajagkbhiaaDoorRowA
import Derived.Deep.RegionLaw
namespace Go.Proofs.YtooojajagkbhiaaDoor.Lis
open Go.RowKit
open Class (isB isB_true isB_false is_any)
open Blk (Cfg TbIs ret_int ret_bool rowB cellsK owns_block owns_lt owns_cell other same)
open Arena (ArIs)
open Bits (SetIs)
attribute [local go_sem] Oper.semAt_some

theorem do_nil (k : Int) (v : Value) (w : World) : Calls Tryd.prog 27 #[.pointer none, .int .i64 k, v] w fun e w' => e = .returned (.int .i64 11) ∧ w = w' := by
  go_enter Tryd.func27, Tryd.ntmps27
  go_wp2
  go_ret
  exact ⟨rfl, rfl⟩
theorem take_nil (k : Int) (w : World) : Calls Tryd.prog 9 #[.pointer none, .int .i64 k] w fun e w' => e = .returned (.tuple #[.int .i64 0, .int .i64 11]) ∧ Below w.heap.size w w' := by
  go_enter Tryd.func9, Tryd.ntmps9
  go_wp2_with (go_at_call 27; refine (do_nil _ _ _).mono ?_; rintro e w' ⟨rfl, rfl⟩)
  go_ret2
  exact ⟨rfl, ((Below.refl _ _).alloc (Nat.le_refl _) _).alloc (by simp) _⟩
theorem put_nil (a : Int) (w : World) : Calls Tryd.prog 12 #[.pointer none, .int .i64 a] w fun e w' => e = .returned (.int .i64 11) ∧ Below w.heap.size w w' := by
  go_enter Tryd.func12, Tryd.ntmps12
  go_wp2
  go_ret
  exact ⟨rfl, ((Below.refl _ _).alloc (Nat.le_refl _) _).alloc (by simp) _⟩
theorem has_nil (a : Int) (w : World) : Calls Tryd.prog 10 #[.pointer none, .int .i64 a] w fun e w' => e = .returned (.bool false) ∧ w = w' := by
  go_enter Tryd.func10, Tryd.ntmps10
  go_wp2
  go_ret
  exact ⟨rfl, rfl⟩
theorem slots_nil (k : Int) (w : World) : Calls Tryd.prog 39 #[.pointer none, .int .i64 k] w fun e w' => e = .returned (.slice none 0 0) ∧ Below w.heap.size w w' := by
  go_enter Tryd.func39, Tryd.ntmps39
  go_wp2_with (go_at_call 27; refine (do_nil _ _ _).mono ?_; rintro e w' ⟨rfl, rfl⟩)
  go_ret
  exact ⟨rfl, (Below.refl _ _).alloc (Nat.le_refl _) _⟩
theorem len_nil (k : Int) (w : World) : Calls Tryd.prog 17 #[.pointer none, .int .i64 k] w fun e w' => e = .returned (.int .i64 0) ∧ Below w.heap.size w w' := by
  go_enter Tryd.func17, Tryd.ntmps17
  go_wp2_with (go_at_call 39; refine (slots_nil _ _).mono ?_; rintro e w' ⟨rfl, hb⟩)
  go_ret
  exact ⟨rfl, hb⟩
theorem front_none (c : Nat) (p : Option Addr) (w : World) : Calls Tryd.prog 29 #[.slice p 0 c] w fun e w' => e = .returned (.int .i64 0) ∧ w = w' := by
  go_enter Tryd.func29, Tryd.ntmps29
  go_wp2
  go_ret
  exact ⟨rfl, rfl⟩
theorem first_nil (k : Int) (w : World) : Calls Tryd.prog 20 #[.pointer none, .int .i64 k] w fun e w' => e = .returned (.int .i64 0) ∧ Below w.heap.size w w' := by
  go_enter Tryd.func20, Tryd.ntmps20
  go_wp2_with (first
    | (go_at_call 39; refine (slots_nil _ _).mono ?_; rintro e w' ⟨rfl, hb⟩)
    | (go_at_call 29; refine (front_none _ _ _).mono ?_; rintro e w'' ⟨rfl, rfl⟩))
  go_ret
  exact ⟨rfl, hb⟩

/-- The number that is last. -/
def lastN (l : List Nat) : Nat := l.getLast?.getD 0
theorem lastN_nil : lastN [] = 0 := rfl
theorem lastN_snoc (l : List Nat) (a : Nat) : lastN (l ++ [a]) = a := by simp [lastN]
theorem nil_or_snoc (l : List Nat) : l = [] ∨ ∃ l' x, l = l' ++ [x] := by
  rcases List.eq_nil_or_concat l with h | ⟨l', x, h⟩
  · exact .inl h
  · exact .inr ⟨l', x, by rw [h, List.concat_eq_append]⟩
theorem front_any {base c : Nat} {p : Option Addr} (l : List Nat) (w : World) (hl : l.length ≤ 1048576) (h : w.ownsRow base 3 1 (.slice p l.length c) l.length (cellsK l)) :
    Calls Tryd.prog 29 #[.slice p l.length c] w fun e w' => e = .returned (.int .i64 ((lastN l : Nat) : Int)) ∧ w = w' := by
  rcases nil_or_snoc l with rfl | ⟨l, a, rfl⟩
  · exact front_none c p w
  · have hlen : (l ++ [a]).length = l.length + 1 := by simp
    rw [lastN_snoc]
    have h' := h
    obtain ⟨_, ⟨_, h2⟩ | ⟨g, cap', cur, e1, r⟩⟩ := h
    · omega
    · cases e1
      have hc : w.cell? ⟨g, l.length, none⟩ = some (.int .i64 (a : Int)) := owns_cell h' l.length _ (by simp [cellsK])
      clear h' r
      rw [hlen] at hl ⊢
      generalize l.length = m at *
      have h0 : (((m + 1 : Nat) : Int) == 0) = false := by simp; omega
      have hlast : ((m + 1 : Nat) : Int) - 1 = m := by omega
      have i1 : (0 : Int) ≤ (m : Int) := Int.natCast_nonneg _
      go_enter Tryd.func29, Tryd.ntmps29
      go_wp2
      go_ret
      exact ⟨rfl, rfl⟩

/-- Lists in memory: whose they are, and the row of each. -/
structure LsIs (w : World) (L A T I base : Nat) (ps : Nat → Option Addr) (cs : Nat → Nat) (rv : Nat → List Nat) : Prop where
  ca : w.cell? ⟨L, 0, none⟩ = some (.pointer (some ⟨A, 0, none⟩))
  ct : w.cell? ⟨L, 1, none⟩ = some (.pointer (some ⟨T, 0, none⟩))
  ci : w.cell? ⟨L, 2, none⟩ = some (.pointer (some ⟨I, 0, none⟩))
  cv : ∀ k, k < 4 → w.cell? ⟨L, 3 + k, none⟩ = some (.slice (ps k) (rv k).length (cs k))
  fv : ∀ k, k < 4 → w.frozen? ⟨L, 3 + k, none⟩ = false
  own : ∀ k, k < 4 → w.ownsRow base 3 1 (.slice (ps k) (rv k).length (cs k)) (rv k).length (cellsK (rv k))
  len : ∀ k, k < 4 → (rv k).length ≤ 1000000
  two : ∀ j k, j < 4 → k < 4 → j ≠ k → ∀ g, rowB (ps j) g → ¬ rowB (ps k) g
  nL : ∀ k, k < 4 → ¬ rowB (ps k) L
theorem LsIs.kept {w w' : World} {L A T I base : Nat} {ps : Nat → Option Addr} {cs : Nat → Nat} {rv : Nat → List Nat} (h : LsIs w L A T I base ps cs rv) (hL : w'.heap[L]? = w.heap[L]?) (hg : ∀ k, k < 4 → ∀ g, rowB (ps k) g → w'.heap[g]? = w.heap[g]?) : LsIs w' L A T I base ps cs rv :=
  ⟨(Blk.cell_of_block (a := ⟨L, 0, none⟩) hL).trans h.ca, (Blk.cell_of_block (a := ⟨L, 1, none⟩) hL).trans h.ct, (Blk.cell_of_block (a := ⟨L, 2, none⟩) hL).trans h.ci,
    fun k hk => (Blk.cell_of_block (a := ⟨L, _, none⟩) hL).trans (h.cv k hk), fun k hk => (Blk.frozen_of_block (a := ⟨L, _, none⟩) hL).trans (h.fv k hk), fun k hk => owns_block (h.own k hk) (hg k hk), h.len, h.two, h.nL⟩
theorem LsIs.lt {w : World} {L A T I base : Nat} {ps : Nat → Option Addr} {cs : Nat → Nat} {rv : Nat → List Nat} (h : LsIs w L A T I base ps cs rv) : L < w.heap.size := World.block_lt_of_cell? w _ h.ca
theorem LsIs.ltR {w : World} {L A T I base : Nat} {ps : Nat → Option Addr} {cs : Nat → Nat} {rv : Nat → List Nat} (h : LsIs w L A T I base ps cs rv) {k g : Nat} (hk : k < 4) (hg : rowB (ps k) g) : base ≤ g ∧ g < w.heap.size := owns_lt (h.own k hk) hg
theorem LsIs.later {w w' : World} {L A T I base : Nat} {ps : Nat → Option Addr} {cs : Nat → Nat} {rv : Nat → List Nat} (h : LsIs w L A T I base ps cs rv) (hb : Below w.heap.size w w') : LsIs w' L A T I base ps cs rv := h.kept (hb.block _ h.lt) (fun _ hk _ hg => hb.block _ (h.ltR hk hg).2)
theorem LsIs.drewN {w : World} {L A T I base : Nat} {ps : Nat → Option Addr} {cs : Nat → Nat} {rv : Nat → List Nat} (h : LsIs w L A T I base ps cs rv) (n : Nat) : LsIs (w.drewN n) L A T I base ps cs rv := h.kept rfl (fun _ _ _ _ => rfl)

theorem set_below {N : Nat} {w w' : World} {B G size cap : Nat} {ws : List Nat} (h : SetIs w B G size cap ws) (hb : Below N w w') (hB : B < N) (hG : G < N) : SetIs w' B G size cap ws :=
  ⟨h.small, h.row, h.capn, (hb.cell (p := ⟨B, 0, none⟩) hB).trans h.cs, (hb.cell (p := ⟨B, 1, none⟩) hB).trans h.cw, fun j hj => (hb.cell (p := ⟨G, j, none⟩) hG).trans (h.at_ j hj), fun j hj => (hb.frozen (p := ⟨G, j, none⟩) hG).trans (h.fz j hj)⟩
theorem new_nilA (t : Value) (w : World) : Calls Tryd.prog 23 #[.pointer none, t] w fun e w' => e = .returned (.tuple #[.pointer none, .int .i64 1]) ∧ w = w' := by
  go_enter Tryd.func23, Tryd.ntmps23
  go_wp2
  go_ret2
  exact ⟨rfl, rfl⟩
theorem new_nilT (A : Nat) (w : World) : Calls Tryd.prog 23 #[.pointer (some ⟨A, 0, none⟩), .pointer none] w fun e w' => e = .returned (.tuple #[.pointer none, .int .i64 1]) ∧ w = w' := by
  go_enter Tryd.func23, Tryd.ntmps23
  go_wp2
  go_ret2
  exact ⟨rfl, rfl⟩

set_option maxHeartbeats 1000000 in
/-- An arena of another length than the table's config has words. -/
theorem new_odd {A G cap ld st T base capT : Nat} {ws : List Nat} {c : Cfg} {ks : List Nat} {p : Option Addr} (w : World) (ha : ArIs w A G cap ws ld st) (ht : TbIs w T base c ks p capT) (hl : LimTab w)
    (hR : rightB c.b c.wd c.m c.r c.ce c.lg c.st = true) (hn : (ws.length : Int) ≠ c.b * c.wd) :
    Calls Tryd.prog 23 #[.pointer (some ⟨A, 0, none⟩), .pointer (some ⟨T, 0, none⟩)] w fun e w' => e = .returned (.tuple #[.pointer none, .int .i64 1]) ∧ Below w.heap.size w w' := by
  have hne : (((ws.length : Nat) : Int) != c.b * c.wd) = true := by simpa using hn
  have HRC := Lib.hid (refRightB_true.1 ((rightB_ref ..).symm.trans hR))
  have HA := Lib.hid ha
  have HT := Lib.hid ht
  have HL := Lib.hid hl
  clear ha ht hl hn
  go_enter Tryd.func23, Tryd.ntmps23
  go_wp2_with (first
    | (go_at_call 45; refine (Arena.len_any _ HA.out).mono ?_; rintro e w' ⟨rfl, rfl⟩)
    | (go_at_call 33; refine (Blk.config_any _ HT.out).mono ?_; rintro e w1 ⟨rfl, hb1⟩)
    | (go_at_call 46; refine (words_yes _ _ _ _ _ _ _ _ (HL.out.later hb1) HRC.out hR).mono ?_; rintro e w2 ⟨rfl, hb2⟩))
  go_ret2
  exact ⟨rfl, hb1.trans (hb2.mono hb1.size)⟩

set_option maxHeartbeats 1000000 in
theorem new_good {A G cap ld st T base capT : Nat} {ws : List Nat} {c : Cfg} {ks : List Nat} {p : Option Addr} (w : World) (ha : ArIs w A G cap ws ld st) (hG : G < w.heap.size) (ht : TbIs w T base c ks p capT) (hl : LimTab w)
    (hR : rightB c.b c.wd c.m c.r c.ce c.lg c.st = true) (hn : (ws.length : Int) = c.b * c.wd) :
    Calls Tryd.prog 23 #[.pointer (some ⟨A, 0, none⟩), .pointer (some ⟨T, 0, none⟩)] w fun e w' => ∃ L I J, e = .returned (.tuple #[.pointer (some ⟨L, 0, none⟩), .int .i64 0]) ∧
      LsIs w' L A T I w.heap.size (fun _ => none) (fun _ => 0) (fun _ => []) ∧ SetIs w' I J (ws.length + 1) ((ws.length + 1 + 63) / 64) (List.replicate ((ws.length + 1 + 63) / 64) 0) ∧
      w.heap.size ≤ I ∧ w.heap.size ≤ J ∧ I < L ∧ J < L ∧ I ≠ J ∧ L < w'.heap.size ∧ Below w.heap.size w w' := by
  have hne : (((ws.length : Nat) : Int) != c.b * c.wd) = false := by simpa using hn
  have hsm := ha.small
  have HRC := Lib.hid (refRightB_true.1 ((rightB_ref ..).symm.trans hR))
  have HA := Lib.hid ha
  have HT := Lib.hid ht
  have HL := Lib.hid hl
  clear ha ht hl hn
  go_enter Tryd.func23, Tryd.ntmps23
  go_wp2_with (first
    | (go_at_call 45; refine (Arena.len_any _ (by first | exact HA.out | exact (HA.out.below (hb1.trans (hb2.mono hb1.size)) HA.out.ltB hG))).mono ?_; rintro e w' ⟨rfl, rfl⟩)
    | (go_at_call 33; refine (Blk.config_any _ HT.out).mono ?_; rintro e w1 ⟨rfl, hb1⟩)
    | (go_at_call 46; refine (words_yes _ _ _ _ _ _ _ _ (HL.out.later hb1) HRC.out hR).mono ?_; rintro e w2 ⟨rfl, hb2⟩)
    | (go_at_call 47; rw [show ((ws.length : Int) + 1) = ((ws.length + 1 : Nat) : Int) by omega]; refine (Bits.new_good (ws.length + 1) _ (by omega)).mono ?_; rintro e w3 ⟨I, J, rfl, hS, hI, hJ, hI', hJ', hIJ, hb3⟩))
  go_ret2
  have hb := hb1.trans (hb2.mono hb1.size)
  have hbb := hb.trans (hb3.mono hb.size)
  refine ⟨w3.heap.size, I, J, rfl, ⟨?_, ?_, ?_, ?_, ?_, ?_, ?_, ?_, ?_⟩, ?_, Nat.le_trans hb.size hI, Nat.le_trans hb.size hJ, hI', hJ', hIJ, by simp, hbb.alloc hbb.size _⟩
  · simp
  · simp
  · simp
  · intro k hk
    have : k = 0 ∨ k = 1 ∨ k = 2 ∨ k = 3 := by omega
    rcases this with rfl | rfl | rfl | rfl <;> simp
  · intro k hk; simp
  · intro k hk; exact ⟨rfl, .inl ⟨rfl, rfl⟩⟩
  · intro k hk; simp
  · intro j k _ _ _ g hg; cases hg
  · intro k _ hg; cases hg
  · exact set_below hS ((Below.refl _ _).alloc (Nat.le_refl _) _) hI' hJ'

theorem do_bad {L : Nat} (k : Int) (v : Value) (w : World) (hk : isB k = false) : Calls Tryd.prog 27 #[.pointer (some ⟨L, 0, none⟩), .int .i64 k, v] w fun e w' => e = .returned (.int .i64 1) ∧ w = w' := by
  go_enter Tryd.func27, Tryd.ntmps27
  go_wp2_with (go_at_call 50; refine (is_any k _).mono ?_; rintro e w' ⟨rfl, rfl⟩; rw [hk])
  go_ret
  exact ⟨rfl, rfl⟩
theorem slotsS_any {L A T I base : Nat} {ps : Nat → Option Addr} {cs : Nat → Nat} {rv : Nat → List Nat} (w : World) (h : LsIs w L A T I base ps cs rv) {k q : Nat} {u : Value} (hk : k < 4) (hq : w.cell? ⟨q, 0, none⟩ = some u) (hqf : w.frozen? ⟨q, 0, none⟩ = false) :
    Calls Tryd.prog 60 #[.pointer (some ⟨L, 3 + k, none⟩), .pointer (some ⟨q, 0, none⟩)] w fun e w' => e = .returned (.int .i64 0) ∧ w' = w.setCell ⟨q, 0, none⟩ (.slice (ps k) (rv k).length (cs k)) := by
  have hc := h.cv k hk
  clear h
  go_enter Tryd.func60, Tryd.ntmps60
  go_wp2
  go_ret
  exact ⟨rfl, rfl⟩
set_option maxHeartbeats 1000000 in
theorem slots_good {L A T I base : Nat} {ps : Nat → Option Addr} {cs : Nat → Nat} {rv : Nat → List Nat} (w : World) (h : LsIs w L A T I base ps cs rv) (k : Nat) (hk : k < 4) : Calls Tryd.prog 39 #[.pointer (some ⟨L, 0, none⟩), .int .i64 k] w fun e w' => e = .returned (.slice (ps k) (rv k).length (cs k)) ∧ Below w.heap.size w w' := by
  have hi := isB_true.2 ⟨Int.natCast_nonneg k, by omega⟩
  have H := Lib.hid h
  have i1 : (0 : Int) ≤ (k : Int) := Int.natCast_nonneg _
  have i2 : (k : Int) < 4 := by omega
  have hlt := h.lt
  clear h
  go_enter Tryd.func39, Tryd.ntmps39
  go_wp2_with (first
    | (go_at_call 60; refine (slotsS_any _ (H.out.later ((Below.refl _ _).alloc (Nat.le_refl _) _)) hk (u := .slice none 0 0) (by simp) (by simp)).mono ?_; rintro e w' ⟨rfl, rfl⟩)
    | (go_at_call 50; refine (is_any k _).mono ?_; rintro e w' ⟨rfl, rfl⟩; rw [hi])
    | go_enter Tryd.func27, Tryd.ntmps27)
  go_ret
  exact ⟨rfl, (Below.refl _ _).alloc (Nat.le_refl _) _⟩
theorem slots_bad {L : Nat} (k : Int) (w : World) (hk : isB k = false) : Calls Tryd.prog 39 #[.pointer (some ⟨L, 0, none⟩), .int .i64 k] w fun e w' => e = .returned (.slice none 0 0) ∧ Below w.heap.size w w' := by
  go_enter Tryd.func39, Tryd.ntmps39
  go_wp2_with (go_at_call 27; refine (do_bad _ _ _ hk).mono ?_; rintro e w' ⟨rfl, rfl⟩)
  go_ret
  exact ⟨rfl, (Below.refl _ _).alloc (Nat.le_refl _) _⟩
theorem len_good {L A T I base : Nat} {ps : Nat → Option Addr} {cs : Nat → Nat} {rv : Nat → List Nat} (w : World) (h : LsIs w L A T I base ps cs rv) (k : Nat) (hk : k < 4) : Calls Tryd.prog 17 #[.pointer (some ⟨L, 0, none⟩), .int .i64 k] w fun e w' => e = .returned (.int .i64 (((rv k).length : Nat) : Int)) ∧ Below w.heap.size w w' := by
  have H := Lib.hid (slots_good w h k hk)
  clear h
  go_enter Tryd.func17, Tryd.ntmps17
  go_wp2_with (go_at_call 39; refine H.out.mono ?_; rintro e w' ⟨rfl, hb⟩)
  go_ret
  exact ⟨rfl, hb⟩
theorem first_good {L A T I base : Nat} {ps : Nat → Option Addr} {cs : Nat → Nat} {rv : Nat → List Nat} (w : World) (h : LsIs w L A T I base ps cs rv) (k : Nat) (hk : k < 4) : Calls Tryd.prog 20 #[.pointer (some ⟨L, 0, none⟩), .int .i64 k] w fun e w' => e = .returned (.int .i64 ((lastN (rv k) : Nat) : Int)) ∧ Below w.heap.size w w' := by
  have H := Lib.hid (slots_good w h k hk)
  have H0 := Lib.hid h
  clear h
  go_enter Tryd.func20, Tryd.ntmps20
  go_wp2_with (first
    | (go_at_call 39; refine H.out.mono ?_; rintro e w' ⟨rfl, hb⟩)
    | (go_at_call 29; refine (front_any (rv k) _ (by have := H0.out.len k hk; omega) ((H0.out.later hb).own k hk)).mono ?_; rintro e w'' ⟨rfl, rfl⟩))
  go_ret
  exact ⟨rfl, hb⟩
theorem len_bad {L : Nat} (k : Int) (w : World) (hk : isB k = false) : Calls Tryd.prog 17 #[.pointer (some ⟨L, 0, none⟩), .int .i64 k] w fun e w' => e = .returned (.int .i64 0) ∧ Below w.heap.size w w' := by
  go_enter Tryd.func17, Tryd.ntmps17
  go_wp2_with (go_at_call 39; refine (slots_bad _ _ hk).mono ?_; rintro e w' ⟨rfl, hb⟩)
  go_ret
  exact ⟨rfl, hb⟩
theorem first_bad {L : Nat} (k : Int) (w : World) (hk : isB k = false) : Calls Tryd.prog 20 #[.pointer (some ⟨L, 0, none⟩), .int .i64 k] w fun e w' => e = .returned (.int .i64 0) ∧ Below w.heap.size w w' := by
  go_enter Tryd.func20, Tryd.ntmps20
  go_wp2_with (first
    | (go_at_call 39; refine (slots_bad _ _ hk).mono ?_; rintro e w' ⟨rfl, hb⟩)
    | (go_at_call 29; refine (front_none _ _ _).mono ?_; rintro e w'' ⟨rfl, rfl⟩))
  go_ret
  exact ⟨rfl, hb⟩
theorem take_bad {L : Nat} (k : Int) (w : World) (hk : isB k = false) : Calls Tryd.prog 9 #[.pointer (some ⟨L, 0, none⟩), .int .i64 k] w fun e w' => e = .returned (.tuple #[.int .i64 0, .int .i64 1]) ∧ Below w.heap.size w w' := by
  go_enter Tryd.func9, Tryd.ntmps9
  go_wp2_with (go_at_call 27; refine (do_bad _ _ _ hk).mono ?_; rintro e w' ⟨rfl, rfl⟩)
  go_ret2
  exact ⟨rfl, ((Below.refl _ _).alloc (Nat.le_refl _) _).alloc (by simp) _⟩
theorem has_any {L A T I J size cap base : Nat} {ps : Nat → Option Addr} {cs : Nat → Nat} {rv : Nat → List Nat} {ws : List Nat} (a : Int) (w : World) (h : LsIs w L A T I base ps cs rv) (hs : SetIs w I J size cap ws) : Calls Tryd.prog 10 #[.pointer (some ⟨L, 0, none⟩), .int .i64 a] w fun e w' => e = .returned (.bool (Bits.mayB a size && hasB ws a.toNat)) ∧ ∃ k, w' = w.drewN k := by
  have hci := h.ci
  clear h
  go_enter Tryd.func10, Tryd.ntmps10
  go_wp2_with (go_at_call 31; refine (Bits.has_any _ _ _ _ _ a _ hs).mono ?_; rintro e w' ⟨rfl, k, rfl⟩)
  go_ret
  exact ⟨rfl, _, rfl⟩
set_option maxHeartbeats 1000000 in
/-- A slot's link. -/
theorem link_any {L A G T I cap ld st base : Nat} {ps : Nat → Option Addr} {cs : Nat → Nat} {rv : Nat → List Nat} {ws : List Nat} (a : Int) (to : Nat) (w : World) (h : LsIs w L A T I base ps cs rv) (ha : ArIs w A G cap ws ld st) (hG : G < w.heap.size) (hst : st < 1000000) (ht : to ≤ 1048576) :
    Calls Tryd.prog 37 #[.pointer (some ⟨L, 0, none⟩), .int .i64 a, .int .i64 to] w fun e w' => e = .returned (.tuple #[]) ∧ ArIs w' A G cap (Arena.putS ws a (Hdr.lk to)) ld (st + Arena.oneN ws.length a) ∧ Arena.Two A G w w' := by
  have hca := h.ca
  have HA := Lib.hid ha
  clear h ha
  go_enter Tryd.func37, Tryd.ntmps37
  go_wp2_with (first
    | (go_at_call 56; refine (Arena.store_any _ HA.out hG hst a _).mono ?_; rintro e w' ⟨rfl, ha', h2⟩)
    | (go_at_call 43; refine (Hdr.link_yes _ _ ht).mono ?_; rintro e w'' ⟨rfl, rfl⟩))
  exact bodyPost_end (results_none rfl _ _ _) rfl ⟨rfl, ha', h2⟩
end Go.Proofs.YtooojajagkbhiaaDoor.Lis
