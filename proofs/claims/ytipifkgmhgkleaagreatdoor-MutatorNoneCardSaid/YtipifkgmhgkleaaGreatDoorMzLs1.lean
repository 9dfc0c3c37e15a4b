/-
  Base texts, one behind the other: LisA LisB LisC LisP LisD LisF LisG.
-/
import Derived.Test.YtipifkgmhgkleaaGreatDoorMzBk1
import Derived.Test.YtipifkgmhgkleaaGreatDoorMzBa
import Derived.Test.YtipifkgmhgkleaaGreatDoorMzArn
import Derived.Test.YtipifkgmhgkleaaGreatDoorMzBit
import Derived.Deep.RegionLaw
import Derived.Test.YtipifkgmhgkleaaGreatDoorMzBk2
namespace Go.Proofs.YtipifkgmhgkleaaGreatDoor.Lis
open Go.RowKit
open Class (isB isB_true isB_false is_any)
open Blk (Cfg TbIs ret_int ret_bool rowB cellsK owns_block owns_lt owns_cell other same)
open Arena (ArIs)
open Bits (SetIs)
attribute [local go_sem] Oper.semAt_some

theorem front_none (c : Nat) (p : Option Addr) (w : World) : Calls Tryz.prog 312 #[.slice p 0 c] w fun e w' => e = .returned (.int .i64 0) ∧ w = w' := by
  go_enter Tryz.func312, Tryz.ntmps312
  go_wp2
  go_ret
  exact ⟨rfl, rfl⟩

/-- The number that is last. -/
def lastN (l : List Nat) : Nat := l.getLast?.getD 0
theorem lastN_snoc (l : List Nat) (a : Nat) : lastN (l ++ [a]) = a := by simp [lastN]
theorem nil_or_snoc (l : List Nat) : l = [] ∨ ∃ l' x, l = l' ++ [x] := by
  rcases List.eq_nil_or_concat l with h | ⟨l', x, h⟩
  · exact .inl h
  · exact .inr ⟨l', x, by rw [h, List.concat_eq_append]⟩
theorem front_any {base c : Nat} {p : Option Addr} (l : List Nat) (w : World) (hl : l.length ≤ 1048576) (h : w.ownsRow base 3 1 (.slice p l.length c) l.length (cellsK l)) :
    Calls Tryz.prog 312 #[.slice p l.length c] w fun e w' => e = .returned (.int .i64 ((lastN l : Nat) : Int)) ∧ w = w' := by
  rcases nil_or_snoc l with rfl | ⟨l, a, rfl⟩
  · exact front_none c p w
  · have hlen : (l ++ [a]).length = l.length + 1 := by simp
    rw [lastN_snoc]
    have h' := h
    obtain ⟨_, ⟨_, h2⟩ | ⟨g, cap', cur, e1, r⟩⟩ := h
    · omega
    · cases e1
      have hc : w.cell? ⟨g, l.length, none⟩ = some (.int .i64 (a : Int)) := owns_cell h' l.length _ (by simp [cellsK])
      clear h' r
      rw [hlen] at hl ⊢
      generalize l.length = m at *
      have h0 : (((m + 1 : Nat) : Int) == 0) = false := by simp; omega
      have hlast : ((m + 1 : Nat) : Int) - 1 = m := by omega
      have i1 : (0 : Int) ≤ (m : Int) := Int.natCast_nonneg _
      go_enter Tryz.func312, Tryz.ntmps312
      go_wp2
      go_ret
      exact ⟨rfl, rfl⟩

/-- Lists in memory: whose they are, and the row of each. -/
structure LsIs (w : World) (L A T I base : Nat) (ps : Nat → Option Addr) (cs : Nat → Nat) (rv : Nat → List Nat) : Prop where
  ca : w.cell? ⟨L, 0, none⟩ = some (.pointer (some ⟨A, 0, none⟩))
  ct : w.cell? ⟨L, 1, none⟩ = some (.pointer (some ⟨T, 0, none⟩))
  ci : w.cell? ⟨L, 2, none⟩ = some (.pointer (some ⟨I, 0, none⟩))
  cv : ∀ k, k < 4 → w.cell? ⟨L, 3 + k, none⟩ = some (.slice (ps k) (rv k).length (cs k))
  fv : ∀ k, k < 4 → w.frozen? ⟨L, 3 + k, none⟩ = false
  own : ∀ k, k < 4 → w.ownsRow base 3 1 (.slice (ps k) (rv k).length (cs k)) (rv k).length (cellsK (rv k))
  len : ∀ k, k < 4 → (rv k).length ≤ 1000000
  two : ∀ j k, j < 4 → k < 4 → j ≠ k → ∀ g, rowB (ps j) g → ¬ rowB (ps k) g
  nL : ∀ k, k < 4 → ¬ rowB (ps k) L
theorem LsIs.kept {w w' : World} {L A T I base : Nat} {ps : Nat → Option Addr} {cs : Nat → Nat} {rv : Nat → List Nat} (h : LsIs w L A T I base ps cs rv) (hL : w'.heap[L]? = w.heap[L]?) (hg : ∀ k, k < 4 → ∀ g, rowB (ps k) g → w'.heap[g]? = w.heap[g]?) : LsIs w' L A T I base ps cs rv :=
  ⟨(Blk.cell_of_block (a := ⟨L, 0, none⟩) hL).trans h.ca, (Blk.cell_of_block (a := ⟨L, 1, none⟩) hL).trans h.ct, (Blk.cell_of_block (a := ⟨L, 2, none⟩) hL).trans h.ci,
    fun k hk => (Blk.cell_of_block (a := ⟨L, _, none⟩) hL).trans (h.cv k hk), fun k hk => (Blk.frozen_of_block (a := ⟨L, _, none⟩) hL).trans (h.fv k hk), fun k hk => owns_block (h.own k hk) (hg k hk), h.len, h.two, h.nL⟩
theorem LsIs.lt {w : World} {L A T I base : Nat} {ps : Nat → Option Addr} {cs : Nat → Nat} {rv : Nat → List Nat} (h : LsIs w L A T I base ps cs rv) : L < w.heap.size := World.block_lt_of_cell? w _ h.ca
theorem LsIs.ltR {w : World} {L A T I base : Nat} {ps : Nat → Option Addr} {cs : Nat → Nat} {rv : Nat → List Nat} (h : LsIs w L A T I base ps cs rv) {k g : Nat} (hk : k < 4) (hg : rowB (ps k) g) : base ≤ g ∧ g < w.heap.size := owns_lt (h.own k hk) hg
theorem LsIs.later {w w' : World} {L A T I base : Nat} {ps : Nat → Option Addr} {cs : Nat → Nat} {rv : Nat → List Nat} (h : LsIs w L A T I base ps cs rv) (hb : Below w.heap.size w w') : LsIs w' L A T I base ps cs rv := h.kept (hb.block _ h.lt) (fun _ hk _ hg => hb.block _ (h.ltR hk hg).2)
theorem LsIs.drewN {w : World} {L A T I base : Nat} {ps : Nat → Option Addr} {cs : Nat → Nat} {rv : Nat → List Nat} (h : LsIs w L A T I base ps cs rv) (n : Nat) : LsIs (w.drewN n) L A T I base ps cs rv := h.kept rfl (fun _ _ _ _ => rfl)

theorem set_below {N : Nat} {w w' : World} {B G size cap : Nat} {ws : List Nat} (h : SetIs w B G size cap ws) (hb : Below N w w') (hB : B < N) (hG : G < N) : SetIs w' B G size cap ws :=
  ⟨h.small, h.row, h.capn, (hb.cell (p := ⟨B, 0, none⟩) hB).trans h.cs, (hb.cell (p := ⟨B, 1, none⟩) hB).trans h.cw, fun j hj => (hb.cell (p := ⟨G, j, none⟩) hG).trans (h.at_ j hj), fun j hj => (hb.frozen (p := ⟨G, j, none⟩) hG).trans (h.fz j hj)⟩

set_option maxHeartbeats 1000000 in
theorem new_good {A G cap ld st T base capT : Nat} {ws : List Nat} {c : Cfg} {ks : List Nat} {p : Option Addr} (w : World) (ha : ArIs w A G cap ws ld st) (hG : G < w.heap.size) (ht : TbIs w T base c ks p capT) (hl : LimTab w)
    (hR : rightB c.b c.wd c.m c.r c.ce c.lg c.st = true) (hn : (ws.length : Int) = c.b * c.wd) :
    Calls Tryz.prog 80 #[.pointer (some ⟨A, 0, none⟩), .pointer (some ⟨T, 0, none⟩)] w fun e w' => ∃ L I J, e = .returned (.tuple #[.pointer (some ⟨L, 0, none⟩), .int .i64 0]) ∧
      LsIs w' L A T I w.heap.size (fun _ => none) (fun _ => 0) (fun _ => []) ∧ SetIs w' I J (ws.length + 1) ((ws.length + 1 + 63) / 64) (List.replicate ((ws.length + 1 + 63) / 64) 0) ∧
      w.heap.size ≤ I ∧ w.heap.size ≤ J ∧ I < L ∧ J < L ∧ I ≠ J ∧ L < w'.heap.size ∧ Below w.heap.size w w' := by
  have hne : (((ws.length : Nat) : Int) != c.b * c.wd) = false := by simpa using hn
  have hsm := ha.small
  have HRC := Lib.hid (refRightB_true.1 ((rightB_ref ..).symm.trans hR))
  have HA := Lib.hid ha
  have HT := Lib.hid ht
  have HL := Lib.hid hl
  clear ha ht hl hn
  go_enter Tryz.func80, Tryz.ntmps80
  go_wp2_with (first
    | (go_at_call 107; refine (Arena.len_any _ (by first | exact HA.out | exact (HA.out.below (hb1.trans (hb2.mono hb1.size)) HA.out.ltB hG))).mono ?_; rintro e w' ⟨rfl, rfl⟩)
    | (go_at_call 82; refine (Blk.config_any _ HT.out).mono ?_; rintro e w1 ⟨rfl, hb1⟩)
    | (go_at_call 77; refine (words_yes _ _ _ _ _ _ _ _ (HL.out.later hb1) HRC.out hR).mono ?_; rintro e w2 ⟨rfl, hb2⟩)
    | (go_at_call 81; rw [show ((ws.length : Int) + 1) = ((ws.length + 1 : Nat) : Int) by omega]; refine (Bits.new_good (ws.length + 1) _ (by omega)).mono ?_; rintro e w3 ⟨I, J, rfl, hS, hI, hJ, hI', hJ', hIJ, hb3⟩))
  go_ret2
  have hb := hb1.trans (hb2.mono hb1.size)
  have hbb := hb.trans (hb3.mono hb.size)
  refine ⟨w3.heap.size, I, J, rfl, ⟨?_, ?_, ?_, ?_, ?_, ?_, ?_, ?_, ?_⟩, ?_, Nat.le_trans hb.size hI, Nat.le_trans hb.size hJ, hI', hJ', hIJ, by simp, hbb.alloc hbb.size _⟩
  · simp
  · simp
  · simp
  · intro k hk
    have : k = 0 ∨ k = 1 ∨ k = 2 ∨ k = 3 := by omega
    rcases this with rfl | rfl | rfl | rfl <;> simp
  · intro k hk; simp
  · intro k hk; exact ⟨rfl, .inl ⟨rfl, rfl⟩⟩
  · intro k hk; simp
  · intro j k _ _ _ g hg; cases hg
  · intro k _ hg; cases hg
  · exact set_below hS ((Below.refl _ _).alloc (Nat.le_refl _) _) hI' hJ'

theorem has_any {L A T I J size cap base : Nat} {ps : Nat → Option Addr} {cs : Nat → Nat} {rv : Nat → List Nat} {ws : List Nat} (a : Int) (w : World) (h : LsIs w L A T I base ps cs rv) (hs : SetIs w I J size cap ws) : Calls Tryz.prog 348 #[.pointer (some ⟨L, 0, none⟩), .int .i64 a] w fun e w' => e = .returned (.bool (Bits.mayB a size && hasB ws a.toNat)) ∧ ∃ k, w' = w.drewN k := by
  have hci := h.ci
  clear h
  go_enter Tryz.func348, Tryz.ntmps348
  go_wp2_with (go_at_call 276; refine (Bits.has_any _ _ _ _ _ a _ hs).mono ?_; rintro e w' ⟨rfl, k, rfl⟩)
  go_ret
  exact ⟨rfl, _, rfl⟩
set_option maxHeartbeats 1000000 in
/-- A slot's link. -/
theorem link_any {L A G T I cap ld st base : Nat} {ps : Nat → Option Addr} {cs : Nat → Nat} {rv : Nat → List Nat} {ws : List Nat} (a : Int) (to : Nat) (w : World) (h : LsIs w L A T I base ps cs rv) (ha : ArIs w A G cap ws ld st) (hG : G < w.heap.size) (hst : st < 1000000) (ht : to ≤ 1048576) :
    Calls Tryz.prog 338 #[.pointer (some ⟨L, 0, none⟩), .int .i64 a, .int .i64 to] w fun e w' => e = .returned (.tuple #[]) ∧ ArIs w' A G cap (Arena.putS ws a (Hdr.lk to)) ld (st + Arena.oneN ws.length a) ∧ Arena.Two A G w w' := by
  have hca := h.ca
  have HA := Lib.hid ha
  clear h ha
  go_enter Tryz.func338, Tryz.ntmps338
  go_wp2_with (first
    | (go_at_call 263; refine (Arena.store_any _ HA.out hG hst a _).mono ?_; rintro e w' ⟨rfl, ha', h2⟩)
    | (go_at_call 347; refine (Hdr.link_yes _ _ ht).mono ?_; rintro e w'' ⟨rfl, rfl⟩))
  exact bodyPost_end (results_none rfl _ _ _) rfl ⟨rfl, ha', h2⟩
end Go.Proofs.YtipifkgmhgkleaaGreatDoor.Lis

namespace Go.Proofs.YtipifkgmhgkleaaGreatDoor.Lis
open Go.RowKit
open Class (isB isB_true isB_false is_any)
open Blk (Cfg TbIs ret_int ret_bool rowB cellsK owns_block owns_lt owns_cell other same cell_of_block frozen_of_block)
open Go.Proofs.YtipifkgmhgkleaaGreatDoor.Row (Chg push_row step_append_own infoInt info_parts one_at)
open Arena (ArIs Two)
open Bits (SetIs)

def upd {α : Type} (f : Nat → α) (k : Nat) (v : α) : Nat → α := fun j => if j = k then v else f j
theorem upd_same {α : Type} (f : Nat → α) (k : Nat) (v : α) : upd f k v k = v := if_pos rfl
theorem upd_other {α : Type} (f : Nat → α) {k j : Nat} (v : α) (h : j ≠ k) : upd f k v j = f j := if_neg h

/-- The blocks that lists call their own. -/
def Own (L A G I J : Nat) (ps : Nat → Option Addr) (k : Nat) : Prop := k = L ∨ k = A ∨ k = G ∨ k = I ∨ k = J ∨ ∃ i, i < 4 ∧ rowB (ps i) k
/-- Five blocks apart. -/
structure Five (L A G I J : Nat) : Prop where
  la : L ≠ A
  lg : L ≠ G
  li : L ≠ I
  lj : L ≠ J
  ag : A ≠ G
  ai : A ≠ I
  aj : A ≠ J
  gi : G ≠ I
  gj : G ≠ J
  ij : I ≠ J
/-- Lists, their arena, their set. -/
structure Sit (w : World) (L A G T I J cap capS base : Nat) (ps : Nat → Option Addr) (cs : Nat → Nat) (rv : Nat → List Nat) (ws sw : List Nat) (ld st : Nat) : Prop where
  ls : LsIs w L A T I base ps cs rv
  ar : ArIs w A G cap ws ld st
  si : SetIs w I J (ws.length + 1) capS sw
  five : Five L A G I J
  ltG : G < w.heap.size
  ltJ : J < w.heap.size
  rows : ∀ k, k < 4 → ∀ g, rowB (ps k) g → g ≠ A ∧ g ≠ G ∧ g ≠ I ∧ g ≠ J
  bs : base ≤ w.heap.size
section
variable {w w' : World} {L A G T I J cap capS base : Nat} {ps : Nat → Option Addr} {cs : Nat → Nat} {rv : Nat → List Nat} {ws sw : List Nat} {ld st : Nat}
theorem Sit.ltI (h : Sit w L A G T I J cap capS base ps cs rv ws sw ld st) : I < w.heap.size := World.block_lt_of_cell? w _ h.si.cs
theorem Sit.ltO (h : Sit w L A G T I J cap capS base ps cs rv ws sw ld st) {k : Nat} (hk : Own L A G I J ps k) : k < w.heap.size := by
  have := h.ls.lt; have := h.ar.ltB; have := h.ltG; have := h.ltI; have := h.ltJ
  rcases hk with e | e | e | e | e | ⟨i, hi, e⟩
  · omega
  · omega
  · omega
  · omega
  · omega
  · exact (h.ls.ltR hi e).2
theorem set_kept {B G size cap : Nat} {ws : List Nat} (h : SetIs w B G size cap ws) (hB : w'.heap[B]? = w.heap[B]?) (hG : w'.heap[G]? = w.heap[G]?) : SetIs w' B G size cap ws :=
  ⟨h.small, h.row, h.capn, (cell_of_block (a := ⟨B, 0, none⟩) hB).trans h.cs, (cell_of_block (a := ⟨B, 1, none⟩) hB).trans h.cw, fun j hj => (cell_of_block (a := ⟨G, j, none⟩) hG).trans (h.at_ j hj), fun j hj => (frozen_of_block (a := ⟨G, j, none⟩) hG).trans (h.fz j hj)⟩
theorem ar_kept {B G cap ld st : Nat} {ws : List Nat} (h : ArIs w B G cap ws ld st) (hB : w'.heap[B]? = w.heap[B]?) (hG : w'.heap[G]? = w.heap[G]?) : ArIs w' B G cap ws ld st :=
  ⟨h.small, h.capn, h.ne, (cell_of_block (a := ⟨B, 0, none⟩) hB).trans h.cw, (cell_of_block (a := ⟨B, 1, none⟩) hB).trans h.cl, (cell_of_block (a := ⟨B, 2, none⟩) hB).trans h.cs, (frozen_of_block (a := ⟨B, 1, none⟩) hB).trans h.f1, (frozen_of_block (a := ⟨B, 2, none⟩) hB).trans h.f2,
    fun j hj => (cell_of_block (a := ⟨G, j, none⟩) hG).trans (h.at_ j hj), fun j hj => (frozen_of_block (a := ⟨G, j, none⟩) hG).trans (h.fz j hj)⟩
theorem Sit.kept (h : Sit w L A G T I J cap capS base ps cs rv ws sw ld st) (hk : ∀ k, Own L A G I J ps k → w'.heap[k]? = w.heap[k]?) (hs : w.heap.size ≤ w'.heap.size) : Sit w' L A G T I J cap capS base ps cs rv ws sw ld st :=
  ⟨h.ls.kept (hk _ (.inl rfl)) (fun k h4 g hg => hk g (.inr (.inr (.inr (.inr (.inr ⟨k, h4, hg⟩)))))), ar_kept h.ar (hk _ (.inr (.inl rfl))) (hk _ (.inr (.inr (.inl rfl)))), set_kept h.si (hk _ (.inr (.inr (.inr (.inl rfl))))) (hk _ (.inr (.inr (.inr (.inr (.inl rfl)))))), h.five, Nat.lt_of_lt_of_le h.ltG hs, Nat.lt_of_lt_of_le h.ltJ hs, h.rows, Nat.le_trans h.bs hs⟩
theorem Sit.drewN (h : Sit w L A G T I J cap capS base ps cs rv ws sw ld st) (n : Nat) : Sit (w.drewN n) L A G T I J cap capS base ps cs rv ws sw ld st := h.kept (fun _ _ => rfl) (Nat.le_refl _)
theorem Sit.later (h : Sit w L A G T I J cap capS base ps cs rv ws sw ld st) (hb : Below w.heap.size w w') : Sit w' L A G T I J cap capS base ps cs rv ws sw ld st := h.kept (fun k hk => hb.block k (h.ltO hk)) hb.size
theorem Sit.chg {S : Nat → Prop} (h : Sit w L A G T I J cap capS base ps cs rv ws sw ld st) (hc : Chg S w w') (hS : ∀ k, Own L A G I J ps k → ¬ S k) : Sit w' L A G T I J cap capS base ps cs rv ws sw ld st := h.kept (fun k hk => hc.block k (h.ltO hk) (hS k hk)) hc.size
end

theorem own_two {L A G I J : Nat} {ps : Nat → Option Addr} {w w' : World} (h : Two A G w w') : Chg (Own L A G I J ps) w w' :=
  ⟨h.os, h.tape, h.output, h.size, fun k hk hn => h.block k hk (fun e => hn (.inr (.inl e))) (fun e => hn (.inr (.inr (.inl e))))⟩
theorem own_trans {S : Nat → Prop} {a b d : World} (h : Chg S a b) (k : Chg S b d) : Chg S a d := h.trans k (fun _ e => .inl e)

/-- A slot's link, where the lists are as they were. -/
theorem link_sit {L A G T I J cap capS base : Nat} {ps : Nat → Option Addr} {cs : Nat → Nat} {rv : Nat → List Nat} {ws sw : List Nat} {ld st : Nat} (w : World) (h : Sit w L A G T I J cap capS base ps cs rv ws sw ld st) (a to : Nat) (ha1 : 1 ≤ a) (ha : a ≤ ws.length) (hst : st < 1000000) (ht : to ≤ 1048576) :
    Calls Tryz.prog 338 #[.pointer (some ⟨L, 0, none⟩), .int .i64 a, .int .i64 to] w fun e w' => e = .returned (.tuple #[]) ∧
      Sit w' L A G T I J cap capS base ps cs rv (ws.set (a - 1) (Hdr.lk to)) sw ld (st + 1) ∧ Two A G w w' := by
  have hz : Arena.codeN ws.length (a : Int) = 0 := by unfold Arena.codeN; rw [if_neg (by omega), if_neg (by omega)]
  have e1 : Arena.putS ws (a : Int) (Hdr.lk to) = ws.set (a - 1) (Hdr.lk to) := by rw [Arena.putS, if_pos hz, Int.toNat_natCast]
  have e2 : Arena.oneN ws.length (a : Int) = 1 := if_pos hz
  refine (link_any (a : Int) to w h.ls h.ar h.ltG hst ht).mono ?_
  rintro e w' ⟨rfl, ha', h2⟩
  rw [e1, e2] at ha'
  have F := h.five
  exact ⟨rfl, ⟨h.ls.kept (h2.block _ h.ls.lt F.la F.lg) (fun k hk g hg => h2.block g (h.ls.ltR hk hg).2 (h.rows k hk g hg).1 (h.rows k hk g hg).2.1), ha', by rw [List.length_set]; exact set_kept h.si (h2.block _ h.ltI (Ne.symm F.ai) (Ne.symm F.gi)) (h2.block _ h.ltJ (Ne.symm F.aj) (Ne.symm F.gj)), F, Nat.lt_of_lt_of_le h.ltG h2.size, Nat.lt_of_lt_of_le h.ltJ h2.size, h.rows, Nat.le_trans h.bs h2.size⟩, h2⟩

/-- A number put into the set, where the rest is as it was. -/
theorem in_sit {L A G T I J cap capS base : Nat} {ps : Nat → Option Addr} {cs : Nat → Nat} {rv : Nat → List Nat} {ws sw : List Nat} {ld st : Nat} (w : World) (h : Sit w L A G T I J cap capS base ps cs rv ws sw ld st) (a : Nat) (x : Bool) (ha : a ≤ ws.length) (hx : x = !hasB sw a) :
    Calls Tryz.prog 309 #[.pointer (some ⟨I, 0, none⟩), .int .i64 a, .bool x] w fun e w' => e = .returned (.bool true) ∧
      Sit w' L A G T I J cap capS base ps cs rv ws (putW sw a) ld st ∧ Chg (Own L A G I J ps) w w' ∧ (∀ k, k ≠ J → w'.heap[k]? = w.heap[k]?) := by
  refine (Bits.put_turn I J _ capS sw a x w h.si h.five.ij (by omega) hx).mono ?_
  rintro e w' ⟨rfl, hs, hg, hsz⟩
  have hb : ∀ k, k ≠ J → w'.heap[k]? = w.heap[k]? := fun k hk => by
    by_cases hk2 : k < w.heap.size
    · exact hg.block k hk2 (fun e => hk (Option.some.inj e))
    · rw [Array.getElem?_eq_none (by omega), Array.getElem?_eq_none (by omega)]
  have F := h.five
  exact ⟨rfl, ⟨h.ls.kept (hb _ F.lj) (fun k hk g hg => hb g (h.rows k hk g hg).2.2.2), ar_kept h.ar (hb _ F.aj) (hb _ F.gj), hs, F, by rw [hsz]; exact h.ltG, by rw [hsz]; exact h.ltJ, h.rows, by rw [hsz]; exact h.bs⟩,
    ⟨hg.os, hg.tape, hg.output, Nat.le_of_eq hsz.symm, fun k _ hn => hb k (fun e => hn (.inr (.inr (.inr (.inr (.inl e))))))⟩, hb⟩

theorem heap_set {w : World} {p : Addr} {v : Value} {k : Nat} (h : k ≠ p.block) : (w.setCell p v).heap[k]? = w.heap[k]? := Below.heap_setCell w p v k h
/-- A list's row laid anew. -/
theorem Sit.lay {w w3 : World} {L A G T I J cap capS base : Nat} {ps : Nat → Option Addr} {cs : Nat → Nat} {rv : Nat → List Nat} {ws sw : List Nat} {ld st : Nat} (h : Sit w L A G T I J cap capS base ps cs rv ws sw ld st) {k : Nat} (hk : k < 4) {p' : Option Addr} {c' : Nat} {l : List Nat} (hl : l.length ≤ 1000000)
    (hc : Chg (rowB (ps k)) w w3) (ho : w3.ownsRow base 3 1 (.slice p' l.length c') l.length (cellsK l)) (hR : ∀ g, rowB p' g → rowB (ps k) g ∨ w.heap.size ≤ g) :
    Sit (w3.setCell ⟨L, 3 + k, none⟩ (.slice p' l.length c')) L A G T I J cap capS base (upd ps k p') (upd cs k c') (upd rv k l) ws sw ld st ∧
      Chg (Own L A G I J ps) w (w3.setCell ⟨L, 3 + k, none⟩ (.slice p' l.length c')) ∧ (∀ j, Own L A G I J (upd ps k p') j → Own L A G I J ps j ∨ w.heap.size ≤ j) ∧
      w3.cell? ⟨L, 3 + k, none⟩ = some (.slice (ps k) (rv k).length (cs k)) ∧ w3.frozen? ⟨L, 3 + k, none⟩ = false := by
  have F := h.five
  have hL3 : w3.heap[L]? = w.heap[L]? := hc.block L h.ls.lt (h.ls.nL k hk)
  have h3 : ∀ j, Own L A G I J ps j → ¬ rowB (ps k) j → (w3.setCell ⟨L, 3 + k, none⟩ (.slice p' l.length c')).heap[j]? = w.heap[j]? ∨ j = L := fun j hj hn => by
    by_cases e : j = L
    · exact .inr e
    · exact .inl ((heap_set e).trans (hc.block j (h.ltO hj) hn))
  have nRow : ∀ j, j = A ∨ j = G ∨ j = I ∨ j = J → ¬ rowB (ps k) j := fun j hj hr => by
    have := h.rows k hk j hr
    rcases hj with e | e | e | e
    · exact this.1 e
    · exact this.2.1 e
    · exact this.2.2.1 e
    · exact this.2.2.2 e
  have hA := (h3 A (.inr (.inl rfl)) (nRow A (.inl rfl))).resolve_right (Ne.symm F.la)
  have hG := (h3 G (.inr (.inr (.inl rfl))) (nRow G (.inr (.inl rfl)))).resolve_right (Ne.symm F.lg)
  have hI := (h3 I (.inr (.inr (.inr (.inl rfl)))) (nRow I (.inr (.inr (.inl rfl))))).resolve_right (Ne.symm F.li)
  have hJ := (h3 J (.inr (.inr (.inr (.inr (.inl rfl))))) (nRow J (.inr (.inr (.inr rfl))))).resolve_right (Ne.symm F.lj)
  have nL' : ¬ rowB p' L := fun e => (hR L e).elim (h.ls.nL k hk) (by have := h.ls.lt; omega)
  have hcell : ∀ j, w3.cell? ⟨L, j, none⟩ = w.cell? ⟨L, j, none⟩ := fun j => cell_of_block (a := ⟨L, j, none⟩) hL3
  have hfro : ∀ j, w3.frozen? ⟨L, j, none⟩ = w.frozen? ⟨L, j, none⟩ := fun j => frozen_of_block (a := ⟨L, j, none⟩) hL3
  have hsz : w.heap.size ≤ (w3.setCell ⟨L, 3 + k, none⟩ (.slice p' l.length c')).heap.size := by simpa [World.setCell] using hc.size
  refine ⟨⟨⟨?_, ?_, ?_, fun j hj => ?_, fun j hj => ?_, fun j hj => ?_, fun j hj => ?_, fun i j hi hj hij g hg => ?_, fun j hj hr => ?_⟩, ar_kept h.ar hA hG, set_kept h.si hI hJ, F, Nat.lt_of_lt_of_le h.ltG hsz, Nat.lt_of_lt_of_le h.ltJ hsz, fun j hj g hg => ?_, Nat.le_trans h.bs hsz⟩,
    Chg.set (S := Own L A G I J ps) (hc.mono fun g hg => .inr (.inr (.inr (.inr (.inr ⟨k, hk, hg⟩))))) (.inl (.inl rfl)) _, fun j hj => ?_, (hcell _).trans (h.ls.cv k hk), (hfro _).trans (h.ls.fv k hk)⟩
  · exact (other (by first | (simp; done) | (simp; omega))).trans ((hcell 0).trans h.ls.ca)
  · exact (other (by first | (simp; done) | (simp; omega))).trans ((hcell 1).trans h.ls.ct)
  · exact (other (by first | (simp; done) | (simp; omega))).trans ((hcell 2).trans h.ls.ci)
  · by_cases e : j = k
    · subst e
      rw [upd_same, upd_same, upd_same]
      exact same ((hcell _).trans (h.ls.cv j hj))
    · rw [upd_other _ _ e, upd_other _ _ e, upd_other _ _ e]
      exact (other (by first | (simp; done) | (simp; omega))).trans ((hcell _).trans (h.ls.cv j hj))
  · exact (World.frozen?_setCell ..).trans ((hfro _).trans (h.ls.fv j hj))
  · by_cases e : j = k
    · subst e
      rw [upd_same, upd_same, upd_same]
      exact owns_block ho (fun g hg => heap_set (fun e => nL' (by rw [← (show g = L from e)]; exact hg)))
    · rw [upd_other _ _ e, upd_other _ _ e, upd_other _ _ e]
      exact owns_block (h.ls.own j hj) (fun g hg => (heap_set (fun e2 => h.ls.nL j hj (by rw [← (show g = L from e2)]; exact hg))).trans (hc.block g (h.ls.ltR hj hg).2 (h.ls.two j k hj hk e g hg)))
  · by_cases e : j = k
    · subst e; rw [upd_same]; exact hl
    · rw [upd_other _ _ e]; exact h.ls.len j hj
  · by_cases e1 : i = k
    · subst e1
      rw [upd_same] at hg
      rw [upd_other _ _ (Ne.symm hij)]
      intro hr
      exact (hR g hg).elim (fun e => h.ls.two i j hi hj hij g e hr) (by have := (h.ls.ltR hj hr).2; omega)
    · rw [upd_other _ _ e1] at hg
      by_cases e2 : j = k
      · subst e2
        rw [upd_same]
        intro hr
        exact (hR g hr).elim (fun e => h.ls.two i j hi hj hij g hg e) (by have := (h.ls.ltR hi hg).2; omega)
      · rw [upd_other _ _ e2]
        exact h.ls.two i j hi hj hij g hg
  · by_cases e : j = k
    · subst e; rw [upd_same] at hr; exact nL' hr
    · rw [upd_other _ _ e] at hr; exact h.ls.nL j hj hr
  · by_cases e : j = k
    · subst e
      rw [upd_same] at hg
      rcases hR g hg with e | e
      · exact h.rows j hj g e
      · have := h.ar.ltB; have := h.ltG; have := h.ltI; have := h.ltJ
        exact ⟨by omega, by omega, by omega, by omega⟩
    · rw [upd_other _ _ e] at hg
      exact h.rows j hj g hg
  · rcases hj with e | e | e | e | e | ⟨i, hi, hr⟩
    · exact .inl (.inl e)
    · exact .inl (.inr (.inl e))
    · exact .inl (.inr (.inr (.inl e)))
    · exact .inl (.inr (.inr (.inr (.inl e))))
    · exact .inl (.inr (.inr (.inr (.inr (.inl e)))))
    · by_cases e : i = k
      · subst e
        rw [upd_same] at hr
        exact (hR j hr).imp (fun e => .inr (.inr (.inr (.inr (.inr ⟨i, hi, e⟩))))) id
      · rw [upd_other _ _ e] at hr
        exact .inl (.inr (.inr (.inr (.inr (.inr ⟨i, hi, hr⟩)))))
end Go.Proofs.YtipifkgmhgkleaaGreatDoor.Lis

namespace Go.Proofs.YtipifkgmhgkleaaGreatDoor.Lis
open Go.RowKit
open Class (isB isB_true isB_false is_any)
open Blk (Cfg TbIs ret_int ret_bool rowB cellsK owns_block owns_lt owns_cell other same cell_of_block frozen_of_block)
open Go.Proofs.YtipifkgmhgkleaaGreatDoor.Row (Chg push_row step_append_own infoInt info_parts one_at)
open Arena (ArIs Two)
open Bits (SetIs)

set_option maxHeartbeats 1000000 in
theorem put1_in {L A G T I J cap capS base : Nat} {ps : Nat → Option Addr} {cs : Nat → Nat} {rv : Nat → List Nat} {ws sw : List Nat} {ld st : Nat} (w : World) (h : Sit w L A G T I J cap capS base ps cs rv ws sw ld st) {k a p q : Nat} (ha : a ≤ ws.length)
    (hp : w.cell? ⟨p, 0, none⟩ = some (.pointer (some ⟨L, 0, none⟩))) (hq : w.cell? ⟨q, 0, none⟩ = some (.int .i64 a)) (hin : hasB sw a = true) :
    Calls Tryz.prog 337 #[.pointer (some ⟨L, 3 + k, none⟩), .pointer (some ⟨p, 0, none⟩), .pointer (some ⟨q, 0, none⟩)] w fun e w' => e = .returned (.int .i64 11) ∧ ∃ n, w' = w.drewN n := by
  have hci := h.ls.ci
  have hm : Bits.mayB (a : Int) (ws.length + 1 : Nat) = true := by simp [Bits.mayB]; omega
  have HS := Lib.hid (fun n => h.si.drewN n)
  have HH : ∀ n, Calls Tryz.prog 276 #[.pointer (some ⟨I, 0, none⟩), .int .i64 (a : Nat)] (w.drewN n) fun e w' => e = .returned (.bool true) ∧ ∃ m, w' = w.drewN m := fun n => by
    refine (Bits.has_any _ _ _ _ _ (a : Int) _ (HS.out n)).mono ?_
    rintro e w' ⟨rfl, m, rfl⟩
    exact ⟨by rw [hm, Int.toNat_natCast, hin]; rfl, n + m, World.drewN_drewN ..⟩
  clear h hin hm
  go_enter Tryz.func337, Tryz.ntmps337
  go_wp2
  go_quiet ((go_at_call 276; exact HH _))
  go_wp2
  go_ret
  exact ⟨rfl, _, rfl⟩

/-- What an append to a list's row leaves. -/
theorem put_fin {w Y0 w3 : World} {L A G T I J cap capS base : Nat} {ps : Nat → Option Addr} {cs : Nat → Nat} {rv : Nat → List Nat} {ws sw : List Nat} {ld st : Nat} {v' : Value} {a : Nat} (h : Sit w L A G T I J cap capS base ps cs rv ws sw ld st) {k : Nat} (hk : k < 4) (hl : (rv k).length < 1000000) (hb : Below w.heap.size w Y0)
    (hown : w3.ownsRow base 3 1 v' ((rv k).length + 1) (cellsK (rv k) ++ [.int .i64 (a : Nat)])) (hg : Y0.grownBy w3 (Value.slice (ps k) (rv k).length (cs k)).ownBlock)
    (hat : v'.ownBlock = (Value.slice (ps k) (rv k).length (cs k)).ownBlock ∨ v'.ownBlock = some Y0.heap.size) :
    ∃ p' c', v' = .slice p' ((rv k).length + 1) c' ∧ Sit (w3.setCell ⟨L, 3 + k, none⟩ (.slice p' ((rv k).length + 1) c')) L A G T I J cap capS base (upd ps k p') (upd cs k c') (upd rv k (rv k ++ [a])) ws sw ld st ∧
      Chg (Own L A G I J ps) w (w3.setCell ⟨L, 3 + k, none⟩ (.slice p' ((rv k).length + 1) c')) ∧ (∀ j, Own L A G I J (upd ps k p') j → Own L A G I J ps j ∨ w.heap.size ≤ j) ∧
      w3.cell? ⟨L, 3 + k, none⟩ = some (.slice (ps k) (rv k).length (cs k)) ∧ w3.frozen? ⟨L, 3 + k, none⟩ = false ∧ Chg (rowB (ps k)) w w3 := by
  obtain ⟨p', c', rfl, hC, hR⟩ := push_row hb hown hg hat
  have hlen : (rv k ++ [a]).length = (rv k).length + 1 := by simp
  have hx : cellsK (rv k) ++ [.int .i64 (a : Nat)] = cellsK (rv k ++ [a]) := by simp [cellsK]
  rw [hx, ← hlen] at hown
  obtain ⟨h1, h2, h3, h4, h5⟩ := h.lay hk (by omega) hC hown hR
  rw [hlen] at h1 h2
  exact ⟨p', c', rfl, h1, h2, h3, h4, h5, hC⟩

set_option maxHeartbeats 2000000 in
theorem put1_out {L A G T I J cap capS base : Nat} {ps : Nat → Option Addr} {cs : Nat → Nat} {rv : Nat → List Nat} {ws sw : List Nat} {ld st : Nat} (w : World) (h : Sit w L A G T I J cap capS base ps cs rv ws sw ld st) {k a p q : Nat} (hk : k < 4) (ha : a ≤ ws.length) (ha1 : 1 ≤ a) (hst : st < 1000000)
    (hf : lastN (rv k) ≤ 1048576) (hc : (rv k).length < 1000000) (hlp : ¬ Own L A G I J ps p) (hlq : ¬ Own L A G I J ps q)
    (hp : w.cell? ⟨p, 0, none⟩ = some (.pointer (some ⟨L, 0, none⟩))) (hq : w.cell? ⟨q, 0, none⟩ = some (.int .i64 a)) (hin : hasB sw a = false) :
    Calls Tryz.prog 337 #[.pointer (some ⟨L, 3 + k, none⟩), .pointer (some ⟨p, 0, none⟩), .pointer (some ⟨q, 0, none⟩)] w fun e w' => e = .returned (.int .i64 0) ∧
      ∃ p' c', Sit w' L A G T I J cap capS base (upd ps k p') (upd cs k c') (upd rv k (rv k ++ [a])) (ws.set (a - 1) (Hdr.lk (lastN (rv k)))) (putW sw a) ld (st + 1) ∧ Chg (Own L A G I J ps) w w' ∧ ∀ j, Own L A G I J (upd ps k p') j → Own L A G I J ps j ∨ w.heap.size ≤ j := by
  have hci := h.ls.ci
  have hcv := h.ls.cv k hk
  have hm : Bits.mayB (a : Int) (ws.length + 1 : Nat) = true := by simp [Bits.mayB]; omega
  have HS := Lib.hid (fun n => h.si.drewN n)
  have HH : ∀ n, Calls Tryz.prog 276 #[.pointer (some ⟨I, 0, none⟩), .int .i64 (a : Nat)] (w.drewN n) fun e w' => e = .returned (.bool false) ∧ ∃ m, w' = w.drewN m := fun n => by
    refine (Bits.has_any _ _ _ _ _ (a : Int) _ (HS.out n)).mono ?_
    rintro e w' ⟨rfl, m, rfl⟩
    exact ⟨by rw [hm, Int.toNat_natCast, hin]; rfl, n + m, World.drewN_drewN ..⟩
  have HT := Lib.hid h
  have hpl : p < w.heap.size := World.block_lt_of_cell? w _ hp
  have hql : q < w.heap.size := World.block_lt_of_cell? w _ hq
  have hLl : L < w.heap.size := h.ls.lt
  have HFR := Lib.hid (fun n => front_any (rv k) (w.drewN n) (by have := h.ls.len k hk; omega) ((h.drewN n).ls.own k hk))
  clear h hm
  go_enter Tryz.func337, Tryz.ntmps337
  go_wp2
  go_quiet ((go_at_call 276; exact HH _))
  go_wp2
  have HK0 := Lib.hid (show (w.drewN nq).drew.cell? ⟨p, 0, none⟩ = some (.pointer (some ⟨L, 0, none⟩)) ∧ (w.drewN nq).drew.cell? ⟨q, 0, none⟩ = some (.int .i64 a) ∧ (w.drewN nq).drew.cell? ⟨L, 3 + k, none⟩ = some (.slice (ps k) (rv k).length (cs k)) from ⟨hp, hq, hcv⟩)
  have HK3 := Lib.hid (fun (W : World) (h2 : Two A G (w.drewN (nq + 1)) W) => (⟨(h2.cell (p := ⟨p, 0, none⟩) hpl (fun e => hlp (.inr (.inl e))) (fun e => hlp (.inr (.inr (.inl e))))).trans hp, (h2.cell (p := ⟨q, 0, none⟩) hql (fun e => hlq (.inr (.inl e))) (fun e => hlq (.inr (.inr (.inl e))))).trans hq, (h2.cell (p := ⟨L, 3 + k, none⟩) hLl HT.out.five.la HT.out.five.lg).trans hcv⟩ : W.cell? ⟨p, 0, none⟩ = some (.pointer (some ⟨L, 0, none⟩)) ∧ W.cell? ⟨q, 0, none⟩ = some (.int .i64 a) ∧ W.cell? ⟨L, 3 + k, none⟩ = some (.slice (ps k) (rv k).length (cs k))))
  go_region_held3 (fun W => W.cell? ⟨p, 0, none⟩ = some (.pointer (some ⟨L, 0, none⟩)) ∧ W.cell? ⟨q, 0, none⟩ = some (.int .i64 a) ∧ W.cell? ⟨L, 3 + k, none⟩ = some (.slice (ps k) (rv k).length (cs k)))
    (first | exact HK0.out | assumption | exact HK3.out _ h23)
    (first | (go_at_call 312; refine (HFR.out _).mono ?_; rintro e w'' ⟨rfl, rfl⟩) | (go_at_call 338; refine (link_sit _ (HT.out.drewN _) a (lastN (rv k)) ha1 ha hst hf).mono ?_; rintro e w3 ⟨rfl, hT3, h23⟩))
  have hS3 : w3.cell? ⟨p, 0, none⟩ = some (.pointer (some ⟨L, 0, none⟩)) ∧ w3.cell? ⟨q, 0, none⟩ = some (.int .i64 a) ∧ w3.cell? ⟨L, 3 + k, none⟩ = some (.slice (ps k) (rv k).length (cs k)) := by assumption
  clear HK3 HK0
  obtain ⟨hp3, hq3, hcv3⟩ := hS3
  have hci3 := hT3.ls.ci
  have HT3 := Lib.hid hT3
  have hpl3 : p < w3.heap.size := World.block_lt_of_cell? w3 _ hp3
  have hql3 : q < w3.heap.size := World.block_lt_of_cell? w3 _ hq3
  have hLl3 : L < w3.heap.size := hT3.ls.lt
  have hal : a ≤ (ws.set (a - 1) (Hdr.lk (lastN (rv k)))).length := by rw [List.length_set]; exact ha
  have HC3 := Lib.hid (own_trans ((Chg.refl (Own L A G I J ps) w).drewN (nq + 1)) (own_two h23))
  clear hT3 h23 HFR
  go_wp2
  have HK0 := Lib.hid (show w3.drew.cell? ⟨p, 0, none⟩ = some (.pointer (some ⟨L, 0, none⟩)) ∧ w3.drew.cell? ⟨q, 0, none⟩ = some (.int .i64 a) ∧ w3.drew.cell? ⟨L, 2, none⟩ = some (.pointer (some ⟨I, 0, none⟩)) from ⟨hp3, hq3, hci3⟩)
  have HK4 := Lib.hid (fun (W : World) (h2 : ∀ j, j ≠ J → W.heap[j]? = (w3.drewN 1).heap[j]?) => (⟨(cell_of_block (a := ⟨p, 0, none⟩) (h2 p (fun e => hlp (.inr (.inr (.inr (.inr (.inl e)))))))).trans hp3, (cell_of_block (a := ⟨q, 0, none⟩) (h2 q (fun e => hlq (.inr (.inr (.inr (.inr (.inl e)))))))).trans hq3, (cell_of_block (a := ⟨L, 2, none⟩) (h2 L HT.out.five.lj)).trans hci3⟩ : W.cell? ⟨p, 0, none⟩ = some (.pointer (some ⟨L, 0, none⟩)) ∧ W.cell? ⟨q, 0, none⟩ = some (.int .i64 a) ∧ W.cell? ⟨L, 2, none⟩ = some (.pointer (some ⟨I, 0, none⟩))))
  go_region_held3 (fun W => W.cell? ⟨p, 0, none⟩ = some (.pointer (some ⟨L, 0, none⟩)) ∧ W.cell? ⟨q, 0, none⟩ = some (.int .i64 a) ∧ W.cell? ⟨L, 2, none⟩ = some (.pointer (some ⟨I, 0, none⟩)))
    (first | exact HK0.out | assumption | exact HK4.out _ h24)
    (first | (go_at_call 309; refine (in_sit _ (HT3.out.drewN _) a true hal (by rw [hin]; rfl)).mono ?_; rintro e w4 ⟨rfl, hT4, hg4, h24⟩))
  have hS4 : w4.cell? ⟨p, 0, none⟩ = some (.pointer (some ⟨L, 0, none⟩)) ∧ w4.cell? ⟨q, 0, none⟩ = some (.int .i64 a) ∧ w4.cell? ⟨L, 2, none⟩ = some (.pointer (some ⟨I, 0, none⟩)) := by assumption
  clear HK4 HK0
  obtain ⟨_, hq4, _⟩ := hS4
  have hcv4 := hT4.ls.cv k hk
  have hfv4 := hT4.ls.fv k hk
  have HT4 := Lib.hid hT4
  have HC4 := Lib.hid (own_trans (HC3.out.drewN 1) hg4)
  have hsz4 : w.heap.size ≤ w4.heap.size := HC4.out.size
  clear hT4 hg4 h24 hp3 hq3 hcv3 hci3 hpl3 hql3 hLl3
  obtain ⟨i0, hinf, hz0, hz1, hz2⟩ := info_parts infoInt
  have hba : Below w4.heap.size w4 (w4.drew.alloc (.cells #[.int .i64 (a : Nat)] 3)) := (below_drewN (Below.refl _ w4) 1).alloc (Nat.le_refl _) _
  have HBA := Lib.hid hba
  have HQ : Hid (∀ w5 : World, Chg (rowB (ps k)) w4 w5 → w5.cell? ⟨q, 0, none⟩ = some (.int .i64 (a : Nat))) := Lib.hid fun w5 hc => (hc.cell (p := ⟨q, 0, none⟩) (World.block_lt_of_cell? w4 _ hq4) (fun e => hlq (.inr (.inr (.inr (.inr (.inr ⟨k, hk, e⟩))))))).trans hq4
  have HOW := Lib.hid (owns_block (HT4.out.ls.own k hk) (fun g hg => Below.heap_alloc w4.drew (.cells #[.int .i64 (a : Nat)] 3) g (by simpa using (HT4.out.ls.ltR hk hg).2)))
  have hca4 : (w4.alloc (.cells #[.int .i64 (a : Nat)] 3)).cell? ⟨L, 3 + k, none⟩ = some (.slice (ps k) (rv k).length (cs k)) := (Below.cell (((Below.refl _ w4).alloc (Nat.le_refl _) _)) (p := ⟨L, 3 + k, none⟩) (World.block_lt_of_cell? w4 _ hcv4)).trans hcv4
  have hcq4 : (w4.alloc (.cells #[.int .i64 (a : Nat)] 3)).cell? ⟨q, 0, none⟩ = some (.int .i64 (a : Nat)) := (Below.cell (((Below.refl _ w4).alloc (Nat.le_refl _) _)) (p := ⟨q, 0, none⟩) (World.block_lt_of_cell? w4 _ hq4)).trans hq4
  have hbs4 := HT4.out.bs
  clear hba
  go_wp2_with fail
  go_region_law (refine step_append_own rfl (.tmp 27) (.tmp 29) 40 rfl base 3 i0 (.int .i64 0) 1 8 Tryz.underlying40 hinf hz0 hz1 hz2 rfl (by decide) (.slice (ps k) (rv k).length (cs k)) _ (cellsK (rv k)) rfl HOW.out ⟨w4.heap.size, 0, none⟩ 1 1 [.int .i64 (a : Nat)] rfl rfl (one_at rfl) (by simp [Value.oneCell']) (by unfold maxLen; omega) (by omega) (by simp; omega) ?_; intro v' w5 hown hgrow hat; obtain ⟨p', c', rfl, hT5, hC5, hR5, hc5, hf5, hD5⟩ := put_fin HT4.out hk hc HBA.out hown hgrow hat; have HT5 := Lib.hid hT5; have HC5 := Lib.hid hC5; have HR5 := Lib.hid hR5; have hq5 := HQ.out w5 hD5; clear hown hgrow hat hT5 hC5 hR5 hD5)
  all_goals go_wp2
  all_goals go_ret
  all_goals exact ⟨rfl, p', c', HT5.out, own_trans HC4.out HC5.out, fun j hj => (HR5.out j hj).imp id (fun h => by omega)⟩
end Go.Proofs.YtipifkgmhgkleaaGreatDoor.Lis

namespace Go.Proofs.YtipifkgmhgkleaaGreatDoor.Lis
open Go.RowKit
open Class (isB isB_true isB_false is_any)
open Blk (Cfg TbIs ret_int ret_bool other same ownB ownV ownV_no ownV_yes owner_any blk kAt OwnIs)
open Go.Proofs.YtipifkgmhgkleaaGreatDoor.Row (Chg)
open Arena (ArIs Two)
open Bits (SetIs)
open Go.Proofs.YtipifkgmhgkleaaGreatDoor.Addr (Tabs)

theorem two_new {w : World} (u v : Value) (s t : TypeId) : Below w.heap.size w ((w.alloc (.cells #[u] s)).alloc (.cells #[v] t)) := ((Below.refl _ _).alloc (Nat.le_refl _) _).alloc (by simp) _

set_option maxRecDepth 100000 in
set_option maxHeartbeats 1000000 in
theorem put_odd {L A G T I J cap capS base capT : Nat} {baseL : Nat} {ps : Nat → Option Addr} {cs : Nat → Nat} {rv : Nat → List Nat} {ws sw : List Nat} {ld st : Nat} {c : Cfg} {ks : List Nat} {pt : Option Addr} (w : World) (h : Sit w L A G T I J cap capS baseL ps cs rv ws sw ld st) (ht : TbIs w T base c ks pt capT) (htt : Tabs w) (hR : rightB c.b c.wd c.m c.r c.ce c.lg c.st = true) (a : Int) (ho : ownB c ks a = false) :
    Calls Tryz.prog 324 #[.pointer (some ⟨L, 0, none⟩), .int .i64 a] w fun e w' => e = .returned (.int .i64 1) ∧ Below w.heap.size w w' := by
  have hct := h.ls.ct
  have hL := h.ls.lt
  have hno := ownV_no ho
  have hn1 : L ≠ w.heap.size := by omega
  have hn2 : L ≠ w.heap.size + 1 := by omega
  have HTT := Lib.hid (fun (W : World) (hb : Below w.heap.size w W) => htt.later hb)
  have HTB := Lib.hid (fun (W : World) (hb : Below w.heap.size w W) => ht.later hb)
  clear h ht htt
  go_enter Tryz.func324, Tryz.ntmps324
  go_wp2
  obtain ⟨wx, hwx⟩ : ∃ wx, wx = (w.alloc (.cells #[.pointer (some ⟨L, 0, none⟩)] 151)).alloc (.cells #[.int .i64 a] 3) := ⟨_, rfl⟩
  rw [← hwx]
  have hb : Below w.heap.size w wx := by rw [hwx]; exact two_new ..
  have hp : wx.cell? ⟨w.heap.size, 0, none⟩ = some (.pointer (some ⟨L, 0, none⟩)) := by rw [hwx]; simp
  have hq : wx.cell? ⟨w.heap.size + 1, 0, none⟩ = some (.int .i64 a) := by rw [hwx]; simp
  have hcx : wx.cell? ⟨L, 1, none⟩ = some (.pointer (some ⟨T, 0, none⟩)) := (hb.cell (p := ⟨L, 1, none⟩) hL).trans hct
  have hsz : wx.heap.size = w.heap.size + 2 := by rw [hwx]; simp
  clear hwx
  have HK0 := Lib.hid (show wx.drew.cell? ⟨w.heap.size, 0, none⟩ = some (.pointer (some ⟨L, 0, none⟩)) ∧ wx.drew.cell? ⟨w.heap.size + 1, 0, none⟩ = some (.int .i64 a) ∧ wx.drew.cell? ⟨L, 1, none⟩ = some (.pointer (some ⟨T, 0, none⟩)) from ⟨hp, hq, hcx⟩)
  have HK1 := Lib.hid (fun (W : World) (h2 : Below wx.heap.size wx W) => (⟨(h2.cell (p := ⟨w.heap.size, 0, none⟩) (by show w.heap.size < _; omega)).trans hp, (h2.cell (p := ⟨w.heap.size + 1, 0, none⟩) (by show w.heap.size + 1 < _; omega)).trans hq, (h2.cell (p := ⟨L, 1, none⟩) (by show L < _; omega)).trans hcx⟩ : W.cell? ⟨w.heap.size, 0, none⟩ = some (.pointer (some ⟨L, 0, none⟩)) ∧ W.cell? ⟨w.heap.size + 1, 0, none⟩ = some (.int .i64 a) ∧ W.cell? ⟨L, 1, none⟩ = some (.pointer (some ⟨T, 0, none⟩))))
  go_region_held3 (fun W => W.cell? ⟨w.heap.size, 0, none⟩ = some (.pointer (some ⟨L, 0, none⟩)) ∧ W.cell? ⟨w.heap.size + 1, 0, none⟩ = some (.int .i64 a) ∧ W.cell? ⟨L, 1, none⟩ = some (.pointer (some ⟨T, 0, none⟩)))
    (first | exact HK0.out | assumption | exact HK1.out _ hb2)
    (first | (go_at_call 336; refine (owner_any a _ ((HTB.out wx hb).drewN 1) ((HTT.out wx hb).drewN 1) hR).mono ?_; rintro e w2 ⟨rfl, hb2'⟩; have hb2 : Below wx.heap.size wx w2 := ⟨hb2'.os, hb2'.tape, hb2'.output, hb2'.size, hb2'.block⟩; rw [hno]))
  have hS2 : w2.cell? ⟨w.heap.size, 0, none⟩ = some (.pointer (some ⟨L, 0, none⟩)) ∧ w2.cell? ⟨w.heap.size + 1, 0, none⟩ = some (.int .i64 a) ∧ w2.cell? ⟨L, 1, none⟩ = some (.pointer (some ⟨T, 0, none⟩)) := by assumption
  obtain ⟨hp2, hq2, _⟩ := hS2
  have HB2 := Lib.hid (hb.trans (hb2.mono hb.size))
  clear HK0 HK1 hb2' hb2 hb hct hcx hp hq
  go_wp2
  go_ret
  exact ⟨rfl, HB2.out⟩

set_option maxRecDepth 100000 in
set_option maxHeartbeats 1000000 in
theorem put_have {L A G T I J cap capS base capT : Nat} {baseL : Nat} {ps : Nat → Option Addr} {cs : Nat → Nat} {rv : Nat → List Nat} {ws sw : List Nat} {ld st : Nat} {c : Cfg} {ks : List Nat} {pt : Option Addr} (w : World) (h : Sit w L A G T I J cap capS baseL ps cs rv ws sw ld st) (ht : TbIs w T base c ks pt capT) (htt : Tabs w) (hR : rightB c.b c.wd c.m c.r c.ce c.lg c.st = true) (a : Nat) (ho : ownB c ks a = true) (ha : a ≤ ws.length) (hin : hasB sw a = true) :
    Calls Tryz.prog 324 #[.pointer (some ⟨L, 0, none⟩), .int .i64 a] w fun e w' => e = .returned (.int .i64 11) ∧ Below w.heap.size w w' := by
  have hct := h.ls.ct
  have hL := h.ls.lt
  have hno := ownV_yes ho
  have hn1 : L ≠ w.heap.size := by omega
  have hn2 : L ≠ w.heap.size + 1 := by omega
  have HTT := Lib.hid (fun (W : World) (hb : Below w.heap.size w W) => htt.later hb)
  have HTB := Lib.hid (fun (W : World) (hb : Below w.heap.size w W) => ht.later hb)
  have hk4 : kAt ks (blk c a) < 4 := ht.kLt _
  have HS := Lib.hid h
  clear h ht htt
  obtain ⟨k, hke⟩ : ∃ k, k = kAt ks (blk c a) := ⟨_, rfl⟩
  rw [← hke] at hk4 hno
  clear hke
  have hi := isB_true.2 ⟨Int.natCast_nonneg k, by omega⟩
  have i1 : (0 : Int) ≤ (k : Int) := Int.natCast_nonneg _
  have i2 : (k : Int) < 4 := by omega
  go_enter Tryz.func324, Tryz.ntmps324
  go_wp2
  obtain ⟨wx, hwx⟩ : ∃ wx, wx = (w.alloc (.cells #[.pointer (some ⟨L, 0, none⟩)] 151)).alloc (.cells #[.int .i64 a] 3) := ⟨_, rfl⟩
  rw [← hwx]
  have hb : Below w.heap.size w wx := by rw [hwx]; exact two_new ..
  have hp : wx.cell? ⟨w.heap.size, 0, none⟩ = some (.pointer (some ⟨L, 0, none⟩)) := by rw [hwx]; simp
  have hq : wx.cell? ⟨w.heap.size + 1, 0, none⟩ = some (.int .i64 a) := by rw [hwx]; simp
  have hcx : wx.cell? ⟨L, 1, none⟩ = some (.pointer (some ⟨T, 0, none⟩)) := (hb.cell (p := ⟨L, 1, none⟩) hL).trans hct
  have hsz : wx.heap.size = w.heap.size + 2 := by rw [hwx]; simp
  clear hwx
  have HK0 := Lib.hid (show wx.drew.cell? ⟨w.heap.size, 0, none⟩ = some (.pointer (some ⟨L, 0, none⟩)) ∧ wx.drew.cell? ⟨w.heap.size + 1, 0, none⟩ = some (.int .i64 a) ∧ wx.drew.cell? ⟨L, 1, none⟩ = some (.pointer (some ⟨T, 0, none⟩)) from ⟨hp, hq, hcx⟩)
  have HK1 := Lib.hid (fun (W : World) (h2 : Below wx.heap.size wx W) => (⟨(h2.cell (p := ⟨w.heap.size, 0, none⟩) (by show w.heap.size < _; omega)).trans hp, (h2.cell (p := ⟨w.heap.size + 1, 0, none⟩) (by show w.heap.size + 1 < _; omega)).trans hq, (h2.cell (p := ⟨L, 1, none⟩) (by show L < _; omega)).trans hcx⟩ : W.cell? ⟨w.heap.size, 0, none⟩ = some (.pointer (some ⟨L, 0, none⟩)) ∧ W.cell? ⟨w.heap.size + 1, 0, none⟩ = some (.int .i64 a) ∧ W.cell? ⟨L, 1, none⟩ = some (.pointer (some ⟨T, 0, none⟩))))
  go_region_held3 (fun W => W.cell? ⟨w.heap.size, 0, none⟩ = some (.pointer (some ⟨L, 0, none⟩)) ∧ W.cell? ⟨w.heap.size + 1, 0, none⟩ = some (.int .i64 a) ∧ W.cell? ⟨L, 1, none⟩ = some (.pointer (some ⟨T, 0, none⟩)))
    (first | exact HK0.out | assumption | exact HK1.out _ hb2)
    (first | (go_at_call 336; refine (owner_any a _ ((HTB.out wx hb).drewN 1) ((HTT.out wx hb).drewN 1) hR).mono ?_; rintro e w2 ⟨rfl, hb2'⟩; have hb2 : Below wx.heap.size wx w2 := ⟨hb2'.os, hb2'.tape, hb2'.output, hb2'.size, hb2'.block⟩; rw [hno]))
  have hS2 : w2.cell? ⟨w.heap.size, 0, none⟩ = some (.pointer (some ⟨L, 0, none⟩)) ∧ w2.cell? ⟨w.heap.size + 1, 0, none⟩ = some (.int .i64 a) ∧ w2.cell? ⟨L, 1, none⟩ = some (.pointer (some ⟨T, 0, none⟩)) := by assumption
  obtain ⟨hp2, hq2, _⟩ := hS2
  have HB2 := Lib.hid (hb.trans (hb2.mono hb.size))
  clear HK0 HK1 hb2' hb2 hb hct hcx hp hq
  have HS2 := Lib.hid (HS.out.later HB2.out)
  go_wp2_with (first
    | (go_at_call 337; refine (put1_in _ HS2.out ha hp2 hq2 hin).mono ?_; rintro e w' ⟨rfl, n, rfl⟩)
    | (go_at_call 283; refine (is_any k _).mono ?_; rintro e w' ⟨rfl, rfl⟩; rw [hi])
    | go_enter Tryz.func310, Tryz.ntmps310)
  go_ret
  exact ⟨rfl, ⟨HB2.out.os, HB2.out.tape, HB2.out.output, HB2.out.size, HB2.out.block⟩⟩

set_option maxRecDepth 100000 in
set_option maxHeartbeats 1000000 in
theorem put_new {L A G T I J cap capS base capT : Nat} {baseL : Nat} {ps : Nat → Option Addr} {cs : Nat → Nat} {rv : Nat → List Nat} {ws sw : List Nat} {ld st : Nat} {c : Cfg} {ks : List Nat} {pt : Option Addr} (w : World) (h : Sit w L A G T I J cap capS baseL ps cs rv ws sw ld st) (ht : TbIs w T base c ks pt capT) (htt : Tabs w) (hR : rightB c.b c.wd c.m c.r c.ce c.lg c.st = true) (a : Nat) (ho : ownB c ks a = true) (ha : a ≤ ws.length) (ha1 : 1 ≤ a) (hst : st < 1000000) (hf : ∀ j, j < 4 → lastN (rv j) ≤ 1048576) (hc : ∀ j, j < 4 → (rv j).length < 1000000) (hin : hasB sw a = false) :
    Calls Tryz.prog 324 #[.pointer (some ⟨L, 0, none⟩), .int .i64 a] w fun e w' => e = .returned (.int .i64 0) ∧
      ∃ p' c', Sit w' L A G T I J cap capS baseL (upd ps (kAt ks (blk c a)) p') (upd cs (kAt ks (blk c a)) c') (upd rv (kAt ks (blk c a)) (rv (kAt ks (blk c a)) ++ [a])) (ws.set (a - 1) (Hdr.lk (lastN (rv (kAt ks (blk c a)))))) (putW sw a) ld (st + 1) ∧ Chg (Own L A G I J ps) w w' ∧
        ∀ j, Own L A G I J (upd ps (kAt ks (blk c a)) p') j → Own L A G I J ps j ∨ w.heap.size ≤ j := by
  have hct := h.ls.ct
  have hL := h.ls.lt
  have hno := ownV_yes ho
  have hn1 : L ≠ w.heap.size := by omega
  have hn2 : L ≠ w.heap.size + 1 := by omega
  have HTT := Lib.hid (fun (W : World) (hb : Below w.heap.size w W) => htt.later hb)
  have HTB := Lib.hid (fun (W : World) (hb : Below w.heap.size w W) => ht.later hb)
  have hk4 : kAt ks (blk c a) < 4 := ht.kLt _
  have HS := Lib.hid h
  clear h ht htt
  obtain ⟨k, hke⟩ : ∃ k, k = kAt ks (blk c a) := ⟨_, rfl⟩
  rw [← hke] at hk4 hno ⊢
  clear hke
  have hi := isB_true.2 ⟨Int.natCast_nonneg k, by omega⟩
  have i1 : (0 : Int) ≤ (k : Int) := Int.natCast_nonneg _
  have i2 : (k : Int) < 4 := by omega
  go_enter Tryz.func324, Tryz.ntmps324
  go_wp2
  obtain ⟨wx, hwx⟩ : ∃ wx, wx = (w.alloc (.cells #[.pointer (some ⟨L, 0, none⟩)] 151)).alloc (.cells #[.int .i64 a] 3) := ⟨_, rfl⟩
  rw [← hwx]
  have hb : Below w.heap.size w wx := by rw [hwx]; exact two_new ..
  have hp : wx.cell? ⟨w.heap.size, 0, none⟩ = some (.pointer (some ⟨L, 0, none⟩)) := by rw [hwx]; simp
  have hq : wx.cell? ⟨w.heap.size + 1, 0, none⟩ = some (.int .i64 a) := by rw [hwx]; simp
  have hcx : wx.cell? ⟨L, 1, none⟩ = some (.pointer (some ⟨T, 0, none⟩)) := (hb.cell (p := ⟨L, 1, none⟩) hL).trans hct
  have hsz : wx.heap.size = w.heap.size + 2 := by rw [hwx]; simp
  clear hwx
  have HK0 := Lib.hid (show wx.drew.cell? ⟨w.heap.size, 0, none⟩ = some (.pointer (some ⟨L, 0, none⟩)) ∧ wx.drew.cell? ⟨w.heap.size + 1, 0, none⟩ = some (.int .i64 a) ∧ wx.drew.cell? ⟨L, 1, none⟩ = some (.pointer (some ⟨T, 0, none⟩)) from ⟨hp, hq, hcx⟩)
  have HK1 := Lib.hid (fun (W : World) (h2 : Below wx.heap.size wx W) => (⟨(h2.cell (p := ⟨w.heap.size, 0, none⟩) (by show w.heap.size < _; omega)).trans hp, (h2.cell (p := ⟨w.heap.size + 1, 0, none⟩) (by show w.heap.size + 1 < _; omega)).trans hq, (h2.cell (p := ⟨L, 1, none⟩) (by show L < _; omega)).trans hcx⟩ : W.cell? ⟨w.heap.size, 0, none⟩ = some (.pointer (some ⟨L, 0, none⟩)) ∧ W.cell? ⟨w.heap.size + 1, 0, none⟩ = some (.int .i64 a) ∧ W.cell? ⟨L, 1, none⟩ = some (.pointer (some ⟨T, 0, none⟩))))
  go_region_held3 (fun W => W.cell? ⟨w.heap.size, 0, none⟩ = some (.pointer (some ⟨L, 0, none⟩)) ∧ W.cell? ⟨w.heap.size + 1, 0, none⟩ = some (.int .i64 a) ∧ W.cell? ⟨L, 1, none⟩ = some (.pointer (some ⟨T, 0, none⟩)))
    (first | exact HK0.out | assumption | exact HK1.out _ hb2)
    (first | (go_at_call 336; refine (owner_any a _ ((HTB.out wx hb).drewN 1) ((HTT.out wx hb).drewN 1) hR).mono ?_; rintro e w2 ⟨rfl, hb2'⟩; have hb2 : Below wx.heap.size wx w2 := ⟨hb2'.os, hb2'.tape, hb2'.output, hb2'.size, hb2'.block⟩; rw [hno]))
  have hS2 : w2.cell? ⟨w.heap.size, 0, none⟩ = some (.pointer (some ⟨L, 0, none⟩)) ∧ w2.cell? ⟨w.heap.size + 1, 0, none⟩ = some (.int .i64 a) ∧ w2.cell? ⟨L, 1, none⟩ = some (.pointer (some ⟨T, 0, none⟩)) := by assumption
  obtain ⟨hp2, hq2, _⟩ := hS2
  have HB2 := Lib.hid (hb.trans (hb2.mono hb.size))
  clear HK0 HK1 hb2' hb2 hb hct hcx hp hq
  have HO := Lib.hid (show ∀ j, w.heap.size ≤ j → ¬ Own L A G I J ps j from fun j hj ho => by have := HS.out.ltO ho; omega)
  have HS2 := Lib.hid (HS.out.later HB2.out)
  go_wp2_with (first
    | (go_at_call 337; refine (put1_out _ HS2.out hk4 ha ha1 hst (hf _ hk4) (hc _ hk4) (HO.out _ (Nat.le_refl _)) (HO.out _ (Nat.le_succ _)) hp2 hq2 hin).mono ?_; rintro e w3 ⟨rfl, p', c', hT3, hC3, hR3⟩)
    | (go_at_call 283; refine (is_any k _).mono ?_; rintro e w' ⟨rfl, rfl⟩; rw [hi])
    | go_enter Tryz.func310, Tryz.ntmps310)
  go_ret
  exact ⟨rfl, p', c', hT3, own_trans (Chg.of_below HB2.out) hC3, fun j hj => (hR3 j hj).imp id (fun h => Nat.le_trans HB2.out.size h)⟩
end Go.Proofs.YtipifkgmhgkleaaGreatDoor.Lis

namespace Go.Proofs.YtipifkgmhgkleaaGreatDoor.Lis
open Go.RowKit
open Class (isB isB_true isB_false is_any)
open Blk (ret_int ret_bool rowB cellsK owns_block owns_lt owns_cell other same cell_of_block frozen_of_block)
open Go.Proofs.YtipifkgmhgkleaaGreatDoor.Row (Chg)
open Arena (ArIs Two)
open Bits (SetIs)

theorem take1_none {L A G T I J cap capS base : Nat} {ps : Nat → Option Addr} {cs : Nat → Nat} {rv : Nat → List Nat} {ws sw : List Nat} {ld st : Nat} (w : World) (h : Sit w L A G T I J cap capS base ps cs rv ws sw ld st) {k : Nat} (hk : k < 4) (h0 : rv k = []) (u v : Value) :
    Calls Tryz.prog 311 #[.pointer (some ⟨L, 3 + k, none⟩), u, v] w fun e w' => e = .returned (.int .i64 12) ∧ w = w' := by
  have hcv := h.ls.cv k hk
  rw [h0, List.length_nil] at hcv
  clear h
  go_enter Tryz.func311, Tryz.ntmps311
  go_wp2
  go_ret
  exact ⟨rfl, rfl⟩

/-- Less of a list's row. -/
theorem take_row {w : World} {base cap n m : Nat} {g : Addr} {l : List Nat} {a : Nat} (h : w.ownsRow base 3 1 (.slice (some g) n cap) n (cellsK (l ++ [a]))) (hn : n = l.length + 1) (hm : m = l.length) :
    w.ownsRow base 3 1 (.slice (some g) m cap) m (cellsK l) := by
  subst hm hn
  have h2 := Row.owns_less h (Nat.le_succ l.length)
  have e : (cellsK (l ++ [a])).take l.length = cellsK l := by simp [cellsK]
  rw [e] at h2
  exact h2

set_option maxRecDepth 100000 in
set_option maxHeartbeats 2000000 in
theorem take1_out {L A G T I J cap capS base : Nat} {ps : Nat → Option Addr} {cs : Nat → Nat} {rv : Nat → List Nat} {ws sw : List Nat} {ld st : Nat} {l : List Nat} (w : World) (h : Sit w L A G T I J cap capS base ps cs rv ws sw ld st) {k a p q : Nat} {u : Value} (hk : k < 4) (hfa : rv k = l ++ [a]) (ha : a ≤ ws.length)
    (hlp : ¬ Own L A G I J ps p) (hlq : ¬ Own L A G I J ps q) (hpq : p ≠ q)
    (hp : w.cell? ⟨p, 0, none⟩ = some (.pointer (some ⟨L, 0, none⟩))) (hq : w.cell? ⟨q, 0, none⟩ = some u) (hqf : w.frozen? ⟨q, 0, none⟩ = false) (hin : hasB sw a = true) :
    Calls Tryz.prog 311 #[.pointer (some ⟨L, 3 + k, none⟩), .pointer (some ⟨q, 0, none⟩), .pointer (some ⟨p, 0, none⟩)] w fun e w' => e = .returned (.int .i64 0) ∧
      ∃ p' c', Sit w' L A G T I J cap capS base (upd ps k p') (upd cs k c') (upd rv k l) ws (putW sw a) ld st ∧ w'.cell? ⟨q, 0, none⟩ = some (.int .i64 a) ∧ Chg (fun j => Own L A G I J ps j ∨ j = q) w w' ∧ ∀ j, Own L A G I J (upd ps k p') j → Own L A G I J ps j ∨ w.heap.size ≤ j := by
  have hcv := h.ls.cv k hk
  have hfr := front_any (rv k) w (by have := h.ls.len k hk; omega) (h.ls.own k hk)
  have hll := h.ls.len k hk
  have hlen : (rv k).length = l.length + 1 := by rw [hfa]; simp
  have hsome : ∃ g, ps k = some g ∧ (rv k).length ≤ cs k := by
    obtain ⟨_, ⟨_, h2⟩ | ⟨g, c, cur, e1, e2, e3, e4, r⟩⟩ := h.ls.own k hk
    · omega
    · simp only [Value.slice.injEq] at e1
      exact ⟨_, e1.1, by omega⟩
  obtain ⟨g, hg, hcap⟩ := hsome
  rw [hfa, lastN_snoc, ← hfa] at hfr
  rw [hlen] at hcv hfr hcap hll
  have hpl : p < w.heap.size := World.block_lt_of_cell? w _ hp
  have hql : q < w.heap.size := World.block_lt_of_cell? w _ hq
  have hLq : L ≠ q := fun e => hlq (.inl e.symm)
  have hC1 : Chg (fun j => j = q) w (w.setCell ⟨q, 0, none⟩ (.int .i64 a)) := Chg.set (S := fun j => j = q) (Chg.refl _ w) (.inl rfl) _
  have HT1 := Lib.hid (h.chg hC1 (fun j hj e => hlq (e ▸ hj)))
  have hp1 : (w.setCell ⟨q, 0, none⟩ (.int .i64 a)).cell? ⟨p, 0, none⟩ = some (.pointer (some ⟨L, 0, none⟩)) := by rw [other (by first | (simp; done) | (simp; omega))]; exact hp
  have hq1 : (w.setCell ⟨q, 0, none⟩ (.int .i64 a)).cell? ⟨q, 0, none⟩ = some (.int .i64 a) := same hq
  have HC1 := Lib.hid (hC1.mono (T := fun j => Own L A G I J ps j ∨ j = q) fun _ e => .inr e)
  have HFR := Lib.hid hfr
  have HFA := Lib.hid hfa
  have HLEN := Lib.hid hlen
  have HG := Lib.hid hg
  clear h hC1 hfr hfa hlen hg
  go_enter Tryz.func311, Tryz.ntmps311
  go_wp2_with (go_at_call 312; refine HFR.out.mono ?_; rintro e w' ⟨rfl, rfl⟩)
  generalize w.setCell ⟨q, 0, none⟩ (.int .i64 a) = w1 at *
  have hci1 := HT1.out.ls.ci
  have HK0 := Lib.hid (show w1.drew.cell? ⟨p, 0, none⟩ = some (.pointer (some ⟨L, 0, none⟩)) ∧ w1.drew.cell? ⟨q, 0, none⟩ = some (.int .i64 a) ∧ w1.drew.cell? ⟨L, 2, none⟩ = some (.pointer (some ⟨I, 0, none⟩)) from ⟨hp1, hq1, hci1⟩)
  have HK4 := Lib.hid (fun (W : World) (h2 : ∀ j, j ≠ J → W.heap[j]? = (w1.drewN 1).heap[j]?) => (⟨(cell_of_block (a := ⟨p, 0, none⟩) (h2 p (fun e => hlp (.inr (.inr (.inr (.inr (.inl e)))))))).trans hp1, (cell_of_block (a := ⟨q, 0, none⟩) (h2 q (fun e => hlq (.inr (.inr (.inr (.inr (.inl e)))))))).trans hq1, (cell_of_block (a := ⟨L, 2, none⟩) (h2 L HT1.out.five.lj)).trans hci1⟩ : W.cell? ⟨p, 0, none⟩ = some (.pointer (some ⟨L, 0, none⟩)) ∧ W.cell? ⟨q, 0, none⟩ = some (.int .i64 a) ∧ W.cell? ⟨L, 2, none⟩ = some (.pointer (some ⟨I, 0, none⟩))))
  go_region_held3 (fun W => W.cell? ⟨p, 0, none⟩ = some (.pointer (some ⟨L, 0, none⟩)) ∧ W.cell? ⟨q, 0, none⟩ = some (.int .i64 a) ∧ W.cell? ⟨L, 2, none⟩ = some (.pointer (some ⟨I, 0, none⟩)))
    (first | exact HK0.out | assumption | exact HK4.out _ h24)
    (first | (go_at_call 309; refine (in_sit _ (HT1.out.drewN _) a false ha (by rw [hin]; rfl)).mono ?_; rintro e w4 ⟨rfl, hT4, hg4, h24⟩))
  have hS4 : w4.cell? ⟨p, 0, none⟩ = some (.pointer (some ⟨L, 0, none⟩)) ∧ w4.cell? ⟨q, 0, none⟩ = some (.int .i64 a) ∧ w4.cell? ⟨L, 2, none⟩ = some (.pointer (some ⟨I, 0, none⟩)) := by assumption
  obtain ⟨hp4, hq4, _⟩ := hS4
  clear HK0 HK4
  have hcv4 := hT4.ls.cv k hk
  have hfv4 := hT4.ls.fv k hk
  rw [HLEN.out, HG.out] at hcv4
  have HF := Lib.hid (hT4.lay hk (p' := some g) (c' := cs k) (l := l) (by omega) (Chg.refl _ w4) (take_row (a := a) (by have := hT4.ls.own k hk; rw [HG.out, HFA.out] at this; exact this) (by simp) rfl) (fun j hj => by rw [HG.out]; exact .inl hj))
  have HC4 := Lib.hid (own_trans (HC1.out.drewN 1) (hg4.mono (T := fun j => Own L A G I J ps j ∨ j = q) fun _ e => .inl e))
  clear hT4 hg4 h24 hq1 hp1 hci1 HFR HT1
  rw [HG.out]
  generalize hm : l.length = m at *
  have hlast : ((m + 1 : Nat) : Int) - 1 = m := by omega
  have i1 : (0 : Int) ≤ (m : Int) := Int.natCast_nonneg _
  go_wp2_with fail
  go_region
  all_goals go_wp2
  all_goals go_ret
  all_goals exact ⟨rfl, some g, cs k, HF.out.1.drewN 1, (other (by first | (simp; done) | (simp; omega))).trans hq4, (own_trans HC4.out (HF.out.2.1.mono (T := fun j => Own L A G I J ps j ∨ j = q) fun _ e => .inl e)).drewN 1, fun j hj => (HF.out.2.2.1 j hj).imp id (fun h => by have := HC4.out.size; omega)⟩

theorem two_new' {w : World} (u v : Value) (s t : TypeId) : Below w.heap.size w ((w.alloc (.cells #[u] s)).alloc (.cells #[v] t)) := ((Below.refl _ _).alloc (Nat.le_refl _) _).alloc (by simp) _
set_option maxRecDepth 100000 in
set_option maxHeartbeats 1000000 in
theorem take_none {L A G T I J cap capS base : Nat} {ps : Nat → Option Addr} {cs : Nat → Nat} {rv : Nat → List Nat} {ws sw : List Nat} {ld st : Nat} (w : World) (h : Sit w L A G T I J cap capS base ps cs rv ws sw ld st) (k : Nat) (hk : k < 4) (h0 : rv k = []) :
    Calls Tryz.prog 284 #[.pointer (some ⟨L, 0, none⟩), .int .i64 k] w fun e w' => e = .returned (.tuple #[.int .i64 0, .int .i64 12]) ∧ Below w.heap.size w w' := by
  have hi := isB_true.2 ⟨Int.natCast_nonneg k, by omega⟩
  have i1 : (0 : Int) ≤ (k : Int) := Int.natCast_nonneg _
  have i2 : (k : Int) < 4 := by omega
  have HS := Lib.hid h
  have H0 := Lib.hid h0
  clear h h0
  go_enter Tryz.func284, Tryz.ntmps284
  go_wp2_with (first
    | (go_at_call 311; refine (take1_none _ (HS.out.later (two_new' ..)) hk H0.out _ _).mono ?_; rintro e w' ⟨rfl, rfl⟩)
    | (go_at_call 283; refine (is_any k _).mono ?_; rintro e w' ⟨rfl, rfl⟩; rw [hi])
    | go_enter Tryz.func310, Tryz.ntmps310)
  go_ret2
  exact ⟨rfl, two_new' ..⟩
set_option maxRecDepth 100000 in
set_option maxHeartbeats 1000000 in
theorem take_good {L A G T I J cap capS base : Nat} {ps : Nat → Option Addr} {cs : Nat → Nat} {rv : Nat → List Nat} {ws sw : List Nat} {ld st : Nat} {l : List Nat} (w : World) (h : Sit w L A G T I J cap capS base ps cs rv ws sw ld st) (k a : Nat) (hk : k < 4) (hfa : rv k = l ++ [a]) (ha : a ≤ ws.length) (hin : hasB sw a = true) :
    Calls Tryz.prog 284 #[.pointer (some ⟨L, 0, none⟩), .int .i64 k] w fun e w' => e = .returned (.tuple #[.int .i64 a, .int .i64 0]) ∧
      ∃ p' c', Sit w' L A G T I J cap capS base (upd ps k p') (upd cs k c') (upd rv k l) ws (putW sw a) ld st ∧ Chg (Own L A G I J ps) w w' ∧ ∀ j, Own L A G I J (upd ps k p') j → Own L A G I J ps j ∨ w.heap.size ≤ j := by
  have hi := isB_true.2 ⟨Int.natCast_nonneg k, by omega⟩
  have i1 : (0 : Int) ≤ (k : Int) := Int.natCast_nonneg _
  have i2 : (k : Int) < 4 := by omega
  have HS := Lib.hid h
  have HFA := Lib.hid hfa
  have HIN := Lib.hid hin
  have HO := Lib.hid (show ∀ j, w.heap.size ≤ j → ¬ Own L A G I J ps j from fun j hj ho => by have := HS.out.ltO ho; omega)
  clear h hfa hin
  go_enter Tryz.func284, Tryz.ntmps284
  go_wp2_with (first
    | (go_at_call 311; refine (take1_out _ (HS.out.later (two_new' ..)) (u := .int .i64 0) hk HFA.out ha (HO.out _ (by omega)) (HO.out _ (by omega)) (by omega) (by simp) (by simp) (by simp) HIN.out).mono ?_; rintro e w3 ⟨rfl, p3, c3, hT3, hq3, hC3, hR3⟩)
    | (go_at_call 283; refine (is_any k _).mono ?_; rintro e w' ⟨rfl, rfl⟩; rw [hi])
    | go_enter Tryz.func310, Tryz.ntmps310)
  go_ret2
  have hB := two_new' (w := w) (.pointer (some ⟨L, 0, none⟩)) (.int .i64 0) 151 3
  exact ⟨rfl, _, _, hT3, ⟨hC3.os.trans hB.os, hC3.tape.trans hB.tape, hC3.output.trans hB.output, Nat.le_trans hB.size hC3.size, fun i hi hn => (hC3.block i (Nat.lt_of_lt_of_le hi hB.size) (fun e => e.elim hn (fun e => by omega))).trans (hB.block i hi)⟩, fun j hj => (hR3 j hj).imp id (fun h => Nat.le_trans hB.size h)⟩
end Go.Proofs.YtipifkgmhgkleaaGreatDoor.Lis

namespace Go.Proofs.YtipifkgmhgkleaaGreatDoor.Lis
open Go.RowKit

/-- A list's slots, one linked to the next. -/
def Chain (ws : List Nat) : Nat → List Nat → Prop
  | f, [] => f = 0
  | f, a :: l => f = a ∧ 1 ≤ a ∧ a ≤ ws.length ∧ Hdr.isLk (Arena.wd ws (a - 1)) = true ∧ Chain ws (Hdr.nx (Arena.wd ws (a - 1))) l
theorem Chain.bd {ws : List Nat} : ∀ {l : List Nat} {f : Nat}, Chain ws f l → ∀ a ∈ l, 1 ≤ a ∧ a ≤ ws.length
  | [], _, _, a, h => absurd h (by simp)
  | b :: l, _, h, a, hm => by
    rcases List.mem_cons.1 hm with e | e
    · rw [e]; exact ⟨h.2.1, h.2.2.1⟩
    · exact Chain.bd h.2.2.2.2 a e
theorem Chain.set {ws : List Nat} {a v : Nat} (ha : 1 ≤ a) : ∀ {l : List Nat} {f : Nat}, Chain ws f l → a ∉ l → Chain (ws.set (a - 1) v) f l
  | [], _, h, _ => h
  | b :: l, f, h, hn => by
    obtain ⟨h1, h2, h3, h5, h4⟩ := h
    have hne : a ≠ b := fun e => hn (by rw [e]; exact List.mem_cons_self ..)
    have hw : Arena.wd (ws.set (a - 1) v) (b - 1) = Arena.wd ws (b - 1) := by rw [Arena.wd_set, if_neg (fun e => by omega)]
    refine ⟨h1, h2, by rw [List.length_set]; exact h3, by rw [hw]; exact h5, ?_⟩
    rw [hw]
    exact Chain.set ha h4 (fun e => hn (List.mem_cons_of_mem _ e))
theorem Chain.first {ws : List Nat} {f : Nat} {l : List Nat} (h : Chain ws f l) : f = l.headD 0 := by
  cases l with
  | nil => exact h
  | cons a l => exact h.1

/-- What four lists have. -/
structure Held (ws sw : List Nat) (hv : Nat → List Nat) : Prop where
  chain : ∀ k, k < 4 → Chain ws ((hv k).headD 0) (hv k)
  isIn : ∀ a, a ≤ ws.length → (hasB sw a = true ↔ ∃ k, k < 4 ∧ a ∈ hv k)
  once : ∀ k, k < 4 → (hv k).Nodup
  apart : ∀ k j a, k < 4 → j < 4 → a ∈ hv k → a ∈ hv j → k = j
  word : ∀ j, Arena.wd ws j < 18446744073709551616
theorem Held.start (n m : Nat) (hm : m = (n + 1 + 63) / 64) : Held (List.replicate n 0) (List.replicate m 0) (fun _ => []) := by
  subst hm
  refine ⟨fun k _ => rfl, fun a _ => ?_, fun k _ => List.nodup_nil, fun k j a _ _ h _ => absurd h (by simp), fun j => by rw [Arena.wd_zero]; decide⟩
  rw [hasB_zero (n + 1) a]
  simp
theorem Held.head_le {ws sw : List Nat} {hv : Nat → List Nat} (h : Held ws sw hv) {k : Nat} (hk : k < 4) : (hv k).headD 0 ≤ ws.length := by
  have hc := h.chain k hk
  cases e : hv k with
  | nil => simp
  | cons a l => rw [e] at hc; exact hc.2.2.1

theorem Held.put {ws sw : List Nat} {hv : Nat → List Nat} (h : Held ws sw hv) (hs : SetW (ws.length + 1) sw) {k a : Nat} (hk : k < 4) (ha1 : 1 ≤ a) (ha : a ≤ ws.length) (hf : (hv k).headD 0 ≤ 1048576) (hin : hasB sw a = false) :
    Held (ws.set (a - 1) (Hdr.lk ((hv k).headD 0))) (putW sw a) (upd hv k (a :: hv k)) := by
  have hno : ∀ j, j < 4 → a ∉ hv j := fun j hj hm => by
    have := (h.isIn a ha).2 ⟨j, hj, hm⟩
    rw [hin] at this
    cases this
  refine ⟨fun j hj => ?_, fun b hb => ?_, fun j hj => ?_, fun j i b hj hi hbj hbi => ?_, fun j => ?_⟩
  · by_cases e : j = k
    · subst e
      rw [upd_same]
      have hw : Arena.wd (ws.set (a - 1) (Hdr.lk ((hv j).headD 0))) (a - 1) = Hdr.lk ((hv j).headD 0) := by rw [Arena.wd_set, if_pos ⟨rfl, by omega⟩]
      refine ⟨rfl, ha1, by rw [List.length_set]; exact ha, by rw [hw]; exact (Hdr.isLk_lk hf).1, ?_⟩
      rw [hw, (Hdr.isLk_lk hf).2]
      exact (h.chain j hj).set ha1 (hno j hj)
    · rw [upd_other _ _ e]
      exact (h.chain j hj).set ha1 (hno j hj)
  · rw [List.length_set] at hb
    rw [hs.has_put (by omega)]
    by_cases e : b = a
    · rw [if_pos e, hin]
      exact ⟨fun _ => ⟨k, hk, by rw [upd_same, e]; exact List.mem_cons_self ..⟩, fun _ => rfl⟩
    · rw [if_neg e, h.isIn b hb]
      constructor
      · rintro ⟨j, hj, hm⟩
        refine ⟨j, hj, ?_⟩
        by_cases e2 : j = k
        · subst e2; rw [upd_same]; exact List.mem_cons_of_mem _ hm
        · rw [upd_other _ _ e2]; exact hm
      · rintro ⟨j, hj, hm⟩
        refine ⟨j, hj, ?_⟩
        by_cases e2 : j = k
        · subst e2; rw [upd_same] at hm; exact (List.mem_cons.1 hm).resolve_left e
        · rw [upd_other _ _ e2] at hm; exact hm
  · by_cases e : j = k
    · subst e; rw [upd_same]; exact List.nodup_cons.2 ⟨hno j hj, h.once j hj⟩
    · rw [upd_other _ _ e]; exact h.once j hj
  · by_cases e1 : j = k
    · by_cases e2 : i = k
      · rw [e1, e2]
      · subst e1
        rw [upd_same] at hbj
        rw [upd_other _ _ e2] at hbi
        rcases List.mem_cons.1 hbj with e | e
        · exact absurd hbi (by rw [e]; exact hno i hi)
        · exact h.apart j i b hj hi e hbi
    · rw [upd_other _ _ e1] at hbj
      by_cases e2 : i = k
      · subst e2
        rw [upd_same] at hbi
        rcases List.mem_cons.1 hbi with e | e
        · exact absurd hbj (by rw [e]; exact hno j hj)
        · exact h.apart j i b hj hi hbj e
      · rw [upd_other _ _ e2] at hbi
        exact h.apart j i b hj hi hbj hbi
  · rw [Arena.wd_set]
    split
    · exact Hdr.lk_lt hf
    · exact h.word j

theorem Held.take {ws sw : List Nat} {hv : Nat → List Nat} (h : Held ws sw hv) (hs : SetW (ws.length + 1) sw) {k a : Nat} {l : List Nat} (hk : k < 4) (he : hv k = a :: l) :
    1 ≤ a ∧ a ≤ ws.length ∧ hasB sw a = true ∧ Held ws (putW sw a) (upd hv k l) := by
  have hc := h.chain k hk
  rw [he] at hc
  obtain ⟨c1, c2, c3, _, c4⟩ := hc
  have hon := h.once k hk
  rw [he] at hon
  obtain ⟨hnl, hnd⟩ := List.nodup_cons.1 hon
  have hin : hasB sw a = true := (h.isIn a c3).2 ⟨k, hk, by rw [he]; exact List.mem_cons_self ..⟩
  have hsub : ∀ b j, b ∈ upd hv k l j → b ∈ hv j := fun b j hb => by
    by_cases e : j = k
    · subst e; rw [upd_same] at hb; rw [he]; exact List.mem_cons_of_mem _ hb
    · rw [upd_other _ _ e] at hb; exact hb
  refine ⟨c2, c3, hin, fun j hj => ?_, fun b hb => ?_, fun j hj => ?_, fun j i b hj hi hbj hbi => h.apart j i b hj hi (hsub b j hbj) (hsub b i hbi), h.word⟩
  · by_cases e : j = k
    · subst e; rw [upd_same]; rw [c4.first] at c4; exact c4
    · rw [upd_other _ _ e]; exact h.chain j hj
  · rw [hs.has_put (by omega)]
    by_cases e : b = a
    · rw [if_pos e, hin]
      refine ⟨fun x => by simp at x, ?_⟩
      rintro ⟨j, hj, hm⟩
      by_cases e2 : j = k
      · subst e2; rw [upd_same, e] at hm; exact absurd hm hnl
      · have := h.apart j k b hj hk (hsub b j hm) (by rw [he, e]; exact List.mem_cons_self ..)
        exact absurd this e2
    · rw [if_neg e, h.isIn b hb]
      constructor
      · rintro ⟨j, hj, hm⟩
        refine ⟨j, hj, ?_⟩
        by_cases e2 : j = k
        · subst e2; rw [upd_same]; rw [he] at hm; exact (List.mem_cons.1 hm).resolve_left e
        · rw [upd_other _ _ e2]; exact hm
      · rintro ⟨j, hj, hm⟩
        exact ⟨j, hj, hsub b j hm⟩
  · by_cases e : j = k
    · subst e; rw [upd_same]; exact hnd
    · rw [upd_other _ _ e]; exact h.once j hj
end Go.Proofs.YtipifkgmhgkleaaGreatDoor.Lis

namespace Go.Proofs.YtipifkgmhgkleaaGreatDoor.Lis
open Go.RowKit
open Class (isB isB_true isB_false is_any)
open Blk (Cfg TbIs ownB ownB_true blk kAt)
open Go.Proofs.YtipifkgmhgkleaaGreatDoor.Row (Chg)
open Go.Proofs.YtipifkgmhgkleaaGreatDoor.Addr (Tabs adrB_true)

theorem lastN_rev (l : List Nat) : lastN l.reverse = l.headD 0 := by cases l <;> simp [lastN]
theorem rev_upd (hv : Nat → List Nat) (k : Nat) (l : List Nat) : upd (fun j => (hv j).reverse) k l.reverse = fun j => (upd hv k l j).reverse := by
  funext j
  by_cases e : j = k
  · subst e; rw [upd_same, upd_same]
  · rw [upd_other _ _ e, upd_other _ _ e]
/-- Lists, with what each has; m: how often there was put and taken at most. -/
def HasL (w : World) (L A G T I J n base : Nat) (ps : Nat → Option Addr) (hv : Nat → List Nat) (m : Nat) : Prop :=
  ∃ (cap capS : Nat) (cs : Nat → Nat) (ws sw : List Nat) (ld st : Nat), Sit w L A G T I J cap capS base ps cs (fun k => (hv k).reverse) ws sw ld st ∧ Held ws sw hv ∧ ws.length = n ∧ n ≤ 1048576 ∧ ld ≤ m ∧ st ≤ m ∧ ∀ k, k < 4 → (hv k).length ≤ m
section
variable {w w' : World} {L A G T I J n base m : Nat} {ps : Nat → Option Addr} {hv : Nat → List Nat}
theorem HasL.kept (h : HasL w L A G T I J n base ps hv m) (hk : ∀ k, Own L A G I J ps k → w'.heap[k]? = w.heap[k]?) (hs : w.heap.size ≤ w'.heap.size) : HasL w' L A G T I J n base ps hv m := by
  obtain ⟨cap, capS, cs, ws, sw, ld, st, h1, h2⟩ := h
  exact ⟨cap, capS, cs, ws, sw, ld, st, h1.kept hk hs, h2⟩
theorem HasL.lt (h : HasL w L A G T I J n base ps hv m) {k : Nat} (hk : Own L A G I J ps k) : k < w.heap.size := by
  obtain ⟨cap, capS, cs, ws, sw, ld, st, h1, h2⟩ := h
  exact h1.ltO hk
theorem HasL.later (h : HasL w L A G T I J n base ps hv m) (hb : Below w.heap.size w w') : HasL w' L A G T I J n base ps hv m := h.kept (fun k hk => hb.block k (h.lt hk)) hb.size
theorem HasL.chg {S : Nat → Prop} (h : HasL w L A G T I J n base ps hv m) (hc : Chg S w w') (hS : ∀ k, Own L A G I J ps k → ¬ S k) : HasL w' L A G T I J n base ps hv m := h.kept (fun k hk => hc.block k (h.lt hk) (hS k hk)) hc.size
theorem HasL.drewN (h : HasL w L A G T I J n base ps hv m) (q : Nat) : HasL (w.drewN q) L A G T I J n base ps hv m := h.kept (fun _ _ => rfl) (Nat.le_refl _)
end

end Go.Proofs.YtipifkgmhgkleaaGreatDoor.Lis
