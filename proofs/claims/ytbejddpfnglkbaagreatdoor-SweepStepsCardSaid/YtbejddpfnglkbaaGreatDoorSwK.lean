/-
  A heap and the document's, above what lay; the law SweepBlocks answers true.
-/
import Derived.Test.YtbejddpfnglkbaaGreatDoorSwJ
import Derived.Test.YtbejddpfnglkbaaGreatDoorRfZ
namespace Go.Proofs.YtbejddpfnglkbaaGreatDoor.Sw
open Go.RowKit
open Blk (Cfg TbIs kAt seg seg_length perN allP allP_succ allP_len blk adr little little_any little_right)
open Hp (Ids St Wf Is To Mine bnI bn coE coV frE frS colB holdsF own cls fr puS unS mkE mkS mkA st0)
open Rf (Rp RTo Pu Ri Sl All Bo Lo Keep mkW)
open Go.Proofs.YtbejddpfnglkbaaGreatDoor.Row (Chg Rd Rd0 cell_of_block frozen_of_block other same rowB cellsZ cellsZ_length cellsZ_at cellsZ_snoc owns_lt owns_chg owns_slice owns_base owns_cap owns_block push_row info_parts infoInt one_at)
open Go.Proofs.YtbejddpfnglkbaaGreatDoor.Addr (Tabs)

/-- Both, above what lay. -/
structure Lw (w wr : World) (H M base : Nat) (d : Ids) (i : Ri) (s r : St) (m : Nat) : Prop where
  bo : Bo wr H d M base i wr d s m i r
  bel : Below w.heap.size w wr
  g1 : ∀ k, Mine H d k → w.heap.size ≤ k
  g2 : ∀ k, All M i k → w.heap.size ≤ k
section
variable {w wr w' : World} {H M base m m' : Nat} {d d' : Ids} {i i' : Ri} {s s' r r' : St}
theorem Lw.later (h : Lw w wr H M base d i s r m) (hb : Below wr.heap.size wr w') : Lw w w' H M base d i s r m :=
  ⟨(h.bo.later hb).self, h.bel.trans (hb.mono h.bel.size), h.g1, h.g2⟩
theorem Lw.heap (h : Lw w wr H M base d i s r m) (g1 : Is w' H d' s' m') (g2 : Chg (Mine H d) wr w') (g3 : ∀ j, Mine H d' j → Mine H d j ∨ wr.heap.size ≤ j) : Lw w w' H M base d' i s' r m' := by
  have hs := h.bel.size
  exact ⟨⟨g1, h.bo.rp.chg g2 (fun k e e2 => h.bo.ap k e2 e), fun k e e2 => (g3 k e).elim (fun x => h.bo.ap k x e2) (fun x => by have := h.bo.rp.mem.ltA e2; omega), h.bo.is.tabs g2 h.bo.tb, h.bo.hi, Chg.refl _ _, fun _ e => .inl e, fun _ e => .inl e⟩,
    h.bel.trans (g2.below h.g1 hs), fun k e => (g3 k e).elim (h.g1 k) (fun x => by omega), h.g2⟩
theorem Lw.ref (h : Lw w wr H M base d i s r m) (g1 : Rp w' M base i' r') (g2 : Chg (All M i) wr w') (g3 : ∀ j, All M i' j → All M i j ∨ wr.heap.size ≤ j) : Lw w w' H M base d i' s r' m := by
  have hs := h.bel.size
  have hH := h.bo.is.hi H (.inr (.inl (.inl rfl)))
  have hHl := h.bo.is.ltH
  have hb : Below (max 1 0 + 1) wr w' := g2.below (fun k hk => by have := h.bo.hi k hk; omega) (by omega)
  exact ⟨⟨h.bo.is.chg g2 (fun k e e2 => h.bo.ap k e e2), g1, fun k e e2 => (g3 k e2).elim (fun x => h.bo.ap k e x) (fun x => by have := h.bo.is.lt e; omega), h.bo.tb.below hb (by omega) (by omega), fun k e => (g3 k e).elim (h.bo.hi k) (fun x => by omega), Chg.refl _ _, fun _ e => .inl e, fun _ e => .inl e⟩,
    h.bel.trans (g2.below h.g2 hs), h.g1, fun k e => (g3 k e).elim (h.g2 k) (fun x => by omega)⟩
/-- The same, told of what has turned since w1. -/
theorem Lw.bo' {w1 : World} {d0 : Ids} {i0 : Ri} (h : Lw w w1 H M base d0 i0 s r m) (h2 : Bo w1 H d0 M base i0 w' d' s' m' i' r') : Lw w w' H M base d' i' s' r' m' :=
  ⟨h2.self, h2.below h.bel h.g1 h.g2, fun k e => (h2.inD k e).elim (h.g1 k) (fun x => by have := h.bel.size; omega), fun k e => (h2.inI k e).elim (h.g2 k) (fun x => by have := h.bel.size; omega)⟩
end
theorem Mad.lw {w w1 w2 : World} {H M base m : Nat} {d : Ids} {i : Ri} {s : St} {c : Cfg} (h : Mad w1 w2 H M base d i s m c) (hb : Below w.heap.size w w1) : Lw w w2 H M base d i s s m :=
  ⟨h.bo, hb.trans (h.bel.mono hb.size), fun k e => Nat.le_trans hb.size (h.g1 k e), fun k e => Nat.le_trans hb.size (h.g2 k e)⟩
/-- What always holds of what is made of a small config. -/
structure Sm (s : St) (c : Cfg) : Prop where
  wp : Wp s
  b4 : s.c.b ≤ 4
  b1 : 1 ≤ s.c.b
  all : (allP s.c s.ks s.ks.length).length ≤ 1000
  ks : s.ks.length ≤ 4
theorem Mad.sm {w w2 : World} {H M base m : Nat} {d : Ids} {i : Ri} {s : St} {c : Cfg} (h : Mad w w2 H M base d i s m (little c)) : Sm s c := by
  have hb := Blk.little_b c
  have hwf := h.bo.is.wf
  have hf := hwf.full
  have hc := h.hc
  have hw := hwf.words
  have hwd := (Blk.slots_bd hwf.right).wd1
  have hwd0 := (Blk.slots_bd hwf.right).wd0
  rw [hc] at hf hw hwd hwd0
  have hb1 := hb.1
  have hb4 := hb.2
  have hks : s.ks.length ≤ 4 := by omega
  refine ⟨⟨hwf, Rf.pu_of h.bo.is (by have := h.hm; omega), h.bo.rp.k4, ?_⟩, by rw [hc]; exact hb4, by rw [hc]; exact hb1, ?_, hks⟩
  · have h2 := (Rf.words_wrap hwf).1
    have h3 : (little c).b * (little c).wd ≤ 4 * 256 := Int.mul_le_mul hb4 hwd (by omega) (by omega)
    omega
  · exact Nat.le_trans (allP_len _ _ _) (by omega)
theorem little_ce' (c : Cfg) : ∃ nc : Nat, (little c).ce = (nc : Int) ∧ nc ≤ 3 := Rf.little_ce c
theorem little_n' (c : Cfg) : ∃ n : Nat, (little c).b * (little c).wd = (n : Int) ∧ n ≤ 1048576 := Rf.little_n c
end Go.Proofs.YtbejddpfnglkbaaGreatDoor.Sw
