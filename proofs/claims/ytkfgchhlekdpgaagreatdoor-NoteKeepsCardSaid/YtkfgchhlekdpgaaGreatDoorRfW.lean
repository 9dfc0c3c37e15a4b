/-
  The law HeapParts answers true, for every config and row of deeds.
-/
import Derived.Test.YtkfgchhlekdpgaaGreatDoorRq4
import Derived.Test.YtkfgchhlekdpgaaGreatDoorHq3
namespace Go.Proofs.YtkfgchhlekdpgaaGreatDoor.Rf
open Go.RowKit Go.Sort
open Blk (Cfg BoxIs little little_any little_right box7)
open Hp (St Wf st0 Mine)
open Go.Proofs.YtkfgchhlekdpgaaGreatDoor.Row (Chg)
open Go.Proofs.YtkfgchhlekdpgaaGreatDoor.Addr (Tabs)

theorem little_ce (c : Cfg) : ∃ nc : Nat, (little c).ce = (nc : Int) ∧ nc ≤ 3 := by
  have : (little c).ce = c.ce % 4 := rfl
  exact ⟨(little c).ce.toNat, by omega, by omega⟩
theorem little_n (c : Cfg) : ∃ n : Nat, (little c).b * (little c).wd = (n : Int) ∧ n ≤ 1048576 := by
  obtain ⟨p0, p1⟩ := (Blk.slots_bd (little_right c)).words
  exact ⟨((little c).b * (little c).wd).toNat, by omega, by omega⟩
/-- A row of deeds that came in. -/
def dAt (l : List (Nat × Int × Int × Int)) (j : Nat) : Nat × Int × Int × Int := l.getD j (0, 0, 0, 0)
def DeedsP (S : Nat) (w : World) (p : Option Addr) (l : List (Nat × Int × Int × Int)) : Prop := ∀ j, j < l.length → ∃ b off, p = some ⟨b, off, none⟩ ∧ b < S ∧
  w.cell? ⟨b, off + j * 4, none⟩ = some (.int .u8 (dAt l j).1) ∧ w.cell? ⟨b, off + j * 4 + 1, none⟩ = some (.int .i64 (dAt l j).2.1) ∧ w.cell? ⟨b, off + j * 4 + 2, none⟩ = some (.int .i64 (dAt l j).2.2.1) ∧ w.cell? ⟨b, off + j * 4 + 3, none⟩ = some (.int .i64 (dAt l j).2.2.2)
/-- Both are new. -/
theorem Bo.start {w3 w4 : World} {H M n nc : Nat} {dd : Hp.Ids} {i : Ri} {c : Cfg} (hI : Hp.Is w3 H dd (st0 c n nc) 0) (ht : Tabs w3) (hR : Rp w4 M w3.heap.size i (st0 c n nc)) (hb : Below w3.heap.size w3 w4) (hA : ∀ k, All M i k → w3.heap.size ≤ k) :
    Bo w4 H dd M w3.heap.size i w4 dd (st0 c n nc) 0 i (st0 c n nc) := by
  have hH := hI.hi H (.inr (.inl (.inl rfl)))
  have hHl := hI.ltH
  exact ⟨hI.later hb, hR, fun k e e2 => by have := hI.lt e; have := hA k e2; omega, ht.later hb, fun k e => by have := hA k e; omega, Chg.refl _ _, fun _ e => .inl e, fun _ e => .inl e⟩
theorem Bo.below {w w0 wr : World} {H M base m : Nat} {d0 d : Hp.Ids} {i0 i : Ri} {s r : St} (h : Bo w0 H d0 M base i0 wr d s m i r) (hb : Below w.heap.size w w0) (h1 : ∀ k, Mine H d0 k → w.heap.size ≤ k) (h2 : ∀ k, All M i0 k → w.heap.size ≤ k) : Below w.heap.size w wr :=
  hb.trans (h.chg.below (fun k e => e.elim (h1 k) (h2 k)) hb.size)
/-- While deeds are done. -/
structure Lo (w W0 wr : World) (H : Nat) (d0 : Hp.Ids) (M base : Nat) (i0 : Ri) (dc : Cfg) (n nc : Nat) (d : Hp.Ids) (s : St) (m : Nat) (i : Ri) : Prop where
  bo : Bo W0 H d0 M base i0 wr d s m i s
  hc : s.c = dc
  hn : s.ws.length = n
  hl : s.ce.length = nc
  bel : Below w.heap.size w wr
  g1 : ∀ k, Mine H d0 k → w.heap.size ≤ k
  g2 : ∀ k, All M i0 k → w.heap.size ≤ k
  b0 : Below w.heap.size w W0
theorem Lo.step {w W0 wr w' : World} {H M base n nc m : Nat} {d0 d : Hp.Ids} {i0 i : Ri} {dc : Cfg} {s : St} {e : Ending} (h : Lo w W0 wr H d0 M base i0 dc n nc d s m i) (hD : DoP wr H M base d i s m e w') :
    e = .returned (.bool true) ∧ ∃ d' s' i', Lo w W0 w' H d0 M base i0 dc n nc d' s' (m + 1000) i' := by
  obtain ⟨he, s', d', i', ⟨k1, k2, k3⟩, hB⟩ := hD
  have hB2 := h.bo.trans hB
  exact ⟨he, d', s', i', hB2, k1.trans h.hc, k3.trans h.hn, k2.trans h.hl, hB2.below h.b0 h.g1 h.g2, h.g1, h.g2, h.b0⟩
end Go.Proofs.YtkfgchhlekdpgaaGreatDoor.Rf
