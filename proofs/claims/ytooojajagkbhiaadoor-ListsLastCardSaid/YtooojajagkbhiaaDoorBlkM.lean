/-
  The law BlockSlots answers true, for every config and row of classes.
-/
import Derived.Test.YtooojajagkbhiaaDoorBlkL
namespace Go.Proofs.YtooojajagkbhiaaDoor.Blk
open Go.RowKit Go.Shelf
open Go.Proofs.YtooojajagkbhiaaDoor.Addr (Tabs adrB adrB_true finB finB_true offI)
open Class (isB isB_true sizI perI quiet_left)

/-- The bytes of a row that came in, below S. -/
def BytesP (S : Nat) (W : World) (p : Option Addr) (zs : List Nat) : Prop := ∀ j, j < zs.length → ∃ b off, p = some ⟨b, off, none⟩ ∧ b < S ∧ zs.getD j 0 < 256 ∧ W.cell? ⟨b, off + j, none⟩ = some (.int .u8 ((zs.getD j 0 : Nat) : Int))
theorem BytesP.below {S : Nat} {W W' : World} {p : Option Addr} {zs : List Nat} (h : BytesP S W p zs) (hb : Below S W W') : BytesP S W' p zs := fun j hj => by
  obtain ⟨b, off, e, hb', hz, hc⟩ := h j hj
  exact ⟨b, off, e, hb', hz, (hb.cell (p := ⟨b, off + j, none⟩) hb').trans hc⟩

/-- The first classes, as many as there are blocks. -/
def kL (f : Nat → Nat) (m nb : Nat) : List Nat := (List.range (min m nb)).map f
theorem kL_len (f : Nat → Nat) (m nb : Nat) : (kL f m nb).length = min m nb := by simp [kL]
theorem kL_more (f : Nat → Nat) {m nb : Nat} (h : m < nb) : kL f (m + 1) nb = kL f m nb ++ [f m] := by
  unfold kL
  rw [show min (m + 1) nb = m + 1 from by omega, show min m nb = m from by omega, List.range_succ]
  simp
theorem kL_full (f : Nat → Nat) {m nb : Nat} (h : nb ≤ m) : kL f (m + 1) nb = kL f m nb := by
  unfold kL
  rw [show min (m + 1) nb = nb from by omega, show min m nb = nb from by omega]

/-- A slot's owner is the block whose slot it is. -/
theorem own_adr {c : Cfg} {ks : List Nat} {b i : Nat} (hR : rightB c.b c.wd c.m c.r c.ce c.lg c.st = true) (hb : b < ks.length) (hbb : (b : Int) < c.b) (hk : kAt ks b < 4) (hi : i < perN c (kAt ks b)) :
    ownV c ks (adr c (kAt ks b) b i) = .tuple #[.int .i64 (b : Int), .int .i64 (kAt ks b), .bool true] := by
  have hRC : RightC c.b c.wd c.m c.r c.ce c.lg c.st := refRightB_true.1 ((rightB_ref ..).symm.trans hR)
  have hpi := perN_eq c (kAt ks b)
  obtain ⟨⟨p0, p1⟩, p2, p3, p4, p5⟩ := adr_bd (k := (kAt ks b : Int)) hR hbb (i := i) (by rw [hpi]; exact Int.ofNat_lt.2 hi)
  have hw0 := hRC.wd0
  have e1 : adr c (kAt ks b) b i - 1 = (i : Int) * sizI (kAt ks b) + (b : Int) * c.wd := by unfold adr; omega
  have e2 : (adr c (kAt ks b) b i - 1) / c.wd = (b : Int) := by
    rw [e1, Int.add_mul_ediv_right _ _ (by omega), Int.ediv_eq_zero_of_lt p2 (by omega)]; simp
  have e3 : offI c.wd (adr c (kAt ks b) b i) = (i : Int) * sizI (kAt ks b) := by
    unfold offI
    rw [e1, Int.add_mul_emod_self_right, Int.emod_eq_of_lt p2 (by omega)]
  have hblk : blk c (adr c (kAt ks b) b i) = b := by unfold blk; rw [e2]; simp
  have hmul : ((b : Int) + 1) * c.wd ≤ c.b * c.wd := Int.mul_le_mul_of_nonneg_right (by omega) (by omega)
  have hexp : ((b : Int) + 1) * c.wd = (b : Int) * c.wd + c.wd := by rw [Int.add_mul, Int.one_mul]
  have hA : adrB true c.b c.wd (adr c (kAt ks b) b i) = true := adrB_true.2 ⟨rfl, by omega, by omega⟩
  have hB : isB (kAt ks b : Int) = true := isB_true.2 ⟨by omega, by omega⟩
  have hF : finB true c.b c.wd (kAt ks b) (adr c (kAt ks b) b i) = true := finB_true.2 ⟨hA, hB, by rw [e3, Int.mul_ediv_cancel _ (by omega), hpi]; exact Int.ofNat_lt.2 hi⟩
  rw [ownV_yes (ownB_true.2 ⟨hA, by rw [hblk]; exact hb, by rw [hblk]; exact hF, by rw [hblk, e3, Int.mul_emod_left]⟩), hblk]

theorem adr_step {c : Cfg} {k b i : Nat} (hi : 1 ≤ i) : adr c k b i - adr c k b (i - 1) = sizI k := by
  obtain ⟨j, rfl⟩ : ∃ j, i = j + 1 := ⟨i - 1, by omega⟩
  unfold adr
  rw [Nat.add_sub_cancel, Int.natCast_add, Int.add_mul]
  simp
  omega

theorem slots_bd {c : Cfg} (hR : rightB c.b c.wd c.m c.r c.ce c.lg c.st = true) : RightC c.b c.wd c.m c.r c.ce c.lg c.st := refRightB_true.1 ((rightB_ref ..).symm.trans hR)

end Go.Proofs.YtooojajagkbhiaaDoor.Blk
