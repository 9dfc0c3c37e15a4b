/-
  Texts of the heap, one behind the other: RfQ RfR RfS RfU.
-/
import Derived.Test.YtkfgchhlekdpgaaGreatDoorRq3
import Derived.Test.YtkfgchhlekdpgaaGreatDoorRq2
import Derived.Deep.RegionHeld3
namespace Go.Proofs.YtkfgchhlekdpgaaGreatDoor.Rf
open Go.RowKit Go.Sort
open Blk (Cfg allP kAt valA adr perN perN_eq perN_pos perN_le cellsF seg seg_length allP_succ)
open Class (isB isB_true isB_false sizI sizI_bd roomI roomI_yes quiet_left)
open Lis (intsN upd upd_same upd_other)
open Hp (St Wf own cls wdA bn fr bnI frI bnI_nat frI_nat stS beS baS puS unS frS zr asS handB baE frE beE puE fE fN lE lV sE takB colB mayV mayV_true mkE mkA mkS Mine)
open Go.Proofs.YtkfgchhlekdpgaaGreatDoor.Row (Chg Rd Rd0 rowB rowB_none cell_of_block frozen_of_block other same cellsZ owns_lt owns_cap owns_chg)
open Go.Proofs.YtkfgchhlekdpgaaGreatDoor.Addr (Tabs)

/-- Both, since w1: what each has, where it lies; nothing else has turned. -/
structure Bo (w1 : World) (H : Nat) (d0 : Hp.Ids) (M base : Nat) (i0 : Ri) (w : World) (d : Hp.Ids) (s : St) (m : Nat) (i : Ri) (r : St) : Prop where
  is : Hp.Is w H d s m
  rp : Rp w M base i r
  ap : ∀ k, Mine H d k → ¬ All M i k
  tb : Tabs w
  hi : ∀ k, All M i k → 1 < k ∧ 0 < k
  chg : Chg (fun k => Mine H d0 k ∨ All M i0 k) w1 w
  inD : ∀ k, Mine H d k → Mine H d0 k ∨ w1.heap.size ≤ k
  inI : ∀ k, All M i k → All M i0 k ∨ w1.heap.size ≤ k
section
variable {w1 w w' : World} {H M base m m' : Nat} {d0 d : Hp.Ids} {i0 i : Ri} {s s' r r' : St}
theorem Bo.heap (h : Bo w1 H d0 M base i0 w d s m i r) (hT : Hp.To w w' H d s' m') : ∃ d', Bo w1 H d0 M base i0 w' d' s' m' i r := by
  obtain ⟨d', g1, g2, g3⟩ := hT
  have hs := h.chg.size
  exact ⟨d', g1, h.rp.chg g2 (fun k e e2 => h.ap k e2 e), fun k e e2 => (g3 k e).elim (fun x => h.ap k x e2) (fun x => by have := h.rp.mem.ltA e2; omega), h.is.tabs g2 h.tb, h.hi, h.chg.trans g2 (fun q e => (h.inD q e).imp .inl id), fun k e => (g3 k e).elim (h.inD k) (fun x => .inr (by omega)), h.inI⟩
theorem Bo.ref (h : Bo w1 H d0 M base i0 w d s m i r) (hT : RTo w w' M base i r') : ∃ i', Bo w1 H d0 M base i0 w' d s m i' r' := by
  obtain ⟨i', g1, g2, g3⟩ := hT
  have hs := h.chg.size
  have hH := h.is.hi H (.inr (.inl (.inl rfl)))
  have hHl := h.is.ltH
  have hb : Below (max 1 0 + 1) w w' := g2.below (fun k hk => by have := h.hi k hk; omega) (by omega)
  exact ⟨i', h.is.chg g2 (fun k e e2 => h.ap k e e2), g1, fun k e e2 => (g3 k e2).elim (fun x => h.ap k e x) (fun x => by have := h.is.lt e; omega), h.tb.below hb (by omega) (by omega), fun k e => (g3 k e).elim (h.hi k) (fun x => by omega), h.chg.trans g2 (fun q e => (h.inI q e).imp .inr id), h.inD, fun k e => (g3 k e).elim (h.inI k) (fun x => .inr (by omega))⟩
theorem Bo.later (h : Bo w1 H d0 M base i0 w d s m i r) (hb : Below w.heap.size w w') : Bo w1 H d0 M base i0 w' d s m i r :=
  ⟨h.is.later hb, h.rp.later hb, h.ap, h.tb.later hb, h.hi, h.chg.trans (Chg.of_below (S := fun k => Mine H d0 k ∨ All M i0 k) hb) (fun _ e => .inl e), h.inD, h.inI⟩
theorem Bo.drewN (h : Bo w1 H d0 M base i0 w d s m i r) (n : Nat) : Bo w1 H d0 M base i0 (w.drewN n) d s m i r := h.later (below_drewN (Below.refl _ _) n)
theorem Bo.more (h : Bo w1 H d0 M base i0 w d s m i r) (hm : m ≤ m') : Bo w1 H d0 M base i0 w d s m' i r := { h with is := h.is.more hm }
theorem Bo.self (h : Bo w1 H d0 M base i0 w d s m i r) : Bo w H d M base i w d s m i r := ⟨h.is, h.rp, h.ap, h.tb, h.hi, Chg.refl _ _, fun _ e => .inl e, fun _ e => .inl e⟩
theorem Bo.trans {d' : Hp.Ids} {i' : Ri} (h : Bo w1 H d0 M base i0 w d s m i r) (h2 : Bo w H d M base i w' d' s' m' i' r') : Bo w1 H d0 M base i0 w' d' s' m' i' r' :=
  ⟨h2.is, h2.rp, h2.ap, h2.tb, h2.hi, h.chg.trans h2.chg (fun q e => e.elim (fun e => (h.inD q e).imp .inl id) (fun e => (h.inI q e).imp .inr id)), fun k e => (h2.inD k e).elim (h.inD k) (fun x => .inr (by have := h.chg.size; omega)), fun k e => (h2.inI k e).elim (h.inI k) (fun x => .inr (by have := h.chg.size; omega))⟩
theorem Bo.cell (h : Bo w1 H d0 M base i0 w d s m i r) {p : Addr} (hp : p.block < w1.heap.size) (h1 : ¬ Mine H d0 p.block) (h2 : ¬ All M i0 p.block) : w.cell? p = w1.cell? p := h.chg.cell hp (fun e => e.elim h1 h2)
end
/-- A deed. -/
def deedV (kd : Nat) (a b c : Int) : Value := .agg #[.int .u8 kd, .int .i64 a, .int .i64 b, .int .i64 c]
def Keep (s s' : St) : Prop := s'.c = s.c ∧ s'.ce.length = s.ce.length ∧ s'.ws.length = s.ws.length
/-- What does leaves. -/
def DoP (w : World) (H M base : Nat) (d : Hp.Ids) (i : Ri) (s : St) (m : Nat) (e : Ending) (w' : World) : Prop := e = .returned (.bool true) ∧ ∃ s' d' i', Keep s s' ∧ Bo w H d M base i w' d' s' (m + 1000) i' s'
section
variable {w : World} {H M base m : Nat} {d : Hp.Ids} {i : Ri} {s : St}
theorem Keep.refl (s : St) : Keep s s := ⟨rfl, rfl, rfl⟩
/-- The address that Make tells. -/
def mkW (s : St) (n c : Int) : Int := if mkE s n c = 0 then (mkA s n : Int) else 0
theorem make_all (n c : Int) (w : World) {r : St} (h : Rp w M base i r) (hp : Pu r) :
    Calls Tryz.prog 123 #[.pointer (some ⟨M, 0, none⟩), .int .i64 n, .int .i64 c] w fun e w' => e = .returned (.tuple #[.int .i64 (mkW r n c), .int .i64 (mkE r n c)]) ∧ RTo w w' M base i (if mkE r n c = 0 then mkS r n c else r) := by
  have := make_any n c w h hp
  unfold mkW
  by_cases he : mkE r n c = 0
  · rw [he, if_pos rfl, if_pos rfl] at this
    rw [he, if_pos rfl, if_pos rfl]
    exact this
  · rw [if_neg he, if_neg he] at this
    rw [if_neg he, if_neg he]
    exact this
theorem hmake_any (n c : Int) (w : World) (h : Hp.Is w H d s m) (ht : Tabs w) (hm : m ≤ 500000) : Calls Tryz.prog 62 #[.pointer (some ⟨H, 0, none⟩), .int .i64 n, .int .i64 c] w fun e w' => e = .returned (.tuple #[.int .i64 (mkW s n c), .int .i64 (mkE s n c)]) ∧ Hp.To w w' H d (if mkE s n c = 0 then mkS s n c else s) (m + 160) := by
  unfold mkW
  by_cases he : mkE s n c = 0
  · rw [he, if_pos rfl, if_pos rfl]
    exact Hp.make_good n c w h ht (by omega) he
  · rw [if_neg he, if_neg he]
    exact Hp.make_bad n c w h ht (by omega) he
theorem mkS_keep (s : St) (n c : Int) : Keep s (mkS s n c) := by
  obtain ⟨h1, h2, h3⟩ := Hp.mkS_rest s n c
  exact ⟨h1, by rw [h2], h3⟩
end
end Go.Proofs.YtkfgchhlekdpgaaGreatDoor.Rf

namespace Go.Proofs.YtkfgchhlekdpgaaGreatDoor.Rf
open Go.RowKit Go.Sort
open Blk (Cfg)
open Lis (intsN upd upd_same upd_other)
open Hp (St Wf own cls wdA bn fr bnI frI bnI_nat frI_nat stS beS baS puS unS frS zr asS handB baE frE beE puE fE fN lE lV sE takB colB mayV mayV_true mkE mkA mkS Mine)
open Go.Proofs.YtkfgchhlekdpgaaGreatDoor.Row (Chg Rd Rd0 rowB)
open Go.Proofs.YtkfgchhlekdpgaaGreatDoor.Addr (Tabs)
section
variable {w : World} {H M base m : Nat} {d : Hp.Ids} {i : Ri} {s : St}
end
end Go.Proofs.YtkfgchhlekdpgaaGreatDoor.Rf

namespace Go.Proofs.YtkfgchhlekdpgaaGreatDoor.Rf
open Go.RowKit Go.Sort
open Blk (Cfg perN perN_le adr cellsF)
open Class (isB isB_true sizI roomI roomI_yes)
open Lis (intsN upd upd_same upd_other)
open Hp (St Wf own cls wdA bn fr bnI frI bnI_nat frI_nat stS beS baS puS unS frS zr asS handB baE frE beE puE fE fN lE lV sE takB colB mayV mayV_true mkE mkA mkS Mine)
open Go.Proofs.YtkfgchhlekdpgaaGreatDoor.Row (Chg Rd Rd0 rowB cellsZ owns_lt owns_chg same_any)
open Go.Proofs.YtkfgchhlekdpgaaGreatDoor.Addr (Tabs)
section
variable {w : World} {H M base m : Nat} {d : Hp.Ids} {i : Ri} {s : St}
/-- What holds while the fields are laid that Begin leaves open. -/
theorem zr_store {a n j : Nat} {W : World} {d' : Hp.Ids} {m' : Nat} (h0 : Wf s) (hh : handB s a = true) (hok : Hdr.okB (cls s a : Nat) (n : Nat) = true) (hj : j < n) (hI : Hp.Is W H d' (zr (beS s a n) a j) m') (ht : Tabs W) (hm : m' < 900000) :
    Calls Tryz.prog 115 #[.pointer (some ⟨H, 0, none⟩), .int .i64 (a : Nat), .int .i64 (j : Nat), .int .i64 0] W fun e w' => e = .returned (.int .i64 0) ∧ Hp.To W w' H d' (zr (beS s a n) a (j + 1)) (m' + 2) := by
  obtain ⟨i1, i2, i3⟩ := Hdr.isOb_ob hok
  have hbd := h0.own_bd (isV_zero (hand_isV.1 hh)).1
  have hwz : wdA (zr (beS s a n) a j) a = Hdr.obI (cls s a : Nat) (n : Nat) := (Hp.zr_wdA _ (by omega) j).trans (Hp.wdA_be (by omega) (by omega))
  have hh3 : handB (beS s a n) a = true := hh
  have hs0 : sE (zr (beS s a n) a j) (a : Nat) j 0 = 0 := Hp.sE_zero hI.wf (by rw [Hp.zr_hand]; exact hh3) (by rw [hwz]; exact i1) (by rw [hwz]; exact i3) hj
  have := Hp.storeF_any (a : Nat) (j : Nat) 0 W hI ht (by omega)
  rw [hs0, if_pos rfl, Int.toNat_natCast, Int.toNat_natCast] at this
  exact this
end
end Go.Proofs.YtkfgchhlekdpgaaGreatDoor.Rf

namespace Go.Proofs.YtkfgchhlekdpgaaGreatDoor.Rf
open Go.RowKit Go.Sort
open Blk (Cfg)
open Lis (intsN upd upd_same upd_other)
open Hp (St Wf mayV mayV_true Mine scE scS)
open Go.Proofs.YtkfgchhlekdpgaaGreatDoor.Row (Chg Rd Rd0 rowB)
open Go.Proofs.YtkfgchhlekdpgaaGreatDoor.Addr (Tabs)
section
variable {w : World} {H M base m : Nat} {d : Hp.Ids} {i : Ri} {s : St}
theorem Rp.setcell {w : World} (h : Rp w M base i s) {j : Nat} (hj : j < s.ce.length) (v : Int) : Rp (w.setCell ⟨i.Cb, j, none⟩ (.int .i64 v)) M base i (scS s j v) ∧ Chg (All M i) w (w.setCell ⟨i.Cb, j, none⟩ (.int .i64 v)) := by
  obtain ⟨g1, g2⟩ := h.mem.setCell' hj v
  exact ⟨⟨by show RfIs _ M base i s.c s.ks.length _ (s.ce.set (j : Int).toNat v); rw [Int.toNat_natCast]; exact g1, h.adr, fun x hx => (h.ok x hx).frame rfl rfl rfl rfl rfl (fun _ => rfl), ⟨h.wf.right, h.wf.words, h.wf.full, h.wf.free, h.wf.born, h.wf.room, h.wf.fresh⟩, h.k4⟩, chg_all g2⟩
end
end Go.Proofs.YtkfgchhlekdpgaaGreatDoor.Rf
