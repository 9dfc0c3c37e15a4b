/-
  A heap above what lay; the document's example.
-/
import Derived.Test.YtpcgmkchflmcmaaGreatDoorTrL
namespace Go.Proofs.YtpcgmkchflmcmaaGreatDoor.Tr
open Go.RowKit Go.Shelf
open Class (below_drewN)
open Blk (Cfg allP kAt little little_any little_right)
open Bits (SetIs TzTab)
open Hp (Ids St Wf Is To Mine bn bnI bnI_nat objL not_mine pkA_len objects_any NewRow fields_any storeF_any fN fE sE stS st0)
open Sw (ThingsP thAt)
open Go.Proofs.YtpcgmkchflmcmaaGreatDoor.Row (Chg Rd Rd0 rowB rowB_none cell_of_block frozen_of_block other same cellsZ cellsZ_length cellsZ_at owns_block owns_chg owns_lt owns_base owns_cell owns_slice)
open Go.Proofs.YtpcgmkchflmcmaaGreatDoor.Addr (Tabs)

/-- A literal row of numbers. -/
theorem rd_lit (W : World) (l : List Int) (_ : 0 < l.length) : Rd (W.alloc (.cells (cellsZ l).toArray 3)) (some ⟨W.heap.size, 0, none⟩) l :=
  .inr ⟨W.heap.size, 0, rfl, fun j hj => by
    rw [World.cell?_alloc_new, Nat.zero_add, List.getElem?_toArray]
    exact cellsZ_at l hj⟩
/-- A heap that lies above a world. -/
structure Lv (w wr : World) (H : Nat) (d : Ids) (s : St) (m : Nat) : Prop where
  is : Is wr H d s m
  bel : Below w.heap.size w wr
  new : ∀ k, Mine H d k → w.heap.size ≤ k
section
variable {w wr w' : World} {H : Nat} {d d' : Ids} {s s' : St} {m m' : Nat}
theorem Hg.lv (h : Hg w wr H d s m) : Lv w wr H d s m := ⟨h.is, h.bel, h.new⟩
theorem Lv.later (h : Lv w wr H d s m) (hb : Below wr.heap.size wr w') : Lv w w' H d s m := ⟨h.is.later hb, h.bel.trans (hb.mono h.bel.size), h.new⟩
theorem Lv.tn (h : Lv w wr H d s m) (hT : Tn wr H d w' d' s' m') : Lv w w' H d' s' m' :=
  ⟨hT.is, h.bel.trans (hT.chg.below h.new h.bel.size), fun k hk => (hT.grow k hk).elim (h.new k) (fun e => Nat.le_trans h.bel.size e)⟩
theorem Lv.tabs (h : Lv w wr H d s m) (ht : Tabs w) : Tabs wr := ht.later h.bel
theorem Lv.ask (h : Lv w wr H d s m) (ht : Tabs w) (hz : TzTab w) (hvb : vB ≤ w.heap.size) (hm : m + 40 * (objL s).length < 800000) {pr : Option Addr} {R : List Int} (hrd : Rd0 wr pr R) (hrow : ∀ g, rowB pr g → 0 < R.length → g < wr.heap.size ∧ ¬ Mine H d g) (hl : R.length ≤ maxLen) : Ask wr H d s m pr R :=
  ⟨h.is, h.tabs ht, hz.below h.bel (by unfold vB at hvb; omega), hm, hrd, hrow, hl, Nat.le_trans hvb h.bel.size, fun k hk => Nat.le_trans hvb (h.new k hk)⟩
end

theorem Hg.from {w w0 wr : World} {H : Nat} {d : Ids} {s : St} {m : Nat} (h : Hg w0 wr H d s m) (hb : Below w.heap.size w w0) : Lv w wr H d s m :=
  ⟨h.is, hb.trans (h.bel.mono hb.size), fun k hk => Nat.le_trans hb.size (h.new k hk)⟩
/-- A row that is written out, asked from there. -/
theorem Lv.lit {w wr : World} {H : Nat} {d : Ids} {s : St} {m : Nat} (h : Lv w wr H d s m) (ht : Tabs w) (hz : TzTab w) (hvb : vB ≤ w.heap.size) (hm : m + 40 * (objL s).length < 800000) (l : List Int) (hl : 0 < l.length) (hl2 : l.length ≤ 1000) :
    Ask (wr.alloc (.cells (cellsZ l).toArray 3)) H d s m (some ⟨wr.heap.size, 0, none⟩) l :=
  (h.later ((Below.refl _ _).alloc (Nat.le_refl _) _)).ask ht hz hvb hm (rd_lit wr l hl).rd0 (fun g hg _ => by
    obtain rfl : wr.heap.size = g := by simpa [rowB] using hg
    exact ⟨by simp, not_mine h.is (Nat.le_refl _)⟩) (by unfold maxLen; omega)

def exC : Cfg := ⟨0, 0, 0, 0, 0, 0, 0⟩
def exT : List (Nat × Nat × Bool) := [(1, 0, false), (1, 0, false)]
def exM : St := sM (little exC) 16 0 exT [5, 0]
theorem exC_n : (little exC).b * (little exC).wd = ((16 : Nat) : Int) ∧ (little exC).ce = ((0 : Nat) : Int) := by decide
set_option maxRecDepth 100000 in
theorem ex_obj : objL exM = [1, 3] ∧ fs exM 1 = [3] ∧ fs exM 3 = [0] ∧ bnI exM 0 = false ∧ bnI exM 1 = true ∧ bnI exM 3 = true := by decide +kernel
theorem ex_from3 {a : Int} (h : Rch exM [3] a) : a = 3 := by
  induction h with
  | root h1 _ => simpa using h1
  | step h1 h2 h3 ih =>
    rw [ih, ex_obj.2.2.1] at h2
    rw [List.mem_singleton.1 h2, ex_obj.2.2.2.1] at h3
    cases h3
open Classical in
theorem ex_reach : rcL exM [1] = [1, 3] := by
  have r1 : Rch exM [1] 1 := .root (by simp) ex_obj.2.2.2.2.1
  have r3 : Rch exM [1] 3 := .step r1 (by rw [ex_obj.2.1]; simp) ex_obj.2.2.2.2.2
  unfold rcL
  rw [ex_obj.1, List.filter_cons, if_pos (by simpa using r1), List.filter_cons, if_pos (by simpa using r3)]
  rfl
open Classical in
theorem ex_garbage : gbL exM [3] = [1] := by
  have r1 : ¬ Rch exM [3] 1 := fun h => by have := ex_from3 h; omega
  have r3 : Rch exM [3] 3 := .root (by simp) ex_obj.2.2.2.2.2
  unfold gbL
  rw [ex_obj.1, List.filter_cons, if_pos (by simpa using r1), List.filter_cons, if_neg (by simpa using r3)]
  rfl
end Go.Proofs.YtpcgmkchflmcmaaGreatDoor.Tr
