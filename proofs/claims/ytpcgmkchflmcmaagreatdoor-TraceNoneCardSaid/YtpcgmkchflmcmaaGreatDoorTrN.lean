/-
  The document's example: the law's awake is true.
-/
import Derived.Test.YtpcgmkchflmcmaaGreatDoorTrM
namespace Go.Proofs.YtpcgmkchflmcmaaGreatDoor.Tr
open Go.RowKit Go.Shelf
open Class (below_drewN)
open Blk (Cfg allP kAt little little_any little_right)
open Bits (SetIs TzTab)
open Hp (Ids St Wf Is To Mine bn bnI bnI_nat objL not_mine pkA_len objects_any NewRow fields_any storeF_any fN fE sE stS st0)
open Sw (ThingsP thAt)
open Go.Proofs.YtpcgmkchflmcmaaGreatDoor.Row (Chg Rd Rd0 rowB rowB_none cell_of_block frozen_of_block other same cellsZ cellsZ_length cellsZ_at owns_block owns_chg owns_lt owns_base owns_cell owns_slice same_any)
open Go.Proofs.YtpcgmkchflmcmaaGreatDoor.Addr (Tabs)

set_option maxRecDepth 100000 in
set_option maxHeartbeats 2000000 in
theorem awake_any (w : World) (ht : Tabs w) (hz : TzTab w) (hvb : vB ≤ w.heap.size) : Calls Tryz.prog 9 #[] w fun e w' => e = .returned (.bool true) ∧ Below w.heap.size w w' := by
  have hb0 : Below w.heap.size w ((w.alloc (.cells #[.int .u8 1, .int .u8 0, .bool false, .int .u8 1, .int .u8 0, .bool false] 59)).alloc (.cells #[.int .u16 5, .int .u16 0] 60)) := ((Below.refl _ _).alloc (Nat.le_refl _) _).alloc (by simp) _
  have hth : ThingsP (w.heap.size + 2) ((w.alloc (.cells #[.int .u8 1, .int .u8 0, .bool false, .int .u8 1, .int .u8 0, .bool false] 59)).alloc (.cells #[.int .u16 5, .int .u16 0] 60)) (some ⟨w.heap.size, 0, none⟩) exT := fun j hj => by
    refine ⟨w.heap.size, 0, rfl, by omega, ?_⟩
    match j, hj with
    | 0, _ => exact ⟨by simp [thAt, exT], by simp [thAt, exT], by simp [thAt, exT], by simp [thAt, exT], by simp [thAt, exT]⟩
    | 1, _ => exact ⟨by simp [thAt, exT], by simp [thAt, exT], by simp [thAt, exT], by simp [thAt, exT], by simp [thAt, exT]⟩
  have hwo : WordsP (w.heap.size + 2) ((w.alloc (.cells #[.int .u8 1, .int .u8 0, .bool false, .int .u8 1, .int .u8 0, .bool false] 59)).alloc (.cells #[.int .u16 5, .int .u16 0] 60)) (some ⟨w.heap.size + 1, 0, none⟩) [5, 0] := fun j hj => by
    refine ⟨w.heap.size + 1, 0, rfl, by omega, ?_⟩
    match j, hj with
    | 0, _ => exact ⟨by rw [World.cell?_alloc_at _ _ _ _ (by simp)]; rfl, by decide⟩
    | 1, _ => exact ⟨by rw [World.cell?_alloc_at _ _ _ _ (by simp)]; rfl, by decide⟩
  have HM := Lib.hid (mk_any (w.heap.size + 2) exC 16 0 (some ⟨w.heap.size, 0, none⟩) 2 exT (some ⟨w.heap.size + 1, 0, none⟩) 2 [5, 0] _ (ht.later hb0) exC_n.1 exC_n.2 (by simp) hth (by simp [exT, maxLen]) hwo (by simp [maxLen]))
  have HB0 := Lib.hid hb0
  have HT := Lib.hid ht
  have HZ := Lib.hid hz
  clear hb0 hth hwo ht hz
  go_enter Tryz.func9, Tryz.ntmps9
  go_wp2_with fail
  refine HM.out.mono ?_
  rintro e w2 ⟨H, d, m, rfl, hg⟩
  have hg : Hg _ w2 H d exM m := hg
  have hlv := hg.from HB0.out
  have hN : (objL exM).length = 2 := by rw [ex_obj.1]; rfl
  have hm := hg.hm
  have HL := Lib.hid hlv
  have HR1 := Lib.hid (reach_any (some ⟨w2.heap.size, 0, none⟩) 1 [1] _ (hlv.lit HT.out HZ.out hvb (by omega) [1] (by simp) (by simp)))
  rw [ex_reach] at HR1
  have HLIT := Lib.hid (fun (W : World) (d' : Ids) (m' : Nat) (h : Lv w W H d' exM m') (hm' : m' ≤ 60000) => by
    have h1 := garbage_any (some ⟨W.heap.size, 0, none⟩) 1 [3] _ (h.lit HT.out HZ.out hvb (by omega) [3] (by simp) (by simp))
    rw [ex_garbage] at h1
    exact h1)
  have HN := Lib.hid hN
  clear hg hlv hN HM HB0
  go_wp2_with fail
  refine HR1.out.mono ?_
  rintro e w3 ⟨p, cap, d3, rfl, hrd, hT, _⟩
  have HL3 := Lib.hid ((HL.out.later ((Below.refl _ _).alloc (Nat.le_refl _) _)).tn hT)
  have HS1 := Lib.hid (same_any p (some ⟨w3.heap.size, 0, none⟩) cap 2 [1, 3] _ (hrd.later ((Below.refl w3.heap.size w3).alloc (Nat.le_refl _) _)) (rd_lit w3 [1, 3] (by simp)) (by simp))
  clear hrd hT HR1 HL
  go_wp2_with fail
  refine HS1.out.mono ?_
  rintro e w4 ⟨rfl, q, hq⟩
  have HL4 : Hid (Lv w w4 H d3 exM (m + 40 * (objL exM).length)) := Lib.hid (by rw [hq]; exact HL3.out.later (below_drewN ((Below.refl w3.heap.size w3).alloc (Nat.le_refl _) (.cells (cellsZ [1, 3]).toArray 3)) q))
  have HG := Lib.hid (HLIT.out _ _ _ HL4.out (by have := HN.out; omega))
  clear HS1 HL3 hq
  go_wp2_with fail
  refine HG.out.mono ?_
  rintro e w5 ⟨p2, cap2, d5, rfl, hrd, hT, _⟩
  have HL5 := Lib.hid ((HL4.out.later ((Below.refl _ _).alloc (Nat.le_refl _) _)).tn hT)
  have HS2 := Lib.hid (same_any p2 (some ⟨w5.heap.size, 0, none⟩) cap2 1 [1] _ (hrd.later ((Below.refl w5.heap.size w5).alloc (Nat.le_refl _) _)) (rd_lit w5 [1] (by simp)) (by simp))
  clear hrd hT HG HL4
  go_wp2_with fail
  refine HS2.out.mono ?_
  rintro e w6 ⟨rfl, q2, hq⟩
  have HB6 : Hid (Below w.heap.size w w6) := Lib.hid (by rw [hq]; exact (HL5.out.later (below_drewN ((Below.refl w5.heap.size w5).alloc (Nat.le_refl _) (.cells (cellsZ [1]).toArray 3)) q2)).bel)
  clear hq HS2 HL5
  go_wp2_with fail
  go_ret
  exact ⟨rfl, HB6.out⟩
end Go.Proofs.YtpcgmkchflmcmaaGreatDoor.Tr
