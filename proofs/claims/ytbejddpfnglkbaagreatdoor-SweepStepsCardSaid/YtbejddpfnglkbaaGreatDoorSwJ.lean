/-
  The document's example; the law SweepNone answers true, for every two numbers.
-/
import Derived.Test.YtbejddpfnglkbaaGreatDoorSwF
import Derived.Test.YtbejddpfnglkbaaGreatDoorSwI
namespace Go.Proofs.YtbejddpfnglkbaaGreatDoor.Sw
open Go.RowKit
open Blk (Cfg TbIs kAt seg seg_length perN allP allP_succ allP_len blk adr)
open Hp (Ids St Wf Is To Mine bnI bn coE coV frE frS colB holdsF own cls fr puS unS mkE mkS mkA st0)
open Rf (Rp RTo Pu Ri Sl All Bo Lo Keep mkW)
open Go.Proofs.YtbejddpfnglkbaaGreatDoor.Row (Chg Rd Rd0 cell_of_block frozen_of_block other same rowB cellsZ cellsZ_length cellsZ_at cellsZ_snoc owns_lt owns_chg owns_slice owns_base owns_cap owns_block push_row info_parts infoInt one_at)
open Go.Proofs.YtbejddpfnglkbaaGreatDoor.Addr (Tabs)

def exW : Cfg := ⟨1, 16, 1, 1, 0, 1, 1⟩
theorem exW_right : rightB exW.b exW.wd exW.m exW.r exW.ce exW.lg exW.st = true := by decide
def exL : List (Nat × Nat × Bool) := [(1, 0, false), (1, 1, false)]
def exS : St := madeS (st0 exW 16 0) (exL.take 40)
set_option maxRecDepth 200000 in
theorem ex_all : swF exS 1 (allP exS.c exS.ks exS.ks.length) = [1] ∧ (allP exS.c exS.ks exS.ks.length).length ≤ 1000 := by decide

/-- What sweeping turns lies above, if the heap does. -/
theorem Swept.below {w w1 w' : World} {H m' : Nat} {d : Ids} {s' : St} {l : List Int} {e : Ending} (h : Swept w1 H d s' m' l e w') (hb : Below w.heap.size w w1) (hg : ∀ k, Mine H d k → w.heap.size ≤ k) : Below w.heap.size w w' := by
  obtain ⟨d', po, co, _, _, _, h3, _⟩ := h
  exact hb.trans (h3.below hg hb.size)

set_option maxRecDepth 100000 in
set_option maxHeartbeats 2000000 in
theorem awake_any (w : World) (ht : Tabs w) : Calls Tryz.prog 10 #[] w fun e w' => e = .returned (.bool true) ∧ Below w.heap.size w w' := by
  have hb0 : Below w.heap.size w (w.alloc (.cells #[.int .u8 1, .int .u8 0, .bool false, .int .u8 1, .int .u8 1, .bool false] 69)) := (Below.refl _ _).alloc (Nat.le_refl _) _
  have hth : ThingsP (w.heap.size + 1) (w.alloc (.cells #[.int .u8 1, .int .u8 0, .bool false, .int .u8 1, .int .u8 1, .bool false] 69)) (some ⟨w.heap.size, 0, none⟩) exL := fun j hj => by
    refine ⟨w.heap.size, 0, rfl, Nat.lt_succ_self _, ?_⟩
    match j, hj with
    | 0, _ => exact ⟨by simp [thAt, exL], by simp [thAt, exL], by simp [thAt, exL], by simp [thAt, exL], by simp [thAt, exL]⟩
    | 1, _ => exact ⟨by simp [thAt, exL], by simp [thAt, exL], by simp [thAt, exL], by simp [thAt, exL], by simp [thAt, exL]⟩
  have HM := Lib.hid (made_any (w.heap.size + 1) exW 16 0 (some ⟨w.heap.size, 0, none⟩) 2 exL _ (ht.later hb0) exW_right (by decide) (by decide) (by decide) (by simp) hth (by simp [exL, maxLen]))
  have HB0 := Lib.hid hb0
  clear hb0 hth ht
  go_enter Tryz.func10, Tryz.ntmps10
  go_wp2_with fail
  refine HM.out.mono ?_
  rintro e w2 ⟨H, M, base, d, i, m, rfl, hmad⟩
  have HMD := Lib.hid hmad
  clear hmad HM
  go_wp2_with fail
  have HAL := Lib.hid (all_good 1 w2 HMD.out.bo.is HMD.out.bo.tb (by decide) (by have := HMD.out.hm; omega) ex_all.2)
  rw [show madeS (st0 exW 16 0) (exL.take 40) = exS from rfl, ex_all.1] at HAL
  refine HAL.out.mono ?_
  rintro e w3 hsw
  have HBL := Lib.hid (hsw.below (w := w) (HB0.out.trans (HMD.out.bel.mono (by simp))) (fun k hk => by have := HMD.out.g1 k hk; simp at this; omega))
  obtain ⟨d', po, co, rfl, _, _, _, _, ho, _⟩ := hsw
  have HR := Lib.hid (fun o => (Rd.of_owns ho).later ((Below.refl w3.heap.size w3).alloc (Nat.le_refl _) o))
  clear ho HAL
  have hq : ∀ o : Obj, o = .cells #[.int .i64 1] 3 (0, 0) → Rd (w3.alloc o) (some ⟨w3.heap.size, 0, none⟩) [1] := fun o ho => by
    subst ho
    refine .inr ⟨w3.heap.size, 0, rfl, fun j hj => ?_⟩
    obtain rfl : j = 0 := by simp at hj; omega
    simp
  have HQ := Lib.hid hq
  have hal := fun o => (Below.refl w.heap.size w3).alloc (by exact HBL.out.size) o
  have HLT := Lib.hid hal
  clear hq hal
  go_wp2_with fail
  refine (Row.same_any po (some ⟨w3.heap.size, 0, none⟩) co 1 [1] _ (HR.out _) (HQ.out _ rfl) (by simp)).mono ?_
  rintro e w4 ⟨rfl, q, rfl⟩
  go_wp2
  go_ret
  exact ⟨rfl, below_drewN (HBL.out.trans (HLT.out _)) q⟩

set_option maxRecDepth 100000 in
set_option maxHeartbeats 2000000 in
theorem none_walk (b c : Int) (w : World) (ht : Tabs w) :
    Calls Tryz.prog 6 #[.int .i64 b, .int .i64 c] w fun e w' => e = .returned (.bool true) ∧ Below w.heap.size w w' := by
  have HA := Lib.hid (awake_any w ht)
  clear ht
  go_enter Tryz.func6, Tryz.ntmps6
  go_wp2_with (first | (go_at_call 15; refine (new_nil _ _ _).mono ?_; rintro e w' ⟨rfl, rfl⟩) | (go_at_call 11; refine (block_none _ _ _).mono ?_; rintro e w' ⟨rfl, rfl⟩) | (go_at_call 23; refine (all_none _ _).mono ?_; rintro e w' ⟨rfl, rfl⟩) | (go_at_call 20; refine (step_nil _).mono ?_; rintro e w' ⟨rfl, rfl⟩) | (go_at_call 18; refine (done_nil _).mono ?_; rintro e w' ⟨rfl, rfl⟩) | (go_at_call 16; refine (left_nil _).mono ?_; rintro e w' ⟨rfl, rfl⟩) | (go_at_call 17; refine (block_nil _).mono ?_; rintro e w' ⟨rfl, rfl⟩) | (go_at_call 10; refine HA.out.mono ?_; rintro e w1 ⟨rfl, hb1⟩; have HB1 := Lib.hid hb1; clear hb1))
  go_ret
  exact ⟨rfl, HB1.out⟩
end Go.Proofs.YtbejddpfnglkbaaGreatDoor.Sw
