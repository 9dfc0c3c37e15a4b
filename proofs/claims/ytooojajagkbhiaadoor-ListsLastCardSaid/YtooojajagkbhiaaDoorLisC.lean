/-
  What is done when a slot is put: put1_in, put1_out.
-/
import Derived.Test.YtooojajagkbhiaaDoorLisB
namespace Go.Proofs.YtooojajagkbhiaaDoor.Lis
open Go.RowKit
open Class (isB isB_true isB_false is_any)
open Blk (Cfg TbIs ret_int ret_bool rowB cellsK owns_block owns_lt owns_cell other same cell_of_block frozen_of_block)
open Go.Proofs.YtooojajagkbhiaaDoor.Row (Chg push_row step_append_own infoInt info_parts one_at)
open Arena (ArIs Two)
open Bits (SetIs)

set_option maxHeartbeats 1000000 in
theorem put1_in {L A G T I J cap capS base : Nat} {ps : Nat → Option Addr} {cs : Nat → Nat} {rv : Nat → List Nat} {ws sw : List Nat} {ld st : Nat} (w : World) (h : Sit w L A G T I J cap capS base ps cs rv ws sw ld st) {k a p q : Nat} (ha : a ≤ ws.length)
    (hp : w.cell? ⟨p, 0, none⟩ = some (.pointer (some ⟨L, 0, none⟩))) (hq : w.cell? ⟨q, 0, none⟩ = some (.int .i64 a)) (hin : hasB sw a = true) :
    Calls Tryd.prog 36 #[.pointer (some ⟨L, 3 + k, none⟩), .pointer (some ⟨p, 0, none⟩), .pointer (some ⟨q, 0, none⟩)] w fun e w' => e = .returned (.int .i64 11) ∧ ∃ n, w' = w.drewN n := by
  have hci := h.ls.ci
  have hm : Bits.mayB (a : Int) (ws.length + 1 : Nat) = true := by simp [Bits.mayB]; omega
  have HS := Lib.hid (fun n => h.si.drewN n)
  have HH : ∀ n, Calls Tryd.prog 31 #[.pointer (some ⟨I, 0, none⟩), .int .i64 (a : Nat)] (w.drewN n) fun e w' => e = .returned (.bool true) ∧ ∃ m, w' = w.drewN m := fun n => by
    refine (Bits.has_any _ _ _ _ _ (a : Int) _ (HS.out n)).mono ?_
    rintro e w' ⟨rfl, m, rfl⟩
    exact ⟨by rw [hm, Int.toNat_natCast, hin]; rfl, n + m, World.drewN_drewN ..⟩
  clear h hin hm
  go_enter Tryd.func36, Tryd.ntmps36
  go_wp2
  go_quiet ((go_at_call 31; exact HH _))
  go_wp2
  go_ret
  exact ⟨rfl, _, rfl⟩

/-- What an append to a list's row leaves. -/
theorem put_fin {w Y0 w3 : World} {L A G T I J cap capS base : Nat} {ps : Nat → Option Addr} {cs : Nat → Nat} {rv : Nat → List Nat} {ws sw : List Nat} {ld st : Nat} {v' : Value} {a : Nat} (h : Sit w L A G T I J cap capS base ps cs rv ws sw ld st) {k : Nat} (hk : k < 4) (hl : (rv k).length < 1000000) (hb : Below w.heap.size w Y0)
    (hown : w3.ownsRow base 3 1 v' ((rv k).length + 1) (cellsK (rv k) ++ [.int .i64 (a : Nat)])) (hg : Y0.grownBy w3 (Value.slice (ps k) (rv k).length (cs k)).ownBlock)
    (hat : v'.ownBlock = (Value.slice (ps k) (rv k).length (cs k)).ownBlock ∨ v'.ownBlock = some Y0.heap.size) :
    ∃ p' c', v' = .slice p' ((rv k).length + 1) c' ∧ Sit (w3.setCell ⟨L, 3 + k, none⟩ (.slice p' ((rv k).length + 1) c')) L A G T I J cap capS base (upd ps k p') (upd cs k c') (upd rv k (rv k ++ [a])) ws sw ld st ∧
      Chg (Own L A G I J ps) w (w3.setCell ⟨L, 3 + k, none⟩ (.slice p' ((rv k).length + 1) c')) ∧ (∀ j, Own L A G I J (upd ps k p') j → Own L A G I J ps j ∨ w.heap.size ≤ j) ∧
      w3.cell? ⟨L, 3 + k, none⟩ = some (.slice (ps k) (rv k).length (cs k)) ∧ w3.frozen? ⟨L, 3 + k, none⟩ = false ∧ Chg (rowB (ps k)) w w3 := by
  obtain ⟨p', c', rfl, hC, hR⟩ := push_row hb hown hg hat
  have hlen : (rv k ++ [a]).length = (rv k).length + 1 := by simp
  have hx : cellsK (rv k) ++ [.int .i64 (a : Nat)] = cellsK (rv k ++ [a]) := by simp [cellsK]
  rw [hx, ← hlen] at hown
  obtain ⟨h1, h2, h3, h4, h5⟩ := h.lay hk (by omega) hC hown hR
  rw [hlen] at h1 h2
  exact ⟨p', c', rfl, h1, h2, h3, h4, h5, hC⟩

set_option maxHeartbeats 2000000 in
theorem put1_out {L A G T I J cap capS base : Nat} {ps : Nat → Option Addr} {cs : Nat → Nat} {rv : Nat → List Nat} {ws sw : List Nat} {ld st : Nat} (w : World) (h : Sit w L A G T I J cap capS base ps cs rv ws sw ld st) {k a p q : Nat} (hk : k < 4) (ha : a ≤ ws.length) (ha1 : 1 ≤ a) (hst : st < 1000000)
    (hf : lastN (rv k) ≤ 1048576) (hc : (rv k).length < 1000000) (hlp : ¬ Own L A G I J ps p) (hlq : ¬ Own L A G I J ps q)
    (hp : w.cell? ⟨p, 0, none⟩ = some (.pointer (some ⟨L, 0, none⟩))) (hq : w.cell? ⟨q, 0, none⟩ = some (.int .i64 a)) (hin : hasB sw a = false) :
    Calls Tryd.prog 36 #[.pointer (some ⟨L, 3 + k, none⟩), .pointer (some ⟨p, 0, none⟩), .pointer (some ⟨q, 0, none⟩)] w fun e w' => e = .returned (.int .i64 0) ∧
      ∃ p' c', Sit w' L A G T I J cap capS base (upd ps k p') (upd cs k c') (upd rv k (rv k ++ [a])) (ws.set (a - 1) (Hdr.lk (lastN (rv k)))) (putW sw a) ld (st + 1) ∧ Chg (Own L A G I J ps) w w' ∧ ∀ j, Own L A G I J (upd ps k p') j → Own L A G I J ps j ∨ w.heap.size ≤ j := by
  have hci := h.ls.ci
  have hcv := h.ls.cv k hk
  have hm : Bits.mayB (a : Int) (ws.length + 1 : Nat) = true := by simp [Bits.mayB]; omega
  have HS := Lib.hid (fun n => h.si.drewN n)
  have HH : ∀ n, Calls Tryd.prog 31 #[.pointer (some ⟨I, 0, none⟩), .int .i64 (a : Nat)] (w.drewN n) fun e w' => e = .returned (.bool false) ∧ ∃ m, w' = w.drewN m := fun n => by
    refine (Bits.has_any _ _ _ _ _ (a : Int) _ (HS.out n)).mono ?_
    rintro e w' ⟨rfl, m, rfl⟩
    exact ⟨by rw [hm, Int.toNat_natCast, hin]; rfl, n + m, World.drewN_drewN ..⟩
  have HT := Lib.hid h
  have hpl : p < w.heap.size := World.block_lt_of_cell? w _ hp
  have hql : q < w.heap.size := World.block_lt_of_cell? w _ hq
  have hLl : L < w.heap.size := h.ls.lt
  have HFR := Lib.hid (fun n => front_any (rv k) (w.drewN n) (by have := h.ls.len k hk; omega) ((h.drewN n).ls.own k hk))
  clear h hm
  go_enter Tryd.func36, Tryd.ntmps36
  go_wp2
  go_quiet ((go_at_call 31; exact HH _))
  go_wp2
  have HK0 := Lib.hid (show (w.drewN nq).drew.cell? ⟨p, 0, none⟩ = some (.pointer (some ⟨L, 0, none⟩)) ∧ (w.drewN nq).drew.cell? ⟨q, 0, none⟩ = some (.int .i64 a) ∧ (w.drewN nq).drew.cell? ⟨L, 3 + k, none⟩ = some (.slice (ps k) (rv k).length (cs k)) from ⟨hp, hq, hcv⟩)
  have HK3 := Lib.hid (fun (W : World) (h2 : Two A G (w.drewN (nq + 1)) W) => (⟨(h2.cell (p := ⟨p, 0, none⟩) hpl (fun e => hlp (.inr (.inl e))) (fun e => hlp (.inr (.inr (.inl e))))).trans hp, (h2.cell (p := ⟨q, 0, none⟩) hql (fun e => hlq (.inr (.inl e))) (fun e => hlq (.inr (.inr (.inl e))))).trans hq, (h2.cell (p := ⟨L, 3 + k, none⟩) hLl HT.out.five.la HT.out.five.lg).trans hcv⟩ : W.cell? ⟨p, 0, none⟩ = some (.pointer (some ⟨L, 0, none⟩)) ∧ W.cell? ⟨q, 0, none⟩ = some (.int .i64 a) ∧ W.cell? ⟨L, 3 + k, none⟩ = some (.slice (ps k) (rv k).length (cs k))))
  go_region_held3 (fun W => W.cell? ⟨p, 0, none⟩ = some (.pointer (some ⟨L, 0, none⟩)) ∧ W.cell? ⟨q, 0, none⟩ = some (.int .i64 a) ∧ W.cell? ⟨L, 3 + k, none⟩ = some (.slice (ps k) (rv k).length (cs k)))
    (first | exact HK0.out | assumption | exact HK3.out _ h23)
    (first | (go_at_call 29; refine (HFR.out _).mono ?_; rintro e w'' ⟨rfl, rfl⟩) | (go_at_call 37; refine (link_sit _ (HT.out.drewN _) a (lastN (rv k)) ha1 ha hst hf).mono ?_; rintro e w3 ⟨rfl, hT3, h23⟩))
  have hS3 : w3.cell? ⟨p, 0, none⟩ = some (.pointer (some ⟨L, 0, none⟩)) ∧ w3.cell? ⟨q, 0, none⟩ = some (.int .i64 a) ∧ w3.cell? ⟨L, 3 + k, none⟩ = some (.slice (ps k) (rv k).length (cs k)) := by assumption
  clear HK3 HK0
  obtain ⟨hp3, hq3, hcv3⟩ := hS3
  have hci3 := hT3.ls.ci
  have HT3 := Lib.hid hT3
  have hpl3 : p < w3.heap.size := World.block_lt_of_cell? w3 _ hp3
  have hql3 : q < w3.heap.size := World.block_lt_of_cell? w3 _ hq3
  have hLl3 : L < w3.heap.size := hT3.ls.lt
  have hal : a ≤ (ws.set (a - 1) (Hdr.lk (lastN (rv k)))).length := by rw [List.length_set]; exact ha
  have HC3 := Lib.hid (own_trans ((Chg.refl (Own L A G I J ps) w).drewN (nq + 1)) (own_two h23))
  clear hT3 h23 HFR
  go_wp2
  have HK0 := Lib.hid (show w3.drew.cell? ⟨p, 0, none⟩ = some (.pointer (some ⟨L, 0, none⟩)) ∧ w3.drew.cell? ⟨q, 0, none⟩ = some (.int .i64 a) ∧ w3.drew.cell? ⟨L, 2, none⟩ = some (.pointer (some ⟨I, 0, none⟩)) from ⟨hp3, hq3, hci3⟩)
  have HK4 := Lib.hid (fun (W : World) (h2 : ∀ j, j ≠ J → W.heap[j]? = (w3.drewN 1).heap[j]?) => (⟨(cell_of_block (a := ⟨p, 0, none⟩) (h2 p (fun e => hlp (.inr (.inr (.inr (.inr (.inl e)))))))).trans hp3, (cell_of_block (a := ⟨q, 0, none⟩) (h2 q (fun e => hlq (.inr (.inr (.inr (.inr (.inl e)))))))).trans hq3, (cell_of_block (a := ⟨L, 2, none⟩) (h2 L HT.out.five.lj)).trans hci3⟩ : W.cell? ⟨p, 0, none⟩ = some (.pointer (some ⟨L, 0, none⟩)) ∧ W.cell? ⟨q, 0, none⟩ = some (.int .i64 a) ∧ W.cell? ⟨L, 2, none⟩ = some (.pointer (some ⟨I, 0, none⟩))))
  go_region_held3 (fun W => W.cell? ⟨p, 0, none⟩ = some (.pointer (some ⟨L, 0, none⟩)) ∧ W.cell? ⟨q, 0, none⟩ = some (.int .i64 a) ∧ W.cell? ⟨L, 2, none⟩ = some (.pointer (some ⟨I, 0, none⟩)))
    (first | exact HK0.out | assumption | exact HK4.out _ h24)
    (first | (go_at_call 30; refine (in_sit _ (HT3.out.drewN _) a true hal (by rw [hin]; rfl)).mono ?_; rintro e w4 ⟨rfl, hT4, hg4, h24⟩))
  have hS4 : w4.cell? ⟨p, 0, none⟩ = some (.pointer (some ⟨L, 0, none⟩)) ∧ w4.cell? ⟨q, 0, none⟩ = some (.int .i64 a) ∧ w4.cell? ⟨L, 2, none⟩ = some (.pointer (some ⟨I, 0, none⟩)) := by assumption
  clear HK4 HK0
  obtain ⟨_, hq4, _⟩ := hS4
  have hcv4 := hT4.ls.cv k hk
  have hfv4 := hT4.ls.fv k hk
  have HT4 := Lib.hid hT4
  have HC4 := Lib.hid (own_trans (HC3.out.drewN 1) hg4)
  have hsz4 : w.heap.size ≤ w4.heap.size := HC4.out.size
  clear hT4 hg4 h24 hp3 hq3 hcv3 hci3 hpl3 hql3 hLl3
  obtain ⟨i0, hinf, hz0, hz1, hz2⟩ := info_parts infoInt
  have hba : Below w4.heap.size w4 (w4.drew.alloc (.cells #[.int .i64 (a : Nat)] 3)) := (below_drewN (Below.refl _ w4) 1).alloc (Nat.le_refl _) _
  have HBA := Lib.hid hba
  have HQ : Hid (∀ w5 : World, Chg (rowB (ps k)) w4 w5 → w5.cell? ⟨q, 0, none⟩ = some (.int .i64 (a : Nat))) := Lib.hid fun w5 hc => (hc.cell (p := ⟨q, 0, none⟩) (World.block_lt_of_cell? w4 _ hq4) (fun e => hlq (.inr (.inr (.inr (.inr (.inr ⟨k, hk, e⟩))))))).trans hq4
  have HOW := Lib.hid (owns_block (HT4.out.ls.own k hk) (fun g hg => Below.heap_alloc w4.drew (.cells #[.int .i64 (a : Nat)] 3) g (by simpa using (HT4.out.ls.ltR hk hg).2)))
  have hca4 : (w4.alloc (.cells #[.int .i64 (a : Nat)] 3)).cell? ⟨L, 3 + k, none⟩ = some (.slice (ps k) (rv k).length (cs k)) := (Below.cell (((Below.refl _ w4).alloc (Nat.le_refl _) _)) (p := ⟨L, 3 + k, none⟩) (World.block_lt_of_cell? w4 _ hcv4)).trans hcv4
  have hcq4 : (w4.alloc (.cells #[.int .i64 (a : Nat)] 3)).cell? ⟨q, 0, none⟩ = some (.int .i64 (a : Nat)) := (Below.cell (((Below.refl _ w4).alloc (Nat.le_refl _) _)) (p := ⟨q, 0, none⟩) (World.block_lt_of_cell? w4 _ hq4)).trans hq4
  have hbs4 := HT4.out.bs
  clear hba
  go_wp2_with fail
  go_region_law (refine step_append_own rfl (.tmp 27) (.tmp 29) 33 rfl base 3 i0 (.int .i64 0) 1 8 Tryd.underlying33 hinf hz0 hz1 hz2 rfl (by decide) (.slice (ps k) (rv k).length (cs k)) _ (cellsK (rv k)) rfl HOW.out ⟨w4.heap.size, 0, none⟩ 1 1 [.int .i64 (a : Nat)] rfl rfl (one_at rfl) (by simp [Value.oneCell']) (by unfold maxLen; omega) (by omega) (by simp; omega) ?_; intro v' w5 hown hgrow hat; obtain ⟨p', c', rfl, hT5, hC5, hR5, hc5, hf5, hD5⟩ := put_fin HT4.out hk hc HBA.out hown hgrow hat; have HT5 := Lib.hid hT5; have HC5 := Lib.hid hC5; have HR5 := Lib.hid hR5; have hq5 := HQ.out w5 hD5; clear hown hgrow hat hT5 hC5 hR5 hD5)
  all_goals go_wp2
  all_goals go_ret
  all_goals exact ⟨rfl, p', c', HT5.out, own_trans HC4.out HC5.out, fun j hj => (HR5.out j hj).imp id (fun h => by omega)⟩
end Go.Proofs.YtooojajagkbhiaaDoor.Lis
