/-
  Free, Color, Paint of a heap.
-/
import Derived.Test.YtcoolapancdioaaGreatDoorHpJ
namespace Go.Proofs.YtcoolapancdioaaGreatDoor.Hp
open Go.RowKit
open Class (isB isB_true isB_false sizI roomI below_drewN)
open Blk (Cfg TbIs kAt)
open Go.Proofs.YtcoolapancdioaaGreatDoor.Row (Chg)
open Bits (SetIs)
open Lis (upd upd_same upd_other lastN_rev rev_upd)
open Go.Proofs.YtcoolapancdioaaGreatDoor.Addr (Tabs)

theorem lput_newC {H : Nat} {d : Ids} {s : St} {m : Nat} (a : Nat) (w : World) (h : Is w H d s m) (ht : Tabs w) (hm : m < 900000) (ho : own s a = true) (hn : bn s a = false) (hf : fr s a = false) :
    Calls Tryz.prog 80 #[.pointer (some ⟨d.L, 0, none⟩), .int .i64 a] w fun e w' => e = .returned (.int .i64 0) ∧ To w w' H d (puS s a) (m + 1) ∧ Chg (lo d) w w' := by
  have hbd := h.wf.own_bd ho
  have hsm := h.sit.ar.small
  have hkl := cls_lt h a
  obtain ⟨m1, m2, m3⟩ := h.cnt
  have hin : hasB d.sw a = false := by rw [h.sw_fr (by omega)]; exact hf
  have hhd : ∀ j, j < 4 → (s.hv j).headD 0 ≤ 1048576 := fun j hj => by have := h.held.head_le hj; omega
  refine (Lis.put_new w h.sit h.tb ht h.wf.right a ho (by omega) (by omega) (by omega) (fun j hj => by rw [lastN_rev]; exact hhd j hj) (fun j hj => by have := m3 j hj; simp; omega) hin).mono ?_
  rintro e w' ⟨rfl, p', c', hS, hC, hO⟩
  rw [lastN_rev, ← List.reverse_cons, rev_upd] at hS
  have hheld := h.held.put h.sit.si.row hkl (by omega) (by omega) (hhd _ hkl) hin
  refine ⟨rfl, ⟨_, h.lists hS hheld (by rw [List.length_set]) hC hO ⟨by omega, by omega, fun j hj => ?_⟩ (h.wf.put ho hn (hhd _ hkl)), hC.mono (fun _ e => .inl e), fun j hj => ?_⟩, hC⟩
  · show ((upd s.hv (cls s a) (a :: s.hv (cls s a))) j).length ≤ m + 1
    by_cases e : j = cls s a
    · subst e; rw [upd_same, List.length_cons]; have := m3 _ hj; omega
    · rw [upd_other _ _ e]; have := m3 j hj; omega
  · rcases hj with e | e | e
    · exact (hO j e).imp (fun e => .inl e) id
    · exact .inl (.inr (.inl e))
    · exact .inl (.inr (.inr e))

/-- What Free tells, and leaves. -/
def frE (s : St) (a : Int) : Int := if bnI s a = true then 0 else 1
def unS (s : St) (a : Nat) : St := { s with bs := Bits.putS (s.ws.length + 1) s.bs a false }
def frS (s : St) (a : Nat) : St := puS (unS s a) a
set_option maxRecDepth 100000 in
set_option maxHeartbeats 4000000 in
theorem free1_any {H : Nat} {d : Ids} {s : St} {m : Nat} (a : Nat) (o q : Nat) (w : World) (h : Is w H d s m) (ht : Tabs w) (hm : m < 800000) (hb : bn s a = true)
    (hq : w.cell? ⟨o, 0, none⟩ = some (.pointer (some ⟨H, 0, none⟩))) (hr : w.cell? ⟨q, 0, none⟩ = some (.int .i64 a)) (hpo : ¬ Mine H d o) (hqo : ¬ Mine H d q) :
    Calls Tryz.prog 86 #[.pointer (some ⟨o, 0, none⟩), .pointer (some ⟨q, 0, none⟩)] w fun e w' => e = .returned (.int .i64 0) ∧ To w w' H d (frS s a) (m + 1) := by
  have hbd := h.wf.bn_bd hb
  have ho := (h.wf.born a hb).1
  have hfr : fr s a = false := by
    rw [fr_false]; intro k hk hmem
    have := (h.wf.free k hk a hmem).2.2.1
    rw [hb] at this; cases this
  have hwf : Wf (unS s a) := h.wf.unbear (a := a) (fun b => by show hasB (Bits.putS _ _ _ _) b = _; rw [putS_has h.born.row (by omega)]; rfl)
  have hn : bn (unS s a) a = false := by show hasB (Bits.putS _ _ _ _) a = false; rw [putS_has h.born.row (by omega), if_pos rfl]
  have hcB := h.cB
  have hcL := h.cL
  have hpl : o < w.heap.size := World.block_lt_of_cell? w _ hq
  have hql : q < w.heap.size := World.block_lt_of_cell? w _ hr
  have hHB : H ≠ d.Bw := by have := h.nd; simp at this; omega
  have HSB := Lib.hid (show ∀ k, ¬ Mine H d k → k ≠ d.Bw from fun k hk e => hk (.inr (.inl (by unfold seven; omega))))
  have HK0 := Lib.hid (show w.drew.cell? ⟨o, 0, none⟩ = some (.pointer (some ⟨H, 0, none⟩)) ∧ w.drew.cell? ⟨q, 0, none⟩ = some (.int .i64 a) ∧ w.drew.cell? ⟨H, 3, none⟩ = some (.pointer (some ⟨d.B, 0, none⟩)) from ⟨hq, hr, hcB⟩)
  have HK4 := Lib.hid (fun (W : World) (h2 : ∀ j, j ≠ d.Bw → W.heap[j]? = (w.drewN 1).heap[j]?) => (⟨(Row.cell_of_block (a := ⟨o, 0, none⟩) (h2 o (HSB.out o hpo))).trans hq, (Row.cell_of_block (a := ⟨q, 0, none⟩) (h2 q (HSB.out q hqo))).trans hr, (Row.cell_of_block (a := ⟨H, 3, none⟩) (h2 H hHB)).trans hcB⟩ : W.cell? ⟨o, 0, none⟩ = some (.pointer (some ⟨H, 0, none⟩)) ∧ W.cell? ⟨q, 0, none⟩ = some (.int .i64 a) ∧ W.cell? ⟨H, 3, none⟩ = some (.pointer (some ⟨d.B, 0, none⟩))))
  have HP1 := Lib.hid (fun n => born_put (a : Int) false _ (h.drewN n) hwf)
  have HKL := Lib.hid (fun (W : World) (h2 : ∀ j, j ≠ d.Bw → W.heap[j]? = (w.drewN 1).heap[j]?) => (Row.cell_of_block (a := ⟨H, 2, none⟩) (h2 H hHB)).trans hcL)
  have HTB := Lib.hid (fun (W : World) (hc : Chg (Mine H d) w W) => h.tabs hc ht)
  have HO := Lib.hid ho
  have HN := Lib.hid hn
  have HFR := Lib.hid (show fr (unS s a) a = false from hfr)
  have hHl := h.ltH
  clear h ht hwf hb hfr
  go_enter Tryz.func86, Tryz.ntmps86
  go_wp2_with fail
  go_region_held3 (fun W => W.cell? ⟨o, 0, none⟩ = some (.pointer (some ⟨H, 0, none⟩)) ∧ W.cell? ⟨q, 0, none⟩ = some (.int .i64 a) ∧ W.cell? ⟨H, 3, none⟩ = some (.pointer (some ⟨d.B, 0, none⟩)))
    (first | exact HK0.out | assumption | exact HK4.out _ h24)
    (first | (go_at_call 77; refine (HP1.out _).mono ?_; rintro e w4 ⟨rfl, hI4, hC4, h24⟩))
  have hS4 : w4.cell? ⟨o, 0, none⟩ = some (.pointer (some ⟨H, 0, none⟩)) ∧ w4.cell? ⟨q, 0, none⟩ = some (.int .i64 a) ∧ w4.cell? ⟨H, 3, none⟩ = some (.pointer (some ⟨d.B, 0, none⟩)) := by assumption
  have hcL4 := HKL.out _ h24
  obtain ⟨d2, d3, _⟩ := hS4
  have HI4 := Lib.hid (show Is w4 H d (unS s a) m from hI4)
  have HC4 := Lib.hid ((Chg.refl (Mine H d) w).drewN 1 |>.trans hC4 (fun _ e => .inl e))
  have HT4 := Lib.hid (HTB.out _ HC4.out)
  have hpl4 : o < w4.heap.size := World.block_lt_of_cell? w4 _ d2
  have hql4 : q < w4.heap.size := World.block_lt_of_cell? w4 _ d3
  have hHl4 := hI4.ltH
  clear HK0 HK4 HKL HP1 hI4 hC4 h24 hq hr hcB hcL
  go_wp2
  have HL := Lib.hid (fun n => lput_newC a _ (HI4.out.drewN n) (HT4.out.drewN n) (by omega) HO.out HN.out HFR.out)
  have HK0 := Lib.hid (show w4.drew.cell? ⟨o, 0, none⟩ = some (.pointer (some ⟨H, 0, none⟩)) ∧ w4.drew.cell? ⟨q, 0, none⟩ = some (.int .i64 a) ∧ w4.drew.cell? ⟨H, 2, none⟩ = some (.pointer (some ⟨d.L, 0, none⟩)) from ⟨d2, d3, hcL4⟩)
  have HK5 : Hid (∀ W : World, Chg (lo d) (w4.drewN 1) W → W.cell? ⟨o, 0, none⟩ = some (.pointer (some ⟨H, 0, none⟩)) ∧ W.cell? ⟨q, 0, none⟩ = some (.int .i64 a) ∧ W.cell? ⟨H, 2, none⟩ = some (.pointer (some ⟨d.L, 0, none⟩))) := Lib.hid fun W hC =>
    ⟨(hC.cell (p := ⟨o, 0, none⟩) hpl4 (fun e => hpo (.inl e))).trans d2, (hC.cell (p := ⟨q, 0, none⟩) hql4 (fun e => hqo (.inl e))).trans d3, (hC.cell (p := ⟨H, 2, none⟩) hHl4 (fun e => HI4.out.ap H e (.inl rfl))).trans hcL4⟩
  go_region_held3 (fun W => W.cell? ⟨o, 0, none⟩ = some (.pointer (some ⟨H, 0, none⟩)) ∧ W.cell? ⟨q, 0, none⟩ = some (.int .i64 a) ∧ W.cell? ⟨H, 2, none⟩ = some (.pointer (some ⟨d.L, 0, none⟩)))
    (first | exact HK0.out | assumption | exact HK5.out _ hT5)
    (first | (go_at_call 80; refine (HL.out _).mono ?_; rintro e w5 ⟨rfl, hT5', hT5⟩))
  all_goals go_wp2
  all_goals go_ret
  all_goals exact ⟨rfl, To.step HC4.out (fun _ e => .inl e) (To.alloc (below_drewN (Below.refl _ _) _) (by assumption))⟩

theorem two_kept0 {w w1 : World} {S : Nat → Prop} {u v : Value} {r t : TypeId} (hn : ∀ k, w.heap.size ≤ k → ¬ S k) (hC : Chg S ((w.alloc (.cells #[u] r)).alloc (.cells #[v] t)) w1) :
    w1.cell? ⟨w.heap.size, 0, none⟩ = some u ∧ w1.cell? ⟨w.heap.size + 1, 0, none⟩ = some v :=
  ⟨(hC.cell (p := ⟨w.heap.size, 0, none⟩) (by simp; omega) (hn w.heap.size (Nat.le_refl _))).trans (by simp), (hC.cell (p := ⟨w.heap.size + 1, 0, none⟩) (by simp) (hn (w.heap.size + 1) (by omega))).trans (by simp)⟩
set_option maxRecDepth 100000 in
set_option maxHeartbeats 2000000 in
theorem free_any {H : Nat} {d : Ids} {s : St} {m : Nat} (a : Int) (w : World) (h : Is w H d s m) (ht : Tabs w) (hm : m < 800000) :
    Calls Tryz.prog 31 #[.pointer (some ⟨H, 0, none⟩), .int .i64 a] w fun e w' => e = .returned (.int .i64 (frE s a)) ∧ To w w' H d (if frE s a = 0 then frS s a.toNat else s) (m + 1) := by
  have hb0 : Below w.heap.size w ((w.alloc (.cells #[.pointer (some ⟨H, 0, none⟩)] 27)).alloc (.cells #[.int .i64 a] 3)) := two_new _ _ _ _
  have HB0 := Lib.hid hb0
  have HH := Lib.hid h
  have HI := Lib.hid (h.later hb0)
  have HN := Lib.hid (show ∀ k, w.heap.size ≤ k → ¬ Mine H d k from fun k hk => not_mine h hk)
  have HTB := Lib.hid (ht.later hb0)
  have HIS := Lib.hid (isO_any a _ (h.later hb0))
  have H2 := Lib.hid (fun (W : World) (hC : Chg (Mine H d) ((w.alloc (.cells #[.pointer (some ⟨H, 0, none⟩)] 27)).alloc (.cells #[.int .i64 a] 3)) W) => two_kept0 (S := Mine H d) HN.out hC)
  unfold frE
  cases hb : bnI s a with
  | false =>
    rw [hb] at HIS
    rw [if_neg (by simp), if_neg (by omega)]
    clear h ht hb0
    go_enter Tryz.func31, Tryz.ntmps31
    go_wp2_with (first
      | go_enter Tryz.func64, Tryz.ntmps64
      | (go_at_call 20; refine HIS.out.mono ?_; rintro e w1 ⟨rfl, q, rfl⟩))
    go_ret
    exact ⟨rfl, To.of_below (HH.out.more (Nat.le_succ _)) (below_drewN HB0.out _)⟩
  | true =>
    rw [hb] at HIS
    rw [if_pos rfl, if_pos rfl]
    obtain ⟨n, rfl⟩ : ∃ n : Nat, a = (n : Int) := by
      have hb2 := hb
      unfold bnI at hb2
      rw [Bool.and_eq_true, decide_eq_true_eq] at hb2
      exact ⟨a.toNat, by omega⟩
    rw [bnI_nat] at hb
    rw [Int.toNat_natCast]
    have HC := Lib.hid (fun (q : Nat) (o p : Nat) hq hr n1 n2 => free1_any (H := H) (d := d) (m := m) n o p _ (HI.out.drewN q) (HTB.out.drewN q) hm hb hq hr n1 n2)
    clear h ht hb0
    go_enter Tryz.func31, Tryz.ntmps31
    go_wp2_with (first
      | go_enter Tryz.func64, Tryz.ntmps64
      | (go_at_call 20; refine HIS.out.mono ?_; rintro e w1 ⟨rfl, q, rfl⟩)
      | (go_at_call 86; refine (HC.out q _ _ (H2.out _ ((Chg.refl _ _).drewN q)).1 (H2.out _ ((Chg.refl _ _).drewN q)).2 (HN.out _ (by omega)) (HN.out _ (by omega))).mono ?_; rintro e w2 ⟨rfl, hT2⟩))
    go_ret
    exact ⟨rfl, To.alloc (below_drewN HB0.out _) hT2⟩
end Go.Proofs.YtcoolapancdioaaGreatDoor.Hp
