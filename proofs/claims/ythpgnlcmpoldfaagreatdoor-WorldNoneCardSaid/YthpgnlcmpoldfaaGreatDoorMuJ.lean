/-
  A pick of a collector that begins a cycle.
-/
import Derived.Test.YthpgnlcmpoldfaaGreatDoorMuI
namespace Go.Proofs.YthpgnlcmpoldfaaGreatDoor.Mu
open Go.RowKit
open Brd (BdIs allB)
open Go.Proofs.YthpgnlcmpoldfaaGreatDoor.Row (Chg rowB rowB_none other same owns_chg)

/-- The end of a pick: the next step is laid, the event told. -/
theorem CoIs.fin2 {P : Nat → Prop} {w w2 : World} {K S G b : Nat} {x2 : Cd} (h2 : CoIs w2 K S G x2) (hc : Chg P w w2) (hP : P K) (hb : w.heap.size ≤ b) (hbK : b ≠ K) (hbx : CellsL w2 b [.int .i64 0, .int .i64 0, .int .i64 0, .int .i64 0, .int .i64 0, .int .i64 0]) (v v0 v1 v2 v3 v4 v5 : Value) :
    CoIs (((((((w2.setCell ⟨K, 6, none⟩ v).setCell ⟨b, 0, none⟩ v0).setCell ⟨b, 1, none⟩ v1).setCell ⟨b, 2, none⟩ v2).setCell ⟨b, 3, none⟩ v3).setCell ⟨b, 4, none⟩ v4).setCell ⟨b, 5, none⟩ v5).drew K S G { x2 with nx := v } ∧ Chg P w (((((((w2.setCell ⟨K, 6, none⟩ v).setCell ⟨b, 0, none⟩ v0).setCell ⟨b, 1, none⟩ v1).setCell ⟨b, 2, none⟩ v2).setCell ⟨b, 3, none⟩ v3).setCell ⟨b, 4, none⟩ v4).setCell ⟨b, 5, none⟩ v5).drew ∧ Chg (fun k => k = K ∨ k = b) w2 (((((((w2.setCell ⟨K, 6, none⟩ v).setCell ⟨b, 0, none⟩ v0).setCell ⟨b, 1, none⟩ v1).setCell ⟨b, 2, none⟩ v2).setCell ⟨b, 3, none⟩ v3).setCell ⟨b, 4, none⟩ v4).setCell ⟨b, 5, none⟩ v5).drew ∧ CellsL (((((((w2.setCell ⟨K, 6, none⟩ v).setCell ⟨b, 0, none⟩ v0).setCell ⟨b, 1, none⟩ v1).setCell ⟨b, 2, none⟩ v2).setCell ⟨b, 3, none⟩ v3).setCell ⟨b, 4, none⟩ v4).setCell ⟨b, 5, none⟩ v5).drew b [v0, v1, v2, v3, v4, v5] := by
  refine ⟨CoIs.of (L := (collA S G x2).set 6 v) (CellsL.drew ?_) rfl (fun o => ?_), ?_, ?_, CellsL.drew ?_⟩
  · exact (((((((h2.cells.set 6 v).oset hbK 0 v0).oset hbK 1 v1).oset hbK 2 v2).oset hbK 3 v3).oset hbK 4 v4).oset hbK 5 v5)
  · rw [froz_drew]
    simp only [World.frozen?_setCell]
    exact h2.fz o
  · exact ((((((((hc.set (p := ⟨K, 6, none⟩) (.inl hP) v).set (p := ⟨b, 0, none⟩) (.inr hb) v0).set (p := ⟨b, 1, none⟩) (.inr hb) v1).set (p := ⟨b, 2, none⟩) (.inr hb) v2).set (p := ⟨b, 3, none⟩) (.inr hb) v3).set (p := ⟨b, 4, none⟩) (.inr hb) v4).set (p := ⟨b, 5, none⟩) (.inr hb) v5).drewN 1)
  · exact (((((((((Chg.refl (fun k => k = K ∨ k = b) w2).set (p := ⟨K, 6, none⟩) (.inl (.inl rfl)) v).set (p := ⟨b, 0, none⟩) (.inl (.inr rfl)) v0).set (p := ⟨b, 1, none⟩) (.inl (.inr rfl)) v1).set (p := ⟨b, 2, none⟩) (.inl (.inr rfl)) v2).set (p := ⟨b, 3, none⟩) (.inl (.inr rfl)) v3).set (p := ⟨b, 4, none⟩) (.inl (.inr rfl)) v4).set (p := ⟨b, 5, none⟩) (.inl (.inr rfl)) v5).drewN 1)
  · have hx := (((((((hbx.oset (fun e => hbK e.symm) 6 v).set 0 v0).set 1 v1).set 2 v2).set 3 v3).set 4 v4).set 5 v5)
    exact hx
/-- A pick that begins a cycle. -/
theorem cpick_begin {y : Sy} {T : Nat → Prop} {s : Sd} {n nb K G M : Nat} {x : Cd} (w : World) (hs : ShIs w y T s n nb) (h : CoIs w K y.S G x) (hK : Ap y T nb K) (hnb : 1 ≤ nb) (hm : s.s.c.m = (M : Int)) (hall : allB n s.ow = true) (hc0 : 0 ≤ s.count) (hc1 : s.count ≤ 1000000) (hy0 : 0 ≤ x.cy) (hy1 : x.cy ≤ 1000000) (hco : x.co = 0 ∨ x.co = 1) (hn : x.nx = .nilFunc) (hw : x.wi = true) :
    Calls Tryz.prog 28 #[.pointer (some ⟨K, 0, none⟩)] w fun e w' => e = .returned (.tuple #[.agg #[.int .i64 0, .int .i64 M, .int .i64 2, .int .i64 0, .int .i64 0, .int .i64 (x.cy + 1)], .bool true]) ∧ ∃ v, AwV w' w.heap.size K 0 (.func (.func 101) #[.pointer (some ⟨K, 0, none⟩)] #[]) v ∧ ShIs w' y T { s with kind := 1, count := s.count + 1, ow := fun m => decide (m < n) || s.ow m } n nb ∧ CoIs w' K y.S G { cdB x M with nx := v } ∧ Chg (fun k => k = K ∨ k = y.B) w w' := by
  have hl := h.lt
  have hBT : y.B < w.heap.size := hs.ltO (.inr (.inl rfl))
  have hz : ((((((w.setCell ⟨K, 7, none⟩ (.int .i64 0)).setCell ⟨K, 8, none⟩ (.int .i64 0)).setCell ⟨K, 9, none⟩ (.int .i64 0)).setCell ⟨K, 10, none⟩ (.int .i64 0)).setCell ⟨K, 11, none⟩ (.int .i64 0)).setCell ⟨K, 12, none⟩ (.int .i64 0)).heap.size = w.heap.size := by simp
  have hA : Below ((((((w.setCell ⟨K, 7, none⟩ (.int .i64 0)).setCell ⟨K, 8, none⟩ (.int .i64 0)).setCell ⟨K, 9, none⟩ (.int .i64 0)).setCell ⟨K, 10, none⟩ (.int .i64 0)).setCell ⟨K, 11, none⟩ (.int .i64 0)).setCell ⟨K, 12, none⟩ (.int .i64 0)).heap.size ((((((w.setCell ⟨K, 7, none⟩ (.int .i64 0)).setCell ⟨K, 8, none⟩ (.int .i64 0)).setCell ⟨K, 9, none⟩ (.int .i64 0)).setCell ⟨K, 10, none⟩ (.int .i64 0)).setCell ⟨K, 11, none⟩ (.int .i64 0)).setCell ⟨K, 12, none⟩ (.int .i64 0)) (((((((w.setCell ⟨K, 7, none⟩ (.int .i64 0)).setCell ⟨K, 8, none⟩ (.int .i64 0)).setCell ⟨K, 9, none⟩ (.int .i64 0)).setCell ⟨K, 10, none⟩ (.int .i64 0)).setCell ⟨K, 11, none⟩ (.int .i64 0)).setCell ⟨K, 12, none⟩ (.int .i64 0)).alloc (.cells #[.int .i64 0, .int .i64 0, .int .i64 0, .int .i64 0, .int .i64 0, .int .i64 0] 35)) := (Below.refl _ _).alloc (Nat.le_refl _) _
  have hch : Chg (fun k => k = K) w ((((((w.setCell ⟨K, 7, none⟩ (.int .i64 0)).setCell ⟨K, 8, none⟩ (.int .i64 0)).setCell ⟨K, 9, none⟩ (.int .i64 0)).setCell ⟨K, 10, none⟩ (.int .i64 0)).setCell ⟨K, 11, none⟩ (.int .i64 0)).setCell ⟨K, 12, none⟩ (.int .i64 0)) := (((((((Chg.refl (fun k => k = K) w).set (p := ⟨K, 7, none⟩) (.inl rfl) _).set (p := ⟨K, 8, none⟩) (.inl rfl) _).set (p := ⟨K, 9, none⟩) (.inl rfl) _).set (p := ⟨K, 10, none⟩) (.inl rfl) _).set (p := ⟨K, 11, none⟩) (.inl rfl) _).set (p := ⟨K, 12, none⟩) (.inl rfl) _)
  have hs6 : ShIs ((((((w.setCell ⟨K, 7, none⟩ (.int .i64 0)).setCell ⟨K, 8, none⟩ (.int .i64 0)).setCell ⟨K, 9, none⟩ (.int .i64 0)).setCell ⟨K, 10, none⟩ (.int .i64 0)).setCell ⟨K, 11, none⟩ (.int .i64 0)).setCell ⟨K, 12, none⟩ (.int .i64 0)) y T s n nb := hs.chg hch (fun k hk => hk ▸ hK.1) (fun k hk => hk ▸ hK.2)
  have h6 : CoIs ((((((w.setCell ⟨K, 7, none⟩ (.int .i64 0)).setCell ⟨K, 8, none⟩ (.int .i64 0)).setCell ⟨K, 9, none⟩ (.int .i64 0)).setCell ⟨K, 10, none⟩ (.int .i64 0)).setCell ⟨K, 11, none⟩ (.int .i64 0)).setCell ⟨K, 12, none⟩ (.int .i64 0)) K y.S G { x with ev := fun _ => 0 } := CoIs.of (((((((h.cells.set 7 _).set 8 _).set 9 _).set 10 _).set 11 _).set 12 _)) rfl (fun o => by simp only [World.frozen?_setCell]; exact h.fz o)
  have hsV : ShIs (((((((w.setCell ⟨K, 7, none⟩ (.int .i64 0)).setCell ⟨K, 8, none⟩ (.int .i64 0)).setCell ⟨K, 9, none⟩ (.int .i64 0)).setCell ⟨K, 10, none⟩ (.int .i64 0)).setCell ⟨K, 11, none⟩ (.int .i64 0)).setCell ⟨K, 12, none⟩ (.int .i64 0)).alloc (.cells #[.int .i64 0, .int .i64 0, .int .i64 0, .int .i64 0, .int .i64 0, .int .i64 0] 35)) y (fun k => T k ∨ k = w.heap.size) s n nb := hs6.grow hA (fun k hk => hk.imp (fun e => e) (fun e => by rw [hz, e]; exact Nat.le_refl _)) (fun k hk => .inl hk) (fun k hk => by
    rw [World.size_alloc, hz]
    rcases hk with e | e
    · have := hs.tl k e; omega
    · omega)
  have hbx := (BoxE.fresh ((((((w.setCell ⟨K, 7, none⟩ (.int .i64 0)).setCell ⟨K, 8, none⟩ (.int .i64 0)).setCell ⟨K, 9, none⟩ (.int .i64 0)).setCell ⟨K, 10, none⟩ (.int .i64 0)).setCell ⟨K, 11, none⟩ (.int .i64 0)).setCell ⟨K, 12, none⟩ (.int .i64 0)) 35).list
  rw [hz] at hbx
  have HBG := Lib.hid (begin_any (((((((w.setCell ⟨K, 7, none⟩ (.int .i64 0)).setCell ⟨K, 8, none⟩ (.int .i64 0)).setCell ⟨K, 9, none⟩ (.int .i64 0)).setCell ⟨K, 10, none⟩ (.int .i64 0)).setCell ⟨K, 11, none⟩ (.int .i64 0)).setCell ⟨K, 12, none⟩ (.int .i64 0)).alloc (.cells #[.int .i64 0, .int .i64 0, .int .i64 0, .int .i64 0, .int .i64 0, .int .i64 0] 35)) hsV (h6.later hA) ⟨.inl hK.1, hK.2⟩ hm hall hc0 hc1 hy0 hy1 hco)
  have HB := Lib.hid (cbusy_no (((((((w.setCell ⟨K, 7, none⟩ (.int .i64 0)).setCell ⟨K, 8, none⟩ (.int .i64 0)).setCell ⟨K, 9, none⟩ (.int .i64 0)).setCell ⟨K, 10, none⟩ (.int .i64 0)).setCell ⟨K, 11, none⟩ (.int .i64 0)).setCell ⟨K, 12, none⟩ (.int .i64 0)).alloc (.cells #[.int .i64 0, .int .i64 0, .int .i64 0, .int .i64 0, .int .i64 0, .int .i64 0] 35)) (h6.later hA) hn)
  have HHT := Lib.hid hs.hT
  have HTL := Lib.hid hs.tl
  have HBX := Lib.hid hbx
  have HVS : Hid ((((((((w.setCell ⟨K, 7, none⟩ (.int .i64 0)).setCell ⟨K, 8, none⟩ (.int .i64 0)).setCell ⟨K, 9, none⟩ (.int .i64 0)).setCell ⟨K, 10, none⟩ (.int .i64 0)).setCell ⟨K, 11, none⟩ (.int .i64 0)).setCell ⟨K, 12, none⟩ (.int .i64 0)).alloc (.cells #[.int .i64 0, .int .i64 0, .int .i64 0, .int .i64 0, .int .i64 0, .int .i64 0] 35)).heap.size = w.heap.size + 1) := Lib.hid (by rw [World.size_alloc, hz])
  have HWV : Hid (Chg (fun k => k = K) w (((((((w.setCell ⟨K, 7, none⟩ (.int .i64 0)).setCell ⟨K, 8, none⟩ (.int .i64 0)).setCell ⟨K, 9, none⟩ (.int .i64 0)).setCell ⟨K, 10, none⟩ (.int .i64 0)).setCell ⟨K, 11, none⟩ (.int .i64 0)).setCell ⟨K, 12, none⟩ (.int .i64 0)).alloc (.cells #[.int .i64 0, .int .i64 0, .int .i64 0, .int .i64 0, .int .i64 0, .int .i64 0] 35))) := Lib.hid (hch.alloc _)
  have HN := Lib.hid hn
  have HFR : Hid (¬ ownS y nb w.heap.size ∧ w.heap.size ≠ y.S ∧ ¬ rowB y.px w.heap.size) := Lib.hid ⟨fun e => by have := hs.ltO e; omega, fun e => by have := hs.ltS; omega, fun e => by
    obtain ⟨b, off, e1, hcl⟩ := hs.pr 0 (by omega)
    rw [e1] at e
    have hbl : b < w.heap.size := lt_of_cell hcl
    have e : some b = some w.heap.size := e
    injection e with e
    omega⟩
  have HKT := Lib.hid hK
  have e0 := h.ce 0 (by omega)
  have e1 := h.ce 1 (by omega)
  have e2 := h.ce 2 (by omega)
  have e3 := h.ce 3 (by omega)
  have e4 := h.ce 4 (by omega)
  have e5 := h.ce 5 (by omega)
  have f0 := h.fz 7
  have f1 := h.fz 8
  have f2 := h.fz 9
  have f3 := h.fz 10
  have f4 := h.fz 11
  have f5 := h.fz 12
  have c4 := h.c4
  rw [hw] at c4
  have hne : K ≠ w.heap.size := by omega
  clear hs h hK hnb hm hall hc0 hc1 hy0 hy1 hco hn hw hz hA hch hs6 h6 hsV hbx
  go_enter Tryz.func28, Tryz.ntmps28
  go_wp2_with (first
    | (go_at_call 36; refine HB.out.mono ?_; rintro e w1 ⟨rfl, rfl⟩; clear HB)
    | (go_at_call 71; fail))
  go_at_call 71
  refine HBG.out.mono ?_
  clear e0 e1 e2 e3 e4 e5 f0 f1 f2 f3 f4 f5 c4
  rintro e w2 ⟨v, rfl, hv, hs2, h2, hc2⟩
  have HV := Lib.hid hv
  have HS2 := Lib.hid hs2
  have H2 := Lib.hid h2
  have HC2 := Lib.hid hc2
  obtain ⟨a, b, c, rfl, _, _, _, _⟩ := hv
  have hVb : ∀ (i : Nat) (u : Value), ([.int .i64 0, .int .i64 0, .int .i64 0, .int .i64 0, .int .i64 0, .int .i64 0] : List Value)[i]? = some u → w2.cell? ⟨w.heap.size, i, none⟩ = some u := fun i u hu =>
    (hc2.cell (p := ⟨w.heap.size, i, none⟩) (by show w.heap.size < _; rw [HVS.out]; omega) (fun e => by rcases e with e | e <;> simp only at e <;> omega)).trans (HBX.out i u hu)
  have HB2 : Hid (CellsL w2 w.heap.size [.int .i64 0, .int .i64 0, .int .i64 0, .int .i64 0, .int .i64 0, .int .i64 0]) := Lib.hid hVb
  have b0 := hVb 0 _ rfl
  have b1 := hVb 1 _ rfl
  have b2 := hVb 2 _ rfl
  have b3 := hVb 3 _ rfl
  have b4 := hVb 4 _ rfl
  have b5 := hVb 5 _ rfl
  have g : ∀ o, w2.frozen? ⟨w.heap.size, o, none⟩ = false := fun o => (hc2.frozen (p := ⟨w.heap.size, o, none⟩) (by show w.heap.size < _; rw [HVS.out]; omega) (fun e => by rcases e with e | e <;> simp only at e <;> omega)).trans (by
    have := (BoxE.fresh ((((((w.setCell ⟨K, 7, none⟩ (.int .i64 0)).setCell ⟨K, 8, none⟩ (.int .i64 0)).setCell ⟨K, 9, none⟩ (.int .i64 0)).setCell ⟨K, 10, none⟩ (.int .i64 0)).setCell ⟨K, 11, none⟩ (.int .i64 0)).setCell ⟨K, 12, none⟩ (.int .i64 0)) 35).f o
    rw [show ((((((w.setCell ⟨K, 7, none⟩ (.int .i64 0)).setCell ⟨K, 8, none⟩ (.int .i64 0)).setCell ⟨K, 9, none⟩ (.int .i64 0)).setCell ⟨K, 10, none⟩ (.int .i64 0)).setCell ⟨K, 11, none⟩ (.int .i64 0)).setCell ⟨K, 12, none⟩ (.int .i64 0)).heap.size = w.heap.size by simp] at this
    exact this)
  have g0 := g 0
  have g1 := g 1
  have g2 := g 2
  have g3 := g 3
  have g4 := g 4
  have g5 := g 5
  have e0 : w2.cell? ⟨K, 7, none⟩ = some (.int .i64 0) := h2.ce 0 (by omega)
  have e1 : w2.cell? ⟨K, 8, none⟩ = some (.int .i64 M) := h2.ce 1 (by omega)
  have e2 : w2.cell? ⟨K, 9, none⟩ = some (.int .i64 2) := h2.ce 2 (by omega)
  have e3 : w2.cell? ⟨K, 10, none⟩ = some (.int .i64 0) := h2.ce 3 (by omega)
  have e4 : w2.cell? ⟨K, 11, none⟩ = some (.int .i64 0) := h2.ce 4 (by omega)
  have e5 : w2.cell? ⟨K, 12, none⟩ = some (.int .i64 (x.cy + 1)) := h2.ce 5 (by omega)
  have f6 := h2.fz 6
  have c6 : w2.cell? ⟨K, 6, none⟩ = some .nilFunc := (show w2.cell? ⟨K, 6, none⟩ = some x.nx from h2.c6).trans (by rw [HN.out])
  have hlw2 := lt_of_cell b0
  have hlk2 := h2.lt
  clear hs2 h2 hc2 hVb g HBG
  go_wp2_with fail
  go_region
  go_wp2_with fail
  have hP : Chg (fun k => k = K ∨ k = y.B) w w2 := (HWV.out.mono (T := fun k => k = K ∨ k = y.B) (fun k hk => .inl hk)).trans HC2.out (fun k hk => .inl hk)
  have hfin := CoIs.fin2 H2.out hP (.inl rfl) (Nat.le_refl _) (fun e => hne e.symm) HB2.out (.func (.func 175) #[] #[.pointer (some ⟨a, 0, none⟩), .pointer (some ⟨b, 0, none⟩), .pointer (some ⟨c, 0, none⟩)]) (.int .i64 0) (.int .i64 M) (.int .i64 2) (.int .i64 0) (.int .i64 0) (.int .i64 (x.cy + 1))
  clear e0 e1 e2 e3 e4 e5 f6 c6 b0 b1 b2 b3 b4 b5 g0 g1 g2 g3 g4 g5 hlw2 hlk2 hP
  generalize World.drew (World.setCell (World.setCell (World.setCell (World.setCell (World.setCell (World.setCell (World.setCell w2 _ _) _ _) _ _) _ _) _ _) _ _) _ _) = WF at *
  have HFIN := Lib.hid hfin
  have k0 := hfin.2.2.2 0 _ rfl
  have k1 := hfin.2.2.2 1 _ rfl
  have k2 := hfin.2.2.2 2 _ rfl
  have k3 := hfin.2.2.2 3 _ rfl
  have k4 := hfin.2.2.2 4 _ rfl
  have k5 := hfin.2.2.2 5 _ rfl
  clear hfin
  refine bodyPost_ret (v := .tuple #[.agg #[.int .i64 0, .int .i64 M, .int .i64 2, .int .i64 0, .int .i64 0, .int .i64 (x.cy + 1)], .bool true]) (by simp [results, Tryz.results28, go_sem, k0, k1, k2, k3, k4, k5]) rfl ⟨rfl, _, ?_, ?_, HFIN.out.1, HFIN.out.2.1⟩
  · obtain ⟨a', b', c', e, h1, h2, h3, h4⟩ := HV.out.chg HFIN.out.2.2.1 (fun k hk => by rw [HVS.out]; rcases hk with e | e <;> omega)
    rw [HVS.out] at h1 h2 h3
    exact ⟨a', b', c', e, by omega, by omega, by omega, h4⟩
  · have h1 := HS2.out.chg HFIN.out.2.2.1 (fun k hk => by
      rcases hk with e | e
      · rw [e]; exact .inl HKT.out.1
      · exact .inr e) (fun k hk => by
      rcases hk with e | e
      · rw [e]; exact HKT.out.2
      · rw [e]; exact HFR.out)
    exact h1.tag (fun k hk => .inl (.inl hk)) HHT.out (fun k hk => Nat.lt_of_lt_of_le (HTL.out k hk) HFIN.out.2.1.size)
end Go.Proofs.YthpgnlcmpoldfaaGreatDoor.Mu
