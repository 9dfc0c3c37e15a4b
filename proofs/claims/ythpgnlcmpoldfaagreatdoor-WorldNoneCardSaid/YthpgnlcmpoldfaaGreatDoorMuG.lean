/-
  A pick of a mutator that has nothing to do.
-/
import Derived.Test.YthpgnlcmpoldfaaGreatDoorMuF
import Derived.Laws.EntriesVeiled
namespace Go.Proofs.YthpgnlcmpoldfaaGreatDoor.Mu
open Go.RowKit
open Brd (BdIs)
open Lg (BfIs BxIs)
open Go.Proofs.YthpgnlcmpoldfaaGreatDoor.Row (Chg rowB rowB_none other same owns_chg)
open Class (quiet_left)

/-- Cells of a block, as a list. -/
def CellsL (w : World) (M : Nat) (L : List Value) : Prop := ∀ (o : Nat) (v : Value), L[o]? = some v → w.cell? ⟨M, o, none⟩ = some v
theorem CellsL.set {w : World} {M : Nat} {L : List Value} (h : CellsL w M L) (i : Nat) (u : Value) : CellsL (w.setCell ⟨M, i, none⟩ u) M (L.set i u) := fun o v hv => by
  rw [List.getElem?_set] at hv
  by_cases e : i = o
  · subst e
    rw [if_pos rfl] at hv
    by_cases hl : i < L.length
    · rw [if_pos hl] at hv
      cases hv
      exact same (h i _ (List.getElem?_eq_getElem hl))
    · rw [if_neg hl] at hv
      cases hv
  · rw [if_neg e] at hv
    exact (other (fun e2 => e (by first | exact congrArg Addr.off e2 | exact (congrArg Addr.off e2).symm))).trans (h o v hv)
theorem CellsL.later {w w' : World} {M : Nat} {L : List Value} (h : CellsL w M L) (hb : Below w.heap.size w w') : CellsL w' M L := fun o v hv =>
  (hb.cell (p := ⟨M, o, none⟩) (lt_of_cell (h o v hv))).trans (h o v hv)
/-- The cells of a mutator's record. -/
def mutA (S : Nat) (z : Ml) (m : Md) : List Value := [.pointer (some ⟨S, 0, none⟩), .int .i64 z.id, .slice (some ⟨z.G, 0, none⟩) m.rg.length m.rg.length, .pointer (some ⟨z.B, 0, none⟩), .pointer (some ⟨z.N, 0, none⟩), .int .i64 m.mo, .int .i64 m.co, .int .i64 m.tb, .slice z.pp m.pg.length z.cp, .slice z.pr m.rs.length z.cr, .int .i64 m.he, m.nx, .int .i64 m.tk,
  .int .i64 (m.ev 0), .int .i64 (m.ev 1), .int .i64 (m.ev 2), .int .i64 (m.ev 3), .int .i64 (m.ev 4), .int .i64 (m.ev 5), .int .i64 m.mop, .int .i64 m.man]
theorem MIs.cells {w : World} {y : Sy} {T : Nat → Prop} {z : Ml} {m : Md} (h : MIs w y T z m) : CellsL w z.M (mutA y.S z m) := fun o v hv => by
  rcases o with _ | _ | _ | _ | _ | _ | _ | _ | _ | _ | _ | _ | _ | _ | _ | _ | _ | _ | _ | _ | _ | o
  · cases hv; exact h.c0
  · cases hv; exact h.c1
  · cases hv; exact h.c2
  · cases hv; exact h.c3
  · cases hv; exact h.c4
  · cases hv; exact h.c5
  · cases hv; exact h.c6
  · cases hv; exact h.c7
  · cases hv; exact h.c8
  · cases hv; exact h.c9
  · cases hv; exact h.c10
  · cases hv; exact h.c11
  · cases hv; exact h.c12
  · cases hv; exact h.ce 0 (by omega)
  · cases hv; exact h.ce 1 (by omega)
  · cases hv; exact h.ce 2 (by omega)
  · cases hv; exact h.ce 3 (by omega)
  · cases hv; exact h.ce 4 (by omega)
  · cases hv; exact h.ce 5 (by omega)
  · cases hv; exact h.c19
  · cases hv; exact h.c20
  · simp [mutA] at hv
/-- Cells of the record turned. -/
theorem MIs.upd {w w' : World} {y : Sy} {T : Nat → Prop} {z : Ml} {m : Md} (h : MIs w y T z m) (hc : Chg (fun k => k = z.M) w w') {m' : Md} {L : List Value} (hcs : CellsL w' z.M L) (hL : L = mutA y.S z m') (hf : ∀ o, w'.frozen? ⟨z.M, o, none⟩ = w.frozen? ⟨z.M, o, none⟩)
    (e1 : m'.rg = m.rg) (e2 : m'.room = m.room) (e3 : m'.xs = m.xs) (e4 : m'.pg = m.pg) (e5 : m'.rs = m.rs) : MIs w' y T z m' := by
  subst hL
  have hN : z.N ≠ z.M := fun e => h.nN (.inl e)
  have cN : ∀ o v, w.cell? ⟨z.N, o, none⟩ = some v → w'.cell? ⟨z.N, o, none⟩ = some v := fun o _ hv => (hc.cell (p := ⟨z.N, o, none⟩) (h.tl _ h.tN) hN).trans hv
  refine ⟨hcs 0 _ rfl, hcs 1 _ rfl, hcs 2 _ rfl, hcs 3 _ rfl, hcs 4 _ rfl, hcs 5 _ rfl, hcs 6 _ rfl, hcs 7 _ rfl, hcs 8 _ rfl, hcs 9 _ rfl, hcs 10 _ rfl, hcs 11 _ rfl, hcs 12 _ rfl, fun i hi => ?_, hcs 19 _ rfl, hcs 20 _ rfl, fun o => (hf o).trans (h.fz o), fun j hj => ?_, fun j => (hc.frozen (p := ⟨z.G, j, none⟩) h.gl (fun e => h.dMG e.symm)).trans (h.rf j), Nat.lt_of_lt_of_le h.gl hc.size, ?_, cN _ _ h.n0, cN _ _ h.n1, cN _ _ h.n2, cN _ _ h.n3, ?_, h.pc, ?_, h.hT, h.tN, fun k hk => Nat.lt_of_lt_of_le (h.tl k hk) hc.size, h.nN, h.nP, h.dMG, h.dMB, h.dGB, h.dR⟩
  · have : i = 0 ∨ i = 1 ∨ i = 2 ∨ i = 3 ∨ i = 4 ∨ i = 5 := by omega
    rcases this with rfl | rfl | rfl | rfl | rfl | rfl
    · exact hcs 13 _ rfl
    · exact hcs 14 _ rfl
    · exact hcs 15 _ rfl
    · exact hcs 16 _ rfl
    · exact hcs 17 _ rfl
    · exact hcs 18 _ rfl
  · rw [e1] at hj ⊢
    exact (hc.cell (p := ⟨z.G, j, none⟩) h.gl (fun e => h.dMG e.symm)).trans (h.rg j hj)
  · rw [e2, e3]
    exact h.bf.chg hc (fun k hk => hk ▸ h.hT _ (.inl rfl)) (fun e => h.dMB e.symm)
  · rw [e4]
    exact h.pg.chg hc (fun g hg e => (h.nP g hg).2 (.inl e))
  · rw [e5]
    exact owns_chg h.rs hc (fun g hg e => (h.dR g hg).1 e)
/-- The box of an event that is nothing. -/
structure BoxE (w : World) (b : Nat) : Prop where
  b0 : w.cell? ⟨b, 0, none⟩ = some (.int .i64 0)
  b1 : w.cell? ⟨b, 1, none⟩ = some (.int .i64 0)
  b2 : w.cell? ⟨b, 2, none⟩ = some (.int .i64 0)
  b3 : w.cell? ⟨b, 3, none⟩ = some (.int .i64 0)
  b4 : w.cell? ⟨b, 4, none⟩ = some (.int .i64 0)
  b5 : w.cell? ⟨b, 5, none⟩ = some (.int .i64 0)
  f : ∀ o, w.frozen? ⟨b, o, none⟩ = false
theorem BoxE.fresh (w : World) (t : TypeId) : BoxE (w.alloc (.cells #[.int .i64 0, .int .i64 0, .int .i64 0, .int .i64 0, .int .i64 0, .int .i64 0] t)) w.heap.size :=
  ⟨by rw [World.cell?_alloc_new]; rfl, by rw [World.cell?_alloc_new]; rfl, by rw [World.cell?_alloc_new]; rfl, by rw [World.cell?_alloc_new]; rfl, by rw [World.cell?_alloc_new]; rfl, by rw [World.cell?_alloc_new]; rfl, fun o => World.frozen?_alloc_at _ _ _ _ rfl⟩
theorem BoxE.drewN {w : World} {b : Nat} (h : BoxE w b) (q : Nat) : BoxE (w.drewN q) b := ⟨h.b0, h.b1, h.b2, h.b3, h.b4, h.b5, h.f⟩
theorem BoxE.list {w : World} {b : Nat} (h : BoxE w b) : CellsL w b [.int .i64 0, .int .i64 0, .int .i64 0, .int .i64 0, .int .i64 0, .int .i64 0] := fun o v hv => by
  rcases o with _ | _ | _ | _ | _ | _ | o
  · cases hv; exact h.b0
  · cases hv; exact h.b1
  · cases hv; exact h.b2
  · cases hv; exact h.b3
  · cases hv; exact h.b4
  · cases hv; exact h.b5
  · simp at hv
/-- first, where nothing is owed and no operation is left. -/
theorem first_idle {y : Sy} {T : Nat → Prop} {x : Sd} {n nb : Nat} {z : Ml} {m : Md} (w : World) (hs : ShIs w y T x n nb) (h : MIs w y T z m) (hid : z.id < n) (how : x.ow z.id = false) (hle : m.pg.length ≤ m.rs.length) :
    Calls Tryz.prog 62 #[.pointer (some ⟨z.M, 0, none⟩)] w fun e w' => e = .returned .nilFunc ∧ ∃ q, w' = w.drewN q := by
  have c0 := h.c0
  have c1 := h.c1
  have c8 := h.c8
  have c9 := h.c9
  have s1 := hs.c1
  have hl := h.ltM
  have hl2 := hs.ltS
  have HP := Lib.hid (fun q => Brd.pend_shut z.id (w.drewN q) (hs.bd.drewN q) hid how)
  have hlt : ¬ m.rs.length < m.pg.length := by omega
  have hlt2 : ¬ (m.rs.length : Int) < (m.pg.length : Int) := by omega
  clear hs h hid how hle
  go_enter Tryz.func62, Tryz.ntmps62
  go_wp2_with fail
  go_quiet ((go_at_call 86; exact quiet_left (HP.out _)))
  go_wp2_with fail
  go_ret
  exact ⟨rfl, _, rfl⟩
/-- The event let go. -/
theorem MIs.ev0 {w : World} {y : Sy} {T : Nat → Prop} {z : Ml} {m : Md} (h : MIs w y T z m) : MIs ((((((w.setCell ⟨z.M, 13, none⟩ (.int .i64 0)).setCell ⟨z.M, 14, none⟩ (.int .i64 0)).setCell ⟨z.M, 15, none⟩ (.int .i64 0)).setCell ⟨z.M, 16, none⟩ (.int .i64 0)).setCell ⟨z.M, 17, none⟩ (.int .i64 0)).setCell ⟨z.M, 18, none⟩ (.int .i64 0)) y T z { m with ev := fun _ => 0 } ∧ Chg (fun k => k = z.M) w ((((((w.setCell ⟨z.M, 13, none⟩ (.int .i64 0)).setCell ⟨z.M, 14, none⟩ (.int .i64 0)).setCell ⟨z.M, 15, none⟩ (.int .i64 0)).setCell ⟨z.M, 16, none⟩ (.int .i64 0)).setCell ⟨z.M, 17, none⟩ (.int .i64 0)).setCell ⟨z.M, 18, none⟩ (.int .i64 0)) := by
  have hc : Chg (fun k => k = z.M) w ((((((w.setCell ⟨z.M, 13, none⟩ (.int .i64 0)).setCell ⟨z.M, 14, none⟩ (.int .i64 0)).setCell ⟨z.M, 15, none⟩ (.int .i64 0)).setCell ⟨z.M, 16, none⟩ (.int .i64 0)).setCell ⟨z.M, 17, none⟩ (.int .i64 0)).setCell ⟨z.M, 18, none⟩ (.int .i64 0)) := (((((((Chg.refl (fun k => k = z.M) w).set (p := ⟨z.M, 13, none⟩) (.inl rfl) _).set (p := ⟨z.M, 14, none⟩) (.inl rfl) _).set (p := ⟨z.M, 15, none⟩) (.inl rfl) _).set (p := ⟨z.M, 16, none⟩) (.inl rfl) _).set (p := ⟨z.M, 17, none⟩) (.inl rfl) _).set (p := ⟨z.M, 18, none⟩) (.inl rfl) _)
  refine ⟨h.upd hc ((((((h.cells.set 13 _).set 14 _).set 15 _).set 16 _).set 17 _).set 18 _) rfl (fun o => ?_) rfl rfl rfl rfl rfl, hc⟩
  simp only [World.frozen?_setCell]
/-- How many picks it took. -/
theorem MIs.took {w : World} {y : Sy} {T : Nat → Prop} {z : Ml} {m : Md} (h : MIs w y T z m) (k : Int) : MIs (w.setCell ⟨z.M, 12, none⟩ (.int .i64 k)) y T z { m with tk := k } ∧ Chg (fun k => k = z.M) w (w.setCell ⟨z.M, 12, none⟩ (.int .i64 k)) := by
  have hc : Chg (fun k => k = z.M) w (w.setCell ⟨z.M, 12, none⟩ (.int .i64 k)) := (Chg.refl (fun k => k = z.M) w).set (p := ⟨z.M, 12, none⟩) (.inl rfl) _
  exact ⟨h.upd hc (h.cells.set 12 _) rfl (fun o => World.frozen?_setCell ..) rfl rfl rfl rfl rfl, hc⟩
/-- The next step. -/
theorem MIs.next {w : World} {y : Sy} {T : Nat → Prop} {z : Ml} {m : Md} (h : MIs w y T z m) (v : Value) : MIs (w.setCell ⟨z.M, 11, none⟩ v) y T z { m with nx := v } ∧ Chg (fun k => k = z.M) w (w.setCell ⟨z.M, 11, none⟩ v) := by
  have hc : Chg (fun k => k = z.M) w (w.setCell ⟨z.M, 11, none⟩ v) := (Chg.refl (fun k => k = z.M) w).set (p := ⟨z.M, 11, none⟩) (.inl rfl) _
  exact ⟨h.upd hc (h.cells.set 11 _) rfl (fun o => World.frozen?_setCell ..) rfl rfl rfl rfl rfl, hc⟩
theorem CellsL.drew {w : World} {M : Nat} {L : List Value} (h : CellsL w M L) : CellsL w.drew M L := fun o v hv => h o v hv
theorem froz_drew (w : World) (p : Addr) : w.drew.frozen? p = w.frozen? p := rfl
theorem CellsL.oset {w : World} {M b : Nat} {L : List Value} (h : CellsL w M L) (hb : b ≠ M) (i : Nat) (u : Value) : CellsL (w.setCell ⟨b, i, none⟩ u) M L := fun o v hv =>
  (other (fun e2 => hb (by first | exact congrArg Addr.block e2 | exact (congrArg Addr.block e2).symm))).trans (h o v hv)
/-- The end of a pick: the next step is laid, the event told. -/
theorem MIs.fin {w w2 : World} {y : Sy} {T : Nat → Prop} {z : Ml} {m m2 : Md} {b : Nat} (h : MIs w y T z m) (hc : Chg (fun k => k = z.M) w w2) (h2 : MIs w2 y T z m2) (hb : w.heap.size ≤ b) (e1 : m2.rg = m.rg) (e2 : m2.room = m.room) (e3 : m2.xs = m.xs) (e4 : m2.pg = m.pg) (e5 : m2.rs = m.rs) (hbx : CellsL w2 b [.int .i64 0, .int .i64 0, .int .i64 0, .int .i64 0, .int .i64 0, .int .i64 0]) (v v0 v1 v2 v3 v4 v5 : Value) :
    MIs (((((((w2.setCell ⟨z.M, 11, none⟩ v).setCell ⟨b, 0, none⟩ v0).setCell ⟨b, 1, none⟩ v1).setCell ⟨b, 2, none⟩ v2).setCell ⟨b, 3, none⟩ v3).setCell ⟨b, 4, none⟩ v4).setCell ⟨b, 5, none⟩ v5).drew y T z { m2 with nx := v } ∧ Chg (fun k => k = z.M) w (((((((w2.setCell ⟨z.M, 11, none⟩ v).setCell ⟨b, 0, none⟩ v0).setCell ⟨b, 1, none⟩ v1).setCell ⟨b, 2, none⟩ v2).setCell ⟨b, 3, none⟩ v3).setCell ⟨b, 4, none⟩ v4).setCell ⟨b, 5, none⟩ v5).drew ∧ CellsL (((((((w2.setCell ⟨z.M, 11, none⟩ v).setCell ⟨b, 0, none⟩ v0).setCell ⟨b, 1, none⟩ v1).setCell ⟨b, 2, none⟩ v2).setCell ⟨b, 3, none⟩ v3).setCell ⟨b, 4, none⟩ v4).setCell ⟨b, 5, none⟩ v5).drew b [v0, v1, v2, v3, v4, v5] := by
  have hM := h.ltM
  have hne : b ≠ z.M := by omega
  have hcf : Chg (fun k => k = z.M) w (((((((w2.setCell ⟨z.M, 11, none⟩ v).setCell ⟨b, 0, none⟩ v0).setCell ⟨b, 1, none⟩ v1).setCell ⟨b, 2, none⟩ v2).setCell ⟨b, 3, none⟩ v3).setCell ⟨b, 4, none⟩ v4).setCell ⟨b, 5, none⟩ v5).drew := ((((((((hc.set (p := ⟨z.M, 11, none⟩) (.inl rfl) v).set (p := ⟨b, 0, none⟩) (.inr hb) v0).set (p := ⟨b, 1, none⟩) (.inr hb) v1).set (p := ⟨b, 2, none⟩) (.inr hb) v2).set (p := ⟨b, 3, none⟩) (.inr hb) v3).set (p := ⟨b, 4, none⟩) (.inr hb) v4).set (p := ⟨b, 5, none⟩) (.inr hb) v5).drewN 1)
  refine ⟨h.upd hcf (L := (mutA y.S z m2).set 11 v) ?_ rfl (fun o => ?_) e1 e2 e3 e4 e5, hcf, CellsL.drew ?_⟩
  · refine CellsL.drew ?_
    exact (((((((h2.cells.set 11 v).oset hne 0 v0).oset hne 1 v1).oset hne 2 v2).oset hne 3 v3).oset hne 4 v4).oset hne 5 v5)
  · rw [h.fz o, ← h2.fz o]
    rw [froz_drew]
    simp only [World.frozen?_setCell]
  · have hx := (((((((hbx.oset (fun e => hne e.symm) 11 v).set 0 v0).set 1 v1).set 2 v2).set 3 v3).set 4 v4).set 5 v5)
    exact hx
/-- A pick that finds nothing to do. -/
theorem pick_idle {y : Sy} {T : Nat → Prop} {x : Sd} {n nb : Nat} {z : Ml} {m : Md} (w : World) (hs : ShIs w y T x n nb) (h : MIs w y T z m) (hx : ∀ k, ownM z k → ¬ ownS y nb k ∧ k ≠ y.S ∧ ¬ rowB y.px k) (hid : z.id < n) (how : x.ow z.id = false) (hle : m.pg.length ≤ m.rs.length) (hn : m.nx = .nilFunc) :
    Calls Tryz.prog 11 #[.pointer (some ⟨z.M, 0, none⟩)] w fun e w' => e = .returned (.tuple #[.agg #[.int .i64 0, .int .i64 0, .int .i64 0, .int .i64 0, .int .i64 0, .int .i64 0], .bool false]) ∧ ShIs w' y T x n nb ∧ MIs w' y T z { m with ev := fun _ => 0, tk := 1, nx := .nilFunc } ∧ Chg (fun k => k = z.M) w w' := by
  have HS := Lib.hid hs
  have HM := Lib.hid h
  have HX := Lib.hid hx
  have hl := h.ltM
  have e0 := h.ce 0 (by omega)
  have e1 := h.ce 1 (by omega)
  have e2 := h.ce 2 (by omega)
  have e3 := h.ce 3 (by omega)
  have e4 := h.ce 4 (by omega)
  have e5 := h.ce 5 (by omega)
  have f0 := h.fz 13
  have f1 := h.fz 14
  have f2 := h.fz 15
  have f3 := h.fz 16
  have f4 := h.fz 17
  have f5 := h.fz 18
  have f12 := h.fz 12
  have f11 := h.fz 11
  have c12 := h.c12
  have c11 := h.c11
  have HMS : Hid (∀ V, Chg (fun k => k = z.M) w V → ShIs V y T x n nb) := Lib.hid fun V hc => hs.chg hc (fun k hk => hk ▸ h.hT _ (.inl rfl)) (fun k hk => hk ▸ hx _ (.inl rfl))
  have HM1 := Lib.hid h.ev0
  have HA1 : Hid (∀ V : World, Below V.heap.size V (V.alloc (.cells #[.int .i64 0, .int .i64 0, .int .i64 0, .int .i64 0, .int .i64 0, .int .i64 0] 35))) := Lib.hid fun V => (Below.refl _ _).alloc (Nat.le_refl _) _
  have HB1 := Lib.hid (mbusy_no _ (HM1.out.1.later (HA1.out _)) hn)
  have HN := Lib.hid hn
  have HM2 := Lib.hid (HM1.out.1.took 1)
  have HC2 : Hid (Chg (fun k => k = z.M) w (((((((w.setCell ⟨z.M, 13, none⟩ (.int .i64 0)).setCell ⟨z.M, 14, none⟩ (.int .i64 0)).setCell ⟨z.M, 15, none⟩ (.int .i64 0)).setCell ⟨z.M, 16, none⟩ (.int .i64 0)).setCell ⟨z.M, 17, none⟩ (.int .i64 0)).setCell ⟨z.M, 18, none⟩ (.int .i64 0)).setCell ⟨z.M, 12, none⟩ (.int .i64 1))) := Lib.hid (HM1.out.2.trans HM2.out.2 (fun _ e => .inl e))
  have HZ2 : Hid ((((((((w.setCell ⟨z.M, 13, none⟩ (.int .i64 0)).setCell ⟨z.M, 14, none⟩ (.int .i64 0)).setCell ⟨z.M, 15, none⟩ (.int .i64 0)).setCell ⟨z.M, 16, none⟩ (.int .i64 0)).setCell ⟨z.M, 17, none⟩ (.int .i64 0)).setCell ⟨z.M, 18, none⟩ (.int .i64 0)).setCell ⟨z.M, 12, none⟩ (.int .i64 1)).heap.size = w.heap.size) := Lib.hid (by simp)
  have HF : Hid (Calls Tryz.prog 62 #[.pointer (some ⟨z.M, 0, none⟩)] ((((((((w.setCell ⟨z.M, 13, none⟩ (.int .i64 0)).setCell ⟨z.M, 14, none⟩ (.int .i64 0)).setCell ⟨z.M, 15, none⟩ (.int .i64 0)).setCell ⟨z.M, 16, none⟩ (.int .i64 0)).setCell ⟨z.M, 17, none⟩ (.int .i64 0)).setCell ⟨z.M, 18, none⟩ (.int .i64 0)).setCell ⟨z.M, 12, none⟩ (.int .i64 1)).alloc (.cells #[.int .i64 0, .int .i64 0, .int .i64 0, .int .i64 0, .int .i64 0, .int .i64 0] 35)) fun e w' => e = .returned .nilFunc ∧ (MIs w' y T z { m with ev := fun _ => 0, tk := 1 } ∧ BoxE w' w.heap.size ∧ Chg (fun k => k = z.M) w w')) := Lib.hid ((first_idle _ ((HMS.out _ HC2.out).later (HA1.out _)) (HM2.out.1.later (HA1.out _)) hid how hle).mono fun e w' hq => by
    obtain ⟨he, q, rfl⟩ := hq
    refine ⟨he, (HM2.out.1.later (HA1.out _)).later (below_drewN (Below.refl _ _) q), ?_, (HC2.out.alloc _).drewN q⟩
    rw [← HZ2.out]
    exact (BoxE.fresh _ _).drewN q)
  generalize hV : ((((((w.setCell ⟨z.M, 13, none⟩ (.int .i64 0)).setCell ⟨z.M, 14, none⟩ (.int .i64 0)).setCell ⟨z.M, 15, none⟩ (.int .i64 0)).setCell ⟨z.M, 16, none⟩ (.int .i64 0)).setCell ⟨z.M, 17, none⟩ (.int .i64 0)).setCell ⟨z.M, 18, none⟩ (.int .i64 0)).setCell ⟨z.M, 12, none⟩ (.int .i64 1) = V at HF HM2 HC2 HZ2
  subst hV
  clear hs h hx hid how hle hn HM2 HC2
  go_enter Tryz.func11, Tryz.ntmps11
  go_wp2_with (go_at_call 19; refine HB1.out.mono ?_; rintro e w1 ⟨rfl, rfl⟩; clear HB1)
  go_at_call 62
  refine HF.out.mono ?_
  clear e0 e1 e2 e3 e4 e5 f0 f1 f2 f3 f4 f5 f12 f11 c12 c11
  rintro e w2 ⟨rfl, hm2, hbx, hc2⟩
  have HM3 := Lib.hid hm2
  have HC3 := Lib.hid hc2
  have e0 : w2.cell? ⟨z.M, 13, none⟩ = some (.int .i64 0) := hm2.ce 0 (by omega)
  have e1 : w2.cell? ⟨z.M, 14, none⟩ = some (.int .i64 0) := hm2.ce 1 (by omega)
  have e2 : w2.cell? ⟨z.M, 15, none⟩ = some (.int .i64 0) := hm2.ce 2 (by omega)
  have e3 : w2.cell? ⟨z.M, 16, none⟩ = some (.int .i64 0) := hm2.ce 3 (by omega)
  have e4 : w2.cell? ⟨z.M, 17, none⟩ = some (.int .i64 0) := hm2.ce 4 (by omega)
  have e5 : w2.cell? ⟨z.M, 18, none⟩ = some (.int .i64 0) := hm2.ce 5 (by omega)
  have f11 := hm2.fz 11
  have c11 : w2.cell? ⟨z.M, 11, none⟩ = some .nilFunc := (show w2.cell? ⟨z.M, 11, none⟩ = some m.nx from hm2.c11).trans (by rw [HN.out])
  have hl2 := hm2.ltM
  have hlw : w.heap.size < w2.heap.size := lt_of_cell hbx.b0
  have b0 := hbx.b0
  have b1 := hbx.b1
  have b2 := hbx.b2
  have b3 := hbx.b3
  have b4 := hbx.b4
  have b5 := hbx.b5
  have g0 := hbx.f 0
  have g1 := hbx.f 1
  have g2 := hbx.f 2
  have g3 := hbx.f 3
  have g4 := hbx.f 4
  have g5 := hbx.f 5
  have hne : z.M ≠ w.heap.size := by omega
  have HBX : Hid (CellsL w2 w.heap.size [.int .i64 0, .int .i64 0, .int .i64 0, .int .i64 0, .int .i64 0, .int .i64 0]) := Lib.hid hbx.list
  clear hm2 hc2 hbx HF
  go_wp2_with fail
  go_region
  go_wp2_with fail
  have hfin := MIs.fin HM.out HC3.out HM3.out (Nat.le_refl _) rfl rfl rfl rfl rfl HBX.out .nilFunc (.int .i64 0) (.int .i64 0) (.int .i64 0) (.int .i64 0) (.int .i64 0) (.int .i64 0)
  clear e0 e1 e2 e3 e4 e5 f11 c11 b0 b1 b2 b3 b4 b5 g0 g1 g2 g3 g4 g5 hne hlw hl2
  generalize World.drew (World.setCell (World.setCell (World.setCell (World.setCell (World.setCell (World.setCell (World.setCell w2 _ _) _ _) _ _) _ _) _ _) _ _) _ _) = WF at *
  have HFIN := Lib.hid hfin
  have k0 := hfin.2.2 0 _ rfl
  have k1 := hfin.2.2 1 _ rfl
  have k2 := hfin.2.2 2 _ rfl
  have k3 := hfin.2.2 3 _ rfl
  have k4 := hfin.2.2 4 _ rfl
  have k5 := hfin.2.2 5 _ rfl
  clear hfin
  exact bodyPost_ret (v := .tuple #[.agg #[.int .i64 0, .int .i64 0, .int .i64 0, .int .i64 0, .int .i64 0, .int .i64 0], .bool false]) (by simp [results, Tryz.results11, go_sem, k0, k1, k2, k3, k4, k5]) rfl ⟨rfl, HMS.out _ HFIN.out.2.1, HFIN.out.1, HFIN.out.2.1⟩
end Go.Proofs.YthpgnlcmpoldfaaGreatDoor.Mu
