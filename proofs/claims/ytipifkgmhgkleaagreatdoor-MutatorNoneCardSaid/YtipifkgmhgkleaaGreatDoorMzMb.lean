/-
  Texts one behind the other: MuF MuG MuH MuI MuJ MuK (theorems that nobody names are left out).
-/
import Derived.Test.YtipifkgmhgkleaaGreatDoorMzMa
import Derived.Laws.EntriesVeiled
import Derived.Test.YtipifkgmhgkleaaGreatDoorMzLa
import Derived.Lib.QuietBelow
namespace Go.Proofs.YtipifkgmhgkleaaGreatDoor.Mu
open Go.RowKit
open Lg (BfIs BxIs)
open Go.Proofs.YtipifkgmhgkleaaGreatDoor.Row (Chg rowB rowB_none cellsZ clone_any Rd)

/-- Of a next step: none, or a closure. -/
def isF (v : Value) : Prop := ∃ f cap, v = .func (.func f) #[] cap
section
variable {y : Sy} {T : Nat → Prop} {z : Ml} {m : Md}
theorem mbusy_no (w : World) (h : MIs w y T z m) (hn : m.nx = .nilFunc) : Calls Tryz.prog 21 #[.pointer (some ⟨z.M, 0, none⟩)] w fun e w' => e = .returned (.bool false) ∧ w' = w := by
  have c := h.c11
  rw [hn] at c
  have hl := h.ltM
  have hqn : ∀ W : World, (binOp .neq 104 .nilFunc .nilFunc).run Tryz.prog W = .ok (.bool false) W := fun _ => by kernel_rfl
  clear h hn
  go_enter Tryz.func21, Tryz.ntmps21
  go_wp2_with fail
  go_ret
  exact ⟨rfl, rfl⟩
theorem mbusy_yes (w : World) (h : MIs w y T z m) (hn : isF m.nx) : Calls Tryz.prog 21 #[.pointer (some ⟨z.M, 0, none⟩)] w fun e w' => e = .returned (.bool true) ∧ w' = w := by
  have c := h.c11
  obtain ⟨f, cap, hn⟩ := hn
  rw [hn] at c
  have hl := h.ltM
  have hqf : ∀ (f : FuncId) (cap : Array Value) (W : World), (binOp .neq 104 (.func (.func f) #[] cap) .nilFunc).run Tryz.prog W = .ok (.bool true) W := fun _ _ _ => by kernel_rfl
  clear h hn
  go_enter Tryz.func21, Tryz.ntmps21
  go_wp2_with fail
  go_ret
  exact ⟨rfl, rfl⟩
theorem mdone_yes (w : World) (h : MIs w y T z m) (hn : isF m.nx) : Calls Tryz.prog 22 #[.pointer (some ⟨z.M, 0, none⟩)] w fun e w' => e = .returned (.bool false) ∧ ∃ q, w' = w.drewN q := by
  have hl := h.ltM
  have HB := Lib.hid (fun q => mbusy_yes (w.drewN q) (h.later (below_drewN (Below.refl _ w) q)) hn)
  clear h hn
  go_enter Tryz.func22, Tryz.ntmps22
  go_wp2_with fail
  go_quiet ((go_at_call 21; exact Calls.quiet_of_same (HB.out _)))
  go_wp2_with fail
  go_ret
  exact ⟨rfl, _, rfl⟩
theorem mdone_no (w : World) (h : MIs w y T z m) (hn : m.nx = .nilFunc) : Calls Tryz.prog 22 #[.pointer (some ⟨z.M, 0, none⟩)] w fun e w' => e = .returned (.bool (decide (m.rs.length = m.pg.length))) ∧ ∃ q, w' = w.drewN q := by
  have hl := h.ltM
  have c8 := h.c8
  have c9 := h.c9
  have HB := Lib.hid (fun q => mbusy_no (w.drewN q) (h.later (below_drewN (Below.refl _ w) q)) hn)
  clear h hn
  go_enter Tryz.func22, Tryz.ntmps22
  go_wp2_with fail
  go_quiet ((go_at_call 21; exact Calls.quiet_of_same (HB.out _)))
  go_wp2_with fail
  go_ret
  refine ⟨?_, _, rfl⟩
  have e : ((m.rs.length : Int) == (m.pg.length : Int)) = decide (m.rs.length = m.pg.length) := by
    rw [Bool.eq_iff_iff]
    simp
    omega
  exact congrArg (fun b => Ending.returned (Value.bool b)) e
end
end Go.Proofs.YtipifkgmhgkleaaGreatDoor.Mu

namespace Go.Proofs.YtipifkgmhgkleaaGreatDoor.Mu
open Go.RowKit
open Brd (BdIs)
open Lg (BfIs BxIs)
open Go.Proofs.YtipifkgmhgkleaaGreatDoor.Row (Chg rowB rowB_none other same owns_chg)
open Class (quiet_left)

/-- Cells of a block, as a list. -/
def CellsL (w : World) (M : Nat) (L : List Value) : Prop := ∀ (o : Nat) (v : Value), L[o]? = some v → w.cell? ⟨M, o, none⟩ = some v
theorem CellsL.set {w : World} {M : Nat} {L : List Value} (h : CellsL w M L) (i : Nat) (u : Value) : CellsL (w.setCell ⟨M, i, none⟩ u) M (L.set i u) := fun o v hv => by
  rw [List.getElem?_set] at hv
  by_cases e : i = o
  · subst e
    rw [if_pos rfl] at hv
    by_cases hl : i < L.length
    · rw [if_pos hl] at hv
      cases hv
      exact same (h i _ (List.getElem?_eq_getElem hl))
    · rw [if_neg hl] at hv
      cases hv
  · rw [if_neg e] at hv
    exact (other (fun e2 => e (by first | exact congrArg Addr.off e2 | exact (congrArg Addr.off e2).symm))).trans (h o v hv)
theorem CellsL.later {w w' : World} {M : Nat} {L : List Value} (h : CellsL w M L) (hb : Below w.heap.size w w') : CellsL w' M L := fun o v hv =>
  (hb.cell (p := ⟨M, o, none⟩) (lt_of_cell (h o v hv))).trans (h o v hv)
/-- The cells of a mutator's record. -/
def mutA (S : Nat) (z : Ml) (m : Md) : List Value := [.pointer (some ⟨S, 0, none⟩), .int .i64 z.id, .slice (some ⟨z.G, 0, none⟩) m.rg.length m.rg.length, .pointer (some ⟨z.B, 0, none⟩), .pointer (some ⟨z.N, 0, none⟩), .int .i64 m.mo, .int .i64 m.co, .int .i64 m.tb, .slice z.pp m.pg.length z.cp, .slice z.pr m.rs.length z.cr, .int .i64 m.he, m.nx, .int .i64 m.tk,
  .int .i64 (m.ev 0), .int .i64 (m.ev 1), .int .i64 (m.ev 2), .int .i64 (m.ev 3), .int .i64 (m.ev 4), .int .i64 (m.ev 5), .int .i64 m.mop, .int .i64 m.man]
theorem MIs.cells {w : World} {y : Sy} {T : Nat → Prop} {z : Ml} {m : Md} (h : MIs w y T z m) : CellsL w z.M (mutA y.S z m) := fun o v hv => by
  rcases o with _ | _ | _ | _ | _ | _ | _ | _ | _ | _ | _ | _ | _ | _ | _ | _ | _ | _ | _ | _ | _ | o
  · cases hv; exact h.c0
  · cases hv; exact h.c1
  · cases hv; exact h.c2
  · cases hv; exact h.c3
  · cases hv; exact h.c4
  · cases hv; exact h.c5
  · cases hv; exact h.c6
  · cases hv; exact h.c7
  · cases hv; exact h.c8
  · cases hv; exact h.c9
  · cases hv; exact h.c10
  · cases hv; exact h.c11
  · cases hv; exact h.c12
  · cases hv; exact h.ce 0 (by omega)
  · cases hv; exact h.ce 1 (by omega)
  · cases hv; exact h.ce 2 (by omega)
  · cases hv; exact h.ce 3 (by omega)
  · cases hv; exact h.ce 4 (by omega)
  · cases hv; exact h.ce 5 (by omega)
  · cases hv; exact h.c19
  · cases hv; exact h.c20
  · simp [mutA] at hv
/-- Cells of the record turned. -/
theorem MIs.upd {w w' : World} {y : Sy} {T : Nat → Prop} {z : Ml} {m : Md} (h : MIs w y T z m) (hc : Chg (fun k => k = z.M) w w') {m' : Md} {L : List Value} (hcs : CellsL w' z.M L) (hL : L = mutA y.S z m') (hf : ∀ o, w'.frozen? ⟨z.M, o, none⟩ = w.frozen? ⟨z.M, o, none⟩)
    (e1 : m'.rg = m.rg) (e2 : m'.room = m.room) (e3 : m'.xs = m.xs) (e4 : m'.pg = m.pg) (e5 : m'.rs = m.rs) : MIs w' y T z m' := by
  subst hL
  have hN : z.N ≠ z.M := fun e => h.nN (.inl e)
  have cN : ∀ o v, w.cell? ⟨z.N, o, none⟩ = some v → w'.cell? ⟨z.N, o, none⟩ = some v := fun o _ hv => (hc.cell (p := ⟨z.N, o, none⟩) (h.tl _ h.tN) hN).trans hv
  refine ⟨hcs 0 _ rfl, hcs 1 _ rfl, hcs 2 _ rfl, hcs 3 _ rfl, hcs 4 _ rfl, hcs 5 _ rfl, hcs 6 _ rfl, hcs 7 _ rfl, hcs 8 _ rfl, hcs 9 _ rfl, hcs 10 _ rfl, hcs 11 _ rfl, hcs 12 _ rfl, fun i hi => ?_, hcs 19 _ rfl, hcs 20 _ rfl, fun o => (hf o).trans (h.fz o), fun j hj => ?_, fun j => (hc.frozen (p := ⟨z.G, j, none⟩) h.gl (fun e => h.dMG e.symm)).trans (h.rf j), Nat.lt_of_lt_of_le h.gl hc.size, ?_, cN _ _ h.n0, cN _ _ h.n1, cN _ _ h.n2, cN _ _ h.n3, ?_, h.pc, ?_, h.hT, h.tN, fun k hk => Nat.lt_of_lt_of_le (h.tl k hk) hc.size, h.nN, h.nP, h.dMG, h.dMB, h.dGB, h.dR⟩
  · have : i = 0 ∨ i = 1 ∨ i = 2 ∨ i = 3 ∨ i = 4 ∨ i = 5 := by omega
    rcases this with rfl | rfl | rfl | rfl | rfl | rfl
    · exact hcs 13 _ rfl
    · exact hcs 14 _ rfl
    · exact hcs 15 _ rfl
    · exact hcs 16 _ rfl
    · exact hcs 17 _ rfl
    · exact hcs 18 _ rfl
  · rw [e1] at hj ⊢
    exact (hc.cell (p := ⟨z.G, j, none⟩) h.gl (fun e => h.dMG e.symm)).trans (h.rg j hj)
  · rw [e2, e3]
    exact h.bf.chg hc (fun k hk => hk ▸ h.hT _ (.inl rfl)) (fun e => h.dMB e.symm)
  · rw [e4]
    exact h.pg.chg hc (fun g hg e => (h.nP g hg).2 (.inl e))
  · rw [e5]
    exact owns_chg h.rs hc (fun g hg e => (h.dR g hg).1 e)
/-- The box of an event that is nothing. -/
structure BoxE (w : World) (b : Nat) : Prop where
  b0 : w.cell? ⟨b, 0, none⟩ = some (.int .i64 0)
  b1 : w.cell? ⟨b, 1, none⟩ = some (.int .i64 0)
  b2 : w.cell? ⟨b, 2, none⟩ = some (.int .i64 0)
  b3 : w.cell? ⟨b, 3, none⟩ = some (.int .i64 0)
  b4 : w.cell? ⟨b, 4, none⟩ = some (.int .i64 0)
  b5 : w.cell? ⟨b, 5, none⟩ = some (.int .i64 0)
  f : ∀ o, w.frozen? ⟨b, o, none⟩ = false
theorem BoxE.fresh (w : World) (t : TypeId) : BoxE (w.alloc (.cells #[.int .i64 0, .int .i64 0, .int .i64 0, .int .i64 0, .int .i64 0, .int .i64 0] t)) w.heap.size :=
  ⟨by rw [World.cell?_alloc_new]; rfl, by rw [World.cell?_alloc_new]; rfl, by rw [World.cell?_alloc_new]; rfl, by rw [World.cell?_alloc_new]; rfl, by rw [World.cell?_alloc_new]; rfl, by rw [World.cell?_alloc_new]; rfl, fun o => World.frozen?_alloc_at _ _ _ _ rfl⟩
theorem BoxE.drewN {w : World} {b : Nat} (h : BoxE w b) (q : Nat) : BoxE (w.drewN q) b := ⟨h.b0, h.b1, h.b2, h.b3, h.b4, h.b5, h.f⟩
theorem BoxE.list {w : World} {b : Nat} (h : BoxE w b) : CellsL w b [.int .i64 0, .int .i64 0, .int .i64 0, .int .i64 0, .int .i64 0, .int .i64 0] := fun o v hv => by
  rcases o with _ | _ | _ | _ | _ | _ | o
  · cases hv; exact h.b0
  · cases hv; exact h.b1
  · cases hv; exact h.b2
  · cases hv; exact h.b3
  · cases hv; exact h.b4
  · cases hv; exact h.b5
  · simp at hv
/-- The event let go. -/
theorem MIs.ev0 {w : World} {y : Sy} {T : Nat → Prop} {z : Ml} {m : Md} (h : MIs w y T z m) : MIs ((((((w.setCell ⟨z.M, 13, none⟩ (.int .i64 0)).setCell ⟨z.M, 14, none⟩ (.int .i64 0)).setCell ⟨z.M, 15, none⟩ (.int .i64 0)).setCell ⟨z.M, 16, none⟩ (.int .i64 0)).setCell ⟨z.M, 17, none⟩ (.int .i64 0)).setCell ⟨z.M, 18, none⟩ (.int .i64 0)) y T z { m with ev := fun _ => 0 } ∧ Chg (fun k => k = z.M) w ((((((w.setCell ⟨z.M, 13, none⟩ (.int .i64 0)).setCell ⟨z.M, 14, none⟩ (.int .i64 0)).setCell ⟨z.M, 15, none⟩ (.int .i64 0)).setCell ⟨z.M, 16, none⟩ (.int .i64 0)).setCell ⟨z.M, 17, none⟩ (.int .i64 0)).setCell ⟨z.M, 18, none⟩ (.int .i64 0)) := by
  have hc : Chg (fun k => k = z.M) w ((((((w.setCell ⟨z.M, 13, none⟩ (.int .i64 0)).setCell ⟨z.M, 14, none⟩ (.int .i64 0)).setCell ⟨z.M, 15, none⟩ (.int .i64 0)).setCell ⟨z.M, 16, none⟩ (.int .i64 0)).setCell ⟨z.M, 17, none⟩ (.int .i64 0)).setCell ⟨z.M, 18, none⟩ (.int .i64 0)) := (((((((Chg.refl (fun k => k = z.M) w).set (p := ⟨z.M, 13, none⟩) (.inl rfl) _).set (p := ⟨z.M, 14, none⟩) (.inl rfl) _).set (p := ⟨z.M, 15, none⟩) (.inl rfl) _).set (p := ⟨z.M, 16, none⟩) (.inl rfl) _).set (p := ⟨z.M, 17, none⟩) (.inl rfl) _).set (p := ⟨z.M, 18, none⟩) (.inl rfl) _)
  refine ⟨h.upd hc ((((((h.cells.set 13 _).set 14 _).set 15 _).set 16 _).set 17 _).set 18 _) rfl (fun o => ?_) rfl rfl rfl rfl rfl, hc⟩
  simp only [World.frozen?_setCell]
/-- How many picks it took. -/
theorem MIs.took {w : World} {y : Sy} {T : Nat → Prop} {z : Ml} {m : Md} (h : MIs w y T z m) (k : Int) : MIs (w.setCell ⟨z.M, 12, none⟩ (.int .i64 k)) y T z { m with tk := k } ∧ Chg (fun k => k = z.M) w (w.setCell ⟨z.M, 12, none⟩ (.int .i64 k)) := by
  have hc : Chg (fun k => k = z.M) w (w.setCell ⟨z.M, 12, none⟩ (.int .i64 k)) := (Chg.refl (fun k => k = z.M) w).set (p := ⟨z.M, 12, none⟩) (.inl rfl) _
  exact ⟨h.upd hc (h.cells.set 12 _) rfl (fun o => World.frozen?_setCell ..) rfl rfl rfl rfl rfl, hc⟩
/-- The next step. -/
theorem MIs.next {w : World} {y : Sy} {T : Nat → Prop} {z : Ml} {m : Md} (h : MIs w y T z m) (v : Value) : MIs (w.setCell ⟨z.M, 11, none⟩ v) y T z { m with nx := v } ∧ Chg (fun k => k = z.M) w (w.setCell ⟨z.M, 11, none⟩ v) := by
  have hc : Chg (fun k => k = z.M) w (w.setCell ⟨z.M, 11, none⟩ v) := (Chg.refl (fun k => k = z.M) w).set (p := ⟨z.M, 11, none⟩) (.inl rfl) _
  exact ⟨h.upd hc (h.cells.set 11 _) rfl (fun o => World.frozen?_setCell ..) rfl rfl rfl rfl rfl, hc⟩
theorem CellsL.drew {w : World} {M : Nat} {L : List Value} (h : CellsL w M L) : CellsL w.drew M L := fun o v hv => h o v hv
theorem froz_drew (w : World) (p : Addr) : w.drew.frozen? p = w.frozen? p := rfl
theorem CellsL.oset {w : World} {M b : Nat} {L : List Value} (h : CellsL w M L) (hb : b ≠ M) (i : Nat) (u : Value) : CellsL (w.setCell ⟨b, i, none⟩ u) M L := fun o v hv =>
  (other (fun e2 => hb (by first | exact congrArg Addr.block e2 | exact (congrArg Addr.block e2).symm))).trans (h o v hv)
/-- The end of a pick: the next step is laid, the event told. -/
theorem MIs.fin {w w2 : World} {y : Sy} {T : Nat → Prop} {z : Ml} {m m2 : Md} {b : Nat} (h : MIs w y T z m) (hc : Chg (fun k => k = z.M) w w2) (h2 : MIs w2 y T z m2) (hb : w.heap.size ≤ b) (e1 : m2.rg = m.rg) (e2 : m2.room = m.room) (e3 : m2.xs = m.xs) (e4 : m2.pg = m.pg) (e5 : m2.rs = m.rs) (hbx : CellsL w2 b [.int .i64 0, .int .i64 0, .int .i64 0, .int .i64 0, .int .i64 0, .int .i64 0]) (v v0 v1 v2 v3 v4 v5 : Value) :
    MIs (((((((w2.setCell ⟨z.M, 11, none⟩ v).setCell ⟨b, 0, none⟩ v0).setCell ⟨b, 1, none⟩ v1).setCell ⟨b, 2, none⟩ v2).setCell ⟨b, 3, none⟩ v3).setCell ⟨b, 4, none⟩ v4).setCell ⟨b, 5, none⟩ v5).drew y T z { m2 with nx := v } ∧ Chg (fun k => k = z.M) w (((((((w2.setCell ⟨z.M, 11, none⟩ v).setCell ⟨b, 0, none⟩ v0).setCell ⟨b, 1, none⟩ v1).setCell ⟨b, 2, none⟩ v2).setCell ⟨b, 3, none⟩ v3).setCell ⟨b, 4, none⟩ v4).setCell ⟨b, 5, none⟩ v5).drew ∧ CellsL (((((((w2.setCell ⟨z.M, 11, none⟩ v).setCell ⟨b, 0, none⟩ v0).setCell ⟨b, 1, none⟩ v1).setCell ⟨b, 2, none⟩ v2).setCell ⟨b, 3, none⟩ v3).setCell ⟨b, 4, none⟩ v4).setCell ⟨b, 5, none⟩ v5).drew b [v0, v1, v2, v3, v4, v5] := by
  have hM := h.ltM
  have hne : b ≠ z.M := by omega
  have hcf : Chg (fun k => k = z.M) w (((((((w2.setCell ⟨z.M, 11, none⟩ v).setCell ⟨b, 0, none⟩ v0).setCell ⟨b, 1, none⟩ v1).setCell ⟨b, 2, none⟩ v2).setCell ⟨b, 3, none⟩ v3).setCell ⟨b, 4, none⟩ v4).setCell ⟨b, 5, none⟩ v5).drew := ((((((((hc.set (p := ⟨z.M, 11, none⟩) (.inl rfl) v).set (p := ⟨b, 0, none⟩) (.inr hb) v0).set (p := ⟨b, 1, none⟩) (.inr hb) v1).set (p := ⟨b, 2, none⟩) (.inr hb) v2).set (p := ⟨b, 3, none⟩) (.inr hb) v3).set (p := ⟨b, 4, none⟩) (.inr hb) v4).set (p := ⟨b, 5, none⟩) (.inr hb) v5).drewN 1)
  refine ⟨h.upd hcf (L := (mutA y.S z m2).set 11 v) ?_ rfl (fun o => ?_) e1 e2 e3 e4 e5, hcf, CellsL.drew ?_⟩
  · refine CellsL.drew ?_
    exact (((((((h2.cells.set 11 v).oset hne 0 v0).oset hne 1 v1).oset hne 2 v2).oset hne 3 v3).oset hne 4 v4).oset hne 5 v5)
  · rw [h.fz o, ← h2.fz o]
    rw [froz_drew]
    simp only [World.frozen?_setCell]
  · have hx := (((((((hbx.oset (fun e => hne e.symm) 11 v).set 0 v0).set 1 v1).set 2 v2).set 3 v3).set 4 v4).set 5 v5)
    exact hx
end Go.Proofs.YtipifkgmhgkleaaGreatDoor.Mu

namespace Go.Proofs.YtipifkgmhgkleaaGreatDoor.Mu
open Go.RowKit
open Brd (BdIs)
open Go.Proofs.YtipifkgmhgkleaaGreatDoor.Row (Chg rowB rowB_none other same owns_chg)
open Class (quiet_left)

/-- The cells of a collector's record. -/
def collA (S G : Nat) (x : Cd) : List Value := [.pointer (some ⟨S, 0, none⟩), .int .i64 x.ph, .int .i64 x.co, .int .i64 x.cy, .bool x.wi, .pointer (some ⟨G, 0, none⟩), x.nx, .int .i64 (x.ev 0), .int .i64 (x.ev 1), .int .i64 (x.ev 2), .int .i64 (x.ev 3), .int .i64 (x.ev 4), .int .i64 (x.ev 5), .int .i64 x.bx, .bool x.ag, .int .i64 x.dr, .int .i64 x.wk]
theorem CoIs.cells {w : World} {K S G : Nat} {x : Cd} (h : CoIs w K S G x) : CellsL w K (collA S G x) := fun o v hv => by
  rcases o with _ | _ | _ | _ | _ | _ | _ | _ | _ | _ | _ | _ | _ | _ | _ | _ | _ | o
  · cases hv; exact h.c0
  · cases hv; exact h.c1
  · cases hv; exact h.c2
  · cases hv; exact h.c3
  · cases hv; exact h.c4
  · cases hv; exact h.c5
  · cases hv; exact h.c6
  · cases hv; exact h.ce 0 (by omega)
  · cases hv; exact h.ce 1 (by omega)
  · cases hv; exact h.ce 2 (by omega)
  · cases hv; exact h.ce 3 (by omega)
  · cases hv; exact h.ce 4 (by omega)
  · cases hv; exact h.ce 5 (by omega)
  · cases hv; exact h.c13
  · cases hv; exact h.c14
  · cases hv; exact h.c15
  · cases hv; exact h.c16
  · simp [collA] at hv
theorem CoIs.of {w : World} {K S G : Nat} {x : Cd} {L : List Value} (h : CellsL w K L) (hL : L = collA S G x) (hf : ∀ o, w.frozen? ⟨K, o, none⟩ = false) : CoIs w K S G x := by
  subst hL
  refine ⟨h 0 _ rfl, h 1 _ rfl, h 2 _ rfl, h 3 _ rfl, h 4 _ rfl, h 5 _ rfl, h 6 _ rfl, fun i hi => ?_, h 13 _ rfl, h 14 _ rfl, h 15 _ rfl, h 16 _ rfl, hf⟩
  have : i = 0 ∨ i = 1 ∨ i = 2 ∨ i = 3 ∨ i = 4 ∨ i = 5 := by omega
  rcases this with rfl | rfl | rfl | rfl | rfl | rfl
  · exact h 7 _ rfl
  · exact h 8 _ rfl
  · exact h 9 _ rfl
  · exact h 10 _ rfl
  · exact h 11 _ rfl
  · exact h 12 _ rfl
/-- The end of a pick that told nothing. -/
theorem CoIs.fin {w : World} {K S G : Nat} {x : Cd} {t : TypeId} (h : CoIs w K S G x) : CoIs (((((((w.setCell ⟨K, 7, none⟩ (.int .i64 0)).setCell ⟨K, 8, none⟩ (.int .i64 0)).setCell ⟨K, 9, none⟩ (.int .i64 0)).setCell ⟨K, 10, none⟩ (.int .i64 0)).setCell ⟨K, 11, none⟩ (.int .i64 0)).setCell ⟨K, 12, none⟩ (.int .i64 0)).alloc (.cells #[.int .i64 0, .int .i64 0, .int .i64 0, .int .i64 0, .int .i64 0, .int .i64 0] t)).drew K S G { x with ev := fun _ => 0 } ∧ Chg (fun k => k = K) w (((((((w.setCell ⟨K, 7, none⟩ (.int .i64 0)).setCell ⟨K, 8, none⟩ (.int .i64 0)).setCell ⟨K, 9, none⟩ (.int .i64 0)).setCell ⟨K, 10, none⟩ (.int .i64 0)).setCell ⟨K, 11, none⟩ (.int .i64 0)).setCell ⟨K, 12, none⟩ (.int .i64 0)).alloc (.cells #[.int .i64 0, .int .i64 0, .int .i64 0, .int .i64 0, .int .i64 0, .int .i64 0] t)).drew ∧ CellsL (((((((w.setCell ⟨K, 7, none⟩ (.int .i64 0)).setCell ⟨K, 8, none⟩ (.int .i64 0)).setCell ⟨K, 9, none⟩ (.int .i64 0)).setCell ⟨K, 10, none⟩ (.int .i64 0)).setCell ⟨K, 11, none⟩ (.int .i64 0)).setCell ⟨K, 12, none⟩ (.int .i64 0)).alloc (.cells #[.int .i64 0, .int .i64 0, .int .i64 0, .int .i64 0, .int .i64 0, .int .i64 0] t)).drew w.heap.size [.int .i64 0, .int .i64 0, .int .i64 0, .int .i64 0, .int .i64 0, .int .i64 0] := by
  have hK := h.lt
  have hA : Below ((((((w.setCell ⟨K, 7, none⟩ (.int .i64 0)).setCell ⟨K, 8, none⟩ (.int .i64 0)).setCell ⟨K, 9, none⟩ (.int .i64 0)).setCell ⟨K, 10, none⟩ (.int .i64 0)).setCell ⟨K, 11, none⟩ (.int .i64 0)).setCell ⟨K, 12, none⟩ (.int .i64 0)).heap.size ((((((w.setCell ⟨K, 7, none⟩ (.int .i64 0)).setCell ⟨K, 8, none⟩ (.int .i64 0)).setCell ⟨K, 9, none⟩ (.int .i64 0)).setCell ⟨K, 10, none⟩ (.int .i64 0)).setCell ⟨K, 11, none⟩ (.int .i64 0)).setCell ⟨K, 12, none⟩ (.int .i64 0)) (((((((w.setCell ⟨K, 7, none⟩ (.int .i64 0)).setCell ⟨K, 8, none⟩ (.int .i64 0)).setCell ⟨K, 9, none⟩ (.int .i64 0)).setCell ⟨K, 10, none⟩ (.int .i64 0)).setCell ⟨K, 11, none⟩ (.int .i64 0)).setCell ⟨K, 12, none⟩ (.int .i64 0)).alloc (.cells #[.int .i64 0, .int .i64 0, .int .i64 0, .int .i64 0, .int .i64 0, .int .i64 0] t)) := (Below.refl _ _).alloc (Nat.le_refl _) _
  have hz : ((((((w.setCell ⟨K, 7, none⟩ (.int .i64 0)).setCell ⟨K, 8, none⟩ (.int .i64 0)).setCell ⟨K, 9, none⟩ (.int .i64 0)).setCell ⟨K, 10, none⟩ (.int .i64 0)).setCell ⟨K, 11, none⟩ (.int .i64 0)).setCell ⟨K, 12, none⟩ (.int .i64 0)).heap.size = w.heap.size := by simp
  have hc6 : CoIs ((((((w.setCell ⟨K, 7, none⟩ (.int .i64 0)).setCell ⟨K, 8, none⟩ (.int .i64 0)).setCell ⟨K, 9, none⟩ (.int .i64 0)).setCell ⟨K, 10, none⟩ (.int .i64 0)).setCell ⟨K, 11, none⟩ (.int .i64 0)).setCell ⟨K, 12, none⟩ (.int .i64 0)) K S G { x with ev := fun _ => 0 } := CoIs.of (((((((h.cells.set 7 _).set 8 _).set 9 _).set 10 _).set 11 _).set 12 _)) rfl (fun o => by simp only [World.frozen?_setCell]; exact h.fz o)
  have hbx := (BoxE.fresh ((((((w.setCell ⟨K, 7, none⟩ (.int .i64 0)).setCell ⟨K, 8, none⟩ (.int .i64 0)).setCell ⟨K, 9, none⟩ (.int .i64 0)).setCell ⟨K, 10, none⟩ (.int .i64 0)).setCell ⟨K, 11, none⟩ (.int .i64 0)).setCell ⟨K, 12, none⟩ (.int .i64 0)) t).list
  rw [hz] at hbx
  have hch : Chg (fun k => k = K) w ((((((w.setCell ⟨K, 7, none⟩ (.int .i64 0)).setCell ⟨K, 8, none⟩ (.int .i64 0)).setCell ⟨K, 9, none⟩ (.int .i64 0)).setCell ⟨K, 10, none⟩ (.int .i64 0)).setCell ⟨K, 11, none⟩ (.int .i64 0)).setCell ⟨K, 12, none⟩ (.int .i64 0)) := (((((((Chg.refl (fun k => k = K) w).set (p := ⟨K, 7, none⟩) (.inl rfl) _).set (p := ⟨K, 8, none⟩) (.inl rfl) _).set (p := ⟨K, 9, none⟩) (.inl rfl) _).set (p := ⟨K, 10, none⟩) (.inl rfl) _).set (p := ⟨K, 11, none⟩) (.inl rfl) _).set (p := ⟨K, 12, none⟩) (.inl rfl) _)
  exact ⟨(hc6.later hA).later (Below.refl _ _).drew, (hch.alloc _).drewN 1, hbx.drew⟩
end Go.Proofs.YtipifkgmhgkleaaGreatDoor.Mu

namespace Go.Proofs.YtipifkgmhgkleaaGreatDoor.Mu
open Go.RowKit
open Brd (BdIs allB)
open Go.Proofs.YtipifkgmhgkleaaGreatDoor.Row (Chg rowB rowB_none other same owns_chg)
open Class (quiet_left)

/-- The closure that awaits: of a collector, a mutator, what comes then. -/
def AwV (w : World) (base K : Nat) (m : Int) (t v : Value) : Prop := ∃ a b c, v = .func (.func 382) #[] #[.pointer (some ⟨a, 0, none⟩), .pointer (some ⟨b, 0, none⟩), .pointer (some ⟨c, 0, none⟩)] ∧ base ≤ a ∧ base ≤ b ∧ base ≤ c ∧
  w.cell? ⟨a, 0, none⟩ = some (.pointer (some ⟨K, 0, none⟩)) ∧ w.cell? ⟨b, 0, none⟩ = some (.int .i64 m) ∧ w.cell? ⟨c, 0, none⟩ = some t
theorem AwV.isF {w : World} {base K : Nat} {m : Int} {t v : Value} (h : AwV w base K m t v) : isF v := by
  obtain ⟨a, b, c, rfl, _⟩ := h
  exact ⟨_, _, rfl⟩
theorem AwV.chg {S : Nat → Prop} {w w' : World} {base K : Nat} {m : Int} {t v : Value} (h : AwV w base K m t v) (hc : Chg S w w') (hS : ∀ k, S k → k < base) : AwV w' base K m t v := by
  obtain ⟨a, b, c, e, ha, hb, hd, c1, c2, c3⟩ := h
  exact ⟨a, b, c, e, ha, hb, hd, (hc.cell (p := ⟨a, 0, none⟩) (lt_of_cell c1) (fun e => by have := hS _ e; simp only at this; omega)).trans c1, (hc.cell (p := ⟨b, 0, none⟩) (lt_of_cell c2) (fun e => by have := hS _ e; simp only at this; omega)).trans c2, (hc.cell (p := ⟨c, 0, none⟩) (lt_of_cell c3) (fun e => by have := hS _ e; simp only at this; omega)).trans c3⟩
theorem await_any (K : Nat) (m : Int) (f : Fn) (pre cap : Array Value) (w : World) : Calls Tryz.prog 378 #[.pointer (some ⟨K, 0, none⟩), .int .i64 m, .func f pre cap] w fun e w' => ∃ v, e = .returned v ∧ AwV w' w.heap.size K m (.func f pre cap) v ∧ Below w.heap.size w w' := by
  go_enter Tryz.func378, Tryz.ntmps378
  go_wp2_with fail
  go_ret
  obtain ⟨w1, hw1⟩ : ∃ w1, w.alloc (.cells #[.pointer (some ⟨K, 0, none⟩)] 228) = w1 := ⟨_, rfl⟩
  have z1 : w1.heap.size = w.heap.size + 1 := by rw [← hw1, World.size_alloc]
  have k1 : w1.cell? ⟨w.heap.size, 0, none⟩ = some (.pointer (some ⟨K, 0, none⟩)) := by rw [← hw1, World.cell?_alloc_new]; rfl
  have B1 : Below w.heap.size w w1 := by rw [← hw1]; exact (Below.refl _ _).alloc (Nat.le_refl _) _
  rw [hw1]
  obtain ⟨w2, hw2⟩ : ∃ w2, w1.alloc (.cells #[.int .i64 m] 3) = w2 := ⟨_, rfl⟩
  have z2 : w2.heap.size = w1.heap.size + 1 := by rw [← hw2, World.size_alloc]
  have k2 : w2.cell? ⟨w1.heap.size, 0, none⟩ = some (.int .i64 m) := by rw [← hw2, World.cell?_alloc_new]; rfl
  have B2 : Below w1.heap.size w1 w2 := by rw [← hw2]; exact (Below.refl _ _).alloc (Nat.le_refl _) _
  rw [hw2]
  obtain ⟨w3, hw3⟩ : ∃ w3, w2.alloc (.cells #[.func f pre cap] 104) = w3 := ⟨_, rfl⟩
  have k3 : w3.cell? ⟨w2.heap.size, 0, none⟩ = some (.func f pre cap) := by rw [← hw3, World.cell?_alloc_new]; rfl
  have B3 : Below w2.heap.size w2 w3 := by rw [← hw3]; exact (Below.refl _ _).alloc (Nat.le_refl _) _
  rw [hw3]
  have B13 : Below w1.heap.size w1 w3 := B2.trans (B3.mono B2.size)
  refine ⟨_, rfl, ⟨w.heap.size, w.heap.size + 1, w.heap.size + 1 + 1, rfl, by omega, by omega, by omega, (B13.cell (p := ⟨w.heap.size, 0, none⟩) (lt_of_cell k1)).trans k1, ?_, ?_⟩, B1.trans (B13.mono B1.size)⟩
  · rw [← z1]
    exact (B3.cell (p := ⟨w1.heap.size, 0, none⟩) (lt_of_cell k2)).trans k2
  · rw [← z1, ← z2]
    exact k3
theorem tell_any {y : Sy} {T : Nat → Prop} {s : Sd} {n nb K G M : Nat} {x : Cd} (kind value : Int) (w : World) (hs : ShIs w y T s n nb) (hm : s.s.c.m = (M : Int)) (h : CoIs w K y.S G x) : Calls Tryz.prog 374 #[.pointer (some ⟨K, 0, none⟩), .int .i64 kind, .int .i64 value] w fun e w' => e = .returned (.tuple #[]) ∧ CoIs w' K y.S G { x with ev := fun i => if i = 1 then (M : Int) else if i = 2 then kind else if i = 5 then value else 0 } ∧ Chg (fun k => k = K) w w' := by
  have HCF := Lib.hid (Hp.config_any w hs.hp)
  rw [hm] at HCF
  have H := Lib.hid h
  have hfB := fieldB_cfg
  have c0 := h.c0
  have s0 := hs.c0
  have hl := h.lt
  have hl2 := hs.ltS
  clear hs hm h
  go_enter Tryz.func374, Tryz.ntmps374
  go_wp2_with (go_at_call 45; refine HCF.out.mono ?_; rintro e w2 ⟨rfl, hb2⟩; have hc2 : CoIs w2 K y.S G x := H.out.later hb2; have HC2 := Lib.hid hc2; have HB2 := Lib.hid hb2; have hl2 := hc2.lt; have e0 := hc2.ce 0 (by omega); have e1 := hc2.ce 1 (by omega); have e2 := hc2.ce 2 (by omega); have e3 := hc2.ce 3 (by omega); have e4 := hc2.ce 4 (by omega); have e5 := hc2.ce 5 (by omega); have f0 := hc2.fz 7; have f1 := hc2.fz 8; have f2 := hc2.fz 9; have f3 := hc2.fz 10; have f4 := hc2.fz 11; have f5 := hc2.fz 12; clear hb2 hc2)
  have HF : Hid (CoIs ((((((w2.setCell ⟨K, 7, none⟩ (.int .i64 0)).setCell ⟨K, 8, none⟩ (.int .i64 M)).setCell ⟨K, 9, none⟩ (.int .i64 kind)).setCell ⟨K, 10, none⟩ (.int .i64 0)).setCell ⟨K, 11, none⟩ (.int .i64 0)).setCell ⟨K, 12, none⟩ (.int .i64 value)) K y.S G { x with ev := fun i => if i = 1 then (M : Int) else if i = 2 then kind else if i = 5 then value else 0 }) :=
    Lib.hid (CoIs.of (((((((HC2.out.cells.set 7 _).set 8 _).set 9 _).set 10 _).set 11 _).set 12 _)) rfl (fun o => by simp only [World.frozen?_setCell]; exact HC2.out.fz o))
  have hbc : Chg (fun k => k = K) w w2 := Chg.mono (Chg.of_below (S := fun _ => False) HB2.out) (fun _ e => e.elim)
  exact bodyPost_end (results_none rfl _ _ _) rfl ⟨rfl, HF.out, ((((((hbc.set (p := ⟨K, 7, none⟩) (.inl rfl) _).set (p := ⟨K, 8, none⟩) (.inl rfl) _).set (p := ⟨K, 9, none⟩) (.inl rfl) _).set (p := ⟨K, 10, none⟩) (.inl rfl) _).set (p := ⟨K, 11, none⟩) (.inl rfl) _).set (p := ⟨K, 12, none⟩) (.inl rfl) _)⟩
/-- The board turned. -/
theorem ShIs.board {w w' : World} {y : Sy} {T : Nat → Prop} {x : Sd} {n nb : Nat} (h : ShIs w y T x n nb) (hc : Chg (fun k => k = y.B) w w') {kind count : Int} {ow : Nat → Bool} (hb : BdIs w' y.B y.B n kind count ow) : ShIs w' y T { x with kind := kind, count := count, ow := ow } n nb :=
  have hB : ownS y nb y.B := .inr (.inl rfl)
  have hS : y.S ≠ y.B := fun e => h.nS (e ▸ hB)
  { h with
    c0 := (hc.cell (p := ⟨y.S, 0, none⟩) h.ltS hS).trans h.c0
    c1 := (hc.cell (p := ⟨y.S, 1, none⟩) h.ltS hS).trans h.c1
    c2 := (hc.cell (p := ⟨y.S, 2, none⟩) h.ltS hS).trans h.c2
    c3 := (hc.cell (p := ⟨y.S, 3, none⟩) h.ltS hS).trans h.c3
    c4 := (hc.cell (p := ⟨y.S, 4, none⟩) h.ltS hS).trans h.c4
    hp := h.hp.chg hc (fun k hk e => h.dHB (e ▸ hk))
    bd := hb
    qu := h.qu.chg hc (fun k hk e => (h.dHQ k hk).2.1 e)
    fl := (hc.cell (p := ⟨y.F, 0, none⟩) (show y.F < _ from lt_of_cell h.fl) h.dF.2).trans h.fl
    ff := (hc.frozen (p := ⟨y.F, 0, none⟩) (show y.F < _ from lt_of_cell h.fl) h.dF.2).trans h.ff
    bx := fun i hi => (h.bx i hi).chg hc (fun k hk => hk ▸ h.hT _ hB) (h.dX i hi).2.1
    pr := fun i hi => by
      obtain ⟨b, off, e, hcl⟩ := h.pr i hi
      exact ⟨b, off, e, (hc.cell (p := ⟨b, off + i, none⟩) (show b < _ from lt_of_cell hcl) (fun e2 => h.nP b (by rw [e]; rfl) (by rw [show b = y.B from e2]; exact hB))).trans hcl⟩
    tl := fun k hk => Nat.lt_of_lt_of_le (h.tl k hk) hc.size }
/-- Blocks of a collector, beside what is shared. -/
def Ap (y : Sy) (T : Nat → Prop) (nb K : Nat) : Prop := T K ∧ ¬ ownS y nb K ∧ K ≠ y.S ∧ ¬ rowB y.px K
/-- A request, and the step that awaits its answers. -/
theorem ask_any {y : Sy} {T : Nat → Prop} {s : Sd} {n nb K G : Nat} {x : Cd} (p : Int) (f : Fn) (pre cap : Array Value) (w : World) (hs : ShIs w y T s n nb) (h : CoIs w K y.S G x) (hK : Ap y T nb K) (hall : allB n s.ow = true) (hc0 : 0 ≤ s.count) (hc1 : s.count ≤ 1000000) :
    Calls Tryz.prog 375 #[.pointer (some ⟨K, 0, none⟩), .int .i64 p, .func f pre cap] w fun e w' => ∃ v, e = .returned v ∧ AwV w' w.heap.size K 0 (.func f pre cap) v ∧ ShIs w' y T { s with kind := p, count := s.count + 1, ow := fun m => decide (m < n) || s.ow m } n nb ∧ CoIs w' K y.S G { x with ph := p } ∧ Chg (fun k => k = K ∨ k = y.B) w w' := by
  have hKB : K ≠ y.B := fun e => hK.2.1 (.inr (.inl e))
  have hch : Chg (fun k => k = K) w (w.setCell ⟨K, 1, none⟩ (.int .i64 p)) := (Chg.refl (fun k => k = K) w).set (p := ⟨K, 1, none⟩) (.inl rfl) _
  have hs1 := hs.chg hch (fun k hk => hk ▸ hK.1) (fun k hk => hk ▸ hK.2)
  have h1 : CoIs (w.setCell ⟨K, 1, none⟩ (.int .i64 p)) K y.S G { x with ph := p } := CoIs.of (h.cells.set 1 _) rfl (fun o => by rw [World.frozen?_setCell]; exact h.fz o)
  have HA := Lib.hid (Brd.ask_yes p _ hs1.bd hall hc0 hc1)
  have HS1 := Lib.hid hs1
  have H1 := Lib.hid h1
  have HCH := Lib.hid hch
  have HKB := Lib.hid hKB
  have hz : (w.setCell ⟨K, 1, none⟩ (.int .i64 p)).heap.size = w.heap.size := by simp
  have HZ := Lib.hid hz
  have c0 := h.c0
  have c1 := h.c1
  have f1 := h.fz 1
  have s1 := hs.c1
  have hl := h.lt
  have hl2 := hs.ltS
  have hne := hK.2.2.1
  have HAW := Lib.hid (fun V => await_any K 0 f pre cap V)
  clear hs h hK hall hc0 hc1 hKB hch hs1 h1 hz
  go_enter Tryz.func375, Tryz.ntmps375
  go_wp2_with (go_at_call 377; fail)
  refine HA.out.mono ?_
  rintro e w2 ⟨rfl, hb2, hc2⟩
  have HB2 := Lib.hid hb2
  have HC2 := Lib.hid hc2
  clear hb2 hc2 HA c0 c1 f1 s1 hl hl2 hne
  go_wp2_with (go_at_call 378; fail)
  refine (HAW.out w2).mono ?_
  rintro e w3 ⟨v, rfl, hv, hb3⟩
  have HV := Lib.hid hv
  have HB3 := Lib.hid hb3
  clear hv hb3 HAW
  go_wp2_with fail
  go_ret
  have hz2 : w.heap.size ≤ w2.heap.size := by have := HC2.out.size; rw [HZ.out] at this; exact this
  refine ⟨v, rfl, ?_, (HS1.out.board HC2.out HB2.out).later HB3.out, (H1.out.chg HC2.out HKB.out).later HB3.out, ?_⟩
  · obtain ⟨a, b, c, e, h1, h2, h3, h4⟩ := HV.out
    exact ⟨a, b, c, e, by omega, by omega, by omega, h4⟩
  · have h2 := (HCH.out.mono (T := fun k => k = K ∨ k = y.B) (fun k hk => .inl hk)).trans HC2.out (fun k hk => .inl (.inr hk))
    exact h2.trans (Chg.of_below (S := fun _ => False) HB3.out) (fun k e => e.elim)
/-- What a collector holds once a cycle has begun. -/
def cdB (x : Cd) (M : Nat) : Cd := { x with wi := false, cy := x.cy + 1, co := 1 - x.co, ph := 1, ev := fun i => if i = 1 then (M : Int) else if i = 2 then 2 else if i = 5 then x.cy + 1 else 0 }
/-- begin: a cycle begins. -/
theorem begin_any {y : Sy} {T : Nat → Prop} {s : Sd} {n nb K G M : Nat} {x : Cd} (w : World) (hs : ShIs w y T s n nb) (h : CoIs w K y.S G x) (hK : Ap y T nb K) (hm : s.s.c.m = (M : Int)) (hall : allB n s.ow = true) (hc0 : 0 ≤ s.count) (hc1 : s.count ≤ 1000000) (hy0 : 0 ≤ x.cy) (hy1 : x.cy ≤ 1000000) (hco : x.co = 0 ∨ x.co = 1) :
    Calls Tryz.prog 373 #[.pointer (some ⟨K, 0, none⟩)] w fun e w' => ∃ v, e = .returned v ∧ AwV w' w.heap.size K 0 (.func (.func 376) #[.pointer (some ⟨K, 0, none⟩)] #[]) v ∧ ShIs w' y T { s with kind := 1, count := s.count + 1, ow := fun m => decide (m < n) || s.ow m } n nb ∧ CoIs w' K y.S G (cdB x M) ∧ Chg (fun k => k = K ∨ k = y.B) w w' := by
  have hch : Chg (fun k => k = K) w (((w.setCell ⟨K, 4, none⟩ (.bool false)).setCell ⟨K, 3, none⟩ (.int .i64 (x.cy + 1))).setCell ⟨K, 2, none⟩ (.int .i64 (1 - x.co))) := ((((Chg.refl (fun k => k = K) w).set (p := ⟨K, 4, none⟩) (.inl rfl) _).set (p := ⟨K, 3, none⟩) (.inl rfl) _).set (p := ⟨K, 2, none⟩) (.inl rfl) _)
  have hs1 : ShIs (((w.setCell ⟨K, 4, none⟩ (.bool false)).setCell ⟨K, 3, none⟩ (.int .i64 (x.cy + 1))).setCell ⟨K, 2, none⟩ (.int .i64 (1 - x.co))) y T s n nb := hs.chg hch (fun k hk => hk ▸ hK.1) (fun k hk => hk ▸ hK.2)
  have h1 : CoIs (((w.setCell ⟨K, 4, none⟩ (.bool false)).setCell ⟨K, 3, none⟩ (.int .i64 (x.cy + 1))).setCell ⟨K, 2, none⟩ (.int .i64 (1 - x.co))) K y.S G { x with wi := false, cy := x.cy + 1, co := 1 - x.co } := CoIs.of (((h.cells.set 4 _).set 3 _).set 2 _) rfl (fun o => by simp only [World.frozen?_setCell]; exact h.fz o)
  have HT := Lib.hid (tell_any 2 (x.cy + 1) _ hs1 hm h1)
  have HS1 := Lib.hid hs1
  have HCH := Lib.hid hch
  have HK := Lib.hid hK
  have HZ : Hid ((((w.setCell ⟨K, 4, none⟩ (.bool false)).setCell ⟨K, 3, none⟩ (.int .i64 (x.cy + 1))).setCell ⟨K, 2, none⟩ (.int .i64 (1 - x.co))).heap.size = w.heap.size) := Lib.hid (by simp)
  have HA := Lib.hid (fun (V : World) (x' : Cd) (f : Fn) (pre cap : Array Value) (a : ShIs V y T s n nb) (b : CoIs V K y.S G x') => ask_any 1 f pre cap V a b hK hall hc0 hc1)
  have c2 := h.c2
  have c3 := h.c3
  have c4 := h.c4
  have f2 := h.fz 2
  have f3 := h.fz 3
  have f4 := h.fz 4
  have hl := h.lt
  have o0 : 0 ≤ 1 - x.co := by omega
  have o1 : 1 - x.co ≤ 1 := by omega
  clear hs h hK hm hall hc0 hc1 hch hs1 h1 hco
  go_enter Tryz.func373, Tryz.ntmps373
  go_wp2_with (go_at_call 374; fail)
  refine HT.out.mono ?_
  rintro e w2 ⟨rfl, h2, hc2⟩
  have H2 := Lib.hid h2
  have HC2 := Lib.hid hc2
  have HS2 := Lib.hid (HS1.out.chg hc2 (fun k hk => hk ▸ HK.out.1) (fun k hk => hk ▸ HK.out.2))
  clear h2 hc2 HT c2 c3 c4 f2 f3 f4 hl o0 o1
  go_wp2_with (go_at_call 375; fail)
  refine (HA.out w2 _ _ _ _ HS2.out H2.out).mono ?_
  rintro e w3 ⟨v, rfl, hv, hs3, h3, hc3⟩
  have HV := Lib.hid hv
  have HS3 := Lib.hid hs3
  have H3 := Lib.hid h3
  have HC3 := Lib.hid hc3
  clear hv hs3 h3 hc3 HA
  go_wp2_with fail
  go_ret
  have hz2 : w.heap.size ≤ w2.heap.size := by have := HC2.out.size; rw [HZ.out] at this; exact this
  have h12 : Chg (fun k => k = K) w w2 := HCH.out.trans HC2.out (fun k e => .inl e)
  refine ⟨v, rfl, ?_, HS3.out, H3.out, (h12.mono (T := fun k => k = K ∨ k = y.B) (fun k hk => .inl hk)).trans HC3.out (fun k hk => .inl hk)⟩
  obtain ⟨a, b, c, e, h1, h2, h3, h4⟩ := HV.out
  exact ⟨a, b, c, e, by omega, by omega, by omega, h4⟩
end Go.Proofs.YtipifkgmhgkleaaGreatDoor.Mu

namespace Go.Proofs.YtipifkgmhgkleaaGreatDoor.Mu
open Go.RowKit
open Brd (BdIs allB)
open Go.Proofs.YtipifkgmhgkleaaGreatDoor.Row (Chg rowB rowB_none other same owns_chg)

end Go.Proofs.YtipifkgmhgkleaaGreatDoor.Mu

namespace Go.Proofs.YtipifkgmhgkleaaGreatDoor.Mu
open Go.RowKit
open Brd (BdIs allB)
open Go.Proofs.YtipifkgmhgkleaaGreatDoor.Row (Chg rowB rowB_none other same owns_chg)
open Class (quiet_left)

end Go.Proofs.YtipifkgmhgkleaaGreatDoor.Mu
