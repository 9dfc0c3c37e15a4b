/-
  A pick of a collector that has nothing to do; of what all has answered.
-/
import Derived.Test.YthpgnlcmpoldfaaGreatDoorMuG
namespace Go.Proofs.YthpgnlcmpoldfaaGreatDoor.Mu
open Go.RowKit
open Brd (BdIs)
open Go.Proofs.YthpgnlcmpoldfaaGreatDoor.Row (Chg rowB rowB_none other same owns_chg)
open Class (quiet_left)

/-- The cells of a collector's record. -/
def collA (S G : Nat) (x : Cd) : List Value := [.pointer (some ⟨S, 0, none⟩), .int .i64 x.ph, .int .i64 x.co, .int .i64 x.cy, .bool x.wi, .pointer (some ⟨G, 0, none⟩), x.nx, .int .i64 (x.ev 0), .int .i64 (x.ev 1), .int .i64 (x.ev 2), .int .i64 (x.ev 3), .int .i64 (x.ev 4), .int .i64 (x.ev 5), .int .i64 x.bx, .bool x.ag, .int .i64 x.dr, .int .i64 x.wk]
theorem CoIs.cells {w : World} {K S G : Nat} {x : Cd} (h : CoIs w K S G x) : CellsL w K (collA S G x) := fun o v hv => by
  rcases o with _ | _ | _ | _ | _ | _ | _ | _ | _ | _ | _ | _ | _ | _ | _ | _ | _ | o
  · cases hv; exact h.c0
  · cases hv; exact h.c1
  · cases hv; exact h.c2
  · cases hv; exact h.c3
  · cases hv; exact h.c4
  · cases hv; exact h.c5
  · cases hv; exact h.c6
  · cases hv; exact h.ce 0 (by omega)
  · cases hv; exact h.ce 1 (by omega)
  · cases hv; exact h.ce 2 (by omega)
  · cases hv; exact h.ce 3 (by omega)
  · cases hv; exact h.ce 4 (by omega)
  · cases hv; exact h.ce 5 (by omega)
  · cases hv; exact h.c13
  · cases hv; exact h.c14
  · cases hv; exact h.c15
  · cases hv; exact h.c16
  · simp [collA] at hv
theorem CoIs.of {w : World} {K S G : Nat} {x : Cd} {L : List Value} (h : CellsL w K L) (hL : L = collA S G x) (hf : ∀ o, w.frozen? ⟨K, o, none⟩ = false) : CoIs w K S G x := by
  subst hL
  refine ⟨h 0 _ rfl, h 1 _ rfl, h 2 _ rfl, h 3 _ rfl, h 4 _ rfl, h 5 _ rfl, h 6 _ rfl, fun i hi => ?_, h 13 _ rfl, h 14 _ rfl, h 15 _ rfl, h 16 _ rfl, hf⟩
  have : i = 0 ∨ i = 1 ∨ i = 2 ∨ i = 3 ∨ i = 4 ∨ i = 5 := by omega
  rcases this with rfl | rfl | rfl | rfl | rfl | rfl
  · exact h 7 _ rfl
  · exact h 8 _ rfl
  · exact h 9 _ rfl
  · exact h 10 _ rfl
  · exact h 11 _ rfl
  · exact h 12 _ rfl
theorem cbusy_no {K S G : Nat} {x : Cd} (w : World) (h : CoIs w K S G x) (hn : x.nx = .nilFunc) : Calls Tryz.prog 36 #[.pointer (some ⟨K, 0, none⟩)] w fun e w' => e = .returned (.bool false) ∧ w' = w := by
  have c := h.c6
  rw [hn] at c
  have hl := h.lt
  have hqn : ∀ W : World, (binOp .neq 104 .nilFunc .nilFunc).run Tryz.prog W = .ok (.bool false) W := fun _ => by kernel_rfl
  clear h hn
  go_enter Tryz.func36, Tryz.ntmps36
  go_wp2_with fail
  go_ret
  exact ⟨rfl, rfl⟩
theorem cbusy_yes {K S G : Nat} {x : Cd} (w : World) (h : CoIs w K S G x) (hn : isF x.nx) : Calls Tryz.prog 36 #[.pointer (some ⟨K, 0, none⟩)] w fun e w' => e = .returned (.bool true) ∧ w' = w := by
  have c := h.c6
  obtain ⟨f, cap, hn⟩ := hn
  rw [hn] at c
  have hl := h.lt
  have hqf : ∀ (f : FuncId) (cap : Array Value) (W : World), (binOp .neq 104 (.func (.func f) #[] cap) .nilFunc).run Tryz.prog W = .ok (.bool true) W := fun _ _ _ => by kernel_rfl
  clear h hn
  go_enter Tryz.func36, Tryz.ntmps36
  go_wp2_with fail
  go_ret
  exact ⟨rfl, rfl⟩
/-- The end of a pick that told nothing. -/
theorem CoIs.fin {w : World} {K S G : Nat} {x : Cd} {t : TypeId} (h : CoIs w K S G x) : CoIs (((((((w.setCell ⟨K, 7, none⟩ (.int .i64 0)).setCell ⟨K, 8, none⟩ (.int .i64 0)).setCell ⟨K, 9, none⟩ (.int .i64 0)).setCell ⟨K, 10, none⟩ (.int .i64 0)).setCell ⟨K, 11, none⟩ (.int .i64 0)).setCell ⟨K, 12, none⟩ (.int .i64 0)).alloc (.cells #[.int .i64 0, .int .i64 0, .int .i64 0, .int .i64 0, .int .i64 0, .int .i64 0] t)).drew K S G { x with ev := fun _ => 0 } ∧ Chg (fun k => k = K) w (((((((w.setCell ⟨K, 7, none⟩ (.int .i64 0)).setCell ⟨K, 8, none⟩ (.int .i64 0)).setCell ⟨K, 9, none⟩ (.int .i64 0)).setCell ⟨K, 10, none⟩ (.int .i64 0)).setCell ⟨K, 11, none⟩ (.int .i64 0)).setCell ⟨K, 12, none⟩ (.int .i64 0)).alloc (.cells #[.int .i64 0, .int .i64 0, .int .i64 0, .int .i64 0, .int .i64 0, .int .i64 0] t)).drew ∧ CellsL (((((((w.setCell ⟨K, 7, none⟩ (.int .i64 0)).setCell ⟨K, 8, none⟩ (.int .i64 0)).setCell ⟨K, 9, none⟩ (.int .i64 0)).setCell ⟨K, 10, none⟩ (.int .i64 0)).setCell ⟨K, 11, none⟩ (.int .i64 0)).setCell ⟨K, 12, none⟩ (.int .i64 0)).alloc (.cells #[.int .i64 0, .int .i64 0, .int .i64 0, .int .i64 0, .int .i64 0, .int .i64 0] t)).drew w.heap.size [.int .i64 0, .int .i64 0, .int .i64 0, .int .i64 0, .int .i64 0, .int .i64 0] := by
  have hK := h.lt
  have hA : Below ((((((w.setCell ⟨K, 7, none⟩ (.int .i64 0)).setCell ⟨K, 8, none⟩ (.int .i64 0)).setCell ⟨K, 9, none⟩ (.int .i64 0)).setCell ⟨K, 10, none⟩ (.int .i64 0)).setCell ⟨K, 11, none⟩ (.int .i64 0)).setCell ⟨K, 12, none⟩ (.int .i64 0)).heap.size ((((((w.setCell ⟨K, 7, none⟩ (.int .i64 0)).setCell ⟨K, 8, none⟩ (.int .i64 0)).setCell ⟨K, 9, none⟩ (.int .i64 0)).setCell ⟨K, 10, none⟩ (.int .i64 0)).setCell ⟨K, 11, none⟩ (.int .i64 0)).setCell ⟨K, 12, none⟩ (.int .i64 0)) (((((((w.setCell ⟨K, 7, none⟩ (.int .i64 0)).setCell ⟨K, 8, none⟩ (.int .i64 0)).setCell ⟨K, 9, none⟩ (.int .i64 0)).setCell ⟨K, 10, none⟩ (.int .i64 0)).setCell ⟨K, 11, none⟩ (.int .i64 0)).setCell ⟨K, 12, none⟩ (.int .i64 0)).alloc (.cells #[.int .i64 0, .int .i64 0, .int .i64 0, .int .i64 0, .int .i64 0, .int .i64 0] t)) := (Below.refl _ _).alloc (Nat.le_refl _) _
  have hz : ((((((w.setCell ⟨K, 7, none⟩ (.int .i64 0)).setCell ⟨K, 8, none⟩ (.int .i64 0)).setCell ⟨K, 9, none⟩ (.int .i64 0)).setCell ⟨K, 10, none⟩ (.int .i64 0)).setCell ⟨K, 11, none⟩ (.int .i64 0)).setCell ⟨K, 12, none⟩ (.int .i64 0)).heap.size = w.heap.size := by simp
  have hc6 : CoIs ((((((w.setCell ⟨K, 7, none⟩ (.int .i64 0)).setCell ⟨K, 8, none⟩ (.int .i64 0)).setCell ⟨K, 9, none⟩ (.int .i64 0)).setCell ⟨K, 10, none⟩ (.int .i64 0)).setCell ⟨K, 11, none⟩ (.int .i64 0)).setCell ⟨K, 12, none⟩ (.int .i64 0)) K S G { x with ev := fun _ => 0 } := CoIs.of (((((((h.cells.set 7 _).set 8 _).set 9 _).set 10 _).set 11 _).set 12 _)) rfl (fun o => by simp only [World.frozen?_setCell]; exact h.fz o)
  have hbx := (BoxE.fresh ((((((w.setCell ⟨K, 7, none⟩ (.int .i64 0)).setCell ⟨K, 8, none⟩ (.int .i64 0)).setCell ⟨K, 9, none⟩ (.int .i64 0)).setCell ⟨K, 10, none⟩ (.int .i64 0)).setCell ⟨K, 11, none⟩ (.int .i64 0)).setCell ⟨K, 12, none⟩ (.int .i64 0)) t).list
  rw [hz] at hbx
  have hch : Chg (fun k => k = K) w ((((((w.setCell ⟨K, 7, none⟩ (.int .i64 0)).setCell ⟨K, 8, none⟩ (.int .i64 0)).setCell ⟨K, 9, none⟩ (.int .i64 0)).setCell ⟨K, 10, none⟩ (.int .i64 0)).setCell ⟨K, 11, none⟩ (.int .i64 0)).setCell ⟨K, 12, none⟩ (.int .i64 0)) := (((((((Chg.refl (fun k => k = K) w).set (p := ⟨K, 7, none⟩) (.inl rfl) _).set (p := ⟨K, 8, none⟩) (.inl rfl) _).set (p := ⟨K, 9, none⟩) (.inl rfl) _).set (p := ⟨K, 10, none⟩) (.inl rfl) _).set (p := ⟨K, 11, none⟩) (.inl rfl) _).set (p := ⟨K, 12, none⟩) (.inl rfl) _)
  exact ⟨(hc6.later hA).later (Below.refl _ _).drew, (hch.alloc _).drewN 1, hbx.drew⟩
/-- A pick of a collector that isn't busy, and isn't wished. -/
theorem cpick_idle {K S G : Nat} {x : Cd} (w : World) (h : CoIs w K S G x) (hn : x.nx = .nilFunc) (hw : x.wi = false) : Calls Tryz.prog 28 #[.pointer (some ⟨K, 0, none⟩)] w fun e w' => e = .returned (.tuple #[.agg #[.int .i64 0, .int .i64 0, .int .i64 0, .int .i64 0, .int .i64 0, .int .i64 0], .bool false]) ∧ CoIs w' K S G { x with ev := fun _ => 0 } ∧ Chg (fun k => k = K) w w' := by
  have HFIN := Lib.hid (h.fin (t := 35))
  have hl := h.lt
  have e0 := h.ce 0 (by omega)
  have e1 := h.ce 1 (by omega)
  have e2 := h.ce 2 (by omega)
  have e3 := h.ce 3 (by omega)
  have e4 := h.ce 4 (by omega)
  have e5 := h.ce 5 (by omega)
  have f0 := h.fz 7
  have f1 := h.fz 8
  have f2 := h.fz 9
  have f3 := h.fz 10
  have f4 := h.fz 11
  have f5 := h.fz 12
  have c4 := h.c4
  rw [hw] at c4
  have c6 := h.c6
  have hne : K ≠ w.heap.size := by omega
  have HA1 : Hid (∀ V : World, Below V.heap.size V (V.alloc (.cells #[.int .i64 0, .int .i64 0, .int .i64 0, .int .i64 0, .int .i64 0, .int .i64 0] 35))) := Lib.hid fun V => (Below.refl _ _).alloc (Nat.le_refl _) _
  have HB : Hid (∀ V : World, CoIs V K S G { x with ev := fun _ => 0 } → Calls Tryz.prog 36 #[.pointer (some ⟨K, 0, none⟩)] V fun e w' => e = .returned (.bool false) ∧ w' = V) := Lib.hid fun V hV => cbusy_no V hV hn
  have HC6 : Hid (CoIs ((((((w.setCell ⟨K, 7, none⟩ (.int .i64 0)).setCell ⟨K, 8, none⟩ (.int .i64 0)).setCell ⟨K, 9, none⟩ (.int .i64 0)).setCell ⟨K, 10, none⟩ (.int .i64 0)).setCell ⟨K, 11, none⟩ (.int .i64 0)).setCell ⟨K, 12, none⟩ (.int .i64 0)) K S G { x with ev := fun _ => 0 }) := Lib.hid (CoIs.of (((((((h.cells.set 7 _).set 8 _).set 9 _).set 10 _).set 11 _).set 12 _)) rfl (fun o => by simp only [World.frozen?_setCell]; exact h.fz o))
  clear h hn hw
  go_enter Tryz.func28, Tryz.ntmps28
  go_wp2_with (go_at_call 36; refine (HB.out _ (HC6.out.later (HA1.out _))).mono ?_; rintro e w1 ⟨rfl, rfl⟩)
  go_region
  go_wp2_with fail
  clear HC6 HA1 e0 e1 e2 e3 e4 e5 f0 f1 f2 f3 f4 f5 c4 c6 hne
  generalize World.drew (World.alloc (World.setCell (World.setCell (World.setCell (World.setCell (World.setCell (World.setCell w _ _) _ _) _ _) _ _) _ _) _ _) _) = WF at *
  have k0 := HFIN.out.2.2 0 _ rfl
  have k1 := HFIN.out.2.2 1 _ rfl
  have k2 := HFIN.out.2.2 2 _ rfl
  have k3 := HFIN.out.2.2 3 _ rfl
  have k4 := HFIN.out.2.2 4 _ rfl
  have k5 := HFIN.out.2.2 5 _ rfl
  exact bodyPost_ret (v := .tuple #[.agg #[.int .i64 0, .int .i64 0, .int .i64 0, .int .i64 0, .int .i64 0, .int .i64 0], .bool false]) (by simp [results, Tryz.results28, go_sem, k0, k1, k2, k3, k4, k5]) rfl ⟨rfl, HFIN.out.1, HFIN.out.2.1⟩
end Go.Proofs.YthpgnlcmpoldfaaGreatDoor.Mu
