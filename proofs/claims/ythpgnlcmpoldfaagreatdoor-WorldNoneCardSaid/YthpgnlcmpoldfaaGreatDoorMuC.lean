/-
  A collector in memory: New, what it tells; the calls of a collector that isn't there.
-/
import Derived.Test.YthpgnlcmpoldfaaGreatDoorMuB
import Derived.Test.YthpgnlcmpoldfaaGreatDoorStkA
namespace Go.Proofs.YthpgnlcmpoldfaaGreatDoor.Mu
open Go.RowKit
open Blk (Cfg)
open Hp (Ids St Is Mine st0)
open Lg (BfIs BxIs)
open Stk (StIs)
open Go.Proofs.YthpgnlcmpoldfaaGreatDoor.Row (Chg rowB rowB_none other same cell_of_block frozen_of_block)

/-- What a collector holds. -/
structure Cd where
  ph : Int
  co : Int
  cy : Int
  wi : Bool
  nx : Value
  ev : Nat → Int
  bx : Int
  ag : Bool
  dr : Int
  wk : Int
def cd0 : Cd := { ph := 0, co := 0, cy := 0, wi := false, nx := .nilFunc, ev := fun _ => 0, bx := 0, ag := false, dr := 0, wk := 0 }
structure CoIs (w : World) (K S G : Nat) (x : Cd) : Prop where
  c0 : w.cell? ⟨K, 0, none⟩ = some (.pointer (some ⟨S, 0, none⟩))
  c1 : w.cell? ⟨K, 1, none⟩ = some (.int .i64 x.ph)
  c2 : w.cell? ⟨K, 2, none⟩ = some (.int .i64 x.co)
  c3 : w.cell? ⟨K, 3, none⟩ = some (.int .i64 x.cy)
  c4 : w.cell? ⟨K, 4, none⟩ = some (.bool x.wi)
  c5 : w.cell? ⟨K, 5, none⟩ = some (.pointer (some ⟨G, 0, none⟩))
  c6 : w.cell? ⟨K, 6, none⟩ = some x.nx
  ce : ∀ i, i < 6 → w.cell? ⟨K, 7 + i, none⟩ = some (.int .i64 (x.ev i))
  c13 : w.cell? ⟨K, 13, none⟩ = some (.int .i64 x.bx)
  c14 : w.cell? ⟨K, 14, none⟩ = some (.bool x.ag)
  c15 : w.cell? ⟨K, 15, none⟩ = some (.int .i64 x.dr)
  c16 : w.cell? ⟨K, 16, none⟩ = some (.int .i64 x.wk)
  fz : ∀ o, w.frozen? ⟨K, o, none⟩ = false
section
variable {w w' : World} {K S G : Nat} {x : Cd}
theorem CoIs.lt (h : CoIs w K S G x) : K < w.heap.size := lt_of_cell h.c0
theorem CoIs.kept (h : CoIs w K S G x) (hb : w'.heap[K]? = w.heap[K]?) : CoIs w' K S G x :=
  ⟨(cell_of_block (a := ⟨K, 0, none⟩) hb).trans h.c0, (cell_of_block (a := ⟨K, 1, none⟩) hb).trans h.c1, (cell_of_block (a := ⟨K, 2, none⟩) hb).trans h.c2, (cell_of_block (a := ⟨K, 3, none⟩) hb).trans h.c3, (cell_of_block (a := ⟨K, 4, none⟩) hb).trans h.c4, (cell_of_block (a := ⟨K, 5, none⟩) hb).trans h.c5, (cell_of_block (a := ⟨K, 6, none⟩) hb).trans h.c6, fun i hi => (cell_of_block (a := ⟨K, 7 + i, none⟩) hb).trans (h.ce i hi), (cell_of_block (a := ⟨K, 13, none⟩) hb).trans h.c13, (cell_of_block (a := ⟨K, 14, none⟩) hb).trans h.c14, (cell_of_block (a := ⟨K, 15, none⟩) hb).trans h.c15, (cell_of_block (a := ⟨K, 16, none⟩) hb).trans h.c16, fun o => (frozen_of_block (a := ⟨K, o, none⟩) hb).trans (h.fz o)⟩
theorem CoIs.chg {P : Nat → Prop} (h : CoIs w K S G x) (hc : Chg P w w') (hK : ¬ P K) : CoIs w' K S G x := h.kept (hc.block K h.lt hK)
theorem CoIs.later (h : CoIs w K S G x) (hb : Below w.heap.size w w') : CoIs w' K S G x := h.kept (hb.block _ h.lt)
end

theorem CoIs.fresh (w : World) (S G : Nat) (t : TypeId) : CoIs (w.alloc (.cells #[.pointer (some ⟨S, 0, none⟩), .int .i64 0, .int .i64 0, .int .i64 0, .bool false, .pointer (some ⟨G, 0, none⟩), .nilFunc, .int .i64 0, .int .i64 0, .int .i64 0, .int .i64 0, .int .i64 0, .int .i64 0, .int .i64 0, .bool false, .int .i64 0, .int .i64 0] t)) w.heap.size S G cd0 :=
  ⟨by rw [World.cell?_alloc_new]; rfl, by rw [World.cell?_alloc_new]; rfl, by rw [World.cell?_alloc_new]; rfl, by rw [World.cell?_alloc_new]; rfl, by rw [World.cell?_alloc_new]; rfl, by rw [World.cell?_alloc_new]; rfl, by rw [World.cell?_alloc_new]; rfl, fun i hi => by
    rw [World.cell?_alloc_new]
    have : i = 0 ∨ i = 1 ∨ i = 2 ∨ i = 3 ∨ i = 4 ∨ i = 5 := by omega
    rcases this with rfl | rfl | rfl | rfl | rfl | rfl <;> rfl, by rw [World.cell?_alloc_new]; rfl, by rw [World.cell?_alloc_new]; rfl, by rw [World.cell?_alloc_new]; rfl, by rw [World.cell?_alloc_new]; rfl, fun o => World.frozen?_alloc_at _ _ _ _ rfl⟩
/-! None. -/
theorem cnew_nil (w : World) : Calls Tryz.prog 29 #[.pointer none] w fun e w' => e = .returned (.tuple #[.pointer none, .int .i64 1]) ∧ w' = w := by
  have HW := Lib.hid (cwhole_nil w)
  go_enter Tryz.func29, Tryz.ntmps29
  go_wp2_with (go_at_call 72; fail)
  refine HW.out.mono ?_
  rintro e w1 ⟨rfl, rfl⟩
  go_wp2_with fail
  go_ret2
  exact ⟨rfl, rfl⟩
theorem cnil_pick (w : World) : Calls Tryz.prog 28 #[.pointer none] w fun e w' => e = .returned (.tuple #[.agg #[.int .i64 0, .int .i64 0, .int .i64 0, .int .i64 0, .int .i64 0, .int .i64 0], .bool false]) ∧ Below w.heap.size w w' := by
  have HA : Hid (Below w.heap.size w (w.alloc (.cells #[.int .i64 0, .int .i64 0, .int .i64 0, .int .i64 0, .int .i64 0, .int .i64 0] 35))) := Lib.hid ((Below.refl _ _).alloc (Nat.le_refl _) _)
  go_enter Tryz.func28, Tryz.ntmps28
  go_wp2_with fail
  exact bodyPost_ret (v := .tuple #[.agg #[.int .i64 0, .int .i64 0, .int .i64 0, .int .i64 0, .int .i64 0, .int .i64 0], .bool false]) (by simp [results, Tryz.results28, go_sem]) rfl ⟨rfl, HA.out⟩
theorem cnil_phase (w : World) : Calls Tryz.prog 33 #[.pointer none] w fun e w' => e = .returned (.int .i64 0) ∧ w' = w := by
  go_enter Tryz.func33, Tryz.ntmps33
  go_wp2_with fail
  go_ret
  exact ⟨rfl, rfl⟩
theorem cnil_color (w : World) : Calls Tryz.prog 34 #[.pointer none] w fun e w' => e = .returned (.int .i64 0) ∧ w' = w := by
  go_enter Tryz.func34, Tryz.ntmps34
  go_wp2_with fail
  go_ret
  exact ⟨rfl, rfl⟩
theorem cnil_cycles (w : World) : Calls Tryz.prog 35 #[.pointer none] w fun e w' => e = .returned (.int .i64 0) ∧ w' = w := by
  go_enter Tryz.func35, Tryz.ntmps35
  go_wp2_with fail
  go_ret
  exact ⟨rfl, rfl⟩
theorem cnil_busy (w : World) : Calls Tryz.prog 36 #[.pointer none] w fun e w' => e = .returned (.bool false) ∧ w' = w := by
  go_enter Tryz.func36, Tryz.ntmps36
  go_wp2_with fail
  go_ret
  exact ⟨rfl, rfl⟩
theorem cnil_wishes (w : World) : Calls Tryz.prog 32 #[.pointer none] w fun e w' => e = .returned (.bool false) ∧ w' = w := by
  go_enter Tryz.func32, Tryz.ntmps32
  go_wp2_with fail
  go_ret
  exact ⟨rfl, rfl⟩
theorem cnil_stacked (w : World) : Calls Tryz.prog 37 #[.pointer none] w fun e w' => e = .returned (.slice none 0 0) ∧ w' = w := by
  go_enter Tryz.func37, Tryz.ntmps37
  go_wp2_with fail
  go_ret
  exact ⟨rfl, rfl⟩
theorem cnil_rounds (w : World) : Calls Tryz.prog 31 #[.pointer none] w fun e w' => e = .returned (.tuple #[.int .i64 0, .int .i64 0]) ∧ w' = w := by
  go_enter Tryz.func31, Tryz.ntmps31
  go_wp2_with fail
  go_ret2
  exact ⟨rfl, rfl⟩

/-! One. -/
theorem cphase_any {K S G : Nat} {x : Cd} (w : World) (h : CoIs w K S G x) : Calls Tryz.prog 33 #[.pointer (some ⟨K, 0, none⟩)] w fun e w' => e = .returned (.int .i64 x.ph) ∧ w' = w := by
  have c := h.c1
  have hl := h.lt
  clear h
  go_enter Tryz.func33, Tryz.ntmps33
  go_wp2_with fail
  go_ret
  exact ⟨rfl, rfl⟩
theorem ccolor_any {K S G : Nat} {x : Cd} (w : World) (h : CoIs w K S G x) : Calls Tryz.prog 34 #[.pointer (some ⟨K, 0, none⟩)] w fun e w' => e = .returned (.int .i64 x.co) ∧ w' = w := by
  have c := h.c2
  have hl := h.lt
  clear h
  go_enter Tryz.func34, Tryz.ntmps34
  go_wp2_with fail
  go_ret
  exact ⟨rfl, rfl⟩
theorem ccycles_any {K S G : Nat} {x : Cd} (w : World) (h : CoIs w K S G x) : Calls Tryz.prog 35 #[.pointer (some ⟨K, 0, none⟩)] w fun e w' => e = .returned (.int .i64 x.cy) ∧ w' = w := by
  have c := h.c3
  have hl := h.lt
  clear h
  go_enter Tryz.func35, Tryz.ntmps35
  go_wp2_with fail
  go_ret
  exact ⟨rfl, rfl⟩
theorem cwishes_any {K S G : Nat} {x : Cd} (w : World) (h : CoIs w K S G x) : Calls Tryz.prog 32 #[.pointer (some ⟨K, 0, none⟩)] w fun e w' => e = .returned (.bool x.wi) ∧ w' = w := by
  have c := h.c4
  have hl := h.lt
  clear h
  go_enter Tryz.func32, Tryz.ntmps32
  go_wp2_with fail
  go_ret
  exact ⟨rfl, rfl⟩
theorem crounds_any {K S G : Nat} {x : Cd} (w : World) (h : CoIs w K S G x) : Calls Tryz.prog 31 #[.pointer (some ⟨K, 0, none⟩)] w fun e w' => e = .returned (.tuple #[.int .i64 x.dr, .int .i64 x.wk]) ∧ ∃ q, w' = w.drewN q := by
  have c := h.c15
  have c2 := h.c16
  have hl := h.lt
  clear h
  go_enter Tryz.func31, Tryz.ntmps31
  go_wp2_with fail
  go_quiet (fail)
  go_wp2_with fail
  go_ret2
  exact ⟨rfl, _, rfl⟩
theorem cwish_any {K S G : Nat} {x : Cd} (w : World) (h : CoIs w K S G x) : Calls Tryz.prog 30 #[.pointer (some ⟨K, 0, none⟩)] w fun e w' => e = .returned (.tuple #[]) ∧ CoIs w' K S G { x with wi := true } ∧ Chg (fun k => k = K) w w' := by
  have hl := h.lt
  have c := h.c4
  have f := h.fz 4
  have HP : Hid (CoIs (w.setCell ⟨K, 4, none⟩ (.bool true)) K S G { x with wi := true }) := Lib.hid
    ⟨(other (by simp)).trans h.c0, (other (by simp)).trans h.c1, (other (by simp)).trans h.c2, (other (by simp)).trans h.c3, same h.c4, (other (by simp)).trans h.c5, (other (by simp)).trans h.c6, fun i hi => (other (fun e => by injection e with _ e2; omega)).trans (h.ce i hi), (other (by simp)).trans h.c13, (other (by simp)).trans h.c14, (other (by simp)).trans h.c15, (other (by simp)).trans h.c16, fun o => (World.frozen?_setCell ..).trans (h.fz o)⟩
  have HC : Hid (Chg (fun k => k = K) w (w.setCell ⟨K, 4, none⟩ (.bool true))) := Lib.hid ((Chg.refl (fun k => k = K) w).set (p := ⟨K, 4, none⟩) (.inl rfl) _)
  clear h
  go_enter Tryz.func30, Tryz.ntmps30
  go_wp2_with fail
  exact bodyPost_end (results_none rfl _ _ _) rfl ⟨rfl, HP.out, HC.out⟩
theorem fieldA_cfg (x0 x1 x2 x3 x4 x5 x6 : Int) (w : World) : (Instr.field 23 (.agg #[.int .i64 x0, .int .i64 x1, .int .i64 x2, .int .i64 x3, .int .i64 x4, .int .i64 x5, .int .i64 x6]) 6).run Tryz.prog w = .ok (.int .i64 x6) w := by kernel_rfl
theorem fieldB_cfg (x0 x1 x2 x3 x4 x5 x6 : Int) (w : World) : (Instr.field 23 (.agg #[.int .i64 x0, .int .i64 x1, .int .i64 x2, .int .i64 x3, .int .i64 x4, .int .i64 x5, .int .i64 x6]) 2).run Tryz.prog w = .ok (.int .i64 x2) w := by kernel_rfl
set_option maxRecDepth 100000 in
theorem cnew_any {y : Sy} {T : Nat → Prop} {x : Sd} {n nb : Nat} (w : World) (h : ShIs w y T x n nb) : Calls Tryz.prog 29 #[.pointer (some ⟨y.S, 0, none⟩)] w fun e w' => ∃ (K G room : Nat), e = .returned (.tuple #[.pointer (some ⟨K, 0, none⟩), .int .i64 0]) ∧ x.s.c.st = (room : Int) ∧ CoIs w' K y.S G cd0 ∧ StIs w' G G room 0 none [] false ∧ w.heap.size ≤ G ∧ G < K ∧ K < w'.heap.size ∧ Below w.heap.size w w' := by
  have HW := Lib.hid (cwhole_any h)
  have HCF := Lib.hid (Hp.config_any w h.hp)
  have hR := Blk.slots_bd h.hp.wf.right
  obtain ⟨room, hroom⟩ : ∃ room : Nat, x.s.c.st = (room : Int) := ⟨x.s.c.st.toNat, by have := hR.st0; omega⟩
  have HR := Lib.hid hroom
  have HB : Hid (1 ≤ room ∧ room ≤ 4096) := Lib.hid ⟨by have := hR.st0; omega, by have := hR.st1; omega⟩
  have hl := h.ltS
  have hfd := fieldA_cfg
  have c0 := h.c0
  clear h hR hroom
  go_enter Tryz.func29, Tryz.ntmps29
  go_wp2_with (go_at_call 72; fail)
  refine HW.out.mono ?_
  rintro e w1 ⟨rfl, rfl⟩
  clear HW
  go_wp2_with (first
    | (go_at_call 58; refine HCF.out.mono ?_; rintro e w2 ⟨rfl, hb2⟩; have HB2 := Lib.hid hb2; have HNS := Lib.hid (Stk.new_good room x.s.c.st HR.out w2 HB.out.1 HB.out.2); clear hb2 HCF)
    | (go_at_call 73; fail))
  refine HNS.out.mono ?_
  rintro e w3 ⟨rfl, hst, hb3, hz3⟩
  have HST := Lib.hid hst
  have HB3 := Lib.hid hb3
  have HZ3 := Lib.hid hz3
  clear hst hb3 hz3 HNS
  go_wp2_with fail
  go_ret2
  refine ⟨w3.heap.size, w2.heap.size, room, rfl, HR.out, CoIs.fresh _ _ _ _, HST.out.later ((Below.refl _ _).alloc (Nat.le_refl _) _), HB2.out.size, by have := HZ3.out; omega, by rw [World.size_alloc]; omega, ?_⟩
  have hb := HB2.out.trans (HB3.out.mono HB2.out.size)
  exact hb.alloc hb.size _
end Go.Proofs.YthpgnlcmpoldfaaGreatDoor.Mu
