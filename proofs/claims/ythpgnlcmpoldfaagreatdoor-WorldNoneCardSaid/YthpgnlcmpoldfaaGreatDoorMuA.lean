/-
  What mutators and the collector share, in memory; the calls of a mutator, and a collector, that isn't there.
-/
import Derived.Test.YthpgnlcmpoldfaaGreatDoorHq5
import Derived.Test.YthpgnlcmpoldfaaGreatDoorLogB
import Derived.Test.YthpgnlcmpoldfaaGreatDoorBrdA
import Derived.Test.YthpgnlcmpoldfaaGreatDoorQuB
import Derived.WalkMore
import Derived.BigQuiet
import Derived.Deep.QuietTactic
namespace Go.Proofs.YthpgnlcmpoldfaaGreatDoor.Mu
open Go.RowKit
open Blk (Cfg)
open Hp (Ids St Is Mine)
open Lg (BfIs BxIs)
open Brd (BdIs)
open Qu (QuIs)
open Go.Proofs.YthpgnlcmpoldfaaGreatDoor.Row (Chg rowB rowB_none other same cell_of_block frozen_of_block)

theorem lt_of_cell {w : World} {p : Addr} {v : Value} (h : w.cell? p = some v) : p.block < w.heap.size := World.block_lt_of_cell? w _ h
/-- Where it lies: the record, the heap, the board, the queue, the flag, the row of boxes, each box. -/
structure Sy where
  S : Nat
  H : Nat
  d : Ids
  B : Nat
  Q : Nat
  ps : Nat → Option Addr
  cs : Nat → Nat
  F : Nat
  px : Option Addr
  cx : Nat
  X : Nat → Nat
/-- What is in it: the heap's state and clock, requests, blocks to be swept, the flag, boxes. -/
structure Sd where
  s : St
  m : Nat
  kind : Int
  count : Int
  ow : Nat → Bool
  rv : Nat → List Int
  op : Nat
  up : Bool
  ys : Nat → List Int
/-- The blocks that turn. -/
def ownS (y : Sy) (nb : Nat) (k : Nat) : Prop := Mine y.H y.d k ∨ k = y.B ∨ Qu.Own y.Q y.ps k ∨ k = y.F ∨ ∃ i, i < nb ∧ k = y.X i
structure ShIs (w : World) (y : Sy) (T : Nat → Prop) (x : Sd) (n nb : Nat) : Prop where
  c0 : w.cell? ⟨y.S, 0, none⟩ = some (.pointer (some ⟨y.H, 0, none⟩))
  c1 : w.cell? ⟨y.S, 1, none⟩ = some (.pointer (some ⟨y.B, 0, none⟩))
  c2 : w.cell? ⟨y.S, 2, none⟩ = some (.pointer (some ⟨y.Q, 0, none⟩))
  c3 : w.cell? ⟨y.S, 3, none⟩ = some (.pointer (some ⟨y.F, 0, none⟩))
  c4 : w.cell? ⟨y.S, 4, none⟩ = some (.slice y.px nb y.cx)
  hp : Is w y.H y.d x.s x.m
  bd : BdIs w y.B y.B n x.kind x.count x.ow
  qu : QuIs w y.Q y.Q y.ps y.cs x.rv x.op
  fl : w.cell? ⟨y.F, 0, none⟩ = some (.bool x.up)
  ff : w.frozen? ⟨y.F, 0, none⟩ = false
  bx : ∀ i, i < nb → BxIs T w (y.X i) (x.ys i)
  pr : ∀ i, i < nb → ∃ b off, y.px = some ⟨b, off, none⟩ ∧ w.cell? ⟨b, off + i, none⟩ = some (.pointer (some ⟨y.X i, 0, none⟩))
  hT : ∀ k, ownS y nb k → T k
  tl : ∀ k, T k → k < w.heap.size
  nS : ¬ ownS y nb y.S
  nP : ∀ g, rowB y.px g → ¬ ownS y nb g
  dHB : ¬ Mine y.H y.d y.B
  dHQ : ∀ k, Qu.Own y.Q y.ps k → ¬ Mine y.H y.d k ∧ k ≠ y.B ∧ k ≠ y.F
  dF : ¬ Mine y.H y.d y.F ∧ y.F ≠ y.B
  dX : ∀ i, i < nb → ¬ Mine y.H y.d (y.X i) ∧ y.X i ≠ y.B ∧ ¬ Qu.Own y.Q y.ps (y.X i) ∧ y.X i ≠ y.F
  dXX : ∀ i j, i < nb → j < nb → i ≠ j → y.X i ≠ y.X j
section
variable {w w' : World} {y : Sy} {T T' : Nat → Prop} {x : Sd} {n nb : Nat}
theorem ShIs.ltO (h : ShIs w y T x n nb) {k : Nat} (hk : ownS y nb k) : k < w.heap.size := h.tl k (h.hT k hk)
theorem ShIs.ltS (h : ShIs w y T x n nb) : y.S < w.heap.size := lt_of_cell h.c0
/-- What turns beside it. -/
theorem ShIs.chg {S : Nat → Prop} (h : ShIs w y T x n nb) (hc : Chg S w w') (hST : ∀ k, S k → T k) (hS : ∀ k, S k → ¬ ownS y nb k ∧ k ≠ y.S ∧ ¬ rowB y.px k) : ShIs w' y T x n nb where
  c0 := (hc.cell (p := ⟨y.S, 0, none⟩) h.ltS (fun e => (hS _ e).2.1 rfl)).trans h.c0
  c1 := (hc.cell (p := ⟨y.S, 1, none⟩) h.ltS (fun e => (hS _ e).2.1 rfl)).trans h.c1
  c2 := (hc.cell (p := ⟨y.S, 2, none⟩) h.ltS (fun e => (hS _ e).2.1 rfl)).trans h.c2
  c3 := (hc.cell (p := ⟨y.S, 3, none⟩) h.ltS (fun e => (hS _ e).2.1 rfl)).trans h.c3
  c4 := (hc.cell (p := ⟨y.S, 4, none⟩) h.ltS (fun e => (hS _ e).2.1 rfl)).trans h.c4
  hp := h.hp.chg hc (fun k hk e => (hS k e).1 (.inl hk))
  bd := h.bd.chg hc (fun e => (hS _ e).1 (.inr (.inl rfl)))
  qu := h.qu.chg hc (fun k hk e => (hS k e).1 (.inr (.inr (.inl hk))))
  fl := (hc.cell (p := ⟨y.F, 0, none⟩) (show y.F < _ from lt_of_cell h.fl) (fun e => (hS _ e).1 (.inr (.inr (.inr (.inl rfl)))))).trans h.fl
  ff := (hc.frozen (p := ⟨y.F, 0, none⟩) (show y.F < _ from lt_of_cell h.fl) (fun e => (hS _ e).1 (.inr (.inr (.inr (.inl rfl)))))).trans h.ff
  bx := fun i hi => (h.bx i hi).chg hc hST (fun e => (hS _ e).1 (.inr (.inr (.inr (.inr ⟨i, hi, rfl⟩)))))
  pr := fun i hi => by
    obtain ⟨b, off, e, hcl⟩ := h.pr i hi
    exact ⟨b, off, e, (hc.cell (p := ⟨b, off + i, none⟩) (show b < _ from lt_of_cell hcl) (fun e2 => (hS _ e2).2.2 (by rw [e]; rfl))).trans hcl⟩
  hT := h.hT
  tl := fun k hk => Nat.lt_of_lt_of_le (h.tl k hk) hc.size
  nS := h.nS
  nP := h.nP
  dHB := h.dHB
  dHQ := h.dHQ
  dF := h.dF
  dX := h.dX
  dXX := h.dXX
theorem ShIs.later (h : ShIs w y T x n nb) (hb : Below w.heap.size w w') : ShIs w' y T x n nb :=
  h.chg (S := fun _ => False) (Chg.of_below hb) (fun _ e => e.elim) (fun _ e => e.elim)
theorem bx_tag {w : World} {X : Nat} {ys : List Int} (h : BxIs T w X ys) (hT : ∀ k, T' k → T k ∨ w.heap.size ≤ k) (hX : T' X) : BxIs T' w X ys := by
  obtain ⟨p, cap, hr⟩ := h
  exact ⟨p, cap, hr.len, hr.c, hr.f, hr.rd, hr.nc, hr.le, fun g hg => ⟨fun e => (hT g e).elim (hr.ap g hg).1 (fun e => by have := (hr.ap g hg).2; omega), (hr.ap g hg).2⟩, hX⟩
/-- Another tag. -/
theorem ShIs.tag (h : ShIs w y T x n nb) (hT : ∀ k, T' k → T k ∨ w.heap.size ≤ k) (hO : ∀ k, ownS y nb k → T' k) (hl : ∀ k, T' k → k < w.heap.size) : ShIs w y T' x n nb :=
  ⟨h.c0, h.c1, h.c2, h.c3, h.c4, h.hp, h.bd, h.qu, h.fl, h.ff, fun i hi => bx_tag (h.bx i hi) hT (hO _ (.inr (.inr (.inr (.inr ⟨i, hi, rfl⟩))))), h.pr, hO, hl, h.nS, h.nP, h.dHB, h.dHQ, h.dF, h.dX, h.dXX⟩
end

/-! None. -/
theorem mnil_pick (w : World) : Calls Tryz.prog 11 #[.pointer none] w fun e w' => e = .returned (.tuple #[.agg #[.int .i64 0, .int .i64 0, .int .i64 0, .int .i64 0, .int .i64 0, .int .i64 0], .bool false]) ∧ Below w.heap.size w w' := by
  have HA : Hid (Below w.heap.size w (w.alloc (.cells #[.int .i64 0, .int .i64 0, .int .i64 0, .int .i64 0, .int .i64 0, .int .i64 0] 35))) := Lib.hid ((Below.refl _ _).alloc (Nat.le_refl _) _)
  go_enter Tryz.func11, Tryz.ntmps11
  go_wp2_with fail
  exact bodyPost_ret (v := .tuple #[.agg #[.int .i64 0, .int .i64 0, .int .i64 0, .int .i64 0, .int .i64 0, .int .i64 0], .bool false]) (by simp [results, Tryz.results11, go_sem]) rfl ⟨rfl, HA.out⟩
theorem mnil_regs (w : World) : Calls Tryz.prog 13 #[.pointer none] w fun e w' => e = .returned (.slice none 0 0) ∧ w' = w := by
  go_enter Tryz.func13, Tryz.ntmps13
  go_wp2_with fail
  go_ret
  exact ⟨rfl, rfl⟩
theorem mnil_logged (w : World) : Calls Tryz.prog 17 #[.pointer none] w fun e w' => e = .returned (.slice none 0 0) ∧ w' = w := by
  go_enter Tryz.func17, Tryz.ntmps17
  go_wp2_with fail
  go_ret
  exact ⟨rfl, rfl⟩
theorem mnil_results (w : World) : Calls Tryz.prog 18 #[.pointer none] w fun e w' => e = .returned (.slice none 0 0) ∧ w' = w := by
  go_enter Tryz.func18, Tryz.ntmps18
  go_wp2_with fail
  go_ret
  exact ⟨rfl, rfl⟩
theorem mnil_held (w : World) : Calls Tryz.prog 14 #[.pointer none] w fun e w' => e = .returned (.int .i64 0) ∧ w' = w := by
  go_enter Tryz.func14, Tryz.ntmps14
  go_wp2_with fail
  go_ret
  exact ⟨rfl, rfl⟩
theorem mnil_mode (w : World) : Calls Tryz.prog 15 #[.pointer none] w fun e w' => e = .returned (.int .i64 0) ∧ w' = w := by
  go_enter Tryz.func15, Tryz.ntmps15
  go_wp2_with fail
  go_ret
  exact ⟨rfl, rfl⟩
theorem mnil_color (w : World) : Calls Tryz.prog 16 #[.pointer none] w fun e w' => e = .returned (.int .i64 0) ∧ w' = w := by
  go_enter Tryz.func16, Tryz.ntmps16
  go_wp2_with fail
  go_ret
  exact ⟨rfl, rfl⟩
theorem mnil_busy (w : World) : Calls Tryz.prog 19 #[.pointer none] w fun e w' => e = .returned (.bool false) ∧ w' = w := by
  go_enter Tryz.func19, Tryz.ntmps19
  go_wp2_with fail
  go_ret
  exact ⟨rfl, rfl⟩
theorem mnil_done (w : World) : Calls Tryz.prog 20 #[.pointer none] w fun e w' => e = .returned (.bool false) ∧ ∃ q, w' = w.drewN q := by
  go_enter Tryz.func20, Tryz.ntmps20
  go_wp2_with fail
  go_quiet (fail)
  go_wp2_with fail
  go_ret
  exact ⟨rfl, _, rfl⟩
theorem mnil_most (w : World) : Calls Tryz.prog 12 #[.pointer none] w fun e w' => e = .returned (.tuple #[.int .i64 0, .int .i64 0]) ∧ w' = w := by
  go_enter Tryz.func12, Tryz.ntmps12
  go_wp2_with fail
  go_ret2
  exact ⟨rfl, rfl⟩
theorem whole_nil (w : World) : Calls Tryz.prog 57 #[.pointer none] w fun e w' => e = .returned (.bool false) ∧ w' = w := by
  go_enter Tryz.func57, Tryz.ntmps57
  go_wp2_with fail
  go_ret
  exact ⟨rfl, rfl⟩
theorem whole_any {w : World} {y : Sy} {T : Nat → Prop} {x : Sd} {n nb : Nat} (h : ShIs w y T x n nb) : Calls Tryz.prog 57 #[.pointer (some ⟨y.S, 0, none⟩)] w fun e w' => e = .returned (.bool true) ∧ w' = w := by
  have c0 := h.c0
  have c1 := h.c1
  have c2 := h.c2
  have c3 := h.c3
  have hl := h.ltS
  clear h
  go_enter Tryz.func57, Tryz.ntmps57
  go_wp2_with fail
  go_ret
  exact ⟨rfl, rfl⟩
theorem cwhole_nil (w : World) : Calls Tryz.prog 72 #[.pointer none] w fun e w' => e = .returned (.bool false) ∧ w' = w := by
  go_enter Tryz.func72, Tryz.ntmps72
  go_wp2_with fail
  go_ret
  exact ⟨rfl, rfl⟩
theorem cwhole_any {w : World} {y : Sy} {T : Nat → Prop} {x : Sd} {n nb : Nat} (h : ShIs w y T x n nb) : Calls Tryz.prog 72 #[.pointer (some ⟨y.S, 0, none⟩)] w fun e w' => e = .returned (.bool true) ∧ w' = w := by
  have c0 := h.c0
  have c1 := h.c1
  have c2 := h.c2
  have c3 := h.c3
  have hl := h.ltS
  clear h
  go_enter Tryz.func72, Tryz.ntmps72
  go_wp2_with fail
  go_ret
  exact ⟨rfl, rfl⟩
end Go.Proofs.YthpgnlcmpoldfaaGreatDoor.Mu
