/-
  Texts one behind the other: MuA MuB MuC MuD MuE (theorems that nobody names are left out).
-/
import Derived.Test.YtipifkgmhgkleaaGreatDoorMzHq5
import Derived.Test.YtipifkgmhgkleaaGreatDoorMzLa
import Derived.WalkMore
import Derived.BigQuiet
import Derived.Deep.QuietTactic
import Derived.Maps.AppendAt
import Derived.Deep.RegionLaw
import Derived.Laws.AppendOwn
import Derived.Lib.QuietBelow
namespace Go.Proofs.YtipifkgmhgkleaaGreatDoor.Mu
open Go.RowKit
open Blk (Cfg)
open Hp (Ids St Is Mine)
open Lg (BfIs BxIs)
open Brd (BdIs)
open Qu (QuIs)
open Go.Proofs.YtipifkgmhgkleaaGreatDoor.Row (Chg rowB rowB_none other same cell_of_block frozen_of_block)

theorem lt_of_cell {w : World} {p : Addr} {v : Value} (h : w.cell? p = some v) : p.block < w.heap.size := World.block_lt_of_cell? w _ h
/-- Where it lies: the record, the heap, the board, the queue, the flag, the row of boxes, each box. -/
structure Sy where
  S : Nat
  H : Nat
  d : Ids
  B : Nat
  Q : Nat
  ps : Nat → Option Addr
  cs : Nat → Nat
  F : Nat
  px : Option Addr
  cx : Nat
  X : Nat → Nat
  tz : Bool := true
/-- What is in it: the heap's state and clock, requests, blocks to be swept, the flag, boxes. -/
structure Sd where
  s : St
  m : Nat
  kind : Int
  count : Int
  ow : Nat → Bool
  rv : Nat → List Int
  op : Nat
  up : Bool
  ys : Nat → List Int
/-- The blocks that turn. -/
def ownS (y : Sy) (nb : Nat) (k : Nat) : Prop := Mine y.H y.d k ∨ k = y.B ∨ Qu.Own y.Q y.ps k ∨ k = y.F ∨ ∃ i, i < nb ∧ k = y.X i
structure ShIs (w : World) (y : Sy) (T : Nat → Prop) (x : Sd) (n nb : Nat) : Prop where
  c0 : w.cell? ⟨y.S, 0, none⟩ = some (.pointer (some ⟨y.H, 0, none⟩))
  c1 : w.cell? ⟨y.S, 1, none⟩ = some (.pointer (some ⟨y.B, 0, none⟩))
  c2 : w.cell? ⟨y.S, 2, none⟩ = some (.pointer (some ⟨y.Q, 0, none⟩))
  c3 : w.cell? ⟨y.S, 3, none⟩ = some (.pointer (some ⟨y.F, 0, none⟩))
  c4 : w.cell? ⟨y.S, 4, none⟩ = some (.slice y.px nb y.cx)
  hp : Is w y.H y.d x.s x.m
  bd : BdIs w y.B y.B n x.kind x.count x.ow
  qu : QuIs w y.Q y.Q y.ps y.cs x.rv x.op
  fl : w.cell? ⟨y.F, 0, none⟩ = some (.bool x.up)
  ff : w.frozen? ⟨y.F, 0, none⟩ = false
  bx : ∀ i, i < nb → BxIs T w (y.X i) (x.ys i)
  pr : ∀ i, i < nb → ∃ b off, y.px = some ⟨b, off, none⟩ ∧ w.cell? ⟨b, off + i, none⟩ = some (.pointer (some ⟨y.X i, 0, none⟩))
  hT : ∀ k, ownS y nb k → T k
  tl : ∀ k, T k → k < w.heap.size
  nS : ¬ ownS y nb y.S
  nP : ∀ g, rowB y.px g → ¬ ownS y nb g
  dHB : ¬ Mine y.H y.d y.B
  dHQ : ∀ k, Qu.Own y.Q y.ps k → ¬ Mine y.H y.d k ∧ k ≠ y.B ∧ k ≠ y.F
  dF : ¬ Mine y.H y.d y.F ∧ y.F ≠ y.B
  dX : ∀ i, i < nb → ¬ Mine y.H y.d (y.X i) ∧ y.X i ≠ y.B ∧ ¬ Qu.Own y.Q y.ps (y.X i) ∧ y.X i ≠ y.F
  dXX : ∀ i j, i < nb → j < nb → i ≠ j → y.X i ≠ y.X j
section
variable {w w' : World} {y : Sy} {T T' : Nat → Prop} {x : Sd} {n nb : Nat}
theorem ShIs.ltO (h : ShIs w y T x n nb) {k : Nat} (hk : ownS y nb k) : k < w.heap.size := h.tl k (h.hT k hk)
theorem ShIs.ltS (h : ShIs w y T x n nb) : y.S < w.heap.size := lt_of_cell h.c0
/-- What turns beside it. -/
theorem ShIs.chg {S : Nat → Prop} (h : ShIs w y T x n nb) (hc : Chg S w w') (hST : ∀ k, S k → T k) (hS : ∀ k, S k → ¬ ownS y nb k ∧ k ≠ y.S ∧ ¬ rowB y.px k) : ShIs w' y T x n nb where
  c0 := (hc.cell (p := ⟨y.S, 0, none⟩) h.ltS (fun e => (hS _ e).2.1 rfl)).trans h.c0
  c1 := (hc.cell (p := ⟨y.S, 1, none⟩) h.ltS (fun e => (hS _ e).2.1 rfl)).trans h.c1
  c2 := (hc.cell (p := ⟨y.S, 2, none⟩) h.ltS (fun e => (hS _ e).2.1 rfl)).trans h.c2
  c3 := (hc.cell (p := ⟨y.S, 3, none⟩) h.ltS (fun e => (hS _ e).2.1 rfl)).trans h.c3
  c4 := (hc.cell (p := ⟨y.S, 4, none⟩) h.ltS (fun e => (hS _ e).2.1 rfl)).trans h.c4
  hp := h.hp.chg hc (fun k hk e => (hS k e).1 (.inl hk))
  bd := h.bd.chg hc (fun e => (hS _ e).1 (.inr (.inl rfl)))
  qu := h.qu.chg hc (fun k hk e => (hS k e).1 (.inr (.inr (.inl hk))))
  fl := (hc.cell (p := ⟨y.F, 0, none⟩) (show y.F < _ from lt_of_cell h.fl) (fun e => (hS _ e).1 (.inr (.inr (.inr (.inl rfl)))))).trans h.fl
  ff := (hc.frozen (p := ⟨y.F, 0, none⟩) (show y.F < _ from lt_of_cell h.fl) (fun e => (hS _ e).1 (.inr (.inr (.inr (.inl rfl)))))).trans h.ff
  bx := fun i hi => (h.bx i hi).chg hc hST (fun e => (hS _ e).1 (.inr (.inr (.inr (.inr ⟨i, hi, rfl⟩)))))
  pr := fun i hi => by
    obtain ⟨b, off, e, hcl⟩ := h.pr i hi
    exact ⟨b, off, e, (hc.cell (p := ⟨b, off + i, none⟩) (show b < _ from lt_of_cell hcl) (fun e2 => (hS _ e2).2.2 (by rw [e]; rfl))).trans hcl⟩
  hT := h.hT
  tl := fun k hk => Nat.lt_of_lt_of_le (h.tl k hk) hc.size
  nS := h.nS
  nP := h.nP
  dHB := h.dHB
  dHQ := h.dHQ
  dF := h.dF
  dX := h.dX
  dXX := h.dXX
theorem ShIs.later (h : ShIs w y T x n nb) (hb : Below w.heap.size w w') : ShIs w' y T x n nb :=
  h.chg (S := fun _ => False) (Chg.of_below hb) (fun _ e => e.elim) (fun _ e => e.elim)
theorem bx_tag {w : World} {X : Nat} {ys : List Int} (h : BxIs T w X ys) (hT : ∀ k, T' k → T k ∨ w.heap.size ≤ k) (hX : T' X) : BxIs T' w X ys := by
  obtain ⟨p, cap, hr⟩ := h
  exact ⟨p, cap, hr.len, hr.c, hr.f, hr.rd, hr.nc, hr.le, fun g hg => ⟨fun e => (hT g e).elim (hr.ap g hg).1 (fun e => by have := (hr.ap g hg).2; omega), (hr.ap g hg).2⟩, hX⟩
/-- Another tag. -/
theorem ShIs.tag (h : ShIs w y T x n nb) (hT : ∀ k, T' k → T k ∨ w.heap.size ≤ k) (hO : ∀ k, ownS y nb k → T' k) (hl : ∀ k, T' k → k < w.heap.size) : ShIs w y T' x n nb :=
  ⟨h.c0, h.c1, h.c2, h.c3, h.c4, h.hp, h.bd, h.qu, h.fl, h.ff, fun i hi => bx_tag (h.bx i hi) hT (hO _ (.inr (.inr (.inr (.inr ⟨i, hi, rfl⟩))))), h.pr, hO, hl, h.nS, h.nP, h.dHB, h.dHQ, h.dF, h.dX, h.dXX⟩
end

/-! None. -/
theorem mnil_pick (w : World) : Calls Tryz.prog 13 #[.pointer none] w fun e w' => e = .returned (.tuple #[.agg #[.int .i64 0, .int .i64 0, .int .i64 0, .int .i64 0, .int .i64 0, .int .i64 0], .bool false]) ∧ Below w.heap.size w w' := by
  have HA : Hid (Below w.heap.size w (w.alloc (.cells #[.int .i64 0, .int .i64 0, .int .i64 0, .int .i64 0, .int .i64 0, .int .i64 0] 35))) := Lib.hid ((Below.refl _ _).alloc (Nat.le_refl _) _)
  go_enter Tryz.func13, Tryz.ntmps13
  go_wp2_with fail
  exact bodyPost_ret (v := .tuple #[.agg #[.int .i64 0, .int .i64 0, .int .i64 0, .int .i64 0, .int .i64 0, .int .i64 0], .bool false]) (by simp [results, Tryz.results13, go_sem]) rfl ⟨rfl, HA.out⟩
theorem mnil_regs (w : World) : Calls Tryz.prog 15 #[.pointer none] w fun e w' => e = .returned (.slice none 0 0) ∧ w' = w := by
  go_enter Tryz.func15, Tryz.ntmps15
  go_wp2_with fail
  go_ret
  exact ⟨rfl, rfl⟩
theorem mnil_logged (w : World) : Calls Tryz.prog 19 #[.pointer none] w fun e w' => e = .returned (.slice none 0 0) ∧ w' = w := by
  go_enter Tryz.func19, Tryz.ntmps19
  go_wp2_with fail
  go_ret
  exact ⟨rfl, rfl⟩
theorem mnil_results (w : World) : Calls Tryz.prog 20 #[.pointer none] w fun e w' => e = .returned (.slice none 0 0) ∧ w' = w := by
  go_enter Tryz.func20, Tryz.ntmps20
  go_wp2_with fail
  go_ret
  exact ⟨rfl, rfl⟩
theorem mnil_held (w : World) : Calls Tryz.prog 16 #[.pointer none] w fun e w' => e = .returned (.int .i64 0) ∧ w' = w := by
  go_enter Tryz.func16, Tryz.ntmps16
  go_wp2_with fail
  go_ret
  exact ⟨rfl, rfl⟩
theorem mnil_mode (w : World) : Calls Tryz.prog 17 #[.pointer none] w fun e w' => e = .returned (.int .i64 0) ∧ w' = w := by
  go_enter Tryz.func17, Tryz.ntmps17
  go_wp2_with fail
  go_ret
  exact ⟨rfl, rfl⟩
theorem mnil_color (w : World) : Calls Tryz.prog 18 #[.pointer none] w fun e w' => e = .returned (.int .i64 0) ∧ w' = w := by
  go_enter Tryz.func18, Tryz.ntmps18
  go_wp2_with fail
  go_ret
  exact ⟨rfl, rfl⟩
theorem mnil_busy (w : World) : Calls Tryz.prog 21 #[.pointer none] w fun e w' => e = .returned (.bool false) ∧ w' = w := by
  go_enter Tryz.func21, Tryz.ntmps21
  go_wp2_with fail
  go_ret
  exact ⟨rfl, rfl⟩
theorem mnil_done (w : World) : Calls Tryz.prog 22 #[.pointer none] w fun e w' => e = .returned (.bool false) ∧ ∃ q, w' = w.drewN q := by
  go_enter Tryz.func22, Tryz.ntmps22
  go_wp2_with fail
  go_quiet (fail)
  go_wp2_with fail
  go_ret
  exact ⟨rfl, _, rfl⟩
theorem mnil_most (w : World) : Calls Tryz.prog 14 #[.pointer none] w fun e w' => e = .returned (.tuple #[.int .i64 0, .int .i64 0]) ∧ w' = w := by
  go_enter Tryz.func14, Tryz.ntmps14
  go_wp2_with fail
  go_ret2
  exact ⟨rfl, rfl⟩
theorem whole_nil (w : World) : Calls Tryz.prog 44 #[.pointer none] w fun e w' => e = .returned (.bool false) ∧ w' = w := by
  go_enter Tryz.func44, Tryz.ntmps44
  go_wp2_with fail
  go_ret
  exact ⟨rfl, rfl⟩
theorem whole_any {w : World} {y : Sy} {T : Nat → Prop} {x : Sd} {n nb : Nat} (h : ShIs w y T x n nb) : Calls Tryz.prog 44 #[.pointer (some ⟨y.S, 0, none⟩)] w fun e w' => e = .returned (.bool true) ∧ w' = w := by
  have c0 := h.c0
  have c1 := h.c1
  have c2 := h.c2
  have c3 := h.c3
  have hl := h.ltS
  clear h
  go_enter Tryz.func44, Tryz.ntmps44
  go_wp2_with fail
  go_ret
  exact ⟨rfl, rfl⟩
end Go.Proofs.YtipifkgmhgkleaaGreatDoor.Mu

namespace Go.Proofs.YtipifkgmhgkleaaGreatDoor.Mu
open Go.RowKit
open Blk (Cfg)
open Hp (Ids St Is Mine st0)
open Lg (BfIs BxIs)
open Brd (BdIs)
open Qu (QuIs)
open Go.Proofs.YtipifkgmhgkleaaGreatDoor.Addr (Tabs)
open Go.Proofs.YtipifkgmhgkleaaGreatDoor.Row (Chg rowB rowB_none other same cell_of_block frozen_of_block owns_lt owns_chg owns_cell owns_slice info_parts push_row step_append_own one_at)

/-- The row of boxes, as values. -/
def bxV (X : Nat → Nat) (n : Nat) : List Value := (List.range n).map fun i => .pointer (some ⟨X i, 0, none⟩)
theorem bxV_succ (X : Nat → Nat) (n : Nat) : bxV X (n + 1) = bxV X n ++ [.pointer (some ⟨X n, 0, none⟩)] := by
  unfold bxV
  rw [List.range_succ, List.map_append]
  rfl
theorem bxV_at {X : Nat → Nat} {n i : Nat} (h : i < n) : (bxV X n)[i]? = some (.pointer (some ⟨X i, 0, none⟩)) := by
  simp [bxV, h]
theorem bxV_congr {X X' : Nat → Nat} {n : Nat} (h : ∀ i, i < n → X' i = X i) : bxV X' n = bxV X n := by
  unfold bxV
  refine List.map_congr_left fun i hi => ?_
  rw [h i (List.mem_range.1 hi)]
/-- What is shared, at first. -/
def sd0 (c : Cfg) (n nc : Nat) : Sd := { s := st0 c n nc, m := 0, kind := 0, count := 0, ow := fun _ => false, rv := fun _ => [], op := 0, up := false, ys := fun _ => [] }
/-- What the loop of Share keeps. -/
structure LpI (w wr : World) (S : Nat) (c : Cfg) (n nc M j : Nat) (y : Sy) (T : Nat → Prop) : Prop where
  sh : ShIs wr y T (sd0 c n nc) M j
  eS : y.S = S
  row : wr.ownsRow w.heap.size 90 1 (.slice y.px j y.cx) j (bxV y.X j)
  fz : wr.frozen? ⟨S, 4, none⟩ = false
  tS : T S
  tP : ∀ g, rowB y.px g → T g
  sP : ¬ rowB y.px S
  ge : ∀ k, T k → w.heap.size < k
  bel : Below w.heap.size w wr
theorem ows_form {w : World} {base cap n : Nat} {e : TypeId} {p : Option Addr} {xs : List Value} (h : w.ownsRow base e 1 (.slice p n cap) n xs) (hn : 0 < n) : ∃ g, p = some ⟨g, 0, none⟩ := by
  obtain ⟨_, ⟨_, h2⟩ | ⟨g, c, cur, e1, r⟩⟩ := h
  · omega
  · cases e1
    exact ⟨g, rfl⟩
theorem LpI.add {w wr w1 w3 : World} {S : Nat} {c : Cfg} {n nc M j cap' : Nat} {y : Sy} {T : Nat → Prop} {p' : Option Addr} {o : Obj} (h : LpI w wr S c n nc M j y T)
    (hb : Below wr.heap.size wr w1) (hz : w1.heap.size = wr.heap.size + 1) (hX : ∀ T' : Nat → Prop, T' wr.heap.size → BxIs T' w1 wr.heap.size [])
    (hown : w3.ownsRow w.heap.size 90 1 (.slice p' (j + 1) cap') (j + 1) (bxV y.X j ++ [.pointer (some ⟨wr.heap.size, 0, none⟩)]))
    (hC : Chg (rowB y.px) (w1.alloc o) w3) (hR : ∀ k, rowB p' k → rowB y.px k ∨ (w1.alloc o).heap.size ≤ k) :
    LpI w (w3.setCell ⟨S, 4, none⟩ (.slice p' (j + 1) cap')) S c n nc M (j + 1) { y with px := p', cx := cap', X := fun i => if i = j then wr.heap.size else y.X i } (fun k => T k ∨ k = wr.heap.size ∨ rowB p' k) := by
  have eS := h.eS
  have hbA : Below wr.heap.size wr (w1.alloc o) := hb.alloc hb.size o
  have hzA : (w1.alloc o).heap.size = wr.heap.size + 2 := by rw [World.size_alloc, hz]
  have hsh := h.sh.later hbA
  have hC4 : Chg (fun k => rowB y.px k ∨ k = S) (w1.alloc o) (w3.setCell ⟨S, 4, none⟩ (.slice p' (j + 1) cap')) := (hC.mono (fun k e => .inl e)).set (p := ⟨S, 4, none⟩) (.inl (.inr rfl)) _
  have hsz := hC4.size
  have hO : ∀ k, ownS y j k → ¬ (rowB y.px k ∨ k = S) := fun k hk e => by
    rcases e with e | e
    · exact h.sh.nP k e hk
    · exact h.sh.nS (by rw [eS, ← e]; exact hk)
  have hlt : ∀ k, T k → k < wr.heap.size := h.sh.tl
  have hpx : ∀ k, rowB p' k → rowB y.px k ∨ wr.heap.size < k := fun k hk => (hR k hk).imp id (fun e => by rw [hzA] at e; omega)
  have hoS : ∀ k, ownS { y with px := p', cx := cap', X := fun i => if i = j then wr.heap.size else y.X i } (j + 1) k → ownS y j k ∨ k = wr.heap.size := fun k hk => by
    rcases hk with e | e | e | e | ⟨i, hi, e⟩
    · exact .inl (.inl e)
    · exact .inl (.inr (.inl e))
    · exact .inl (.inr (.inr (.inl e)))
    · exact .inl (.inr (.inr (.inr (.inl e))))
    · simp only at e
      by_cases e2 : i = j
      · rw [if_pos e2] at e; exact .inr e
      · rw [if_neg e2] at e; exact .inl (.inr (.inr (.inr (.inr ⟨i, by omega, e⟩))))
  have hSl : S < wr.heap.size := hlt S h.tS
  have hrow : (w3.setCell ⟨S, 4, none⟩ (.slice p' (j + 1) cap')).ownsRow w.heap.size 90 1 (.slice p' (j + 1) cap') (j + 1) (bxV (fun i => if i = j then wr.heap.size else y.X i) (j + 1)) := by
    rw [bxV_succ, if_pos rfl, bxV_congr (X := y.X) (fun i hi => if_neg (by omega))]
    refine owns_chg hown ((Chg.refl (fun k => k = S) w3).set (p := ⟨S, 4, none⟩) (.inl rfl) _) (fun g hg e => ?_)
    subst e
    rcases hpx g hg with e2 | e2
    · exact h.sP e2
    · omega
  have cS : ∀ o' v, (w1.alloc o).cell? ⟨y.S, o', none⟩ = some v → o' ≠ 4 → (w3.setCell ⟨S, 4, none⟩ (.slice p' (j + 1) cap')).cell? ⟨y.S, o', none⟩ = some v := fun o' v hv ho => by
    rw [other (fun e => by injection e with _ e2; exact ho e2.symm)]
    exact (hC.cell (p := ⟨y.S, o', none⟩) (show y.S < _ by rw [eS, hzA]; omega) (by rw [eS]; exact h.sP)).trans hv
  refine ⟨⟨cS 0 _ hsh.c0 (by decide), cS 1 _ hsh.c1 (by decide), cS 2 _ hsh.c2 (by decide), cS 3 _ hsh.c3 (by decide), ?_, hsh.hp.chg hC4 (fun k hk => hO k (.inl hk)), hsh.bd.chg hC4 (hO _ (.inr (.inl rfl))), hsh.qu.chg hC4 (fun k hk => hO k (.inr (.inr (.inl hk)))), ?_, ?_, fun i hi => ?_, fun i hi => ?_, fun k hk => ?_, fun k hk => ?_, fun e => ?_, fun g hg e => ?_, h.sh.dHB, h.sh.dHQ, h.sh.dF, fun i hi => ?_, fun i k hi hk hik => ?_⟩, eS, hrow, ?_, .inl h.tS, fun g hg => .inr (.inr hg), fun e => ?_, fun k hk => ?_, ?_⟩
  · show _ = some (Value.slice p' (j + 1) cap')
    rw [← eS]
    exact same ((hC.cell (p := ⟨y.S, 4, none⟩) (show y.S < _ by rw [eS, hzA]; omega) (by rw [eS]; exact h.sP)).trans hsh.c4)
  · exact (hC4.cell (p := ⟨y.F, 0, none⟩) (show y.F < _ from lt_of_cell hsh.fl) (hO _ (.inr (.inr (.inr (.inl rfl)))))).trans hsh.fl
  · exact (hC4.frozen (p := ⟨y.F, 0, none⟩) (show y.F < _ from lt_of_cell hsh.fl) (hO _ (.inr (.inr (.inr (.inl rfl)))))).trans hsh.ff
  · simp only
    by_cases e : i = j
    · subst e
      rw [if_pos rfl]
      have hX2 := hX (fun k => (T k ∨ k = wr.heap.size ∨ rowB p' k)) (.inr (.inl rfl))
      refine (hX2.later ((Below.refl _ _).alloc (Nat.le_refl _) o)).chg hC4 (fun k e => ?_) (fun e => ?_)
      · rcases e with e | e
        · exact .inl (h.tP k e)
        · exact .inl (by rw [e]; exact h.tS)
      · rcases e with e | e
        · exact absurd (hlt _ (h.tP _ e)) (Nat.lt_irrefl _)
        · omega
    · rw [if_neg e]
      refine ((bx_tag (T' := fun k => T k ∨ k = wr.heap.size ∨ rowB p' k) (h.sh.bx i (by omega)) (fun k hk => ?_) (.inl (h.sh.hT _ (.inr (.inr (.inr (.inr ⟨i, by omega, rfl⟩))))))).later hbA).chg hC4 (fun k e => ?_) (hO _ (.inr (.inr (.inr (.inr ⟨i, by omega, rfl⟩)))))
      · rcases hk with e | e | e
        · exact .inl e
        · exact .inr (by omega)
        · rcases hpx k e with e | e
          · exact .inl (h.tP k e)
          · exact .inr (by omega)
      · rcases e with e | e
        · exact .inl (h.tP k e)
        · exact .inl (by rw [e]; exact h.tS)
  · obtain ⟨g, rfl⟩ := ows_form hrow (by omega)
    have h2 := hrow
    exact ⟨g, 0, rfl, by rw [Nat.zero_add]; exact owns_cell h2 i _ (bxV_at (X := fun i => if i = j then wr.heap.size else y.X i) hi)⟩
  · rcases hoS k hk with e | e
    · exact .inl (h.sh.hT k e)
    · exact .inr (.inl e)
  · rcases hk with e | e | e
    · have := hlt k e; omega
    · omega
    · exact (owns_lt hrow e).2
  · rcases hoS _ e with e | e
    · exact h.sh.nS e
    · rw [eS] at e; omega
  · have hnT : ¬ T wr.heap.size := fun e => by have := hlt _ e; omega
    rcases hoS g e with e | e
    · rcases hpx g hg with e2 | e2
      · exact h.sh.nP g e2 e
      · have := hlt g (h.sh.hT g e); omega
    · rcases hpx g hg with e2 | e2
      · have := hlt g (h.tP g e2); omega
      · omega
  · have hnO : ¬ ownS y j wr.heap.size := fun e => by have := hlt _ (h.sh.hT _ e); omega
    simp only
    by_cases e : i = j
    · rw [if_pos e]
      exact ⟨fun e => hnO (.inl e), fun e => hnO (.inr (.inl e)), fun e => hnO (.inr (.inr (.inl e))), fun e => hnO (.inr (.inr (.inr (.inl e))))⟩
    · rw [if_neg e]
      exact h.sh.dX i (by omega)
  · simp only
    have hX' : ∀ t, t < j → y.X t ≠ wr.heap.size := fun t ht e => by have := hlt _ (h.sh.hT _ (.inr (.inr (.inr (.inr ⟨t, ht, rfl⟩))))); omega
    by_cases e1 : i = j
    · rw [if_pos e1, if_neg (by omega)]
      exact fun e => hX' k (by omega) e.symm
    · rw [if_neg e1]
      by_cases e2 : k = j
      · rw [if_pos e2]
        exact hX' i (by omega)
      · rw [if_neg e2]
        exact h.sh.dXX i k (by omega) (by omega) hik
  · rw [World.frozen?_setCell]
    have hf := (hbA.frozen (p := ⟨S, 4, none⟩) hSl).trans h.fz
    exact (hC.frozen (p := ⟨S, 4, none⟩) (show S < _ by rw [hzA]; omega) h.sP).trans hf
  · rcases hpx S e with e | e
    · exact h.sP e
    · omega
  · have := h.ge S h.tS
    rcases hk with e | e | e
    · exact h.ge k e
    · omega
    · rcases hpx k e with e | e
      · exact h.ge k (h.tP k e)
      · omega
  · refine (h.bel.trans (hbA.mono h.bel.size)).trans (hC4.below (fun k e => ?_) (by have := h.bel.size; omega))
    rcases e with e | e
    · exact Nat.le_of_lt (h.ge k (h.tP k e))
    · rw [e]; exact Nat.le_of_lt (h.ge S h.tS)
/-- Where all lies when the loop begins. -/
def sy0 (H : Nat) (d : Ids) (b q f : Nat) : Sy := { S := f + 1, H := H, d := d, B := b, Q := q, ps := fun _ => none, cs := fun _ => 0, F := f, px := none, cx := 0, X := fun _ => 0 }
theorem own0 {H : Nat} {d : Ids} {b q f k : Nat} (h : ownS (sy0 H d b q f) 0 k) : Mine H d k ∨ k = b ∨ k = q ∨ k = f := by
  rcases h with e | e | e | e | ⟨i, hi, e⟩
  · exact .inl e
  · exact .inr (.inl e)
  · rcases e with e | ⟨i, _, e⟩
    · exact .inr (.inr (.inl e))
    · exact absurd e (rowB_none k)
  · exact .inr (.inr (.inr e))
  · omega
theorem LpI.start {w w1 w2 w3 : World} {H : Nat} {d : Ids} {c : Cfg} {n nc M : Nat} {t1 t2 : TypeId} (hIs : Is w1 H d (st0 c n nc) 0) (hmi : ∀ k, Mine H d k → w.heap.size < k) (hb1 : Below w.heap.size w w1) (hlw : w.heap.size < w1.heap.size)
    (hbd : BdIs w2 w1.heap.size w1.heap.size M 0 0 (fun _ => false)) (hb2 : Below w1.heap.size w1 w2) (hz2 : w2.heap.size = w1.heap.size + 1) (hqu : QuIs w3 w2.heap.size w2.heap.size (fun _ => none) (fun _ => 0) (fun _ => []) 0) (hb3 : Below w2.heap.size w2 w3) (hz3 : w3.heap.size = w2.heap.size + 1) :
    LpI w ((w3.alloc (.cells #[.bool false] t1)).alloc (.cells #[.pointer (some ⟨H, 0, none⟩), .pointer (some ⟨w1.heap.size, 0, none⟩), .pointer (some ⟨w2.heap.size, 0, none⟩), .pointer (some ⟨w3.heap.size, 0, none⟩), .slice none 0 0] t2)) (w3.heap.size + 1) c n nc M 0 (sy0 H d w1.heap.size w2.heap.size w3.heap.size) (fun k => ownS (sy0 H d w1.heap.size w2.heap.size w3.heap.size) 0 k ∨ k = w3.heap.size + 1) := by
  obtain ⟨w4, hw4⟩ : ∃ w4, w3.alloc (.cells #[.bool false] t1) = w4 := ⟨_, rfl⟩
  have hz4 : w4.heap.size = w3.heap.size + 1 := by rw [← hw4, World.size_alloc]
  have hb4 : Below w3.heap.size w3 w4 := by rw [← hw4]; exact (Below.refl _ _).alloc (Nat.le_refl _) _
  have f4 : w4.cell? ⟨w3.heap.size, 0, none⟩ = some (.bool false) := by rw [← hw4, World.cell?_alloc_new]; rfl
  have ff4 : w4.frozen? ⟨w3.heap.size, 0, none⟩ = false := by rw [← hw4]; exact World.frozen?_alloc_at _ _ _ _ rfl
  rw [hw4]
  obtain ⟨w5, hw5⟩ : ∃ w5, w4.alloc (.cells #[.pointer (some ⟨H, 0, none⟩), .pointer (some ⟨w1.heap.size, 0, none⟩), .pointer (some ⟨w2.heap.size, 0, none⟩), .pointer (some ⟨w3.heap.size, 0, none⟩), .slice none 0 0] t2) = w5 := ⟨_, rfl⟩
  have hz5 : w5.heap.size = w4.heap.size + 1 := by rw [← hw5, World.size_alloc]
  have hb5 : Below w4.heap.size w4 w5 := by rw [← hw5]; exact (Below.refl _ _).alloc (Nat.le_refl _) _
  have hS : ∀ (o : Nat) (v : Value), (#[Value.pointer (some ⟨H, 0, none⟩), .pointer (some ⟨w1.heap.size, 0, none⟩), .pointer (some ⟨w2.heap.size, 0, none⟩), .pointer (some ⟨w3.heap.size, 0, none⟩), .slice none 0 0] : Array Value)[o]? = some v → w5.cell? ⟨w3.heap.size + 1, o, none⟩ = some v := fun o v hv => by
    rw [← hw5, ← hz4, World.cell?_alloc_new]
    exact hv
  have hfS : ∀ o, w5.frozen? ⟨w3.heap.size + 1, o, none⟩ = false := fun o => by
    rw [← hw5, ← hz4]
    exact World.frozen?_alloc_at _ _ _ _ rfl
  rw [hw5]
  have hb35 : Below w3.heap.size w3 w5 := hb4.trans (hb5.mono (by omega))
  have hb25 : Below w2.heap.size w2 w5 := hb3.trans (hb35.mono (by omega))
  have hb15 : Below w1.heap.size w1 w5 := hb2.trans (hb25.mono (by omega))
  have hml : ∀ k, Mine H d k → k < w1.heap.size := fun k hk => hIs.lt hk
  refine ⟨⟨hS 0 _ rfl, hS 1 _ rfl, hS 2 _ rfl, hS 3 _ rfl, hS 4 _ rfl, hIs.later hb15, hbd.later hb25, hqu.later hb35, ?_, ?_, fun i hi => absurd hi (Nat.not_lt_zero _), fun i hi => absurd hi (Nat.not_lt_zero _), fun k hk => .inl hk, fun k hk => ?_, fun e => ?_, fun g hg => absurd hg (rowB_none g), fun e => ?_, fun k hk => ?_, ⟨fun e => ?_, ?_⟩, fun i hi => absurd hi (Nat.not_lt_zero _), fun i _ hi => absurd hi (Nat.not_lt_zero _)⟩, rfl, ⟨rfl, .inl ⟨rfl, rfl⟩⟩, hfS 4, .inr rfl, fun g hg => absurd hg (rowB_none g), rowB_none _, fun k hk => ?_, hb1.trans (hb15.mono (by omega))⟩
  · exact (hb5.cell (p := ⟨w3.heap.size, 0, none⟩) (by show w3.heap.size < _; omega)).trans f4
  · exact (hb5.frozen (p := ⟨w3.heap.size, 0, none⟩) (by show w3.heap.size < _; omega)).trans ff4
  · rcases hk with e | e
    · rcases own0 e with e | e | e | e
      · have := hml k e; omega
      · omega
      · omega
      · omega
    · omega
  · rcases own0 e with e | e | e | e
    · have := hml _ e; simp only [sy0] at this; omega
    · simp only [sy0] at e; omega
    · simp only [sy0] at e; omega
    · simp only [sy0] at e; omega
  · have := hml _ e; simp only [sy0] at this; omega
  · rcases hk with e | ⟨i, _, e⟩
    · simp only [sy0] at e
      subst e
      exact ⟨fun e => by have := hml _ e; omega, by simp only [sy0]; omega, by simp only [sy0]; omega⟩
    · exact absurd e (rowB_none k)
  · have := hml _ e; simp only [sy0] at this; omega
  · simp only [sy0]; omega
  · rcases hk with e | e
    · rcases own0 e with e | e | e | e
      · exact hmi k e
      · omega
      · omega
      · omega
    · omega
theorem infoBx : (Tryz.prog.info? 90).map (fun i => (i.zero, i.size, i.bytes)) = some (some (.pointer none), 1, 8) := by kernel_rfl
theorem share_bad (c : Cfg) (w : World) (ht : Tabs w) (hr : rightB c.b c.wd c.m c.r c.ce c.lg c.st = false) : Calls Tryz.prog 9 #[(.agg #[.int .i64 c.b, .int .i64 c.wd, .int .i64 c.m, .int .i64 c.r, .int .i64 c.ce, .int .i64 c.lg, .int .i64 c.st])] w fun e w' => e = .returned (.tuple #[.pointer none, .int .i64 1]) ∧ Below w.heap.size w w' := by
  have hA : Below w.heap.size w (w.alloc (.cells #[.int .i64 c.b, .int .i64 c.wd, .int .i64 c.m, .int .i64 c.r, .int .i64 c.ce, .int .i64 c.lg, .int .i64 c.st] 23)) := (Below.refl _ _).alloc (Nat.le_refl _) _
  have HN := Lib.hid (Hp.new_bad c _ (ht.later hA) hr)
  have HA := Lib.hid hA
  clear hA ht hr
  go_enter Tryz.func9, Tryz.ntmps9
  go_wp2_with (go_at_call 38; fail)
  refine HN.out.mono ?_
  rintro e w1 ⟨rfl, hb⟩
  have HB := Lib.hid (HA.out.trans (hb.mono HA.out.size))
  clear hb
  go_wp2_with fail
  go_ret2
  exact ⟨rfl, HB.out⟩
set_option maxRecDepth 100000 in
set_option maxHeartbeats 4000000 in
theorem share_anyT (c : Cfg) (n nc M : Nat) (w : World) (ht : Tabs w) (hR : rightB c.b c.wd c.m c.r c.ce c.lg c.st = true) (hn : c.b * c.wd = (n : Int)) (hnc : c.ce = (nc : Int)) (hM : c.m = (M : Int)) (hM1 : 1 ≤ M) (hM8 : M ≤ 8) :
    Calls Tryz.prog 9 #[(.agg #[.int .i64 c.b, .int .i64 c.wd, .int .i64 c.m, .int .i64 c.r, .int .i64 c.ce, .int .i64 c.lg, .int .i64 c.st])] w fun e w' => ∃ y T, e = .returned (.tuple #[.pointer (some ⟨y.S, 0, none⟩), .int .i64 0]) ∧ ShIs w' y T (sd0 c n nc) M M ∧ (∀ k, T k → w.heap.size < k) ∧ w.heap.size < y.S ∧ (∀ g, rowB y.px g → w.heap.size < g) ∧ T y.S ∧ (∀ g, rowB y.px g → T g) ∧ Below w.heap.size w w' := by
  have hA : Below w.heap.size w (w.alloc (.cells #[.int .i64 c.b, .int .i64 c.wd, .int .i64 c.m, .int .i64 c.r, .int .i64 c.ce, .int .i64 c.lg, .int .i64 c.st] 23)) := (Below.refl _ _).alloc (Nat.le_refl _) _
  have HN := Lib.hid (Hp.new_good c n nc _ (ht.later hA) hR hn hnc)
  have HA := Lib.hid hA
  have hzw : (w.alloc (.cells #[.int .i64 c.b, .int .i64 c.wd, .int .i64 c.m, .int .i64 c.r, .int .i64 c.ce, .int .i64 c.lg, .int .i64 c.st] 23)).heap.size = w.heap.size + 1 := by simp
  have HC0 : Hid ((w.alloc (.cells #[.int .i64 c.b, .int .i64 c.wd, .int .i64 c.m, .int .i64 c.r, .int .i64 c.ce, .int .i64 c.lg, .int .i64 c.st] 23)).cell? ⟨w.heap.size, 2, none⟩ = some (.int .i64 c.m)) := Lib.hid (by rw [World.cell?_alloc_new]; rfl)
  have HZW := Lib.hid hzw
  have HMM := Lib.hid (And.intro hM1 hM8)
  have HCM := Lib.hid hM
  clear hA ht hR hn hnc hzw hM hM1 hM8
  go_enter Tryz.func9, Tryz.ntmps9
  go_wp2_with (go_at_call 38; fail)
  refine HN.out.mono ?_
  rintro e w1 ⟨H, d, rfl, hIs, hmi, hb1⟩
  have HIS := Lib.hid hIs
  have HMI := Lib.hid hmi
  have HB1 := Lib.hid hb1
  have hcm := (hb1.cell (p := ⟨w.heap.size, 2, none⟩) (by show w.heap.size < _; rw [HZW.out]; omega)).trans HC0.out
  rw [HCM.out] at hcm
  have HCMC := Lib.hid hcm
  have hlw : w.heap.size < w1.heap.size := by have := hb1.size; rw [HZW.out] at this; omega
  have HNB := Lib.hid (Brd.new_good M (M : Int) rfl w1 HMM.out.1 HMM.out.2)
  clear hIs hmi hb1 HN
  go_wp2_with (go_at_call 39; fail)
  refine HNB.out.mono ?_
  rintro e w2 ⟨rfl, hbd, hb2, hz2⟩
  have HBD := Lib.hid hbd
  have HB2 := Lib.hid hb2
  have HZ2 := Lib.hid hz2
  have HNQ := Lib.hid (Qu.new_any w2)
  clear hbd hb2 hz2 HNB hcm
  go_wp2_with (go_at_call 40; fail)
  refine HNQ.out.mono ?_
  rintro e w3 ⟨rfl, hqu, hb3, hz3⟩
  have HQU := Lib.hid hqu
  have HB3 := Lib.hid hb3
  have HZ3 := Lib.hid hz3
  clear hqu hb3 hz3 HNQ
  obtain ⟨W5, hW5⟩ : ∃ W5, (w3.alloc (.cells #[.bool false] 86)).alloc (.cells #[.pointer (some ⟨H, 0, none⟩), .pointer (some ⟨w1.heap.size, 0, none⟩), .pointer (some ⟨w2.heap.size, 0, none⟩), .pointer (some ⟨w3.heap.size, 0, none⟩), .slice none 0 0] 89) = W5 := ⟨_, rfl⟩
  have hlp := LpI.start (w := w) (c := c) (n := n) (nc := nc) (M := M) (t1 := 86) (t2 := 89) HIS.out (fun k hk => by have := HMI.out k hk; rw [HZW.out] at this; omega) (HA.out.trans (HB1.out.mono HA.out.size)) hlw HBD.out HB2.out HZ2.out HQU.out HB3.out HZ3.out
  rw [hW5] at hlp
  have HLP := Lib.hid hlp
  have HCB : Hid (∀ V, Below w1.heap.size w1 V → V.cell? ⟨w.heap.size, 2, none⟩ = some (.int .i64 (M : Int))) := Lib.hid fun V hV => (hV.cell (p := ⟨w.heap.size, 2, none⟩) hlw).trans HCMC.out
  have hb15 : Below w1.heap.size w1 W5 := by
    rw [← hW5]
    have h3 : Below w1.heap.size w1 w3 := HB2.out.trans (HB3.out.mono HB2.out.size)
    exact (h3.alloc h3.size _).alloc (by have := h3.size; simp; omega) _
  have hcm5 := HCB.out W5 hb15
  have hl5 : w.heap.size < W5.heap.size := lt_of_cell hcm5
  clear hlp hb15 HIS HMI HB1 HBD HB2 HZ2 HQU HB3 HZ3
  go_wp2_with fail
  clear hW5 hcm5 hl5
  generalize w3.heap.size + 1 = SS at *
  go_loopw [31] (fun i wr => ∃ j : Nat, j ≤ M ∧ i = .int .i64 j ∧ ∃ y T, LpI w wr SS c n nc M j y T) (fun i _ => M - (intOf i).toNat)
  case atStart => exact ⟨0, Nat.zero_le _, rfl, _, _, HLP.out⟩
  case round =>
    clear HLP
    obtain ⟨j, hj, rfl, y, T, hlp⟩ := hrel
    have HLP := Lib.hid hlp
    clear hlp
    have j0 : (0 : Int) ≤ (j : Int) := by omega
    by_cases hlt : j < M
    · have j1 : (j : Int) < (M : Int) := by omega
      have j8 : (j : Int) ≤ 8 := by have := HMM.out.2; omega
      have c4 := HLP.out.sh.c4
      have f4 := HLP.out.fz
      rw [HLP.out.eS] at c4
      have hlS : SS < wr.heap.size := HLP.out.sh.tl _ HLP.out.tS
      have hsP := HLP.out.sP
      obtain ⟨i0, hinf, hz0, hz1, hz2⟩ := info_parts infoBx
      have HBX := Lib.hid (fun V => Lg.box_new V)
      have HD1 : Hid (Below wr.heap.size wr wr.drew) := Lib.hid (Below.refl _ _).drew
      have HAD := Lib.hid (fun w6 w3 p' cap' h1 h2 h3 h4 h5 h6 => LpI.add (w1 := w6) (w3 := w3) (p' := p') (cap' := cap') (o := .cells #[.pointer (some ⟨wr.heap.size, 0, none⟩)] 90) HLP.out h1 h2 h3 h4 h5 h6)
      have HOW : Hid (∀ V, Below wr.heap.size wr V → V.ownsRow w.heap.size 90 1 (.slice y.px j y.cx) j (bxV y.X j)) := Lib.hid fun V hV => owns_chg HLP.out.row (Chg.of_below (S := fun _ => False) hV) (fun _ _ e => e)
      have HWB : Hid (w.heap.size ≤ wr.heap.size) := Lib.hid HLP.out.bel.size
      have nO1 : j + 1 ≤ maxLen := by unfold maxLen; omega
      have nO2 : (j + 1) * 8 ≤ 140737488355328 := by omega
      clear HLP
      go_wp2_with fail
      go_region_law (first
        | (go_simp; go_at_call 41; refine (HBX.out _).mono ?_; rintro e w6 ⟨rfl, hbx, hb6, hz6⟩; have hb6' : Below wr.heap.size wr w6 := (by first | exact HD1.out.trans hb6 | exact hb6); have c46 := (hb6'.cell (p := ⟨SS, 4, none⟩) hlS).trans c4; have f46 := (hb6'.frozen (p := ⟨SS, 4, none⟩) hlS).trans f4; have hb6a : Below wr.heap.size wr (w6.alloc (.cells #[.pointer (some ⟨wr.heap.size, 0, none⟩)] 90)) := hb6'.alloc hb6'.size _; have c46a := (hb6a.cell (p := ⟨SS, 4, none⟩) hlS).trans c4; have HB6 := Lib.hid hb6'; have HB6A := Lib.hid hb6a; have HX6 := Lib.hid hbx; have HZ6 : Hid (w6.heap.size = wr.heap.size + 1) := Lib.hid hz6; clear hb6 hbx hz6 hb6' hb6a; try go_simp)
        | (refine step_append_own rfl (.tmp 37) (.tmp 39) 87 rfl w.heap.size 90 i0 (.pointer none) 1 8 Tryz.underlying87 hinf hz0 hz1 hz2 rfl (by decide) (.slice y.px j y.cx) j (bxV y.X j) rfl (HOW.out _ HB6A.out) ⟨w6.heap.size, 0, none⟩ 1 1 [.pointer (some ⟨wr.heap.size, 0, none⟩)] rfl rfl (one_at rfl) (by simp [Value.oneCell']) nO1 nO2 (Nat.le_trans HWB.out HB6A.out.size) ?_; intro v' w7 hown hgrow hat; obtain ⟨p', cap', rfl, hC, hR⟩ := push_row (Y := w6.alloc (.cells #[.pointer (some ⟨wr.heap.size, 0, none⟩)] 90)) (p := y.px) (cap := y.cx) (n := j) (Below.refl _ _) hown hgrow hat; have HNX := Lib.hid (HAD.out w6 w7 p' cap' HB6.out HZ6.out HX6.out hown hC hR); have c47 := (hC.cell (p := ⟨SS, 4, none⟩) (Nat.lt_of_lt_of_le hlS HB6A.out.size) hsP).trans c46a; have f47 := (hC.frozen (p := ⟨SS, 4, none⟩) (Nat.lt_of_lt_of_le hlS HB6A.out.size) hsP).trans ((HB6A.out.frozen (p := ⟨SS, 4, none⟩) hlS).trans f4); clear hown hgrow hat hC hR))
      all_goals (clear HAD HOW c4 f4 c46 c46a c47 f46 f47)
      all_goals (generalize w7.setCell ⟨SS, 4, none⟩ (.slice p' (j + 1) cap') = W8 at *)
      all_goals go_wp2_with fail
      all_goals go_roundw
      all_goals first
        | exact ⟨j + 1, by omega, by go_num, _, _, HNX.out⟩
        | (simp [intOf]; omega)
    · obtain rfl : j = M := by omega
      go_wp2_with fail
      go_ret2
      refine ⟨y, T, by rw [HLP.out.eS]; rfl, HLP.out.sh, HLP.out.ge, by rw [HLP.out.eS]; exact HLP.out.ge _ HLP.out.tS, fun g hg => HLP.out.ge _ (HLP.out.tP g hg), by rw [HLP.out.eS]; exact HLP.out.tS, HLP.out.tP, HLP.out.bel⟩
end Go.Proofs.YtipifkgmhgkleaaGreatDoor.Mu

namespace Go.Proofs.YtipifkgmhgkleaaGreatDoor.Mu
open Go.RowKit
open Blk (Cfg)
open Hp (Ids St Is Mine st0)
open Lg (BfIs BxIs)
open Stk (StIs)
open Go.Proofs.YtipifkgmhgkleaaGreatDoor.Row (Chg rowB rowB_none other same cell_of_block frozen_of_block)

/-- What a collector holds. -/
structure Cd where
  ph : Int
  co : Int
  cy : Int
  wi : Bool
  nx : Value
  ev : Nat → Int
  bx : Int
  ag : Bool
  dr : Int
  wk : Int
def cd0 : Cd := { ph := 0, co := 0, cy := 0, wi := false, nx := .nilFunc, ev := fun _ => 0, bx := 0, ag := false, dr := 0, wk := 0 }
structure CoIs (w : World) (K S G : Nat) (x : Cd) : Prop where
  c0 : w.cell? ⟨K, 0, none⟩ = some (.pointer (some ⟨S, 0, none⟩))
  c1 : w.cell? ⟨K, 1, none⟩ = some (.int .i64 x.ph)
  c2 : w.cell? ⟨K, 2, none⟩ = some (.int .i64 x.co)
  c3 : w.cell? ⟨K, 3, none⟩ = some (.int .i64 x.cy)
  c4 : w.cell? ⟨K, 4, none⟩ = some (.bool x.wi)
  c5 : w.cell? ⟨K, 5, none⟩ = some (.pointer (some ⟨G, 0, none⟩))
  c6 : w.cell? ⟨K, 6, none⟩ = some x.nx
  ce : ∀ i, i < 6 → w.cell? ⟨K, 7 + i, none⟩ = some (.int .i64 (x.ev i))
  c13 : w.cell? ⟨K, 13, none⟩ = some (.int .i64 x.bx)
  c14 : w.cell? ⟨K, 14, none⟩ = some (.bool x.ag)
  c15 : w.cell? ⟨K, 15, none⟩ = some (.int .i64 x.dr)
  c16 : w.cell? ⟨K, 16, none⟩ = some (.int .i64 x.wk)
  fz : ∀ o, w.frozen? ⟨K, o, none⟩ = false
section
variable {w w' : World} {K S G : Nat} {x : Cd}
theorem CoIs.lt (h : CoIs w K S G x) : K < w.heap.size := lt_of_cell h.c0
theorem CoIs.kept (h : CoIs w K S G x) (hb : w'.heap[K]? = w.heap[K]?) : CoIs w' K S G x :=
  ⟨(cell_of_block (a := ⟨K, 0, none⟩) hb).trans h.c0, (cell_of_block (a := ⟨K, 1, none⟩) hb).trans h.c1, (cell_of_block (a := ⟨K, 2, none⟩) hb).trans h.c2, (cell_of_block (a := ⟨K, 3, none⟩) hb).trans h.c3, (cell_of_block (a := ⟨K, 4, none⟩) hb).trans h.c4, (cell_of_block (a := ⟨K, 5, none⟩) hb).trans h.c5, (cell_of_block (a := ⟨K, 6, none⟩) hb).trans h.c6, fun i hi => (cell_of_block (a := ⟨K, 7 + i, none⟩) hb).trans (h.ce i hi), (cell_of_block (a := ⟨K, 13, none⟩) hb).trans h.c13, (cell_of_block (a := ⟨K, 14, none⟩) hb).trans h.c14, (cell_of_block (a := ⟨K, 15, none⟩) hb).trans h.c15, (cell_of_block (a := ⟨K, 16, none⟩) hb).trans h.c16, fun o => (frozen_of_block (a := ⟨K, o, none⟩) hb).trans (h.fz o)⟩
theorem CoIs.chg {P : Nat → Prop} (h : CoIs w K S G x) (hc : Chg P w w') (hK : ¬ P K) : CoIs w' K S G x := h.kept (hc.block K h.lt hK)
theorem CoIs.later (h : CoIs w K S G x) (hb : Below w.heap.size w w') : CoIs w' K S G x := h.kept (hb.block _ h.lt)
end

theorem CoIs.fresh (w : World) (S G : Nat) (t : TypeId) : CoIs (w.alloc (.cells #[.pointer (some ⟨S, 0, none⟩), .int .i64 0, .int .i64 0, .int .i64 0, .bool false, .pointer (some ⟨G, 0, none⟩), .nilFunc, .int .i64 0, .int .i64 0, .int .i64 0, .int .i64 0, .int .i64 0, .int .i64 0, .int .i64 0, .bool false, .int .i64 0, .int .i64 0] t)) w.heap.size S G cd0 :=
  ⟨by rw [World.cell?_alloc_new]; rfl, by rw [World.cell?_alloc_new]; rfl, by rw [World.cell?_alloc_new]; rfl, by rw [World.cell?_alloc_new]; rfl, by rw [World.cell?_alloc_new]; rfl, by rw [World.cell?_alloc_new]; rfl, by rw [World.cell?_alloc_new]; rfl, fun i hi => by
    rw [World.cell?_alloc_new]
    have : i = 0 ∨ i = 1 ∨ i = 2 ∨ i = 3 ∨ i = 4 ∨ i = 5 := by omega
    rcases this with rfl | rfl | rfl | rfl | rfl | rfl <;> rfl, by rw [World.cell?_alloc_new]; rfl, by rw [World.cell?_alloc_new]; rfl, by rw [World.cell?_alloc_new]; rfl, by rw [World.cell?_alloc_new]; rfl, fun o => World.frozen?_alloc_at _ _ _ _ rfl⟩
/-! None. -/

/-! One. -/
theorem fieldB_cfg (x0 x1 x2 x3 x4 x5 x6 : Int) (w : World) : (Instr.field 23 (.agg #[.int .i64 x0, .int .i64 x1, .int .i64 x2, .int .i64 x3, .int .i64 x4, .int .i64 x5, .int .i64 x6]) 2).run Tryz.prog w = .ok (.int .i64 x2) w := by kernel_rfl
end Go.Proofs.YtipifkgmhgkleaaGreatDoor.Mu

namespace Go.Proofs.YtipifkgmhgkleaaGreatDoor.Mu
open Go.RowKit
open Go.Proofs.YtipifkgmhgkleaaGreatDoor.Row (Chg rowB rowB_none other same cell_of_block frozen_of_block owns_lt owns_chg owns_cell owns_slice info_parts)

/-- An operation: its kind, its three numbers. -/
abbrev O4 := Int × Int × Int × Int
def o4C (x : O4) : List Value := [.int .i64 x.1, .int .i64 x.2.1, .int .i64 x.2.2.1, .int .i64 x.2.2.2]
def cellsO (l : List O4) : List Value := l.flatMap o4C
theorem o4C_len (x : O4) : (o4C x).length = 4 := rfl
theorem cellsO_len (l : List O4) : (cellsO l).length = l.length * 4 := by
  induction l with
  | nil => rfl
  | cons x l ih => simp only [cellsO, List.flatMap_cons, List.length_append, List.length_cons] at ih ⊢; rw [ih, o4C_len]; omega
theorem cellsO_at {l : List O4} {j t : Nat} (ht : t < 4) {x : O4} (hx : l[j]? = some x) : (cellsO l)[j * 4 + t]? = (o4C x)[t]? := by
  induction l generalizing j with
  | nil => simp at hx
  | cons y l ih =>
    cases j with
    | zero =>
      simp only [List.getElem?_cons_zero, Option.some.injEq] at hx
      subst hx
      simp only [cellsO, List.flatMap_cons, Nat.zero_mul, Nat.zero_add]
      rw [List.getElem?_append_left (by rw [o4C_len]; exact ht)]
    | succ j =>
      simp only [List.getElem?_cons_succ] at hx
      have := ih hx
      simp only [cellsO, List.flatMap_cons] at this ⊢
      rw [List.getElem?_append_right (by rw [o4C_len]; omega), o4C_len, ← this]
      congr 1
      omega
theorem infoOp : (Tryz.prog.info? 72).map (fun i => (i.zero, i.size, i.bytes)) = some (some (.agg #[.int .i64 0, .int .i64 0, .int .i64 0, .int .i64 0]), 4, 32) := by kernel_rfl
/-- Operations that can be read. -/
def OpsR (w : World) (p : Option Addr) (l : List O4) : Prop := (p = none ∧ l = []) ∨ ∃ g off, p = some ⟨g, off, none⟩ ∧ ∀ (j : Nat) (u : Value), (cellsO l)[j]? = some u → w.cell? ⟨g, off + j, none⟩ = some u
theorem OpsR.later {w w' : World} {p : Option Addr} {l : List O4} (h : OpsR w p l) (hb : Below w.heap.size w w') : OpsR w' p l := by
  rcases h with h | ⟨g, off, e, hc⟩
  · exact .inl h
  · exact .inr ⟨g, off, e, fun j u hu => (hb.cell (p := ⟨g, off + j, none⟩) (lt_of_cell (hc j u hu))).trans (hc j u hu)⟩
theorem OpsR.chg {S : Nat → Prop} {w w' : World} {p : Option Addr} {l : List O4} (h : OpsR w p l) (hc : Chg S w w') (hS : ∀ g, rowB p g → ¬ S g) : OpsR w' p l := by
  rcases h with h | ⟨g, off, e, h2⟩
  · exact .inl h
  · exact .inr ⟨g, off, e, fun j u hu => (hc.cell (p := ⟨g, off + j, none⟩) (lt_of_cell (h2 j u hu)) (hS g (by rw [e]; rfl))).trans (h2 j u hu)⟩
theorem owns_cellN {w : World} {base cap k g n size : Nat} {e : TypeId} {xs : List Value} (h : w.ownsRow base e size (.slice (some ⟨g, 0, none⟩) n cap) k xs) : ∀ (j : Nat) (u : Value), xs[j]? = some u → w.cell? ⟨g, j, none⟩ = some u := fun j u hu => by
  obtain ⟨h1, ⟨h2, _⟩ | ⟨g', c, cur, e1, e2, e3, e4, e5, e6, e7⟩⟩ := h
  · cases h2
  · cases e1
    have hj : j < k * size := by have := (List.getElem?_eq_some_iff.1 hu).1; omega
    rw [← e7, List.getElem?_take, if_pos hj] at hu
    unfold World.cell?
    rw [show (⟨g, j, none⟩ : Addr).block = g from rfl, e3]
    rw [← hu]
    simp
theorem OpsR.of_owns {w : World} {base cap : Nat} {p : Option Addr} {l : List O4} (h : w.ownsRow base 72 4 (.slice p l.length cap) l.length (cellsO l)) : OpsR w p l := by
  have h2 := h
  obtain ⟨_, ⟨e, hn⟩ | ⟨g, c, cur, e, r⟩⟩ := h2
  · exact .inl ⟨by injection e, List.eq_nil_of_length_eq_zero hn⟩
  · obtain rfl : p = some ⟨g, 0, none⟩ := by injection e
    exact .inr ⟨g, 0, rfl, fun j u hu => by rw [Nat.zero_add]; exact owns_cellN h j u hu⟩
set_option maxHeartbeats 2000000 in
set_option maxRecDepth 100000 in
theorem clone_ops_some (g off cap : Nat) (l : List O4) (w : World) (hlen : l.length ≤ 100000) (hc : ∀ (j : Nat) (u : Value), (cellsO l)[j]? = some u → w.cell? ⟨g, off + j, none⟩ = some u) :
    Calls Tryz.prog 48 #[.slice (some ⟨g, off, none⟩) l.length cap] w fun e w' => ∃ p' cap', e = .returned (.slice p' l.length cap') ∧ w'.ownsRow w.heap.size 72 4 (.slice p' l.length cap') l.length (cellsO l) ∧ Below w.heap.size w w' := by
  obtain ⟨i0, hi, hz0, hz1, hz2⟩ := info_parts infoOp
  have q22 : ∀ (w : World) (a : Option Addr) (n c n' c' : Nat), (binOp .eql 33 (.slice a n c) (.slice none n' c')).run Tryz.prog w = .ok (.bool a.isNone) w := fun w a n c n' c' => Lib.run_eql_slice_nil w _ _ a n c n' c' Tryz.underlying33
  have A := Lib.hid hc
  clear hc
  go_enter Tryz.func48, Tryz.ntmps48
  go_wp2_with (at_builtin; refine wpList_append_own _ rfl _ _ 33 rfl w.heap.size 72 i0 (.agg #[.int .i64 0, .int .i64 0, .int .i64 0, .int .i64 0]) 4 32 Tryz.underlying33 hi hz0 hz1 hz2 rfl (by decide) _ _ _ rfl (World.ownsRow_made w #[] 0 (Nat.le_refl _) (Nat.zero_le _) rfl) ⟨g, off, none⟩ l.length cap (cellsO l) rfl ?qc1 ?qc2 ?qc3 ?qc4 ?qc5 ?qc6 ?_)
  case qc1 => exact cellsO_len l
  case qc2 =>
    intro j u hj
    rw [Addr.add_lit]
    exact Lib.cell?_alloc_some _ (A.out j u hj)
  case qc3 =>
    intro u hu
    obtain ⟨x, _, hx⟩ := List.mem_flatMap.1 hu
    simp only [o4C, List.mem_cons, List.not_mem_nil, or_false] at hx
    rcases hx with rfl | rfl | rfl | rfl <;> rfl
  case qc4 => unfold maxLen; omega
  case qc5 => omega
  case qc6 => simp
  intro v' w1 hown hgrow _
  have hown : w1.ownsRow w.heap.size 72 4 v' l.length (cellsO l) := by simpa using hown
  obtain ⟨p', cap', rfl⟩ := owns_slice hown
  go_wp2
  go_ret
  refine ⟨p', cap', rfl, hown, ?_⟩
  exact ((Below.refl _ w).alloc (Nat.le_refl _) _).grown hgrow (by simp) (by intro k hk; simp [Value.ownBlock] at hk; omega)
theorem clone_ops_nil (w : World) : Calls Tryz.prog 48 #[.slice none 0 0] w fun e w' => e = .returned (.slice none 0 0) ∧ w' = w := by
  have q22 : ∀ (w : World) (a : Option Addr) (n c n' c' : Nat), (binOp .eql 33 (.slice a n c) (.slice none n' c')).run Tryz.prog w = .ok (.bool a.isNone) w := fun w a n c n' c' => Lib.run_eql_slice_nil w _ _ a n c n' c' Tryz.underlying33
  go_enter Tryz.func48, Tryz.ntmps48
  go_wp2
  go_ret
  exact ⟨rfl, rfl⟩
theorem clone_ops {cap : Nat} (p : Option Addr) (l : List O4) (w : World) (hlen : l.length ≤ 100000) (hp : p = none → cap = 0) (h : OpsR w p l) :
    Calls Tryz.prog 48 #[.slice p l.length cap] w fun e w' => ∃ p' cap', e = .returned (.slice p' l.length cap') ∧ w'.ownsRow w.heap.size 72 4 (.slice p' l.length cap') l.length (cellsO l) ∧ Below w.heap.size w w' := by
  rcases h with ⟨rfl, rfl⟩ | ⟨g, off, rfl, hc⟩
  · rw [hp rfl]
    exact (clone_ops_nil w).mono fun e w' ⟨he, hw⟩ => ⟨none, 0, he, by subst hw; exact ⟨rfl, .inl ⟨rfl, rfl⟩⟩, hw ▸ Below.refl _ _⟩
  · exact clone_ops_some g off cap l w hlen hc
end Go.Proofs.YtipifkgmhgkleaaGreatDoor.Mu

namespace Go.Proofs.YtipifkgmhgkleaaGreatDoor.Mu
open Go.RowKit
open Blk (Cfg)
open Hp (Ids St Is Mine st0 zeroInts)
open Lg (BfIs BxIs)
open Go.Proofs.YtipifkgmhgkleaaGreatDoor.Row (Chg rowB rowB_none other same cell_of_block frozen_of_block owns_lt owns_chg owns_slice)

/-- Where a mutator lies: its record, its registers, its buffer, its noter, its program, its results; its number. -/
structure Ml where
  M : Nat
  G : Nat
  B : Nat
  N : Nat
  id : Nat
  pp : Option Addr
  cp : Nat
  pr : Option Addr
  cr : Nat
/-- What a mutator holds. -/
structure Md where
  rg : List Int
  room : Nat
  xs : List Int
  mo : Int
  co : Int
  tb : Int
  pg : List O4
  rs : List (Int × Int)
  he : Int
  nx : Value
  tk : Int
  ev : Nat → Int
  mop : Int
  man : Int
def md0 (r room : Nat) (pg : List O4) : Md := { rg := List.replicate r 0, room := room, xs := [], mo := 0, co := 0, tb := 0, pg := pg, rs := [], he := 0, nx := .nilFunc, tk := 0, ev := fun _ => 0, mop := 0, man := 0 }
def cellsR (l : List (Int × Int)) : List Value := l.flatMap fun x => [.int .i64 x.1, .int .i64 x.2]
/-- The blocks that turn. -/
def ownM (z : Ml) (k : Nat) : Prop := k = z.M ∨ k = z.G ∨ k = z.B ∨ rowB z.pr k
structure MIs (w : World) (y : Sy) (T : Nat → Prop) (z : Ml) (m : Md) : Prop where
  c0 : w.cell? ⟨z.M, 0, none⟩ = some (.pointer (some ⟨y.S, 0, none⟩))
  c1 : w.cell? ⟨z.M, 1, none⟩ = some (.int .i64 z.id)
  c2 : w.cell? ⟨z.M, 2, none⟩ = some (.slice (some ⟨z.G, 0, none⟩) m.rg.length m.rg.length)
  c3 : w.cell? ⟨z.M, 3, none⟩ = some (.pointer (some ⟨z.B, 0, none⟩))
  c4 : w.cell? ⟨z.M, 4, none⟩ = some (.pointer (some ⟨z.N, 0, none⟩))
  c5 : w.cell? ⟨z.M, 5, none⟩ = some (.int .i64 m.mo)
  c6 : w.cell? ⟨z.M, 6, none⟩ = some (.int .i64 m.co)
  c7 : w.cell? ⟨z.M, 7, none⟩ = some (.int .i64 m.tb)
  c8 : w.cell? ⟨z.M, 8, none⟩ = some (.slice z.pp m.pg.length z.cp)
  c9 : w.cell? ⟨z.M, 9, none⟩ = some (.slice z.pr m.rs.length z.cr)
  c10 : w.cell? ⟨z.M, 10, none⟩ = some (.int .i64 m.he)
  c11 : w.cell? ⟨z.M, 11, none⟩ = some m.nx
  c12 : w.cell? ⟨z.M, 12, none⟩ = some (.int .i64 m.tk)
  ce : ∀ i, i < 6 → w.cell? ⟨z.M, 13 + i, none⟩ = some (.int .i64 (m.ev i))
  c19 : w.cell? ⟨z.M, 19, none⟩ = some (.int .i64 m.mop)
  c20 : w.cell? ⟨z.M, 20, none⟩ = some (.int .i64 m.man)
  fz : ∀ o, w.frozen? ⟨z.M, o, none⟩ = false
  rg : ∀ j, j < m.rg.length → w.cell? ⟨z.G, j, none⟩ = some (.int .i64 (m.rg.getD j 0))
  rf : ∀ j, w.frozen? ⟨z.G, j, none⟩ = false
  gl : z.G < w.heap.size
  bf : BfIs T w z.B m.room m.xs
  n0 : w.cell? ⟨z.N, 0, none⟩ = some (.pointer (some ⟨y.H, 0, none⟩))
  n1 : w.cell? ⟨z.N, 1, none⟩ = some (.pointer (some ⟨z.B, 0, none⟩))
  n2 : w.cell? ⟨z.N, 2, none⟩ = some (.pointer (some ⟨y.X z.id, 0, none⟩))
  n3 : w.cell? ⟨z.N, 3, none⟩ = some (.pointer (some ⟨y.F, 0, none⟩))
  pg : OpsR w z.pp m.pg
  pc : z.pp = none → z.cp = 0
  rs : w.ownsRow 0 110 2 (.slice z.pr m.rs.length z.cr) m.rs.length (cellsR m.rs)
  hT : ∀ k, ownM z k → T k
  tN : T z.N
  tl : ∀ k, T k → k < w.heap.size
  nN : ¬ ownM z z.N
  nP : ∀ g, rowB z.pp g → T g ∧ ¬ ownM z g
  dMG : z.M ≠ z.G
  dMB : z.M ≠ z.B
  dGB : z.G ≠ z.B
  dR : ∀ g, rowB z.pr g → g ≠ z.M ∧ g ≠ z.G ∧ g ≠ z.B
section
variable {w w' : World} {y : Sy} {T T' : Nat → Prop} {z : Ml} {m : Md}
theorem MIs.ltM (h : MIs w y T z m) : z.M < w.heap.size := lt_of_cell h.c0
/-- What turns beside it. -/
theorem MIs.chg {S : Nat → Prop} (h : MIs w y T z m) (hc : Chg S w w') (hST : ∀ k, S k → T k) (hS : ∀ k, S k → ¬ ownM z k ∧ k ≠ z.N ∧ ¬ rowB z.pp k) : MIs w' y T z m :=
  have hM : ¬ S z.M := fun e => (hS _ e).1 (.inl rfl)
  have hG : ¬ S z.G := fun e => (hS _ e).1 (.inr (.inl rfl))
  have hN : ¬ S z.N := fun e => (hS _ e).2.1 rfl
  have hlN : z.N < w.heap.size := h.tl _ h.tN
  have cM : ∀ o v, w.cell? ⟨z.M, o, none⟩ = some v → w'.cell? ⟨z.M, o, none⟩ = some v := fun o _ hv => (hc.cell (p := ⟨z.M, o, none⟩) h.ltM hM).trans hv
  have cN : ∀ o v, w.cell? ⟨z.N, o, none⟩ = some v → w'.cell? ⟨z.N, o, none⟩ = some v := fun o _ hv => (hc.cell (p := ⟨z.N, o, none⟩) hlN hN).trans hv
  ⟨cM _ _ h.c0, cM _ _ h.c1, cM _ _ h.c2, cM _ _ h.c3, cM _ _ h.c4, cM _ _ h.c5, cM _ _ h.c6, cM _ _ h.c7, cM _ _ h.c8, cM _ _ h.c9, cM _ _ h.c10, cM _ _ h.c11, cM _ _ h.c12, fun i hi => cM _ _ (h.ce i hi), cM _ _ h.c19, cM _ _ h.c20, fun o => (hc.frozen (p := ⟨z.M, o, none⟩) h.ltM hM).trans (h.fz o),
    fun j hj => (hc.cell (p := ⟨z.G, j, none⟩) h.gl hG).trans (h.rg j hj), fun j => (hc.frozen (p := ⟨z.G, j, none⟩) h.gl hG).trans (h.rf j), Nat.lt_of_lt_of_le h.gl hc.size, h.bf.chg hc hST (fun e => (hS _ e).1 (.inr (.inr (.inl rfl)))), cN _ _ h.n0, cN _ _ h.n1, cN _ _ h.n2, cN _ _ h.n3,
    h.pg.chg hc (fun g hg e => (hS g e).2.2 hg), h.pc, owns_chg h.rs hc (fun g hg e => (hS g e).1 (.inr (.inr (.inr hg)))), h.hT, h.tN, fun k hk => Nat.lt_of_lt_of_le (h.tl k hk) hc.size, h.nN, h.nP, h.dMG, h.dMB, h.dGB, h.dR⟩
theorem MIs.later (h : MIs w y T z m) (hb : Below w.heap.size w w') : MIs w' y T z m :=
  h.chg (S := fun _ => False) (Chg.of_below hb) (fun _ e => e.elim) (fun _ e => e.elim)
theorem bf_tag {w : World} {B room : Nat} {xs : List Int} (h : BfIs T w B room xs) (hT : ∀ k, T' k → T k ∨ w.heap.size ≤ k) (hB : T' B) : BfIs T' w B room xs := by
  obtain ⟨p, cap, hr⟩ := h.row
  exact ⟨h.r1, h.r2, h.len, h.c1, p, cap, hr.len, hr.c, hr.f, hr.rd, hr.nc, hr.le, fun g hg => ⟨fun e => (hT g e).elim (hr.ap g hg).1 (fun e => by have := (hr.ap g hg).2; omega), (hr.ap g hg).2⟩, hB⟩
/-- Another tag. -/
theorem MIs.tag (h : MIs w y T z m) (hT : ∀ k, T' k → T k ∨ w.heap.size ≤ k) (hI : ∀ k, T k → T' k) (hl : ∀ k, T' k → k < w.heap.size) : MIs w y T' z m :=
  { h with bf := bf_tag h.bf hT (hI _ (h.hT _ (.inr (.inr (.inl rfl))))), hT := fun k hk => hI _ (h.hT k hk), tN := hI _ h.tN, tl := hl, nP := fun g hg => ⟨hI _ (h.nP g hg).1, (h.nP g hg).2⟩ }
end
/-- A noter, as it lies. -/
structure NtAt (w : World) (N H B X F : Nat) : Prop where
  n0 : w.cell? ⟨N, 0, none⟩ = some (.pointer (some ⟨H, 0, none⟩))
  n1 : w.cell? ⟨N, 1, none⟩ = some (.pointer (some ⟨B, 0, none⟩))
  n2 : w.cell? ⟨N, 2, none⟩ = some (.pointer (some ⟨X, 0, none⟩))
  n3 : w.cell? ⟨N, 3, none⟩ = some (.pointer (some ⟨F, 0, none⟩))
theorem NtAt.later {w w' : World} {N H B X F : Nat} (h : NtAt w N H B X F) (hb : Below w.heap.size w w') : NtAt w' N H B X F :=
  ⟨(hb.cell (p := ⟨N, 0, none⟩) (lt_of_cell h.n0)).trans h.n0, (hb.cell (p := ⟨N, 1, none⟩) (lt_of_cell h.n1)).trans h.n1, (hb.cell (p := ⟨N, 2, none⟩) (lt_of_cell h.n2)).trans h.n2, (hb.cell (p := ⟨N, 3, none⟩) (lt_of_cell h.n3)).trans h.n3⟩
/-- note.New, of what is there. -/
theorem noter_new (H B X F : Nat) (w : World) : Calls Tryz.prog 47 #[.pointer (some ⟨H, 0, none⟩), .pointer (some ⟨B, 0, none⟩), .pointer (some ⟨X, 0, none⟩), .pointer (some ⟨F, 0, none⟩)] w fun e w' => ∃ N, e = .returned (.tuple #[.pointer (some ⟨N, 0, none⟩), .int .i64 0]) ∧ w.heap.size ≤ N ∧ NtAt w' N H B X F ∧ Below w.heap.size w w' := by
  go_enter Tryz.func47, Tryz.ntmps47
  go_wp2_with fail
  go_ret2
  exact ⟨w.heap.size, rfl, Nat.le_refl _, ⟨by rw [World.cell?_alloc_new]; rfl, by rw [World.cell?_alloc_new]; rfl, by rw [World.cell?_alloc_new]; rfl, by rw [World.cell?_alloc_new]; rfl⟩, (Below.refl _ _).alloc (Nat.le_refl _) _⟩
theorem below_grown {w w' : World} (h : ∃ p : Regrown, w' = «Sort».grow (redrawn w p.d) p.os) : Below w.heap.size w w' := by
  obtain ⟨p, rfl⟩ := h
  exact below_regrown w p.d p.os
/-- What New loads at its call of note.New. -/
structure Ld (wb U : World) (y : Sy) (nb bq off id : Nat) : Prop where
  b : Below wb.heap.size wb U
  l0 : U.cell? ⟨y.S, 0, none⟩ = some (.pointer (some ⟨y.H, 0, none⟩))
  l3 : U.cell? ⟨y.S, 3, none⟩ = some (.pointer (some ⟨y.F, 0, none⟩))
  l4 : U.cell? ⟨y.S, 4, none⟩ = some (.slice (some ⟨bq, off, none⟩) nb y.cx)
  lx : U.cell? ⟨bq, off + id, none⟩ = some (.pointer (some ⟨y.X id, 0, none⟩))
theorem Ld.later {wb U V : World} {y : Sy} {nb bq off id : Nat} (h : Ld wb U y nb bq off id) (hb : Below U.heap.size U V) : Ld wb V y nb bq off id :=
  ⟨h.b.trans (hb.mono h.b.size), (hb.cell (p := ⟨y.S, 0, none⟩) (lt_of_cell h.l0)).trans h.l0, (hb.cell (p := ⟨y.S, 3, none⟩) (lt_of_cell h.l3)).trans h.l3, (hb.cell (p := ⟨y.S, 4, none⟩) (lt_of_cell h.l4)).trans h.l4, (hb.cell (p := ⟨bq, off + id, none⟩) (lt_of_cell h.lx)).trans h.lx⟩
/-- Another tag, in a later world. -/
theorem ShIs.grow {w w' : World} {y : Sy} {T T' : Nat → Prop} {x : Sd} {n nb : Nat} (h : ShIs w y T x n nb) (hb : Below w.heap.size w w') (hT : ∀ k, T' k → T k ∨ w.heap.size ≤ k) (hI : ∀ k, T k → T' k) (hl : ∀ k, T' k → k < w'.heap.size) : ShIs w' y T' x n nb :=
  { h.later hb with bx := fun i hi => (bx_tag (h.bx i hi) hT (hI _ (h.hT _ (.inr (.inr (.inr (.inr ⟨i, hi, rfl⟩))))))).later hb, hT := fun k hk => hI _ (h.hT k hk), tl := hl }
theorem own_none {w : World} {base cap n size : Nat} {e : TypeId} {p : Option Addr} {xs : List Value} (h : w.ownsRow base e size (.slice p n cap) n xs) (hp : p = none) : cap = 0 := by
  subst hp
  obtain ⟨_, ⟨e, _⟩ | ⟨g, c, cur, e, _⟩⟩ := h
  · injection e
  · cases e
/-- What New lays. -/
def mutC (S id G r B N : Nat) (p : Option Addr) (l cap : Nat) : Array Value := #[.pointer (some ⟨S, 0, none⟩), .int .i64 id, .slice (some ⟨G, 0, none⟩) r r, .pointer (some ⟨B, 0, none⟩), .pointer (some ⟨N, 0, none⟩), .int .i64 0, .int .i64 0, .int .i64 0, .slice p l cap, .slice none 0 0, .int .i64 0, .nilFunc, .int .i64 0, .int .i64 0, .int .i64 0, .int .i64 0, .int .i64 0, .int .i64 0, .int .i64 0, .int .i64 0, .int .i64 0]
theorem MIs.fresh {w wG : World} {y : Sy} {T : Nat → Prop} {x : Sd} {n nb : Nat} (h : ShIs w y T x n nb) (hb : Below w.heap.size w wG) {B N G id r room cap : Nat} {p : Option Addr} {pg : List O4} {t : TypeId}
    (hbf : ∀ T' : Nat → Prop, T' B → BfIs T' wG B room []) (hN : NtAt wG N y.H B (y.X id) y.F) (hG : ∀ j, j < r → wG.cell? ⟨G, j, none⟩ = some (.int .i64 0)) (hGf : ∀ j, wG.frozen? ⟨G, j, none⟩ = false) (hp : OpsR wG p pg) (hpc : p = none → cap = 0)
    (lB : w.heap.size ≤ B) (lN : w.heap.size ≤ N) (lG : w.heap.size ≤ G) (gG : G < wG.heap.size) (hBN : B ≠ N) (hBG : B ≠ G) (hNG : N ≠ G) (lp : ∀ g, rowB p g → w.heap.size ≤ g ∧ g < wG.heap.size ∧ g ≠ B ∧ g ≠ G) :
    ∃ (z : Ml) (T' : Nat → Prop), z.M = wG.heap.size ∧ z.id = id ∧ ShIs (wG.alloc (.cells (mutC y.S id G r B N p pg.length cap) t)) y T' x n nb ∧ MIs (wG.alloc (.cells (mutC y.S id G r B N p pg.length cap) t)) y T' z (md0 r room pg) ∧ (∀ k, T k → T' k) ∧ (∀ k, T' k → T k ∨ w.heap.size ≤ k) ∧ (∀ k, ownM z k ∨ k = z.N ∨ rowB z.pp k → w.heap.size ≤ k) := by
  have hA : Below wG.heap.size wG (wG.alloc (.cells (mutC y.S id G r B N p pg.length cap) t)) := (Below.refl _ _).alloc (Nat.le_refl _) _
  have hc : ∀ (o : Nat) (v : Value), (mutC y.S id G r B N p pg.length cap)[o]? = some v → (wG.alloc (.cells (mutC y.S id G r B N p pg.length cap) t)).cell? ⟨wG.heap.size, o, none⟩ = some v := fun o v hv => by
    rw [World.cell?_alloc_new]; exact hv
  have hz : (wG.alloc (.cells (mutC y.S id G r B N p pg.length cap) t)).heap.size = wG.heap.size + 1 := World.size_alloc ..
  have hf : ∀ o, (wG.alloc (.cells (mutC y.S id G r B N p pg.length cap) t)).frozen? ⟨wG.heap.size, o, none⟩ = false := fun o => World.frozen?_alloc_at _ _ _ _ rfl
  generalize wG.alloc (.cells (mutC y.S id G r B N p pg.length cap) t) = V at *
  have hwG := hb.size
  have hBl : B < wG.heap.size := (hbf (fun _ => True) trivial).ltB
  have hNl : N < wG.heap.size := lt_of_cell hN.n0
  have hown : ∀ k, ownM ⟨wG.heap.size, G, B, N, id, p, cap, none, 0⟩ k → k = wG.heap.size ∨ k = G ∨ k = B := fun k hk => by
    rcases hk with e | e | e | e
    · exact .inl e
    · exact .inr (.inl e)
    · exact .inr (.inr e)
    · exact absurd e (rowB_none k)
  refine ⟨⟨wG.heap.size, G, B, N, id, p, cap, none, 0⟩, fun k => T k ∨ (w.heap.size ≤ k ∧ k < wG.heap.size + 1), rfl, rfl, h.grow (hb.trans (hA.mono hb.size)) (fun k hk => hk.imp (fun e => e) (fun e => e.1)) (fun k hk => .inl hk) (fun k hk => ?_), ?_, fun k hk => .inl hk, fun k hk => hk.imp (fun e => e) (fun e => e.1), fun k hk => ?_⟩
  · rcases hk with e | e
    · have := h.tl k e; omega
    · omega
  · refine ⟨hc 0 _ rfl, hc 1 _ rfl, ?_, hc 3 _ rfl, hc 4 _ rfl, hc 5 _ rfl, hc 6 _ rfl, hc 7 _ rfl, hc 8 _ rfl, hc 9 _ rfl, hc 10 _ rfl, hc 11 _ rfl, hc 12 _ rfl, fun i hi => ?_, hc 19 _ rfl, hc 20 _ rfl, hf, fun j hj => ?_, fun j => (hA.frozen (p := ⟨G, j, none⟩) gG).trans (hGf j), by show G < _; omega, (hbf _ (.inr ⟨lB, by omega⟩)).later hA, (hN.later hA).n0, (hN.later hA).n1, (hN.later hA).n2, (hN.later hA).n3, hp.later hA, hpc, ⟨rfl, .inl ⟨rfl, rfl⟩⟩, fun k hk => ?_, .inr ⟨lN, by show N < _; omega⟩, fun k hk => ?_, fun e => ?_, fun g hg => ⟨.inr ⟨(lp g hg).1, by have := (lp g hg).2.1; omega⟩, fun e => ?_⟩, by show wG.heap.size ≠ G; omega, by show wG.heap.size ≠ B; omega, fun e => hBG e.symm, fun g hg => absurd hg (rowB_none g)⟩
    · have : (md0 r room pg).rg.length = r := by simp [md0]
      rw [this]
      exact hc 2 _ rfl
    · have : i = 0 ∨ i = 1 ∨ i = 2 ∨ i = 3 ∨ i = 4 ∨ i = 5 := by omega
      rcases this with rfl | rfl | rfl | rfl | rfl | rfl
      · exact hc 13 _ rfl
      · exact hc 14 _ rfl
      · exact hc 15 _ rfl
      · exact hc 16 _ rfl
      · exact hc 17 _ rfl
      · exact hc 18 _ rfl
    · have hj2 : j < r := by simpa [md0] using hj
      have : (md0 r room pg).rg.getD j 0 = 0 := by simp [md0, hj2]
      rw [this]
      exact (hA.cell (p := ⟨G, j, none⟩) gG).trans (hG j hj2)
    · rcases hown k hk with e | e | e
      · exact .inr ⟨by omega, by omega⟩
      · exact .inr ⟨by omega, by omega⟩
      · exact .inr ⟨by omega, by omega⟩
    · rcases hk with e | e
      · have := h.tl k e; omega
      · omega
    · rcases hown N e with e | e | e
      · omega
      · exact hNG e
      · exact hBN e.symm
    · rcases hown g e with e | e | e
      · have := (lp g hg).2.1; omega
      · exact (lp g hg).2.2.2 e
      · exact (lp g hg).2.2.1 e
  · rcases hk with e | e | e
    · rcases hown k e with e | e | e <;> omega
    · have e : k = N := e
      omega
    · exact (lp k e).1
/-- What New leaves. -/
def NewP (w V : World) (M : Nat) (y : Sy) (T : Nat → Prop) (x : Sd) (n nb id r room : Nat) (pg : List O4) : Prop :=
  ∃ (z : Ml) (T' : Nat → Prop), z.M = M ∧ z.id = id ∧ ShIs V y T' x n nb ∧ MIs V y T' z (md0 r room pg) ∧ (∀ k, T k → T' k) ∧ (∀ k, T' k → T k ∨ w.heap.size ≤ k) ∧ (∀ k, ownM z k ∨ k = z.N ∨ rowB z.pp k → w.heap.size ≤ k) ∧ Below w.heap.size w V
/-- The registers first, then the program. -/
theorem NewP.one {w w4 w8 w9 : World} {y : Sy} {T : Nat → Prop} {x : Sd} {n nb B N id r room cap : Nat} {p : Option Addr} {pg : List O4} (h : ShIs w y T x n nb) (hb4 : Below w.heap.size w w4) (hb8 : Below w4.heap.size w4 w8) (hbf : ∀ T' : Nat → Prop, T' B → BfIs T' w4 B room []) (hN : w4.heap.size ≤ N ∧ NtAt w8 N y.H B (y.X id) y.F) (lB : w.heap.size ≤ B)
    (hown : w9.ownsRow (w8.alloc (.cells (zeroInts r) 3)).drew.heap.size 72 4 (.slice p pg.length cap) pg.length (cellsO pg)) (hb9 : Below (w8.alloc (.cells (zeroInts r) 3)).drew.heap.size (w8.alloc (.cells (zeroInts r) 3)).drew w9) :
    NewP w (w9.alloc (.cells (mutC y.S id w8.heap.size r B N p pg.length cap) 106)) w9.heap.size y T x n nb id r room pg := by
  have hg : ∀ j, j < r → (w8.alloc (.cells (zeroInts r) 3)).drew.cell? ⟨w8.heap.size, j, none⟩ = some (.int .i64 0) := fun j hj => by
    rw [show (w8.alloc (.cells (zeroInts r) 3)).drew.cell? ⟨w8.heap.size, j, none⟩ = (w8.alloc (.cells (zeroInts r) 3)).cell? ⟨w8.heap.size, j, none⟩ from rfl, World.cell?_alloc_new]
    exact Hp.zeroInts_at r j hj
  have hf : ∀ j, (w8.alloc (.cells (zeroInts r) 3)).drew.frozen? ⟨w8.heap.size, j, none⟩ = false := fun j => by
    rw [show (w8.alloc (.cells (zeroInts r) 3)).drew.frozen? ⟨w8.heap.size, j, none⟩ = (w8.alloc (.cells (zeroInts r) 3)).frozen? ⟨w8.heap.size, j, none⟩ from rfl]
    exact World.frozen?_alloc_at _ _ _ _ rfl
  have hz : (w8.alloc (.cells (zeroInts r) 3)).drew.heap.size = w8.heap.size + 1 := World.size_alloc ..
  have hbA : Below w8.heap.size w8 (w8.alloc (.cells (zeroInts r) 3)).drew := ((Below.refl _ _).alloc (Nat.le_refl _) _).drew
  generalize (w8.alloc (.cells (zeroInts r) 3)).drew = V at *
  have hb89 : Below w8.heap.size w8 w9 := hbA.trans (hb9.mono hbA.size)
  have hb49 : Below w4.heap.size w4 w9 := hb8.trans (hb89.mono hb8.size)
  have hb09 : Below w.heap.size w w9 := hb4.trans (hb49.mono hb4.size)
  have hB4 : B < w4.heap.size := (hbf (fun _ => True) trivial).ltB
  have hN8 : N < w8.heap.size := lt_of_cell hN.2.n0
  have h4 := hb4.size
  have h8 := hb8.size
  have h9 := hb9.size
  obtain ⟨z, T', k1, k2, k3, k4, k5, k6, k7⟩ := MIs.fresh (t := 106) h hb09 (N := N) (G := w8.heap.size) (r := r) (room := room) (cap := cap) (p := p) (pg := pg) (id := id) (fun T' hT => (hbf T' hT).later hb49) (hN.2.later hb89)
    (fun j hj => (hb9.cell (p := ⟨w8.heap.size, j, none⟩) (by show w8.heap.size < _; omega)).trans (hg j hj)) (fun j => (hb9.frozen (p := ⟨w8.heap.size, j, none⟩) (by show w8.heap.size < _; omega)).trans (hf j)) (OpsR.of_owns hown) (own_none hown) lB (by omega) (by omega) (by omega) (by omega) (by omega) (by omega)
    (fun g hg => by have := (owns_lt hown hg).1; have := (owns_lt hown hg).2; exact ⟨by omega, by omega, by omega, by omega⟩)
  exact ⟨z, T', k1, k2, k3, k4, k5, k6, k7, hb09.alloc hb09.size _⟩
/-- The program first. -/
theorem NewP.two {w w4 w8 w9 : World} {y : Sy} {T : Nat → Prop} {x : Sd} {n nb B N id r room cap : Nat} {p : Option Addr} {pg : List O4} (h : ShIs w y T x n nb) (hb4 : Below w.heap.size w w4) (hb8 : Below w4.heap.size w4 w8) (hbf : ∀ T' : Nat → Prop, T' B → BfIs T' w4 B room []) (hN : w4.heap.size ≤ N ∧ NtAt w8 N y.H B (y.X id) y.F) (lB : w.heap.size ≤ B)
    (hown : w9.ownsRow w8.drew.heap.size 72 4 (.slice p pg.length cap) pg.length (cellsO pg)) (hb9 : Below w8.drew.heap.size w8.drew w9) :
    NewP w ((w9.alloc (.cells (zeroInts r) 3)).alloc (.cells (mutC y.S id w9.heap.size r B N p pg.length cap) 106)) (w9.heap.size + 1) y T x n nb id r room pg := by
  have hg : ∀ j, j < r → (w9.alloc (.cells (zeroInts r) 3)).cell? ⟨w9.heap.size, j, none⟩ = some (.int .i64 0) := fun j hj => by
    rw [World.cell?_alloc_new]
    exact Hp.zeroInts_at r j hj
  have hf : ∀ j, (w9.alloc (.cells (zeroInts r) 3)).frozen? ⟨w9.heap.size, j, none⟩ = false := fun j => World.frozen?_alloc_at _ _ _ _ rfl
  have hz : (w9.alloc (.cells (zeroInts r) 3)).heap.size = w9.heap.size + 1 := World.size_alloc ..
  have hbA : Below w9.heap.size w9 (w9.alloc (.cells (zeroInts r) 3)) := (Below.refl _ _).alloc (Nat.le_refl _) _
  generalize w9.alloc (.cells (zeroInts r) 3) = V at *
  have hb9' : Below w8.heap.size w8 w9 := (Below.refl w8.heap.size w8).drew.trans hb9
  have hb8V : Below w8.heap.size w8 V := hb9'.trans (hbA.mono hb9'.size)
  have hb4V : Below w4.heap.size w4 V := hb8.trans (hb8V.mono hb8.size)
  have hb0V : Below w.heap.size w V := hb4.trans (hb4V.mono hb4.size)
  have hB4 : B < w4.heap.size := (hbf (fun _ => True) trivial).ltB
  have hN8 : N < w8.heap.size := lt_of_cell hN.2.n0
  have h4 := hb4.size
  have h8 := hb8.size
  have h9 := hb9'.size
  have hown8 : ∀ g, rowB p g → w8.heap.size ≤ g := fun g hg => (owns_lt hown hg).1
  obtain ⟨z, T', k1, k2, k3, k4, k5, k6, k7⟩ := MIs.fresh (t := 106) h hb0V (N := N) (G := w9.heap.size) (r := r) (room := room) (cap := cap) (p := p) (pg := pg) (id := id) (fun T' hT => (hbf T' hT).later hb4V) (hN.2.later hb8V)
    hg hf ((OpsR.of_owns hown).later hbA) (own_none hown) lB (by omega) (by omega) (by omega) (by omega) (by omega) (by omega)
    (fun g hg => by have := hown8 g hg; have := (owns_lt hown hg).2; exact ⟨by omega, by omega, by omega, by omega⟩)
  exact ⟨z, T', k1.trans hz, k2, k3, k4, k5, k6, k7, hb0V.alloc hb0V.size _⟩
theorem mnew_nil (id : Int) (v : Value) (w : World) : Calls Tryz.prog 12 #[.pointer none, .int .i64 id, v] w fun e w' => e = .returned (.tuple #[.pointer none, .int .i64 1]) ∧ ∃ q, w' = w.drewN q := by
  have HW := Lib.hid (fun V => whole_nil V)
  go_enter Tryz.func12, Tryz.ntmps12
  go_wp2_with fail
  go_quiet ((go_at_call 44; exact Calls.quiet_of_same (HW.out _)))
  go_wp2_with fail
  go_ret2
  exact ⟨rfl, _, rfl⟩
set_option maxRecDepth 100000 in
set_option maxHeartbeats 4000000 in
theorem mnew_any {y : Sy} {T : Nat → Prop} {x : Sd} {n nb cp : Nat} (w : World) (h : ShIs w y T x n nb) (hm : x.s.c.m = (nb : Int)) (id : Nat) (hid : id < nb) (pp : Option Addr) (pg : List O4) (hpg : OpsR w pp pg) (hl : pg.length ≤ 1000) (hpc : pp = none → cp = 0) :
    Calls Tryz.prog 12 #[.pointer (some ⟨y.S, 0, none⟩), .int .i64 id, .slice pp pg.length cp] w fun e w' => ∃ (z : Ml) (T' : Nat → Prop) (r room : Nat), e = .returned (.tuple #[.pointer (some ⟨z.M, 0, none⟩), .int .i64 0]) ∧ z.id = id ∧ x.s.c.r = (r : Int) ∧ x.s.c.lg = (room : Int) ∧ ShIs w' y T' x n nb ∧ MIs w' y T' z (md0 r room pg) ∧ (∀ k, T k → T' k) ∧ (∀ k, T' k → T k ∨ w.heap.size ≤ k) ∧ (∀ k, ownM z k ∨ k = z.N ∨ rowB z.pp k → w.heap.size ≤ k) ∧ Below w.heap.size w w' := by
  have HSH := Lib.hid h
  have HPG := Lib.hid hpg
  obtain ⟨bq, off, epx, hpx⟩ := h.pr id hid
  have HPC := Lib.hid hpc
  have HL := Lib.hid hl
  have hR := Blk.slots_bd h.hp.wf.right
  obtain ⟨room, hroom⟩ : ∃ room : Nat, x.s.c.lg = (room : Int) := ⟨x.s.c.lg.toNat, by have := hR.lg0; omega⟩
  obtain ⟨r, hr⟩ : ∃ r : Nat, x.s.c.r = (r : Int) := ⟨x.s.c.r.toNat, by have := hR.r0; omega⟩
  have HR := Lib.hid (And.intro hroom hr)
  have HB : Hid (1 ≤ room ∧ room ≤ 256 ∧ r ≤ 64) := Lib.hid ⟨by have := hR.lg0; omega, by have := hR.lg1; omega, by have := hR.r1; omega⟩
  have HCF := Lib.hid (fun (V : World) (hb : Below w.heap.size w V) => Hp.config_any V (h.later hb).hp)
  rw [hm, hroom, hr] at HCF
  have HW := Lib.hid (fun (V : World) (hb : Below w.heap.size w V) => (whole_any (h.later hb)).mono fun e w' (hw : e = .returned (.bool true) ∧ w' = V) => (show e = .returned (.bool true) ∧ Below V.heap.size V w' from ⟨hw.1, hw.2 ▸ Below.refl _ _⟩))
  have HGR := Lib.hid (fun d os => below_regrown w d os)
  have c0 := h.c0
  have c4 := h.c4
  rw [epx] at c4
  have HLD : Hid (Ld w w y nb bq off id) := Lib.hid ⟨Below.refl _ _, c0, h.c3, c4, hpx⟩
  have hls := h.ltS
  have k0 := cell_regrown c0
  have k4 := cell_regrown c4
  have i0 : (0 : Int) ≤ (id : Int) := by omega
  have i1 : (id : Int) < (nb : Int) := by omega
  have i2 : ¬ (id : Int) < 0 := by omega
  have i3 : ¬ (nb : Int) ≤ (id : Int) := by omega
  have hfB := fieldB_cfg
  have d2 : decide ((id : Int) < 0) = false := by simp
  have d3 : decide ((nb : Int) ≤ (id : Int)) = false := by simp; omega
  have d4 : min (nb : Int) (nb : Int) = nb := by simp
  have d5 : decide (nb ≤ id) = false := by simp; omega
  clear h hpg hpc hl hR hroom hr hm epx hpx
  go_enter Tryz.func12, Tryz.ntmps12
  go_wp2_with fail
  refine wp_region_quiet_below (by kernel_rfl) (by kernel_rfl) ?_
  repeat (go_big_quiet_step (first
    | (go_at_call 44; exact Calls.regrown_of (HW.out _ (HGR.out _ _)))
    | (go_at_call 45; exact Calls.regrown_of (HCF.out _ (HGR.out _ _)))))
  refine wpQuiet_nil ?_
  intro wp hw'
  have HBP := Lib.hid (below_grown hw')
  have HLP := Lib.hid (HLD.out.later HBP.out)
  have p0 := HLP.out.l0
  have hlp := lt_of_cell p0
  clear hw' k0 k4 c0 c4 hls
  have HCP := Lib.hid (HCF.out _ HBP.out)
  have HPL : Hid ((pg.length : Int) ≤ 1000) := Lib.hid (by have := HL.out; omega)
  go_wp2_with (go_at_call 45; fail)
  refine HCP.out.mono ?_
  rintro e w2 ⟨rfl, hb2⟩
  have HB2 := Lib.hid (HBP.out.trans (hb2.mono HBP.out.size))
  have HL2 := Lib.hid (HLP.out.later hb2)
  have hA3 : Below w2.heap.size w2 (w2.alloc (.cells #[.int .i64 x.s.c.b, .int .i64 x.s.c.wd, .int .i64 nb, .int .i64 r, .int .i64 x.s.c.ce, .int .i64 room, .int .i64 x.s.c.st] 23)) := (Below.refl _ _).alloc (Nat.le_refl _) _
  have HA3 := Lib.hid hA3
  have HC3 : Hid ((w2.alloc (.cells #[.int .i64 x.s.c.b, .int .i64 x.s.c.wd, .int .i64 nb, .int .i64 r, .int .i64 x.s.c.ce, .int .i64 room, .int .i64 x.s.c.st] 23)).cell? ⟨w2.heap.size, 3, none⟩ = some (.int .i64 r)) := Lib.hid (by rw [World.cell?_alloc_new]; rfl)
  have HNL := Lib.hid (fun V => Lg.new_good room (room : Int) rfl V HB.out.1 HB.out.2.1)
  clear hb2 HCP p0 hlp HBP HLP hA3
  go_wp2_with (go_at_call 46; fail)
  refine (HNL.out _).mono ?_
  rintro e w4 ⟨rfl, hbf, hb4, hz4⟩
  generalize hw3 : w2.alloc (.cells #[.int .i64 x.s.c.b, .int .i64 x.s.c.wd, .int .i64 nb, .int .i64 r, .int .i64 x.s.c.ce, .int .i64 room, .int .i64 x.s.c.st] 23) = w3 at *
  have HBF := Lib.hid hbf
  have HZ3 : Hid (w3.heap.size = w2.heap.size + 1) := Lib.hid (by rw [← hw3, World.size_alloc])
  have HZ4 := Lib.hid hz4
  have hc43 := (hb4.cell (p := ⟨w2.heap.size, 3, none⟩) (lt_of_cell HC3.out)).trans HC3.out
  have HC43 := Lib.hid hc43
  have HB24 : Hid (Below w2.heap.size w2 w4) := Lib.hid (HA3.out.trans (hb4.mono HA3.out.size))
  have HL4 : Hid (Ld w4 w4 y nb bq off id) := Lib.hid (by
    have h := HL2.out.later HB24.out
    exact ⟨Below.refl _ _, h.l0, h.l3, h.l4, h.lx⟩)
  have HNN := Lib.hid (fun (U : World) (hb : Below w4.heap.size w4 U) => (noter_new y.H w3.heap.size (y.X id) y.F U).mono fun e w' (h : ∃ N, e = .returned (.tuple #[.pointer (some ⟨N, 0, none⟩), .int .i64 0]) ∧ U.heap.size ≤ N ∧ NtAt w' N y.H w3.heap.size (y.X id) y.F ∧ Below U.heap.size U w') => (show ∃ N, e = .returned (.tuple #[.pointer (some ⟨N, 0, none⟩), .int .i64 0]) ∧ (w4.heap.size ≤ N ∧ NtAt w' N y.H w3.heap.size (y.X id) y.F) ∧ Below U.heap.size U w' from by
    obtain ⟨N, h1, h2, h3, h4⟩ := h
    exact ⟨N, h1, ⟨Nat.le_trans hb.size h2, h3⟩, h4⟩))
  have HKD : Hid (Ld w4 w4.drew y nb bq off id) := Lib.hid (HL4.out.later (Below.refl _ _).drew)
  have HKS : Hid (∀ wc W : World, Below wc.heap.size wc W → (Below w4.heap.size w4 wc ∧ wc.cell? ⟨y.S, 0, none⟩ = some (.pointer (some ⟨y.H, 0, none⟩)) ∧ wc.cell? ⟨y.S, 3, none⟩ = some (.pointer (some ⟨y.F, 0, none⟩)) ∧ wc.cell? ⟨y.S, 4, none⟩ = some (.slice (some ⟨bq, off, none⟩) nb y.cx) ∧ wc.cell? ⟨bq, off + id, none⟩ = some (.pointer (some ⟨y.X id, 0, none⟩))) →
      (Below w4.heap.size w4 W ∧ W.cell? ⟨y.S, 0, none⟩ = some (.pointer (some ⟨y.H, 0, none⟩)) ∧ W.cell? ⟨y.S, 3, none⟩ = some (.pointer (some ⟨y.F, 0, none⟩)) ∧ W.cell? ⟨y.S, 4, none⟩ = some (.slice (some ⟨bq, off, none⟩) nb y.cx) ∧ W.cell? ⟨bq, off + id, none⟩ = some (.pointer (some ⟨y.X id, 0, none⟩)))) := Lib.hid fun wc W hb h => by
    have h2 := (show Ld w4 wc y nb bq off id from ⟨h.1, h.2.1, h.2.2.1, h.2.2.2.1, h.2.2.2.2⟩).later hb
    exact ⟨h2.b, h2.l0, h2.l3, h2.l4, h2.lx⟩
  have HK0 : Hid (Below w4.heap.size w4 w4.drew ∧ w4.drew.cell? ⟨y.S, 0, none⟩ = some (.pointer (some ⟨y.H, 0, none⟩)) ∧ w4.drew.cell? ⟨y.S, 3, none⟩ = some (.pointer (some ⟨y.F, 0, none⟩)) ∧ w4.drew.cell? ⟨y.S, 4, none⟩ = some (.slice (some ⟨bq, off, none⟩) nb y.cx) ∧ w4.drew.cell? ⟨bq, off + id, none⟩ = some (.pointer (some ⟨y.X id, 0, none⟩))) := Lib.hid ⟨HKD.out.b, HKD.out.l0, HKD.out.l3, HKD.out.l4, HKD.out.lx⟩
  have hls4 := lt_of_cell HL4.out.l0
  clear hbf hb4 hz4 hw3
  go_wp2_with fail
  go_region_held3 (fun U => Below w4.heap.size w4 U ∧ U.cell? ⟨y.S, 0, none⟩ = some (.pointer (some ⟨y.H, 0, none⟩)) ∧ U.cell? ⟨y.S, 3, none⟩ = some (.pointer (some ⟨y.F, 0, none⟩)) ∧ U.cell? ⟨y.S, 4, none⟩ = some (.slice (some ⟨bq, off, none⟩) nb y.cx) ∧ U.cell? ⟨bq, off + id, none⟩ = some (.pointer (some ⟨y.X id, 0, none⟩)))
    (first | exact HK0.out | assumption | exact HKS.out _ _ hb8 (by assumption))
    (first
      | (go_at_call 47; refine (HNN.out _ (And.left (by assumption))).mono ?_; rintro e w8 ⟨N, rfl, hn8, hb8⟩))
  have hS8 : Ld w4 w8 y nb bq off id := by
    have h := (show (Below w4.heap.size w4 w8 ∧ w8.cell? ⟨y.S, 0, none⟩ = some (.pointer (some ⟨y.H, 0, none⟩)) ∧ w8.cell? ⟨y.S, 3, none⟩ = some (.pointer (some ⟨y.F, 0, none⟩)) ∧ w8.cell? ⟨y.S, 4, none⟩ = some (.slice (some ⟨bq, off, none⟩) nb y.cx) ∧ w8.cell? ⟨bq, off + id, none⟩ = some (.pointer (some ⟨y.X id, 0, none⟩))) from by assumption)
    exact ⟨h.1, h.2.1, h.2.2.1, h.2.2.2.1, h.2.2.2.2⟩
  have HB48 := Lib.hid hS8.b
  have HN8 := Lib.hid hn8
  have hc83 := (hS8.b.cell (p := ⟨w2.heap.size, 3, none⟩) (lt_of_cell HC43.out)).trans HC43.out
  have hlc := lt_of_cell hc83
  have HB08 : Hid (Below w.heap.size w w8) := Lib.hid (HB2.out.trans ((HB24.out.trans (hS8.b.mono HB24.out.size)).mono HB2.out.size))
  have HCL := Lib.hid (fun (V : World) (hb : Below w8.heap.size w8 V) => clone_ops (cap := cp) pp pg V (by have := HL.out; omega) HPC.out ((HPG.out.later HB08.out).later hb))
  have hmk := Hp.make_ints r (by have := HB.out.2.2; omega)
  have hpl := HPL.out
  have hpl2 : ¬ (1000 : Int) < (pg.length : Int) := by omega
  have HC83 := Lib.hid (fun (V : World) (hb : Below w8.heap.size w8 V) => (hb.cell (p := ⟨w2.heap.size, 3, none⟩) hlc).trans hc83)
  clear hS8 hn8 hc43 hls4 HNN HKD HKS HK0 HL4
  have HA1 : Hid (Below w8.heap.size w8 (w8.alloc (.cells (zeroInts r) 3)).drew) := Lib.hid ((Below.refl _ _).alloc (Nat.le_refl _) _).drew
  have HA2 : Hid (Below w8.heap.size w8 w8.drew) := Lib.hid (Below.refl _ _).drew
  have HB04 : Hid (Below w.heap.size w w4) := Lib.hid (HB2.out.trans (HB24.out.mono HB2.out.size))
  have hlB : w.heap.size ≤ w3.heap.size := by have := HB2.out.size; rw [HZ3.out]; omega
  have HR1 := Lib.hid (fun w9 p' cap' h1 h2 => NewP.one (pg := pg) (w9 := w9) (p := p') (cap := cap') (r := r) HSH.out HB04.out HB48.out HBF.out HN8.out hlB h1 h2)
  have HR2 := Lib.hid (fun w9 p' cap' h1 h2 => NewP.two (pg := pg) (w9 := w9) (p := p') (cap := cap') (r := r) HSH.out HB04.out HB48.out HBF.out HN8.out hlB h1 h2)
  clear hlB
  go_wp2_with fail
  go_region_with (go_at_call 48; first
    | (refine (HCL.out _ HA1.out).mono ?_; rintro e w9 ⟨p', cap', rfl, hown, hb9⟩; have HWN := Lib.hid (HR1.out w9 p' cap' hown hb9); clear hown hb9)
    | (refine (HCL.out _ HA2.out).mono ?_; rintro e w9 ⟨p', cap', rfl, hown, hb9⟩; have HWN := Lib.hid (HR2.out w9 p' cap' hown hb9); have hc93 := HC83.out w9 (HA2.out.trans (hb9.mono HA2.out.size)); have hlc9 := lt_of_cell hc93; clear hown hb9))
  all_goals go_wp2_with fail
  all_goals go_ret2
  all_goals obtain ⟨z, T', k1, k2, k3, k4, k5, k6, k7, k8⟩ := HWN.out
  all_goals exact ⟨z, T', r, room, by rw [k1]; rfl, k2, HR.out.2, HR.out.1, k3, k4, k5, k6, k7, k8⟩
end Go.Proofs.YtipifkgmhgkleaaGreatDoor.Mu
