/-
  A cursor in memory; New of none, Left, Done, Block, Step, of every cursor that there is, and of none.
-/
import Derived.Test.YtbejddpfnglkbaaGreatDoorHq5
import Derived.Test.YtbejddpfnglkbaaGreatDoorHq4
import Derived.WalkMore
namespace Go.Proofs.YtbejddpfnglkbaaGreatDoor.Sw
open Go.RowKit
open Blk (Cfg)
open Hp (Ids St Wf Is To Mine bnI bn coE coV frE frS colB)
open Go.Proofs.YtbejddpfnglkbaaGreatDoor.Row (Chg Rd cell_of_block frozen_of_block other same rowB)
open Go.Proofs.YtbejddpfnglkbaaGreatDoor.Addr (Tabs)

/-- A cursor in memory. -/
structure CuIs (w : World) (C H : Nat) (b col : Int) (p : Option Addr) (cap : Nat) (L : List Int) : Prop where
  c0 : w.cell? ⟨C, 0, none⟩ = some (.pointer (some ⟨H, 0, none⟩))
  c1 : w.cell? ⟨C, 1, none⟩ = some (.int .i64 b)
  c2 : w.cell? ⟨C, 2, none⟩ = some (.int .i64 col)
  c3 : w.cell? ⟨C, 3, none⟩ = some (.slice p L.length cap)
  f3 : w.frozen? ⟨C, 3, none⟩ = false
  rd : Rd w p L
  le : L.length ≤ cap
  ne : ¬ rowB p C
  lt : ∀ g, rowB p g → g < w.heap.size
section
variable {w w' : World} {C H : Nat} {b col : Int} {p : Option Addr} {cap : Nat} {L : List Int}
theorem CuIs.ltC (h : CuIs w C H b col p cap L) : C < w.heap.size := World.block_lt_of_cell? w _ h.c0
theorem CuIs.kept (h : CuIs w C H b col p cap L) (hC : w'.heap[C]? = w.heap[C]?) (hg : ∀ g, rowB p g → w'.heap[g]? = w.heap[g]?) (hs : w.heap.size ≤ w'.heap.size) : CuIs w' C H b col p cap L :=
  ⟨(cell_of_block (a := ⟨C, 0, none⟩) hC).trans h.c0, (cell_of_block (a := ⟨C, 1, none⟩) hC).trans h.c1, (cell_of_block (a := ⟨C, 2, none⟩) hC).trans h.c2, (cell_of_block (a := ⟨C, 3, none⟩) hC).trans h.c3,
    (frozen_of_block (a := ⟨C, 3, none⟩) hC).trans h.f3, h.rd.kept (fun g hg' _ => hg g hg'), h.le, h.ne, fun g hg' => Nat.lt_of_lt_of_le (h.lt g hg') hs⟩
theorem CuIs.chg {S : Nat → Prop} (h : CuIs w C H b col p cap L) (hc : Chg S w w') (hC : ¬ S C) (hS : ∀ g, rowB p g → ¬ S g) : CuIs w' C H b col p cap L :=
  h.kept (hc.block C h.ltC hC) (fun g hg => hc.block g (h.lt g hg) (hS g hg)) hc.size
theorem CuIs.later (h : CuIs w C H b col p cap L) (hb : Below w.heap.size w w') : CuIs w' C H b col p cap L := h.kept (hb.block _ h.ltC) (fun g hg => hb.block g (h.lt g hg)) hb.size
theorem CuIs.drewN (h : CuIs w C H b col p cap L) (n : Nat) : CuIs (w.drewN n) C H b col p cap L := h.kept rfl (fun _ _ => rfl) (Nat.le_refl _)
/-- Without its first slot. -/
theorem CuIs.next {g off : Nat} {a : Int} {t : List Int} (h : CuIs w C H b col (some ⟨g, off, none⟩) cap (a :: t)) : CuIs (w.setCell ⟨C, 3, none⟩ (.slice (some ⟨g, off + 1, none⟩) t.length (cap - 1))) C H b col (some ⟨g, off + 1, none⟩) (cap - 1) t := by
  have hgC : g ≠ C := fun e => h.ne (by rw [← e]; rfl)
  have hle := h.le
  rw [List.length_cons] at hle
  refine ⟨(other (by simp)).trans h.c0, (other (by simp)).trans h.c1, (other (by simp)).trans h.c2, same h.c3, (World.frozen?_setCell ..).trans h.f3, ?_, by omega, fun e => h.ne (by cases e; rfl), fun k e => by rw [Row.size_setCell]; exact h.lt k (by cases e; rfl)⟩
  have hr := h.rd.kept (w' := w.setCell ⟨C, 3, none⟩ (.slice (some ⟨g, off + 1, none⟩) t.length (cap - 1))) (fun k hk _ => Below.heap_setCell _ _ _ _ (fun e => h.ne (by rw [← (show k = C from e)]; exact hk)))
  rcases hr with ⟨e, _⟩ | ⟨g', off', e, hcell⟩
  · cases e
  · cases e
    refine .inr ⟨g, off + 1, rfl, fun j hj => ?_⟩
    have := hcell (j + 1) (by rw [List.length_cons]; omega)
    rw [List.getD_cons_succ] at this
    rw [← this, show off + 1 + j = off + (j + 1) by omega]
theorem CuIs.last {g off : Nat} {a : Int} (h : CuIs w C H b col (some ⟨g, off, none⟩) cap [a]) : CuIs (w.setCell ⟨C, 3, none⟩ (.slice (some ⟨g, off, none⟩) 0 0)) C H b col (some ⟨g, off, none⟩) 0 [] :=
  ⟨(other (by simp)).trans h.c0, (other (by simp)).trans h.c1, (other (by simp)).trans h.c2, same h.c3, (World.frozen?_setCell ..).trans h.f3, .inr ⟨g, off, rfl, fun j hj => by simp at hj⟩, Nat.le_refl _, h.ne, fun k e => by rw [Row.size_setCell]; exact h.lt k e⟩
end

theorem col_any (c : Int) (w : World) : Calls Tryz.prog 44 #[.int .i64 c] w fun e w' => e = .returned (.bool (colB c)) ∧ w = w' := by
  by_cases h0 : c = 0
  · subst h0
    go_enter Tryz.func44, Tryz.ntmps44
    go_wp2
    go_ret
    exact ⟨rfl, rfl⟩
  · have b0 : (c == 0) = false := by rw [beq_eq_false_iff_ne]; exact h0
    by_cases h1 : c = 1
    · subst h1
      go_enter Tryz.func44, Tryz.ntmps44
      go_wp2
      go_ret
      exact ⟨rfl, rfl⟩
    · have b1 : (c == 1) = false := by rw [beq_eq_false_iff_ne]; exact h1
      have e : colB c = false := by simp [colB, b0, b1]
      rw [e]
      go_enter Tryz.func44, Tryz.ntmps44
      go_wp2
      go_ret
      exact ⟨rfl, rfl⟩
theorem left_nil (w : World) : Calls Tryz.prog 16 #[.pointer none] w fun e w' => e = .returned (.int .i64 0) ∧ w = w' := by
  go_enter Tryz.func16, Tryz.ntmps16
  go_wp2
  go_ret
  exact ⟨rfl, rfl⟩
theorem done_nil (w : World) : Calls Tryz.prog 18 #[.pointer none] w fun e w' => e = .returned (.bool true) ∧ w = w' := by
  go_enter Tryz.func18, Tryz.ntmps18
  go_wp2_with (go_at_call 16; refine (left_nil _).mono ?_; rintro e w' ⟨rfl, rfl⟩)
  go_ret
  exact ⟨rfl, rfl⟩
theorem block_nil (w : World) : Calls Tryz.prog 17 #[.pointer none] w fun e w' => e = .returned (.int .i64 0) ∧ w = w' := by
  go_enter Tryz.func17, Tryz.ntmps17
  go_wp2
  go_ret
  exact ⟨rfl, rfl⟩
theorem step_nil (w : World) : Calls Tryz.prog 20 #[.pointer none] w fun e w' => e = .returned (.tuple #[.int .i64 0, .bool false]) ∧ w = w' := by
  go_enter Tryz.func20, Tryz.ntmps20
  go_wp2_with (go_at_call 18; refine (done_nil _).mono ?_; rintro e w' ⟨rfl, rfl⟩)
  go_ret2
  exact ⟨rfl, rfl⟩
theorem new_nil (b c : Int) (w : World) : Calls Tryz.prog 15 #[.pointer none, .int .i64 b, .int .i64 c] w fun e w' => e = .returned (.tuple #[.pointer none, .int .i64 11]) ∧ w = w' := by
  go_enter Tryz.func15, Tryz.ntmps15
  go_wp2
  go_ret2
  exact ⟨rfl, rfl⟩
theorem block_none (b c : Int) (w : World) : Calls Tryz.prog 11 #[.pointer none, .int .i64 b, .int .i64 c] w fun e w' => e = .returned (.tuple #[.slice none 0 0, .int .i64 11]) ∧ w = w' := by
  go_enter Tryz.func11, Tryz.ntmps11
  go_wp2_with (go_at_call 15; refine (new_nil _ _ _).mono ?_; rintro e w' ⟨rfl, rfl⟩)
  go_ret2
  exact ⟨rfl, rfl⟩
theorem all_none (c : Int) (w : World) : Calls Tryz.prog 23 #[.pointer none, .int .i64 c] w fun e w' => e = .returned (.tuple #[.slice none 0 0, .int .i64 11]) ∧ w = w' := by
  go_enter Tryz.func23, Tryz.ntmps23
  go_wp2
  go_step3
  go_wp2
  try rw [Exit.noGoto_ret]
  go_ret2
  exact ⟨rfl, rfl⟩
section
variable {C H : Nat} {b col : Int} {p : Option Addr} {cap : Nat} {L : List Int}
theorem left_any (w : World) (h : CuIs w C H b col p cap L) : Calls Tryz.prog 16 #[.pointer (some ⟨C, 0, none⟩)] w fun e w' => e = .returned (.int .i64 L.length) ∧ w = w' := by
  have hc := h.c3
  clear h
  go_enter Tryz.func16, Tryz.ntmps16
  go_wp2
  go_ret
  exact ⟨rfl, rfl⟩
theorem done_any (w : World) (h : CuIs w C H b col p cap L) (t : Bool) (ht : ((L.length : Int) == 0) = t) : Calls Tryz.prog 18 #[.pointer (some ⟨C, 0, none⟩)] w fun e w' => e = .returned (.bool t) ∧ w = w' := by
  have HL := Lib.hid (left_any w h)
  clear h
  go_enter Tryz.func18, Tryz.ntmps18
  go_wp2_with (go_at_call 16; refine HL.out.mono ?_; rintro e w' ⟨rfl, rfl⟩)
  go_ret
  exact ⟨by first | rfl | rw [ht]; rfl, rfl⟩
theorem block_any (w : World) (h : CuIs w C H b col p cap L) : Calls Tryz.prog 17 #[.pointer (some ⟨C, 0, none⟩)] w fun e w' => e = .returned (.int .i64 b) ∧ w = w' := by
  have hc := h.c1
  clear h
  go_enter Tryz.func17, Tryz.ntmps17
  go_wp2
  go_ret
  exact ⟨rfl, rfl⟩
theorem step_done (w : World) (h : CuIs w C H b col p cap []) : Calls Tryz.prog 20 #[.pointer (some ⟨C, 0, none⟩)] w fun e w' => e = .returned (.tuple #[.int .i64 0, .bool false]) ∧ w = w' := by
  have HL := Lib.hid (done_any w h true rfl)
  clear h
  go_enter Tryz.func20, Tryz.ntmps20
  go_wp2_with (go_at_call 18; refine HL.out.mono ?_; rintro e w' ⟨rfl, rfl⟩)
  go_ret2
  exact ⟨rfl, rfl⟩
end
end Go.Proofs.YtbejddpfnglkbaaGreatDoor.Sw
