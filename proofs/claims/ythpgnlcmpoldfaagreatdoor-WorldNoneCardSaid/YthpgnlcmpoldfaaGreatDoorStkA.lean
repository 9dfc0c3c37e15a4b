/-
  A stack in memory; New, Push, Pop, Len, Over, Calm, of every stack that there is, and of none.
-/
import Derived.Test.YthpgnlcmpoldfaaGreatDoorRow
namespace Go.Proofs.YthpgnlcmpoldfaaGreatDoor.Stk
open Go.RowKit
open Go.Proofs.YthpgnlcmpoldfaaGreatDoor.Row

/-- A stack in memory: its room, its numbers, its mark. -/
structure StIs (w : World) (B base room cap : Nat) (p : Option Addr) (ns : List Int) (over : Bool) : Prop where
  r1 : 1 ≤ room
  r2 : room ≤ 4096
  len : ns.length ≤ room
  c0 : w.cell? ⟨B, 0, none⟩ = some (.int .i64 room)
  c1 : w.cell? ⟨B, 1, none⟩ = some (.slice p ns.length cap)
  c2 : w.cell? ⟨B, 2, none⟩ = some (.bool over)
  f1 : w.frozen? ⟨B, 1, none⟩ = false
  f2 : w.frozen? ⟨B, 2, none⟩ = false
  own : w.ownsRow base 3 1 (.slice p ns.length cap) ns.length (cellsZ ns)
  ne : ¬ rowB p B
  base : base ≤ B
theorem StIs.ltB {w : World} {B base room cap : Nat} {p : Option Addr} {ns : List Int} {over : Bool} (h : StIs w B base room cap p ns over) : B < w.heap.size := World.block_lt_of_cell? w _ h.c0
theorem StIs.ltG {w : World} {B base room cap : Nat} {p : Option Addr} {ns : List Int} {over : Bool} (h : StIs w B base room cap p ns over) {g : Nat} (hg : rowB p g) : base ≤ g ∧ g < w.heap.size := owns_lt h.own hg
theorem StIs.kept {w w' : World} {B base room cap : Nat} {p : Option Addr} {ns : List Int} {over : Bool} (h : StIs w B base room cap p ns over) (hB : w'.heap[B]? = w.heap[B]?) (hg : ∀ g, rowB p g → w'.heap[g]? = w.heap[g]?) : StIs w' B base room cap p ns over :=
  ⟨h.r1, h.r2, h.len, (cell_of_block (a := ⟨B, 0, none⟩) hB).trans h.c0, (cell_of_block (a := ⟨B, 1, none⟩) hB).trans h.c1, (cell_of_block (a := ⟨B, 2, none⟩) hB).trans h.c2, (frozen_of_block (a := ⟨B, 1, none⟩) hB).trans h.f1, (frozen_of_block (a := ⟨B, 2, none⟩) hB).trans h.f2, owns_block h.own hg, h.ne, h.base⟩
theorem StIs.later {w w' : World} {B base room cap : Nat} {p : Option Addr} {ns : List Int} {over : Bool} (h : StIs w B base room cap p ns over) (hb : Below w.heap.size w w') : StIs w' B base room cap p ns over :=
  h.kept (hb.block _ h.ltB) (fun g hg => hb.block g (h.ltG hg).2)
theorem StIs.chg {S : Nat → Prop} {w w' : World} {B base room cap : Nat} {p : Option Addr} {ns : List Int} {over : Bool} (h : StIs w B base room cap p ns over) (hc : Chg S w w') (hB : ¬ S B) (hS : ∀ g, rowB p g → ¬ S g) : StIs w' B base room cap p ns over :=
  h.kept (hc.block B h.ltB hB) (fun g hg => hc.block g (h.ltG hg).2 (hS g hg))
theorem StIs.drewN {w : World} {B base room cap : Nat} {p : Option Addr} {ns : List Int} {over : Bool} (h : StIs w B base room cap p ns over) (n : Nat) : StIs (w.drewN n) B base room cap p ns over := h.kept rfl (fun _ _ => rfl)
/-- Another mark. -/
theorem StIs.mark {w : World} {B base room cap : Nat} {p : Option Addr} {ns : List Int} {over : Bool} (h : StIs w B base room cap p ns over) (b : Bool) : StIs (w.setCell ⟨B, 2, none⟩ (.bool b)) B base room cap p ns b :=
  ⟨h.r1, h.r2, h.len, (other (by simp)).trans h.c0, (other (by simp)).trans h.c1, same h.c2, (World.frozen?_setCell ..).trans h.f1, (World.frozen?_setCell ..).trans h.f2, owns_block h.own (fun g hg => Below.heap_setCell _ _ _ _ (fun e => h.ne (by rw [← (show g = B from e)]; exact hg))), h.ne, h.base⟩

theorem new_bad (n : Int) (w : World) (h : n < 1 ∨ 4096 < n) : Calls Tryz.prog 73 #[.int .i64 n] w fun e w' => e = .returned (.tuple #[.pointer none, .int .i64 4]) ∧ w = w' := by
  rcases h with h | h
  · go_enter Tryz.func73, Tryz.ntmps73
    go_wp2
    go_ret2
    exact ⟨rfl, rfl⟩
  · have h1 : ¬ n < 1 := by omega
    go_enter Tryz.func73, Tryz.ntmps73
    go_wp2
    go_ret2
    exact ⟨rfl, rfl⟩
theorem new_good (n : Nat) (z : Int) (hz : z = n) (w : World) (h : 1 ≤ n) (h2 : n ≤ 4096) : Calls Tryz.prog 73 #[.int .i64 z] w fun e w' => e = .returned (.tuple #[.pointer (some ⟨w.heap.size, 0, none⟩), .int .i64 0]) ∧
    StIs w' w.heap.size w.heap.size n 0 none [] false ∧ Below w.heap.size w w' ∧ w'.heap.size = w.heap.size + 1 := by
  subst hz
  have h3 : ¬ (n : Int) < 1 := by omega
  have h4 : ¬ (4096 < (n : Int)) := by omega
  go_enter Tryz.func73, Tryz.ntmps73
  go_wp2
  go_ret2
  exact ⟨rfl, ⟨h, h2, by simp, by simp, by simp, by simp, by simp, by simp, ⟨by simp [cellsZ], .inl ⟨rfl, rfl⟩⟩, by simp [rowB], Nat.le_refl _⟩, (Below.refl _ _).alloc (Nat.le_refl _) _, by simp⟩

theorem over_nil (w : World) : Calls Tryz.prog 315 #[.pointer none] w fun e w' => e = .returned (.bool false) ∧ w = w' := by
  go_enter Tryz.func315, Tryz.ntmps315
  go_wp2
  go_ret
  exact ⟨rfl, rfl⟩
theorem over_any {B base room cap : Nat} {p : Option Addr} {ns : List Int} {over : Bool} (w : World) (h : StIs w B base room cap p ns over) : Calls Tryz.prog 315 #[.pointer (some ⟨B, 0, none⟩)] w fun e w' => e = .returned (.bool over) ∧ w = w' := by
  have hc := h.c2
  clear h
  go_enter Tryz.func315, Tryz.ntmps315
  go_wp2
  go_ret
  exact ⟨rfl, rfl⟩
theorem calm_nil (w : World) : Calls Tryz.prog 309 #[.pointer none] w fun e w' => e = .returned (.bool false) ∧ w = w' := by
  go_enter Tryz.func309, Tryz.ntmps309
  go_wp2_with (go_at_call 315; refine (over_nil _).mono ?_; rintro e w' ⟨rfl, rfl⟩)
  go_ret
  exact ⟨rfl, rfl⟩
theorem calm_any {B base room cap : Nat} {p : Option Addr} {ns : List Int} {over : Bool} (w : World) (h : StIs w B base room cap p ns over) : Calls Tryz.prog 309 #[.pointer (some ⟨B, 0, none⟩)] w fun e w' => e = .returned (.bool over) ∧ StIs w' B base room cap p ns false ∧ Chg (fun k => k = B) w w' ∧ w'.heap.size = w.heap.size := by
  have hc := h.c2
  have hf := h.f2
  have H := Lib.hid h
  clear h
  cases over
  · go_enter Tryz.func309, Tryz.ntmps309
    go_wp2_with (go_at_call 315; refine (over_any _ H.out).mono ?_; rintro e w' ⟨rfl, rfl⟩)
    go_ret
    exact ⟨rfl, H.out, Chg.refl _ _, rfl⟩
  · go_enter Tryz.func309, Tryz.ntmps309
    go_wp2_with (go_at_call 315; refine (over_any _ H.out).mono ?_; rintro e w' ⟨rfl, rfl⟩)
    go_ret
    exact ⟨rfl, H.out.mark false, Chg.set (S := fun k => k = B) (Chg.refl _ _) (.inl rfl) _, by simp [World.setCell]⟩

theorem look_nil_bool (f : Value) (w : World) : Calls Tryz.prog 298 #[.pointer none, f] w fun e w' => e = .returned (.bool false) ∧ w = w' := by
  go_enter Tryz.func298, Tryz.ntmps298
  go_wp2
  go_ret
  exact ⟨rfl, rfl⟩
theorem push_nil (n : Int) (w : World) : Calls Tryz.prog 290 #[.pointer none, .int .i64 n] w fun e w' => e = .returned (.bool false) ∧ Below w.heap.size w w' := by
  go_enter Tryz.func290, Tryz.ntmps290
  go_wp2_with (go_at_call 298; refine (look_nil_bool _ _).mono ?_; rintro e w' ⟨rfl, rfl⟩)
  go_ret
  exact ⟨rfl, ((Below.refl _ _).alloc (Nat.le_refl _) _).alloc (by simp) _⟩
theorem pop_nil (w : World) : Calls Tryz.prog 286 #[.pointer none] w fun e w' => e = .returned (.tuple #[.int .i64 0, .bool false]) ∧ Below w.heap.size w w' := by
  go_enter Tryz.func286, Tryz.ntmps286
  go_wp2_with (go_at_call 298; refine (look_nil_bool _ _).mono ?_; rintro e w' ⟨rfl, rfl⟩)
  go_ret2
  exact ⟨rfl, by exact ((Below.refl _ _).alloc (Nat.le_refl _) _).alloc (by simp) _⟩
theorem all_nil (w : World) : Calls Tryz.prog 74 #[.pointer none] w fun e w' => e = .returned (.slice none 0 0) ∧ w = w' := by
  go_enter Tryz.func74, Tryz.ntmps74
  go_wp2_with (go_enter Tryz.func102, Tryz.ntmps102)
  go_ret
  exact ⟨rfl, rfl⟩
end Go.Proofs.YthpgnlcmpoldfaaGreatDoor.Stk
