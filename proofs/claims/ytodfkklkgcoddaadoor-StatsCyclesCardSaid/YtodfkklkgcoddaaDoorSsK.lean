/-
  A cycle's line: the program's.
-/
import Derived.Test.YtodfkklkgcoddaaDoorSsL
namespace Go.Proofs.YtodfkklkgcoddaaDoor.Ss
open Go.RowKit
open Go.Proofs.YtodfkklkgcoddaaDoor.Row

theorem row_cells (w : World) (xs : List (List UInt8)) (t : TypeId) : ∀ (j : Nat) x, xs[j]? = some x → (w.alloc (.cells (xs.map fun x => Value.string (bs x)).toArray t)).cell? ⟨w.heap.size, j, none⟩ = some (.string (bs x)) := fun j x hx => by
  rw [World.cell?_alloc_new]
  simp [hx]
theorem World.size_alloc' (w : World) (o : Obj) : (w.alloc o).heap.size = w.heap.size + 1 := by simp
set_option maxRecDepth 100000 in
set_option maxHeartbeats 4000000 in
theorem line_any (c : Cy) (hc : CyI c) (W : World) (ht : LibTab W) :
    Calls Tryd.prog 12 #[c.agg] W fun x w' => x = .returned (.string (bs (lineC c))) ∧ Below W.heap.size W w' := by
  have HT := Lib.hid ht
  clear ht
  have HI : Hid (∀ n w, inI n → Below W.heap.size W w → Calls Tryd.prog 20 #[.int .i64 n] w fun e w' => e = .returned (.string (bs (Lib.itoa n))) ∧ Below w.heap.size w w') := Lib.hid fun n w h hb => itoa_any n h w (HT.out.later hb)
  have HLEN := Lib.hid (lineC_len hc)
  obtain ⟨i1, i2, i3, i4, i5⟩ := hc
  obtain ⟨n, st, m, r, f⟩ := c
  simp only at i1 i2 i3 i4 i5
  have HL2 : Hid ((Lib.join (partsC ⟨n, st, m, r, f⟩) [32]).length ≤ 140737488355328) := Lib.hid (by have := HLEN.out; unfold lineC at this; omega)
  have HJ : Hid (∀ w w' : World, w' = w.alloc (.cells #[.string ⟨#[99, 121, 99, 108, 101]⟩, .string (bs (Lib.itoa n)), .string ⟨#[115, 116, 97, 114, 116]⟩, .string (bs (Lib.itoa st)), .string ⟨#[109, 97, 114, 107, 101, 100]⟩, .string (bs (Lib.itoa m)), .string ⟨#[114, 101, 115, 116, 101, 100]⟩, .string (bs (Lib.itoa r)), .string ⟨#[102, 114, 101, 101, 100]⟩, .string (bs (Lib.itoa f))] 9) ∨ w' = (w.alloc (.cells #[.string ⟨#[99, 121, 99, 108, 101]⟩, .string (bs (Lib.itoa n)), .string ⟨#[115, 116, 97, 114, 116]⟩, .string (bs (Lib.itoa st)), .string ⟨#[109, 97, 114, 107, 101, 100]⟩, .string (bs (Lib.itoa m)), .string ⟨#[114, 101, 115, 116, 101, 100]⟩, .string (bs (Lib.itoa r)), .string ⟨#[102, 114, 101, 101, 100]⟩, .string (bs (Lib.itoa f))] 9)).drew →
      Calls Tryd.prog 19 #[.slice (some ⟨w.heap.size, 0, none⟩) 10 10, .string ⟨#[32]⟩] w' fun e w2 => e = .returned (.string (bs (lineC ⟨n, st, m, r, f⟩))) ∧ Below w'.heap.size w' w2) :=
    Lib.hid fun w w' hw => join_any w.heap.size 10 (partsC ⟨n, st, m, r, f⟩) w' (fun j x hx => by
        have hc := row_cells w (partsC ⟨n, st, m, r, f⟩) 9 j x hx
        rcases hw with rfl | rfl
        · exact hc
        · exact hc) (by rcases hw with rfl | rfl <;> (show _ < (World.alloc _ _).heap.size; rw [World.size_alloc']; omega)) (show 10 ≤ 100 by omega) (show 10 ≤ 10 by omega) HL2.out
  obtain ⟨w1, hw1⟩ : ∃ w1, W.alloc (.cells #[.int .i64 n, .int .i64 st, .int .i64 m, .int .i64 r, .int .i64 f] 32) = w1 := ⟨_, rfl⟩
  have HK0 : Hid (Below W.heap.size W w1.drew ∧ w1.drew.cell? ⟨W.heap.size, 0, none⟩ = some (.int .i64 n) ∧ w1.drew.cell? ⟨W.heap.size, 1, none⟩ = some (.int .i64 st) ∧ w1.drew.cell? ⟨W.heap.size, 2, none⟩ = some (.int .i64 m) ∧ w1.drew.cell? ⟨W.heap.size, 3, none⟩ = some (.int .i64 r) ∧ w1.drew.cell? ⟨W.heap.size, 4, none⟩ = some (.int .i64 f)) := Lib.hid (by
    rw [← hw1]
    refine ⟨below_drewN ((Below.refl _ _).alloc (Nat.le_refl _) _) 1, ?_, ?_, ?_, ?_, ?_⟩ <;> (show (W.alloc _).cell? _ = _; rw [World.cell?_alloc_new]; rfl))
  have HK2 : Hid (∀ w w', Below W.heap.size W w ∧ w.cell? ⟨W.heap.size, 0, none⟩ = some (.int .i64 n) ∧ w.cell? ⟨W.heap.size, 1, none⟩ = some (.int .i64 st) ∧ w.cell? ⟨W.heap.size, 2, none⟩ = some (.int .i64 m) ∧ w.cell? ⟨W.heap.size, 3, none⟩ = some (.int .i64 r) ∧ w.cell? ⟨W.heap.size, 4, none⟩ = some (.int .i64 f) → Below w.heap.size w w' →
      Below W.heap.size W w' ∧ w'.cell? ⟨W.heap.size, 0, none⟩ = some (.int .i64 n) ∧ w'.cell? ⟨W.heap.size, 1, none⟩ = some (.int .i64 st) ∧ w'.cell? ⟨W.heap.size, 2, none⟩ = some (.int .i64 m) ∧ w'.cell? ⟨W.heap.size, 3, none⟩ = some (.int .i64 r) ∧ w'.cell? ⟨W.heap.size, 4, none⟩ = some (.int .i64 f)) :=
    Lib.hid fun w w' ⟨h, h0, h1, h2, h3, h4⟩ hb => ⟨h.trans (hb.mono h.size), (hb.cell (p := ⟨_, _, none⟩) (lt_of_cell h0)).trans h0, (hb.cell (p := ⟨_, _, none⟩) (lt_of_cell h1)).trans h1, (hb.cell (p := ⟨_, _, none⟩) (lt_of_cell h2)).trans h2, (hb.cell (p := ⟨_, _, none⟩) (lt_of_cell h3)).trans h3, (hb.cell (p := ⟨_, _, none⟩) (lt_of_cell h4)).trans h4⟩
  have HAD : Hid (∀ (W : World) (o : Obj), Below W.heap.size W (W.alloc o).drew) := Lib.hid fun W o => below_drewN ((Below.refl _ _).alloc (Nat.le_refl _) o) 1
  have HA : Hid (∀ (W : World) (o : Obj), Below W.heap.size W (W.alloc o)) := Lib.hid fun W o => (Below.refl _ _).alloc (Nat.le_refl _) o
  unfold Cy.agg
  go_enter Tryd.func12, Tryd.ntmps12
  go_wp2_with fail
  go_region_held3 (fun w => Below W.heap.size W w ∧ w.cell? ⟨W.heap.size, 0, none⟩ = some (.int .i64 n) ∧ w.cell? ⟨W.heap.size, 1, none⟩ = some (.int .i64 st) ∧ w.cell? ⟨W.heap.size, 2, none⟩ = some (.int .i64 m) ∧ w.cell? ⟨W.heap.size, 3, none⟩ = some (.int .i64 r) ∧ w.cell? ⟨W.heap.size, 4, none⟩ = some (.int .i64 f))
    (first | exact HK0.out | assumption | exact HK2.out _ _ (by assumption) (HAD.out _ _) | exact HK2.out _ _ (by assumption) (HA.out _ _) | exact HK2.out _ _ HK0.out (HAD.out _ _) | exact HK2.out _ _ HK0.out (HA.out _ _) | exact HK2.out _ _ (by assumption) hb')
    (first
      | (go_at_call 20; refine (HI.out _ _ (by assumption) (And.left (by assumption))).mono ?_; rintro e w' ⟨rfl, hb'⟩)
      | (go_at_call 19; refine (HJ.out _ _ (by first | exact .inl rfl | exact .inr rfl)).mono ?_; rintro e w' ⟨rfl, hb'⟩))
  go_wp2_with fail
  go_ret
  exact ⟨rfl, And.left (by assumption)⟩
end Go.Proofs.YtodfkklkgcoddaaDoor.Ss
