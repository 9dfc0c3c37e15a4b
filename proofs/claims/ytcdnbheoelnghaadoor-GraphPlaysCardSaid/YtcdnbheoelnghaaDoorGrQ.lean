/-
  The document's small configs.
-/
import Derived.Test.YtcdnbheoelnghaaDoorGrN
import Derived.Test.YtcdnbheoelnghaaDoorConfigR
import Derived.StillTailTactics
namespace Go.Proofs.YtcdnbheoelnghaaDoor.Gra
open Go.RowKit Go.Proofs.YtcdnbheoelnghaaDoor.Opr

theorem tmod_fix (x n : Int) (hn : 0 < n) : (x.tmod n + n).tmod n = x % n := by
  have h1 := Int.tmod_lt_of_pos x hn
  have h2 : -n < x.tmod n := Int.lt_tmod_of_pos x hn
  rw [Int.tmod_eq_emod_of_nonneg (by omega), Int.add_emod_right]
  conv => rhs; rw [← Int.tmod_add_mul_tdiv x n, Int.add_mul_emod_self_left]

set_option maxHeartbeats 400000 in
theorem mod_any (x n : Int) (w : World) (h0 : 0 < n) (h1 : n ≤ 64) : Calls Tryd.prog 23 #[.int .i64 x, .int .i64 n] w fun e w' => e = .returned (.int .i64 (x % n)) ∧ w = w' := by
  have hf := tmod_fix x n h0
  have a1 := Int.tmod_lt_of_pos x h0
  have a2 : -n < x.tmod n := Int.lt_tmod_of_pos x h0
  have a3 := Int.emod_nonneg x (show n ≠ 0 by omega)
  have a4 := Int.emod_lt_of_pos x h0
  have hz : (n == 0) = false := by simp; omega
  have hw1 : IntKind.i64.wrap (x.tmod n) = x.tmod n := IntWalk.i64_in _ (by omega)
  have hw2 : IntKind.i64.wrap (x.tmod n + n) = x.tmod n + n := IntWalk.i64_in _ (by omega)
  have hw3 : IntKind.i64.wrap (x % n) = x % n := IntWalk.i64_in _ (by omega)
  go_enter Tryd.func23, Tryd.ntmps23
  go_wp2
  go_ret
  exact ⟨rfl, rfl⟩

/-- A small config. -/
def little (c : C7) : C7 := ⟨1 + c.b % 4, 16 + c.wd % 20, 1 + c.m % 4, 1 + c.r % 5, c.ce % 4, 1 + c.lg % 4, 1 + c.st % 4⟩
theorem little_right (c : C7) : rightB (little c).b (little c).wd (little c).m (little c).r (little c).ce (little c).lg (little c).st = true := by
  rw [rightB_ref, refRightB_true]
  have h : ∀ x n : Int, 0 < n → 0 ≤ x % n ∧ x % n < n := fun x n h => ⟨Int.emod_nonneg x (by omega), Int.emod_lt_of_pos x h⟩
  have := h c.b 4 (by decide)
  have := h c.wd 20 (by decide)
  have := h c.m 4 (by decide)
  have := h c.r 5 (by decide)
  have := h c.ce 4 (by decide)
  have := h c.lg 4 (by decide)
  have := h c.st 4 (by decide)
  unfold little
  constructor <;> dsimp only <;> omega

/-- A config's box, and one behind it. -/
theorem cfg_boxes {w W0 : World} {t : TypeId} {vs : Array Value} {o : Obj} (hW : (w.alloc (.cells vs t)).alloc o = W0) :
    W0.heap.size = w.heap.size + 2 ∧ Below w.heap.size w W0 ∧ (∀ j v, vs[j]? = some v → W0.cell? ⟨w.heap.size, j, none⟩ = some v) ∧ W0.heap[w.heap.size + 1]? = some o := by
  subst hW
  refine ⟨by simp, ((Below.refl _ _).alloc (Nat.le_refl _) _).alloc (by simp) _, fun j v h => ?_, ?_⟩
  · refine Lib.cell?_alloc_some _ ?_
    have e : (w.alloc (.cells vs t)).heap[w.heap.size]? = some (.cells vs t) := heap_alloc_new w _
    unfold World.cell?
    rw [show (⟨w.heap.size, j, none⟩ : Addr).block = w.heap.size from rfl, e]
    exact h
  · have := heap_alloc_new (w.alloc (.cells vs t)) o
    rwa [World.size_alloc] at this

set_option maxRecDepth 100000 in
set_option maxHeartbeats 4000000 in
theorem little_any (c : C7) (w : World) : Calls Tryd.prog 6 #[(.agg #[.int .i64 c.b, .int .i64 c.wd, .int .i64 c.m, .int .i64 c.r, .int .i64 c.ce, .int .i64 c.lg, .int .i64 c.st])] w fun e w' => e = .returned (.agg #[.int .i64 (little c).b, .int .i64 (little c).wd, .int .i64 (little c).m, .int .i64 (little c).r, .int .i64 (little c).ce, .int .i64 (little c).lg, .int .i64 (little c).st]) ∧ Below w.heap.size w w' := by
  have hm : ∀ (x n : Int) (w : World), 0 < n → n ≤ 64 → Calls Tryd.prog 23 #[.int .i64 x, .int .i64 n] w fun e w' => e = .returned (.int .i64 (x % n)) ∧ w' = w := fun x n w h0 h1 => (mod_any x n w h0 h1).mono fun _ _ h => ⟨h.1, h.2.symm⟩
  have HM := Lib.hid hm
  clear hm
  go_enter Tryd.func6, Tryd.ntmps6
  go_wp2
  generalize hW : World.alloc _ _ = W0
  obtain ⟨hs0, hb0, hcs, hnew⟩ := cfg_boxes hW
  have k0 := hcs 0 _ rfl
  have k1 := hcs 1 _ rfl
  have k2 := hcs 2 _ rfl
  have k3 := hcs 3 _ rfl
  have k4 := hcs 4 _ rfl
  have k5 := hcs 5 _ rfl
  have k6 := hcs 6 _ rfl
  have n0 : ∀ j, j < 7 → W0.cell? ⟨w.heap.size + 1, j, none⟩ = some (.int .i64 0) := fun j hj => by
    unfold World.cell?
    rw [show (⟨w.heap.size + 1, j, none⟩ : Addr).block = w.heap.size + 1 from rfl, hnew]
    have : j = 0 ∨ j = 1 ∨ j = 2 ∨ j = 3 ∨ j = 4 ∨ j = 5 ∨ j = 6 := by omega
    rcases this with rfl | rfl | rfl | rfl | rfl | rfl | rfl <;> rfl
  have nf : ∀ j, W0.frozen? ⟨w.heap.size + 1, j, none⟩ = false := fun j => by
    unfold World.frozen?
    rw [show (⟨w.heap.size + 1, j, none⟩ : Addr).block = w.heap.size + 1 from rfl, hnew]
    simp
  clear hW hcs hnew
  go_still_tail 28, (by kernel_rfl)
  still_call (HM.out _ _ _ (by decide) (by decide))
  repeat still_step
  still_call (HM.out _ _ _ (by decide) (by decide))
  repeat still_step
  still_call (HM.out _ _ _ (by decide) (by decide))
  repeat still_step
  still_call (HM.out _ _ _ (by decide) (by decide))
  repeat still_step
  still_call (HM.out _ _ _ (by decide) (by decide))
  repeat still_step
  still_call (HM.out _ _ _ (by decide) (by decide))
  repeat still_step
  still_call (HM.out _ _ _ (by decide) (by decide))
  repeat still_step
  refine wpStill_nil ?_
  change wpList _ _ _ _ _ W0.drew
  have z0 := n0 0 (by decide)
  have z1 := n0 1 (by decide)
  have z2 := n0 2 (by decide)
  have z3 := n0 3 (by decide)
  have z4 := n0 4 (by decide)
  have z5 := n0 5 (by decide)
  have z6 := n0 6 (by decide)
  clear n0
  go_wp2
  refine bodyPost_ret (v := .agg #[.int .i64 (little c).b, .int .i64 (little c).wd, .int .i64 (little c).m, .int .i64 (little c).r, .int .i64 (little c).ce, .int .i64 (little c).lg, .int .i64 (little c).st]) (by simp [results, Tryd.results6, go_sem, little, z0, z1, z2, z3, z4, z5, z6]) rfl ⟨rfl, ?_⟩
  exact below_drew (((((((hb0.setCell (by simp) _).setCell (by simp) _).setCell (by simp) _).setCell (by simp) _).setCell (by simp) _).setCell (by simp) _).setCell (by simp) _)

/-- Its numbers, as they come. -/
theorem little_nat (c : C7) : ∃ M r nc : Nat, (little c).m = M ∧ (little c).r = r ∧ (little c).ce = nc ∧ 1 ≤ M ∧ M ≤ 4 ∧ 1 ≤ r ∧ r ≤ 5 ∧ nc ≤ 3 := by
  have h : ∀ x n : Int, 0 < n → 0 ≤ x % n ∧ x % n < n := fun x n h => ⟨Int.emod_nonneg x (by omega), Int.emod_lt_of_pos x h⟩
  have h1 := h c.m 4 (by decide)
  have h2 := h c.r 5 (by decide)
  have h3 := h c.ce 4 (by decide)
  exact ⟨(1 + c.m % 4).toNat, (1 + c.r % 5).toNat, (c.ce % 4).toNat, by unfold little; dsimp only; omega, by unfold little; dsimp only; omega, by unfold little; dsimp only; omega, by omega, by omega, by omega, by omega, by omega⟩
end Go.Proofs.YtcdnbheoelnghaaDoor.Gra
