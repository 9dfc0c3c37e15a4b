/-
  The law BlockCopies answers true, for every config, class and stop.
-/
import Derived.Test.YtooojajagkbhiaaDoorBlkJ
namespace Go.Proofs.YtooojajagkbhiaaDoor.Blk
open Go.RowKit Go.Shelf
open Go.Proofs.YtooojajagkbhiaaDoor.Addr (Tabs)

/-- A config laid into its box. -/
structure BoxIs (W : World) (S : Nat) (d : Cfg) : Prop where
  b0 : W.cell? ⟨S, 0, none⟩ = some (.int .i64 d.b)
  b1 : W.cell? ⟨S, 1, none⟩ = some (.int .i64 d.wd)
  b2 : W.cell? ⟨S, 2, none⟩ = some (.int .i64 d.m)
  b3 : W.cell? ⟨S, 3, none⟩ = some (.int .i64 d.r)
  b4 : W.cell? ⟨S, 4, none⟩ = some (.int .i64 d.ce)
  b5 : W.cell? ⟨S, 5, none⟩ = some (.int .i64 d.lg)
  b6 : W.cell? ⟨S, 6, none⟩ = some (.int .i64 d.st)
theorem BoxIs.below {n S : Nat} {W W' : World} {d : Cfg} (h : BoxIs W S d) (hb : Below n W W') (hS : S < n) : BoxIs W' S d :=
  ⟨(hb.cell (p := ⟨S, 0, none⟩) hS).trans h.b0, (hb.cell (p := ⟨S, 1, none⟩) hS).trans h.b1, (hb.cell (p := ⟨S, 2, none⟩) hS).trans h.b2, (hb.cell (p := ⟨S, 3, none⟩) hS).trans h.b3, (hb.cell (p := ⟨S, 4, none⟩) hS).trans h.b4, (hb.cell (p := ⟨S, 5, none⟩) hS).trans h.b5, (hb.cell (p := ⟨S, 6, none⟩) hS).trans h.b6⟩
theorem BoxIs.lt {S : Nat} {W : World} {d : Cfg} (h : BoxIs W S d) : S < W.heap.size := World.block_lt_of_cell? W _ h.b0
theorem BoxIs.later {S : Nat} {W W' : World} {d : Cfg} (h : BoxIs W S d) (hb : Below W.heap.size W W') : BoxIs W' S d := h.below hb h.lt
theorem box7 {w w1 W2 : World} {d : Cfg} {a0 a1 a2 a3 a4 a5 a6 : Value} {t : TypeId} (hb : Below (w.heap.size + 1) (w.alloc (.cells #[a0, a1, a2, a3, a4, a5, a6] t)) w1)
    (hW : (((((((w1.setCell ⟨w.heap.size, 0, none⟩ (.int .i64 d.b)).setCell ⟨w.heap.size, 1, none⟩ (.int .i64 d.wd)).setCell ⟨w.heap.size, 2, none⟩ (.int .i64 d.m)).setCell ⟨w.heap.size, 3, none⟩ (.int .i64 d.r)).setCell ⟨w.heap.size, 4, none⟩ (.int .i64 d.ce)).setCell ⟨w.heap.size, 5, none⟩ (.int .i64 d.lg)).setCell ⟨w.heap.size, 6, none⟩ (.int .i64 d.st)) = W2) :
    BoxIs W2 w.heap.size d ∧ Below w.heap.size w W2 := by
  have hblk : w1.heap[w.heap.size]? = some (.cells #[a0, a1, a2, a3, a4, a5, a6] t) := (hb.block w.heap.size (by omega)).trans (World.alloc_heap_new w _)
  have hcell : ∀ j v, (#[a0, a1, a2, a3, a4, a5, a6] : Array Value)[j]? = some v → w1.cell? ⟨w.heap.size, j, none⟩ = some v := fun j v h => by
    unfold World.cell?
    rw [show (⟨w.heap.size, j, none⟩ : Addr).block = w.heap.size from rfl, hblk]
    exact h
  have h0 := hcell 0 _ rfl
  have h1 := hcell 1 _ rfl
  have h2 := hcell 2 _ rfl
  have h3 := hcell 3 _ rfl
  have h4 := hcell 4 _ rfl
  have h5 := hcell 5 _ rfl
  have h6 := hcell 6 _ rfl
  have o : ∀ (W : World) (i j : Nat) (v : Value), i ≠ j → (W.setCell ⟨w.heap.size, i, none⟩ v).cell? ⟨w.heap.size, j, none⟩ = W.cell? ⟨w.heap.size, j, none⟩ := fun W i j v h => other (fun e => h (by injection e))
  subst hW
  refine ⟨⟨?_, ?_, ?_, ?_, ?_, ?_, ?_⟩, ?_⟩
  · rw [o _ 6 0 _ (by decide), o _ 5 0 _ (by decide), o _ 4 0 _ (by decide), o _ 3 0 _ (by decide), o _ 2 0 _ (by decide), o _ 1 0 _ (by decide)]; exact same h0
  · rw [o _ 6 1 _ (by decide), o _ 5 1 _ (by decide), o _ 4 1 _ (by decide), o _ 3 1 _ (by decide), o _ 2 1 _ (by decide)]; exact same (by rw [o _ 0 1 _ (by decide)]; exact h1)
  · rw [o _ 6 2 _ (by decide), o _ 5 2 _ (by decide), o _ 4 2 _ (by decide), o _ 3 2 _ (by decide)]; exact same (by rw [o _ 1 2 _ (by decide), o _ 0 2 _ (by decide)]; exact h2)
  · rw [o _ 6 3 _ (by decide), o _ 5 3 _ (by decide), o _ 4 3 _ (by decide)]; exact same (by rw [o _ 2 3 _ (by decide), o _ 1 3 _ (by decide), o _ 0 3 _ (by decide)]; exact h3)
  · rw [o _ 6 4 _ (by decide), o _ 5 4 _ (by decide)]; exact same (by rw [o _ 3 4 _ (by decide), o _ 2 4 _ (by decide), o _ 1 4 _ (by decide), o _ 0 4 _ (by decide)]; exact h4)
  · rw [o _ 6 5 _ (by decide)]; exact same (by rw [o _ 4 5 _ (by decide), o _ 3 5 _ (by decide), o _ 2 5 _ (by decide), o _ 1 5 _ (by decide), o _ 0 5 _ (by decide)]; exact h5)
  · exact same (by rw [o _ 5 6 _ (by decide), o _ 4 6 _ (by decide), o _ 3 6 _ (by decide), o _ 2 6 _ (by decide), o _ 1 6 _ (by decide), o _ 0 6 _ (by decide)]; exact h6)
  · have hb0 : Below w.heap.size w w1 := ((Below.refl _ w).alloc (Nat.le_refl _) _).trans (hb.mono (by omega))
    exact ((((((hb0.setCell (by simp) _).setCell (by simp) _).setCell (by simp) _).setCell (by simp) _).setCell (by simp) _).setCell (by simp) _).setCell (by simp) _

/-- What is kept of a table that nobody turns. -/
theorem TbIs.chg {S : Nat → Prop} {w w' : World} {B base cap : Nat} {c : Cfg} {ks : List Nat} {p : Option Addr} (h : TbIs w B base c ks p cap) (hc : Chg S w w') (hS : ∀ k, S k → k < base) : TbIs w' B base c ks p cap :=
  h.kept (hc.block B h.ltB (fun e => by have := hS _ e; have := h.base; omega)) (fun g hg => hc.block g (h.ltG hg).2 (fun e => by have := hS _ e; have := (h.ltG hg).1; omega))
theorem little_b (c : Cfg) : 1 ≤ (little c).b ∧ (little c).b ≤ 4 := by
  have h1 := Int.emod_nonneg c.b (show (4 : Int) ≠ 0 by decide)
  have h2 := Int.emod_lt_of_pos c.b (show (0 : Int) < 4 by decide)
  unfold little
  exact ⟨by dsimp only; omega, by dsimp only; omega⟩

theorem assign_goodZ {B base cap : Nat} {c : Cfg} {ks : List Nat} {p : Option Addr} (z : Int) (k : Nat) (hz : z = (k : Int)) (w : World) (h : TbIs w B base c ks p cap) (hk : k < 4) (hf : (ks.length : Int) < c.b) (hcb : c.b ≤ 4096) (hbase : base ≤ w.heap.size) :
    Calls Tryd.prog 26 #[.pointer (some ⟨B, 0, none⟩), .int .i64 z] w fun e w' => e = .returned (.tuple #[.int .i64 ks.length, .int .i64 0]) ∧
      ∃ p' cap', TbIs w' B base c (ks ++ [k]) p' cap' ∧ Chg (fun i => i = B ∨ rowB p i) w w' ∧ ∀ i, rowB p' i → rowB p i ∨ w.heap.size ≤ i := by
  subst hz
  exact assign_good k w h hk hf hcb hbase
/-- Assign, whatever comes of it: another table that lies behind is as it was. -/
theorem assign_some {B base cap : Nat} {c : Cfg} {ks : List Nat} {p : Option Addr} (z : Int) (k : Nat) (hz : z = (k : Int)) (w : World) (h : TbIs w B base c ks p cap) (hk : k < 4) (hl : (ks.length : Int) ≤ c.b) (hcb : c.b ≤ 4096) (hbase : base ≤ w.heap.size) :
    Calls Tryd.prog 26 #[.pointer (some ⟨B, 0, none⟩), .int .i64 z] w fun e w' => (∃ v, e = .returned v) ∧ Chg (fun i => i = B ∨ rowB p i) w w' := by
  subst hz
  by_cases hf : (ks.length : Int) = c.b
  · exact (assign_full k w h (Class.isB_true.2 ⟨by omega, by omega⟩) hf).mono fun e w' ⟨he, n, hw⟩ => ⟨⟨_, he⟩, by rw [hw]; exact (Chg.refl _ _).drewN n⟩
  · exact (assign_good k w h hk (by omega) hcb hbase).mono fun e w' ⟨he, p', cap', h1, h2, h3⟩ => ⟨⟨_, he⟩, h2⟩

theorem unK_len (c : Cfg) (ks : List Nat) : (unK c ks).length = c.b.toNat - ks.length := by
  unfold unK
  generalize c.b.toNat = n
  induction n with
  | zero => simp [pick]
  | succ n ih =>
    by_cases h : ks.length ≤ n
    · rw [pick_yes (by simpa using h), List.length_append, ih]; simp; omega
    · rw [pick_no (by simpa using h), ih]; omega

end Go.Proofs.YtooojajagkbhiaaDoor.Blk
