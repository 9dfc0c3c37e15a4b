/-
  A table in memory; New, Config, Class, Assign, of every table that there is, and of none.
-/
import Derived.Test.YtooojajagkbhiaaDoorAddrA
import Derived.Test.YtooojajagkbhiaaDoorTold
import Derived.Deep.RegionWith
import Derived.Sort.QuietTacIn
import Derived.Sort.BigQuietIn
import Derived.Maps.OwnIn
import Derived.Lib.Walk
import Derived.Lib.SliceRun
namespace Go.Proofs.YtooojajagkbhiaaDoor.Blk
open Go.RowKit Go.Shelf
open Class (isB isB_true isB_false is_any)

theorem ret_int {k : IntKind} {a b : Int} (h : a = b) : Ending.returned (.int k a) = .returned (.int k b) := by rw [h]
theorem ret_bool {a b : Bool} (h : a = b) : Ending.returned (.bool a) = .returned (.bool b) := by rw [h]
theorem other {W : World} {a b : Addr} {v : Value} (h : a ≠ b) : (W.setCell a v).cell? b = W.cell? b := World.cell?_setCell_other (h := h) ..
theorem same {W : World} {a : Addr} {u v : Value} (h : W.cell? a = some u) : (W.setCell a v).cell? a = some v := World.cell?_setCell_same (h := h) ..
theorem size_setCell (w : World) (p : Addr) (u : Value) : (w.setCell p u).heap.size = w.heap.size := by simp [World.setCell]
theorem cell_of_block {w w' : World} {a : Addr} (h : w'.heap[a.block]? = w.heap[a.block]?) : w'.cell? a = w.cell? a := World.cell?_of_block h
theorem frozen_of_block {w w' : World} {a : Addr} (h : w'.heap[a.block]? = w.heap[a.block]?) : w'.frozen? a = w.frozen? a := by unfold World.frozen?; rw [h]

/-- A config's seven numbers. -/
structure Cfg where
  b : Int
  wd : Int
  m : Int
  r : Int
  ce : Int
  lg : Int
  st : Int

/-- Numbers of a row, as cells. -/
def cellsK (l : List Nat) : List Value := l.map fun n => .int .i64 ((n : Nat) : Int)
theorem cellsK_snoc (l : List Nat) (x : Nat) : cellsK (l ++ [x]) = cellsK l ++ [.int .i64 ((x : Nat) : Int)] := by simp [cellsK]

/-- The block that a row lies in. -/
def rowB (p : Option Addr) (k : Nat) : Prop := p.map (·.block) = some k

/-- A row that is owned lies as it lay, where its block does. -/
theorem owns_block {w w' : World} {base : Nat} {e : TypeId} {size k cap n : Nat} {p : Option Addr} {xs : List Value} (h : w.ownsRow base e size (.slice p n cap) k xs) (hg : ∀ g, rowB p g → w'.heap[g]? = w.heap[g]?) :
    w'.ownsRow base e size (.slice p n cap) k xs :=
  ⟨h.1, h.2.imp id fun ⟨g, c, cur, e1, e2, e3, r⟩ => ⟨g, c, cur, e1, e2, by cases e1; rw [hg g rfl]; exact e3, r⟩⟩
theorem owns_lt {w : World} {base : Nat} {e : TypeId} {size k cap n : Nat} {p : Option Addr} {xs : List Value} (h : w.ownsRow base e size (.slice p n cap) k xs) {g : Nat} (hg : rowB p g) : base ≤ g ∧ g < w.heap.size := by
  obtain ⟨_, ⟨h2, _⟩ | ⟨g', c, cur, e1, e2, e3, r⟩⟩ := h
  · cases h2; cases hg
  · cases e1
    cases hg
    exact ⟨e2, (Array.getElem?_eq_some_iff.1 e3).1⟩

/-- A table in memory: its config, and which class each block has. -/
structure TbIs (w : World) (B base : Nat) (c : Cfg) (ks : List Nat) (p : Option Addr) (cap : Nat) : Prop where
  len : ks.length ≤ 4096
  cls : ∀ k ∈ ks, k < 4
  c0 : w.cell? ⟨B, 0, none⟩ = some (.int .i64 c.b)
  c1 : w.cell? ⟨B, 1, none⟩ = some (.int .i64 c.wd)
  c2 : w.cell? ⟨B, 2, none⟩ = some (.int .i64 c.m)
  c3 : w.cell? ⟨B, 3, none⟩ = some (.int .i64 c.r)
  c4 : w.cell? ⟨B, 4, none⟩ = some (.int .i64 c.ce)
  c5 : w.cell? ⟨B, 5, none⟩ = some (.int .i64 c.lg)
  c6 : w.cell? ⟨B, 6, none⟩ = some (.int .i64 c.st)
  cv : w.cell? ⟨B, 7, none⟩ = some (.slice p ks.length cap)
  fz : w.frozen? ⟨B, 7, none⟩ = false
  own : w.ownsRow base 3 1 (.slice p ks.length cap) ks.length (cellsK ks)
  ne : ¬ rowB p B
  base : base ≤ B
theorem TbIs.kept {w w' : World} {B base cap : Nat} {c : Cfg} {ks : List Nat} {p : Option Addr} (h : TbIs w B base c ks p cap) (hB : w'.heap[B]? = w.heap[B]?) (hg : ∀ g, rowB p g → w'.heap[g]? = w.heap[g]?) : TbIs w' B base c ks p cap :=
  ⟨h.len, h.cls, (cell_of_block (a := ⟨B, 0, none⟩) hB).trans h.c0, (cell_of_block (a := ⟨B, 1, none⟩) hB).trans h.c1, (cell_of_block (a := ⟨B, 2, none⟩) hB).trans h.c2, (cell_of_block (a := ⟨B, 3, none⟩) hB).trans h.c3,
   (cell_of_block (a := ⟨B, 4, none⟩) hB).trans h.c4, (cell_of_block (a := ⟨B, 5, none⟩) hB).trans h.c5, (cell_of_block (a := ⟨B, 6, none⟩) hB).trans h.c6, (cell_of_block (a := ⟨B, 7, none⟩) hB).trans h.cv, (frozen_of_block (a := ⟨B, 7, none⟩) hB).trans h.fz, owns_block h.own hg, h.ne, h.base⟩
theorem TbIs.ltB {w : World} {B base cap : Nat} {c : Cfg} {ks : List Nat} {p : Option Addr} (h : TbIs w B base c ks p cap) : B < w.heap.size := World.block_lt_of_cell? w _ h.c0
theorem TbIs.ltG {w : World} {B base cap : Nat} {c : Cfg} {ks : List Nat} {p : Option Addr} (h : TbIs w B base c ks p cap) {g : Nat} (hg : rowB p g) : base ≤ g ∧ g < w.heap.size := owns_lt h.own hg
theorem TbIs.later {w w' : World} {B base cap : Nat} {c : Cfg} {ks : List Nat} {p : Option Addr} (h : TbIs w B base c ks p cap) (hb : Below w.heap.size w w') : TbIs w' B base c ks p cap :=
  h.kept (hb.block _ h.ltB) (fun g hg => hb.block g (h.ltG hg).2)
theorem TbIs.drewN {w : World} {B base cap : Nat} {c : Cfg} {ks : List Nat} {p : Option Addr} (h : TbIs w B base c ks p cap) (n : Nat) : TbIs (w.drewN n) B base c ks p cap := h.kept rfl (fun _ _ => rfl)
/-- The class of a block that is assigned. -/
def kAt (ks : List Nat) (j : Nat) : Nat := ks.getD j 0
theorem TbIs.at {w : World} {B base cap : Nat} {c : Cfg} {ks : List Nat} {p : Option Addr} (h : TbIs w B base c ks p cap) {j : Nat} (hj : j < ks.length) : ∃ g, p = some ⟨g, 0, none⟩ ∧ w.cell? ⟨g, j, none⟩ = some (.int .i64 ((kAt ks j : Nat) : Int)) := by
  obtain ⟨_, ⟨_, h2⟩ | ⟨g, cap', cur, e1, e2, e3, e4, e5, e6, e7⟩⟩ := h.own
  · omega
  · cases e1
    refine ⟨g, rfl, ?_⟩
    have e : cur[j]? = some (.int .i64 ((kAt ks j : Nat) : Int)) := by
      have h3 := congrArg (fun l => l[j]?) e7
      simp only [Nat.mul_one, List.getElem?_take, hj, if_true, Array.getElem?_toList, cellsK, List.getElem?_map] at h3
      rw [h3]
      simp [kAt, List.getD_eq_getElem?_getD, hj]
    simp [World.cell?, e3, e]
theorem TbIs.kLt {w : World} {B base cap : Nat} {c : Cfg} {ks : List Nat} {p : Option Addr} (h : TbIs w B base c ks p cap) (j : Nat) : kAt ks j < 4 := by
  unfold kAt
  rw [List.getD_eq_getElem?_getD]
  rcases hj : ks[j]? with _ | k
  · simp
  · simpa using h.cls k (List.mem_of_getElem? hj)

set_option maxHeartbeats 400000 in
theorem config_nil (w : World) : Calls Tryd.prog 33 #[.pointer none] w fun e w' => e = .returned (.agg #[.int .i64 0, .int .i64 0, .int .i64 0, .int .i64 0, .int .i64 0, .int .i64 0, .int .i64 0]) ∧ Below w.heap.size w w' := by
  go_enter Tryd.func33, Tryd.ntmps33
  go_wp2
  exact bodyPost_ret (v := .agg #[.int .i64 0, .int .i64 0, .int .i64 0, .int .i64 0, .int .i64 0, .int .i64 0, .int .i64 0]) (by simp [results, Tryd.results33, go_sem]) rfl ⟨rfl, (Below.refl _ _).alloc (Nat.le_refl _) _⟩

set_option maxHeartbeats 1000000 in
theorem config_any {B base cap : Nat} {c : Cfg} {ks : List Nat} {p : Option Addr} (w : World) (h : TbIs w B base c ks p cap) : Calls Tryd.prog 33 #[.pointer (some ⟨B, 0, none⟩)] w fun e w' => e = .returned (.agg #[.int .i64 c.b, .int .i64 c.wd, .int .i64 c.m, .int .i64 c.r, .int .i64 c.ce, .int .i64 c.lg, .int .i64 c.st]) ∧ Below w.heap.size w w' := by
  have hlt := h.ltB
  obtain ⟨_, _, c0, c1, c2, c3, c4, c5, c6, _⟩ := h
  have hne : ¬ B = w.heap.size := by omega
  go_enter Tryd.func33, Tryd.ntmps33
  go_wp2
  refine bodyPost_ret (v := (.agg #[.int .i64 c.b, .int .i64 c.wd, .int .i64 c.m, .int .i64 c.r, .int .i64 c.ce, .int .i64 c.lg, .int .i64 c.st])) (by simp [results, Tryd.results33, go_sem]) rfl ⟨rfl, ?_⟩
  first
    | exact (Below.refl _ _).alloc (Nat.le_refl _) _
    | exact ((((((((Below.refl _ _).alloc (Nat.le_refl _) _).setCell (by simp) _).setCell (by simp) _).setCell (by simp) _).setCell (by simp) _).setCell (by simp) _).setCell (by simp) _).setCell (by simp) _

theorem class_nil (b : Int) (w : World) : Calls Tryd.prog 34 #[.pointer none, .int .i64 b] w fun e w' => e = .returned (.tuple #[.int .i64 0, .bool false]) ∧ w = w' := by
  go_enter Tryd.func34, Tryd.ntmps34
  go_wp2
  go_ret2
  exact ⟨rfl, rfl⟩

set_option maxHeartbeats 400000 in
theorem class_out {B base cap : Nat} {c : Cfg} {ks : List Nat} {p : Option Addr} (b : Int) (w : World) (h : TbIs w B base c ks p cap) (hb : b < 0 ∨ (ks.length : Int) ≤ b) : Calls Tryd.prog 34 #[.pointer (some ⟨B, 0, none⟩), .int .i64 b] w fun e w' => e = .returned (.tuple #[.int .i64 0, .bool false]) ∧ w = w' := by
  have hc := h.cv
  clear h
  rcases hb with hb | hb
  · go_enter Tryd.func34, Tryd.ntmps34
    go_wp2
    go_ret2
    exact ⟨rfl, rfl⟩
  · have h0 : ¬ b < 0 := by omega
    go_enter Tryd.func34, Tryd.ntmps34
    go_wp2
    go_ret2
    exact ⟨rfl, rfl⟩

set_option maxHeartbeats 400000 in
theorem class_in {B base cap : Nat} {c : Cfg} {ks : List Nat} {p : Option Addr} (b : Nat) (w : World) (h : TbIs w B base c ks p cap) (hb : b < ks.length) : Calls Tryd.prog 34 #[.pointer (some ⟨B, 0, none⟩), .int .i64 b] w fun e w' => e = .returned (.tuple #[.int .i64 ((kAt ks b : Nat) : Int), .bool true]) ∧ w = w' := by
  have hc := h.cv
  obtain ⟨g, rfl, hk⟩ := h.at hb
  have hl := h.len
  clear h
  have h1 : ¬ (ks.length : Int) ≤ (b : Int) := by omega
  go_enter Tryd.func34, Tryd.ntmps34
  go_wp2
  go_ret2
  exact ⟨rfl, rfl⟩
end Go.Proofs.YtooojajagkbhiaaDoor.Blk
