/-
  Base texts, one behind the other: BlkA BlkB BlkC BlkD BlkE BlkF.
-/
import Derived.Test.YtipifkgmhgkleaaGreatDoorMzAdr
import Derived.Test.YtipifkgmhgkleaaGreatDoorMzTol
import Derived.Deep.RegionWith
import Derived.Sort.QuietTacIn
import Derived.Sort.BigQuietIn
import Derived.Maps.OwnIn
import Derived.Lib.Walk
import Derived.Lib.SliceRun
import Derived.Deep.RegionHeld3
namespace Go.Proofs.YtipifkgmhgkleaaGreatDoor.Blk
open Go.RowKit Go.Shelf
open Class (isB isB_true isB_false is_any)

theorem ret_int {k : IntKind} {a b : Int} (h : a = b) : Ending.returned (.int k a) = .returned (.int k b) := by rw [h]
theorem ret_bool {a b : Bool} (h : a = b) : Ending.returned (.bool a) = .returned (.bool b) := by rw [h]
theorem other {W : World} {a b : Addr} {v : Value} (h : a ≠ b) : (W.setCell a v).cell? b = W.cell? b := World.cell?_setCell_other (h := h) ..
theorem same {W : World} {a : Addr} {u v : Value} (h : W.cell? a = some u) : (W.setCell a v).cell? a = some v := World.cell?_setCell_same (h := h) ..
theorem size_setCell (w : World) (p : Addr) (u : Value) : (w.setCell p u).heap.size = w.heap.size := by simp [World.setCell]
theorem cell_of_block {w w' : World} {a : Addr} (h : w'.heap[a.block]? = w.heap[a.block]?) : w'.cell? a = w.cell? a := World.cell?_of_block h
theorem frozen_of_block {w w' : World} {a : Addr} (h : w'.heap[a.block]? = w.heap[a.block]?) : w'.frozen? a = w.frozen? a := by unfold World.frozen?; rw [h]

/-- A config's seven numbers. -/
structure Cfg where
  b : Int
  wd : Int
  m : Int
  r : Int
  ce : Int
  lg : Int
  st : Int

/-- Numbers of a row, as cells. -/
def cellsK (l : List Nat) : List Value := l.map fun n => .int .i64 ((n : Nat) : Int)
theorem cellsK_snoc (l : List Nat) (x : Nat) : cellsK (l ++ [x]) = cellsK l ++ [.int .i64 ((x : Nat) : Int)] := by simp [cellsK]

/-- The block that a row lies in. -/
def rowB (p : Option Addr) (k : Nat) : Prop := p.map (·.block) = some k

/-- A row that is owned lies as it lay, where its block does. -/
theorem owns_block {w w' : World} {base : Nat} {e : TypeId} {size k cap n : Nat} {p : Option Addr} {xs : List Value} (h : w.ownsRow base e size (.slice p n cap) k xs) (hg : ∀ g, rowB p g → w'.heap[g]? = w.heap[g]?) :
    w'.ownsRow base e size (.slice p n cap) k xs :=
  ⟨h.1, h.2.imp id fun ⟨g, c, cur, e1, e2, e3, r⟩ => ⟨g, c, cur, e1, e2, by cases e1; rw [hg g rfl]; exact e3, r⟩⟩
theorem owns_lt {w : World} {base : Nat} {e : TypeId} {size k cap n : Nat} {p : Option Addr} {xs : List Value} (h : w.ownsRow base e size (.slice p n cap) k xs) {g : Nat} (hg : rowB p g) : base ≤ g ∧ g < w.heap.size := by
  obtain ⟨_, ⟨h2, _⟩ | ⟨g', c, cur, e1, e2, e3, r⟩⟩ := h
  · cases h2; cases hg
  · cases e1
    cases hg
    exact ⟨e2, (Array.getElem?_eq_some_iff.1 e3).1⟩

/-- A table in memory: its config, and which class each block has. -/
structure TbIs (w : World) (B base : Nat) (c : Cfg) (ks : List Nat) (p : Option Addr) (cap : Nat) : Prop where
  len : ks.length ≤ 4096
  cls : ∀ k ∈ ks, k < 4
  c0 : w.cell? ⟨B, 0, none⟩ = some (.int .i64 c.b)
  c1 : w.cell? ⟨B, 1, none⟩ = some (.int .i64 c.wd)
  c2 : w.cell? ⟨B, 2, none⟩ = some (.int .i64 c.m)
  c3 : w.cell? ⟨B, 3, none⟩ = some (.int .i64 c.r)
  c4 : w.cell? ⟨B, 4, none⟩ = some (.int .i64 c.ce)
  c5 : w.cell? ⟨B, 5, none⟩ = some (.int .i64 c.lg)
  c6 : w.cell? ⟨B, 6, none⟩ = some (.int .i64 c.st)
  cv : w.cell? ⟨B, 7, none⟩ = some (.slice p ks.length cap)
  fz : w.frozen? ⟨B, 7, none⟩ = false
  own : w.ownsRow base 3 1 (.slice p ks.length cap) ks.length (cellsK ks)
  ne : ¬ rowB p B
  base : base ≤ B
theorem TbIs.kept {w w' : World} {B base cap : Nat} {c : Cfg} {ks : List Nat} {p : Option Addr} (h : TbIs w B base c ks p cap) (hB : w'.heap[B]? = w.heap[B]?) (hg : ∀ g, rowB p g → w'.heap[g]? = w.heap[g]?) : TbIs w' B base c ks p cap :=
  ⟨h.len, h.cls, (cell_of_block (a := ⟨B, 0, none⟩) hB).trans h.c0, (cell_of_block (a := ⟨B, 1, none⟩) hB).trans h.c1, (cell_of_block (a := ⟨B, 2, none⟩) hB).trans h.c2, (cell_of_block (a := ⟨B, 3, none⟩) hB).trans h.c3,
   (cell_of_block (a := ⟨B, 4, none⟩) hB).trans h.c4, (cell_of_block (a := ⟨B, 5, none⟩) hB).trans h.c5, (cell_of_block (a := ⟨B, 6, none⟩) hB).trans h.c6, (cell_of_block (a := ⟨B, 7, none⟩) hB).trans h.cv, (frozen_of_block (a := ⟨B, 7, none⟩) hB).trans h.fz, owns_block h.own hg, h.ne, h.base⟩
theorem TbIs.ltB {w : World} {B base cap : Nat} {c : Cfg} {ks : List Nat} {p : Option Addr} (h : TbIs w B base c ks p cap) : B < w.heap.size := World.block_lt_of_cell? w _ h.c0
theorem TbIs.ltG {w : World} {B base cap : Nat} {c : Cfg} {ks : List Nat} {p : Option Addr} (h : TbIs w B base c ks p cap) {g : Nat} (hg : rowB p g) : base ≤ g ∧ g < w.heap.size := owns_lt h.own hg
theorem TbIs.later {w w' : World} {B base cap : Nat} {c : Cfg} {ks : List Nat} {p : Option Addr} (h : TbIs w B base c ks p cap) (hb : Below w.heap.size w w') : TbIs w' B base c ks p cap :=
  h.kept (hb.block _ h.ltB) (fun g hg => hb.block g (h.ltG hg).2)
theorem TbIs.drewN {w : World} {B base cap : Nat} {c : Cfg} {ks : List Nat} {p : Option Addr} (h : TbIs w B base c ks p cap) (n : Nat) : TbIs (w.drewN n) B base c ks p cap := h.kept rfl (fun _ _ => rfl)
/-- The class of a block that is assigned. -/
def kAt (ks : List Nat) (j : Nat) : Nat := ks.getD j 0
theorem TbIs.at {w : World} {B base cap : Nat} {c : Cfg} {ks : List Nat} {p : Option Addr} (h : TbIs w B base c ks p cap) {j : Nat} (hj : j < ks.length) : ∃ g, p = some ⟨g, 0, none⟩ ∧ w.cell? ⟨g, j, none⟩ = some (.int .i64 ((kAt ks j : Nat) : Int)) := by
  obtain ⟨_, ⟨_, h2⟩ | ⟨g, cap', cur, e1, e2, e3, e4, e5, e6, e7⟩⟩ := h.own
  · omega
  · cases e1
    refine ⟨g, rfl, ?_⟩
    have e : cur[j]? = some (.int .i64 ((kAt ks j : Nat) : Int)) := by
      have h3 := congrArg (fun l => l[j]?) e7
      simp only [Nat.mul_one, List.getElem?_take, hj, if_true, Array.getElem?_toList, cellsK, List.getElem?_map] at h3
      rw [h3]
      simp [kAt, List.getD_eq_getElem?_getD, hj]
    simp [World.cell?, e3, e]
theorem TbIs.kLt {w : World} {B base cap : Nat} {c : Cfg} {ks : List Nat} {p : Option Addr} (h : TbIs w B base c ks p cap) (j : Nat) : kAt ks j < 4 := by
  unfold kAt
  rw [List.getD_eq_getElem?_getD]
  rcases hj : ks[j]? with _ | k
  · simp
  · simpa using h.cls k (List.mem_of_getElem? hj)

set_option maxHeartbeats 1000000 in
theorem config_any {B base cap : Nat} {c : Cfg} {ks : List Nat} {p : Option Addr} (w : World) (h : TbIs w B base c ks p cap) : Calls Tryz.prog 82 #[.pointer (some ⟨B, 0, none⟩)] w fun e w' => e = .returned (.agg #[.int .i64 c.b, .int .i64 c.wd, .int .i64 c.m, .int .i64 c.r, .int .i64 c.ce, .int .i64 c.lg, .int .i64 c.st]) ∧ Below w.heap.size w w' := by
  have hlt := h.ltB
  obtain ⟨_, _, c0, c1, c2, c3, c4, c5, c6, _⟩ := h
  have hne : ¬ B = w.heap.size := by omega
  go_enter Tryz.func82, Tryz.ntmps82
  go_wp2
  refine bodyPost_ret (v := (.agg #[.int .i64 c.b, .int .i64 c.wd, .int .i64 c.m, .int .i64 c.r, .int .i64 c.ce, .int .i64 c.lg, .int .i64 c.st])) (by simp [results, Tryz.results82, go_sem]) rfl ⟨rfl, ?_⟩
  first
    | exact (Below.refl _ _).alloc (Nat.le_refl _) _
    | exact ((((((((Below.refl _ _).alloc (Nat.le_refl _) _).setCell (by simp) _).setCell (by simp) _).setCell (by simp) _).setCell (by simp) _).setCell (by simp) _).setCell (by simp) _).setCell (by simp) _

set_option maxHeartbeats 400000 in
theorem class_out {B base cap : Nat} {c : Cfg} {ks : List Nat} {p : Option Addr} (b : Int) (w : World) (h : TbIs w B base c ks p cap) (hb : b < 0 ∨ (ks.length : Int) ≤ b) : Calls Tryz.prog 332 #[.pointer (some ⟨B, 0, none⟩), .int .i64 b] w fun e w' => e = .returned (.tuple #[.int .i64 0, .bool false]) ∧ w = w' := by
  have hc := h.cv
  clear h
  rcases hb with hb | hb
  · go_enter Tryz.func332, Tryz.ntmps332
    go_wp2
    go_ret2
    exact ⟨rfl, rfl⟩
  · have h0 : ¬ b < 0 := by omega
    go_enter Tryz.func332, Tryz.ntmps332
    go_wp2
    go_ret2
    exact ⟨rfl, rfl⟩

set_option maxHeartbeats 400000 in
theorem class_in {B base cap : Nat} {c : Cfg} {ks : List Nat} {p : Option Addr} (b : Nat) (w : World) (h : TbIs w B base c ks p cap) (hb : b < ks.length) : Calls Tryz.prog 332 #[.pointer (some ⟨B, 0, none⟩), .int .i64 b] w fun e w' => e = .returned (.tuple #[.int .i64 ((kAt ks b : Nat) : Int), .bool true]) ∧ w = w' := by
  have hc := h.cv
  obtain ⟨g, rfl, hk⟩ := h.at hb
  have hl := h.len
  clear h
  have h1 : ¬ (ks.length : Int) ≤ (b : Int) := by omega
  go_enter Tryz.func332, Tryz.ntmps332
  go_wp2
  go_ret2
  exact ⟨rfl, rfl⟩
end Go.Proofs.YtipifkgmhgkleaaGreatDoor.Blk

namespace Go.Proofs.YtipifkgmhgkleaaGreatDoor.Blk
open Go.RowKit Go.Shelf
open Class (isB isB_true isB_false is_any)

/-- What has some blocks turned, and new ones. -/
structure Chg (S : Nat → Prop) (w w' : World) : Prop where
  os : w'.os = w.os
  tape : w'.tape = w.tape
  output : w'.output = w.output
  size : w.heap.size ≤ w'.heap.size
  block : ∀ k, k < w.heap.size → ¬ S k → w'.heap[k]? = w.heap[k]?
theorem Chg.refl (S : Nat → Prop) (w : World) : Chg S w w := ⟨rfl, rfl, rfl, Nat.le_refl _, fun _ _ _ => rfl⟩
theorem Chg.of_below {S : Nat → Prop} {a b : World} (h : Below a.heap.size a b) : Chg S a b := ⟨h.os, h.tape, h.output, h.size, fun i hi _ => h.block i hi⟩
theorem Chg.below {S : Nat → Prop} {N : Nat} {a b : World} (h : Chg S a b) (hS : ∀ k, S k → N ≤ k) (hN : N ≤ a.heap.size) : Below N a b :=
  ⟨h.os, h.tape, h.output, h.size, fun i hi => h.block i (by omega) (fun hs => by have := hS i hs; omega)⟩
theorem Chg.drewN {S : Nat → Prop} {a b : World} (h : Chg S a b) (n : Nat) : Chg S a (b.drewN n) := ⟨h.os, h.tape, h.output, h.size, h.block⟩

/-- A new table: no block of it is assigned. -/
theorem new_fin {w w1 : World} (c : Cfg) (hb : Below w.heap.size w w1) :
    TbIs (w1.alloc (.cells #[.int .i64 c.b, .int .i64 c.wd, .int .i64 c.m, .int .i64 c.r, .int .i64 c.ce, .int .i64 c.lg, .int .i64 c.st, .slice none 0 0] 209)) w1.heap.size w.heap.size c [] none 0 ∧
      Below w.heap.size w (w1.alloc (.cells #[.int .i64 c.b, .int .i64 c.wd, .int .i64 c.m, .int .i64 c.r, .int .i64 c.ce, .int .i64 c.lg, .int .i64 c.st, .slice none 0 0] 209)) := by
  refine ⟨⟨by simp, by simp, by simp, by simp, by simp, by simp, by simp, by simp, by simp, by simp, by simp, ⟨by simp [cellsK], .inl ⟨rfl, rfl⟩⟩, by simp [rowB], hb.size⟩, hb.alloc hb.size _⟩

set_option maxHeartbeats 1000000 in
theorem new_bad (c : Cfg) (w : World) (ht : LimTab w) (hr : rightB c.b c.wd c.m c.r c.ce c.lg c.st = false) : Calls Tryz.prog 79 #[(.agg #[.int .i64 c.b, .int .i64 c.wd, .int .i64 c.m, .int .i64 c.r, .int .i64 c.ce, .int .i64 c.lg, .int .i64 c.st])] w fun e w' => e = .returned (.tuple #[.pointer none, .int .i64 1]) ∧ Below w.heap.size w w' := by
  have HT := Lib.hid ht
  clear ht
  go_enter Tryz.func79, Tryz.ntmps79
  go_wp2_with (go_at_call 76; refine (right_any _ _ _ _ _ _ _ _ (HT.out.alloc _)).mono ?_; rintro e w1 ⟨rfl, hb⟩; rw [hr])
  go_ret2
  exact ⟨rfl, ((Below.refl _ _).alloc (Nat.le_refl _) _).trans (hb.mono (by simp))⟩

set_option maxHeartbeats 1000000 in
theorem new_good (c : Cfg) (w : World) (ht : LimTab w) (hr : rightB c.b c.wd c.m c.r c.ce c.lg c.st = true) : Calls Tryz.prog 79 #[(.agg #[.int .i64 c.b, .int .i64 c.wd, .int .i64 c.m, .int .i64 c.r, .int .i64 c.ce, .int .i64 c.lg, .int .i64 c.st])] w fun e w' => ∃ B, e = .returned (.tuple #[.pointer (some ⟨B, 0, none⟩), .int .i64 0]) ∧ TbIs w' B w.heap.size c [] none 0 ∧ Below w.heap.size w w' := by
  have HT := Lib.hid ht
  have HF := Lib.hid (fun w1 hb => new_fin (w := w) (w1 := w1) c hb)
  clear ht
  go_enter Tryz.func79, Tryz.ntmps79
  go_wp2_with (go_at_call 76; refine (right_any _ _ _ _ _ _ _ _ (HT.out.alloc _)).mono ?_; rintro e w1 ⟨rfl, hb⟩; rw [hr]; obtain ⟨hc, hf⟩ := bcell hb)
  go_ret2
  exact ⟨_, rfl, HF.out w1 (((Below.refl _ _).alloc (Nat.le_refl _) _).trans (hb.mono (by simp)))⟩

set_option maxHeartbeats 1000000 in
theorem assign_full {B base cap : Nat} {c : Cfg} {ks : List Nat} {p : Option Addr} (k : Int) (w : World) (h : TbIs w B base c ks p cap) (hk : isB k = true) (hf : (ks.length : Int) = c.b) : Calls Tryz.prog 295 #[.pointer (some ⟨B, 0, none⟩), .int .i64 k] w fun e w' => e = .returned (.tuple #[.int .i64 0, .int .i64 10]) ∧ ∃ n, w' = w.drewN n := by
  have hc := h.cv
  have h0 := h.c0
  rw [← hf] at h0
  clear h hf
  go_enter Tryz.func295, Tryz.ntmps295
  go_wp2_with (go_at_call 283; refine (is_any _ _).mono ?_; rintro e w' ⟨rfl, rfl⟩; rw [hk])
  go_quiet (fail)
  go_wp2
  go_ret2
  exact ⟨rfl, _, rfl⟩

theorem infoInt : (Tryz.prog.info? 3).map (fun i => (i.zero, i.size, i.bytes)) = some (some (.int .i64 0), 1, 8) := by kernel_rfl
theorem info_parts {P : Program} {t : TypeId} {z : Value} {a c : Nat} (h : (P.info? t).map (fun i => (i.zero, i.size, i.bytes)) = some (some z, a, c)) : ∃ i, P.info? t = some i ∧ i.zero = some z ∧ i.size = a ∧ i.bytes = c := by
  obtain ⟨i, hi, h2⟩ := Option.map_eq_some_iff.1 h
  simp only [Prod.mk.injEq] at h2
  exact ⟨i, hi, h2.1, h2.2.1, h2.2.2⟩

theorem ownBlock_slice (p : Option Addr) (n cap k : Nat) : (Value.slice p n cap).ownBlock = some k ↔ rowB p k := by
  cases p <;> simp [Value.ownBlock, rowB]
/-- A row with one more: where it lies. -/
theorem owns_more {w w' : World} {base : Nat} {v' : Value} {p : Option Addr} {cap : Nat} {n : Nat} {xs : List Value} (ho : w'.ownsRow base 3 1 v' (n + 1) xs) (hat : v'.ownBlock = (Value.slice p n cap).ownBlock ∨ v'.ownBlock = some w.heap.size) :
    ∃ p' cap', v' = .slice p' (n + 1) cap' ∧ ∀ k, rowB p' k → rowB p k ∨ k = w.heap.size := by
  obtain ⟨g, cap', rfl⟩ := ownsRow_succ ho
  refine ⟨_, _, rfl, fun k hk => ?_⟩
  rcases hat with h | h
  · left
    rw [← ownBlock_slice p n cap k, ← h, ownBlock_slice]; exact hk
  · right
    have := (ownBlock_slice _ (n + 1) cap' k).2 hk
    rw [h] at this
    exact (Option.some.inj this).symm

/-- What Assign leaves. -/
theorem assign_fin {w w1 w3 : World} {B base cap : Nat} {c : Cfg} {ks : List Nat} {p : Option Addr} {k : Nat} {v' : Value} (h : TbIs w B base c ks p cap) (hk : k < 4) (hl : ks.length < 4096)
    (hb1 : Below w.heap.size w w1) (ho : w3.ownsRow base 3 1 v' (ks.length + 1) (cellsK ks ++ [.int .i64 ((k : Nat) : Int)])) (hg : w1.grownBy w3 (Value.slice p ks.length cap).ownBlock)
    (hat : v'.ownBlock = (Value.slice p ks.length cap).ownBlock ∨ v'.ownBlock = some w1.heap.size) :
    ∃ p' cap', v' = .slice p' (ks.length + 1) cap' ∧ TbIs (w3.setCell ⟨B, 7, none⟩ v') B base c (ks ++ [k]) p' cap' ∧ Chg (fun i => i = B ∨ rowB p i) w (w3.setCell ⟨B, 7, none⟩ v') ∧ (∀ i, rowB p' i → rowB p i ∨ w.heap.size ≤ i) ∧
      w3.cell? ⟨B, 7, none⟩ = some (.slice p ks.length cap) ∧ w3.frozen? ⟨B, 7, none⟩ = false := by
  obtain ⟨p', cap', rfl, hp⟩ := owns_more ho hat
  have hB1 : B < w1.heap.size := Nat.lt_of_lt_of_le h.ltB hb1.size
  have hrow : ∀ i, i < w1.heap.size → ¬ rowB p i → w3.heap[i]? = w1.heap[i]? := fun i hi hn => hg.block i hi (fun e => hn ((ownBlock_slice p ks.length cap i).1 e.symm))
  have hB3 : w3.heap[B]? = w.heap[B]? := (hrow B hB1 h.ne).trans (hb1.block B h.ltB)
  have hc : ∀ j, w3.cell? ⟨B, j, none⟩ = w.cell? ⟨B, j, none⟩ := fun j => cell_of_block (a := ⟨B, j, none⟩) hB3
  have hne' : ¬ rowB p' B := fun e => (hp B e).elim h.ne (by have := h.ltB; have := hb1.size; omega)
  refine ⟨p', cap', rfl, ⟨by simp; omega, ?_, ?_, ?_, ?_, ?_, ?_, ?_, ?_, ?_, ?_, ?_, hne', h.base⟩, ⟨?_, ?_, ?_, ?_, ?_⟩, ?_, (hc 7).trans h.cv, ?_⟩
  · intro x hx
    rcases List.mem_append.1 hx with hx | hx
    · exact h.cls x hx
    · rw [List.mem_singleton.1 hx]; exact hk
  · rw [other (by simp), hc]; exact h.c0
  · rw [other (by simp), hc]; exact h.c1
  · rw [other (by simp), hc]; exact h.c2
  · rw [other (by simp), hc]; exact h.c3
  · rw [other (by simp), hc]; exact h.c4
  · rw [other (by simp), hc]; exact h.c5
  · rw [other (by simp), hc]; exact h.c6
  · rw [List.length_append]; exact same ((hc 7).trans h.cv)
  · rw [World.frozen?_setCell, frozen_of_block (a := ⟨B, 7, none⟩) hB3]; exact h.fz
  · rw [List.length_append, cellsK_snoc]
    exact owns_block ho (fun g hg' => Below.heap_setCell _ _ _ _ (fun e => by rw [show g = B from e] at hg'; exact hne' hg'))
  · exact (hg.os.trans hb1.os)
  · exact (hg.tape.trans hb1.tape)
  · exact (hg.output.trans hb1.output)
  · have := hg.size; have := hb1.size; rw [size_setCell]; omega
  · intro i hi hn
    refine (Below.heap_setCell _ _ _ _ (fun e => hn (.inl e))).trans ((hrow i (Nat.lt_of_lt_of_le hi hb1.size) (fun e => hn (.inr e))).trans (hb1.block i hi))
  · intro i hi
    rcases hp i hi with h1 | h1
    · exact .inl h1
    · right; rw [h1]; exact hb1.size
  · rw [frozen_of_block (a := ⟨B, 7, none⟩) hB3]; exact h.fz

theorem one_at {w : World} {a : Nat} {v : Value} {t : TypeId} (h : a = w.heap.size) : ∀ (j : Nat) (u : Value), [v][j]? = some u → (w.alloc (.cells #[v] t)).cell? ((⟨a, 0, none⟩ : Addr).add j) = some u := by
  subst h
  intro j u hj
  cases j with
  | zero =>
    obtain rfl := Option.some.inj hj
    exact (Boxed.new w t _).cell
  | succ j => simp at hj

set_option maxRecDepth 100000 in
set_option maxHeartbeats 4000000 in
theorem assign_good {B base cap : Nat} {c : Cfg} {ks : List Nat} {p : Option Addr} (k : Nat) (w : World) (h : TbIs w B base c ks p cap) (hk : k < 4) (hf : (ks.length : Int) < c.b) (hcb : c.b ≤ 4096) (hbase : base ≤ w.heap.size) :
    Calls Tryz.prog 295 #[.pointer (some ⟨B, 0, none⟩), .int .i64 k] w fun e w' => e = .returned (.tuple #[.int .i64 ks.length, .int .i64 0]) ∧
      ∃ p' cap', TbIs w' B base c (ks ++ [k]) p' cap' ∧ Chg (fun i => i = B ∨ rowB p i) w w' ∧ ∀ i, rowB p' i → rowB p i ∨ w.heap.size ≤ i := by
  obtain ⟨i0, hinf, hz0, hz1, hz2⟩ := info_parts infoInt
  have hc := h.cv
  have h0 := h.c0
  have hfz := h.fz
  have hlt := h.ltB
  have hne : (((ks.length : Nat) : Int) == c.b) = false := by simp; omega
  have hkB : isB ((k : Nat) : Int) = true := isB_true.2 ⟨by omega, by omega⟩
  have hl : ks.length < 4096 := by omega
  have HH := Lib.hid h
  have HL := Lib.hid hf
  clear h hf
  go_enter Tryz.func295, Tryz.ntmps295
  go_wp2_with (go_at_call 283; refine (is_any _ _).mono ?_; rintro e w' ⟨rfl, rfl⟩; rw [hkB])
  go_quiet (fail)
  go_wp2_with (at_builtin; refine wpList_append_own_at _ rfl _ _ 40 rfl base 3 i0 (.int .i64 0) 1 8 Tryz.underlying40 hinf hz0 hz1 hz2 rfl (by decide) _ _ _ rfl (owns_block HH.out.own (fun g hg => Below.heap_alloc _ _ _ (by simpa using (HH.out.ltG hg).2))) ⟨w.heap.size, 0, none⟩ 1 1 [.int .i64 k] rfl rfl (one_at rfl) (by simp [Value.oneCell']) (by unfold maxLen; omega) (by omega) (by simp; omega) ?_)
  intro v' w3 hown hgrow _ hat
  have hba : Below w.heap.size w ((w.drewN nq).alloc (.cells #[.int .i64 k] 3)) := (below_drewN (Below.refl _ w) nq).alloc (Nat.le_refl _) _
  obtain ⟨p', cap', rfl, hT, hC, hR, hc3, hf3⟩ := assign_fin HH.out hk hl hba hown hgrow (by simpa using hat)
  have HT := Lib.hid hT
  have HC := Lib.hid hC
  have HR := Lib.hid hR
  have hc4 : (w3.setCell ⟨B, 7, none⟩ (.slice p' (ks.length + 1) cap')).cell? ⟨B, 7, none⟩ = some (.slice p' (ks.length + 1) cap') := same hc3
  clear hown hgrow hat hba hT hC hR
  go_wp2
  go_ret2
  exact ⟨by simp, p', cap', HT.out, HC.out, HR.out⟩
end Go.Proofs.YtipifkgmhgkleaaGreatDoor.Blk

namespace Go.Proofs.YtipifkgmhgkleaaGreatDoor.Blk
open Go.RowKit Go.Shelf
attribute [local go_sem] Oper.semAt_some

theorem owns_slice {w : World} {base : Nat} {e : TypeId} {size k : Nat} {v : Value} {xs : List Value} (h : w.ownsRow base e size v k xs) : ∃ p cap, v = .slice p k cap := by
  obtain ⟨_, ⟨h2, h3⟩ | ⟨g, c, cur, e1, r⟩⟩ := h
  · exact ⟨none, 0, by rw [h2, h3]⟩
  · exact ⟨_, _, e1⟩
theorem owns_cell {w : World} {base cap k g n : Nat} {e : TypeId} {xs : List Value} (h : w.ownsRow base e 1 (.slice (some ⟨g, 0, none⟩) n cap) k xs) : ∀ (j : Nat) (u : Value), xs[j]? = some u → w.cell? ⟨g, j, none⟩ = some u := fun j u hu => by
  obtain ⟨h1, ⟨h2, _⟩ | ⟨g', c, cur, e1, e2, e3, e4, e5, e6, e7⟩⟩ := h
  · cases h2
  · cases e1
    have hj : j < k := by have := (List.getElem?_eq_some_iff.1 hu).1; omega
    have e : cur[j]? = some u := by
      have h3 := congrArg (fun l => l[j]?) e7
      simp only [Nat.mul_one, List.getElem?_take, hj, if_true, Array.getElem?_toList] at h3
      rw [h3, hu]
    simp [World.cell?, e3, e]
theorem owns_base {w : World} {b b' : Nat} {e : TypeId} {size k : Nat} {v : Value} {xs : List Value} (hb : b' ≤ b) (h : w.ownsRow b e size v k xs) : w.ownsRow b' e size v k xs :=
  ⟨h.1, h.2.imp id fun ⟨g, c, cur, e1, e2, r⟩ => ⟨g, c, cur, e1, Nat.le_trans hb e2, r⟩⟩

theorem clone_nil (w : World) : Calls Tryz.prog 50 #[.slice none 0 0] w fun e w' => e = .returned (.slice none 0 0) ∧ w = w' := by
  have q22 : ∀ (w : World) (a : Option Addr) (n c n' c' : Nat), (binOp .eql 40 (.slice a n c) (.slice none n' c')).run Tryz.prog w = .ok (.bool a.isNone) w := fun w a n c n' c' => Lib.run_eql_slice_nil w _ _ a n c n' c' Tryz.underlying40
  go_enter Tryz.func50, Tryz.ntmps50
  go_wp2
  go_ret
  exact ⟨rfl, rfl⟩

set_option maxHeartbeats 2000000 in
set_option maxRecDepth 100000 in
theorem clone_some (g cap : Nat) (l : List Nat) (w : World) (hlen : l.length ≤ 2097152) (hc : ∀ (j : Nat) (u : Value), (cellsK l)[j]? = some u → w.cell? ⟨g, j, none⟩ = some u) :
    Calls Tryz.prog 50 #[.slice (some ⟨g, 0, none⟩) l.length cap] w fun e w' => ∃ p' cap', e = .returned (.slice p' l.length cap') ∧ w'.ownsRow w.heap.size 3 1 (.slice p' l.length cap') l.length (cellsK l) ∧ Below w.heap.size w w' := by
  obtain ⟨i0, hi, hz0, hz1, hz2⟩ := info_parts infoInt
  have q22 : ∀ (w : World) (a : Option Addr) (n c n' c' : Nat), (binOp .eql 40 (.slice a n c) (.slice none n' c')).run Tryz.prog w = .ok (.bool a.isNone) w := fun w a n c n' c' => Lib.run_eql_slice_nil w _ _ a n c n' c' Tryz.underlying40
  have A := Lib.hid hc
  clear hc
  go_enter Tryz.func50, Tryz.ntmps50
  go_wp2_with (at_builtin; refine wpList_append_own _ rfl _ _ 40 rfl w.heap.size 3 i0 (.int .i64 0) 1 8 Tryz.underlying40 hi hz0 hz1 hz2 rfl (by decide) _ _ _ rfl (World.ownsRow_made w #[] 0 (Nat.le_refl _) (Nat.zero_le _) rfl) ⟨g, 0, none⟩ l.length cap (cellsK l) rfl ?qc1 ?qc2 ?qc3 ?qc4 ?qc5 ?qc6 ?_)
  case qc1 => simp [cellsK]
  case qc2 =>
    intro j u hj
    rw [Addr.add_lit, Nat.zero_add]
    exact Lib.cell?_alloc_some _ (A.out j u hj)
  case qc3 => intro u hu; obtain ⟨x, _, rfl⟩ := List.mem_map.1 hu; rfl
  case qc4 => unfold maxLen; omega
  case qc5 => omega
  case qc6 => simp
  intro v' w1 hown hgrow _
  have hown : w1.ownsRow w.heap.size 3 1 v' l.length (cellsK l) := by simpa using hown
  obtain ⟨p', cap', rfl⟩ := owns_slice hown
  go_wp2
  go_ret
  refine ⟨p', cap', rfl, hown, ?_⟩
  exact ((Below.refl _ w).alloc (Nat.le_refl _) _).grown hgrow (by simp) (by intro k hk; simp [Value.ownBlock] at hk; omega)

theorem clone_any {base cap : Nat} (p : Option Addr) (l : List Nat) (w : World) (hlen : l.length ≤ 2097152) (ho : w.ownsRow base 3 1 (.slice p l.length cap) l.length (cellsK l)) :
    Calls Tryz.prog 50 #[.slice p l.length cap] w fun e w' => ∃ p' cap', e = .returned (.slice p' l.length cap') ∧ w'.ownsRow w.heap.size 3 1 (.slice p' l.length cap') l.length (cellsK l) ∧ Below w.heap.size w w' := by
  have ho2 := ho
  obtain ⟨h1, ⟨h2, h3⟩ | ⟨g', c, cur, e1, _⟩⟩ := ho
  · obtain rfl := List.eq_nil_of_length_eq_zero h3
    cases h2
    exact (clone_nil w).mono fun e w' ⟨he, hw⟩ => ⟨none, 0, he, by subst hw; exact ⟨rfl, .inl ⟨rfl, rfl⟩⟩, hw ▸ Below.refl _ _⟩
  · cases e1
    exact clone_some g' cap l w hlen (owns_cell ho2)

/-- What Copy leaves. -/
theorem copy_fin {w w1 : World} {B base cap : Nat} {c : Cfg} {ks : List Nat} {p : Option Addr} {p' : Option Addr} {cap' : Nat} (h : TbIs w B base c ks p cap) (ho : w1.ownsRow w.heap.size 3 1 (.slice p' ks.length cap') ks.length (cellsK ks)) (hb : Below w.heap.size w w1) :
    TbIs (w1.alloc (.cells #[.int .i64 c.b, .int .i64 c.wd, .int .i64 c.m, .int .i64 c.r, .int .i64 c.ce, .int .i64 c.lg, .int .i64 c.st, .slice p' ks.length cap'] 209)) w1.heap.size w.heap.size c ks p' cap' ∧
      Below w.heap.size w (w1.alloc (.cells #[.int .i64 c.b, .int .i64 c.wd, .int .i64 c.m, .int .i64 c.r, .int .i64 c.ce, .int .i64 c.lg, .int .i64 c.st, .slice p' ks.length cap'] 209)) := by
  refine ⟨⟨h.len, h.cls, by simp, by simp, by simp, by simp, by simp, by simp, by simp, by simp, by simp, owns_block ho (fun g hg => Below.heap_alloc _ _ _ (owns_lt ho hg).2), fun e => ?_, hb.size⟩, hb.alloc hb.size _⟩
  have := (owns_lt ho e).2
  omega

set_option maxHeartbeats 2000000 in
theorem copy_any {B base cap : Nat} {c : Cfg} {ks : List Nat} {p : Option Addr} (w : World) (h : TbIs w B base c ks p cap) :
    Calls Tryz.prog 319 #[.pointer (some ⟨B, 0, none⟩)] w fun e w' => ∃ B' p' cap', e = .returned (.pointer (some ⟨B', 0, none⟩)) ∧ TbIs w' B' w.heap.size c ks p' cap' ∧ Below w.heap.size w w' := by
  have hB := h.ltB
  have c0 := h.c0
  have c1 := h.c1
  have c2 := h.c2
  have c3 := h.c3
  have c4 := h.c4
  have c5 := h.c5
  have c6 := h.c6
  have c7 := h.cv
  have HS := Lib.hid h
  have HC := Lib.hid (fun (W1 : World) (h : W1.ownsRow base 3 1 (.slice p ks.length cap) ks.length (cellsK ks)) => clone_any p ks W1 (by have := HS.out.len; omega) h)
  clear h
  go_enter Tryz.func319, Tryz.ntmps319
  go_wp2_with fail
  go_region_with (go_at_call 50; refine (HC.out w.drew HS.out.own).mono ?_; rintro e w1 ⟨p', cap', rfl, hown, hb1⟩; have hb1 : Below w.heap.size w w1 := ⟨hb1.os, hb1.tape, hb1.output, hb1.size, hb1.block⟩; obtain ⟨hc, hf⟩ := bcell hb1)
  all_goals have HF := Lib.hid (copy_fin HS.out hown hb1)
  all_goals clear hown hb1 HC
  all_goals go_wp2
  all_goals go_ret
  all_goals exact ⟨_, _, _, rfl, HF.out⟩
end Go.Proofs.YtipifkgmhgkleaaGreatDoor.Blk

namespace Go.Proofs.YtipifkgmhgkleaaGreatDoor.Blk
open Go.RowKit Go.Shelf
open Class (isB isB_true isB_false sizI perI encS starts_told starts_any SizTab)
open Go.Proofs.YtipifkgmhgkleaaGreatDoor.Addr (Tabs slot_any slotI slotI_yes sltB sltB_true blkB blkB_true)
attribute [local go_sem] Oper.semAt_some

/-- An address of a block's slot. -/
def adr (c : Cfg) (k b : Nat) (i : Nat) : Int := (b : Int) * c.wd + 1 + (i : Int) * sizI k

theorem adr_bd {c : Cfg} {k : Int} {b i : Nat} (hR : rightB c.b c.wd c.m c.r c.ce c.lg c.st = true) (hb : (b : Int) < c.b) (hi : (i : Int) < perI c.wd k) : (0 ≤ (b : Int) * c.wd ∧ (b : Int) * c.wd ≤ 1048576) ∧ 0 ≤ (i : Int) * sizI k ∧ (i : Int) * sizI k + sizI k ≤ c.wd ∧ c.wd ≤ 256 ∧ 2 ≤ sizI k := by
  have hRC : RightC c.b c.wd c.m c.r c.ce c.lg c.st := refRightB_true.1 ((rightB_ref ..).symm.trans hR)
  obtain ⟨_, s0, s1, m0, m1, m2⟩ := Addr.slot_bd (by omega) hi
  exact ⟨Addr.first_bd hRC (blkB_true.2 ⟨by omega, hb⟩), m0, m1, m2, s0⟩

set_option maxRecDepth 100000 in
set_option maxHeartbeats 4000000 in
theorem slots1_told (m Bt Bb B base cap b N : Nat) (c : Cfg) (ks : List Nat) (p : Option Addr) (w : World) (h : TbIs w B base c ks p cap) (hR : rightB c.b c.wd c.m c.r c.ce c.lg c.st = true) (hb : b < ks.length) (hbb : (b : Int) < c.b) (hN : perI c.wd (kAt ks b) = (N : Int)) (hN1 : 1 ≤ N)
    (hBt : w.cell? ⟨Bt, 0, none⟩ = some (.pointer (some ⟨B, 0, none⟩))) (hBb : w.cell? ⟨Bb, 0, none⟩ = some (.int .i64 b)) (ht : Tabs w) :
    SeqTold Fence.wide m Tryz.prog 331 #[.pointer (some ⟨Bt, 0, none⟩), .pointer (some ⟨Bb, 0, none⟩)] N (fun i => #[.int .i64 (adr c (kAt ks b) b i)]) SizTab w := by
  refine SeqTold.any (n := 5) ?_
  intro l J Jx W hW hJ hJx hT hY h0
  obtain ⟨O0, hj0, hO0⟩ := h0
  have cBt : W.cell? ⟨Bt, 0, none⟩ = some (.pointer (some ⟨B, 0, none⟩)) := (hW.cell (p := ⟨Bt, 0, none⟩) (World.block_lt_of_cell? w _ hBt)).trans hBt
  have cBb : W.cell? ⟨Bb, 0, none⟩ = some (.int .i64 b) := (hW.cell (p := ⟨Bb, 0, none⟩) (World.block_lt_of_cell? w _ hBb)).trans hBb
  have hTW : TbIs W B base c ks p cap := h.later hW
  have hTab : Tabs W := ht.later hW
  have lBt := World.block_lt_of_cell? W _ cBt
  have lBb := World.block_lt_of_cell? W _ cBb
  have lB := hTW.ltB
  simp only at lBt lBb
  have c0 := hTW.c0
  have c1 := hTW.c1
  have c2 := hTW.c2
  have c3 := hTW.c3
  have c4 := hTW.c4
  have c5 := hTW.c5
  have c6 := hTW.c6
  have HT := Lib.hid hTW
  have HTB := Lib.hid hTab
  clear hTW hTab h ht hBt hBb hW
  refine callsIn_of_wp_marks Tryz.func331 rfl trivial ?_ rfl
  simp only [Tryz.ntmps331, List.size_toArray, List.length_cons, List.length_nil, Nat.reduceAdd, Nat.reduceSub, Array.replicate_succ, Array.replicate_zero, List.push_toArray, List.append_toArray, List.nil_append, List.cons_append]
  have HCL := Lib.hid (fun W1 h1 => class_in b W1 (HT.out.later (w' := W1) h1) hb)
  gi_wp2_with (refine ⟨trivial, ?_⟩; gi_at_call 332; refine (callsIn_wide.2 (HCL.out _ ((Below.refl _ _).alloc (Nat.le_refl _) _))).mono ?_; rintro e w' ⟨rfl, rfl⟩)
  have hsl : slotI (rightB c.b c.wd c.m c.r c.ce c.lg c.st) c.b c.wd (kAt ks b) b 0 = (b : Int) * c.wd + 1 := by
    rw [slotI_yes (sltB_true.2 ⟨hR, blkB_true.2 ⟨by omega, hbb⟩, by omega, by omega⟩)]; simp
  have HSL := Lib.hid hsl
  have HTB1 := Lib.hid (HTB.out.alloc (.cells #[.func (.yield l) #[] #[]] 214))
  generalize hW1 : World.alloc _ _ = W1
  rw [hW1] at HTB1
  have hsz1 : W1.heap.size = W.heap.size + 1 := by rw [← hW1]; simp
  have hb01 : Below W.heap.size W W1 := by rw [← hW1]; exact (Below.refl _ _).alloc (Nat.le_refl _) _
  have cY : Boxed W1 W.heap.size 214 (.func (.yield l) #[] #[]) := by rw [← hW1]; exact Boxed.new W _ _
  obtain ⟨hcW, hfW⟩ := bcell hb01
  have d1 : W1.cell? ⟨Bt, 0, none⟩ = some (.pointer (some ⟨B, 0, none⟩)) := (hcW _ _ lBt).trans cBt
  have d2 : W1.cell? ⟨Bb, 0, none⟩ = some (.int .i64 b) := (hcW _ _ lBb).trans cBb
  have e0 := (hcW _ 0 lB).trans c0
  have e1 := (hcW _ 1 lB).trans c1
  have e2 := (hcW _ 2 lB).trans c2
  have e3 := (hcW _ 3 lB).trans c3
  have e4 := (hcW _ 4 lB).trans c4
  have e5 := (hcW _ 5 lB).trans c5
  have e6 := (hcW _ 6 lB).trans c6
  have l1 : Bt < W1.heap.size := by omega
  have l2 : Bb < W1.heap.size := by omega
  have l3 : B < W1.heap.size := by omega
  have l1a : Bt < W1.heap.size + 1 := by omega
  have l2a : Bb < W1.heap.size + 1 := by omega
  have l3a : B < W1.heap.size + 1 := by omega
  have HB01 := Lib.hid hb01
  have HJ := Lib.hid hJ
  have HJX := Lib.hid hJx
  have HTT := Lib.hid hT
  have HY := Lib.hid hY
  have HO := Lib.hid hO0
  have HJ0 := Lib.hid hj0
  have HCY := Lib.hid cY
  have HN := Lib.hid hN
  clear hW1 hcW hfW c0 c1 c2 c3 c4 c5 c6 cBt cBb hb01 hJ hJx hT hY hO0 hj0 cY hN hsl
  obtain ⟨QM, hQM⟩ : ∃ QM : Exit → Act → World → Prop, QM = (fun e a' w' => e = .normal ∧ ∃ Sb, a' = ({ tmps := #[.func (.yield l) #[] #[], .pointer (some ⟨Bt, 0, none⟩), .pointer (some ⟨Bb, 0, none⟩), .pointer (some ⟨W.heap.size, 0, none⟩), .int .i64 (kAt ks b), .bool true, .pointer (some ⟨Sb, 0, none⟩), undef, undef,
      .tuple #[.int .i64 (kAt ks b), .bool true], .pointer (some ⟨B, 0, none⟩), .int .i64 b, .tuple #[.int .i64 (kAt ks b), .bool true], .int .i64 (kAt ks b), .bool true, .bool true, .bool false, .pointer (some ⟨B, 0, none⟩), .pointer (some ⟨B, 0, none⟩), .pointer (some ⟨B, 0, none⟩), (.agg #[.int .i64 c.b, .int .i64 c.wd, .int .i64 c.m, .int .i64 c.r, .int .i64 c.ce, .int .i64 c.lg, .int .i64 c.st]), .int .i64 (kAt ks b), .int .i64 b, .int .i64 ((b : Int) * c.wd + 1),
      undef, undef, undef, undef, undef, undef, undef, undef, undef, undef, undef, undef, undef, undef, undef], defers := [] } : Act) ∧ W1.heap.size ≤ Sb ∧ Boxed w' Sb 3 (.int .i64 ((b : Int) * c.wd + 1)) ∧ Below W1.heap.size W1 w') := ⟨_, rfl⟩
  have HQ := Lib.hid hQM
  clear hQM
  have HK := Lib.hid (fun (w' : World) (h : Below W1.heap.size W1 w') => (⟨(h.cell (p := ⟨Bt, 0, none⟩) l1).trans d1, (h.cell (p := ⟨Bb, 0, none⟩) l2).trans d2, (h.cell (p := ⟨B, 0, none⟩) l3).trans e0, (h.cell (p := ⟨B, 1, none⟩) l3).trans e1, (h.cell (p := ⟨B, 2, none⟩) l3).trans e2,
      (h.cell (p := ⟨B, 3, none⟩) l3).trans e3, (h.cell (p := ⟨B, 4, none⟩) l3).trans e4, (h.cell (p := ⟨B, 5, none⟩) l3).trans e5, (h.cell (p := ⟨B, 6, none⟩) l3).trans e6⟩ :
    w'.cell? ⟨Bt, 0, none⟩ = some (.pointer (some ⟨B, 0, none⟩)) ∧ w'.cell? ⟨Bb, 0, none⟩ = some (.int .i64 b) ∧ w'.cell? ⟨B, 0, none⟩ = some (.int .i64 c.b) ∧ w'.cell? ⟨B, 1, none⟩ = some (.int .i64 c.wd) ∧ w'.cell? ⟨B, 2, none⟩ = some (.int .i64 c.m)
     ∧ w'.cell? ⟨B, 3, none⟩ = some (.int .i64 c.r) ∧ w'.cell? ⟨B, 4, none⟩ = some (.int .i64 c.ce) ∧ w'.cell? ⟨B, 5, none⟩ = some (.int .i64 c.lg) ∧ w'.cell? ⟨B, 6, none⟩ = some (.int .i64 c.st)))
  refine wpIn_mono (Q := QM) (wpIn_wide.2 ?region) ?rest
  case region =>
    go_region_held3 (fun w' => w'.cell? ⟨Bt, 0, none⟩ = some (.pointer (some ⟨B, 0, none⟩)) ∧ w'.cell? ⟨Bb, 0, none⟩ = some (.int .i64 b) ∧ w'.cell? ⟨B, 0, none⟩ = some (.int .i64 c.b) ∧ w'.cell? ⟨B, 1, none⟩ = some (.int .i64 c.wd) ∧ w'.cell? ⟨B, 2, none⟩ = some (.int .i64 c.m)
     ∧ w'.cell? ⟨B, 3, none⟩ = some (.int .i64 c.r) ∧ w'.cell? ⟨B, 4, none⟩ = some (.int .i64 c.ce) ∧ w'.cell? ⟨B, 5, none⟩ = some (.int .i64 c.lg) ∧ w'.cell? ⟨B, 6, none⟩ = some (.int .i64 c.st))
      ((refine HK.out _ ?_; repeat (first | exact Below.refl _ _ | refine below_drew ?_ | refine Below.alloc ?_ (by first | (simp; done) | (have := hb.size; simp at this ⊢; omega)) _ | refine Below.setCell ?_ (by first | (simp; done) | (have := hb.size; simp at this ⊢; omega)) _ | refine Below.trans ?_ (hb.mono (by simp)))))
      (first
      | (go_at_call 333; refine (slot_any _ _ _ _ _ _ _ _ _ _ _ (by repeat (first | exact HTB1.out | apply Tabs.drewN | apply Tabs.drew | apply Tabs.alloc))).mono ?_; rintro e w3 ⟨rfl, hb⟩; rw [HSL.out]; obtain ⟨hc, hf⟩ := bcell hb))
    · rw [HQ.out]
      have hs3 : W1.heap.size ≤ w3.heap.size := by simpa using hb.size
      exact ⟨rfl, _, rfl, hs3, Boxed.new w3 _ _, ((below_drew (Below.refl _ W1)).trans (hb.mono (by simp))).alloc hs3 _⟩
    · rw [HQ.out]
      have hs3 : W1.heap.size + 1 ≤ w3.heap.size := by simpa using hb.size
      have hbx : Boxed w3 W1.heap.size 3 (.int .i64 0) := (hb.block _ (by simp)).trans (Boxed.new W1.drew _ _)
      have hbs := hbx.set (.int .i64 ((b : Int) * c.wd + 1))
      rw [hsz1] at hbs
      exact ⟨rfl, _, rfl, by omega, hbs, ((((below_drew (Below.refl _ W1)).alloc (by simp) _).trans (hb.mono (by simp))).setCell (by simp; omega) _)⟩
  case rest =>
    intro e a' w' hq
    rw [HQ.out] at hq
    obtain ⟨rfl, Sb, rfl, hSb, cS, hb3⟩ := hq
    have HB3 := Lib.hid hb3
    have CS := Lib.hid cS
    have hs3 := hb3.size
    have f1 := (hb3.cell (p := ⟨Bt, 0, none⟩) l1).trans d1
    have g1 := (hb3.cell (p := ⟨B, 1, none⟩) l3).trans e1
    clear HQ HK hb3 cS
    gi_wp2_with (refine ⟨trivial, ?_⟩; gi_at_call 334; refine (callsIn_wide.2 (starts_any _ _ _)).mono ?_; rintro e w'' ⟨rfl, rfl⟩)
    generalize hX : World.alloc _ _ = X
    have bX : Below w'.heap.size w' X := by rw [← hX]; exact ((Below.refl _ _).alloc (Nat.le_refl _) _).alloc (by simp) _
    have hsX : X.heap.size = w'.heap.size + 2 := by rw [← hX]; simp
    have xw : Boxed X w'.heap.size 3 (.int .i64 c.wd) := by rw [← hX]; exact (Boxed.new _ _ _).alloc _
    have xk : Boxed X (w'.heap.size + 1) 3 (.int .i64 (kAt ks b)) := by rw [← hX]; exact boxed_new (by simp)
    have bWX : Below W.heap.size W X := (HB01.out.trans (HB3.out.mono (by omega))).trans (bX.mono (by omega))
    clear hX
    refine wpIn_rangeFunc_told rfl (by decide) (gf := 344) (lb := #[.pointer (some ⟨w'.heap.size, 0, none⟩), .pointer (some ⟨w'.heap.size + 1, 0, none⟩)]) rfl trivial (enters_of Tryz.func344 (by kernel_rfl) rfl)
      (starts_told 4 w'.heap.size (w'.heap.size + 1) c.wd (kAt ks b) N HN.out X xw.cell (by omega)) (Below.refl _ _) (fun _ => rfl)
      (fun O i Y => J O i Y ∧ X.heap.size ≤ Y.heap.size ∧ Boxed Y W.heap.size 214 (.func (.yield l) #[] #[]) ∧ Boxed Y Sb 3 (.int .i64 ((b : Int) * c.wd + 1)) ∧ Boxed Y (w'.heap.size + 1) 3 (.int .i64 (kAt ks b)) ∧ (∀ k, O k → k < W.heap.size ∨ X.heap.size ≤ k))
      (fun cc O i Y => cc = .ret ∧ Jx O i Y ∧ W.heap.size ≤ Y.heap.size)
      ?hI ?hIx ?hT ?h0
      (fun i => { tmps := #[.func (.yield l) #[] #[], .pointer (some ⟨Bt, 0, none⟩), .pointer (some ⟨Bb, 0, none⟩), .pointer (some ⟨W.heap.size, 0, none⟩), .int .i64 (kAt ks b), .bool true, .pointer (some ⟨Sb, 0, none⟩), undef, .int .i64 ((i : Int) * sizI (kAt ks b)),
      .tuple #[.int .i64 (kAt ks b), .bool true], .pointer (some ⟨B, 0, none⟩), .int .i64 b, .tuple #[.int .i64 (kAt ks b), .bool true], .int .i64 (kAt ks b), .bool true, .bool true, .bool false, .pointer (some ⟨B, 0, none⟩), .pointer (some ⟨B, 0, none⟩), .pointer (some ⟨B, 0, none⟩), (.agg #[.int .i64 c.b, .int .i64 c.wd, .int .i64 c.m, .int .i64 c.r, .int .i64 c.ce, .int .i64 c.lg, .int .i64 c.st]), .int .i64 (kAt ks b), .int .i64 b, .int .i64 ((b : Int) * c.wd + 1),
      .pointer (some ⟨B, 0, none⟩), .pointer (some ⟨B, 0, none⟩), .pointer (some ⟨B, 0, none⟩), .pointer (some ⟨B, 1, none⟩), .int .i64 c.wd, .int .i64 (kAt ks b), .func (.func 344) #[] #[.pointer (some ⟨w'.heap.size, 0, none⟩), .pointer (some ⟨w'.heap.size + 1, 0, none⟩)], .int .i64 (i : Int), .int .i64 ((i : Int) * sizI (kAt ks b)),
      undef, undef, undef, undef, undef, undef], defers := [] }) ?assign ?body ?done ?stop
    case hI =>
      rintro O i X' Y ⟨h1, h2, h3, h4, h5, h6⟩ hb hk
      exact ⟨HJ.out O i X' Y h1 (hb.mono (by omega)) hk, Nat.le_trans h2 hb.size, Boxed.below h3 hb (by omega), Boxed.below h4 hb (by have := CS.out.lt; omega), Boxed.below h5 hb (by omega), h6⟩
    case hIx =>
      rintro cc O i X' Y ⟨h1, h2, h3⟩ hb hk
      exact ⟨h1, HJX.out O i X' Y h2 (hb.mono (by omega)) hk, Nat.le_trans h3 hb.size⟩
    case hT =>
      rintro O i Y ⟨h1, h2, h3, h4, h5, h6⟩
      exact ⟨HTT.out O i Y h1, h5.cell⟩
    case h0 =>
      exact ⟨O0, ⟨HJ.out.alloc HJ0.out HO.out (Nat.le_refl _) bWX, Nat.le_refl _, Boxed.below (Boxed.below HCY.out HB3.out (by omega)) bX (by omega), Boxed.below CS.out bX CS.out.lt, xk, fun k hk => .inl (HO.out k hk)⟩, fun k hk => by have := HO.out k hk; omega⟩
    case assign =>
      intro l' i Y K hi hK
      unfold encS
      gi_wp2
      exact hK
    case body =>
      rintro l' O i Y _ _ hi ⟨h1, h2, h3, h4, h5, h6⟩ hlt _
      have k3 := h3.cell
      have k4 := h4.cell
      obtain ⟨fn, tmps, asg, bdy, hy, hR'⟩ := yieldAt_any (m := 2) (HY.out O i Y hi h1 hlt (by omega))
      have hbd := adr_bd hR hbb (i := i) (by rw [HN.out]; exact Int.ofNat_lt.2 hi)
      unfold adr at hy
      obtain ⟨⟨p0, p1⟩, p2, p3, p4, p5⟩ := hbd
      gi_wp2
      refine RoundIn.mono (F := Fence.wide.inRound l') hR' ?_
      rintro e Y' ⟨O', ht, (⟨rfl, hj⟩ | ⟨rfl, hj⟩)⟩
      · have hfin : toldPost X.heap.size (fun O i Y => J O i Y ∧ X.heap.size ≤ Y.heap.size ∧ Boxed Y W.heap.size 214 (.func (.yield l) #[] #[]) ∧ Boxed Y Sb 3 (.int .i64 ((b : Int) * c.wd + 1)) ∧ Boxed Y (w'.heap.size + 1) 3 (.int .i64 (kAt ks b)) ∧ (∀ k, O k → k < W.heap.size ∨ X.heap.size ≤ k))
            (fun cc O i Y => cc = .ret ∧ Jx O i Y ∧ W.heap.size ≤ Y.heap.size) O i Y .normal { tmps := #[], defers := [] } Y' := by
          have hn : ∀ k, W.heap.size ≤ k → k < X.heap.size → ¬ O k := fun k a1 a2 a3 => by have := h6 k a3; omega
          refine ⟨O', ht.mono (by omega), hj, Nat.le_trans h2 ht.size, ht.boxed h3 (Nat.le_refl _) (hn _ (by omega) (by omega)), ht.boxed h4 (by omega) (hn _ (by omega) (by have := CS.out.lt; omega)), ht.boxed h5 (by omega) (hn _ (by omega) (by omega)), fun k hk => ?_⟩
          rcases ht.grow k hk with h | h
          · exact h6 k h
          · exact .inr (Nat.le_trans h2 h)
        have HF := Lib.hid hfin
        clear hfin ht hj h1 h2 h3 h4 h5 h6 hlt hy hR'
        gi_wp2
        exact HF.out
      · have hfin : toldPost X.heap.size (fun O i Y => J O i Y ∧ X.heap.size ≤ Y.heap.size ∧ Boxed Y W.heap.size 214 (.func (.yield l) #[] #[]) ∧ Boxed Y Sb 3 (.int .i64 ((b : Int) * c.wd + 1)) ∧ Boxed Y (w'.heap.size + 1) 3 (.int .i64 (kAt ks b)) ∧ (∀ k, O k → k < W.heap.size ∨ X.heap.size ≤ k))
            (fun cc O i Y => cc = .ret ∧ Jx O i Y ∧ W.heap.size ≤ Y.heap.size) O i Y .ret { tmps := #[], defers := [] } Y' :=
          ⟨O', ht.mono (by omega), rfl, hj, by have := ht.size; omega⟩
        have HF := Lib.hid hfin
        clear hfin ht hj h1 h2 h3 h4 h5 h6 hlt hy hR'
        gi_wp2
        exact HF.out
    case done =>
      rintro D O Y hD ⟨h1, h2, h3, h4, h5, h6⟩ hn hlt hK
      have hj3 : J O N (Y.putObj D (.deferred none)) := HJ.out.putObj h1 (by omega) hn _
      have HX := Lib.hid hj3
      clear hj3 h1 h3 h4 h5 h6
      gi_wp2
      refine ⟨by simp, .inl ⟨_, _, rfl, run_takeDeferred hK, ?_⟩⟩
      exact ⟨_, results_none rfl _ _ _, ⟨_, rfl⟩, O, fun k hk => by simpa using hlt k hk, by simp; omega, .inl HX.out⟩
    case stop =>
      rintro D cc O i Y hD hi ⟨rfl, h1, h2⟩ hn hlt hK
      have hj3 : Jx O (i + 1) (Y.putObj D (.deferred none)) := HJX.out.putObj h1 (by omega) hn _
      have HX := Lib.hid hj3
      clear hj3 h1
      gi_wp2
      refine ⟨by simp, .inl ⟨_, _, rfl, run_takeDeferred hK, ?_⟩⟩
      exact ⟨_, results_none rfl _ _ _, ⟨_, rfl⟩, O, fun k hk => by simpa using hlt k hk, by simpa using h2, .inr ⟨i, hi, HX.out⟩⟩

/-- slots: two boxes are laid; the function value captures them. -/
theorem slots_fn (q : Option Addr) (b : Int) (w : World) : Calls Tryz.prog 321 #[.pointer q, .int .i64 b] w fun e w' => e = .returned (.func (.func 331) #[] #[.pointer (some ⟨w.heap.size, 0, none⟩), .pointer (some ⟨w.heap.size + 1, 0, none⟩)])
    ∧ (w.alloc (.cells #[.pointer q] 148)).alloc (.cells #[.int .i64 b] 3) = w' := by
  go_enter Tryz.func321, Tryz.ntmps321
  go_wp2
  go_ret
  exact ⟨rfl, rfl⟩
end Go.Proofs.YtipifkgmhgkleaaGreatDoor.Blk

namespace Go.Proofs.YtipifkgmhgkleaaGreatDoor.Blk
open Go.RowKit Go.Shelf
open Class (isB isB_true isB_false sizI perI SizTab)
open Go.Proofs.YtipifkgmhgkleaaGreatDoor.Addr (Tabs)
attribute [local go_sem] Oper.semAt_some

/-- The first numbers of a row, as cells. -/
def cellsF (f : Nat → Int) (n : Nat) : List Value := (List.range n).map fun i => .int .i64 (f i)
theorem cellsF_succ (f : Nat → Int) (n : Nat) : cellsF f (n + 1) = cellsF f n ++ [.int .i64 (f n)] := by simp [cellsF, List.range_succ]

/-- What an append of one number to a variable's row leaves. -/
theorem push_fin {Y w3 : World} {S B base n cap : Nat} {p : Option Addr} {v' : Value} {x : Value} {xs : List Value} (bx : Boxed Y S 40 (.slice p n cap)) (hS : S < B) (hB : B ≤ Y.heap.size) (hSb : S < base)
    (ho : Y.ownsRow base 3 1 (.slice p n cap) n xs) (hown : w3.ownsRow base 3 1 v' (n + 1) (xs ++ [x])) (hg : (Y.alloc (.cells #[x] 3)).grownBy w3 (Value.slice p n cap).ownBlock)
    (hat : v'.ownBlock = (Value.slice p n cap).ownBlock ∨ v'.ownBlock = some (Y.heap.size + 1)) :
    ∃ p' cap', v' = .slice p' (n + 1) cap' ∧ Boxed w3 S 40 (.slice p n cap) ∧ Boxed (w3.setCell ⟨S, 0, none⟩ v') S 40 v' ∧ (w3.setCell ⟨S, 0, none⟩ v').ownsRow base 3 1 v' (n + 1) (xs ++ [x]) ∧
      Turn B (rowB p) (rowB p') Y (w3.setCell ⟨S, 0, none⟩ v') ∧ Below S Y (w3.setCell ⟨S, 0, none⟩ v') := by
  obtain ⟨p', cap', rfl, hp⟩ := owns_more (w := Y.alloc (.cells #[x] 3)) hown (by simpa using hat)
  have hrow : ∀ i, i < Y.heap.size → ¬ rowB p i → w3.heap[i]? = Y.heap[i]? := fun i hi hn =>
    (hg.block i (by simp; omega) (fun e => hn ((ownBlock_slice p n cap i).1 e.symm))).trans (Below.heap_alloc _ _ _ hi)
  have hnS : ∀ q m c' ys (W : World), W.ownsRow base 3 1 (.slice q m c') m ys → ¬ rowB q S := fun q m c' ys W h e => by have := (owns_lt h e).1; omega
  have b3 : Boxed w3 S 40 (.slice p n cap) := (hrow S (by omega) (hnS _ _ _ _ _ ho)).trans bx
  have hsz : Y.heap.size ≤ w3.heap.size := by have := hg.size; simp at this; omega
  refine ⟨p', cap', rfl, b3, b3.set _, owns_block hown (fun g hg' => Below.heap_setCell _ _ _ _ (fun e => hnS _ _ _ _ _ hown (by rw [show g = S from e] at hg'; exact hg'))), ⟨?_, ?_, ?_, ?_⟩, ⟨hg.os, hg.tape, hg.output, ?_, ?_⟩⟩
  · rw [size_setCell]; exact hsz
  · intro k h1 h2 h3
    exact (Below.heap_setCell _ _ _ _ (by show k ≠ S; omega)).trans (hrow k h2 h3)
  · intro k hk
    rcases hp k hk with h | h
    · exact .inl h
    · right; rw [h]; simp
  · intro k hk
    rw [size_setCell]; exact (owns_lt hown hk).2
  · rw [size_setCell]; exact hsz
  · intro k hk
    refine (Below.heap_setCell _ _ _ _ (by show k ≠ S; omega)).trans (hrow k (by omega) (fun e => ?_))
    have := (owns_lt ho e).1
    omega

set_option maxRecDepth 100000 in
set_option maxHeartbeats 4000000 in
theorem appendSeq_any (gf : Nat) (lb : Array Value) (N : Nat) (f : Nat → Int) (T : World → Prop) (w : World) (hN : N ≤ 1048576) (eg : ∀ args w, (callFunc gf args).run Tryz.prog w = .ok (.enter gf args) w)
    (hseq : SeqTold Fence.wide 4 Tryz.prog gf lb N (fun i => #[.int .i64 (f i)]) T w) (hT : ∀ W, Below w.heap.size w W → T W) :
    Calls Tryz.prog 330 #[.slice none 0 0, .func (.func gf) #[] lb] w fun e w' => ∃ p cap, e = .returned (.slice p N cap) ∧ w'.ownsRow w.heap.size 3 1 (.slice p N cap) N (cellsF f N) ∧ Below w.heap.size w w' := by
  obtain ⟨i0, hinf, hz0, hz1, hz2⟩ := info_parts infoInt
  refine (callsIn_wide (n := 5)).1 ?_
  refine callsIn_of_wp_marks Tryz.func330 rfl trivial ?_ rfl
  simp only [Tryz.ntmps330, List.size_toArray, List.length_cons, List.length_nil, Nat.reduceAdd, Nat.reduceSub, Array.replicate_succ, Array.replicate_zero, List.push_toArray, List.append_toArray, List.nil_append, List.cons_append]
  gi_wp2
  generalize hX : World.alloc _ _ = X
  have bX : Below w.heap.size w X := by rw [← hX]; exact (Below.refl _ _).alloc (Nat.le_refl _) _
  have hsX : X.heap.size = w.heap.size + 1 := by rw [← hX]; simp
  have xs : Boxed X w.heap.size 40 (.slice none 0 0) := by rw [← hX]; exact Boxed.new _ _ _
  clear hX
  refine wpIn_rangeFunc_told rfl (by decide) (gf := gf) (lb := lb) rfl trivial eg hseq bX (fun _ => rfl)
    (fun O i Y => ∃ p cap, O = rowB p ∧ Boxed Y w.heap.size 40 (.slice p i cap) ∧ Y.ownsRow (w.heap.size + 1) 3 1 (.slice p i cap) i (cellsF f i) ∧ Below w.heap.size w Y)
    (fun _ _ _ _ => False) ?hI (fun _ _ _ _ _ h => h.elim) ?hT ?h0
    (fun i => { tmps := #[.slice none 0 0, .func (.func gf) #[] lb, .pointer (some ⟨w.heap.size, 0, none⟩), undef, .slice none 0 0, .int .i64 (f i), .func (.func gf) #[] lb, .int .i64 (f i), undef, undef, undef, undef, undef], defers := [] }) ?assign ?body ?done (fun _ _ _ _ _ _ _ h => h.elim)
  case hI =>
    rintro O i X' Y ⟨p, cap, rfl, h1, h2, h3⟩ hb hk
    exact ⟨p, cap, rfl, Boxed.below h1 hb (by omega), owns_block h2 hk, h3.trans (hb.mono (by omega))⟩
  case hT =>
    rintro O i Y ⟨p, cap, rfl, h1, h2, h3⟩
    exact hT Y h3
  case h0 => exact ⟨_, ⟨none, 0, rfl, xs, ⟨rfl, .inl ⟨rfl, rfl⟩⟩, bX⟩, fun k hk => by cases hk⟩
  case assign =>
    intro l i Y K hi hK
    gi_wp2
    exact hK
  case body =>
    rintro l O i Y hl _ hi ⟨p, cap, rfl, h1, h2, h3⟩ hlt hsz
    have k1 := h1.cell
    have kf := h1.frozen
    have HO := Lib.hid h2
    have H1 := Lib.hid h1
    have H3 := Lib.hid h3
    have hbase : w.heap.size + 1 ≤ (Y.alloc (.cells #[.int .i64 (f i)] 3)).heap.size := by simp; omega
    have HBA := Lib.hid hbase
    clear h1 h2 h3 hbase hseq
    gi_wp2_with (gi_at_builtin; refine wpListIn_append_own_at _ rfl (.tmp 8) (.tmp 10) 40 rfl (w.heap.size + 1) 3 i0 (.int .i64 0) 1 8 Tryz.underlying40 hinf hz0 hz1 hz2 rfl (by decide) _ _ _ rfl (HO.out.alloc _) ⟨Y.heap.size, 0, none⟩ 1 1 [.int .i64 (f i)] rfl rfl (one_at rfl) (by simp [Value.oneCell']) (by unfold maxLen; omega) (by omega) HBA.out ?_)
    intro v' w3 hown hgrow _ hat
    obtain ⟨p', cap', rfl, b3, b4, ho4, ht4, hb4⟩ := push_fin (B := X.heap.size) H1.out (by omega) (by omega) (by omega) HO.out hown hgrow (by simpa using hat)
    have hfin : toldPost X.heap.size (fun O i Y => ∃ p cap, O = rowB p ∧ Boxed Y w.heap.size 40 (.slice p i cap) ∧ Y.ownsRow (w.heap.size + 1) 3 1 (.slice p i cap) i (cellsF f i) ∧ Below w.heap.size w Y) (fun _ _ _ _ => False) (rowB p) i Y .normal { tmps := #[], defers := [] } (w3.setCell ⟨w.heap.size, 0, none⟩ (.slice p' (i + 1) cap')) :=
      ⟨_, ht4, p', cap', rfl, b4, by rw [cellsF_succ]; exact ho4, H3.out.trans hb4⟩
    have HF := Lib.hid hfin
    have k3 := b3.cell
    have kf3 := b3.frozen
    clear hown hgrow hat hfin b3 b4 ho4 ht4 hb4
    gi_wp2
    exact HF.out
  case done =>
    rintro D O Y hD ⟨p, cap, rfl, h1, h2, h3⟩ hn hlt hK
    have k1 := h1.cell
    have hfin : (Y.putObj D (.deferred none)).ownsRow w.heap.size 3 1 (.slice p N cap) N (cellsF f N) ∧ Below w.heap.size w (Y.putObj D (.deferred none)) :=
      ⟨owns_base (by omega) (owns_block h2 (fun g hg => World.putObj_heap_other (fun e => hn (e ▸ hg)))), h3.trans (below_putObj (by omega) _ _)⟩
    have HF := Lib.hid hfin
    clear hfin h1 h2 h3
    gi_wp2
    refine ⟨by simp, .inl ⟨_, _, rfl, run_takeDeferred hK, ?_⟩⟩
    exact ⟨_, results_tmp rfl _ _ _, p, cap, rfl, HF.out.1, HF.out.2⟩

theorem collect_any (gf : Nat) (lb : Array Value) (N : Nat) (f : Nat → Int) (T : World → Prop) (w : World) (hN : N ≤ 1048576) (eg : ∀ args w, (callFunc gf args).run Tryz.prog w = .ok (.enter gf args) w)
    (hseq : SeqTold Fence.wide 4 Tryz.prog gf lb N (fun i => #[.int .i64 (f i)]) T w) (hT : ∀ W, Below w.heap.size w W → T W) :
    Calls Tryz.prog 320 #[.func (.func gf) #[] lb] w fun e w' => ∃ p cap, e = .returned (.slice p N cap) ∧ w'.ownsRow w.heap.size 3 1 (.slice p N cap) N (cellsF f N) ∧ Below w.heap.size w w' := by
  have HC := Lib.hid (appendSeq_any gf lb N f T w hN eg hseq hT)
  clear hseq hT
  go_enter Tryz.func320, Tryz.ntmps320
  go_wp2_with (go_at_call 330; refine HC.out.mono ?_; rintro e w1 ⟨p, cap, rfl, h1, h2⟩)
  go_ret
  exact ⟨p, cap, rfl, h1, h2⟩

/-- A slot's box, and a number's behind it. -/
theorem two_new {w : World} {q : Option Addr} {b : Int} : ∃ W0, (w.alloc (.cells #[.pointer q] 148)).alloc (.cells #[.int .i64 b] 3) = W0 ∧ Below w.heap.size w W0 ∧ W0.cell? ⟨w.heap.size, 0, none⟩ = some (.pointer q) ∧ W0.cell? ⟨w.heap.size + 1, 0, none⟩ = some (.int .i64 b) ∧ W0.heap.size = w.heap.size + 2 :=
  ⟨_, rfl, ((Below.refl _ _).alloc (Nat.le_refl _) _).alloc (by simp) _, ((Boxed.new w _ _).alloc _).cell, (boxed_new (by simp)).cell, by simp⟩

theorem slots_in {B base cap b N : Nat} {c : Cfg} {ks : List Nat} {p : Option Addr} (w : World) (h : TbIs w B base c ks p cap) (hR : rightB c.b c.wd c.m c.r c.ce c.lg c.st = true) (hb : b < ks.length) (hbb : (b : Int) < c.b) (hN : perI c.wd (kAt ks b) = (N : Int)) (hN1 : 1 ≤ N) (ht : Tabs w) :
    Calls Tryz.prog 290 #[.pointer (some ⟨B, 0, none⟩), .int .i64 b] w fun e w' => ∃ p' cap', e = .returned (.slice p' N cap') ∧ w'.ownsRow w.heap.size 3 1 (.slice p' N cap') N (cellsF (adr c (kAt ks b) b) N) ∧ Below w.heap.size w w' := by
  obtain ⟨W0, hW0, hb0, c0, c1, hs0⟩ := two_new (w := w) (q := some ⟨B, 0, none⟩) (b := (b : Int))
  have hN2 : N ≤ 1048576 := by have := (Class.per_bd c.wd (kAt ks b)).2; omega
  have HC := Lib.hid (collect_any 331 #[.pointer (some ⟨w.heap.size, 0, none⟩), .pointer (some ⟨w.heap.size + 1, 0, none⟩)] N (adr c (kAt ks b) b) SizTab W0 hN2 (enters_of Tryz.func331 (by kernel_rfl) rfl)
    (slots1_told 4 w.heap.size (w.heap.size + 1) B base cap b N c ks p W0 (h.later hb0) hR hb hbb hN hN1 c0 c1 (ht.later hb0)) (fun W hW => ((ht.later hb0).later hW).siz))
  clear h ht hN
  go_enter Tryz.func290, Tryz.ntmps290
  go_wp2_with (first
    | (go_at_call 321; refine (slots_fn _ _ _).mono ?_; rintro e w' ⟨rfl, rfl⟩; rw [hW0])
    | (go_at_call 320; refine HC.out.mono ?_; rintro e w1 ⟨p', cap', rfl, h1, h2⟩))
  go_ret
  exact ⟨p', cap', rfl, owns_base (by omega) h1, hb0.trans (h2.mono (by omega))⟩

end Go.Proofs.YtipifkgmhgkleaaGreatDoor.Blk

namespace Go.Proofs.YtipifkgmhgkleaaGreatDoor.Blk
open Go.RowKit Go.Shelf
open Class (isB isB_true isB_false sizI perI SizTab)
open Go.Proofs.YtipifkgmhgkleaaGreatDoor.Addr (Tabs)
attribute [local go_sem] Oper.semAt_some

/-- How many slots a block of a class has. -/
def perN (c : Cfg) (k : Nat) : Nat := (perI c.wd k).toNat
theorem perN_eq (c : Cfg) (k : Nat) : perI c.wd k = (perN c k : Int) := by have := (Class.per_bd c.wd k).1; unfold perN; omega
theorem perN_le (c : Cfg) (k : Nat) : perN c k ≤ 128 := by have := (Class.per_bd c.wd k).2; have := perN_eq c k; omega
theorem perN_pos {c : Cfg} {k : Nat} (hR : rightB c.b c.wd c.m c.r c.ce c.lg c.st = true) (hk : k < 4) : 1 ≤ perN c k := by
  have hRC : RightC c.b c.wd c.m c.r c.ce c.lg c.st := refRightB_true.1 ((rightB_ref ..).symm.trans hR)
  have hB : isB (k : Int) = true := isB_true.2 ⟨by omega, by omega⟩
  have h := perN_eq c k
  rw [Class.perI_yes hB (Class.wordsB_true.2 ⟨hRC.wd0, hRC.wd1⟩)] at h
  obtain ⟨s0, s1⟩ := Class.sizI_bd hB
  have : 1 ≤ c.wd / sizI k := by rw [Int.le_ediv_iff_mul_le (by omega)]; have := hRC.wd0; omega
  omega

theorem wpIn_scope {n : Nat} {P : Program} {c : Code} {Q : Exit → Act → World → Prop} {a : Act} {w : World} (h : c.wpIn Fence.wide n P (Exit.noGoto Q) a w) : (Code.scope c).wpIn Fence.wide n P Q a w :=
  wpIn_wide.2 (wp_scope_straight (wpIn_wide.1 h))

/-- The addresses of a block's slots. -/
def seg (c : Cfg) (ks : List Nat) (b : Nat) : List Int := (List.range (perN c (kAt ks b))).map (adr c (kAt ks b) b)
theorem seg_length (c : Cfg) (ks : List Nat) (b : Nat) : (seg c ks b).length = perN c (kAt ks b) := by simp [seg]
/-- The addresses of the first blocks' slots. -/
def allP (c : Cfg) (ks : List Nat) (b : Nat) : List Int := (List.range b).flatMap (seg c ks)
theorem allP_succ (c : Cfg) (ks : List Nat) (b : Nat) : allP c ks (b + 1) = allP c ks b ++ seg c ks b := by simp [allP, List.range_succ]
theorem allP_prefix (c : Cfg) (ks : List Nat) {a b : Nat} (h : a ≤ b) : allP c ks a <+: allP c ks b := by
  induction b with
  | zero => rw [show a = 0 from by omega]; exact List.prefix_refl _
  | succ b ih =>
    rcases Nat.lt_or_ge b a with h1 | h1
    · rw [show a = b + 1 from by omega]; exact List.prefix_refl _
    · rw [allP_succ]; exact (ih h1).trans (List.prefix_append _ _)
theorem allP_len (c : Cfg) (ks : List Nat) (b : Nat) : (allP c ks b).length ≤ 128 * b := by
  induction b with
  | zero => simp [allP]
  | succ b ih => rw [allP_succ, List.length_append, seg_length]; have := perN_le c (kAt ks b); omega
/-- What is told at a place. -/
def valA (c : Cfg) (ks : List Nat) (j : Nat) : Int := (allP c ks ks.length).getD j 0
theorem valA_at (c : Cfg) (ks : List Nat) {b i : Nat} (hb : b < ks.length) (hi : i < perN c (kAt ks b)) : valA c ks ((allP c ks b).length + i) = adr c (kAt ks b) b i := by
  obtain ⟨t, ht⟩ := allP_prefix c ks (show b + 1 ≤ ks.length from hb)
  unfold valA
  rw [← ht, allP_succ, List.getD_eq_getElem?_getD, List.append_assoc, List.getElem?_append_right (by omega), Nat.add_sub_cancel_left, List.getElem?_append_left (by rw [seg_length]; exact hi)]
  simp [seg, hi]
theorem offs_lt (c : Cfg) (ks : List Nat) {b i : Nat} (hb : b < ks.length) (hi : i < perN c (kAt ks b)) : (allP c ks b).length + i < (allP c ks ks.length).length := by
  have h := (allP_prefix c ks (show b + 1 ≤ ks.length from hb)).length_le
  rw [allP_succ, List.length_append, seg_length] at h
  omega

/-- A loop that ranges over functions leaves a mark for each: all are taken. -/
abbrev markOf (D : Nat) : Deferred := { target := .collected D, args := #[] }
theorem leaves_marks {F : Fence} {n : Nat} {P : Program} {fn : Func} {tmps : Array Value} {R : Ending → World → Prop} (G : World → Prop) (hG : ∀ w, G w → LeavesInM F n P fn tmps R [] .returning w) :
    ∀ (ds : List Nat) (w : World), ds.Nodup → (∀ D ∈ ds, w.heap[D]? = some (.deferred (some []))) → (∀ w D, D ∈ ds → G w → G (w.putObj D (.deferred none))) → G w → LeavesInM F n P fn tmps R (ds.map markOf) .returning w
  | [], w, _, _, _, h => hG w h
  | D :: ds, w, hnd, hd, hp, h => by
    obtain ⟨h1, h2⟩ := List.nodup_cons.1 hnd
    refine ⟨by simp, .inl ⟨D, w.putObj D (.deferred none), rfl, run_takeDeferred (hd D (by simp)), ?_⟩⟩
    exact leaves_marks G hG ds _ h2 (fun E hE => (World.putObj_heap_other (fun e => h1 (by rw [← e]; exact hE))).trans (hd E (by simp [hE]))) (fun w E hE => hp w E (by simp [hE])) (hp w D (by simp) h)

theorem all_fn (q : Option Addr) (w : World) : Calls Tryz.prog 406 #[.pointer q] w fun e w' => e = .returned (.func (.func 413) #[] #[.pointer (some ⟨w.heap.size, 0, none⟩)]) ∧ w.alloc (.cells #[.pointer q] 148) = w' := by
  go_enter Tryz.func406, Tryz.ntmps406
  go_wp2
  go_ret
  exact ⟨rfl, rfl⟩

/-- Between two rounds of an iterator that ranges over others itself: its box lies as it lay, and all marks. -/
structure Marked (J : (Nat → Prop) → Nat → World → Prop) (S : Nat) (t : TypeId) (v : Value) (j : Nat) (ds : List Nat) (O : Nat → Prop) (wr : World) : Prop where
  inv : J O j wr
  lt : ∀ k, O k → k < wr.heap.size
  box : Boxed wr S t v
  own : ¬ O S
  nodup : ds.Nodup
  behind : ∀ D ∈ ds, S < D
  mark : ∀ D ∈ ds, wr.heap[D]? = some (.deferred (some []))
  free : ∀ D ∈ ds, ¬ O D
theorem Marked.later {J : (Nat → Prop) → Nat → World → Prop} {S j : Nat} {t : TypeId} {v : Value} {ds : List Nat} {O : Nat → Prop} {wr w' : World} (h : Marked J S t v j ds O wr) (hJ : Stab S J) (hb : Below wr.heap.size wr w') : Marked J S t v j ds O w' :=
  ⟨hJ.alloc h.inv h.lt (Nat.le_of_lt h.box.lt) hb, fun k hk => Nat.lt_of_lt_of_le (h.lt k hk) hb.size, Boxed.below h.box hb h.box.lt, h.own, h.nodup, h.behind, fun D hD => (hb.block D (Array.getElem?_eq_some_iff.1 (h.mark D hD)).1).trans (h.mark D hD), h.free⟩
theorem Marked.turn {J J' : (Nat → Prop) → Nat → World → Prop} {S j j' : Nat} {t : TypeId} {v : Value} {ds : List Nat} {O O' : Nat → Prop} {wr w' : World} (h : Marked J S t v j ds O wr) (hj : J' O' j' w') (ht : Turn S O O' wr w') : Marked J' S t v j' ds O' w' :=
  ⟨hj, ht.lt, ht.boxed h.box (Nat.le_refl _) h.own, fun e => (ht.grow _ e).elim h.own (by have := h.box.lt; omega), h.nodup, h.behind,
   fun D hD => (ht.keep D (Nat.le_of_lt (h.behind D hD)) (Array.getElem?_eq_some_iff.1 (h.mark D hD)).1 (h.free D hD)).trans (h.mark D hD),
   fun D hD e => (ht.grow _ e).elim (h.free D hD) (by have := (Array.getElem?_eq_some_iff.1 (h.mark D hD)).1; omega)⟩
theorem Marked.stab {J : (Nat → Prop) → Nat → World → Prop} {S j B : Nat} {t : TypeId} {v : Value} {ds : List Nat} {O : Nat → Prop} {X Y : World} (h : Marked J S t v j ds O X) (hJ : Stab S J) (hS : S < B) (hD : ∀ D ∈ ds, D < B) (hb : Below B X Y) (hk : ∀ k, O k → Y.heap[k]? = X.heap[k]?) : Marked J S t v j ds O Y :=
  ⟨hJ O j X Y h.inv (hb.mono (by omega)) hk, fun k hk' => Nat.lt_of_lt_of_le (h.lt k hk') hb.size, Boxed.below h.box hb hS, h.own, h.nodup, h.behind, fun D hD' => (hb.block D (hD D hD')).trans (h.mark D hD'), h.free⟩
theorem Marked.more {J : (Nat → Prop) → Nat → World → Prop} {S j D : Nat} {t : TypeId} {v : Value} {ds : List Nat} {O : Nat → Prop} {wr : World} (h : Marked J S t v j ds O wr) (hD : ∀ E ∈ ds, E < D) (hS : S < D) (hK : wr.heap[D]? = some (.deferred (some []))) (hn : ¬ O D) : Marked J S t v j (D :: ds) O wr :=
  ⟨h.inv, h.lt, h.box, h.own, List.nodup_cons.2 ⟨fun e => by have := hD D e; omega, h.nodup⟩, fun E hE => (List.mem_cons.1 hE).elim (fun e => e ▸ hS) (h.behind E), fun E hE => (List.mem_cons.1 hE).elim (fun e => e ▸ hK) (h.mark E),
   fun E hE => (List.mem_cons.1 hE).elim (fun e => e ▸ hn) (h.free E)⟩
/-- At the end all marks are taken. -/
theorem Marked.leaves {F : Fence} {n : Nat} {P : Program} {fn : Func} {tmps : Array Value} {R : Ending → World → Prop} {J : (Nat → Prop) → Nat → World → Prop} {S j : Nat} {t : TypeId} {v : Value} {ds : List Nat} {O : Nat → Prop} {wr : World} (h : Marked J S t v j ds O wr) (hJ : Stab S J)
    (hG : ∀ w, J O j w → wr.heap.size ≤ w.heap.size → (∀ k, O k → k < w.heap.size) → LeavesInM F n P fn tmps R [] .returning w) : LeavesInM F n P fn tmps R (ds.map markOf) .returning wr :=
  leaves_marks (fun w => J O j w ∧ wr.heap.size ≤ w.heap.size ∧ ∀ k, O k → k < w.heap.size) (fun w hw => hG w hw.1 hw.2.1 hw.2.2) ds wr h.nodup h.mark
    (fun w D hD hw => ⟨hJ.putObj hw.1 (Nat.le_of_lt (h.behind D hD)) (h.free D hD) _, by simpa using hw.2.1, fun k hk => by simpa using hw.2.2 k hk⟩) ⟨h.inv, Nat.le_refl _, h.lt⟩

/-- The table, at a box. -/
def TbAt (Bt B base cap : Nat) (c : Cfg) (ks : List Nat) (p : Option Addr) (W : World) : Prop := Tabs W ∧ TbIs W B base c ks p cap ∧ W.cell? ⟨Bt, 0, none⟩ = some (.pointer (some ⟨B, 0, none⟩))

set_option maxRecDepth 100000 in
set_option maxHeartbeats 4000000 in
theorem all1_told (m Bt B base cap : Nat) (c : Cfg) (ks : List Nat) (p : Option Addr) (w : World) (hR : rightB c.b c.wd c.m c.r c.ce c.lg c.st = true) (hk : (ks.length : Int) ≤ c.b) :
    SeqTold Fence.wide m Tryz.prog 413 #[.pointer (some ⟨Bt, 0, none⟩)] (allP c ks ks.length).length (fun j => #[.int .i64 (valA c ks j)]) (TbAt Bt B base cap c ks p) w := by
  refine SeqTold.any (n := 6) ?_
  intro l J Jx W hW hJ hJx hT hY h0
  obtain ⟨O0, hj0, hO0⟩ := h0
  obtain ⟨hTab, hTW, cBt⟩ := hT _ _ _ hj0
  have lBt := World.block_lt_of_cell? W _ cBt
  simp only at lBt
  have lB := hTW.ltB
  have cv := hTW.cv
  have hl := hTW.len
  have HJ := Lib.hid hJ
  have HJX := Lib.hid hJx
  have HTT := Lib.hid hT
  have HY := Lib.hid hY
  have HO := Lib.hid hO0
  have HJ0 := Lib.hid hj0
  clear hTW hTab hW hJ hJx hT hY hO0 hj0
  refine callsIn_of_wp_marks Tryz.func413 rfl trivial ?_ rfl
  simp only [Tryz.ntmps413, List.size_toArray, List.length_cons, List.length_nil, Nat.reduceAdd, Nat.reduceSub, Array.replicate_succ, Array.replicate_zero, List.push_toArray, List.append_toArray, List.nil_append, List.cons_append]
  gi_wp2
  refine wpIn_scope ?_
  gi_wp2
  refine wpIn_label ?_
  gi_wp2
  generalize hX : World.alloc _ _ = X
  have bX : Below W.heap.size W X := by rw [← hX]; exact (Below.refl _ _).alloc (Nat.le_refl _) _
  have xY : Boxed X W.heap.size 214 (.func (.yield l) #[] #[]) := by rw [← hX]; exact Boxed.new _ _ _
  have hm0 : Marked J W.heap.size 214 (.func (.yield l) #[] #[]) 0 [] O0 X :=
    ⟨HJ.out.alloc HJ0.out HO.out (Nat.le_refl _) bX, fun k hk => Nat.lt_of_lt_of_le (HO.out k hk) bX.size, xY, fun e => by have := HO.out _ e; omega, List.nodup_nil, by simp, by simp, by simp⟩
  clear hX bX xY
  refine wpIn_loop (fun a wr => ∃ (b : Nat) (ds : List Nat) (O : Nat → Prop) (u3 u4 u13 u14 u15 u16 u17 u18 u19 u20 u21 u22 u23 : Value), a = ({ tmps := #[.func (.yield l) #[] #[], .pointer (some ⟨Bt, 0, none⟩), .pointer (some ⟨W.heap.size, 0, none⟩), u3, u4, .pointer (some ⟨B, 0, none⟩), .bool false, .pointer (some ⟨B, 0, none⟩), .pointer (some ⟨B, 0, none⟩), .pointer (some ⟨B, 7, none⟩), .slice p ks.length cap, .int .i64 ks.length, .int .i64 (b : Int), u13, u14, u15, u16, u17, u18, u19, u20, u21, u22, u23], defers := ds.map markOf } : Act) ∧ b ≤ ks.length ∧ Marked J W.heap.size 214 (.func (.yield l) #[] #[]) (allP c ks b).length ds O wr)
    (fun a _ => ks.length - (intOf (a.tmps.getD 12 undef)).toNat) ⟨0, [], O0, _, _, _, _, _, _, _, _, _, _, _, _, _, rfl, Nat.zero_le _, hm0⟩ ?_
  rintro a wr ⟨b, ds, O, u3, u4, u13, u14, u15, u16, u17, u18, u19, u20, u21, u22, u23, rfl, hb, hm⟩
  have HM := Lib.hid hm
  obtain ⟨hTab, hTb, cBt'⟩ := HTT.out _ _ _ hm.inv
  have kY := hm.box.cell
  have hsW := hm.box.lt
  clear hm hm0
  by_cases hlt : b < ks.length
  · obtain ⟨Z, hZ, bZ, z0, z1, hsZ⟩ := two_new (w := wr) (q := some ⟨B, 0, none⟩) (b := (b : Int))
    gi_wp2_with (refine ⟨trivial, ?_⟩; gi_at_call 321; refine (callsIn_wide.2 (slots_fn _ _ _)).mono ?_; rintro e w'' ⟨rfl, rfl⟩; rw [hZ])
    have hk4 : kAt ks b < 4 := hTb.kLt b
    have hmZ := HM.out.later HJ.out bZ
    have HTS := Lib.hid (slots1_told 5 wr.heap.size (wr.heap.size + 1) B base cap b (perN c (kAt ks b)) c ks p Z (hTb.later bZ) hR hlt (by omega) (perN_eq c _) (perN_pos hR hk4) z0 z1 (hTab.later bZ))
    have HMZ := Lib.hid hmZ
    have hDZ : ∀ D ∈ ds, D < Z.heap.size := fun D hD => by have := (Array.getElem?_eq_some_iff.1 (HM.out.mark D hD)).1; omega
    clear hmZ hZ z0 z1 hTb hTab cBt' kY
    refine wpIn_rangeFunc_told rfl (by decide) (gf := 331) (lb := #[.pointer (some ⟨wr.heap.size, 0, none⟩), .pointer (some ⟨wr.heap.size + 1, 0, none⟩)]) rfl trivial (enters_of Tryz.func331 (by kernel_rfl) rfl)
      HTS.out (Below.refl _ _) (fun _ => rfl)
      (fun O i Y => Marked J W.heap.size 214 (.func (.yield l) #[] #[]) ((allP c ks b).length + i) ds O Y)
      (fun cc O i Y => cc = .exit 0 ∧ Marked Jx W.heap.size 214 (.func (.yield l) #[] #[]) ((allP c ks b).length + i) ds O Y)
      ?hI ?hIx ?hT ?h0
      (fun i => { tmps := #[.func (.yield l) #[] #[], .pointer (some ⟨Bt, 0, none⟩), .pointer (some ⟨W.heap.size, 0, none⟩), .int .i64 (b : Int), .int .i64 (adr c (kAt ks b) b i), .pointer (some ⟨B, 0, none⟩), .bool false, .pointer (some ⟨B, 0, none⟩), .pointer (some ⟨B, 0, none⟩), .pointer (some ⟨B, 7, none⟩), .slice p ks.length cap, .int .i64 ks.length, .int .i64 (b : Int), .bool true, .int .i64 (b : Int), .pointer (some ⟨B, 0, none⟩), .int .i64 (b : Int), .func (.func 331) #[] #[.pointer (some ⟨wr.heap.size, 0, none⟩), .pointer (some ⟨wr.heap.size + 1, 0, none⟩)], .int .i64 (adr c (kAt ks b) b i), u19, u20, u21, u22, u23], defers := [] }) ?assign ?body ?done ?stop
    case hI => exact fun O i X' Y h hb hk => h.stab HJ.out (by omega) hDZ hb hk
    case hIx => exact fun cc O i X' Y h hb hk => ⟨h.1, h.2.stab HJX.out (by omega) hDZ hb hk⟩
    case hT => exact fun O i Y h => (HTT.out _ _ _ h.inv).1.siz
    case h0 => exact ⟨O, HMZ.out, HMZ.out.lt⟩
    case assign =>
      intro l' i Y K hi hK
      gi_wp2
      exact hK
    case body =>
      rintro l' O' i Y _ _ hi h hltY hsY
      have kY := h.box.cell
      have hat := valA_at c ks hlt hi
      obtain ⟨fn, tmps, asg, bdy, hy, hR'⟩ := yieldAt_any (m := 3) (HY.out O' _ Y (offs_lt c ks hlt hi) h.inv h.lt (by omega))
      rw [hat] at hy
      have H := Lib.hid h
      clear h
      gi_wp2
      refine RoundIn.mono (F := Fence.wide.inRound l') hR' ?_
      rintro e Y' ⟨O'', ht, (⟨rfl, hj⟩ | ⟨rfl, hj⟩)⟩
      all_goals
        have HX := Lib.hid (And.intro ht hj)
        clear ht hj hy hR' hat
        gi_wp2
      · exact ⟨O'', HX.out.1.mono (by omega), H.out.turn HX.out.2 HX.out.1⟩
      · exact ⟨O'', HX.out.1.mono (by omega), rfl, H.out.turn HX.out.2 HX.out.1⟩
    case done =>
      rintro D O' Y hD h hn _ hK
      have hm2 := h.more (fun E hE => by have := hDZ E hE; omega) (by omega) hK hn
      have hlen : (allP c ks b).length + perN c (kAt ks b) = (allP c ks (b + 1)).length := by rw [allP_succ, List.length_append, seg_length]
      rw [hlen] at hm2
      have H := Lib.hid hm2
      clear hm2 h hlen
      gi_wp2
      refine ⟨⟨b + 1, D :: ds, O', _, _, _, _, _, _, _, _, _, _, _, _, _, rfl, hlt, H.out⟩, ?_⟩
      simp [intOf]
      omega
    case stop =>
      rintro D cc O' i Y hD hi ⟨rfl, h⟩ hn _ hK
      have hm2 := h.more (fun E hE => by have := hDZ E hE; omega) (by omega) hK hn
      have H := Lib.hid hm2
      have hoff := offs_lt c ks hlt hi
      clear hm2 h
      gi_wp2
      exact H.out.leaves HJX.out (fun w hj hs hlt => ⟨_, results_none rfl _ _ _, ⟨_, rfl⟩, O', hlt, by have := H.out.box.lt; omega, .inr ⟨_, hoff, hj⟩⟩)
  · gi_wp2
    obtain rfl : b = ks.length := by omega
    exact HM.out.leaves HJ.out (fun w hj hs hlt => ⟨_, results_none rfl _ _ _, ⟨_, rfl⟩, O, hlt, by omega, .inl hj⟩)
end Go.Proofs.YtipifkgmhgkleaaGreatDoor.Blk
