/-
  An arena in memory; New, Len, Loads, Stores, of every arena that there is, and of none.
-/
import Derived.Test.YtooojajagkbhiaaDoorRows
import Derived.WalkKit
import Derived.WalkSpells
import Derived.WalkLawsBesides
import Derived.Deep.QuietTactic
import Derived.BigQuiet
import Derived.Deep.RegionHeld3
import Derived.Deep.RegionWith
import Derived.Lib.Hide
namespace Go.Proofs.YtooojajagkbhiaaDoor.Arena
open Go.RowKit

theorem ret_int {k : IntKind} {a b : Int} (h : a = b) : Ending.returned (.int k a) = .returned (.int k b) := by rw [h]
theorem ret_bool {a b : Bool} (h : a = b) : Ending.returned (.bool a) = .returned (.bool b) := by rw [h]
theorem other {W : World} {a b : Addr} {v : Value} (h : a ≠ b) : (W.setCell a v).cell? b = W.cell? b := World.cell?_setCell_other (h := h) ..
theorem same {W : World} {a : Addr} {u v : Value} (h : W.cell? a = some u) : (W.setCell a v).cell? a = some v := World.cell?_setCell_same (h := h) ..
theorem size_setCell (w : World) (p : Addr) (u : Value) : (w.setCell p u).heap.size = w.heap.size := by simp [World.setCell]

/-- A word of a row. -/
def wd (ws : List Nat) (j : Nat) : Nat := ws.getD j 0
theorem wd_set (ws : List Nat) (i v j : Nat) : wd (ws.set i v) j = if i = j ∧ j < ws.length then v else wd ws j := by
  unfold wd
  rw [List.getD_eq_getElem?_getD, List.getD_eq_getElem?_getD, List.getElem?_set]
  by_cases h : i = j
  · subst h
    by_cases h2 : i < ws.length
    · simp [h2]
    · simp [h2]
  · simp [h]

/-- What has at most two blocks turned, and new ones. -/
structure Two (B G : Nat) (w w' : World) : Prop where
  os : w'.os = w.os
  tape : w'.tape = w.tape
  output : w'.output = w.output
  size : w.heap.size ≤ w'.heap.size
  block : ∀ k, k < w.heap.size → k ≠ B → k ≠ G → w'.heap[k]? = w.heap[k]?
theorem Two.refl (B G : Nat) (w : World) : Two B G w w := ⟨rfl, rfl, rfl, Nat.le_refl _, fun _ _ _ _ => rfl⟩
theorem Two.trans {B G : Nat} {a b c : World} (h : Two B G a b) (k : Two B G b c) : Two B G a c :=
  ⟨k.os.trans h.os, k.tape.trans h.tape, k.output.trans h.output, Nat.le_trans h.size k.size, fun i hi h1 h2 => (k.block i (Nat.lt_of_lt_of_le hi h.size) h1 h2).trans (h.block i hi h1 h2)⟩
theorem Two.of_below {B G : Nat} {a b : World} (h : Below a.heap.size a b) : Two B G a b := ⟨h.os, h.tape, h.output, h.size, fun i hi _ _ => h.block i hi⟩
theorem Two.below {B G N : Nat} {a b : World} (h : Two B G a b) (hB : N ≤ B) (hG : N ≤ G) (hN : N ≤ a.heap.size) : Below N a b :=
  ⟨h.os, h.tape, h.output, h.size, fun i hi => h.block i (by omega) (by omega) (by omega)⟩
theorem Two.alloc {B G : Nat} {a b : World} (h : Two B G a b) (o) : Two B G a (b.alloc o) :=
  h.trans (Two.of_below ((Below.refl _ b).alloc (Nat.le_refl _) o))
theorem Two.drewN {B G : Nat} {a b : World} (h : Two B G a b) (n : Nat) : Two B G a (b.drewN n) := ⟨h.os, h.tape, h.output, h.size, h.block⟩
theorem Two.set {B G : Nat} {a b : World} (h : Two B G a b) {p : Addr} (hp : p.block = B ∨ p.block = G ∨ a.heap.size ≤ p.block) (u : Value) : Two B G a (b.setCell p u) :=
  ⟨h.os, h.tape, h.output, by simpa [World.setCell] using h.size, fun i hi h1 h2 => (Below.heap_setCell b p u i (by
    rintro rfl
    rcases hp with hp | hp | hp
    · exact h1 hp
    · exact h2 hp
    · omega)).trans (h.block i hi h1 h2)⟩
theorem Two.cell {B G : Nat} {a b : World} (h : Two B G a b) {p : Addr} (hl : p.block < a.heap.size) (h1 : p.block ≠ B) (h2 : p.block ≠ G) : b.cell? p = a.cell? p := by
  have := h.block p.block hl h1 h2
  unfold World.cell?
  rw [this]
theorem Two.frozen {B G : Nat} {a b : World} (h : Two B G a b) {p : Addr} (hl : p.block < a.heap.size) (h1 : p.block ≠ B) (h2 : p.block ≠ G) : b.frozen? p = a.frozen? p := by
  have := h.block p.block hl h1 h2
  unfold World.frozen?
  rw [this]

/-- An arena in memory: its words, its counts. -/
structure ArIs (w : World) (B G cap : Nat) (ws : List Nat) (ld st : Nat) : Prop where
  small : ws.length ≤ 1048576
  capn : ws.length ≤ cap
  ne : B ≠ G
  cw : w.cell? ⟨B, 0, none⟩ = some (.slice (some ⟨G, 0, none⟩) ws.length cap)
  cl : w.cell? ⟨B, 1, none⟩ = some (.int .i64 ld)
  cs : w.cell? ⟨B, 2, none⟩ = some (.int .i64 st)
  f1 : w.frozen? ⟨B, 1, none⟩ = false
  f2 : w.frozen? ⟨B, 2, none⟩ = false
  at_ : ∀ j, j < ws.length → w.cell? ⟨G, j, none⟩ = some (.int .u64 (wd ws j))
  fz : ∀ j, j < ws.length → w.frozen? ⟨G, j, none⟩ = false
theorem ArIs.below {N : Nat} {w w' : World} {B G cap : Nat} {ws : List Nat} {ld st : Nat} (h : ArIs w B G cap ws ld st) (hb : Below N w w') (hB : B < N) (hG : G < N) : ArIs w' B G cap ws ld st :=
  ⟨h.small, h.capn, h.ne, (hb.cell (p := ⟨B, 0, none⟩) hB).trans h.cw, (hb.cell (p := ⟨B, 1, none⟩) hB).trans h.cl, (hb.cell (p := ⟨B, 2, none⟩) hB).trans h.cs, (hb.frozen (p := ⟨B, 1, none⟩) hB).trans h.f1, (hb.frozen (p := ⟨B, 2, none⟩) hB).trans h.f2,
    fun j hj => (hb.cell (p := ⟨G, j, none⟩) hG).trans (h.at_ j hj), fun j hj => (hb.frozen (p := ⟨G, j, none⟩) hG).trans (h.fz j hj)⟩
theorem ArIs.drewN {w : World} {B G cap : Nat} {ws : List Nat} {ld st : Nat} (h : ArIs w B G cap ws ld st) (n : Nat) : ArIs (w.drewN n) B G cap ws ld st :=
  ⟨h.small, h.capn, h.ne, h.cw, h.cl, h.cs, h.f1, h.f2, h.at_, h.fz⟩
theorem ArIs.ltB {w : World} {B G cap : Nat} {ws : List Nat} {ld st : Nat} (h : ArIs w B G cap ws ld st) : B < w.heap.size := World.block_lt_of_cell? w _ h.cw
/-- One word laid, and counted. -/
theorem ArIs.put {w : World} {B G cap : Nat} {ws : List Nat} {ld st : Nat} (h : ArIs w B G cap ws ld st) {k : Nat} (hk : k < ws.length) (v : Nat) :
    ArIs ((w.setCell ⟨G, k, none⟩ (.int .u64 v)).setCell ⟨B, 2, none⟩ (.int .i64 (st + 1 : Nat))) B G cap (ws.set k v) ld (st + 1) := by
  have hl : (ws.set k v).length = ws.length := by simp
  have hne := h.ne
  refine ⟨by rw [hl]; exact h.small, by rw [hl]; exact h.capn, hne, ?_, ?_, ?_, ?_, ?_, fun j hj => ?_, fun j hj => ?_⟩
  · rw [other (by simp), other (by first | (simp; done) | (simp; omega)), hl]; exact h.cw
  · rw [other (by simp), other (by first | (simp; done) | (simp; omega))]; exact h.cl
  · exact same (by rw [other (by first | (simp; done) | (simp; omega))]; exact h.cs)
  · rw [World.frozen?_setCell, World.frozen?_setCell]; exact h.f1
  · rw [World.frozen?_setCell, World.frozen?_setCell]; exact h.f2
  · rw [hl] at hj
    rw [other (by first | (simp; done) | (simp; omega)), wd_set]
    by_cases e : k = j
    · subst e
      rw [if_pos ⟨rfl, hj⟩]
      exact same (h.at_ _ hj)
    · rw [if_neg (fun x => e x.1), other (by first | (simp; done) | (simp; omega))]
      exact h.at_ j hj
  · rw [hl] at hj
    rw [World.frozen?_setCell, World.frozen?_setCell]
    exact h.fz j hj
/-- One load counted. -/
theorem ArIs.got {w : World} {B G cap : Nat} {ws : List Nat} {ld st : Nat} (h : ArIs w B G cap ws ld st) :
    ArIs (w.setCell ⟨B, 1, none⟩ (.int .i64 (ld + 1 : Nat))) B G cap ws (ld + 1) st := by
  have hne := h.ne
  refine ⟨h.small, h.capn, hne, ?_, ?_, ?_, ?_, ?_, fun j hj => ?_, fun j hj => ?_⟩
  · rw [other (by simp)]; exact h.cw
  · exact same h.cl
  · rw [other (by simp)]; exact h.cs
  · rw [World.frozen?_setCell]; exact h.f1
  · rw [World.frozen?_setCell]; exact h.f2
  · rw [other (by first | (simp; done) | (simp; omega))]; exact h.at_ j hj
  · rw [World.frozen?_setCell]; exact h.fz j hj

set_option maxHeartbeats 400000 in
theorem len_nil (w : World) : Calls Tryd.prog 45 #[.pointer none] w fun e w' => e = .returned (.int .i64 0) ∧ w = w' := by
  go_enter Tryd.func45, Tryd.ntmps45
  go_wp2
  go_ret
  exact ⟨rfl, rfl⟩
theorem len_any {B G cap ld st : Nat} {ws : List Nat} (w : World) (h : ArIs w B G cap ws ld st) : Calls Tryd.prog 45 #[.pointer (some ⟨B, 0, none⟩)] w fun e w' => e = .returned (.int .i64 ws.length) ∧ w = w' := by
  have hc := h.cw
  clear h
  go_enter Tryd.func45, Tryd.ntmps45
  go_wp2
  go_ret
  exact ⟨rfl, rfl⟩

theorem new_bad (n : Int) (w : World) (h : n < 1 ∨ 1048576 < n) : Calls Tryd.prog 21 #[.int .i64 n] w fun e w' => e = .returned (.tuple #[.pointer none, .int .i64 4]) ∧ w = w' := by
  rcases h with h | h
  · go_enter Tryd.func21, Tryd.ntmps21
    go_wp2
    go_ret2
    exact ⟨rfl, rfl⟩
  · have h1 : ¬ n < 1 := by omega
    go_enter Tryd.func21, Tryd.ntmps21
    go_wp2
    go_ret2
    exact ⟨rfl, rfl⟩

theorem info64 : (Tryd.prog.info? 49).map (fun i => (i.zero, i.size, i.bytes)) = some (some (.int .u64 0), 1, 8) := by kernel_rfl
/-- A new row of words, all 0. -/
def zeroCells (nw : Nat) : Array Value := madeCells #[.int .u64 0] nw
theorem zeroCells_at (nw j : Nat) (h : j < nw) : (zeroCells nw)[j]? = some (.int .u64 0) := by
  unfold zeroCells
  have := toList_madeCells_one (.int .u64 0) nw
  rw [← Array.getElem?_toList, this, List.getElem?_replicate]
  simp [h]
theorem make_words (nw : Nat) (h : nw ≤ 1048576) (W : World) :
    (Instr.makeSlice 88 (.int .i64 (nw : Int)) (.int .i64 (nw : Int))).run Tryd.prog W = .ok (.slice (some ⟨W.heap.size, 0, none⟩) nw nw) (W.alloc (.cells (zeroCells nw) 49)) := by
  obtain ⟨i, hi, hz, hs, hb⟩ : ∃ i, Tryd.prog.info? 49 = some i ∧ i.zero = some (.int .u64 0) ∧ i.size = 1 ∧ i.bytes = 8 := by
    have := info64
    cases h : Tryd.prog.info? 49 with
    | none => rw [h] at this; cases this
    | some i =>
      rw [h] at this
      simp only [Option.map_some, Option.some.injEq, Prod.mk.injEq] at this
      exact ⟨i, rfl, this.1, this.2.1, this.2.2⟩
  have hr := run_make (P := Tryd.prog) W 88 49 i (.int .u64 0) Tryd.underlying88 hi hz .i64 .i64 nw nw (by omega) (by omega) (by rw [hb]; omega) (by omega)
  simp only [Int.toNat_natCast, hs, Nat.mul_one] at hr
  exact hr

theorem wd_zero (n j : Nat) : wd (List.replicate n 0) j = 0 := by
  simp [wd, List.getD_eq_getElem?_getD, List.getElem?_replicate]; split <;> rfl

set_option maxHeartbeats 1000000 in
theorem new_good (n : Nat) (w : World) (h : 1 ≤ n) (h2 : n ≤ 1048576) : Calls Tryd.prog 21 #[.int .i64 n] w fun e w' => ∃ B G, e = .returned (.tuple #[.pointer (some ⟨B, 0, none⟩), .int .i64 0]) ∧
    ArIs w' B G n (List.replicate n 0) 0 0 ∧ w.heap.size ≤ B ∧ w.heap.size ≤ G ∧ B < w'.heap.size ∧ G < w'.heap.size ∧ Below w.heap.size w w' := by
  have hmk := make_words n h2
  have hat := zeroCells_at n
  have HF : ∀ W : World, W = (w.alloc (.cells (zeroCells n) 49)).alloc (.cells #[.slice (some ⟨w.heap.size, 0, none⟩) n n, .int .i64 0, .int .i64 0] 90) →
      ArIs W (w.heap.size + 1) w.heap.size n (List.replicate n 0) 0 0 := fun W hW => by
    subst hW
    refine ⟨by simpa using h2, by simp, by omega, by simp, by simp, by simp, by simp, by simp, fun j hj => ?_, fun j hj => by simp⟩
    have hj' : j < n := by simpa using hj
    rw [wd_zero]
    simp [hat j hj']
  have HF' := Lib.hid HF
  clear hat HF
  have h3 : ¬ (n : Int) < 1 := by omega
  have h4 : ¬ (1048576 < (n : Int)) := by omega
  go_enter Tryd.func21, Tryd.ntmps21
  go_wp2
  go_ret2
  exact ⟨w.heap.size + 1, rfl, w.heap.size, HF'.out _ rfl, by omega, by omega, by simp, by simp; omega, ((Below.refl _ _).alloc (Nat.le_refl _) _).alloc (by simp) _⟩
end Go.Proofs.YtooojajagkbhiaaDoor.Arena
