/-
  Base texts, one behind the other: ArA ArB.
-/
import Derived.Test.YtipifkgmhgkleaaGreatDoorRows
import Derived.WalkKit
import Derived.WalkSpells
import Derived.WalkLawsBesides
import Derived.Deep.QuietTactic
import Derived.BigQuiet
import Derived.Deep.RegionHeld3
import Derived.Deep.RegionWith
import Derived.Lib.Hide
namespace Go.Proofs.YtipifkgmhgkleaaGreatDoor.Arena
open Go.RowKit

theorem ret_int {k : IntKind} {a b : Int} (h : a = b) : Ending.returned (.int k a) = .returned (.int k b) := by rw [h]
theorem ret_bool {a b : Bool} (h : a = b) : Ending.returned (.bool a) = .returned (.bool b) := by rw [h]
theorem other {W : World} {a b : Addr} {v : Value} (h : a ≠ b) : (W.setCell a v).cell? b = W.cell? b := World.cell?_setCell_other (h := h) ..
theorem same {W : World} {a : Addr} {u v : Value} (h : W.cell? a = some u) : (W.setCell a v).cell? a = some v := World.cell?_setCell_same (h := h) ..
theorem size_setCell (w : World) (p : Addr) (u : Value) : (w.setCell p u).heap.size = w.heap.size := by simp [World.setCell]

/-- A word of a row. -/
def wd (ws : List Nat) (j : Nat) : Nat := ws.getD j 0
theorem wd_set (ws : List Nat) (i v j : Nat) : wd (ws.set i v) j = if i = j ∧ j < ws.length then v else wd ws j := by
  unfold wd
  rw [List.getD_eq_getElem?_getD, List.getD_eq_getElem?_getD, List.getElem?_set]
  by_cases h : i = j
  · subst h
    by_cases h2 : i < ws.length
    · simp [h2]
    · simp [h2]
  · simp [h]

/-- What has at most two blocks turned, and new ones. -/
structure Two (B G : Nat) (w w' : World) : Prop where
  os : w'.os = w.os
  tape : w'.tape = w.tape
  output : w'.output = w.output
  size : w.heap.size ≤ w'.heap.size
  block : ∀ k, k < w.heap.size → k ≠ B → k ≠ G → w'.heap[k]? = w.heap[k]?
theorem Two.refl (B G : Nat) (w : World) : Two B G w w := ⟨rfl, rfl, rfl, Nat.le_refl _, fun _ _ _ _ => rfl⟩
theorem Two.trans {B G : Nat} {a b c : World} (h : Two B G a b) (k : Two B G b c) : Two B G a c :=
  ⟨k.os.trans h.os, k.tape.trans h.tape, k.output.trans h.output, Nat.le_trans h.size k.size, fun i hi h1 h2 => (k.block i (Nat.lt_of_lt_of_le hi h.size) h1 h2).trans (h.block i hi h1 h2)⟩
theorem Two.of_below {B G : Nat} {a b : World} (h : Below a.heap.size a b) : Two B G a b := ⟨h.os, h.tape, h.output, h.size, fun i hi _ _ => h.block i hi⟩
theorem Two.below {B G N : Nat} {a b : World} (h : Two B G a b) (hB : N ≤ B) (hG : N ≤ G) (hN : N ≤ a.heap.size) : Below N a b :=
  ⟨h.os, h.tape, h.output, h.size, fun i hi => h.block i (by omega) (by omega) (by omega)⟩
theorem Two.alloc {B G : Nat} {a b : World} (h : Two B G a b) (o) : Two B G a (b.alloc o) :=
  h.trans (Two.of_below ((Below.refl _ b).alloc (Nat.le_refl _) o))
theorem Two.drewN {B G : Nat} {a b : World} (h : Two B G a b) (n : Nat) : Two B G a (b.drewN n) := ⟨h.os, h.tape, h.output, h.size, h.block⟩
theorem Two.set {B G : Nat} {a b : World} (h : Two B G a b) {p : Addr} (hp : p.block = B ∨ p.block = G ∨ a.heap.size ≤ p.block) (u : Value) : Two B G a (b.setCell p u) :=
  ⟨h.os, h.tape, h.output, by simpa [World.setCell] using h.size, fun i hi h1 h2 => (Below.heap_setCell b p u i (by
    rintro rfl
    rcases hp with hp | hp | hp
    · exact h1 hp
    · exact h2 hp
    · omega)).trans (h.block i hi h1 h2)⟩
theorem Two.cell {B G : Nat} {a b : World} (h : Two B G a b) {p : Addr} (hl : p.block < a.heap.size) (h1 : p.block ≠ B) (h2 : p.block ≠ G) : b.cell? p = a.cell? p := by
  have := h.block p.block hl h1 h2
  unfold World.cell?
  rw [this]
theorem Two.frozen {B G : Nat} {a b : World} (h : Two B G a b) {p : Addr} (hl : p.block < a.heap.size) (h1 : p.block ≠ B) (h2 : p.block ≠ G) : b.frozen? p = a.frozen? p := by
  have := h.block p.block hl h1 h2
  unfold World.frozen?
  rw [this]

/-- An arena in memory: its words, its counts. -/
structure ArIs (w : World) (B G cap : Nat) (ws : List Nat) (ld st : Nat) : Prop where
  small : ws.length ≤ 1048576
  capn : ws.length ≤ cap
  ne : B ≠ G
  cw : w.cell? ⟨B, 0, none⟩ = some (.slice (some ⟨G, 0, none⟩) ws.length cap)
  cl : w.cell? ⟨B, 1, none⟩ = some (.int .i64 ld)
  cs : w.cell? ⟨B, 2, none⟩ = some (.int .i64 st)
  f1 : w.frozen? ⟨B, 1, none⟩ = false
  f2 : w.frozen? ⟨B, 2, none⟩ = false
  at_ : ∀ j, j < ws.length → w.cell? ⟨G, j, none⟩ = some (.int .u64 (wd ws j))
  fz : ∀ j, j < ws.length → w.frozen? ⟨G, j, none⟩ = false
theorem ArIs.below {N : Nat} {w w' : World} {B G cap : Nat} {ws : List Nat} {ld st : Nat} (h : ArIs w B G cap ws ld st) (hb : Below N w w') (hB : B < N) (hG : G < N) : ArIs w' B G cap ws ld st :=
  ⟨h.small, h.capn, h.ne, (hb.cell (p := ⟨B, 0, none⟩) hB).trans h.cw, (hb.cell (p := ⟨B, 1, none⟩) hB).trans h.cl, (hb.cell (p := ⟨B, 2, none⟩) hB).trans h.cs, (hb.frozen (p := ⟨B, 1, none⟩) hB).trans h.f1, (hb.frozen (p := ⟨B, 2, none⟩) hB).trans h.f2,
    fun j hj => (hb.cell (p := ⟨G, j, none⟩) hG).trans (h.at_ j hj), fun j hj => (hb.frozen (p := ⟨G, j, none⟩) hG).trans (h.fz j hj)⟩
theorem ArIs.drewN {w : World} {B G cap : Nat} {ws : List Nat} {ld st : Nat} (h : ArIs w B G cap ws ld st) (n : Nat) : ArIs (w.drewN n) B G cap ws ld st :=
  ⟨h.small, h.capn, h.ne, h.cw, h.cl, h.cs, h.f1, h.f2, h.at_, h.fz⟩
theorem ArIs.ltB {w : World} {B G cap : Nat} {ws : List Nat} {ld st : Nat} (h : ArIs w B G cap ws ld st) : B < w.heap.size := World.block_lt_of_cell? w _ h.cw
/-- One word laid, and counted. -/
theorem ArIs.put {w : World} {B G cap : Nat} {ws : List Nat} {ld st : Nat} (h : ArIs w B G cap ws ld st) {k : Nat} (_hk : k < ws.length) (v : Nat) :
    ArIs ((w.setCell ⟨G, k, none⟩ (.int .u64 v)).setCell ⟨B, 2, none⟩ (.int .i64 (st + 1 : Nat))) B G cap (ws.set k v) ld (st + 1) := by
  have hl : (ws.set k v).length = ws.length := by simp
  have hne := h.ne
  refine ⟨by rw [hl]; exact h.small, by rw [hl]; exact h.capn, hne, ?_, ?_, ?_, ?_, ?_, fun j hj => ?_, fun j hj => ?_⟩
  · rw [other (by simp), other (by first | (simp; done) | (simp; omega)), hl]; exact h.cw
  · rw [other (by simp), other (by first | (simp; done) | (simp; omega))]; exact h.cl
  · exact same (by rw [other (by first | (simp; done) | (simp; omega))]; exact h.cs)
  · rw [World.frozen?_setCell, World.frozen?_setCell]; exact h.f1
  · rw [World.frozen?_setCell, World.frozen?_setCell]; exact h.f2
  · rw [hl] at hj
    rw [other (by first | (simp; done) | (simp; omega)), wd_set]
    by_cases e : k = j
    · subst e
      rw [if_pos ⟨rfl, hj⟩]
      exact same (h.at_ _ hj)
    · rw [if_neg (fun x => e x.1), other (by first | (simp; done) | (simp; omega))]
      exact h.at_ j hj
  · rw [hl] at hj
    rw [World.frozen?_setCell, World.frozen?_setCell]
    exact h.fz j hj
/-- One load counted. -/
theorem ArIs.got {w : World} {B G cap : Nat} {ws : List Nat} {ld st : Nat} (h : ArIs w B G cap ws ld st) :
    ArIs (w.setCell ⟨B, 1, none⟩ (.int .i64 (ld + 1 : Nat))) B G cap ws (ld + 1) st := by
  have hne := h.ne
  refine ⟨h.small, h.capn, hne, ?_, ?_, ?_, ?_, ?_, fun j hj => ?_, fun j hj => ?_⟩
  · rw [other (by simp)]; exact h.cw
  · exact same h.cl
  · rw [other (by simp)]; exact h.cs
  · rw [World.frozen?_setCell]; exact h.f1
  · rw [World.frozen?_setCell]; exact h.f2
  · rw [other (by first | (simp; done) | (simp; omega))]; exact h.at_ j hj
  · rw [World.frozen?_setCell]; exact h.fz j hj

theorem len_any {B G cap ld st : Nat} {ws : List Nat} (w : World) (h : ArIs w B G cap ws ld st) : Calls Tryz.prog 107 #[.pointer (some ⟨B, 0, none⟩)] w fun e w' => e = .returned (.int .i64 ws.length) ∧ w = w' := by
  have hc := h.cw
  clear h
  go_enter Tryz.func107, Tryz.ntmps107
  go_wp2
  go_ret
  exact ⟨rfl, rfl⟩

theorem new_bad (n : Int) (w : World) (h : n < 1 ∨ 1048576 < n) : Calls Tryz.prog 78 #[.int .i64 n] w fun e w' => e = .returned (.tuple #[.pointer none, .int .i64 4]) ∧ w = w' := by
  rcases h with h | h
  · go_enter Tryz.func78, Tryz.ntmps78
    go_wp2
    go_ret2
    exact ⟨rfl, rfl⟩
  · have h1 : ¬ n < 1 := by omega
    go_enter Tryz.func78, Tryz.ntmps78
    go_wp2
    go_ret2
    exact ⟨rfl, rfl⟩

theorem info64 : (Tryz.prog.info? 201).map (fun i => (i.zero, i.size, i.bytes)) = some (some (.int .u64 0), 1, 8) := by kernel_rfl
/-- A new row of words, all 0. -/
def zeroCells (nw : Nat) : Array Value := madeCells #[.int .u64 0] nw
theorem zeroCells_at (nw j : Nat) (h : j < nw) : (zeroCells nw)[j]? = some (.int .u64 0) := by
  unfold zeroCells
  have := toList_madeCells_one (.int .u64 0) nw
  rw [← Array.getElem?_toList, this, List.getElem?_replicate]
  simp [h]
theorem make_words (nw : Nat) (h : nw ≤ 1048576) (W : World) :
    (Instr.makeSlice 205 (.int .i64 (nw : Int)) (.int .i64 (nw : Int))).run Tryz.prog W = .ok (.slice (some ⟨W.heap.size, 0, none⟩) nw nw) (W.alloc (.cells (zeroCells nw) 201)) := by
  obtain ⟨i, hi, hz, hs, hb⟩ : ∃ i, Tryz.prog.info? 201 = some i ∧ i.zero = some (.int .u64 0) ∧ i.size = 1 ∧ i.bytes = 8 := by
    have := info64
    cases h : Tryz.prog.info? 201 with
    | none => rw [h] at this; cases this
    | some i =>
      rw [h] at this
      simp only [Option.map_some, Option.some.injEq, Prod.mk.injEq] at this
      exact ⟨i, rfl, this.1, this.2.1, this.2.2⟩
  have hr := run_make (P := Tryz.prog) W 205 201 i (.int .u64 0) Tryz.underlying205 hi hz .i64 .i64 nw nw (by omega) (by omega) (by rw [hb]; omega) (by omega)
  simp only [Int.toNat_natCast, hs, Nat.mul_one] at hr
  exact hr

theorem wd_zero (n j : Nat) : wd (List.replicate n 0) j = 0 := by
  simp [wd, List.getD_eq_getElem?_getD, List.getElem?_replicate]; split <;> rfl

set_option maxHeartbeats 1000000 in
theorem new_good (n : Nat) (w : World) (h : 1 ≤ n) (h2 : n ≤ 1048576) : Calls Tryz.prog 78 #[.int .i64 n] w fun e w' => ∃ B G, e = .returned (.tuple #[.pointer (some ⟨B, 0, none⟩), .int .i64 0]) ∧
    ArIs w' B G n (List.replicate n 0) 0 0 ∧ w.heap.size ≤ B ∧ w.heap.size ≤ G ∧ B < w'.heap.size ∧ G < w'.heap.size ∧ Below w.heap.size w w' := by
  have hmk := make_words n h2
  have hat := zeroCells_at n
  have HF : ∀ W : World, W = (w.alloc (.cells (zeroCells n) 201)).alloc (.cells #[.slice (some ⟨w.heap.size, 0, none⟩) n n, .int .i64 0, .int .i64 0] 207) →
      ArIs W (w.heap.size + 1) w.heap.size n (List.replicate n 0) 0 0 := fun W hW => by
    subst hW
    refine ⟨by simpa using h2, by simp, by omega, by simp, by simp, by simp, by simp, by simp, fun j hj => ?_, fun j hj => by simp⟩
    have hj' : j < n := by simpa using hj
    rw [wd_zero]
    simp [hat j hj']
  have HF' := Lib.hid HF
  clear hat HF
  have h3 : ¬ (n : Int) < 1 := by omega
  have h4 : ¬ (1048576 < (n : Int)) := by omega
  go_enter Tryz.func78, Tryz.ntmps78
  go_wp2
  go_ret2
  exact ⟨w.heap.size + 1, rfl, w.heap.size, HF'.out _ rfl, by omega, by omega, by simp, by simp; omega, ((Below.refl _ _).alloc (Nat.le_refl _) _).alloc (by simp) _⟩
end Go.Proofs.YtipifkgmhgkleaaGreatDoor.Arena

namespace Go.Proofs.YtipifkgmhgkleaaGreatDoor.Arena
open Go.RowKit

/-- Which error a load or a store tells. -/
def codeN (n : Nat) (a : Int) : Int := if a = 0 then 6 else if a < 0 ∨ (n : Int) < a then 4 else 0
theorem codeN_zero {n : Nat} {a : Int} (h : codeN n a = 0) : 1 ≤ a ∧ a ≤ n := by
  unfold codeN at h
  split at h
  · omega
  · split at h <;> omega

/-- What is done with a word that is stored. -/
theorem store1_any {B G cap ld st : Nat} {ws : List Nat} (w : World) (h : ArIs w B G cap ws ld st) (hst : st < 1000000) {k : Nat} (hk : k < ws.length) (x : Nat) {p q : Nat}
    (hp : w.cell? ⟨p, 0, none⟩ = some (.int .u64 x)) (hq : w.cell? ⟨q, 0, none⟩ = some (.pointer (some ⟨B, 0, none⟩))) (hqG : q ≠ G) :
    Calls Tryz.prog 302 #[.pointer (some ⟨G, k, none⟩), .pointer (some ⟨p, 0, none⟩), .pointer (some ⟨q, 0, none⟩)] w fun e w' => e = .returned (.tuple #[]) ∧ w' = (w.setCell ⟨G, k, none⟩ (.int .u64 x)).setCell ⟨B, 2, none⟩ (.int .i64 (st + 1 : Nat)) := by
  have hne := h.ne
  have hat := h.at_ k hk
  have hfz := h.fz k hk
  have hcs := h.cs
  have hf2 := h.f2
  have hnq : (⟨G, k, none⟩ : Addr) ≠ ⟨q, 0, none⟩ := by first | (simp; done) | (simp; omega)
  have hnB : (⟨G, k, none⟩ : Addr) ≠ ⟨B, 2, none⟩ := by first | (simp; done) | (simp; omega)
  clear h
  go_enter Tryz.func302, Tryz.ntmps302
  go_wp2
  exact bodyPost_end (results_none rfl _ _ _) rfl ⟨rfl, rfl⟩
/-- What is done with a word that is loaded. -/
theorem load1_any {B G cap ld st : Nat} {ws : List Nat} (w : World) (h : ArIs w B G cap ws ld st) (hld : ld < 1000000) {k : Nat} (hk : k < ws.length) {p q : Nat} {u : Value}
    (hp : w.cell? ⟨p, 0, none⟩ = some u) (hpf : w.frozen? ⟨p, 0, none⟩ = false) (hq : w.cell? ⟨q, 0, none⟩ = some (.pointer (some ⟨B, 0, none⟩))) (hpq : p ≠ q) (hpB : p ≠ B) :
    Calls Tryz.prog 301 #[.pointer (some ⟨G, k, none⟩), .pointer (some ⟨p, 0, none⟩), .pointer (some ⟨q, 0, none⟩)] w fun e w' => e = .returned (.tuple #[]) ∧ w' = (w.setCell ⟨p, 0, none⟩ (.int .u64 (wd ws k))).setCell ⟨B, 1, none⟩ (.int .i64 (ld + 1 : Nat)) := by
  have hne := h.ne
  have hat := h.at_ k hk
  have hcl := h.cl
  have hf1 := h.f1
  have hnq : (⟨p, 0, none⟩ : Addr) ≠ ⟨q, 0, none⟩ := by first | (simp; done) | (simp; omega)
  have hnB : (⟨p, 0, none⟩ : Addr) ≠ ⟨B, 1, none⟩ := by first | (simp; done) | (simp; omega)
  clear h
  go_enter Tryz.func301, Tryz.ntmps301
  go_wp2
  exact bodyPost_end (results_none rfl _ _ _) rfl ⟨rfl, rfl⟩

/-- A store that is refused. -/
theorem store_bad {B G cap ld st : Nat} {ws : List Nat} (w : World) (h : ArIs w B G cap ws ld st) (a x : Int) (ha : codeN ws.length a ≠ 0) :
    Calls Tryz.prog 263 #[.pointer (some ⟨B, 0, none⟩), .int .i64 a, .int .u64 x] w fun e w' => e = .returned (.int .i64 (codeN ws.length a)) ∧ Below w.heap.size w w' := by
  have hc := h.cw
  have hlB := h.ltB
  have hnB1 : B ≠ w.heap.size := by omega
  have hnB2 : B ≠ w.heap.size + 1 := by omega
  clear h
  unfold codeN at ha ⊢
  by_cases h0 : a = 0
  · subst h0
    go_enter Tryz.func263, Tryz.ntmps263
    go_wp2_with (go_enter Tryz.func300, Tryz.ntmps300)
    go_ret
    exact ⟨rfl, ((Below.refl _ _).alloc (Nat.le_refl _) _).alloc (by simp) _⟩
  · rw [if_neg h0] at ha ⊢
    by_cases h1 : a < 0
    · rw [if_pos (Or.inl h1)]
      go_enter Tryz.func263, Tryz.ntmps263
      go_wp2_with (go_enter Tryz.func300, Tryz.ntmps300)
      go_ret
      exact ⟨rfl, ((Below.refl _ _).alloc (Nat.le_refl _) _).alloc (by simp) _⟩
    · have h2 : (ws.length : Int) < a := by
        by_cases h2 : (ws.length : Int) < a
        · exact h2
        · exact absurd (if_neg (by omega)) ha
      rw [if_pos (Or.inr h2)]
      clear ha
      go_enter Tryz.func263, Tryz.ntmps263
      go_wp2_with (go_enter Tryz.func300, Tryz.ntmps300)
      go_ret
      exact ⟨rfl, ((Below.refl _ _).alloc (Nat.le_refl _) _).alloc (by simp) _⟩

set_option maxRecDepth 100000 in
set_option maxHeartbeats 1000000 in
/-- A store. -/
theorem store_good {B G cap ld st : Nat} {ws : List Nat} (w : World) (h : ArIs w B G cap ws ld st) (hG : G < w.heap.size) (hst : st < 1000000) (k : Nat) (hk : k < ws.length) (x : Nat) :
    Calls Tryz.prog 263 #[.pointer (some ⟨B, 0, none⟩), .int .i64 (k + 1 : Nat), .int .u64 x] w fun e w' => e = .returned (.int .i64 0) ∧ ArIs w' B G cap (ws.set k x) ld (st + 1) ∧ Two B G w w' := by
  have hc := h.cw
  have hcap := h.capn
  have hsm := h.small
  have hlB := h.ltB
  have hnB1 : B ≠ w.heap.size := by omega
  have hnB2 : B ≠ w.heap.size + 1 := by omega
  have i1 : (0 : Int) ≤ (k : Int) := Int.natCast_nonneg _
  have i2 : (k : Int) < (ws.length : Int) := by omega
  have h1 : ¬ (((k + 1 : Nat) : Int) = 0) := by omega
  have h2 : ¬ (((k + 1 : Nat) : Int) < 0) := by omega
  have h3 : ¬ ((ws.length : Int) < ((k + 1 : Nat) : Int)) := by omega
  have h4 : (((k + 1 : Nat) : Int)) - 1 = k := by omega
  have H := Lib.hid h
  clear h
  go_enter Tryz.func263, Tryz.ntmps263
  go_wp2_with (first
    | go_enter Tryz.func300, Tryz.ntmps300
    | (go_at_call 302; refine (store1_any _ (H.out.below (((Below.refl _ _).alloc (Nat.le_refl _) _).alloc (by simp) _) hlB hG) hst hk x (by simp) (by simp) (by omega)).mono ?_; rintro e w' ⟨rfl, rfl⟩))
  go_ret
  exact ⟨rfl, (H.out.put hk x).below (((Below.refl _ _).alloc (Nat.le_refl _) _).alloc (by simp) _) (by simpa [World.setCell] using hlB) (by simpa [World.setCell] using hG),
    ((((Two.refl B G w).set (.inr (.inl rfl)) _).set (.inl rfl) _).alloc _).alloc _⟩

/-- A load that is refused. -/
theorem load_bad {B G cap ld st : Nat} {ws : List Nat} (w : World) (h : ArIs w B G cap ws ld st) (a : Int) (ha : codeN ws.length a ≠ 0) :
    Calls Tryz.prog 258 #[.pointer (some ⟨B, 0, none⟩), .int .i64 a] w fun e w' => e = .returned (.tuple #[.int .u64 0, .int .i64 (codeN ws.length a)]) ∧ Below w.heap.size w w' := by
  have hc := h.cw
  have hlB := h.ltB
  have hnB1 : B ≠ w.heap.size := by omega
  have hnB2 : B ≠ w.heap.size + 1 := by omega
  clear h
  unfold codeN at ha ⊢
  by_cases h0 : a = 0
  · subst h0
    go_enter Tryz.func258, Tryz.ntmps258
    go_wp2_with (go_enter Tryz.func300, Tryz.ntmps300)
    go_ret2
    exact ⟨rfl, ((Below.refl _ _).alloc (Nat.le_refl _) _).alloc (by simp) _⟩
  · rw [if_neg h0] at ha ⊢
    by_cases h1 : a < 0
    · rw [if_pos (Or.inl h1)]
      go_enter Tryz.func258, Tryz.ntmps258
      go_wp2_with (go_enter Tryz.func300, Tryz.ntmps300)
      go_ret2
      exact ⟨rfl, ((Below.refl _ _).alloc (Nat.le_refl _) _).alloc (by simp) _⟩
    · have h2 : (ws.length : Int) < a := by
        by_cases h2 : (ws.length : Int) < a
        · exact h2
        · exact absurd (if_neg (by omega)) ha
      rw [if_pos (Or.inr h2)]
      clear ha
      go_enter Tryz.func258, Tryz.ntmps258
      go_wp2_with (go_enter Tryz.func300, Tryz.ntmps300)
      go_ret2
      exact ⟨rfl, ((Below.refl _ _).alloc (Nat.le_refl _) _).alloc (by simp) _⟩

set_option maxRecDepth 100000 in
set_option maxHeartbeats 1000000 in
/-- A load. -/
theorem load_good {B G cap ld st : Nat} {ws : List Nat} (w : World) (h : ArIs w B G cap ws ld st) (hG : G < w.heap.size) (hld : ld < 1000000) (k : Nat) (hk : k < ws.length) :
    Calls Tryz.prog 258 #[.pointer (some ⟨B, 0, none⟩), .int .i64 (k + 1 : Nat)] w fun e w' => e = .returned (.tuple #[.int .u64 (wd ws k), .int .i64 0]) ∧ ArIs w' B G cap ws (ld + 1) st ∧ Two B G w w' := by
  have hc := h.cw
  have hcap := h.capn
  have hsm := h.small
  have hlB := h.ltB
  have hnB1 : B ≠ w.heap.size := by omega
  have hnB2 : B ≠ w.heap.size + 1 := by omega
  have i1 : (0 : Int) ≤ (k : Int) := Int.natCast_nonneg _
  have i2 : (k : Int) < (ws.length : Int) := by omega
  have h1 : ¬ (((k + 1 : Nat) : Int) = 0) := by omega
  have h2 : ¬ (((k + 1 : Nat) : Int) < 0) := by omega
  have h3 : ¬ ((ws.length : Int) < ((k + 1 : Nat) : Int)) := by omega
  have h4 : (((k + 1 : Nat) : Int)) - 1 = k := by omega
  have H := Lib.hid h
  clear h
  go_enter Tryz.func258, Tryz.ntmps258
  go_wp2_with (first
    | go_enter Tryz.func300, Tryz.ntmps300
    | (go_at_call 301; refine (load1_any _ (H.out.below (((Below.refl _ _).alloc (Nat.le_refl _) _).alloc (by simp) _) hlB hG) hld hk (u := .int .u64 0) (by simp) (by simp) (by simp) (by omega) (by omega)).mono ?_; rintro e w' ⟨rfl, rfl⟩))
  go_ret2
  exact ⟨rfl, (H.out.got).below (((Below.refl _ _).alloc (Nat.le_refl _) _).alloc (by simp) _) (by simpa [World.setCell] using hlB) (by simpa [World.setCell] using hG),
    (((Two.refl B G w).set (.inl rfl) _).alloc _).alloc _⟩

/-- Is it counted? -/
def oneN (n : Nat) (a : Int) : Nat := if codeN n a = 0 then 1 else 0
/-- The words behind a store. -/
def putS (ws : List Nat) (a : Int) (x : Nat) : List Nat := if codeN ws.length a = 0 then ws.set (a.toNat - 1) x else ws
/-- What a load tells. -/
def getR (ws : List Nat) (a : Int) : Nat := if codeN ws.length a = 0 then wd ws (a.toNat - 1) else 0

theorem codeN_place {n : Nat} {a : Int} (h : codeN n a = 0) : ∃ k : Nat, k < n ∧ a = (k + 1 : Nat) ∧ a.toNat - 1 = k := by
  have h1 := codeN_zero h
  exact ⟨a.toNat - 1, by omega, by omega, rfl⟩

theorem store_any {B G cap ld st : Nat} {ws : List Nat} (w : World) (h : ArIs w B G cap ws ld st) (hG : G < w.heap.size) (hst : st < 1000000) (a : Int) (x : Nat) :
    Calls Tryz.prog 263 #[.pointer (some ⟨B, 0, none⟩), .int .i64 a, .int .u64 x] w fun e w' => e = .returned (.int .i64 (codeN ws.length a)) ∧ ArIs w' B G cap (putS ws a x) ld (st + oneN ws.length a) ∧ Two B G w w' := by
  by_cases hz : codeN ws.length a = 0
  · have e1 : putS ws a x = ws.set (a.toNat - 1) x := if_pos hz
    have e2 : oneN ws.length a = 1 := if_pos hz
    obtain ⟨k, hk, rfl, h3⟩ := codeN_place hz
    rw [e1, e2, hz, h3]
    exact store_good w h hG hst k hk x
  · have e1 : putS ws a x = ws := if_neg hz
    have e2 : oneN ws.length a = 0 := if_neg hz
    rw [e1, e2]
    exact (store_bad w h a x hz).mono fun e w' ⟨he, hb⟩ => ⟨he, h.below hb h.ltB hG, Two.of_below hb⟩
theorem load_any {B G cap ld st : Nat} {ws : List Nat} (w : World) (h : ArIs w B G cap ws ld st) (hG : G < w.heap.size) (hld : ld < 1000000) (a : Int) :
    Calls Tryz.prog 258 #[.pointer (some ⟨B, 0, none⟩), .int .i64 a] w fun e w' => e = .returned (.tuple #[.int .u64 (getR ws a), .int .i64 (codeN ws.length a)]) ∧ ArIs w' B G cap ws (ld + oneN ws.length a) st ∧ Two B G w w' := by
  by_cases hz : codeN ws.length a = 0
  · have e1 : getR ws a = wd ws (a.toNat - 1) := if_pos hz
    have e2 : oneN ws.length a = 1 := if_pos hz
    obtain ⟨k, hk, rfl, h3⟩ := codeN_place hz
    rw [e1, e2, hz, h3]
    exact load_good w h hG hld k hk
  · have e1 : getR ws a = 0 := if_neg hz
    have e2 : oneN ws.length a = 0 := if_neg hz
    rw [e1, e2]
    exact (load_bad w h a hz).mono fun e w' ⟨he, hb⟩ => ⟨he, h.below hb h.ltB hG, Two.of_below hb⟩
end Go.Proofs.YtipifkgmhgkleaaGreatDoor.Arena
