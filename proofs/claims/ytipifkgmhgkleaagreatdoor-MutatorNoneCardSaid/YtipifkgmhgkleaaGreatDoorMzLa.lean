/-
  Texts one behind the other: LogA LogB BrdA QuA QuB StkA BrdB (theorems that nobody names are left out).
-/
import Derived.Test.YtipifkgmhgkleaaGreatDoorMzBa
import Derived.Deep.RegionLawGrows
import Derived.Laws.CopyOwn
import Derived.WalkMore
namespace Go.Proofs.YtipifkgmhgkleaaGreatDoor.Lg
open Go.RowKit
open Go.Proofs.YtipifkgmhgkleaaGreatDoor.Row

/-- A row in memory, none of whose numbers lies in one of some blocks. -/
structure RwIs (T : Nat → Prop) (w : World) (B cap : Nat) (p : Option Addr) (xs : List Int) : Prop where
  len : xs.length ≤ 1000000
  c : w.cell? ⟨B, 0, none⟩ = some (.slice p xs.length cap)
  f : w.frozen? ⟨B, 0, none⟩ = false
  rd : Rd w p xs
  nc : p = none → cap = 0
  le : xs.length ≤ cap
  ap : ∀ g, rowB p g → ¬ T g ∧ g < w.heap.size
  tb : T B
theorem RwIs.ltB {T : Nat → Prop} {w : World} {B cap : Nat} {p : Option Addr} {xs : List Int} (h : RwIs T w B cap p xs) : B < w.heap.size := World.block_lt_of_cell? w _ h.c
theorem RwIs.chg {T S : Nat → Prop} {w w' : World} {B cap : Nat} {p : Option Addr} {xs : List Int} (h : RwIs T w B cap p xs) (hc : Chg S w w') (hS : ∀ k, S k → T k) (hB : ¬ S B) : RwIs T w' B cap p xs :=
  ⟨h.len, (hc.cell (p := ⟨B, 0, none⟩) h.ltB hB).trans h.c, (hc.frozen (p := ⟨B, 0, none⟩) h.ltB hB).trans h.f, h.rd.chg hc (fun g hg e => (h.ap g hg).1 (hS g e)), h.nc, h.le, fun g hg => ⟨(h.ap g hg).1, Nat.lt_of_lt_of_le (h.ap g hg).2 hc.size⟩, h.tb⟩
theorem RwIs.later {T : Nat → Prop} {w w' : World} {B cap : Nat} {p : Option Addr} {xs : List Int} (h : RwIs T w B cap p xs) (hb : Below w.heap.size w w') : RwIs T w' B cap p xs :=
  h.chg (S := fun _ => False) (Chg.of_below hb) (fun _ e => e.elim) (fun e => e)
/-- Another row laid. -/
theorem RwIs.lay {T : Nat → Prop} {w : World} {B cap cap' : Nat} {p p' : Option Addr} {xs ys : List Int} (h : RwIs T w B cap p xs) (hl : ys.length ≤ 1000000) (hr : Rd w p' ys) (hn : p' = none → cap' = 0) (hle : ys.length ≤ cap') (ha : ∀ g, rowB p' g → ¬ T g ∧ g < w.heap.size) :
    RwIs T (w.setCell ⟨B, 0, none⟩ (.slice p' ys.length cap')) B cap' p' ys :=
  ⟨hl, same h.c, (World.frozen?_setCell ..).trans h.f, hr.chg (Chg.set (S := fun k => k = B) (Chg.refl _ w) (.inl rfl) _) (fun g hg e => (ha g hg).1 (e ▸ h.tb)), hn, hle, fun g hg => ⟨(ha g hg).1, by rw [size_setCell]; exact (ha g hg).2⟩, h.tb⟩

theorem count_any {T : Nat → Prop} {B cap : Nat} {p : Option Addr} {xs : List Int} (w : World) (h : RwIs T w B cap p xs) : Calls Tryz.prog 277 #[.pointer (some ⟨B, 0, none⟩)] w fun e w' => e = .returned (.int .i64 xs.length) ∧ w = w' := by
  have hc := h.c
  clear h
  go_enter Tryz.func277, Tryz.ntmps277
  go_wp2
  go_ret
  exact ⟨rfl, rfl⟩

end Go.Proofs.YtipifkgmhgkleaaGreatDoor.Lg

namespace Go.Proofs.YtipifkgmhgkleaaGreatDoor.Lg
open Go.RowKit
open Go.Proofs.YtipifkgmhgkleaaGreatDoor.Row
attribute [local go_sem] Oper.semAt_some

theorem quiet_left {P : Program} {f : FuncId} {args : Array Value} {w : World} {n : Nat} {v : Value}
    (h : Calls P f args (w.drewN n) fun e w' => e = .returned v ∧ w.drewN n = w') : Calls P f args (w.drewN n) fun e w'' => e = .returned v ∧ ∃ m, w'' = w.drewN m :=
  h.mono fun _ _ ⟨he, hm⟩ => ⟨he, n, hm.symm⟩

/-- A buffer in memory. -/
structure BfIs (T : Nat → Prop) (w : World) (B room : Nat) (xs : List Int) : Prop where
  r1 : 1 ≤ room
  r2 : room ≤ 256
  len : xs.length ≤ room
  c1 : w.cell? ⟨B, 1, none⟩ = some (.int .i64 room)
  row : ∃ p cap, RwIs T w B cap p xs
theorem BfIs.ltB {T : Nat → Prop} {w : World} {B room : Nat} {xs : List Int} (h : BfIs T w B room xs) : B < w.heap.size := World.block_lt_of_cell? w _ h.c1
theorem BfIs.tb {T : Nat → Prop} {w : World} {B room : Nat} {xs : List Int} (h : BfIs T w B room xs) : T B := by
  obtain ⟨p, cap, hr⟩ := h.row
  exact hr.tb
theorem BfIs.chg {T S : Nat → Prop} {w w' : World} {B room : Nat} {xs : List Int} (h : BfIs T w B room xs) (hc : Chg S w w') (hS : ∀ k, S k → T k) (hB : ¬ S B) : BfIs T w' B room xs := by
  obtain ⟨p, cap, hr⟩ := h.row
  exact ⟨h.r1, h.r2, h.len, (hc.cell (p := ⟨B, 1, none⟩) h.ltB hB).trans h.c1, p, cap, hr.chg hc hS hB⟩
theorem BfIs.later {T : Nat → Prop} {w w' : World} {B room : Nat} {xs : List Int} (h : BfIs T w B room xs) (hb : Below w.heap.size w w') : BfIs T w' B room xs :=
  h.chg (S := fun _ => False) (Chg.of_below hb) (fun _ e => e.elim) (fun e => e)
/-- A box in memory. -/
def BxIs (T : Nat → Prop) (w : World) (X : Nat) (ys : List Int) : Prop := ∃ p cap, RwIs T w X cap p ys
theorem BxIs.chg {T S : Nat → Prop} {w w' : World} {X : Nat} {ys : List Int} (h : BxIs T w X ys) (hc : Chg S w w') (hS : ∀ k, S k → T k) (hB : ¬ S X) : BxIs T w' X ys := by
  obtain ⟨p, cap, hr⟩ := h
  exact ⟨p, cap, hr.chg hc hS hB⟩
theorem BxIs.later {T : Nat → Prop} {w w' : World} {X : Nat} {ys : List Int} (h : BxIs T w X ys) (hb : Below w.heap.size w w') : BxIs T w' X ys :=
  h.chg (S := fun _ => False) (Chg.of_below hb) (fun _ e => e.elim) (fun e => e)

theorem new_bad (n : Int) (w : World) (h : n < 1 ∨ 256 < n) : Calls Tryz.prog 46 #[.int .i64 n] w fun e w' => e = .returned (.tuple #[.pointer none, .int .i64 4]) ∧ w = w' := by
  rcases h with h | h
  · go_enter Tryz.func46, Tryz.ntmps46
    go_wp2
    go_ret2
    exact ⟨rfl, rfl⟩
  · have h1 : ¬ n < 1 := by omega
    go_enter Tryz.func46, Tryz.ntmps46
    go_wp2
    go_ret2
    exact ⟨rfl, rfl⟩
theorem new_good (n : Nat) (z : Int) (hz : z = n) (w : World) (h : 1 ≤ n) (h2 : n ≤ 256) : Calls Tryz.prog 46 #[.int .i64 z] w fun e w' => e = .returned (.tuple #[.pointer (some ⟨w.heap.size, 0, none⟩), .int .i64 0]) ∧
    (∀ T : Nat → Prop, T w.heap.size → BfIs T w' w.heap.size n []) ∧ Below w.heap.size w w' ∧ w'.heap.size = w.heap.size + 1 := by
  subst hz
  have h3 : ¬ (n : Int) < 1 := by omega
  have h4 : ¬ (256 < (n : Int)) := by omega
  go_enter Tryz.func46, Tryz.ntmps46
  go_wp2
  go_ret2
  exact ⟨rfl, fun T hT => ⟨h, h2, by simp, by simp, none, 0, ⟨by simp, by simp, by simp, Rd.nil _, fun _ => rfl, by simp, fun g hg => absurd hg (rowB_none g), hT⟩⟩, (Below.refl _ _).alloc (Nat.le_refl _) _, by simp⟩
theorem box_new (w : World) : Calls Tryz.prog 41 #[] w fun e w' => e = .returned (.pointer (some ⟨w.heap.size, 0, none⟩)) ∧
    (∀ T : Nat → Prop, T w.heap.size → BxIs T w' w.heap.size []) ∧ Below w.heap.size w w' ∧ w'.heap.size = w.heap.size + 1 := by
  go_enter Tryz.func41, Tryz.ntmps41
  go_wp2
  go_ret
  exact ⟨rfl, fun T hT => ⟨none, 0, ⟨by simp, by simp, by simp, Rd.nil _, fun _ => rfl, by simp, fun g hg => absurd hg (rowB_none g), hT⟩⟩, (Below.refl _ _).alloc (Nat.le_refl _) _, by simp⟩

theorem len_any {T : Nat → Prop} {B room : Nat} {xs : List Int} (w : World) (h : BfIs T w B room xs) : Calls Tryz.prog 235 #[.pointer (some ⟨B, 0, none⟩)] w fun e w' => e = .returned (.int .i64 xs.length) ∧ w = w' := by
  obtain ⟨p, cap, hr⟩ := h.row
  have HR := Lib.hid hr
  clear h hr
  go_enter Tryz.func235, Tryz.ntmps235
  go_wp2_with (go_at_call 277; refine (count_any w HR.out).mono ?_; rintro e w' ⟨rfl, rfl⟩)
  go_ret
  exact ⟨rfl, rfl⟩
set_option maxRecDepth 100000 in
theorem all_any {T : Nat → Prop} {B room : Nat} {xs : List Int} (w : World) (h : BfIs T w B room xs) : Calls Tryz.prog 51 #[.pointer (some ⟨B, 0, none⟩)] w fun e w' => ∃ p' cap', e = .returned (.slice p' xs.length cap') ∧ Rd w' p' xs ∧ Below w.heap.size w w' := by
  obtain ⟨p, cap, hr⟩ := h.row
  have hc := hr.c
  have HR := Lib.hid (clone_any p xs w (by have := hr.len; omega) hr.nc hr.rd)
  clear h hr
  go_enter Tryz.func51, Tryz.ntmps51
  go_wp2_with (first
    | go_enter Tryz.func86, Tryz.ntmps86
    | (go_at_call 50; refine HR.out.mono ?_; rintro e w' ⟨p', cap', rfl, ho, hb⟩))
  go_ret
  exact ⟨p', cap', rfl, Rd.of_owns ho, hb⟩
end Go.Proofs.YtipifkgmhgkleaaGreatDoor.Lg

namespace Go.Proofs.YtipifkgmhgkleaaGreatDoor.Brd
open Go.RowKit
open Go.Proofs.YtipifkgmhgkleaaGreatDoor.Row

/-- A board in memory: how many mutators, the kind, the count, who owes. -/
structure BdIs (w : World) (B base n : Nat) (kind count : Int) (ow : Nat → Bool) : Prop where
  n1 : 1 ≤ n
  n2 : n ≤ 8
  c0 : w.cell? ⟨B, 0, none⟩ = some (.int .i64 n)
  c1 : w.cell? ⟨B, 1, none⟩ = some (.int .i64 kind)
  c2 : w.cell? ⟨B, 2, none⟩ = some (.int .i64 count)
  cs : ∀ m, m < 8 → w.cell? ⟨B, 3 + m, none⟩ = some (.bool (ow m))
  f : ∀ o, o < 11 → w.frozen? ⟨B, o, none⟩ = false
  base : base ≤ B
theorem BdIs.ltB {w : World} {B base n : Nat} {kind count : Int} {ow : Nat → Bool} (h : BdIs w B base n kind count ow) : B < w.heap.size := World.block_lt_of_cell? w _ h.c0
theorem BdIs.kept {w w' : World} {B base n : Nat} {kind count : Int} {ow : Nat → Bool} (h : BdIs w B base n kind count ow) (hB : w'.heap[B]? = w.heap[B]?) : BdIs w' B base n kind count ow :=
  ⟨h.n1, h.n2, (cell_of_block (a := ⟨B, 0, none⟩) hB).trans h.c0, (cell_of_block (a := ⟨B, 1, none⟩) hB).trans h.c1, (cell_of_block (a := ⟨B, 2, none⟩) hB).trans h.c2,
    fun m hm => (cell_of_block (a := ⟨B, 3 + m, none⟩) hB).trans (h.cs m hm), fun o ho => (frozen_of_block (a := ⟨B, o, none⟩) hB).trans (h.f o ho), h.base⟩
theorem BdIs.later {w w' : World} {B base n : Nat} {kind count : Int} {ow : Nat → Bool} (h : BdIs w B base n kind count ow) (hb : Below w.heap.size w w') : BdIs w' B base n kind count ow := h.kept (hb.block _ h.ltB)
theorem BdIs.chg {S : Nat → Prop} {w w' : World} {B base n : Nat} {kind count : Int} {ow : Nat → Bool} (h : BdIs w B base n kind count ow) (hc : Chg S w w') (hB : ¬ S B) : BdIs w' B base n kind count ow := h.kept (hc.block B h.ltB hB)
theorem BdIs.drewN {w : World} {B base n : Nat} {kind count : Int} {ow : Nat → Bool} (h : BdIs w B base n kind count ow) (k : Nat) : BdIs (w.drewN k) B base n kind count ow := h.kept rfl
/-- Who owes, with one of them turned. -/
def upd (ow : Nat → Bool) (m : Nat) (b : Bool) : Nat → Bool := fun k => if k = m then b else ow k
theorem BdIs.turn {w : World} {B base n : Nat} {kind count : Int} {ow : Nat → Bool} (h : BdIs w B base n kind count ow) {m : Nat} (hm : m < 8) (b : Bool) : BdIs (w.setCell ⟨B, 3 + m, none⟩ (.bool b)) B base n kind count (upd ow m b) :=
  ⟨h.n1, h.n2, (other (by first | (simp; done) | (simp; omega))).trans h.c0, (other (by first | (simp; done) | (simp; omega))).trans h.c1, (other (by first | (simp; done) | (simp; omega))).trans h.c2,
    fun k hk => by
      unfold upd
      by_cases e : k = m
      · subst e; rw [if_pos rfl]; exact same (h.cs k hk)
      · rw [if_neg e]; exact (other (by first | (simp; done) | (simp; omega))).trans (h.cs k hk),
    fun o ho => (World.frozen?_setCell ..).trans (h.f o ho), h.base⟩
theorem BdIs.asked {w : World} {B base n : Nat} {kind count : Int} {ow : Nat → Bool} (h : BdIs w B base n kind count ow) (kind' count' : Int) : BdIs ((w.setCell ⟨B, 1, none⟩ (.int .i64 kind')).setCell ⟨B, 2, none⟩ (.int .i64 count')) B base n kind' count' ow :=
  ⟨h.n1, h.n2, (other (by simp)).trans ((other (by simp)).trans h.c0), (other (by simp)).trans (same h.c1), same ((other (by simp)).trans h.c2),
    fun m hm => (other (by first | (simp; done) | (simp; omega))).trans ((other (by first | (simp; done) | (simp; omega))).trans (h.cs m hm)), fun o ho => (World.frozen?_setCell ..).trans ((World.frozen?_setCell ..).trans (h.f o ho)), h.base⟩

theorem new_bad (n : Int) (w : World) (h : n < 1 ∨ 8 < n) : Calls Tryz.prog 39 #[.int .i64 n] w fun e w' => e = .returned (.tuple #[.pointer none, .int .i64 4]) ∧ w = w' := by
  rcases h with h | h
  · go_enter Tryz.func39, Tryz.ntmps39
    go_wp2
    go_ret2
    exact ⟨rfl, rfl⟩
  · have h1 : ¬ n < 1 := by omega
    go_enter Tryz.func39, Tryz.ntmps39
    go_wp2
    go_ret2
    exact ⟨rfl, rfl⟩
theorem new_good (n : Nat) (z : Int) (hz : z = n) (w : World) (h : 1 ≤ n) (h2 : n ≤ 8) : Calls Tryz.prog 39 #[.int .i64 z] w fun e w' => e = .returned (.tuple #[.pointer (some ⟨w.heap.size, 0, none⟩), .int .i64 0]) ∧
    BdIs w' w.heap.size w.heap.size n 0 0 (fun _ => false) ∧ Below w.heap.size w w' ∧ w'.heap.size = w.heap.size + 1 := by
  subst hz
  have h3 : ¬ (n : Int) < 1 := by omega
  have h4 : ¬ (8 < (n : Int)) := by omega
  go_enter Tryz.func39, Tryz.ntmps39
  go_wp2
  go_ret2
  refine ⟨rfl, ⟨h, h2, by simp, by simp, by simp, fun m hm => ?_, fun o ho => by simp, Nat.le_refl _⟩, (Below.refl _ _).alloc (Nat.le_refl _) _, by simp⟩
  match m, hm with
  | 0, _ => simp
  | 1, _ => simp
  | 2, _ => simp
  | 3, _ => simp
  | 4, _ => simp
  | 5, _ => simp
  | 6, _ => simp
  | 7, _ => simp

/-- Whether there is such a mutator. -/
def inB (n : Nat) (m : Int) : Bool := decide (0 ≤ m ∧ m < n)
theorem has_yes {B base n : Nat} {kind count : Int} {ow : Nat → Bool} (m : Nat) (w : World) (h : BdIs w B base n kind count ow) (hm : m < n) : Calls Tryz.prog 108 #[.pointer (some ⟨B, 0, none⟩), .int .i64 m] w fun e w' => e = .returned (.bool true) ∧ w = w' := by
  have hc := h.c0
  clear h
  have h1 : (0 : Int) ≤ (m : Int) := by omega
  have h2 : (m : Int) < (n : Int) := by omega
  go_enter Tryz.func108, Tryz.ntmps108
  go_wp2
  go_ret
  exact ⟨rfl, rfl⟩

theorem pend_shut {B base n : Nat} {kind count : Int} {ow : Nat → Bool} (m : Nat) (w : World) (h : BdIs w B base n kind count ow) (hm : m < n) (ho : ow m = false) : Calls Tryz.prog 83 #[.pointer (some ⟨B, 0, none⟩), .int .i64 m] w fun e w' => e = .returned (.tuple #[.int .i64 0, .bool false]) ∧ w = w' := by
  have hn := h.n2
  have hc := h.cs m (by omega)
  rw [ho] at hc
  have h8 : (m : Int) < 8 := by omega
  have h0 : (0 : Int) ≤ (m : Int) := by omega
  have H := Lib.hid h
  clear h ho
  go_enter Tryz.func83, Tryz.ntmps83
  go_wp2_with (go_at_call 108; refine (has_yes _ _ H.out hm).mono ?_; rintro e w' ⟨rfl, rfl⟩)
  go_ret2
  exact ⟨rfl, rfl⟩

end Go.Proofs.YtipifkgmhgkleaaGreatDoor.Brd

namespace Go.Proofs.YtipifkgmhgkleaaGreatDoor.Qu
open Go.RowKit
open Go.Proofs.YtipifkgmhgkleaaGreatDoor.Row

/-- A row with room: its numbers, and room for so many in all, all its own. -/
structure Rm (w : World) (base : Nat) (p : Option Addr) (cap : Nat) (l : List Int) : Prop where
  le : l.length ≤ cap
  max : cap ≤ 4194304
  lies : (p = none ∧ cap = 0) ∨ ∃ (g off : Nat) (cur : Array Value), p = some ⟨g, off, none⟩ ∧ base ≤ g ∧ w.heap[g]? = some (.cells cur 3 (0, 0)) ∧ off + cap ≤ cur.size ∧ ∀ j, j < l.length → cur[off + j]? = some (.int .i64 (l.getD j 0))
theorem Rm.nil (w : World) (base : Nat) : Rm w base none 0 [] := ⟨Nat.le_refl _, by omega, .inl ⟨rfl, rfl⟩⟩
theorem Rm.kept {w w' : World} {base cap : Nat} {p : Option Addr} {l : List Int} (h : Rm w base p cap l) (hg : ∀ g, rowB p g → w'.heap[g]? = w.heap[g]?) : Rm w' base p cap l :=
  ⟨h.le, h.max, h.lies.imp id fun ⟨g, off, cur, e, e1, e2, r⟩ => ⟨g, off, cur, e, e1, (hg g (by rw [e]; rfl)).trans e2, r⟩⟩
theorem Rm.lt {w : World} {base cap : Nat} {p : Option Addr} {l : List Int} (h : Rm w base p cap l) {g : Nat} (hg : rowB p g) : base ≤ g ∧ g < w.heap.size := by
  rcases h.lies with ⟨rfl, _⟩ | ⟨g', off, cur, rfl, e1, e2, _⟩
  · cases hg
  · cases hg
    exact ⟨e1, (Array.getElem?_eq_some_iff.1 e2).1⟩
theorem Rm.at {w : World} {base cap : Nat} {p : Option Addr} {l : List Int} (h : Rm w base p cap l) {j : Nat} (hj : j < l.length) : ∃ g off, p = some ⟨g, off, none⟩ ∧ w.cell? ⟨g, off + j, none⟩ = some (.int .i64 (l.getD j 0)) := by
  rcases h.lies with ⟨_, h0⟩ | ⟨g, off, cur, rfl, _, e2, _, r⟩
  · have := h.le; omega
  · exact ⟨g, off, rfl, by simp [World.cell?, e2, r j hj]⟩
theorem Rm.rd {w : World} {base cap : Nat} {p : Option Addr} {l : List Int} (h : Rm w base p cap l) : Rd w p l := by
  rcases h.lies with ⟨rfl, h0⟩ | ⟨g, off, cur, rfl, _, e2, _, r⟩
  · exact .inl ⟨rfl, List.eq_nil_of_length_eq_zero (by have := h.le; omega)⟩
  · exact .inr ⟨g, off, rfl, fun j hj => by simp [World.cell?, e2, r j hj]⟩
/-- Without its first one. -/
theorem Rm.tail {w : World} {base cap g off : Nat} {x : Int} {l : List Int} (h : Rm w base (some ⟨g, off, none⟩) cap (x :: l)) : Rm w base (some ⟨g, off + 1, none⟩) (cap - 1) l := by
  have hle := h.le
  rw [List.length_cons] at hle
  refine ⟨by omega, by have := h.max; omega, .inr ?_⟩
  rcases h.lies with ⟨e, _⟩ | ⟨g', off', cur, e, e1, e2, e3, r⟩
  · cases e
  · cases e
    refine ⟨g, off + 1, cur, rfl, e1, e2, by omega, fun j hj => ?_⟩
    have h2 := r (j + 1) (by rw [List.length_cons]; omega)
    rw [List.getD_cons_succ] at h2
    rw [← h2]
    congr 1
    omega
theorem Rm.last {w : World} {base g off : Nat} {x : Int} {l : List Int} (h : Rm w base (some ⟨g, off, none⟩) 1 (x :: l)) : Rm w base (some ⟨g, off, none⟩) 0 [] ∧ l = [] := by
  have hle := h.le
  rw [List.length_cons] at hle
  refine ⟨⟨Nat.le_refl _, by omega, .inr ?_⟩, List.eq_nil_of_length_eq_zero (by omega)⟩
  rcases h.lies with ⟨e, _⟩ | ⟨g', off', cur, e, e1, e2, e3, r⟩
  · cases e
  · cases e
    exact ⟨g, off, cur, rfl, e1, e2, by omega, fun j hj => by simp at hj⟩

/-- A row's block with one cell laid. -/
def pushed (w : World) (g k : Nat) (cur : Array Value) (x : Value) : World := w.setRow g (cur.toList.take k ++ [x] ++ cur.toList.drop (k + 1)).toArray
section
variable {P : Program} (w : World)
end
/-- What that leaves. -/
theorem Rm.push {w : World} {base g off cap : Nat} {l : List Int} {cur : Array Value} {x : Int} (hb : base ≤ g) (hg : w.heap[g]? = some (.cells cur 3 (0, 0))) (hr : ∀ j, j < l.length → cur[off + j]? = some (.int .i64 (l.getD j 0)))
    (hroom : l.length + 1 ≤ cap) (hfit : off + cap ≤ cur.size) (hmax : cap ≤ 4194304) :
    Rm (pushed w g (off + l.length) cur (.int .i64 x)) base (some ⟨g, off, none⟩) cap (l ++ [x]) := by
  refine ⟨by simp; omega, hmax, .inr ⟨g, off, _, rfl, hb, setRow_heap w g cur _ _ _ hg, ?_, fun j hj => ?_⟩⟩
  · simp only [List.size_toArray, List.length_append, List.length_take, List.length_drop, Array.length_toList, List.length_cons, List.length_nil]
    omega
  · rw [List.length_append, List.length_cons, List.length_nil] at hj
    have hk : (cur.toList.take (off + l.length)).length = off + l.length := by rw [List.length_take, show cur.toList.length = cur.size from Array.length_toList]; omega
    rw [List.getElem?_toArray]
    by_cases e : j < l.length
    · rw [List.append_assoc, List.getElem?_append_left (by omega), List.getElem?_take, if_pos (by omega), Array.getElem?_toList, hr j e, List.getD_eq_getElem?_getD, List.getD_eq_getElem?_getD, List.getElem?_append_left e]
    · obtain rfl : j = l.length := by omega
      rw [List.append_assoc, List.getElem?_append_right (by omega), hk, Nat.sub_self]
      simp

end Go.Proofs.YtipifkgmhgkleaaGreatDoor.Qu

namespace Go.Proofs.YtipifkgmhgkleaaGreatDoor.Qu
open Go.RowKit
open Go.Proofs.YtipifkgmhgkleaaGreatDoor.Row

def upd {α : Type} (f : Nat → α) (k : Nat) (v : α) : Nat → α := fun j => if j = k then v else f j
theorem upd_same {α : Type} (f : Nat → α) (k : Nat) (v : α) : upd f k v k = v := by simp [upd]
theorem upd_other {α : Type} (f : Nat → α) {k j : Nat} (v : α) (h : j ≠ k) : upd f k v j = f j := by simp [upd, h]

/-- A queue in memory: of each class its row; how many are open. -/
structure QuIs (w : World) (Q base : Nat) (ps : Nat → Option Addr) (cs : Nat → Nat) (rv : Nat → List Int) (op : Nat) : Prop where
  cv : ∀ k, k < 4 → w.cell? ⟨Q, k, none⟩ = some (.slice (ps k) (rv k).length (cs k))
  co : w.cell? ⟨Q, 4, none⟩ = some (.int .i64 op)
  f : ∀ o, o < 5 → w.frozen? ⟨Q, o, none⟩ = false
  rm : ∀ k, k < 4 → Rm w base (ps k) (cs k) (rv k)
  ne : ∀ k, k < 4 → ¬ rowB (ps k) Q
  ap : ∀ i j, i < 4 → j < 4 → i ≠ j → ∀ g, rowB (ps i) g → ¬ rowB (ps j) g
  base : base ≤ Q
/-- Its blocks. -/
def Own (Q : Nat) (ps : Nat → Option Addr) (g : Nat) : Prop := g = Q ∨ ∃ i, i < 4 ∧ rowB (ps i) g
section
variable {w w' : World} {Q base op : Nat} {ps : Nat → Option Addr} {cs : Nat → Nat} {rv : Nat → List Int}
theorem QuIs.lt (h : QuIs w Q base ps cs rv op) : Q < w.heap.size := World.block_lt_of_cell? w _ h.co
theorem QuIs.ltO (h : QuIs w Q base ps cs rv op) {g : Nat} (hg : Own Q ps g) : base ≤ g ∧ g < w.heap.size := by
  rcases hg with rfl | ⟨i, hi, hg⟩
  · exact ⟨h.base, h.lt⟩
  · exact (h.rm i hi).lt hg
theorem QuIs.kept (h : QuIs w Q base ps cs rv op) (hg : ∀ g, Own Q ps g → w'.heap[g]? = w.heap[g]?) : QuIs w' Q base ps cs rv op :=
  ⟨fun k hk => (cell_of_block (a := ⟨Q, k, none⟩) (hg Q (.inl rfl))).trans (h.cv k hk), (cell_of_block (a := ⟨Q, 4, none⟩) (hg Q (.inl rfl))).trans h.co, fun o ho => (frozen_of_block (a := ⟨Q, o, none⟩) (hg Q (.inl rfl))).trans (h.f o ho),
    fun k hk => (h.rm k hk).kept (fun g hr => hg g (.inr ⟨k, hk, hr⟩)), h.ne, h.ap, h.base⟩
theorem QuIs.later (h : QuIs w Q base ps cs rv op) (hb : Below w.heap.size w w') : QuIs w' Q base ps cs rv op := h.kept fun g hg => hb.block g (h.ltO hg).2
theorem QuIs.chg {S : Nat → Prop} (h : QuIs w Q base ps cs rv op) (hc : Chg S w w') (hS : ∀ g, Own Q ps g → ¬ S g) : QuIs w' Q base ps cs rv op := h.kept fun g hg => hc.block g (h.ltO hg).2 (hS g hg)
theorem QuIs.drewN (h : QuIs w Q base ps cs rv op) (n : Nat) : QuIs (w.drewN n) Q base ps cs rv op := h.kept fun _ _ => rfl
/-- Another number of open ones. -/
theorem QuIs.opened (h : QuIs w Q base ps cs rv op) (n : Nat) : QuIs (w.setCell ⟨Q, 4, none⟩ (.int .i64 n)) Q base ps cs rv n :=
  ⟨fun k hk => (other (by first | (simp; done) | (simp; omega))).trans (h.cv k hk), same h.co, fun o ho => (World.frozen?_setCell ..).trans (h.f o ho),
    fun k hk => (h.rm k hk).kept (fun g hr => Below.heap_setCell _ _ _ _ (fun e => h.ne k hk (by rw [← (show g = Q from e)]; exact hr))), h.ne, h.ap, h.base⟩
/-- One class's row turned. -/
theorem QuIs.lay (h : QuIs w Q base ps cs rv op) {k : Nat} (hk : k < 4) {p' : Option Addr} {c' : Nat} {l' : List Int} (hC : Chg (rowB (ps k)) w w') (hr : Rm w' base p' c' l') (hR : ∀ g, rowB p' g → rowB (ps k) g ∨ w.heap.size ≤ g) :
    QuIs (w'.setCell ⟨Q, k, none⟩ (.slice p' l'.length c')) Q base (upd ps k p') (upd cs k c') (upd rv k l') op := by
  have hQ : w'.heap[Q]? = w.heap[Q]? := hC.block Q h.lt (h.ne k hk)
  have hp'Q : ¬ rowB p' Q := fun e => (hR Q e).elim (h.ne k hk) (fun x => by have := h.lt; omega)
  have hsb : ∀ g, g ≠ Q → (w'.setCell ⟨Q, k, none⟩ (.slice p' l'.length c')).heap[g]? = w'.heap[g]? := fun g hg => Below.heap_setCell _ _ _ _ (fun e => hg e)
  have far : ∀ j, j < 4 → j ≠ k → ∀ g, rowB (ps j) g → ¬ rowB p' g := fun j hj hjk g hg e => (hR g e).elim (fun x => h.ap j k hj hk hjk g hg x) (fun x => by have := ((h.rm j hj).lt hg).2; omega)
  refine ⟨fun j hj => ?_, ?_, fun o ho => (World.frozen?_setCell ..).trans ((frozen_of_block (a := ⟨Q, o, none⟩) hQ).trans (h.f o ho)), fun j hj => ?_, fun j hj => ?_, fun i j hi hj hij g hg => ?_, h.base⟩
  · by_cases e : j = k
    · subst e; rw [upd_same, upd_same, upd_same]; exact same ((cell_of_block (a := ⟨Q, j, none⟩) hQ).trans (h.cv j hj))
    · rw [upd_other _ _ e, upd_other _ _ e, upd_other _ _ e]
      exact (other (by first | (simp; done) | (simp; omega))).trans ((cell_of_block (a := ⟨Q, j, none⟩) hQ).trans (h.cv j hj))
  · exact (other (by first | (simp; done) | (simp; omega))).trans ((cell_of_block (a := ⟨Q, 4, none⟩) hQ).trans h.co)
  · by_cases e : j = k
    · subst e; rw [upd_same, upd_same, upd_same]
      exact hr.kept (fun g hg => hsb g (fun e => hp'Q (e ▸ hg)))
    · rw [upd_other _ _ e, upd_other _ _ e, upd_other _ _ e]
      exact (h.rm j hj).kept (fun g hg => (hsb g (fun e2 => h.ne j hj (e2 ▸ hg))).trans (hC.block g ((h.rm j hj).lt hg).2 (h.ap j k hj hk e g hg)))
  · by_cases e : j = k
    · subst e; rw [upd_same]; exact hp'Q
    · rw [upd_other _ _ e]; exact h.ne j hj
  · by_cases e1 : i = k
    · subst e1
      rw [upd_same] at hg
      rw [upd_other _ _ (fun e => hij e.symm)]
      exact fun x => far j hj (fun e => hij e.symm) g x hg
    · rw [upd_other _ _ e1] at hg
      by_cases e2 : j = k
      · subst e2; rw [upd_same]; exact far i hi e1 g hg
      · rw [upd_other _ _ e2]; exact h.ap i j hi hj hij g hg
theorem Own.upd {k : Nat} {p' : Option Addr} {N : Nat} (hk : k < 4) (hR : ∀ g, rowB p' g → rowB (ps k) g ∨ N ≤ g) {g : Nat} (hg : Own Q (upd ps k p') g) : Own Q ps g ∨ N ≤ g := by
  rcases hg with rfl | ⟨i, hi, hg⟩
  · exact .inl (.inl rfl)
  · by_cases e : i = k
    · subst e; rw [upd_same] at hg
      exact (hR g hg).imp (fun x => .inr ⟨i, hi, x⟩) id
    · rw [upd_other _ _ e] at hg; exact .inl (.inr ⟨i, hi, hg⟩)
end

/-- Whether there is such a class. -/
def clsB (k : Int) : Bool := decide (0 ≤ k ∧ k < 4)
theorem is_any (k : Int) (w : World) : Calls Tryz.prog 283 #[.int .i64 k] w fun e w' => e = .returned (.bool (clsB k)) ∧ w = w' := by
  by_cases h0 : 0 ≤ k
  · by_cases h4 : k < 4
    · have e : clsB k = true := by simp [clsB, h0, h4]
      rw [e]
      go_enter Tryz.func283, Tryz.ntmps283
      go_wp2
      go_ret
      exact ⟨rfl, rfl⟩
    · have e : clsB k = false := by simp [clsB, h4]
      rw [e]
      go_enter Tryz.func283, Tryz.ntmps283
      go_wp2
      go_ret
      exact ⟨rfl, rfl⟩
  · have e : clsB k = false := by simp [clsB, h0]
    rw [e]
    go_enter Tryz.func283, Tryz.ntmps283
    go_wp2
    go_ret
    exact ⟨rfl, rfl⟩

theorem new_any (w : World) : Calls Tryz.prog 40 #[] w fun e w' => e = .returned (.pointer (some ⟨w.heap.size, 0, none⟩)) ∧ QuIs w' w.heap.size w.heap.size (fun _ => none) (fun _ => 0) (fun _ => []) 0 ∧ Below w.heap.size w w' ∧ w'.heap.size = w.heap.size + 1 := by
  go_enter Tryz.func40, Tryz.ntmps40
  go_wp2
  go_ret
  refine ⟨rfl, ⟨fun k hk => ?_, by simp, fun o ho => by simp, fun k _ => Rm.nil _ _, fun k _ => rowB_none _, fun i j _ _ _ g hg => absurd hg (rowB_none g), Nat.le_refl _⟩, (Below.refl _ _).alloc (Nat.le_refl _) _, by simp⟩
  match k, hk with
  | 0, _ => simp
  | 1, _ => simp
  | 2, _ => simp
  | 3, _ => simp

section
variable {Q base op : Nat} {ps : Nat → Option Addr} {cs : Nat → Nat} {rv : Nat → List Int}
theorem cls_yes {k : Nat} (hk : k < 4) : clsB (k : Int) = true := by simp [clsB]; omega
theorem len_any (k : Nat) (hk : k < 4) (w : World) (h : QuIs w Q base ps cs rv op) : Calls Tryz.prog 427 #[.pointer (some ⟨Q, 0, none⟩), .int .i64 k] w fun e w' => e = .returned (.int .i64 (rv k).length) ∧ w = w' := by
  have hc := h.cv k hk
  have k0 : (0 : Int) ≤ (k : Int) := Int.natCast_nonneg _
  have k4 : (k : Int) < 4 := by omega
  have hcl := cls_yes hk
  clear h
  go_enter Tryz.func427, Tryz.ntmps427
  go_wp2_with (go_at_call 283; refine (is_any _ _).mono ?_; rw [hcl]; rintro e w' ⟨rfl, rfl⟩)
  go_ret
  exact ⟨rfl, rfl⟩
theorem take_none (k : Nat) (hk : k < 4) (w : World) (h : QuIs w Q base ps cs rv op) (he : rv k = []) : Calls Tryz.prog 245 #[.pointer (some ⟨Q, 0, none⟩), .int .i64 k] w fun e w' => e = .returned (.tuple #[.int .i64 0, .int .i64 12]) ∧ w = w' := by
  have hc := h.cv k hk
  rw [he, List.length_nil] at hc
  have k0 : (0 : Int) ≤ (k : Int) := Int.natCast_nonneg _
  have k4 : (k : Int) < 4 := by omega
  have hcl := cls_yes hk
  clear h he
  go_enter Tryz.func245, Tryz.ntmps245
  go_wp2_with (go_at_call 283; refine (is_any _ _).mono ?_; rw [hcl]; rintro e w' ⟨rfl, rfl⟩)
  go_ret2
  exact ⟨rfl, rfl⟩
/-- What a Take leaves. -/
theorem QuIs.took {w : World} (h : QuIs w Q base ps cs rv op) {k : Nat} (hk : k < 4) {p' : Option Addr} {c' : Nat} {l : List Int} (hr : Rm w base p' c' l) (hR : ∀ g, rowB p' g → rowB (ps k) g) :
    QuIs (((w.setCell ⟨Q, k, none⟩ (.slice p' l.length c')).setCell ⟨Q, 4, none⟩ (.int .i64 ((op : Int) + 1))).drew) Q base (upd ps k p') (upd cs k c') (upd rv k l) (op + 1) ∧
    Chg (fun g => g = Q) w (((w.setCell ⟨Q, k, none⟩ (.slice p' l.length c')).setCell ⟨Q, 4, none⟩ (.int .i64 ((op : Int) + 1))).drew) := by
  have h1 := h.lay hk (Chg.refl _ w) hr (fun g hg => .inl (hR g hg))
  have h2 := (h1.opened (op + 1)).drewN 1
  rw [show ((op + 1 : Nat) : Int) = (op : Int) + 1 by omega] at h2
  exact ⟨h2, ((Chg.set (S := fun g => g = Q) (Chg.refl _ w) (.inl rfl) _).set (.inl rfl) _).drewN 1⟩
set_option maxHeartbeats 1000000 in
theorem take_good (k : Nat) (hk : k < 4) (x : Int) (l : List Int) (w : World) (h : QuIs w Q base ps cs rv op) (he : rv k = x :: l) (hop : op ≤ 1000000) : Calls Tryz.prog 245 #[.pointer (some ⟨Q, 0, none⟩), .int .i64 k] w fun e w' => e = .returned (.tuple #[.int .i64 x, .int .i64 0]) ∧
    ∃ p' c', QuIs w' Q base (upd ps k p') (upd cs k c') (upd rv k l) (op + 1) ∧ Chg (fun g => g = Q) w w' ∧ ∀ g, rowB p' g → rowB (ps k) g := by
  have hc := h.cv k hk
  have co := h.co
  have hr := h.rm k hk
  have f1 := h.f k (by omega)
  have f2 := h.f 4 (by omega)
  rw [he] at hc hr
  obtain ⟨g, off, hp, hx⟩ := hr.at (j := 0) (by simp)
  rw [List.getD_cons_zero, Nat.add_zero] at hx
  have hgQ : g ≠ Q := fun e => h.ne k hk (by rw [hp, e]; rfl)
  rw [hp] at hc hr
  have k0 : (0 : Int) ≤ (k : Int) := Int.natCast_nonneg _
  have k4 : (k : Int) < 4 := by omega
  have hcl := cls_yes hk
  have hlen : (x :: l).length = l.length + 1 := rfl
  have hlc := hr.le
  rw [hlen] at hc hlc
  have hl0 : ((l.length + 1 : Nat) : Int) ≠ 0 := by omega
  by_cases hc1 : cs k = 1
  · rw [hc1] at hc hr
    obtain ⟨hr', rfl⟩ := hr.last
    have H := Lib.hid h
    have HR := Lib.hid hr'
    clear h he hr hr' hlen hlc
    go_enter Tryz.func245, Tryz.ntmps245
    go_wp2_with (go_at_call 283; refine (is_any _ _).mono ?_; rw [hcl]; rintro e w' ⟨rfl, rfl⟩)
    go_region
    go_wp2
    go_ret2
    have hQ := H.out.took hk HR.out (fun g hg => by rw [hp]; exact hg)
    exact ⟨rfl, _, _, hQ.1, hQ.2, fun g hg => by rw [hp]; exact hg⟩
  · have hr' := hr.tail
    have H := Lib.hid h
    have HR := Lib.hid hr'
    clear h he hr hr' hlen
    go_enter Tryz.func245, Tryz.ntmps245
    go_wp2_with (go_at_call 283; refine (is_any _ _).mono ?_; rw [hcl]; rintro e w' ⟨rfl, rfl⟩)
    go_region
    go_wp2
    go_ret2
    have hQ := H.out.took hk HR.out (fun g hg => by rw [hp]; exact hg)
    exact ⟨rfl, _, _, hQ.1, hQ.2, fun g hg => by rw [hp]; exact hg⟩

/-- How many wait. -/
def nAll (rv : Nat → List Int) : Nat := (rv 0).length + (rv 1).length + (rv 2).length + (rv 3).length
/-- Whether none waits, and none is open. -/
def restB (rv : Nat → List Int) (op : Nat) : Bool := decide (nAll rv + op = 0)
end
end Go.Proofs.YtipifkgmhgkleaaGreatDoor.Qu

namespace Go.Proofs.YtipifkgmhgkleaaGreatDoor.Stk
open Go.RowKit
open Go.Proofs.YtipifkgmhgkleaaGreatDoor.Row

/-- A stack in memory: its room, its numbers, its mark. -/
structure StIs (w : World) (B base room cap : Nat) (p : Option Addr) (ns : List Int) (over : Bool) : Prop where
  r1 : 1 ≤ room
  r2 : room ≤ 4096
  len : ns.length ≤ room
  c0 : w.cell? ⟨B, 0, none⟩ = some (.int .i64 room)
  c1 : w.cell? ⟨B, 1, none⟩ = some (.slice p ns.length cap)
  c2 : w.cell? ⟨B, 2, none⟩ = some (.bool over)
  f1 : w.frozen? ⟨B, 1, none⟩ = false
  f2 : w.frozen? ⟨B, 2, none⟩ = false
  own : w.ownsRow base 3 1 (.slice p ns.length cap) ns.length (cellsZ ns)
  ne : ¬ rowB p B
  base : base ≤ B
theorem StIs.ltB {w : World} {B base room cap : Nat} {p : Option Addr} {ns : List Int} {over : Bool} (h : StIs w B base room cap p ns over) : B < w.heap.size := World.block_lt_of_cell? w _ h.c0
theorem StIs.ltG {w : World} {B base room cap : Nat} {p : Option Addr} {ns : List Int} {over : Bool} (h : StIs w B base room cap p ns over) {g : Nat} (hg : rowB p g) : base ≤ g ∧ g < w.heap.size := owns_lt h.own hg
theorem StIs.kept {w w' : World} {B base room cap : Nat} {p : Option Addr} {ns : List Int} {over : Bool} (h : StIs w B base room cap p ns over) (hB : w'.heap[B]? = w.heap[B]?) (hg : ∀ g, rowB p g → w'.heap[g]? = w.heap[g]?) : StIs w' B base room cap p ns over :=
  ⟨h.r1, h.r2, h.len, (cell_of_block (a := ⟨B, 0, none⟩) hB).trans h.c0, (cell_of_block (a := ⟨B, 1, none⟩) hB).trans h.c1, (cell_of_block (a := ⟨B, 2, none⟩) hB).trans h.c2, (frozen_of_block (a := ⟨B, 1, none⟩) hB).trans h.f1, (frozen_of_block (a := ⟨B, 2, none⟩) hB).trans h.f2, owns_block h.own hg, h.ne, h.base⟩
theorem StIs.later {w w' : World} {B base room cap : Nat} {p : Option Addr} {ns : List Int} {over : Bool} (h : StIs w B base room cap p ns over) (hb : Below w.heap.size w w') : StIs w' B base room cap p ns over :=
  h.kept (hb.block _ h.ltB) (fun g hg => hb.block g (h.ltG hg).2)
theorem StIs.chg {S : Nat → Prop} {w w' : World} {B base room cap : Nat} {p : Option Addr} {ns : List Int} {over : Bool} (h : StIs w B base room cap p ns over) (hc : Chg S w w') (hB : ¬ S B) (hS : ∀ g, rowB p g → ¬ S g) : StIs w' B base room cap p ns over :=
  h.kept (hc.block B h.ltB hB) (fun g hg => hc.block g (h.ltG hg).2 (hS g hg))
theorem StIs.drewN {w : World} {B base room cap : Nat} {p : Option Addr} {ns : List Int} {over : Bool} (h : StIs w B base room cap p ns over) (n : Nat) : StIs (w.drewN n) B base room cap p ns over := h.kept rfl (fun _ _ => rfl)
/-- Another mark. -/
theorem StIs.mark {w : World} {B base room cap : Nat} {p : Option Addr} {ns : List Int} {over : Bool} (h : StIs w B base room cap p ns over) (b : Bool) : StIs (w.setCell ⟨B, 2, none⟩ (.bool b)) B base room cap p ns b :=
  ⟨h.r1, h.r2, h.len, (other (by simp)).trans h.c0, (other (by simp)).trans h.c1, same h.c2, (World.frozen?_setCell ..).trans h.f1, (World.frozen?_setCell ..).trans h.f2, owns_block h.own (fun g hg => Below.heap_setCell _ _ _ _ (fun e => h.ne (by rw [← (show g = B from e)]; exact hg))), h.ne, h.base⟩

theorem new_bad (n : Int) (w : World) (h : n < 1 ∨ 4096 < n) : Calls Tryz.prog 154 #[.int .i64 n] w fun e w' => e = .returned (.tuple #[.pointer none, .int .i64 4]) ∧ w = w' := by
  rcases h with h | h
  · go_enter Tryz.func154, Tryz.ntmps154
    go_wp2
    go_ret2
    exact ⟨rfl, rfl⟩
  · have h1 : ¬ n < 1 := by omega
    go_enter Tryz.func154, Tryz.ntmps154
    go_wp2
    go_ret2
    exact ⟨rfl, rfl⟩
theorem new_good (n : Nat) (z : Int) (hz : z = n) (w : World) (h : 1 ≤ n) (h2 : n ≤ 4096) : Calls Tryz.prog 154 #[.int .i64 z] w fun e w' => e = .returned (.tuple #[.pointer (some ⟨w.heap.size, 0, none⟩), .int .i64 0]) ∧
    StIs w' w.heap.size w.heap.size n 0 none [] false ∧ Below w.heap.size w w' ∧ w'.heap.size = w.heap.size + 1 := by
  subst hz
  have h3 : ¬ (n : Int) < 1 := by omega
  have h4 : ¬ (4096 < (n : Int)) := by omega
  go_enter Tryz.func154, Tryz.ntmps154
  go_wp2
  go_ret2
  exact ⟨rfl, ⟨h, h2, by simp, by simp, by simp, by simp, by simp, by simp, ⟨by simp [cellsZ], .inl ⟨rfl, rfl⟩⟩, by simp [rowB], Nat.le_refl _⟩, (Below.refl _ _).alloc (Nat.le_refl _) _, by simp⟩

end Go.Proofs.YtipifkgmhgkleaaGreatDoor.Stk

namespace Go.Proofs.YtipifkgmhgkleaaGreatDoor.Brd
open Go.RowKit
open Go.Proofs.YtipifkgmhgkleaaGreatDoor.Row

theorem all1_any {B base n q : Nat} {kind count : Int} {ow : Nat → Bool} (m : Nat) (b : Bool) (w : World) (h : BdIs w B base n kind count ow) (hq : w.cell? ⟨q, 0, none⟩ = some (.pointer (some ⟨B, 0, none⟩))) (hm : m < 8) (ho : ow m = b) :
    Calls Tryz.prog 381 #[.int .i64 m, .pointer (some ⟨q, 0, none⟩)] w fun e w' => e = .returned (.bool (!b)) ∧ w = w' := by
  have hc := h.cs m hm
  rw [ho] at hc
  have h8 : (m : Int) < 8 := by omega
  have h0 : (0 : Int) ≤ (m : Int) := by omega
  clear h ho
  cases b
  all_goals
    go_enter Tryz.func381, Tryz.ntmps381
    go_wp2
    go_ret
    exact ⟨rfl, rfl⟩
theorem each_yes {B base n q : Nat} {kind count : Int} {ow : Nat → Bool} (w : World) (h : BdIs w B base n kind count ow) (hq : w.cell? ⟨q, 0, none⟩ = some (.pointer (some ⟨B, 0, none⟩))) (ho : ∀ m, m < n → ow m = false) :
    Calls Tryz.prog 380 #[.pointer (some ⟨B, 0, none⟩), .func (.func 381) #[] #[.pointer (some ⟨q, 0, none⟩)]] w fun e w' => e = .returned (.bool true) ∧ w = w' := by
  have HO := Lib.hid ho
  have HQ := Lib.hid hq
  have hc := h.c0
  have hn := h.n2
  have H := Lib.hid h
  clear h ho hq
  go_enter Tryz.func380, Tryz.ntmps380
  go_wp2
  go_loop [10] (fun i => ∃ c : Nat, c ≤ n ∧ i = .int .i64 c) (fun i => n - (intOf i).toNat)
  case atStart => exact ⟨0, Nat.zero_le _, rfl⟩
  case round =>
    obtain ⟨c, hcn, rfl⟩ := hrel
    by_cases hlt : c < n
    · have i1 : (c : Int) < (n : Int) := by omega
      go_wp2_with (go_at_call 381; refine (all1_any c false _ H.out HQ.out (by omega) (HO.out c hlt)).mono ?_; rintro e w' ⟨rfl, rfl⟩)
      go_round
      case rel => exact ⟨c + 1, by omega, by go_num⟩
      case measure => simp [intOf]; omega
    · have i1 : ¬ (c : Int) < (n : Int) := by omega
      go_wp2
      go_ret
      exact ⟨rfl, rfl⟩
theorem each_no {B base n q : Nat} {kind count : Int} {ow : Nat → Bool} (m : Nat) (w : World) (h : BdIs w B base n kind count ow) (hq : w.cell? ⟨q, 0, none⟩ = some (.pointer (some ⟨B, 0, none⟩))) (hm : m < n) (ho : ow m = true) :
    Calls Tryz.prog 380 #[.pointer (some ⟨B, 0, none⟩), .func (.func 381) #[] #[.pointer (some ⟨q, 0, none⟩)]] w fun e w' => e = .returned (.bool false) ∧ w = w' := by
  have HO := Lib.hid ho
  have HQ := Lib.hid hq
  have hc := h.c0
  have hn := h.n2
  have H := Lib.hid h
  clear h ho hq
  go_enter Tryz.func380, Tryz.ntmps380
  go_wp2
  go_loop [10] (fun i => ∃ c : Nat, c ≤ m ∧ i = .int .i64 c) (fun i => n - (intOf i).toNat)
  case atStart => exact ⟨0, Nat.zero_le _, rfl⟩
  case round =>
    obtain ⟨c, hcn, rfl⟩ := hrel
    have i1 : (c : Int) < (n : Int) := by omega
    cases hb : ow c with
    | false =>
      have HB := Lib.hid hb
      clear hb
      have hne : c ≠ m := fun e => by have := HB.out; rw [e, HO.out] at this; cases this
      go_wp2_with (go_at_call 381; refine (all1_any c false _ H.out HQ.out (by omega) HB.out).mono ?_; rintro e w' ⟨rfl, rfl⟩)
      go_round
      case rel => exact ⟨c + 1, by omega, by go_num⟩
      case measure => simp [intOf]; omega
    | true =>
      have HB := Lib.hid hb
      clear hb
      go_wp2_with (go_at_call 381; refine (all1_any c true _ H.out HQ.out (by omega) HB.out).mono ?_; rintro e w' ⟨rfl, rfl⟩)
      go_ret
      exact ⟨rfl, rfl⟩
theorem all_yes {B base n : Nat} {kind count : Int} {ow : Nat → Bool} (w : World) (h : BdIs w B base n kind count ow) (ho : ∀ m, m < n → ow m = false) : Calls Tryz.prog 364 #[.pointer (some ⟨B, 0, none⟩)] w fun e w' => e = .returned (.bool true) ∧ Below w.heap.size w w' := by
  have HO := Lib.hid ho
  have H := Lib.hid h
  clear h ho
  go_enter Tryz.func364, Tryz.ntmps364
  go_wp2_with (go_at_call 380; refine (each_yes _ (H.out.later ((Below.refl _ _).alloc (Nat.le_refl _) _)) (by simp) HO.out).mono ?_; rintro e w' ⟨rfl, rfl⟩)
  go_ret
  exact ⟨rfl, (Below.refl _ _).alloc (Nat.le_refl _) _⟩
theorem all_no {B base n : Nat} {kind count : Int} {ow : Nat → Bool} (m : Nat) (w : World) (h : BdIs w B base n kind count ow) (hm : m < n) (ho : ow m = true) : Calls Tryz.prog 364 #[.pointer (some ⟨B, 0, none⟩)] w fun e w' => e = .returned (.bool false) ∧ Below w.heap.size w w' := by
  have HO := Lib.hid ho
  have H := Lib.hid h
  clear h ho
  go_enter Tryz.func364, Tryz.ntmps364
  go_wp2_with (go_at_call 380; refine (each_no m _ (H.out.later ((Below.refl _ _).alloc (Nat.le_refl _) _)) (by simp) hm HO.out).mono ?_; rintro e w' ⟨rfl, rfl⟩)
  go_ret
  exact ⟨rfl, (Below.refl _ _).alloc (Nat.le_refl _) _⟩
/-- Whether all have answered. -/
def allB (n : Nat) (ow : Nat → Bool) : Bool := decide (∀ m, m < n → ow m = false)
theorem allB_true {n : Nat} {ow : Nat → Bool} : allB n ow = true ↔ ∀ m, m < n → ow m = false := by simp [allB]
theorem allB_false {n : Nat} {ow : Nat → Bool} (h : allB n ow = false) : ∃ m, m < n ∧ ow m = true := by
  have h1 : ¬ ∀ m, m < n → ow m = false := by simpa [allB] using h
  exact Classical.byContradiction fun hn => h1 fun m hm => by
    cases e : ow m with
    | false => rfl
    | true => exact absurd ⟨m, hm, e⟩ hn
theorem all_any {B base n : Nat} {kind count : Int} {ow : Nat → Bool} (w : World) (h : BdIs w B base n kind count ow) : Calls Tryz.prog 364 #[.pointer (some ⟨B, 0, none⟩)] w fun e w' => e = .returned (.bool (allB n ow)) ∧ Below w.heap.size w w' := by
  cases e : allB n ow with
  | true => exact all_yes w h (allB_true.1 e)
  | false => obtain ⟨m, hm, ho⟩ := allB_false e; exact all_no m w h hm ho

/-- While the request is laid: of the first ones it is known. -/
theorem BdIs.grow {w : World} {B base n c : Nat} {kind count : Int} {ow : Nat → Bool} (h : BdIs w B base n kind count (fun m => decide (m < c) || ow m)) (hc : c < 8) : BdIs (w.setCell ⟨B, 3 + c, none⟩ (.bool true)) B base n kind count (fun m => decide (m < c + 1) || ow m) := by
  have h2 := h.turn hc true
  have e : upd (fun m => decide (m < c) || ow m) c true = fun m => decide (m < c + 1) || ow m := by
    funext m
    unfold upd
    by_cases e : m = c
    · subst e; simp
    · rw [if_neg e]
      show (decide (m < c) || ow m) = (decide (m < c + 1) || ow m)
      have : decide (m < c) = decide (m < c + 1) := by simp only [decide_eq_decide]; omega
      rw [this]
  rwa [e] at h2

set_option maxHeartbeats 1000000 in
theorem ask_yes {B base n : Nat} {kind count : Int} {ow : Nat → Bool} (k : Int) (w : World) (h : BdIs w B base n kind count ow) (ho : allB n ow = true) (h0 : 0 ≤ count) (h1 : count ≤ 1000000) : Calls Tryz.prog 377 #[.pointer (some ⟨B, 0, none⟩), .int .i64 k] w fun e w' => e = .returned (.int .i64 0) ∧
    BdIs w' B base n k (count + 1) (fun m => decide (m < n) || ow m) ∧ Chg (fun k => k = B) w w' := by
  have hc := all_any w h
  rw [ho] at hc
  have HC := Lib.hid hc
  have H := Lib.hid h
  have hn := h.n2
  have hbB := h.base
  clear h ho hc
  go_enter Tryz.func377, Tryz.ntmps377
  go_wp2_with fail
  refine HC.out.mono ?_
  rintro e w1 ⟨rfl, hb⟩
  have h1 := H.out.later hb
  have HB := Lib.hid hb
  have c0 := h1.c0
  have c1 := h1.c1
  have c2 := h1.c2
  have f1 := h1.f 1 (by omega)
  have f2 := h1.f 2 (by omega)
  have H1 := Lib.hid (h1.asked k (count + 1))
  clear h1 hb
  go_wp2
  go_loopw [24] (fun i wr => ∃ c : Nat, c ≤ n ∧ i = .int .i64 c ∧ BdIs wr B base n k (count + 1) (fun m => decide (m < c) || ow m) ∧ Chg (fun k => k = B) w wr) (fun i _ => n - (intOf i).toNat)
  case atStart => exact ⟨0, Nat.zero_le _, rfl, by simpa using H1.out, Chg.set (S := fun k => k = B) (Chg.set (S := fun k => k = B) (Chg.of_below HB.out) (.inl rfl) _) (.inl rfl) _⟩
  case round =>
    obtain ⟨c, hcn, rfl, hs, hbl⟩ := hrel
    have HS := Lib.hid hs
    have HL := Lib.hid hbl
    clear hs hbl
    by_cases hlt : c < n
    · have i1 : (c : Int) < (n : Int) := by omega
      have i2 : (c : Int) < 8 := by omega
      have i0 : (0 : Int) ≤ (c : Int) := by omega
      have cc := HS.out.cs c (by omega)
      have cf := HS.out.f (3 + c) (by omega)
      go_wp2
      go_roundw
      case rel => exact ⟨c + 1, by omega, by go_num, HS.out.grow (by omega), Chg.set (S := fun k => k = B) HL.out (.inl rfl) _⟩
      case measure => simp [intOf]; omega
    · have i1 : ¬ (c : Int) < (n : Int) := by omega
      obtain rfl : c = n := by omega
      go_wp2
      go_ret
      exact ⟨rfl, HS.out, HL.out⟩
end Go.Proofs.YtipifkgmhgkleaaGreatDoor.Brd
