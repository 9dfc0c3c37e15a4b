/-
  Base texts, one behind the other: RowA RowB.
-/
import Derived.Test.YthpgnlcmpoldfaaGreatDoorRows
import Derived.WalkKit
import Derived.WalkSpells
import Derived.WalkLawsBesides
import Derived.Deep.QuietTactic
import Derived.BigQuiet
import Derived.Deep.RegionHeld3
import Derived.Deep.RegionWith
import Derived.Lib.Hide
import Derived.Lib.Walk
import Derived.Lib.SliceRun
import Derived.Maps.OwnIn
import Derived.Maps.AppendAt
import Derived.Deep.RegionLaw
namespace Go.Proofs.YthpgnlcmpoldfaaGreatDoor.Row
open Go.RowKit

theorem ret_int {k : IntKind} {a b : Int} (h : a = b) : Ending.returned (.int k a) = .returned (.int k b) := by rw [h]
theorem ret_bool {a b : Bool} (h : a = b) : Ending.returned (.bool a) = .returned (.bool b) := by rw [h]
theorem other {W : World} {a b : Addr} {v : Value} (h : a ≠ b) : (W.setCell a v).cell? b = W.cell? b := World.cell?_setCell_other (h := h) ..
theorem same {W : World} {a : Addr} {u v : Value} (h : W.cell? a = some u) : (W.setCell a v).cell? a = some v := World.cell?_setCell_same (h := h) ..
theorem size_setCell (w : World) (p : Addr) (u : Value) : (w.setCell p u).heap.size = w.heap.size := by simp [World.setCell]
theorem cell_of_block {w w' : World} {a : Addr} (h : w'.heap[a.block]? = w.heap[a.block]?) : w'.cell? a = w.cell? a := World.cell?_of_block h
theorem frozen_of_block {w w' : World} {a : Addr} (h : w'.heap[a.block]? = w.heap[a.block]?) : w'.frozen? a = w.frozen? a := by unfold World.frozen?; rw [h]

/-- Numbers of a row, as cells. -/
def cellsZ (l : List Int) : List Value := l.map fun z => .int .i64 z
theorem cellsZ_snoc (l : List Int) (x : Int) : cellsZ (l ++ [x]) = cellsZ l ++ [.int .i64 x] := by simp [cellsZ]
theorem cellsZ_length (l : List Int) : (cellsZ l).length = l.length := by simp [cellsZ]
theorem cellsZ_at (l : List Int) {j : Nat} (h : j < l.length) : (cellsZ l)[j]? = some (.int .i64 (l.getD j 0)) := by simp [cellsZ, List.getD_eq_getElem?_getD, h]
theorem one_at {w : World} {a : Nat} {v : Value} {t : TypeId} (h : a = w.heap.size) : ∀ (j : Nat) (u : Value), [v][j]? = some u → (w.alloc (.cells #[v] t)).cell? ((⟨a, 0, none⟩ : Addr).add j) = some u := by
  subst h
  intro j u hu
  cases j with
  | zero => simp at hu; subst hu; simp [Addr.add]
  | succ j => simp at hu

/-- The block that a row lies in. -/
def rowB (p : Option Addr) (k : Nat) : Prop := p.map (·.block) = some k
theorem rowB_none (k : Nat) : ¬ rowB none k := by simp [rowB]
theorem ownBlock_slice (p : Option Addr) (n cap k : Nat) : (Value.slice p n cap).ownBlock = some k ↔ rowB p k := by
  cases p <;> simp [Value.ownBlock, rowB]

theorem owns_block {w w' : World} {base : Nat} {e : TypeId} {size k cap n : Nat} {p : Option Addr} {xs : List Value} (h : w.ownsRow base e size (.slice p n cap) k xs) (hg : ∀ g, rowB p g → w'.heap[g]? = w.heap[g]?) :
    w'.ownsRow base e size (.slice p n cap) k xs :=
  ⟨h.1, h.2.imp id fun ⟨g, c, cur, e1, e2, e3, r⟩ => ⟨g, c, cur, e1, e2, by cases e1; rw [hg g rfl]; exact e3, r⟩⟩
theorem owns_lt {w : World} {base : Nat} {e : TypeId} {size k cap n : Nat} {p : Option Addr} {xs : List Value} (h : w.ownsRow base e size (.slice p n cap) k xs) {g : Nat} (hg : rowB p g) : base ≤ g ∧ g < w.heap.size := by
  obtain ⟨_, ⟨h2, _⟩ | ⟨g', c, cur, e1, e2, e3, r⟩⟩ := h
  · cases h2; cases hg
  · cases e1
    cases hg
    exact ⟨e2, (Array.getElem?_eq_some_iff.1 e3).1⟩
theorem owns_slice {w : World} {base : Nat} {e : TypeId} {size k : Nat} {v : Value} {xs : List Value} (h : w.ownsRow base e size v k xs) : ∃ p cap, v = .slice p k cap := by
  obtain ⟨_, ⟨h2, h3⟩ | ⟨g, c, cur, e1, r⟩⟩ := h
  · exact ⟨none, 0, by rw [h2, h3]⟩
  · exact ⟨_, _, e1⟩
theorem owns_cap {w : World} {base : Nat} {e : TypeId} {size k n cap : Nat} {p : Option Addr} {xs : List Value} (h : w.ownsRow base e size (.slice p n cap) k xs) : k ≤ cap ∧ cap ≤ maxLen := by
  obtain ⟨_, ⟨h2, h3⟩ | ⟨g, c, cur, e1, _, _, e2, e3, r⟩⟩ := h
  · cases h2; omega
  · cases e1; exact ⟨e2, e3⟩
theorem owns_cell {w : World} {base cap k g n : Nat} {e : TypeId} {xs : List Value} (h : w.ownsRow base e 1 (.slice (some ⟨g, 0, none⟩) n cap) k xs) : ∀ (j : Nat) (u : Value), xs[j]? = some u → w.cell? ⟨g, j, none⟩ = some u := fun j u hu => by
  obtain ⟨h1, ⟨h2, _⟩ | ⟨g', c, cur, e1, e2, e3, e4, e5, e6, e7⟩⟩ := h
  · cases h2
  · cases e1
    have hj : j < k := by have := (List.getElem?_eq_some_iff.1 hu).1; omega
    have e : cur[j]? = some u := by
      have h3 := congrArg (fun l => l[j]?) e7
      simp only [Nat.mul_one, List.getElem?_take, hj, if_true, Array.getElem?_toList] at h3
      rw [h3, hu]
    simp [World.cell?, e3, e]
theorem owns_base {w : World} {b b' : Nat} {e : TypeId} {size k : Nat} {v : Value} {xs : List Value} (hb : b' ≤ b) (h : w.ownsRow b e size v k xs) : w.ownsRow b' e size v k xs :=
  ⟨h.1, h.2.imp id fun ⟨g, c, cur, e1, e2, r⟩ => ⟨g, c, cur, e1, Nat.le_trans hb e2, r⟩⟩
/-- A row of one number at least lies somewhere. -/
theorem owns_some {w : World} {base cap : Nat} {e : TypeId} {p : Option Addr} {l : List Int} (h : w.ownsRow base e 1 (.slice p l.length cap) l.length (cellsZ l)) {j : Nat} (hj : j < l.length) :
    ∃ g, p = some ⟨g, 0, none⟩ ∧ w.cell? ⟨g, j, none⟩ = some (.int .i64 (l.getD j 0)) := by
  have h' := h
  obtain ⟨_, ⟨_, h2⟩ | ⟨g, c, cur, e1, r⟩⟩ := h
  · omega
  · cases e1
    exact ⟨g, rfl, owns_cell h' j _ (cellsZ_at l hj)⟩
/-- A row without its last ones. -/
theorem owns_less {w : World} {base cap n m : Nat} {e : TypeId} {g : Addr} {l : List Value} (h : w.ownsRow base e 1 (.slice (some g) n cap) n l) (hm : m ≤ n) :
    w.ownsRow base e 1 (.slice (some g) m cap) m (l.take m) := by
  obtain ⟨h1, ⟨h2, _⟩ | ⟨g', c, cur, e1, e2, e3, e4, e5, e6, e7⟩⟩ := h
  · cases h2
  · cases e1
    refine ⟨by rw [List.length_take, h1]; omega, .inr ⟨g', _, cur, rfl, e2, e3, by omega, e5, e6, ?_⟩⟩
    rw [← e7, List.take_take]
    simp only [Nat.mul_one]
    rw [Nat.min_eq_left hm]

/-- What has some blocks turned, and new ones. -/
structure Chg (S : Nat → Prop) (w w' : World) : Prop where
  os : w'.os = w.os
  tape : w'.tape = w.tape
  output : w'.output = w.output
  size : w.heap.size ≤ w'.heap.size
  block : ∀ k, k < w.heap.size → ¬ S k → w'.heap[k]? = w.heap[k]?
theorem Chg.refl (S : Nat → Prop) (w : World) : Chg S w w := ⟨rfl, rfl, rfl, Nat.le_refl _, fun _ _ _ => rfl⟩
theorem Chg.of_below {S : Nat → Prop} {a b : World} (h : Below a.heap.size a b) : Chg S a b := ⟨h.os, h.tape, h.output, h.size, fun i hi _ => h.block i hi⟩
theorem Chg.below {S : Nat → Prop} {N : Nat} {a b : World} (h : Chg S a b) (hS : ∀ k, S k → N ≤ k) (hN : N ≤ a.heap.size) : Below N a b :=
  ⟨h.os, h.tape, h.output, h.size, fun i hi => h.block i (by omega) (fun hs => by have := hS i hs; omega)⟩
theorem Chg.drewN {S : Nat → Prop} {a b : World} (h : Chg S a b) (n : Nat) : Chg S a (b.drewN n) := ⟨h.os, h.tape, h.output, h.size, h.block⟩
theorem Chg.trans {S T : Nat → Prop} {a b d : World} (h : Chg S a b) (k : Chg T b d) (hT : ∀ i, T i → S i ∨ a.heap.size ≤ i) : Chg S a d :=
  ⟨k.os.trans h.os, k.tape.trans h.tape, k.output.trans h.output, Nat.le_trans h.size k.size, fun i hi h1 => (k.block i (Nat.lt_of_lt_of_le hi h.size) (fun e => (hT i e).elim h1 (by omega))).trans (h.block i hi h1)⟩
theorem Chg.mono {S T : Nat → Prop} {a b : World} (h : Chg S a b) (hT : ∀ i, S i → T i) : Chg T a b := ⟨h.os, h.tape, h.output, h.size, fun i hi h1 => h.block i hi (fun e => h1 (hT i e))⟩
theorem Chg.alloc {S : Nat → Prop} {a b : World} (h : Chg S a b) (o) : Chg S a (b.alloc o) := h.trans (Chg.of_below ((Below.refl _ b).alloc (Nat.le_refl _) o)) (fun _ e => .inl e)
theorem Chg.set {S : Nat → Prop} {a b : World} (h : Chg S a b) {p : Addr} (hp : S p.block ∨ a.heap.size ≤ p.block) (u : Value) : Chg S a (b.setCell p u) :=
  ⟨h.os, h.tape, h.output, by simpa [World.setCell] using h.size, fun i hi h1 => (Below.heap_setCell b p u i (by
    rintro rfl
    rcases hp with hp | hp
    · exact h1 hp
    · omega)).trans (h.block i hi h1)⟩
theorem Chg.cell {S : Nat → Prop} {a b : World} (h : Chg S a b) {p : Addr} (hl : p.block < a.heap.size) (h1 : ¬ S p.block) : b.cell? p = a.cell? p := cell_of_block (h.block p.block hl h1)
theorem Chg.frozen {S : Nat → Prop} {a b : World} (h : Chg S a b) {p : Addr} (hl : p.block < a.heap.size) (h1 : ¬ S p.block) : b.frozen? p = a.frozen? p := frozen_of_block (h.block p.block hl h1)
theorem owns_chg {S : Nat → Prop} {w w' : World} {base : Nat} {e : TypeId} {size k cap n : Nat} {p : Option Addr} {xs : List Value} (h : w.ownsRow base e size (.slice p n cap) k xs) (hc : Chg S w w') (hS : ∀ g, rowB p g → ¬ S g) : w'.ownsRow base e size (.slice p n cap) k xs :=
  owns_block h (fun g hg => hc.block g (owns_lt h hg).2 (hS g hg))

/-- What an append leaves, wherever the row lies. -/
theorem push_row {Y Y0 w3 : World} {base n m cap : Nat} {e : TypeId} {p : Option Addr} {v' : Value} {ys : List Value} (hb : Below Y.heap.size Y Y0)
    (hown : w3.ownsRow base e 1 v' (n + m) ys) (hg : Y0.grownBy w3 (Value.slice p n cap).ownBlock) (hat : v'.ownBlock = (Value.slice p n cap).ownBlock ∨ v'.ownBlock = some Y0.heap.size) :
    ∃ p' cap', v' = .slice p' (n + m) cap' ∧ Chg (rowB p) Y w3 ∧ ∀ k, rowB p' k → rowB p k ∨ Y.heap.size ≤ k := by
  obtain ⟨p', cap', rfl⟩ := owns_slice hown
  refine ⟨p', cap', rfl, ⟨hg.os.trans hb.os, hg.tape.trans hb.tape, hg.output.trans hb.output, Nat.le_trans hb.size hg.size, fun k hk hn => ?_⟩, fun k hk => ?_⟩
  · exact (hg.block k (Nat.lt_of_lt_of_le hk hb.size) (fun e => hn ((ownBlock_slice p n cap k).1 e.symm))).trans (hb.block k hk)
  · rcases hat with h | h
    · exact .inl ((ownBlock_slice p n cap k).1 (h ▸ (ownBlock_slice p' (n + m) cap' k).2 hk))
    · right
      have := (ownBlock_slice p' (n + m) cap' k).2 hk
      rw [h] at this
      have := Option.some.inj this
      have := hb.size
      omega
/-- What an append that grows in new memory leaves. -/
theorem grow_row {Y Y0 w3 : World} {n : Nat} {e : TypeId} {v' : Value} {ys : List Value} (hb : Below Y.heap.size Y Y0)
    (hown : w3.ownsRow Y0.heap.size e 1 v' n ys) (hg : Y0.grownBy w3 none) :
    ∃ p' cap', v' = .slice p' n cap' ∧ Below Y.heap.size Y w3 ∧ w3.ownsRow Y.heap.size e 1 (.slice p' n cap') n ys := by
  obtain ⟨p', cap', rfl⟩ := owns_slice hown
  exact ⟨p', cap', rfl, ⟨hg.os.trans hb.os, hg.tape.trans hb.tape, hg.output.trans hb.output, Nat.le_trans hb.size hg.size, fun k hk => (hg.block k (Nat.lt_of_lt_of_le hk hb.size) (by simp)).trans (hb.block k hk)⟩, owns_base hb.size hown⟩

theorem infoInt : (Tryz.prog.info? 3).map (fun i => (i.zero, i.size, i.bytes)) = some (some (.int .i64 0), 1, 8) := by kernel_rfl
theorem info_parts {P : Program} {t : TypeId} {z : Value} {a c : Nat} (h : (P.info? t).map (fun i => (i.zero, i.size, i.bytes)) = some (some z, a, c)) : ∃ i, P.info? t = some i ∧ i.zero = some z ∧ i.size = a ∧ i.bytes = c := by
  obtain ⟨i, hi, h2⟩ := Option.map_eq_some_iff.1 h
  simp only [Prod.mk.injEq] at h2
  exact ⟨i, hi, h2.1, h2.2.1, h2.2.2⟩

/-- append to a row that is owned, as one step of a region that draws. -/
theorem step_append_own {P : Program} {ops : Array Oper} {o : Oper} {a : Act} {w : World} {K : Act → World → Prop} {Q : Exit → Act → World → Prop} {E : Prop}
    (hg : o.guard = none) (s x : Operand) (t : TypeId) (hop : o.op = Op.call { callee := Callee.builtin Builtin.append, args := #[s, x], argTypes := #[t, t] })
    (base : Nat) (e : TypeId) (i : TypeInfo) (z : Value) (size bytes : Nat) (ht : P.underlying t = some (.slice e)) (hi : P.info? e = some i) (hz : i.zero = some z)
    (hsize : i.size = size) (hby : i.bytes = bytes) (hzs : z.cells.size = size) (hsz : 0 < size)
    (v : Value) (n : Nat) (xs : List Value) (hs : a.eval s = v) (hown : w.ownsRow base e size v n xs)
    (ad : Addr) (m c : Nat) (news : List Value) (hx : a.eval x = .slice (some ad) m c) (hl : news.length = m * size) (hnews : ∀ j u, news[j]? = some u → w.cell? (ad.add j) = some u) (h1 : ∀ u ∈ news, u.oneCell' = true)
    (h63 : n + m ≤ maxLen) (hbytes : (n + m) * bytes ≤ 140737488355328) (hbase : base ≤ w.heap.size)
    (hK : ∀ v' w', w'.ownsRow base e size v' (n + m) (xs ++ news) → w.grownBy w' v.ownBlock → (v'.ownBlock = v.ownBlock ∨ v'.ownBlock = some w.heap.size) → K (a.put o.dst v') w') :
    if Region.wanted o (yielded ops a.tmps) = true then Oper.wp P o a w K Q else E := by
  have hw : Region.wanted o (yielded ops a.tmps) = true := by simp [Region.wanted, hg]
  rw [if_pos hw]
  obtain ⟨v', w', hr, h2, h3, h4, h5⟩ := run_append_own_at (P := P) w base t o.type e i z size bytes ht hi hz hsize hby hzs hsz v n xs hown ad m c news hl hnews h1 h63 hbytes hbase
  unfold Oper.wp execOp
  simp only [hop, resolve, invoke, builtin, Sem.run_bind, Sem.run_pure, Result.andThen_ok, List.map_toArray, List.map_cons, List.map_nil, hs, hx, hr]
  exact hK _ _ h2 h3 h5
end Go.Proofs.YthpgnlcmpoldfaaGreatDoor.Row

namespace Go.Proofs.YthpgnlcmpoldfaaGreatDoor.Row
open Go.RowKit
attribute [local go_sem] Oper.semAt_some

/-- A row of numbers reads so. -/
def Rd (w : World) (p : Option Addr) (l : List Int) : Prop := (p = none ∧ l = []) ∨ ∃ g off, p = some ⟨g, off, none⟩ ∧ ∀ j, j < l.length → w.cell? ⟨g, off + j, none⟩ = some (.int .i64 (l.getD j 0))
theorem Rd.nil (w : World) : Rd w none [] := .inl ⟨rfl, rfl⟩
theorem Rd.kept {w w' : World} {p : Option Addr} {l : List Int} (h : Rd w p l) (hg : ∀ g, rowB p g → 0 < l.length → w'.heap[g]? = w.heap[g]?) : Rd w' p l :=
  h.imp id fun ⟨g, off, e, hc⟩ => ⟨g, off, e, fun j hj => (cell_of_block (a := ⟨g, off + j, none⟩) (hg g (by rw [e]; rfl) (by omega))).trans (hc j hj)⟩
theorem Rd.lt {w : World} {p : Option Addr} {l : List Int} (h : Rd w p l) {g : Nat} (hg : rowB p g) (hl : 0 < l.length) : g < w.heap.size := by
  rcases h with ⟨_, rfl⟩ | ⟨g', off, rfl, hc⟩
  · simp at hl
  · cases hg
    exact World.block_lt_of_cell? w _ (hc 0 hl)
theorem Rd.later {w w' : World} {p : Option Addr} {l : List Int} (h : Rd w p l) (hb : Below w.heap.size w w') : Rd w' p l := h.kept fun g hg hl => hb.block g (h.lt hg hl)
theorem Rd.chg {S : Nat → Prop} {w w' : World} {p : Option Addr} {l : List Int} (h : Rd w p l) (hc : Chg S w w') (hS : ∀ g, rowB p g → ¬ S g) : Rd w' p l := h.kept fun g hg hl => hc.block g (h.lt hg hl) (hS g hg)
theorem Rd.drewN {w : World} {p : Option Addr} {l : List Int} (h : Rd w p l) (n : Nat) : Rd (w.drewN n) p l := h.kept fun _ _ _ => rfl
theorem Rd.of_owns {w : World} {base cap : Nat} {p : Option Addr} {l : List Int} (h : w.ownsRow base 3 1 (.slice p l.length cap) l.length (cellsZ l)) : Rd w p l := by
  have h' := h
  obtain ⟨_, ⟨h2, h3⟩ | ⟨g, c, cur, e1, r⟩⟩ := h
  · obtain rfl := List.eq_nil_of_length_eq_zero h3
    cases h2
    exact .inl ⟨rfl, rfl⟩
  · cases e1
    exact .inr ⟨g, 0, rfl, fun j hj => by rw [Nat.zero_add]; exact owns_cell h' j _ (cellsZ_at l hj)⟩
theorem Rd.at {w : World} {p : Option Addr} {l : List Int} (h : Rd w p l) {j : Nat} (hj : j < l.length) : ∃ g off, p = some ⟨g, off, none⟩ ∧ w.cell? ⟨g, off + j, none⟩ = some (.int .i64 (l.getD j 0)) := by
  rcases h with ⟨_, rfl⟩ | ⟨g, off, e, hc⟩
  · simp at hj
  · exact ⟨g, off, e, hc j hj⟩

theorem clone_nil (w : World) : Calls Tryz.prog 63 #[.slice none 0 0] w fun e w' => e = .returned (.slice none 0 0) ∧ w = w' := by
  have q22 : ∀ (w : World) (a : Option Addr) (n c n' c' : Nat), (binOp .eql 40 (.slice a n c) (.slice none n' c')).run Tryz.prog w = .ok (.bool a.isNone) w := fun w a n c n' c' => Lib.run_eql_slice_nil w _ _ a n c n' c' Tryz.underlying40
  go_enter Tryz.func63, Tryz.ntmps63
  go_wp2
  go_ret
  exact ⟨rfl, rfl⟩

set_option maxHeartbeats 2000000 in
set_option maxRecDepth 100000 in
theorem clone_some (g off cap : Nat) (l : List Int) (w : World) (hlen : l.length ≤ 2097152) (hc : ∀ j, j < l.length → w.cell? ⟨g, off + j, none⟩ = some (.int .i64 (l.getD j 0))) :
    Calls Tryz.prog 63 #[.slice (some ⟨g, off, none⟩) l.length cap] w fun e w' => ∃ p' cap', e = .returned (.slice p' l.length cap') ∧ w'.ownsRow w.heap.size 3 1 (.slice p' l.length cap') l.length (cellsZ l) ∧ Below w.heap.size w w' := by
  obtain ⟨i0, hi, hz0, hz1, hz2⟩ := info_parts infoInt
  have q22 : ∀ (w : World) (a : Option Addr) (n c n' c' : Nat), (binOp .eql 40 (.slice a n c) (.slice none n' c')).run Tryz.prog w = .ok (.bool a.isNone) w := fun w a n c n' c' => Lib.run_eql_slice_nil w _ _ a n c n' c' Tryz.underlying40
  have A := Lib.hid hc
  clear hc
  go_enter Tryz.func63, Tryz.ntmps63
  go_wp2_with (at_builtin; refine wpList_append_own _ rfl _ _ 40 rfl w.heap.size 3 i0 (.int .i64 0) 1 8 Tryz.underlying40 hi hz0 hz1 hz2 rfl (by decide) _ _ _ rfl (World.ownsRow_made w #[] 0 (Nat.le_refl _) (Nat.zero_le _) rfl) ⟨g, off, none⟩ l.length cap (cellsZ l) rfl ?qc1 ?qc2 ?qc3 ?qc4 ?qc5 ?qc6 ?_)
  case qc1 => simp [cellsZ]
  case qc2 =>
    intro j u hj
    have hjl : j < l.length := by have := (List.getElem?_eq_some_iff.1 hj).1; rwa [cellsZ_length] at this
    rw [cellsZ_at l hjl] at hj
    cases hj
    rw [Addr.add_lit]
    exact Lib.cell?_alloc_some _ (A.out j hjl)
  case qc3 => intro u hu; obtain ⟨x, _, rfl⟩ := List.mem_map.1 hu; rfl
  case qc4 => unfold maxLen; omega
  case qc5 => omega
  case qc6 => simp
  intro v' w1 hown hgrow _
  have hown : w1.ownsRow w.heap.size 3 1 v' l.length (cellsZ l) := by simpa using hown
  obtain ⟨p', cap', rfl⟩ := owns_slice hown
  go_wp2
  go_ret
  refine ⟨p', cap', rfl, hown, ?_⟩
  exact ((Below.refl _ w).alloc (Nat.le_refl _) _).grown hgrow (by simp) (by intro k hk; simp [Value.ownBlock] at hk; omega)

theorem clone_any {cap : Nat} (p : Option Addr) (l : List Int) (w : World) (hlen : l.length ≤ 2097152) (hp : p = none → cap = 0) (h : Rd w p l) :
    Calls Tryz.prog 63 #[.slice p l.length cap] w fun e w' => ∃ p' cap', e = .returned (.slice p' l.length cap') ∧ w'.ownsRow w.heap.size 3 1 (.slice p' l.length cap') l.length (cellsZ l) ∧ Below w.heap.size w w' := by
  rcases h with ⟨rfl, rfl⟩ | ⟨g, off, rfl, hc⟩
  · rw [hp rfl]
    exact (clone_nil w).mono fun e w' ⟨he, hw⟩ => ⟨none, 0, he, by subst hw; exact ⟨rfl, .inl ⟨rfl, rfl⟩⟩, hw ▸ Below.refl _ _⟩
  · exact clone_some g off cap l w hlen hc

/-- Each number of a row reads so. -/
def Rd0 (w : World) (p : Option Addr) (l : List Int) : Prop := ∀ j, j < l.length → ∃ g off, p = some ⟨g, off, none⟩ ∧ w.cell? ⟨g, off + j, none⟩ = some (.int .i64 (l.getD j 0))
theorem Rd.rd0 {w : World} {p : Option Addr} {l : List Int} (h : Rd w p l) : Rd0 w p l := fun _ hj => h.at hj
set_option maxHeartbeats 1000000 in
theorem same_ints (p q : Option Addr) (cp cq : Nat) (l : List Int) (w : World) (hp : Rd0 w p l) (hq : Rd0 w q l) (hl : l.length ≤ 1048576) :
    Calls Tryz.prog 24 #[.slice p l.length cp, .slice q l.length cq] w fun e w' => e = .returned (.bool true) ∧ ∃ n, w' = w.drewN n := by
  have HP := Lib.hid hp
  have HQ := Lib.hid hq
  clear hp hq
  go_enter Tryz.func24, Tryz.ntmps24
  go_wp2
  go_loopw [5] (fun i wr => ∃ c : Nat, c ≤ l.length ∧ i = .int .i64 c ∧ ∃ n, wr = w.drewN n) (fun i _ => l.length - (intOf i).toNat)
  case atStart => exact ⟨0, by omega, rfl, 0, rfl⟩
  case round =>
    obtain ⟨c, hc, rfl, n, rfl⟩ := hrel
    by_cases hlt : c < l.length
    · obtain ⟨b, off, rfl, h1⟩ := HP.out c hlt
      obtain ⟨b', off', rfl, h1'⟩ := HQ.out c hlt
      have i0 : (0 : Int) ≤ (c : Int) := Int.natCast_nonneg _
      have i1 : (c : Int) < (l.length : Int) := by omega
      go_wp2
      go_quiet (fail)
      go_wp2
      go_roundw
      case rel => exact ⟨c + 1, by omega, by go_num, _, rfl⟩
      case measure => simp [intOf]; omega
    · go_wp2
      go_ret
      exact ⟨rfl, _, rfl⟩
theorem same_any (p q : Option Addr) (cp cq : Nat) (l : List Int) (w : World) (hp : Rd w p l) (hq : Rd w q l) (hl : l.length ≤ 1048576) :
    Calls Tryz.prog 24 #[.slice p l.length cp, .slice q l.length cq] w fun e w' => e = .returned (.bool true) ∧ ∃ n, w' = w.drewN n := same_ints p q cp cq l w hp.rd0 hq.rd0 hl
end Go.Proofs.YthpgnlcmpoldfaaGreatDoor.Row
