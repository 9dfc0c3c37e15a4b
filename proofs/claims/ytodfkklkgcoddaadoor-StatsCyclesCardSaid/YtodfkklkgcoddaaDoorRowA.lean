/-
  Rows of numbers that are owned: where they lie, what an append leaves; what has some blocks turned.
-/
import Derived.Test.YtodfkklkgcoddaaDoorRows
import Derived.WalkKit
import Derived.WalkSpells
import Derived.WalkLawsBesides
import Derived.Deep.QuietTactic
import Derived.BigQuiet
import Derived.Deep.RegionHeld3
import Derived.Deep.RegionWith
import Derived.Lib.Hide
import Derived.Lib.Walk
import Derived.Lib.SliceRun
import Derived.Maps.OwnIn
import Derived.Maps.AppendAt
import Derived.Deep.RegionLaw
namespace Go.Proofs.YtodfkklkgcoddaaDoor.Row
open Go.RowKit

theorem ret_int {k : IntKind} {a b : Int} (h : a = b) : Ending.returned (.int k a) = .returned (.int k b) := by rw [h]
theorem ret_bool {a b : Bool} (h : a = b) : Ending.returned (.bool a) = .returned (.bool b) := by rw [h]
theorem other {W : World} {a b : Addr} {v : Value} (h : a ≠ b) : (W.setCell a v).cell? b = W.cell? b := World.cell?_setCell_other (h := h) ..
theorem same {W : World} {a : Addr} {u v : Value} (h : W.cell? a = some u) : (W.setCell a v).cell? a = some v := World.cell?_setCell_same (h := h) ..
theorem size_setCell (w : World) (p : Addr) (u : Value) : (w.setCell p u).heap.size = w.heap.size := by simp [World.setCell]
theorem cell_of_block {w w' : World} {a : Addr} (h : w'.heap[a.block]? = w.heap[a.block]?) : w'.cell? a = w.cell? a := World.cell?_of_block h
theorem frozen_of_block {w w' : World} {a : Addr} (h : w'.heap[a.block]? = w.heap[a.block]?) : w'.frozen? a = w.frozen? a := by unfold World.frozen?; rw [h]

/-- Numbers of a row, as cells. -/
def cellsZ (l : List Int) : List Value := l.map fun z => .int .i64 z
theorem cellsZ_snoc (l : List Int) (x : Int) : cellsZ (l ++ [x]) = cellsZ l ++ [.int .i64 x] := by simp [cellsZ]
theorem cellsZ_length (l : List Int) : (cellsZ l).length = l.length := by simp [cellsZ]
theorem cellsZ_at (l : List Int) {j : Nat} (h : j < l.length) : (cellsZ l)[j]? = some (.int .i64 (l.getD j 0)) := by simp [cellsZ, List.getD_eq_getElem?_getD, h]
theorem one_at {w : World} {a : Nat} {v : Value} {t : TypeId} (h : a = w.heap.size) : ∀ (j : Nat) (u : Value), [v][j]? = some u → (w.alloc (.cells #[v] t)).cell? ((⟨a, 0, none⟩ : Addr).add j) = some u := by
  subst h
  intro j u hu
  cases j with
  | zero => simp at hu; subst hu; simp [Addr.add]
  | succ j => simp at hu

/-- The block that a row lies in. -/
def rowB (p : Option Addr) (k : Nat) : Prop := p.map (·.block) = some k
theorem rowB_none (k : Nat) : ¬ rowB none k := by simp [rowB]
theorem ownBlock_slice (p : Option Addr) (n cap k : Nat) : (Value.slice p n cap).ownBlock = some k ↔ rowB p k := by
  cases p <;> simp [Value.ownBlock, rowB]

theorem owns_block {w w' : World} {base : Nat} {e : TypeId} {size k cap n : Nat} {p : Option Addr} {xs : List Value} (h : w.ownsRow base e size (.slice p n cap) k xs) (hg : ∀ g, rowB p g → w'.heap[g]? = w.heap[g]?) :
    w'.ownsRow base e size (.slice p n cap) k xs :=
  ⟨h.1, h.2.imp id fun ⟨g, c, cur, e1, e2, e3, r⟩ => ⟨g, c, cur, e1, e2, by cases e1; rw [hg g rfl]; exact e3, r⟩⟩
theorem owns_lt {w : World} {base : Nat} {e : TypeId} {size k cap n : Nat} {p : Option Addr} {xs : List Value} (h : w.ownsRow base e size (.slice p n cap) k xs) {g : Nat} (hg : rowB p g) : base ≤ g ∧ g < w.heap.size := by
  obtain ⟨_, ⟨h2, _⟩ | ⟨g', c, cur, e1, e2, e3, r⟩⟩ := h
  · cases h2; cases hg
  · cases e1
    cases hg
    exact ⟨e2, (Array.getElem?_eq_some_iff.1 e3).1⟩
theorem owns_slice {w : World} {base : Nat} {e : TypeId} {size k : Nat} {v : Value} {xs : List Value} (h : w.ownsRow base e size v k xs) : ∃ p cap, v = .slice p k cap := by
  obtain ⟨_, ⟨h2, h3⟩ | ⟨g, c, cur, e1, r⟩⟩ := h
  · exact ⟨none, 0, by rw [h2, h3]⟩
  · exact ⟨_, _, e1⟩
theorem owns_cap {w : World} {base : Nat} {e : TypeId} {size k n cap : Nat} {p : Option Addr} {xs : List Value} (h : w.ownsRow base e size (.slice p n cap) k xs) : k ≤ cap ∧ cap ≤ maxLen := by
  obtain ⟨_, ⟨h2, h3⟩ | ⟨g, c, cur, e1, _, _, e2, e3, r⟩⟩ := h
  · cases h2; omega
  · cases e1; exact ⟨e2, e3⟩
theorem owns_cell {w : World} {base cap k g n : Nat} {e : TypeId} {xs : List Value} (h : w.ownsRow base e 1 (.slice (some ⟨g, 0, none⟩) n cap) k xs) : ∀ (j : Nat) (u : Value), xs[j]? = some u → w.cell? ⟨g, j, none⟩ = some u := fun j u hu => by
  obtain ⟨h1, ⟨h2, _⟩ | ⟨g', c, cur, e1, e2, e3, e4, e5, e6, e7⟩⟩ := h
  · cases h2
  · cases e1
    have hj : j < k := by have := (List.getElem?_eq_some_iff.1 hu).1; omega
    have e : cur[j]? = some u := by
      have h3 := congrArg (fun l => l[j]?) e7
      simp only [Nat.mul_one, List.getElem?_take, hj, if_true, Array.getElem?_toList] at h3
      rw [h3, hu]
    simp [World.cell?, e3, e]
theorem owns_base {w : World} {b b' : Nat} {e : TypeId} {size k : Nat} {v : Value} {xs : List Value} (hb : b' ≤ b) (h : w.ownsRow b e size v k xs) : w.ownsRow b' e size v k xs :=
  ⟨h.1, h.2.imp id fun ⟨g, c, cur, e1, e2, r⟩ => ⟨g, c, cur, e1, Nat.le_trans hb e2, r⟩⟩
/-- A row of one number at least lies somewhere. -/
theorem owns_some {w : World} {base cap : Nat} {e : TypeId} {p : Option Addr} {l : List Int} (h : w.ownsRow base e 1 (.slice p l.length cap) l.length (cellsZ l)) {j : Nat} (hj : j < l.length) :
    ∃ g, p = some ⟨g, 0, none⟩ ∧ w.cell? ⟨g, j, none⟩ = some (.int .i64 (l.getD j 0)) := by
  have h' := h
  obtain ⟨_, ⟨_, h2⟩ | ⟨g, c, cur, e1, r⟩⟩ := h
  · omega
  · cases e1
    exact ⟨g, rfl, owns_cell h' j _ (cellsZ_at l hj)⟩
/-- A row without its last ones. -/
theorem owns_less {w : World} {base cap n m : Nat} {e : TypeId} {g : Addr} {l : List Value} (h : w.ownsRow base e 1 (.slice (some g) n cap) n l) (hm : m ≤ n) :
    w.ownsRow base e 1 (.slice (some g) m cap) m (l.take m) := by
  obtain ⟨h1, ⟨h2, _⟩ | ⟨g', c, cur, e1, e2, e3, e4, e5, e6, e7⟩⟩ := h
  · cases h2
  · cases e1
    refine ⟨by rw [List.length_take, h1]; omega, .inr ⟨g', _, cur, rfl, e2, e3, by omega, e5, e6, ?_⟩⟩
    rw [← e7, List.take_take]
    simp only [Nat.mul_one]
    rw [Nat.min_eq_left hm]

/-- What has some blocks turned, and new ones. -/
structure Chg (S : Nat → Prop) (w w' : World) : Prop where
  os : w'.os = w.os
  tape : w'.tape = w.tape
  output : w'.output = w.output
  size : w.heap.size ≤ w'.heap.size
  block : ∀ k, k < w.heap.size → ¬ S k → w'.heap[k]? = w.heap[k]?
theorem Chg.refl (S : Nat → Prop) (w : World) : Chg S w w := ⟨rfl, rfl, rfl, Nat.le_refl _, fun _ _ _ => rfl⟩
theorem Chg.of_below {S : Nat → Prop} {a b : World} (h : Below a.heap.size a b) : Chg S a b := ⟨h.os, h.tape, h.output, h.size, fun i hi _ => h.block i hi⟩
theorem Chg.below {S : Nat → Prop} {N : Nat} {a b : World} (h : Chg S a b) (hS : ∀ k, S k → N ≤ k) (hN : N ≤ a.heap.size) : Below N a b :=
  ⟨h.os, h.tape, h.output, h.size, fun i hi => h.block i (by omega) (fun hs => by have := hS i hs; omega)⟩
theorem Chg.drewN {S : Nat → Prop} {a b : World} (h : Chg S a b) (n : Nat) : Chg S a (b.drewN n) := ⟨h.os, h.tape, h.output, h.size, h.block⟩
theorem Chg.trans {S T : Nat → Prop} {a b d : World} (h : Chg S a b) (k : Chg T b d) (hT : ∀ i, T i → S i ∨ a.heap.size ≤ i) : Chg S a d :=
  ⟨k.os.trans h.os, k.tape.trans h.tape, k.output.trans h.output, Nat.le_trans h.size k.size, fun i hi h1 => (k.block i (Nat.lt_of_lt_of_le hi h.size) (fun e => (hT i e).elim h1 (by omega))).trans (h.block i hi h1)⟩
theorem Chg.mono {S T : Nat → Prop} {a b : World} (h : Chg S a b) (hT : ∀ i, S i → T i) : Chg T a b := ⟨h.os, h.tape, h.output, h.size, fun i hi h1 => h.block i hi (fun e => h1 (hT i e))⟩
theorem Chg.alloc {S : Nat → Prop} {a b : World} (h : Chg S a b) (o) : Chg S a (b.alloc o) := h.trans (Chg.of_below ((Below.refl _ b).alloc (Nat.le_refl _) o)) (fun _ e => .inl e)
theorem Chg.set {S : Nat → Prop} {a b : World} (h : Chg S a b) {p : Addr} (hp : S p.block ∨ a.heap.size ≤ p.block) (u : Value) : Chg S a (b.setCell p u) :=
  ⟨h.os, h.tape, h.output, by simpa [World.setCell] using h.size, fun i hi h1 => (Below.heap_setCell b p u i (by
    rintro rfl
    rcases hp with hp | hp
    · exact h1 hp
    · omega)).trans (h.block i hi h1)⟩
theorem Chg.cell {S : Nat → Prop} {a b : World} (h : Chg S a b) {p : Addr} (hl : p.block < a.heap.size) (h1 : ¬ S p.block) : b.cell? p = a.cell? p := cell_of_block (h.block p.block hl h1)
theorem Chg.frozen {S : Nat → Prop} {a b : World} (h : Chg S a b) {p : Addr} (hl : p.block < a.heap.size) (h1 : ¬ S p.block) : b.frozen? p = a.frozen? p := frozen_of_block (h.block p.block hl h1)
theorem owns_chg {S : Nat → Prop} {w w' : World} {base : Nat} {e : TypeId} {size k cap n : Nat} {p : Option Addr} {xs : List Value} (h : w.ownsRow base e size (.slice p n cap) k xs) (hc : Chg S w w') (hS : ∀ g, rowB p g → ¬ S g) : w'.ownsRow base e size (.slice p n cap) k xs :=
  owns_block h (fun g hg => hc.block g (owns_lt h hg).2 (hS g hg))

/-- What an append leaves, wherever the row lies. -/
theorem push_row {Y Y0 w3 : World} {base n m cap : Nat} {e : TypeId} {p : Option Addr} {v' : Value} {ys : List Value} (hb : Below Y.heap.size Y Y0)
    (hown : w3.ownsRow base e 1 v' (n + m) ys) (hg : Y0.grownBy w3 (Value.slice p n cap).ownBlock) (hat : v'.ownBlock = (Value.slice p n cap).ownBlock ∨ v'.ownBlock = some Y0.heap.size) :
    ∃ p' cap', v' = .slice p' (n + m) cap' ∧ Chg (rowB p) Y w3 ∧ ∀ k, rowB p' k → rowB p k ∨ Y.heap.size ≤ k := by
  obtain ⟨p', cap', rfl⟩ := owns_slice hown
  refine ⟨p', cap', rfl, ⟨hg.os.trans hb.os, hg.tape.trans hb.tape, hg.output.trans hb.output, Nat.le_trans hb.size hg.size, fun k hk hn => ?_⟩, fun k hk => ?_⟩
  · exact (hg.block k (Nat.lt_of_lt_of_le hk hb.size) (fun e => hn ((ownBlock_slice p n cap k).1 e.symm))).trans (hb.block k hk)
  · rcases hat with h | h
    · exact .inl ((ownBlock_slice p n cap k).1 (h ▸ (ownBlock_slice p' (n + m) cap' k).2 hk))
    · right
      have := (ownBlock_slice p' (n + m) cap' k).2 hk
      rw [h] at this
      have := Option.some.inj this
      have := hb.size
      omega
/-- What an append that grows in new memory leaves. -/
theorem grow_row {Y Y0 w3 : World} {n : Nat} {e : TypeId} {v' : Value} {ys : List Value} (hb : Below Y.heap.size Y Y0)
    (hown : w3.ownsRow Y0.heap.size e 1 v' n ys) (hg : Y0.grownBy w3 none) :
    ∃ p' cap', v' = .slice p' n cap' ∧ Below Y.heap.size Y w3 ∧ w3.ownsRow Y.heap.size e 1 (.slice p' n cap') n ys := by
  obtain ⟨p', cap', rfl⟩ := owns_slice hown
  exact ⟨p', cap', rfl, ⟨hg.os.trans hb.os, hg.tape.trans hb.tape, hg.output.trans hb.output, Nat.le_trans hb.size hg.size, fun k hk => (hg.block k (Nat.lt_of_lt_of_le hk hb.size) (by simp)).trans (hb.block k hk)⟩, owns_base hb.size hown⟩

theorem infoInt : (Tryd.prog.info? 3).map (fun i => (i.zero, i.size, i.bytes)) = some (some (.int .i64 0), 1, 8) := by kernel_rfl
theorem info_parts {P : Program} {t : TypeId} {z : Value} {a c : Nat} (h : (P.info? t).map (fun i => (i.zero, i.size, i.bytes)) = some (some z, a, c)) : ∃ i, P.info? t = some i ∧ i.zero = some z ∧ i.size = a ∧ i.bytes = c := by
  obtain ⟨i, hi, h2⟩ := Option.map_eq_some_iff.1 h
  simp only [Prod.mk.injEq] at h2
  exact ⟨i, hi, h2.1, h2.2.1, h2.2.2⟩

/-- append to a row that is owned, as one step of a region that draws. -/
theorem step_append_own {P : Program} {ops : Array Oper} {o : Oper} {a : Act} {w : World} {K : Act → World → Prop} {Q : Exit → Act → World → Prop} {E : Prop}
    (hg : o.guard = none) (s x : Operand) (t : TypeId) (hop : o.op = Op.call { callee := Callee.builtin Builtin.append, args := #[s, x], argTypes := #[t, t] })
    (base : Nat) (e : TypeId) (i : TypeInfo) (z : Value) (size bytes : Nat) (ht : P.underlying t = some (.slice e)) (hi : P.info? e = some i) (hz : i.zero = some z)
    (hsize : i.size = size) (hby : i.bytes = bytes) (hzs : z.cells.size = size) (hsz : 0 < size)
    (v : Value) (n : Nat) (xs : List Value) (hs : a.eval s = v) (hown : w.ownsRow base e size v n xs)
    (ad : Addr) (m c : Nat) (news : List Value) (hx : a.eval x = .slice (some ad) m c) (hl : news.length = m * size) (hnews : ∀ j u, news[j]? = some u → w.cell? (ad.add j) = some u) (h1 : ∀ u ∈ news, u.oneCell' = true)
    (h63 : n + m ≤ maxLen) (hbytes : (n + m) * bytes ≤ 140737488355328) (hbase : base ≤ w.heap.size)
    (hK : ∀ v' w', w'.ownsRow base e size v' (n + m) (xs ++ news) → w.grownBy w' v.ownBlock → (v'.ownBlock = v.ownBlock ∨ v'.ownBlock = some w.heap.size) → K (a.put o.dst v') w') :
    if Region.wanted o (yielded ops a.tmps) = true then Oper.wp P o a w K Q else E := by
  have hw : Region.wanted o (yielded ops a.tmps) = true := by simp [Region.wanted, hg]
  rw [if_pos hw]
  obtain ⟨v', w', hr, h2, h3, h4, h5⟩ := run_append_own_at (P := P) w base t o.type e i z size bytes ht hi hz hsize hby hzs hsz v n xs hown ad m c news hl hnews h1 h63 hbytes hbase
  unfold Oper.wp execOp
  simp only [hop, resolve, invoke, builtin, Sem.run_bind, Sem.run_pure, Result.andThen_ok, List.map_toArray, List.map_cons, List.map_nil, hs, hx, hr]
  exact hK _ _ h2 h3 h5
end Go.Proofs.YtodfkklkgcoddaaDoor.Row
