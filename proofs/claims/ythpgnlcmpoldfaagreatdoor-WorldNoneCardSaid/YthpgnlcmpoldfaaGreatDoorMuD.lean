/-
  A row of operations: as it lies, cloned.
-/
import Derived.Test.YthpgnlcmpoldfaaGreatDoorMuC
import Derived.Laws.AppendOwn
namespace Go.Proofs.YthpgnlcmpoldfaaGreatDoor.Mu
open Go.RowKit
open Go.Proofs.YthpgnlcmpoldfaaGreatDoor.Row (Chg rowB rowB_none other same cell_of_block frozen_of_block owns_lt owns_chg owns_cell owns_slice info_parts)

/-- An operation: its kind, its three numbers. -/
abbrev O4 := Int × Int × Int × Int
def o4C (x : O4) : List Value := [.int .i64 x.1, .int .i64 x.2.1, .int .i64 x.2.2.1, .int .i64 x.2.2.2]
def cellsO (l : List O4) : List Value := l.flatMap o4C
theorem o4C_len (x : O4) : (o4C x).length = 4 := rfl
theorem cellsO_len (l : List O4) : (cellsO l).length = l.length * 4 := by
  induction l with
  | nil => rfl
  | cons x l ih => simp only [cellsO, List.flatMap_cons, List.length_append, List.length_cons] at ih ⊢; rw [ih, o4C_len]; omega
theorem cellsO_at {l : List O4} {j t : Nat} (ht : t < 4) {x : O4} (hx : l[j]? = some x) : (cellsO l)[j * 4 + t]? = (o4C x)[t]? := by
  induction l generalizing j with
  | nil => simp at hx
  | cons y l ih =>
    cases j with
    | zero =>
      simp only [List.getElem?_cons_zero, Option.some.injEq] at hx
      subst hx
      simp only [cellsO, List.flatMap_cons, Nat.zero_mul, Nat.zero_add]
      rw [List.getElem?_append_left (by rw [o4C_len]; exact ht)]
    | succ j =>
      simp only [List.getElem?_cons_succ] at hx
      have := ih hx
      simp only [cellsO, List.flatMap_cons] at this ⊢
      rw [List.getElem?_append_right (by rw [o4C_len]; omega), o4C_len, ← this]
      congr 1
      omega
theorem infoOp : (Tryz.prog.info? 102).map (fun i => (i.zero, i.size, i.bytes)) = some (some (.agg #[.int .i64 0, .int .i64 0, .int .i64 0, .int .i64 0]), 4, 32) := by kernel_rfl
/-- Operations that can be read. -/
def OpsR (w : World) (p : Option Addr) (l : List O4) : Prop := (p = none ∧ l = []) ∨ ∃ g off, p = some ⟨g, off, none⟩ ∧ ∀ (j : Nat) (u : Value), (cellsO l)[j]? = some u → w.cell? ⟨g, off + j, none⟩ = some u
theorem OpsR.later {w w' : World} {p : Option Addr} {l : List O4} (h : OpsR w p l) (hb : Below w.heap.size w w') : OpsR w' p l := by
  rcases h with h | ⟨g, off, e, hc⟩
  · exact .inl h
  · exact .inr ⟨g, off, e, fun j u hu => (hb.cell (p := ⟨g, off + j, none⟩) (lt_of_cell (hc j u hu))).trans (hc j u hu)⟩
theorem OpsR.chg {S : Nat → Prop} {w w' : World} {p : Option Addr} {l : List O4} (h : OpsR w p l) (hc : Chg S w w') (hS : ∀ g, rowB p g → ¬ S g) : OpsR w' p l := by
  rcases h with h | ⟨g, off, e, h2⟩
  · exact .inl h
  · exact .inr ⟨g, off, e, fun j u hu => (hc.cell (p := ⟨g, off + j, none⟩) (lt_of_cell (h2 j u hu)) (hS g (by rw [e]; rfl))).trans (h2 j u hu)⟩
theorem owns_cellN {w : World} {base cap k g n size : Nat} {e : TypeId} {xs : List Value} (h : w.ownsRow base e size (.slice (some ⟨g, 0, none⟩) n cap) k xs) : ∀ (j : Nat) (u : Value), xs[j]? = some u → w.cell? ⟨g, j, none⟩ = some u := fun j u hu => by
  obtain ⟨h1, ⟨h2, _⟩ | ⟨g', c, cur, e1, e2, e3, e4, e5, e6, e7⟩⟩ := h
  · cases h2
  · cases e1
    have hj : j < k * size := by have := (List.getElem?_eq_some_iff.1 hu).1; omega
    rw [← e7, List.getElem?_take, if_pos hj] at hu
    unfold World.cell?
    rw [show (⟨g, j, none⟩ : Addr).block = g from rfl, e3]
    rw [← hu]
    simp
theorem OpsR.of_owns {w : World} {base cap : Nat} {p : Option Addr} {l : List O4} (h : w.ownsRow base 102 4 (.slice p l.length cap) l.length (cellsO l)) : OpsR w p l := by
  have h2 := h
  obtain ⟨_, ⟨e, hn⟩ | ⟨g, c, cur, e, r⟩⟩ := h2
  · exact .inl ⟨by injection e, List.eq_nil_of_length_eq_zero hn⟩
  · obtain rfl : p = some ⟨g, 0, none⟩ := by injection e
    exact .inr ⟨g, 0, rfl, fun j u hu => by rw [Nat.zero_add]; exact owns_cellN h j u hu⟩
set_option maxHeartbeats 2000000 in
set_option maxRecDepth 100000 in
theorem clone_ops_some (g off cap : Nat) (l : List O4) (w : World) (hlen : l.length ≤ 100000) (hc : ∀ (j : Nat) (u : Value), (cellsO l)[j]? = some u → w.cell? ⟨g, off + j, none⟩ = some u) :
    Calls Tryz.prog 61 #[.slice (some ⟨g, off, none⟩) l.length cap] w fun e w' => ∃ p' cap', e = .returned (.slice p' l.length cap') ∧ w'.ownsRow w.heap.size 102 4 (.slice p' l.length cap') l.length (cellsO l) ∧ Below w.heap.size w w' := by
  obtain ⟨i0, hi, hz0, hz1, hz2⟩ := info_parts infoOp
  have q22 : ∀ (w : World) (a : Option Addr) (n c n' c' : Nat), (binOp .eql 33 (.slice a n c) (.slice none n' c')).run Tryz.prog w = .ok (.bool a.isNone) w := fun w a n c n' c' => Lib.run_eql_slice_nil w _ _ a n c n' c' Tryz.underlying33
  have A := Lib.hid hc
  clear hc
  go_enter Tryz.func61, Tryz.ntmps61
  go_wp2_with (at_builtin; refine wpList_append_own _ rfl _ _ 33 rfl w.heap.size 102 i0 (.agg #[.int .i64 0, .int .i64 0, .int .i64 0, .int .i64 0]) 4 32 Tryz.underlying33 hi hz0 hz1 hz2 rfl (by decide) _ _ _ rfl (World.ownsRow_made w #[] 0 (Nat.le_refl _) (Nat.zero_le _) rfl) ⟨g, off, none⟩ l.length cap (cellsO l) rfl ?qc1 ?qc2 ?qc3 ?qc4 ?qc5 ?qc6 ?_)
  case qc1 => exact cellsO_len l
  case qc2 =>
    intro j u hj
    rw [Addr.add_lit]
    exact Lib.cell?_alloc_some _ (A.out j u hj)
  case qc3 =>
    intro u hu
    obtain ⟨x, _, hx⟩ := List.mem_flatMap.1 hu
    simp only [o4C, List.mem_cons, List.not_mem_nil, or_false] at hx
    rcases hx with rfl | rfl | rfl | rfl <;> rfl
  case qc4 => unfold maxLen; omega
  case qc5 => omega
  case qc6 => simp
  intro v' w1 hown hgrow _
  have hown : w1.ownsRow w.heap.size 102 4 v' l.length (cellsO l) := by simpa using hown
  obtain ⟨p', cap', rfl⟩ := owns_slice hown
  go_wp2
  go_ret
  refine ⟨p', cap', rfl, hown, ?_⟩
  exact ((Below.refl _ w).alloc (Nat.le_refl _) _).grown hgrow (by simp) (by intro k hk; simp [Value.ownBlock] at hk; omega)
theorem clone_ops_nil (w : World) : Calls Tryz.prog 61 #[.slice none 0 0] w fun e w' => e = .returned (.slice none 0 0) ∧ w' = w := by
  have q22 : ∀ (w : World) (a : Option Addr) (n c n' c' : Nat), (binOp .eql 33 (.slice a n c) (.slice none n' c')).run Tryz.prog w = .ok (.bool a.isNone) w := fun w a n c n' c' => Lib.run_eql_slice_nil w _ _ a n c n' c' Tryz.underlying33
  go_enter Tryz.func61, Tryz.ntmps61
  go_wp2
  go_ret
  exact ⟨rfl, rfl⟩
theorem clone_ops {cap : Nat} (p : Option Addr) (l : List O4) (w : World) (hlen : l.length ≤ 100000) (hp : p = none → cap = 0) (h : OpsR w p l) :
    Calls Tryz.prog 61 #[.slice p l.length cap] w fun e w' => ∃ p' cap', e = .returned (.slice p' l.length cap') ∧ w'.ownsRow w.heap.size 102 4 (.slice p' l.length cap') l.length (cellsO l) ∧ Below w.heap.size w w' := by
  rcases h with ⟨rfl, rfl⟩ | ⟨g, off, rfl, hc⟩
  · rw [hp rfl]
    exact (clone_ops_nil w).mono fun e w' ⟨he, hw⟩ => ⟨none, 0, he, by subst hw; exact ⟨rfl, .inl ⟨rfl, rfl⟩⟩, hw ▸ Below.refl _ _⟩
  · exact clone_ops_some g off cap l w hlen hc
end Go.Proofs.YthpgnlcmpoldfaaGreatDoor.Mu
