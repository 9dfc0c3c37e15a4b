/-
  slices.Clone of a row of numbers, and (*block.Table).Copy.
-/
import Derived.Test.YtooojajagkbhiaaDoorBlkB
namespace Go.Proofs.YtooojajagkbhiaaDoor.Blk
open Go.RowKit Go.Shelf
attribute [local go_sem] Oper.semAt_some

theorem owns_slice {w : World} {base : Nat} {e : TypeId} {size k : Nat} {v : Value} {xs : List Value} (h : w.ownsRow base e size v k xs) : ∃ p cap, v = .slice p k cap := by
  obtain ⟨_, ⟨h2, h3⟩ | ⟨g, c, cur, e1, r⟩⟩ := h
  · exact ⟨none, 0, by rw [h2, h3]⟩
  · exact ⟨_, _, e1⟩
theorem owns_cell {w : World} {base cap k g n : Nat} {e : TypeId} {xs : List Value} (h : w.ownsRow base e 1 (.slice (some ⟨g, 0, none⟩) n cap) k xs) : ∀ (j : Nat) (u : Value), xs[j]? = some u → w.cell? ⟨g, j, none⟩ = some u := fun j u hu => by
  obtain ⟨h1, ⟨h2, _⟩ | ⟨g', c, cur, e1, e2, e3, e4, e5, e6, e7⟩⟩ := h
  · cases h2
  · cases e1
    have hj : j < k := by have := (List.getElem?_eq_some_iff.1 hu).1; omega
    have e : cur[j]? = some u := by
      have h3 := congrArg (fun l => l[j]?) e7
      simp only [Nat.mul_one, List.getElem?_take, hj, if_true, Array.getElem?_toList] at h3
      rw [h3, hu]
    simp [World.cell?, e3, e]
theorem owns_base {w : World} {b b' : Nat} {e : TypeId} {size k : Nat} {v : Value} {xs : List Value} (hb : b' ≤ b) (h : w.ownsRow b e size v k xs) : w.ownsRow b' e size v k xs :=
  ⟨h.1, h.2.imp id fun ⟨g, c, cur, e1, e2, r⟩ => ⟨g, c, cur, e1, Nat.le_trans hb e2, r⟩⟩

theorem clone_nil (w : World) : Calls Tryd.prog 58 #[.slice none 0 0] w fun e w' => e = .returned (.slice none 0 0) ∧ w = w' := by
  have q22 : ∀ (w : World) (a : Option Addr) (n c n' c' : Nat), (binOp .eql 33 (.slice a n c) (.slice none n' c')).run Tryd.prog w = .ok (.bool a.isNone) w := fun w a n c n' c' => Lib.run_eql_slice_nil w _ _ a n c n' c' Tryd.underlying33
  go_enter Tryd.func58, Tryd.ntmps58
  go_wp2
  go_ret
  exact ⟨rfl, rfl⟩

set_option maxHeartbeats 2000000 in
set_option maxRecDepth 100000 in
theorem clone_some (g cap : Nat) (l : List Nat) (w : World) (hlen : l.length ≤ 2097152) (hc : ∀ (j : Nat) (u : Value), (cellsK l)[j]? = some u → w.cell? ⟨g, j, none⟩ = some u) :
    Calls Tryd.prog 58 #[.slice (some ⟨g, 0, none⟩) l.length cap] w fun e w' => ∃ p' cap', e = .returned (.slice p' l.length cap') ∧ w'.ownsRow w.heap.size 3 1 (.slice p' l.length cap') l.length (cellsK l) ∧ Below w.heap.size w w' := by
  obtain ⟨i0, hi, hz0, hz1, hz2⟩ := info_parts infoInt
  have q22 : ∀ (w : World) (a : Option Addr) (n c n' c' : Nat), (binOp .eql 33 (.slice a n c) (.slice none n' c')).run Tryd.prog w = .ok (.bool a.isNone) w := fun w a n c n' c' => Lib.run_eql_slice_nil w _ _ a n c n' c' Tryd.underlying33
  have A := Lib.hid hc
  clear hc
  go_enter Tryd.func58, Tryd.ntmps58
  go_wp2_with (at_builtin; refine wpList_append_own _ rfl _ _ 33 rfl w.heap.size 3 i0 (.int .i64 0) 1 8 Tryd.underlying33 hi hz0 hz1 hz2 rfl (by decide) _ _ _ rfl (World.ownsRow_made w #[] 0 (Nat.le_refl _) (Nat.zero_le _) rfl) ⟨g, 0, none⟩ l.length cap (cellsK l) rfl ?qc1 ?qc2 ?qc3 ?qc4 ?qc5 ?qc6 ?_)
  case qc1 => simp [cellsK]
  case qc2 =>
    intro j u hj
    rw [Addr.add_lit, Nat.zero_add]
    exact Lib.cell?_alloc_some _ (A.out j u hj)
  case qc3 => intro u hu; obtain ⟨x, _, rfl⟩ := List.mem_map.1 hu; rfl
  case qc4 => unfold maxLen; omega
  case qc5 => omega
  case qc6 => simp
  intro v' w1 hown hgrow _
  have hown : w1.ownsRow w.heap.size 3 1 v' l.length (cellsK l) := by simpa using hown
  obtain ⟨p', cap', rfl⟩ := owns_slice hown
  go_wp2
  go_ret
  refine ⟨p', cap', rfl, hown, ?_⟩
  exact ((Below.refl _ w).alloc (Nat.le_refl _) _).grown hgrow (by simp) (by intro k hk; simp [Value.ownBlock] at hk; omega)

theorem clone_any {base cap : Nat} (p : Option Addr) (l : List Nat) (w : World) (hlen : l.length ≤ 2097152) (ho : w.ownsRow base 3 1 (.slice p l.length cap) l.length (cellsK l)) :
    Calls Tryd.prog 58 #[.slice p l.length cap] w fun e w' => ∃ p' cap', e = .returned (.slice p' l.length cap') ∧ w'.ownsRow w.heap.size 3 1 (.slice p' l.length cap') l.length (cellsK l) ∧ Below w.heap.size w w' := by
  have ho2 := ho
  obtain ⟨h1, ⟨h2, h3⟩ | ⟨g', c, cur, e1, _⟩⟩ := ho
  · obtain rfl := List.eq_nil_of_length_eq_zero h3
    cases h2
    exact (clone_nil w).mono fun e w' ⟨he, hw⟩ => ⟨none, 0, he, by subst hw; exact ⟨rfl, .inl ⟨rfl, rfl⟩⟩, hw ▸ Below.refl _ _⟩
  · cases e1
    exact clone_some g' cap l w hlen (owns_cell ho2)

/-- What Copy leaves. -/
theorem copy_fin {w w1 : World} {B base cap : Nat} {c : Cfg} {ks : List Nat} {p : Option Addr} {p' : Option Addr} {cap' : Nat} (h : TbIs w B base c ks p cap) (ho : w1.ownsRow w.heap.size 3 1 (.slice p' ks.length cap') ks.length (cellsK ks)) (hb : Below w.heap.size w w1) :
    TbIs (w1.alloc (.cells #[.int .i64 c.b, .int .i64 c.wd, .int .i64 c.m, .int .i64 c.r, .int .i64 c.ce, .int .i64 c.lg, .int .i64 c.st, .slice p' ks.length cap'] 81)) w1.heap.size w.heap.size c ks p' cap' ∧
      Below w.heap.size w (w1.alloc (.cells #[.int .i64 c.b, .int .i64 c.wd, .int .i64 c.m, .int .i64 c.r, .int .i64 c.ce, .int .i64 c.lg, .int .i64 c.st, .slice p' ks.length cap'] 81)) := by
  refine ⟨⟨h.len, h.cls, by simp, by simp, by simp, by simp, by simp, by simp, by simp, by simp, by simp, owns_block ho (fun g hg => Below.heap_alloc _ _ _ (owns_lt ho hg).2), fun e => ?_, hb.size⟩, hb.alloc hb.size _⟩
  have := (owns_lt ho e).2
  omega

end Go.Proofs.YtooojajagkbhiaaDoor.Blk
