/-
  Two rows of the same cycles are the same; what slices.All of a row of cycles tells.
-/
import Derived.Test.YtodfkklkgcoddaaDoorSsS
import Derived.Test.YtodfkklkgcoddaaDoorTold
import Derived.Deep.QuietTactic
namespace Go.Proofs.YtodfkklkgcoddaaDoor.Ss
open Go.RowKit Go.Shelf
open Go.Proofs.YtodfkklkgcoddaaDoor.Row

set_option maxRecDepth 100000 in
set_option maxHeartbeats 4000000 in
theorem same_any (p q : Option Addr) (cp cq : Nat) (l : List Cy) (W : World) (hp : CyR W p l) (hq : CyR W q l) (hl : l.length ≤ 1000) :
    Calls Tryd.prog 10 #[.slice p l.length cp, .slice q l.length cq] W fun x w' => x = .returned (.bool true) ∧ Below W.heap.size W w' := by
  have HP := Lib.hid hp
  have HQ := Lib.hid hq
  clear hp hq
  go_enter Tryd.func10, Tryd.ntmps10
  go_wp2
  go_loopw [5] (fun iv wr => ∃ i : Nat, i ≤ l.length ∧ iv = .int .i64 i ∧ Below W.heap.size W wr) (fun iv _ => l.length - (intOf iv).toNat)
  case atStart => exact ⟨0, Nat.zero_le _, rfl, Below.refl _ _⟩
  case round =>
    obtain ⟨i, hil, rfl, hb⟩ := hrel
    have HB := Lib.hid hb
    clear hb
    have n0 : (0 : Int) ≤ (i : Int) := Int.natCast_nonneg _
    by_cases hlt : i < l.length
    · have n1 : (i : Int) < (l.length : Int) := by omega
      obtain ⟨b, off, rfl, c0, c1, c2, c3, c4⟩ := (HP.out.later HB.out) i hlt
      obtain ⟨b2, off2, rfl, d0, d1, d2, d3, d4⟩ := (HQ.out.later HB.out) i hlt
      generalize l.getD i cy0 = x at *
      obtain ⟨xn, xs, xm, xr, xf⟩ := x
      simp only at c0 c1 c2 c3 c4 d0 d1 d2 d3 d4
      have e0 : (xn == xn) = true := by simp
      have e1 : (xs == xs) = true := by simp
      have e2 : (xm == xm) = true := by simp
      have e3 : (xr == xr) = true := by simp
      have e4 : (xf == xf) = true := by simp
      go_wp2
      go_quiet (fail)
      go_wp2
      go_roundw
      case rel => exact ⟨i + 1, by omega, by go_num, below_drewN HB.out _⟩
      case measure => simp [intOf]; omega
    · obtain rfl : i = l.length := by omega
      go_wp2
      go_ret
      exact ⟨rfl, HB.out⟩

/-- What All tells in a round. -/
def encC (l : List Cy) (i : Nat) : Array Value := #[.int .i64 (i : Nat), (l.getD i cy0).agg]
theorem all_any (p : Option Addr) (n c : Nat) (w : World) : Calls Tryd.prog 18 #[.slice p n c] w fun e w' => e = .returned (.func (.func 24) #[] #[.pointer (some ⟨w.heap.size, 0, none⟩)]) ∧ w.alloc (.cells #[.slice p n c] 24) = w' := by
  go_enter Tryd.func18, Tryd.ntmps18
  go_wp2
  go_ret
  exact ⟨rfl, rfl⟩

attribute [local go_sem] Oper.semAt_some
set_option maxRecDepth 100000 in
set_option maxHeartbeats 2000000 in
theorem all_told (m B : Nat) (p : Option Addr) (cp : Nat) (l : List Cy) (hlen : l.length ≤ 1048576) (w : World) :
    SeqTold Fence.wide m Tryd.prog 24 #[.pointer (some ⟨B, 0, none⟩)] l.length (encC l) (fun W => W.cell? ⟨B, 0, none⟩ = some (.slice p l.length cp) ∧ CyR W p l) w := by
  refine SeqTold.any (n := 4) ?_
  intro lp J Jx W hW hJ hJx hT hY h0
  obtain ⟨O0, hj0, hO0⟩ := h0
  obtain ⟨hB, _⟩ := hT _ _ _ hj0
  refine callsIn_of_wp Tryd.func24 rfl trivial ?_ rfl
  simp only [Tryd.ntmps24, List.size_toArray, List.length_cons, List.length_nil, Nat.reduceAdd, Nat.reduceSub, Array.replicate_succ, Array.replicate_zero, List.push_toArray, List.append_toArray, List.nil_append, List.cons_append]
  gi_wp2
  clear hB
  gi_loopw [7] (fun i wr => ∃ c : Nat, c ≤ l.length ∧ i = .int .i64 (c : Int) ∧ W.heap.size ≤ wr.heap.size ∧ ∃ O, J O c wr ∧ ∀ k, O k → k < wr.heap.size)
    (fun i _ => l.length - (intOf i).toNat)
  case atStart => exact ⟨0, Nat.zero_le _, rfl, Nat.le_refl _, O0, hj0, hO0⟩
  case round =>
    obtain ⟨c, hc, rfl, hsz, O, hJm, hOm⟩ := hrel
    by_cases hlt : c < l.length
    · obtain ⟨hB, hrd⟩ := hT _ _ _ hJm
      obtain ⟨g, off, rfl, x0, x1, x2, x3, x4⟩ := hrd c (by omega)
      have i1 : (0 : Int) ≤ (c : Int) := Int.natCast_nonneg _
      have i2 : (c : Int) < (l.length : Int) := by omega
      have HCC := Lib.hid (show encC l c = #[.int .i64 (c : Int), (l.getD c cy0).agg] from rfl)
      clear hrd
      generalize l.getD c cy0 = x at *
      obtain ⟨xn, xs, xm, xr, xf⟩ := x
      simp only at x0 x1 x2 x3 x4
      obtain ⟨w2, hw2⟩ : ∃ w2, wr.alloc (.cells #[.int .i64 xn, .int .i64 xs, .int .i64 xm, .int .i64 xr, .int .i64 xf] 32) = w2 := ⟨_, rfl⟩
      have hb2 : Below wr.heap.size wr w2 := by rw [← hw2]; exact (Below.refl _ _).alloc (Nat.le_refl _) _
      have hs2 : w2.heap.size = wr.heap.size + 1 := by rw [← hw2]; simp
      have y0 : w2.cell? ⟨wr.heap.size, 0, none⟩ = some (.int .i64 xn) := by rw [← hw2, World.cell?_alloc_new]; rfl
      have y1 : w2.cell? ⟨wr.heap.size, 1, none⟩ = some (.int .i64 xs) := by rw [← hw2, World.cell?_alloc_new]; rfl
      have y2 : w2.cell? ⟨wr.heap.size, 2, none⟩ = some (.int .i64 xm) := by rw [← hw2, World.cell?_alloc_new]; rfl
      have y3 : w2.cell? ⟨wr.heap.size, 3, none⟩ = some (.int .i64 xr) := by rw [← hw2, World.cell?_alloc_new]; rfl
      have y4 : w2.cell? ⟨wr.heap.size, 4, none⟩ = some (.int .i64 xf) := by rw [← hw2, World.cell?_alloc_new]; rfl
      obtain ⟨fn, tmps, assign, body, hy, hR⟩ := hY O c w2 (by omega) (hJ.alloc hJm hOm hsz hb2) (fun k hk => by have := hOm k hk; omega) (by omega)
      rw [HCC.out] at hy
      unfold Cy.agg at hy
      simp only at hy
      clear hJm hOm hb2
      gi_wp2
      refine hR.mono ?_
      rintro e W3 ⟨O', ht3, (⟨rfl, hJ3⟩ | ⟨rfl, hJx3⟩)⟩
      · have hs3 := ht3.size
        have ho3 := ht3.lt
        gi_wp2
        go_roundw
        case rel => exact ⟨c + 1, by omega, by go_num, by omega, O', hJ3, ho3⟩
        case measure => simp [intOf]; omega
      · have hs3 := ht3.size
        have ho3 := ht3.lt
        gi_wp2
        refine bodyPost_ret (results_none rfl _ _ _) rfl ?_
        exact ⟨⟨_, rfl⟩, O', ho3, by omega, .inr ⟨_, by omega, hJx3⟩⟩
    · obtain rfl : c = l.length := by omega
      gi_wp2
      go_end0
      exact ⟨⟨_, rfl⟩, O, hOm, hsz, .inl hJm⟩
end Go.Proofs.YtodfkklkgcoddaaDoor.Ss
