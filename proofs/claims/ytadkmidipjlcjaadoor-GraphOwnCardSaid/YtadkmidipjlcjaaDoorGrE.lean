/-
  take, field.
-/
import Derived.Test.YtadkmidipjlcjaaDoorGrD
namespace Go.Proofs.YtadkmidipjlcjaaDoor.Gra
open Go.RowKit Go.Proofs.YtadkmidipjlcjaaDoor.Opr

set_option maxRecDepth 100000 in
set_option maxHeartbeats 2000000 in
theorem take_any {g R ro M cM Q qo K cK m r : Nat} (id : Int) {old : Value} (W : World) (h8 : W.cell? ⟨g, 8, none⟩ = some (.slice (some ⟨R, ro, none⟩) M cM)) (hm : m < M)
    (hR : W.cell? ⟨R, ro + m, none⟩ = some (.slice (some ⟨Q, qo, none⟩) K cK)) (hr : r < K) (hQ : W.cell? ⟨Q, qo + r, none⟩ = some old) (hF : W.frozen? ⟨Q, qo + r, none⟩ = false) :
    Calls Tryd.prog 64 #[.pointer (some ⟨g, 0, none⟩), .int .i64 m, .int .i64 r, .int .i64 id] W fun e w' => e = .returned (.tuple #[.int .i64 id, .int .i64 0]) ∧ w' = W.setCell ⟨Q, qo + r, none⟩ (.int .i64 id) := by
  have m0 : (0 : Int) ≤ (m : Int) := by omega
  have m1 : (m : Int) < (M : Int) := by omega
  have r0 : (0 : Int) ≤ (r : Int) := by omega
  have r1 : (r : Int) < (K : Int) := by omega
  go_enter Tryd.func64, Tryd.ntmps64
  go_wp2_with fail
  go_ret2
  exact ⟨rfl, rfl⟩
theorem fieldNil_any (g : Nat) (k : Int) (W : World) :
    Calls Tryd.prog 65 #[.pointer (some ⟨g, 0, none⟩), .int .i64 0, .int .i64 k] W fun e w' => e = .returned (.tuple #[.pointer none, .int .i64 6]) ∧ w' = W := by
  go_enter Tryd.func65, Tryd.ntmps65
  go_wp2_with fail
  go_ret2
  exact ⟨rfl, rfl⟩
set_option maxRecDepth 100000 in
set_option maxHeartbeats 2000000 in
theorem fieldNo_any {g O oo N cN K cK n : Nat} {q : Option Addr} (k : Int) (W : World) (h7 : W.cell? ⟨g, 7, none⟩ = some (.slice (some ⟨O, oo, none⟩) N cN)) (hn : n < N) (hN : N ≤ 1000000)
    (hO : W.cell? ⟨O, oo + n, none⟩ = some (.slice q K cK)) (hk : ¬ (0 ≤ k ∧ k < K)) :
    Calls Tryd.prog 65 #[.pointer (some ⟨g, 0, none⟩), .int .i64 ((n : Int) + 1), .int .i64 k] W fun e w' => e = .returned (.tuple #[.pointer none, .int .i64 7]) ∧ w' = W := by
  have hy := Lib.hid (has_any q K cK k W)
  rw [has_no hk] at hy
  obtain ⟨i, hi⟩ : ∃ i : Int, (n : Int) + 1 = i := ⟨_, rfl⟩
  have hz : (i == 0) = false := by rw [beq_eq_false_iff_ne]; omega
  have hw : IntKind.i64.wrap (i - 1) = (n : Int) := by rw [IntKind.wrap_i64]; omega
  have n0 : (0 : Int) ≤ (n : Int) := by omega
  have n1 : (n : Int) < (N : Int) := by omega
  rw [hi]
  clear hi hk
  go_enter Tryd.func65, Tryd.ntmps65
  go_wp2_with (go_at_call 39; refine hy.out.mono ?_; rintro e w9 ⟨rfl, hw9⟩; obtain rfl : W = w9 := hw9.symm)
  go_ret2
  exact ⟨rfl, rfl⟩
set_option maxRecDepth 100000 in
set_option maxHeartbeats 2000000 in
theorem field_any {g O oo N cN K cK n Q qo k : Nat} (W : World) (h7 : W.cell? ⟨g, 7, none⟩ = some (.slice (some ⟨O, oo, none⟩) N cN)) (hn : n < N) (hN : N ≤ 1000000)
    (hO : W.cell? ⟨O, oo + n, none⟩ = some (.slice (some ⟨Q, qo, none⟩) K cK)) (hk : k < K) :
    Calls Tryd.prog 65 #[.pointer (some ⟨g, 0, none⟩), .int .i64 ((n : Int) + 1), .int .i64 k] W fun e w' => e = .returned (.tuple #[.pointer (some ⟨Q, qo + k, none⟩), .int .i64 0]) ∧ w' = W := by
  have hy := Lib.hid (has_any (some ⟨Q, qo, none⟩) K cK k W)
  rw [has_yes hk] at hy
  obtain ⟨i, hi⟩ : ∃ i : Int, (n : Int) + 1 = i := ⟨_, rfl⟩
  have hz : (i == 0) = false := by rw [beq_eq_false_iff_ne]; omega
  have hw : IntKind.i64.wrap (i - 1) = (n : Int) := by rw [IntKind.wrap_i64]; omega
  have n0 : (0 : Int) ≤ (n : Int) := by omega
  have n1 : (n : Int) < (N : Int) := by omega
  have k0 : (0 : Int) ≤ (k : Int) := by omega
  have k1 : (k : Int) < (K : Int) := by omega
  rw [hi]
  clear hi hk
  go_enter Tryd.func65, Tryd.ntmps65
  go_wp2_with (go_at_call 39; refine hy.out.mono ?_; rintro e w9 ⟨rfl, hw9⟩; obtain rfl : W = w9 := hw9.symm)
  go_ret2
  exact ⟨rfl, rfl⟩
end Go.Proofs.YtadkmidipjlcjaaDoor.Gra
