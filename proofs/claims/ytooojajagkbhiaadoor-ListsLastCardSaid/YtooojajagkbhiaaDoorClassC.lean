/-
  The laws ClassOf, ClassLeast, ClassOrder answer true, for every argument, wherever the table of sizes lies as it was laid.
-/
import Derived.Test.YtooojajagkbhiaaDoorClassB
namespace Go.Proofs.YtooojajagkbhiaaDoor.Class
open Go.RowKit

theorem quiet_left {P : Program} {f : FuncId} {args : Array Value} {w : World} {n : Nat} {v : Value}
    (h : Calls P f args (w.drewN n) fun e w' => e = .returned v ∧ w.drewN n = w') : Calls P f args (w.drewN n) fun e w'' => e = .returned v ∧ ∃ m, w'' = w.drewN m :=
  h.mono fun _ _ ⟨he, hm⟩ => ⟨he, n, hm.symm⟩
theorem quiet_add_left {P : Program} {f : FuncId} {args : Array Value} {w : World} {a n : Nat} {v : Value}
    (h : Calls P f args (w.drewN (a + n)) fun e w' => e = .returned v ∧ w.drewN (a + n) = w') :
    Calls P f args (w.drewN (a + n)) fun e w'' => e = .returned v ∧ ∃ m, w'' = w.drewN (a + m) :=
  h.mono fun _ _ ⟨he, hm⟩ => ⟨he, n, hm.symm⟩
theorem below_drewN {B : Nat} {a w : World} (h : Below B a w) (n : Nat) : Below B a (w.drewN n) := ⟨h.os, h.tape, h.output, h.size, h.block⟩

theorem per20_0 : (perI 20 0 == 10) = true := by decide
theorem per20_2 : (perI 20 2 == 2) = true := by decide

theorem clsI_bd (f : Int) : 0 ≤ clsI f ∧ clsI f ≤ 3 := by unfold clsI; (repeat' split) <;> omega
/-- A class's room, by its size. -/
theorem room_facts (k : Int) : (2 ≤ sizI k ∧ sizI k ≤ 16 ∧ roomI k = sizI k - 1) ∨ (sizI k = 0 ∧ roomI k = 0) := by
  by_cases h : isB k = true
  · exact .inl ⟨(sizI_bd h).1, (sizI_bd h).2, roomI_yes h⟩
  · have h : isB k = false := by simpa using h
    exact .inr ⟨sizI_no h, roomI_no h⟩

/-- What ClassLeast asks of a class that there is. -/
theorem least_facts {f : Int} (_ : 0 ≤ f) (h1 : f ≤ 15) : isB (clsI f) = true ∧ f ≤ roomI (clsI f) ∧ (0 < clsI f → roomI (clsI f - 1) < f) := by
  have hb := clsI_bd f
  refine ⟨isB_true.2 ⟨by omega, by omega⟩, ?_, fun h => ?_⟩
  · rw [roomI_yes (isB_true.2 ⟨by omega, by omega⟩)]
    unfold clsI; (repeat' split) <;> simp [sizI] <;> omega
  · rw [roomI_yes (isB_true.2 ⟨by omega, by omega⟩)]
    unfold clsI at h ⊢; (repeat' split) <;> simp_all [sizI] <;> omega
theorem least_per {f n : Int} (h0 : 0 ≤ f) (h1 : f ≤ 15) (n0 : 16 ≤ n) (n1 : n ≤ 256) : 1 ≤ perI n (clsI f) ∧ perI n (clsI f) ≤ 256 ∧ 0 ≤ perI n (clsI f) * sizI (clsI f) ∧ perI n (clsI f) * sizI (clsI f) ≤ n ∧ n < (perI n (clsI f) + 1) * sizI (clsI f) ∧ (perI n (clsI f) + 1) * sizI (clsI f) ≤ 100000 := by
  have hk := (least_facts h0 h1).1
  obtain ⟨s0, s1⟩ := sizI_bd hk
  rw [perI_yes hk (wordsB_true.2 ⟨n0, n1⟩)]
  have hp : sizI (clsI f) = 2 ∨ sizI (clsI f) = 4 ∨ sizI (clsI f) = 8 ∨ sizI (clsI f) = 16 := by
    unfold clsI; (repeat' split) <;> simp [sizI]
  rcases hp with h | h | h | h <;> rw [h] <;> omega

end Go.Proofs.YtooojajagkbhiaaDoor.Class
