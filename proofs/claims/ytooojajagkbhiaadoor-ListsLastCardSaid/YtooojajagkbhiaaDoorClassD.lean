/-
  The law ClassOrder answers true, for every argument, wherever the table of sizes lies as it was laid.
-/
import Derived.Test.YtooojajagkbhiaaDoorClassC
namespace Go.Proofs.YtooojajagkbhiaaDoor.Class
open Go.RowKit

theorem per_mono {x y c : Int} (hc : isB c = true) (x0 : 16 ≤ x) (hxy : x ≤ y) (y1 : y ≤ 256) : perI x c ≤ perI y c := by
  obtain ⟨s0, s1⟩ := sizI_bd hc
  rw [perI_yes hc (wordsB_true.2 ⟨x0, by omega⟩), perI_yes hc (wordsB_true.2 ⟨by omega, y1⟩)]
  exact Int.ediv_le_ediv (by omega) hxy
theorem per_down {x c : Int} (hc : isB c = true) (hd : isB (c + 1) = true) (x0 : 16 ≤ x) (x1 : x ≤ 256) : perI x (c + 1) ≤ perI x c := by
  rw [perI_yes hc (wordsB_true.2 ⟨x0, x1⟩), perI_yes hd (wordsB_true.2 ⟨x0, x1⟩)]
  rw [isB_true] at hc hd
  have : c = 0 ∨ c = 1 ∨ c = 2 := by omega
  rcases this with rfl | rfl | rfl <;> simp [sizI] <;> omega

end Go.Proofs.YtooojajagkbhiaaDoor.Class
