/-
  The deeds: a map made anew at each call; looked up by a kind.
-/
import Derived.Test.YtadkmidipjlcjaaDoorGrA
import Derived.MapKept
namespace Go.Proofs.YtadkmidipjlcjaaDoor.Gra
open Go.RowKit Go.Proofs.YtadkmidipjlcjaaDoor.Opr Go.MapKept

theorem push_set (w : World) (o m : Obj) : ({ w.alloc m with heap := (w.alloc m).heap.setIfInBounds w.heap.size o } : World) = w.alloc o := by
  have e : (w.heap.push m).setIfInBounds w.heap.size o = w.heap.push o := by
    apply Array.ext_getElem?
    intro i
    rw [Array.getElem?_setIfInBounds, Array.getElem?_push, Array.getElem?_push]
    by_cases h : i = w.heap.size
    · subst h; simp
    · rw [if_neg (fun e => h e.symm), if_neg h, if_neg h]
  show ({ w.alloc m with heap := (w.heap.push m).setIfInBounds w.heap.size o } : World) = _
  rw [e]; rfl
theorem run_put (w : World) (es : Array MapEntry) (clock : Nat) (k : Int) (v : Value) (h : Instr.findNow (.int .i64) (.int .i64 k) es.toList 0 = some none) :
    (Instr.mapUpdate 67 (.map (some w.heap.size)) (.int .i64 k) v).run Tryd.prog (w.alloc (.map es clock)) = .ok () (w.alloc (.map (es.push ⟨.int .i64 k, v, clock⟩) (clock + 1))) := by
  have hb := (heap_alloc w (.map es clock)).1
  have hd := Tryd.underlying3
  simp [Instr.mapUpdate, run_underlying Tryd.underlying67, Go.MapKept.run_getObj_map hb, run_checkKey hd (k := .int .i64 k) rfl, run_findKey hd h, Go.MapKept.run_setObj_map _ hb, Result.andThen]
  exact push_set w _ _
theorem run_got (W : World) (r : Nat) (es : Array MapEntry) (clock : Nat) (k : Int) (i : Nat) (v : Value) (hb : W.heap[r]? = some (.map es clock)) (h : Instr.findNow (.int .i64) (.int .i64 k) es.toList 0 = some (some (i, v))) :
    (Instr.lookup 67 (.map (some r)) (.int .i64 k) false).run Tryd.prog W = .ok v W := by
  have hd := Tryd.underlying3
  simp [Instr.lookup, run_underlying Tryd.underlying67, Go.MapKept.run_getObj_map hb, run_checkKey hd (k := .int .i64 k) rfl, run_findKey hd h, Result.andThen]
/-- The map of deeds. -/
def deedsM : Array MapEntry := #[⟨.int .i64 1, .func (.func 47) #[] #[], 0⟩, ⟨.int .i64 2, .func (.func 48) #[] #[], 1⟩, ⟨.int .i64 3, .func (.func 49) #[] #[], 2⟩, ⟨.int .i64 4, .func (.func 50) #[] #[], 3⟩, ⟨.int .i64 5, .func (.func 51) #[] #[], 4⟩, ⟨.int .i64 6, .func (.func 52) #[] #[], 5⟩, ⟨.int .i64 7, .func (.func 53) #[] #[], 6⟩, ⟨.int .i64 8, .func (.func 54) #[] #[], 7⟩]
set_option maxRecDepth 100000 in
set_option maxHeartbeats 2000000 in
theorem deeds_any (w : World) :
    Calls Tryd.prog 31 #[] w fun e w' => e = .returned (.map (some w.heap.size)) ∧ w' = w.alloc (.map deedsM 8) := by
  have hmm := @run_makeMap Tryd.prog
  have h1 : ∀ w : World, (Instr.mapUpdate 67 (.map (some w.heap.size)) (.int .i64 1) (.func (.func 47) #[] #[])).run Tryd.prog (w.alloc (.map #[] 0)) = .ok () (w.alloc (.map #[⟨.int .i64 1, .func (.func 47) #[] #[], 0⟩] 1)) := fun w => run_put w _ _ _ _ (by rfl)
  have h2 : ∀ w : World, (Instr.mapUpdate 67 (.map (some w.heap.size)) (.int .i64 2) (.func (.func 48) #[] #[])).run Tryd.prog (w.alloc (.map #[⟨.int .i64 1, .func (.func 47) #[] #[], 0⟩] 1)) = .ok () (w.alloc (.map #[⟨.int .i64 1, .func (.func 47) #[] #[], 0⟩, ⟨.int .i64 2, .func (.func 48) #[] #[], 1⟩] 2)) := fun w => run_put w _ _ _ _ (by rfl)
  have h3 : ∀ w : World, (Instr.mapUpdate 67 (.map (some w.heap.size)) (.int .i64 3) (.func (.func 49) #[] #[])).run Tryd.prog (w.alloc (.map #[⟨.int .i64 1, .func (.func 47) #[] #[], 0⟩, ⟨.int .i64 2, .func (.func 48) #[] #[], 1⟩] 2)) = .ok () (w.alloc (.map #[⟨.int .i64 1, .func (.func 47) #[] #[], 0⟩, ⟨.int .i64 2, .func (.func 48) #[] #[], 1⟩, ⟨.int .i64 3, .func (.func 49) #[] #[], 2⟩] 3)) := fun w => run_put w _ _ _ _ (by rfl)
  have h4 : ∀ w : World, (Instr.mapUpdate 67 (.map (some w.heap.size)) (.int .i64 4) (.func (.func 50) #[] #[])).run Tryd.prog (w.alloc (.map #[⟨.int .i64 1, .func (.func 47) #[] #[], 0⟩, ⟨.int .i64 2, .func (.func 48) #[] #[], 1⟩, ⟨.int .i64 3, .func (.func 49) #[] #[], 2⟩] 3)) = .ok () (w.alloc (.map #[⟨.int .i64 1, .func (.func 47) #[] #[], 0⟩, ⟨.int .i64 2, .func (.func 48) #[] #[], 1⟩, ⟨.int .i64 3, .func (.func 49) #[] #[], 2⟩, ⟨.int .i64 4, .func (.func 50) #[] #[], 3⟩] 4)) := fun w => run_put w _ _ _ _ (by rfl)
  have h5 : ∀ w : World, (Instr.mapUpdate 67 (.map (some w.heap.size)) (.int .i64 5) (.func (.func 51) #[] #[])).run Tryd.prog (w.alloc (.map #[⟨.int .i64 1, .func (.func 47) #[] #[], 0⟩, ⟨.int .i64 2, .func (.func 48) #[] #[], 1⟩, ⟨.int .i64 3, .func (.func 49) #[] #[], 2⟩, ⟨.int .i64 4, .func (.func 50) #[] #[], 3⟩] 4)) = .ok () (w.alloc (.map #[⟨.int .i64 1, .func (.func 47) #[] #[], 0⟩, ⟨.int .i64 2, .func (.func 48) #[] #[], 1⟩, ⟨.int .i64 3, .func (.func 49) #[] #[], 2⟩, ⟨.int .i64 4, .func (.func 50) #[] #[], 3⟩, ⟨.int .i64 5, .func (.func 51) #[] #[], 4⟩] 5)) := fun w => run_put w _ _ _ _ (by rfl)
  have h6 : ∀ w : World, (Instr.mapUpdate 67 (.map (some w.heap.size)) (.int .i64 6) (.func (.func 52) #[] #[])).run Tryd.prog (w.alloc (.map #[⟨.int .i64 1, .func (.func 47) #[] #[], 0⟩, ⟨.int .i64 2, .func (.func 48) #[] #[], 1⟩, ⟨.int .i64 3, .func (.func 49) #[] #[], 2⟩, ⟨.int .i64 4, .func (.func 50) #[] #[], 3⟩, ⟨.int .i64 5, .func (.func 51) #[] #[], 4⟩] 5)) = .ok () (w.alloc (.map #[⟨.int .i64 1, .func (.func 47) #[] #[], 0⟩, ⟨.int .i64 2, .func (.func 48) #[] #[], 1⟩, ⟨.int .i64 3, .func (.func 49) #[] #[], 2⟩, ⟨.int .i64 4, .func (.func 50) #[] #[], 3⟩, ⟨.int .i64 5, .func (.func 51) #[] #[], 4⟩, ⟨.int .i64 6, .func (.func 52) #[] #[], 5⟩] 6)) := fun w => run_put w _ _ _ _ (by rfl)
  have h7 : ∀ w : World, (Instr.mapUpdate 67 (.map (some w.heap.size)) (.int .i64 7) (.func (.func 53) #[] #[])).run Tryd.prog (w.alloc (.map #[⟨.int .i64 1, .func (.func 47) #[] #[], 0⟩, ⟨.int .i64 2, .func (.func 48) #[] #[], 1⟩, ⟨.int .i64 3, .func (.func 49) #[] #[], 2⟩, ⟨.int .i64 4, .func (.func 50) #[] #[], 3⟩, ⟨.int .i64 5, .func (.func 51) #[] #[], 4⟩, ⟨.int .i64 6, .func (.func 52) #[] #[], 5⟩] 6)) = .ok () (w.alloc (.map #[⟨.int .i64 1, .func (.func 47) #[] #[], 0⟩, ⟨.int .i64 2, .func (.func 48) #[] #[], 1⟩, ⟨.int .i64 3, .func (.func 49) #[] #[], 2⟩, ⟨.int .i64 4, .func (.func 50) #[] #[], 3⟩, ⟨.int .i64 5, .func (.func 51) #[] #[], 4⟩, ⟨.int .i64 6, .func (.func 52) #[] #[], 5⟩, ⟨.int .i64 7, .func (.func 53) #[] #[], 6⟩] 7)) := fun w => run_put w _ _ _ _ (by rfl)
  have h8 : ∀ w : World, (Instr.mapUpdate 67 (.map (some w.heap.size)) (.int .i64 8) (.func (.func 54) #[] #[])).run Tryd.prog (w.alloc (.map #[⟨.int .i64 1, .func (.func 47) #[] #[], 0⟩, ⟨.int .i64 2, .func (.func 48) #[] #[], 1⟩, ⟨.int .i64 3, .func (.func 49) #[] #[], 2⟩, ⟨.int .i64 4, .func (.func 50) #[] #[], 3⟩, ⟨.int .i64 5, .func (.func 51) #[] #[], 4⟩, ⟨.int .i64 6, .func (.func 52) #[] #[], 5⟩, ⟨.int .i64 7, .func (.func 53) #[] #[], 6⟩] 7)) = .ok () (w.alloc (.map #[⟨.int .i64 1, .func (.func 47) #[] #[], 0⟩, ⟨.int .i64 2, .func (.func 48) #[] #[], 1⟩, ⟨.int .i64 3, .func (.func 49) #[] #[], 2⟩, ⟨.int .i64 4, .func (.func 50) #[] #[], 3⟩, ⟨.int .i64 5, .func (.func 51) #[] #[], 4⟩, ⟨.int .i64 6, .func (.func 52) #[] #[], 5⟩, ⟨.int .i64 7, .func (.func 53) #[] #[], 6⟩, ⟨.int .i64 8, .func (.func 54) #[] #[], 7⟩] 8)) := fun w => run_put w _ _ _ _ (by rfl)
  go_enter Tryd.func31, Tryd.ntmps31
  go_wp2_with fail
  go_ret
  exact ⟨rfl, rfl⟩
theorem deed_got (W : World) (r : Nat) (hb : W.heap[r]? = some (.map deedsM 8)) (k : Nat) (k1 : 1 ≤ k) (k8 : k ≤ 8) :
    ∃ v, deedsM[k - 1]?.map (·.val) = some v ∧ (Instr.lookup 67 (.map (some r)) (.int .i64 k) false).run Tryd.prog W = .ok v W := by
  have hc : k = 1 ∨ k = 2 ∨ k = 3 ∨ k = 4 ∨ k = 5 ∨ k = 6 ∨ k = 7 ∨ k = 8 := by omega
  rcases hc with rfl | rfl | rfl | rfl | rfl | rfl | rfl | rfl
  · exact ⟨_, rfl, run_got W r _ _ _ _ _ hb (by rfl)⟩
  · exact ⟨_, rfl, run_got W r _ _ _ _ _ hb (by rfl)⟩
  · exact ⟨_, rfl, run_got W r _ _ _ _ _ hb (by rfl)⟩
  · exact ⟨_, rfl, run_got W r _ _ _ _ _ hb (by rfl)⟩
  · exact ⟨_, rfl, run_got W r _ _ _ _ _ hb (by rfl)⟩
  · exact ⟨_, rfl, run_got W r _ _ _ _ _ hb (by rfl)⟩
  · exact ⟨_, rfl, run_got W r _ _ _ _ _ hb (by rfl)⟩
  · exact ⟨_, rfl, run_got W r _ _ _ _ _ hb (by rfl)⟩
end Go.Proofs.YtadkmidipjlcjaaDoor.Gra
