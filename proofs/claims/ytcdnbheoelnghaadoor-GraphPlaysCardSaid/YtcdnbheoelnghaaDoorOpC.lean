/-
  op: numbers, told, Bare.
-/
import Derived.Test.YtcdnbheoelnghaaDoorOpA
import Derived.WalkSmall
import Derived.Deep.RegionWith
namespace Go.Proofs.YtcdnbheoelnghaaDoor.Opr
open Go.RowKit

def inI (n : Int) : Prop := -9223372036854775808 ≤ n ∧ n ≤ 9223372036854775807
theorem lt_of_cell {w : World} {p : Addr} {v : Value} (h : w.cell? p = some v) : p.block < w.heap.size := World.block_lt_of_cell? w _ h
/-- What an operation of three numbers has at a place. -/
def numAt (a b c : Int) (p : Nat) : Int := match p with | 0 => a | 1 => b | _ => c

/-- An operation as it lies. -/
def opV (k a b c : Int) : Value := .agg #[.int .i64 k, .int .i64 a, .int .i64 b, .int .i64 c]

set_option maxRecDepth 100000 in
set_option maxHeartbeats 2000000 in
theorem numbers_any (k a b c : Int) (w : World) (ht : FormTab w) :
    Calls Tryd.prog 40 #[.agg #[.int .i64 k, .int .i64 a, .int .i64 b, .int .i64 c]] w fun e w' => ∃ N, w.heap.size ≤ N ∧ e = .returned (.slice (some ⟨N, 0, none⟩) (usesI k) 3) ∧
      w'.cell? ⟨N, 0, none⟩ = some (.int .i64 a) ∧ w'.cell? ⟨N, 1, none⟩ = some (.int .i64 b) ∧ w'.cell? ⟨N, 2, none⟩ = some (.int .i64 c) ∧ Below w.heap.size w w' := by
  have HT := Lib.hid ht
  clear ht
  have hu := usesI_le k
  generalize hU : usesI k = u at hu
  have HU := Lib.hid hU
  clear hU
  have u0 : (0 : Int) ≤ (u : Int) := by omega
  have u3 : (u : Int) ≤ 3 := by omega
  have HF : Hid (∀ W, Below w.heap.size w W → FormTab W) := Lib.hid fun W h => HT.out.later h
  have HUS : Hid (∀ W, Below w.heap.size w W → Calls Tryd.prog 58 #[.int .i64 k] W fun e w' => e = .returned (.int .i64 u) ∧ w' = W) := Lib.hid fun W h => by rw [← HU.out]; exact uses_any k W (HF.out W h)
  have HK2 : Hid (∀ W W', Below w.heap.size w W ∧ W.cell? ⟨w.heap.size, 0, none⟩ = some (.int .i64 k) ∧ W.cell? ⟨w.heap.size, 1, none⟩ = some (.int .i64 a) ∧ W.cell? ⟨w.heap.size, 2, none⟩ = some (.int .i64 b) ∧ W.cell? ⟨w.heap.size, 3, none⟩ = some (.int .i64 c) → Below W.heap.size W W' →
      Below w.heap.size w W' ∧ W'.cell? ⟨w.heap.size, 0, none⟩ = some (.int .i64 k) ∧ W'.cell? ⟨w.heap.size, 1, none⟩ = some (.int .i64 a) ∧ W'.cell? ⟨w.heap.size, 2, none⟩ = some (.int .i64 b) ∧ W'.cell? ⟨w.heap.size, 3, none⟩ = some (.int .i64 c)) := Lib.hid fun W W' ⟨h0, h1, h2, h3, h4⟩ h => by
    have hl : w.heap.size < W.heap.size := lt_of_cell h1
    exact ⟨h0.trans (h.mono h0.size), (h.cell (p := ⟨_, _, none⟩) hl).trans h1, (h.cell (p := ⟨_, _, none⟩) hl).trans h2, (h.cell (p := ⟨_, _, none⟩) hl).trans h3, (h.cell (p := ⟨_, _, none⟩) hl).trans h4⟩
  have HA : Hid (∀ (W : World) (o : Obj), Below W.heap.size W (W.alloc o)) := Lib.hid fun W o => (Below.refl _ _).alloc (Nat.le_refl _) o
  have HAD : Hid (∀ (W : World) (o : Obj), Below W.heap.size W (W.alloc o).drew) := Lib.hid fun W o => below_drewN ((Below.refl _ _).alloc (Nat.le_refl _) o) 1
  have HK0 : Hid (Below w.heap.size w (w.alloc (.cells #[.int .i64 k, .int .i64 a, .int .i64 b, .int .i64 c] 39)).drew ∧ (w.alloc (.cells #[.int .i64 k, .int .i64 a, .int .i64 b, .int .i64 c] 39)).drew.cell? ⟨w.heap.size, 0, none⟩ = some (.int .i64 k) ∧ (w.alloc (.cells #[.int .i64 k, .int .i64 a, .int .i64 b, .int .i64 c] 39)).drew.cell? ⟨w.heap.size, 1, none⟩ = some (.int .i64 a) ∧ (w.alloc (.cells #[.int .i64 k, .int .i64 a, .int .i64 b, .int .i64 c] 39)).drew.cell? ⟨w.heap.size, 2, none⟩ = some (.int .i64 b) ∧ (w.alloc (.cells #[.int .i64 k, .int .i64 a, .int .i64 b, .int .i64 c] 39)).drew.cell? ⟨w.heap.size, 3, none⟩ = some (.int .i64 c)) := Lib.hid ⟨HAD.out _ _, by simp, by simp, by simp, by simp⟩
  go_enter Tryd.func40, Tryd.ntmps40
  go_wp2_with fail
  go_region_held3 (fun W => Below w.heap.size w W ∧ W.cell? ⟨w.heap.size, 0, none⟩ = some (.int .i64 k) ∧ W.cell? ⟨w.heap.size, 1, none⟩ = some (.int .i64 a) ∧ W.cell? ⟨w.heap.size, 2, none⟩ = some (.int .i64 b) ∧ W.cell? ⟨w.heap.size, 3, none⟩ = some (.int .i64 c))
    (first | exact HK0.out | assumption | exact HK2.out _ _ (by assumption) (HAD.out _ _) | exact HK2.out _ _ (by assumption) (HA.out _ _) | exact HK2.out _ _ HK0.out (HAD.out _ _) | exact HK2.out _ _ HK0.out (HA.out _ _))
    (first
      | (go_at_call 58; refine (HUS.out _ (And.left (by assumption))).mono ?_; rintro e w' ⟨rfl, rfl⟩))
  all_goals go_wp2
  all_goals go_ret
  all_goals exact ⟨w.heap.size + 1, by omega, rfl, by simp, by simp, by simp, below_drewN (((Below.refl _ _).alloc (Nat.le_refl _) _).alloc (by simp) _) 1⟩

/-- The number of a place, or 0. -/
def pk (u : Nat) (f : Nat → Int) (p : Nat) : Int := if p < u then f p else 0
theorem pk_yes {u p : Nat} {f : Nat → Int} (h : p < u) : pk u f p = f p := if_pos h
theorem pk_no {u p : Nat} {f : Nat → Int} (h : ¬ p < u) : pk u f p = 0 := if_neg h
/-- What a number of a place is told as. -/
def TellsB (F : Nat) (bx : Addr) (u : Nat) (f : Nat → Int) (B : Nat) (w : World) : Prop :=
  ∀ (p : Nat) (W : World), p < u → Below B w W → Calls Tryd.prog F #[.int .i64 p, .pointer (some bx)] W fun e w' => e = .returned (.int .i64 (f p)) ∧ Below W.heap.size W w'

theorem uses_cases (k : Nat) : usesK k = 0 ∨ usesK k = 1 ∨ usesK k = 2 ∨ usesK k = 3 := by unfold usesK; split <;> omega
theorem pk_congr {u : Nat} {f g : Nat → Int} (h : ∀ p, p < u → f p = g p) (p : Nat) : pk u f p = pk u g p := by
  unfold pk
  split
  · exact h p (by assumption)
  · rfl

end Go.Proofs.YtcdnbheoelnghaaDoor.Opr
