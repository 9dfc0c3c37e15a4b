/-
  The deed move.
-/
import Derived.Test.YtcdnbheoelnghaaDoorGrI
import Derived.Deep.RegionWith
namespace Go.Proofs.YtcdnbheoelnghaaDoor.Gra
open Go.RowKit Go.Proofs.YtcdnbheoelnghaaDoor.Opr

set_option maxRecDepth 100000 in
set_option maxHeartbeats 2000000 in
theorem move_any {c : C7} {W : World} {G : Nat} {P : Nat → Option Addr} {K : Nat → Nat} {s : GSt} (h : GIs c W G P K s) {m a x : Nat} (hm : m < s.nR) (hr : a < (s.E (4 + 2 * m)).length) (hx : x < (s.E (4 + 2 * m)).length) (k cc : Int) :
    Calls Tryd.prog 48 #[.pointer (some ⟨G, 0, none⟩), .int .i64 m, .agg #[.int .i64 k, .int .i64 a, .int .i64 x, .int .i64 cc]] W fun e w' => e = .returned (.tuple #[.int .i64 ((s.E (4 + 2 * m)).getD x 0), .int .i64 0]) ∧ Ef c G P W w' (s.set (4 + 2 * m) a ((s.E (4 + 2 * m)).getD x 0)) := by
  obtain ⟨w0, hw0⟩ : ∃ w0, W.alloc (.cells #[.int .i64 k, .int .i64 a, .int .i64 x, .int .i64 cc] 39) = w0 := ⟨_, rfl⟩
  have HA : Hid (Below W.heap.size W w0) := Lib.hid (by rw [← hw0]; exact (Below.refl _ _).alloc (Nat.le_refl _) _)
  have hO : CellsAt w0 W.heap.size [.int .i64 k, .int .i64 a, .int .i64 x, .int .i64 cc] := by rw [← hw0]; exact CellsAt.new _ _ _
  have o1 := hO 1 _ rfl
  have o2 := hO 2 _ rfl
  have h0 := h.later HA.out
  obtain ⟨R, e1, g1⟩ := h0.rowR hm
  obtain ⟨Q, e2, g2⟩ := h0.at (V_reg hm) hx
  have g8 := h0.r
  rw [e1] at g8
  rw [e2] at g1
  generalize hv : (s.E (4 + 2 * m)).getD x 0 = v at *
  have HT : Hid (∀ V, Below W.heap.size W V → Calls Tryd.prog 60 #[.pointer (some ⟨G, 0, none⟩), .int .i64 m, .int .i64 a, .int .i64 v] V fun e w' => e = .returned (.tuple #[.int .i64 v, .int .i64 0]) ∧ Ef c G P W w' (s.set (4 + 2 * m) a v)) :=
    Lib.hid fun V hV => (take_is (h.later hV) hm hr v).mono fun e w' h2 => ⟨h2.1, h2.2.before hV⟩
  have HD : Hid (Below W.heap.size W w0.drew) := Lib.hid HA.out.drew
  have m0 : (0 : Int) ≤ (m : Int) := by omega
  have m1 : (m : Int) < (s.nR : Int) := by omega
  have x0 : (0 : Int) ≤ (x : Int) := by omega
  have x1 : (x : Int) < ((s.E (4 + 2 * m)).length : Int) := by omega
  clear hO h hr hm hx h0 e1 e2 hv
  generalize s.nR = nR at *
  generalize (s.E (4 + 2 * m)).length = nE at *
  go_enter Tryd.func48, Tryd.ntmps48
  go_wp2_with fail
  go_region_with (go_at_call 60; refine (HT.out _ (by first | exact HA.out | exact HD.out)).mono ?_; rintro e w7 ⟨rfl, hE⟩; have HE := Lib.hid hE; clear hE)
  all_goals go_wp2_with fail
  all_goals go_ret2
  all_goals exact ⟨rfl, HE.out⟩
end Go.Proofs.YtcdnbheoelnghaaDoor.Gra
