/-
  The deed set.
-/
import Derived.Test.YtcdnbheoelnghaaDoorGrI
import Derived.Deep.RegionWith
import Derived.BigRegion
namespace Go.Proofs.YtcdnbheoelnghaaDoor.Gra
open Go.RowKit Go.Proofs.YtcdnbheoelnghaaDoor.Opr
open Go.Proofs.YtcdnbheoelnghaaDoor.Row (rowB rowB_none Chg owns_chg owns_cell owns_lt owns_block owns_slice owns_cap cellsZ cellsZ_length cellsZ_at)
set_option maxRecDepth 100000 in
set_option maxHeartbeats 4000000 in
theorem set_any {c : C7} {W : World} {G : Nat} {P : Nat → Option Addr} {K : Nat → Nat} {s : GSt} (h : GIs c W G P K s) {m a x : Nat} (hm : m < s.nR) (hr : x < (s.E (4 + 2 * m)).length) (ha : a < (s.E 2).length) (k cc : Int) :
    Calls Tryd.prog 46 #[.pointer (some ⟨G, 0, none⟩), .int .i64 m, .agg #[.int .i64 k, .int .i64 a, .int .i64 x, .int .i64 cc]] W fun e w' => e = .returned (.tuple #[.int .i64 0, .int .i64 0]) ∧ Ef c G P W w' (s.set 2 a ((s.E (4 + 2 * m)).getD x 0)) := by
  obtain ⟨w0, hw0⟩ : ∃ w0, W.alloc (.cells #[.int .i64 k, .int .i64 a, .int .i64 x, .int .i64 cc] 39) = w0 := ⟨_, rfl⟩
  have HA : Hid (Below W.heap.size W w0) := Lib.hid (by rw [← hw0]; exact (Below.refl _ _).alloc (Nat.le_refl _) _)
  have hO : CellsAt w0 W.heap.size [.int .i64 k, .int .i64 a, .int .i64 x, .int .i64 cc] := by rw [← hw0]; exact CellsAt.new _ _ _
  have o1 := hO 1 _ rfl
  have o2 := hO 2 _ rfl
  have o3 := hO 3 _ rfl
  have h0 := h.later HA.out
  have HD : Hid (Below W.heap.size W w0.drew) := Lib.hid HA.out.drew
  obtain ⟨R, e1, g1⟩ := h0.rowR hm
  obtain ⟨Q, e2, g2⟩ := h0.at (V_reg hm) hr
  obtain ⟨U, e3, g3, f3, _, hset⟩ := h0.set (V_cells s) ha
  have g8 := h0.r
  have g9 := h0.c
  rw [e1] at g8
  rw [e2] at g1
  rw [e3] at g9
  generalize hv : (s.E (4 + 2 * m)).getD x 0 = v at *
  have HE : Hid (Ef c G P W (w0.setCell ⟨U, a, none⟩ (.int .i64 v)).drew (s.set 2 a v)) := Lib.hid (Ef.behind (Ef.before HA.out ⟨P, K, (hset v).1, (hset v).2, fun _ hx => .inl hx⟩) (Below.refl _ _).drew)
  have m0 : (0 : Int) ≤ (m : Int) := by omega
  have m1 : (m : Int) < (s.nR : Int) := by omega
  have x0 : (0 : Int) ≤ (x : Int) := by omega
  have x1 : (x : Int) < ((s.E (4 + 2 * m)).length : Int) := by omega
  have a0 : (0 : Int) ≤ (a : Int) := by omega
  have a1 : (a : Int) < ((s.E 2).length : Int) := by omega
  clear hO h hr hm h0 e1 e2 e3 hv hset ha
  generalize s.nR = nR at *
  generalize (s.E (4 + 2 * m)).length = nE at *
  generalize (s.E 2).length = nC at *
  go_enter Tryd.func46, Tryd.ntmps46
  go_wp2_with fail
  go_region
  all_goals go_wp2_with fail
  all_goals go_ret2
  all_goals exact ⟨rfl, HE.out⟩
end Go.Proofs.YtcdnbheoelnghaaDoor.Gra
