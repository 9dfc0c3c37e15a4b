/-
  The deed get.
-/
import Derived.Test.YtcdnbheoelnghaaDoorGrI
import Derived.Deep.RegionWith
import Derived.BigRegion
namespace Go.Proofs.YtcdnbheoelnghaaDoor.Gra
open Go.RowKit Go.Proofs.YtcdnbheoelnghaaDoor.Opr
open Go.Proofs.YtcdnbheoelnghaaDoor.Row (rowB rowB_none Chg owns_chg owns_cell owns_lt owns_block owns_slice owns_cap cellsZ cellsZ_length cellsZ_at)
set_option maxRecDepth 100000 in
set_option maxHeartbeats 4000000 in
theorem get_any {c : C7} {W : World} {G : Nat} {P : Nat → Option Addr} {K : Nat → Nat} {s : GSt} (h : GIs c W G P K s) {m a x : Nat} (hm : m < s.nR) (hr : a < (s.E (4 + 2 * m)).length) (hx : x < (s.E 2).length) (k cc : Int) :
    Calls Tryd.prog 45 #[.pointer (some ⟨G, 0, none⟩), .int .i64 m, .agg #[.int .i64 k, .int .i64 a, .int .i64 x, .int .i64 cc]] W fun e w' => e = .returned (.tuple #[.int .i64 ((s.E 2).getD x 0), .int .i64 0]) ∧ Ef c G P W w' (s.set (4 + 2 * m) a ((s.E 2).getD x 0)) := by
  obtain ⟨w0, hw0⟩ : ∃ w0, W.alloc (.cells #[.int .i64 k, .int .i64 a, .int .i64 x, .int .i64 cc] 39) = w0 := ⟨_, rfl⟩
  have HA : Hid (Below W.heap.size W w0) := Lib.hid (by rw [← hw0]; exact (Below.refl _ _).alloc (Nat.le_refl _) _)
  have hO : CellsAt w0 W.heap.size [.int .i64 k, .int .i64 a, .int .i64 x, .int .i64 cc] := by rw [← hw0]; exact CellsAt.new _ _ _
  have o1 := hO 1 _ rfl
  have o2 := hO 2 _ rfl
  have o3 := hO 3 _ rfl
  have h0 := h.later HA.out
  have HD : Hid (Below W.heap.size W w0.drew) := Lib.hid HA.out.drew
  obtain ⟨Q, e2, g2⟩ := h0.at (V_cells s) hx
  have g9 := h0.c
  rw [e2] at g9
  generalize hv : (s.E 2).getD x 0 = v at *
  have HT : Hid (∀ V, Below W.heap.size W V → Calls Tryd.prog 60 #[.pointer (some ⟨G, 0, none⟩), .int .i64 m, .int .i64 a, .int .i64 v] V fun e w' => e = .returned (.tuple #[.int .i64 v, .int .i64 0]) ∧ Ef c G P W w' (s.set (4 + 2 * m) a v)) :=
    Lib.hid fun V hV => (take_is (h.later hV) hm hr v).mono fun e w' h2 => ⟨h2.1, h2.2.before hV⟩
  have x0 : (0 : Int) ≤ (x : Int) := by omega
  have x1 : (x : Int) < ((s.E 2).length : Int) := by omega
  clear hO h hr hm hx h0 e2 hv
  generalize (s.E 2).length = nE at *
  have HD2 := HD
  go_enter Tryd.func45, Tryd.ntmps45
  go_wp2_with fail
  go_region_with (go_at_call 60; refine (HT.out _ (by first | exact HA.out | exact HD.out | exact HD2.out)).mono ?_; rintro e w7 ⟨rfl, hE⟩; have HE := Lib.hid hE; clear hE)
  all_goals go_wp2_with fail
  all_goals go_ret2
  all_goals exact ⟨rfl, HE.out⟩
end Go.Proofs.YtcdnbheoelnghaaDoor.Gra
