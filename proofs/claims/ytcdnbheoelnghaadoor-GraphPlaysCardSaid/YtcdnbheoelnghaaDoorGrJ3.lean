/-
  The deed store.
-/
import Derived.Test.YtcdnbheoelnghaaDoorGrJ
import Derived.Deep.RegionWith
import Derived.BigQuiet
import Derived.BigRegion
namespace Go.Proofs.YtcdnbheoelnghaaDoor.Gra
open Go.RowKit Go.Proofs.YtcdnbheoelnghaaDoor.Opr
open Go.Proofs.YtcdnbheoelnghaaDoor.Row (rowB rowB_none Chg owns_chg owns_cell owns_lt owns_block owns_slice owns_cap cellsZ cellsZ_length cellsZ_at)
set_option maxRecDepth 100000 in
set_option maxHeartbeats 4000000 in
theorem store_bad {c : C7} {W : World} {G : Nat} {P : Nat → Option Addr} {K : Nat → Nat} {s : GSt} (h : GIs c W G P K s) {m a : Nat} (x cc k v co : Int) (hm : m < s.nR) (hx : a < (s.E (4 + 2 * m)).length) (hv : (s.E (4 + 2 * m)).getD a 0 = v) (hco : co = 6 ∨ co = 7)
    (hF : ∀ V, Below W.heap.size W V → Calls Tryd.prog 61 #[.pointer (some ⟨G, 0, none⟩), .int .i64 v, .int .i64 x] V fun e w' => e = .returned (.tuple #[.pointer none, .int .i64 co]) ∧ w' = V) :
    Calls Tryd.prog 44 #[.pointer (some ⟨G, 0, none⟩), .int .i64 m, .agg #[.int .i64 k, .int .i64 a, .int .i64 x, .int .i64 cc]] W fun e w' => e = .returned (.tuple #[.int .i64 0, .int .i64 co]) ∧ Below W.heap.size W w' := by
  obtain ⟨w0, hw0⟩ : ∃ w0, W.alloc (.cells #[.int .i64 k, .int .i64 a, .int .i64 x, .int .i64 cc] 39) = w0 := ⟨_, rfl⟩
  have HA : Hid (Below W.heap.size W w0) := Lib.hid (by rw [← hw0]; exact (Below.refl _ _).alloc (Nat.le_refl _) _)
  have hO : CellsAt w0 W.heap.size [.int .i64 k, .int .i64 a, .int .i64 x, .int .i64 cc] := by rw [← hw0]; exact CellsAt.new _ _ _
  have o1 := hO 1 _ rfl
  have o2 := hO 2 _ rfl
  have o3 := hO 3 _ rfl
  have h0 := h.later HA.out
  have HD : Hid (Below W.heap.size W w0.drew) := Lib.hid HA.out.drew
  obtain ⟨R, e1, g1⟩ := h0.rowR hm
  obtain ⟨Q, e2, g2⟩ := h0.at (V_reg hm) hx
  have g8 := h0.r
  rw [e1] at g8
  rw [e2] at g1
  have HF := Lib.hid hF
  have HBD : Hid (∀ n, Below W.heap.size W (w0.drewN n)) := Lib.hid fun n => below_drewN HA.out n
  have hne : (co != 0) = true := by rw [bne_iff_ne]; omega
  have m0 : (0 : Int) ≤ (m : Int) := by omega
  have m1 : (m : Int) < (s.nR : Int) := by omega
  have x0 : (0 : Int) ≤ (a : Int) := by omega
  have x1 : (a : Int) < ((s.E (4 + 2 * m)).length : Int) := by omega
  rw [hv] at g2
  clear hO h hx hm h0 e1 e2 hF hv hco
  generalize s.nR = nR at *
  generalize (s.E (4 + 2 * m)).length = nE at *
  go_enter Tryd.func44, Tryd.ntmps44
  go_wp2_with fail
  go_quiet ((go_at_call 61; exact Calls.quiet_of_same (HF.out _ (by first | exact HA.out | exact HBD.out _))))
  go_wp2_with fail
  go_ret2
  exact ⟨rfl, HBD.out _⟩
set_option maxRecDepth 100000 in
set_option maxHeartbeats 4000000 in
theorem store_any {c : C7} {W : World} {G : Nat} {P : Nat → Option Addr} {K : Nat → Nat} {s : GSt} (h : GIs c W G P K s) {m a x cc n : Nat} (k : Int) (hm : m < s.nR) (hr : cc < (s.E (4 + 2 * m)).length) (hx : a < (s.E (4 + 2 * m)).length) (hv : (s.E (4 + 2 * m)).getD a 0 = (n : Int) + 1) (hn : n < s.nO) (hN : s.nO ≤ 1000000) (hk : x < (s.E (3 + 2 * n)).length) :
    Calls Tryd.prog 44 #[.pointer (some ⟨G, 0, none⟩), .int .i64 m, .agg #[.int .i64 k, .int .i64 a, .int .i64 x, .int .i64 cc]] W fun e w' => e = .returned (.tuple #[.int .i64 0, .int .i64 0]) ∧ Ef c G P W w' (s.set (3 + 2 * n) x ((s.E (4 + 2 * m)).getD cc 0)) := by
  obtain ⟨w0, hw0⟩ : ∃ w0, W.alloc (.cells #[.int .i64 k, .int .i64 a, .int .i64 x, .int .i64 cc] 39) = w0 := ⟨_, rfl⟩
  have HA : Hid (Below W.heap.size W w0) := Lib.hid (by rw [← hw0]; exact (Below.refl _ _).alloc (Nat.le_refl _) _)
  have hO : CellsAt w0 W.heap.size [.int .i64 k, .int .i64 a, .int .i64 x, .int .i64 cc] := by rw [← hw0]; exact CellsAt.new _ _ _
  have o1 := hO 1 _ rfl
  have o2 := hO 2 _ rfl
  have o3 := hO 3 _ rfl
  have h0 := h.later HA.out
  have HD : Hid (Below W.heap.size W w0.drew) := Lib.hid HA.out.drew
  obtain ⟨R, e1, g1⟩ := h0.rowR hm
  obtain ⟨Q, e2, g2⟩ := h0.at (V_reg hm) hx
  have g8 := h0.r
  rw [e1] at g8
  rw [e2] at g1
  obtain ⟨Q2, e5, g5⟩ := h0.at (V_reg hm) hr
  obtain rfl : Q = Q2 := by rw [e2] at e5; cases e5; rfl
  obtain ⟨U, e3, g3, f3, _, hset⟩ := h0.set (V_obj hn) hk
  have HF : Hid (∀ V, Below W.heap.size W V → Calls Tryd.prog 61 #[.pointer (some ⟨G, 0, none⟩), .int .i64 ((n : Int) + 1), .int .i64 x] V fun e w' => e = .returned (.tuple #[.pointer (some ⟨U, x, none⟩), .int .i64 0]) ∧ w' = V) := Lib.hid fun V hV => by
    obtain ⟨U', e4, hc⟩ := field_is (h.later hV) hn hN hk
    obtain rfl : U = U' := by rw [e3] at e4; cases e4; rfl
    exact hc
  have HBD : Hid (∀ n, Below W.heap.size W (w0.drewN n)) := Lib.hid fun n => below_drewN HA.out n
  generalize hv2 : (s.E (4 + 2 * m)).getD cc 0 = v at *
  have HE : Hid (∀ q, Ef c G P W ((w0.setCell ⟨U, x, none⟩ (.int .i64 v)).drewN q).drew (s.set (3 + 2 * n) x v)) := Lib.hid fun q => Ef.behind (Ef.before HA.out ⟨P, K, (hset v).1, (hset v).2, fun _ hx => .inl hx⟩) (below_drewN (Below.refl _ _) q).drew
  have m0 : (0 : Int) ≤ (m : Int) := by omega
  have m1 : (m : Int) < (s.nR : Int) := by omega
  have x0 : (0 : Int) ≤ (a : Int) := by omega
  have x1 : (a : Int) < ((s.E (4 + 2 * m)).length : Int) := by omega
  have y0 : (0 : Int) ≤ (cc : Int) := by omega
  have y1 : (cc : Int) < ((s.E (4 + 2 * m)).length : Int) := by omega
  rw [hv] at g2
  obtain ⟨i, hi⟩ : ∃ i : Int, (n : Int) + 1 = i := ⟨_, rfl⟩
  rw [hi] at g2 HF
  clear hO h hr hx hm h0 e1 e2 e3 e5 hv hn hN hk hv2 hi hset
  generalize s.nR = nR at *
  generalize (s.E (4 + 2 * m)).length = nE at *
  go_enter Tryd.func44, Tryd.ntmps44
  go_wp2_with fail
  go_quiet ((go_at_call 61; exact Calls.quiet_of_same (HF.out _ (by first | exact HA.out | exact HBD.out _))))
  go_wp2_with fail
  go_region
  all_goals go_wp2_with fail
  all_goals go_ret2
  all_goals exact ⟨rfl, HE.out _⟩
end Go.Proofs.YtcdnbheoelnghaaDoor.Gra
