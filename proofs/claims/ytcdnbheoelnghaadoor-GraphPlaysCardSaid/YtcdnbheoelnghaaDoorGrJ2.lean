/-
  The deed load.
-/
import Derived.Test.YtcdnbheoelnghaaDoorGrJ
import Derived.Deep.RegionWith
import Derived.BigQuiet
namespace Go.Proofs.YtcdnbheoelnghaaDoor.Gra
open Go.RowKit Go.Proofs.YtcdnbheoelnghaaDoor.Opr
open Go.Proofs.YtcdnbheoelnghaaDoor.Row (rowB rowB_none Chg owns_chg owns_cell owns_lt owns_block owns_slice owns_cap cellsZ cellsZ_length cellsZ_at)
set_option maxRecDepth 100000 in
set_option maxHeartbeats 4000000 in
theorem load_bad {c : C7} {W : World} {G : Nat} {P : Nat → Option Addr} {K : Nat → Nat} {s : GSt} (h : GIs c W G P K s) {m x : Nat} (a cc k v co : Int) (hm : m < s.nR) (hx : x < (s.E (4 + 2 * m)).length) (hv : (s.E (4 + 2 * m)).getD x 0 = v) (hco : co = 6 ∨ co = 7)
    (hF : ∀ V, Below W.heap.size W V → Calls Tryd.prog 61 #[.pointer (some ⟨G, 0, none⟩), .int .i64 v, .int .i64 cc] V fun e w' => e = .returned (.tuple #[.pointer none, .int .i64 co]) ∧ w' = V) :
    Calls Tryd.prog 43 #[.pointer (some ⟨G, 0, none⟩), .int .i64 m, .agg #[.int .i64 k, .int .i64 a, .int .i64 x, .int .i64 cc]] W fun e w' => e = .returned (.tuple #[.int .i64 0, .int .i64 co]) ∧ Below W.heap.size W w' := by
  obtain ⟨w0, hw0⟩ : ∃ w0, W.alloc (.cells #[.int .i64 k, .int .i64 a, .int .i64 x, .int .i64 cc] 39) = w0 := ⟨_, rfl⟩
  have HA : Hid (Below W.heap.size W w0) := Lib.hid (by rw [← hw0]; exact (Below.refl _ _).alloc (Nat.le_refl _) _)
  have hO : CellsAt w0 W.heap.size [.int .i64 k, .int .i64 a, .int .i64 x, .int .i64 cc] := by rw [← hw0]; exact CellsAt.new _ _ _
  have o1 := hO 1 _ rfl
  have o2 := hO 2 _ rfl
  have o3 := hO 3 _ rfl
  have h0 := h.later HA.out
  have HD : Hid (Below W.heap.size W w0.drew) := Lib.hid HA.out.drew
  obtain ⟨R, e1, g1⟩ := h0.rowR hm
  obtain ⟨Q, e2, g2⟩ := h0.at (V_reg hm) hx
  have g8 := h0.r
  rw [e1] at g8
  rw [e2] at g1
  have HF := Lib.hid hF
  have HBD : Hid (∀ n, Below W.heap.size W (w0.drewN n)) := Lib.hid fun n => below_drewN HA.out n
  have hne : (co != 0) = true := by rw [bne_iff_ne]; omega
  have m0 : (0 : Int) ≤ (m : Int) := by omega
  have m1 : (m : Int) < (s.nR : Int) := by omega
  have x0 : (0 : Int) ≤ (x : Int) := by omega
  have x1 : (x : Int) < ((s.E (4 + 2 * m)).length : Int) := by omega
  rw [hv] at g2
  clear hO h hx hm h0 e1 e2 hF hv hco
  generalize s.nR = nR at *
  generalize (s.E (4 + 2 * m)).length = nE at *
  go_enter Tryd.func43, Tryd.ntmps43
  go_wp2_with fail
  go_quiet ((go_at_call 61; exact Calls.quiet_of_same (HF.out _ (by first | exact HA.out | exact HBD.out _))))
  go_wp2_with fail
  go_ret2
  exact ⟨rfl, HBD.out _⟩
set_option maxRecDepth 100000 in
set_option maxHeartbeats 4000000 in
theorem load_any {c : C7} {W : World} {G : Nat} {P : Nat → Option Addr} {K : Nat → Nat} {s : GSt} (h : GIs c W G P K s) {m a x cc n : Nat} (k : Int) (hm : m < s.nR) (hr : a < (s.E (4 + 2 * m)).length) (hx : x < (s.E (4 + 2 * m)).length) (hv : (s.E (4 + 2 * m)).getD x 0 = (n : Int) + 1) (hn : n < s.nO) (hN : s.nO ≤ 1000000) (hk : cc < (s.E (3 + 2 * n)).length) :
    Calls Tryd.prog 43 #[.pointer (some ⟨G, 0, none⟩), .int .i64 m, .agg #[.int .i64 k, .int .i64 a, .int .i64 x, .int .i64 cc]] W fun e w' => e = .returned (.tuple #[.int .i64 ((s.E (3 + 2 * n)).getD cc 0), .int .i64 0]) ∧ Ef c G P W w' (s.set (4 + 2 * m) a ((s.E (3 + 2 * n)).getD cc 0)) := by
  obtain ⟨w0, hw0⟩ : ∃ w0, W.alloc (.cells #[.int .i64 k, .int .i64 a, .int .i64 x, .int .i64 cc] 39) = w0 := ⟨_, rfl⟩
  have HA : Hid (Below W.heap.size W w0) := Lib.hid (by rw [← hw0]; exact (Below.refl _ _).alloc (Nat.le_refl _) _)
  have hO : CellsAt w0 W.heap.size [.int .i64 k, .int .i64 a, .int .i64 x, .int .i64 cc] := by rw [← hw0]; exact CellsAt.new _ _ _
  have o1 := hO 1 _ rfl
  have o2 := hO 2 _ rfl
  have o3 := hO 3 _ rfl
  have h0 := h.later HA.out
  have HD : Hid (Below W.heap.size W w0.drew) := Lib.hid HA.out.drew
  obtain ⟨R, e1, g1⟩ := h0.rowR hm
  obtain ⟨Q, e2, g2⟩ := h0.at (V_reg hm) hx
  have g8 := h0.r
  rw [e1] at g8
  rw [e2] at g1
  obtain ⟨U, e3, g3⟩ := h0.at (V_obj hn) hk
  have HF : Hid (∀ V, Below W.heap.size W V → Calls Tryd.prog 61 #[.pointer (some ⟨G, 0, none⟩), .int .i64 ((n : Int) + 1), .int .i64 cc] V fun e w' => e = .returned (.tuple #[.pointer (some ⟨U, cc, none⟩), .int .i64 0]) ∧ w' = V) := Lib.hid fun V hV => by
    obtain ⟨U', e4, hc⟩ := field_is (h.later hV) hn hN hk
    obtain rfl : U = U' := by rw [e3] at e4; cases e4; rfl
    exact hc
  have HBD : Hid (∀ n, Below W.heap.size W (w0.drewN n)) := Lib.hid fun n => below_drewN HA.out n
  have HBD2 : Hid (∀ n, Below W.heap.size W (w0.drewN n).drew) := Lib.hid fun n => (below_drewN HA.out n).drew
  generalize hv2 : (s.E (3 + 2 * n)).getD cc 0 = v at *
  have HT : Hid (∀ V, Below W.heap.size W V → Calls Tryd.prog 60 #[.pointer (some ⟨G, 0, none⟩), .int .i64 m, .int .i64 a, .int .i64 v] V fun e w' => e = .returned (.tuple #[.int .i64 v, .int .i64 0]) ∧ Ef c G P W w' (s.set (4 + 2 * m) a v)) :=
    Lib.hid fun V hV => (take_is (h.later hV) hm hr v).mono fun e w' h2 => ⟨h2.1, h2.2.before hV⟩
  have m0 : (0 : Int) ≤ (m : Int) := by omega
  have m1 : (m : Int) < (s.nR : Int) := by omega
  have x0 : (0 : Int) ≤ (x : Int) := by omega
  have x1 : (x : Int) < ((s.E (4 + 2 * m)).length : Int) := by omega
  rw [hv] at g2
  obtain ⟨i, hi⟩ : ∃ i : Int, (n : Int) + 1 = i := ⟨_, rfl⟩
  rw [hi] at g2 HF
  clear hO h hr hx hm h0 e1 e2 e3 hv hn hN hk hv2 hi
  generalize s.nR = nR at *
  generalize (s.E (4 + 2 * m)).length = nE at *
  go_enter Tryd.func43, Tryd.ntmps43
  go_wp2_with fail
  go_quiet ((go_at_call 61; exact Calls.quiet_of_same (HF.out _ (by first | exact HA.out | exact HBD.out _))))
  go_wp2_with fail
  go_region_with (go_at_call 60; refine (HT.out _ (by first | exact HBD.out _ | exact HBD2.out _)).mono ?_; rintro e w7 ⟨rfl, hE⟩; have HE := Lib.hid hE; clear hE)
  all_goals go_wp2_with fail
  all_goals go_ret2
  all_goals exact ⟨rfl, HE.out⟩
end Go.Proofs.YtcdnbheoelnghaaDoor.Gra
