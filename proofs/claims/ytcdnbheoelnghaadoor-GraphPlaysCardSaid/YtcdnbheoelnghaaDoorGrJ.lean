/-
  The deed field, by what there is.
-/
import Derived.Test.YtcdnbheoelnghaaDoorGrI
import Derived.Deep.RegionWith
import Derived.BigRegion
namespace Go.Proofs.YtcdnbheoelnghaaDoor.Gra
open Go.RowKit Go.Proofs.YtcdnbheoelnghaaDoor.Opr
open Go.Proofs.YtcdnbheoelnghaaDoor.Row (rowB rowB_none Chg owns_chg owns_cell owns_lt owns_block owns_slice owns_cap cellsZ cellsZ_length cellsZ_at)
set_option maxRecDepth 100000 in
set_option maxHeartbeats 4000000 in
theorem field_no {c : C7} {W : World} {G : Nat} {P : Nat → Option Addr} {K : Nat → Nat} {s : GSt} (h : GIs c W G P K s) (k : Int) {n : Nat} (hn : n < s.nO) (hN : s.nO ≤ 1000000) (hk : ¬ (0 ≤ k ∧ k < (s.E (3 + 2 * n)).length)) :
    Calls Tryd.prog 61 #[.pointer (some ⟨G, 0, none⟩), .int .i64 ((n : Int) + 1), .int .i64 k] W fun e w' => e = .returned (.tuple #[.pointer none, .int .i64 7]) ∧ w' = W := by
  obtain ⟨R, e1, g1⟩ := h.rowO hn
  have g7 := h.o
  rw [e1] at g7
  exact fieldNo_any (oo := 0) k W g7 hn hN (by rw [Nat.zero_add]; exact g1) hk
theorem field_is {c : C7} {W : World} {G : Nat} {P : Nat → Option Addr} {K : Nat → Nat} {s : GSt} (h : GIs c W G P K s) {n k : Nat} (hn : n < s.nO) (hN : s.nO ≤ 1000000) (hk : k < (s.E (3 + 2 * n)).length) :
    ∃ Q, P (3 + 2 * n) = some ⟨Q, 0, none⟩ ∧ Calls Tryd.prog 61 #[.pointer (some ⟨G, 0, none⟩), .int .i64 ((n : Int) + 1), .int .i64 k] W fun e w' => e = .returned (.tuple #[.pointer (some ⟨Q, k, none⟩), .int .i64 0]) ∧ w' = W := by
  obtain ⟨R, e1, g1⟩ := h.rowO hn
  obtain ⟨Q, e2, _⟩ := h.at (V_obj hn) hk
  have g7 := h.o
  rw [e1] at g7
  rw [e2] at g1
  refine ⟨Q, e2, ?_⟩
  have := field_any (oo := 0) (qo := 0) W g7 hn hN (by rw [Nat.zero_add]; exact g1) hk
  rw [Nat.zero_add] at this
  exact this
end Go.Proofs.YtcdnbheoelnghaaDoor.Gra
