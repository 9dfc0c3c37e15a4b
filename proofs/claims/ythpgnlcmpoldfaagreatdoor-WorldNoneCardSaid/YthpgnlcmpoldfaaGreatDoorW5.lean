/-
  The law WorldNone answers true.
-/
import Derived.Test.YthpgnlcmpoldfaaGreatDoorW4
import Derived.Test.YthpgnlcmpoldfaaGreatDoorW3
import Derived.Deep.CutBlock
import Derived.Deep.DeepCutAuto
namespace Go.Proofs.YthpgnlcmpoldfaaGreatDoor.Wo
open Go.RowKit
open Blk (Cfg little little_any little_right)
open Go.Proofs.YthpgnlcmpoldfaaGreatDoor.Addr (Tabs)
open Mu (Sy Sd ShIs sd0 lt_of_cell CoIs OpsR owns_cellN O4 cellsO)
open Go.Proofs.YthpgnlcmpoldfaaGreatDoor.Row (Chg rowB rowB_none info_parts)
theorem infoOps : (Tryz.prog.info? 33).map (fun i => (i.zero, i.size, i.bytes)) = some (some (.slice none 0 0), 1, 24) := by kernel_rfl
theorem infoOp : (Tryz.prog.info? 102).map (fun i => (i.zero, i.size, i.bytes)) = some (some (.agg #[.int .i64 0, .int .i64 0, .int .i64 0, .int .i64 0]), 4, 32) := by kernel_rfl
theorem make_progs (W : World) (n : Nat) (hn : n ≤ 100000) : (Instr.makeSlice 71 (.int .i64 (n : Int)) (.int .i64 (n : Int))).run Tryz.prog W = .ok (.slice (some ⟨W.heap.size, 0, none⟩) n n) (W.alloc (.cells (madeCells #[.slice none 0 0] n) 33)) := by
  obtain ⟨i, hi, hz, hs, hb⟩ := info_parts infoOps
  have hr := run_make (P := Tryz.prog) W 71 33 i (.slice none 0 0) Tryz.underlying71 hi hz .i64 .i64 n n (by omega) (by omega) (by rw [hb]; omega) (by omega)
  rw [hr, hs]
  simp [Value.cells]
theorem make_ops (W : World) (n : Nat) (hn : n ≤ 100000) : (Instr.makeSlice 33 (.int .i64 (n : Int)) (.int .i64 (n : Int))).run Tryz.prog W = .ok (.slice (some ⟨W.heap.size, 0, none⟩) n n) (W.alloc (.cells (madeCells #[.int .i64 0, .int .i64 0, .int .i64 0, .int .i64 0] (n * 4)) 102)) := by
  obtain ⟨i, hi, hz, hs, hb⟩ := info_parts infoOp
  have hr := run_make (P := Tryz.prog) W 33 102 i _ Tryz.underlying33 hi hz .i64 .i64 n n (by omega) (by omega) (by rw [hb]; omega) (by omega)
  rw [hr, hs]
  simp [Value.cells]
theorem ops_cells (L : Nat) : ∀ (j : Nat) (u : Value), (cellsO (List.replicate L (0, 0, 0, 0)))[j]? = some u → (madeCells #[.int .i64 0, .int .i64 0, .int .i64 0, .int .i64 0] (L * 4))[j]? = some u := by
  intro j u hu
  have hl := Mu.cellsO_len (List.replicate L ((0, 0, 0, 0) : O4))
  rw [List.length_replicate] at hl
  have hj : j < L * 4 := by have := (List.getElem?_eq_some_iff.1 hu).1; omega
  have hm := List.mem_of_getElem? hu
  have h0 : u = .int .i64 0 := by
    unfold cellsO at hm
    obtain ⟨o, ho, hu2⟩ := List.mem_flatMap.1 hm
    obtain rfl := List.eq_of_mem_replicate ho
    simpa [Mu.o4C] using hu2
  subst h0
  have h4 : j % 4 < 4 := Nat.mod_lt _ (by decide)
  rw [Array.getElem?_eq_getElem (by rw [size_madeCells]; exact hj)]
  simp only [madeCells, Array.getElem_map, Array.getElem_range, Option.some.injEq]
  generalize hk : j % 4 = k at *
  match k, h4 with
  | 0, _ => rfl
  | 1, _ => rfl
  | 2, _ => rfl
  | 3, _ => rfl
/-- world.New of one program of that many empty operations. -/
theorem new_ops (c : Cfg) (n nc M L q o : Nat) (w : World) (ht : Tab1 w) (hR : rightB c.b c.wd c.m c.r c.ce c.lg c.st = true) (hn : c.b * c.wd = (n : Int)) (hnc : c.ce = (nc : Int)) (hM : c.m = (M : Int)) (hM1 : 1 ≤ M) (hM8 : M ≤ 8)
    (hq : w.cell? ⟨q, 0, none⟩ = some (.slice (some ⟨o, 0, none⟩) L L)) (ho : ∀ (j : Nat) (u : Value), (cellsO (List.replicate L (0, 0, 0, 0)))[j]? = some u → w.cell? ⟨o, j, none⟩ = some u) :
    Calls Tryz.prog 38 #[(.agg #[.int .i64 c.b, .int .i64 c.wd, .int .i64 c.m, .int .i64 c.r, .int .i64 c.ce, .int .i64 c.lg, .int .i64 c.st]), .slice (some ⟨q, 0, none⟩) 1 1] w fun e w' => ∃ v, e = .returned (.tuple #[v, .int .i64 (if L ≤ 1000 then 0 else 3)]) ∧ Below w.heap.size w w' := by
  have hpr : ∀ V, Below w.heap.size w V → Calls Tryz.prog 75 #[.slice (some ⟨q, 0, none⟩) 1 1, .int .i64 0] V fun e w' => e = .returned (.slice (some ⟨o, 0, none⟩) L L) ∧ w' = V := fun V hV =>
    prog_in q 0 1 1 0 _ V (by decide) ((hV.cell (p := ⟨q, 0 + 0, none⟩) (lt_of_cell hq)).trans hq) ⟨_, _, _, rfl⟩
  by_cases hL : L ≤ 1000
  · rw [if_pos hL]
    refine (new_any c n nc M (some ⟨q, 0, none⟩) 1 1 w ht hR hn hnc hM hM1 hM8 ⟨hM1, fun id hid => ?_⟩).mono ?_
    · rcases id with _ | id
      · refine ⟨some ⟨o, 0, none⟩, List.replicate L (0, 0, 0, 0), L, by simpa using hL, fun e => (by cases e), .inr ⟨o, 0, rfl, fun j u hu => by rw [Nat.zero_add]; exact ho j u hu⟩, fun V hV => ?_⟩
        rw [List.length_replicate]
        exact hpr V hV
      · exact ⟨none, [], 0, Nat.zero_le _, fun _ => rfl, .inl ⟨rfl, rfl⟩, fun V _ => prog_out _ 1 1 (id + 1) V (by omega)⟩
    · rintro e w' ⟨x, y, T, G, g, rfl, -, hn⟩
      exact ⟨_, rfl, hn.bel⟩
  · rw [if_neg hL]
    refine (new_long c n nc M (some ⟨q, 0, none⟩) 1 1 w ht hR hn hnc hM hM1 hM8 hM1 (some ⟨o, 0, none⟩) L L (by omega) hpr).mono ?_
    rintro e w' ⟨rfl, hb⟩
    exact ⟨_, rfl, hb⟩
end Go.Proofs.YthpgnlcmpoldfaaGreatDoor.Wo
