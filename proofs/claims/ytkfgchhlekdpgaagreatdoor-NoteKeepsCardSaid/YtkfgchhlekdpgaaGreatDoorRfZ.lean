/-
  The law's Alike: a heap and the document's are the same.
-/
import Derived.Test.YtkfgchhlekdpgaaGreatDoorRfY
import Derived.Test.YtkfgchhlekdpgaaGreatDoorHq5
import Derived.Deep.RegionHeld3
namespace Go.Proofs.YtkfgchhlekdpgaaGreatDoor.Rf
open Go.RowKit Go.Sort
open Blk (Cfg allP)
open Lis (intsN)
open Hp (St Wf Mine bnI own coE coV cV ccE fN fE lV lE objL hanL pkA_eq NewRow)
open Go.Proofs.YtkfgchhlekdpgaaGreatDoor.Row (Chg Rd rowB cellsZ owns_lt same_any)
open Go.Proofs.YtkfgchhlekdpgaaGreatDoor.Addr (Tabs)

theorem guard_ne (b wd m r ce lg st : Int) (w : World) :
    (binOp .neq 23 (.agg #[.int .i64 b, .int .i64 wd, .int .i64 m, .int .i64 r, .int .i64 ce, .int .i64 lg, .int .i64 st]) (.agg #[.int .i64 b, .int .i64 wd, .int .i64 m, .int .i64 r, .int .i64 ce, .int .i64 lg, .int .i64 st])).run Tryz.prog w = .ok (.bool false) w := by
  have hp : Tryz.prog.stoodInHeld 23 = false := by kernel_rfl
  have hu := Tryz.underlying23
  have h3 := Tryz.underlying3
  have c3 : Tryz.prog.cellsOf 3 = 1 := by kernel_rfl
  rw [run_neq_struct, run_equalIn_agg _ _ _ _ _ (by unfold Program.fieldsOf; rw [hu]) hp]
  unfold Program.fieldsOf
  rw [hu]
  simp only [Op.eqFields]
  simp [go_sem, h3, part]
section
variable {H M base m : Nat} {d : Hp.Ids} {i : Ri} {s : St}
theorem obj_len (h : Wf s) (hb4 : s.c.b ≤ 4) : (objL s).length ≤ 512 ∧ (hanL s).length ≤ 512 ∧ s.ws.length ≤ 1024 := by
  have h1 := Blk.allP_len s.c s.ks s.ks.length
  have h2 := h.full
  have hR := Blk.slots_bd h.right
  have h3 := h.words
  have h4 : s.c.b * s.c.wd ≤ 4 * 256 := Int.mul_le_mul hb4 hR.wd1 (by have := hR.wd0; omega) (by omega)
  refine ⟨?_, ?_, by omega⟩
  · unfold objL; rw [pkA_eq]; exact Nat.le_trans (List.length_filter_le ..) (by omega)
  · unfold hanL; rw [pkA_eq]; exact Nat.le_trans (List.length_filter_le ..) (by omega)
theorem obj_at (h : Wf s) {a : Int} (hb : bnI s a = true) : fE s a = 0 ∧ fN s a ≤ 15 ∧ coE s a = 0 ∧ roV s a = coV s a ∧ ∀ k : Nat, k < fN s a → lE s a k = 0 := by
  have ho := h.bnI_own hb
  obtain ⟨n, rfl, n1, n2⟩ := own_nat h ho
  have hbn := hb
  rw [Hp.bnI_nat] at hbn
  have hi := (h.born n hbn).2
  have ht : Hp.takB s n = true := by unfold Hp.takB; rw [hb, Int.toNat_natCast, hi]; rfl
  have hE : fE s n = 0 := by unfold fE; rw [if_neg (by omega), if_pos ht]
  have hr := own_room h ho hi
  have hs := (Class.sizI_bd (h.geo ho).cl).2
  have hN := fN_ob hE
  rw [Int.toNat_natCast] at hN
  refine ⟨hE, by omega, by unfold coE; rw [if_pos hb], by unfold roV coV; rw [if_pos hb, if_pos hb], fun k hk => ?_⟩
  unfold lE
  rw [if_pos hE, if_pos ⟨by omega, by omega⟩]
theorem obj_bn (_h : Wf s) (_hk : ∀ j, Blk.kAt s.ks j < 4) {q : Nat} (hq : q < (objL s).length) : bnI s ((objL s).getD q 0) = true := by
  have hm : (objL s).getD q 0 ∈ objL s := by
    rw [List.getD_eq_getElem?_getD, List.getElem?_eq_getElem hq]
    exact List.getElem_mem hq
  generalize (objL s).getD q 0 = x at *
  unfold objL at hm
  rw [pkA_eq] at hm
  exact (List.mem_filter.1 hm).2
end
end Go.Proofs.YtkfgchhlekdpgaaGreatDoor.Rf
