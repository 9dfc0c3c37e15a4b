/-
  The law's colors: all objects, and the color of each.
-/
import Derived.Test.YtkfgchhlekdpgaaGreatDoorNtF
import Derived.Maps.AppendAt
namespace Go.Proofs.YtkfgchhlekdpgaaGreatDoor.Nt
open Go.RowKit
open Hp (Ids St Is To Mine bnI coE coV colB objL)
open Go.Proofs.YtkfgchhlekdpgaaGreatDoor.Row (Chg rowB Rd cellsZ cellsZ_length cellsZ_at cellsZ_snoc owns_lt owns_slice owns_chg owns_base push_row info_parts infoInt one_at)
open Go.Proofs.YtkfgchhlekdpgaaGreatDoor.Addr (Tabs)

def coL (s : St) : List Int := (objL s).map (coV s)
/-- What colors tells. -/
def ColP (s : St) (wr : World) (e : Ending) (w' : World) : Prop := ∃ p1 c1 p2 c2, e = .returned (.tuple #[.slice p1 (objL s).length c1, .slice p2 (objL s).length c2]) ∧ Rd w' p1 (objL s) ∧ Rd w' p2 (coL s) ∧ Below wr.heap.size wr w' ∧ ∀ g, rowB p1 g ∨ rowB p2 g → wr.heap.size ≤ g
theorem take_snoc {l : List Int} {j : Nat} (h : j < l.length) : l.take (j + 1) = l.take j ++ [l.getD j 0] := by
  rw [List.take_add_one, List.getD_eq_getElem?_getD, List.getElem?_eq_getElem h]; rfl
set_option maxRecDepth 100000 in
set_option maxHeartbeats 4000000 in
theorem colors_any {H : Nat} {d : Ids} {s : St} {m : Nat} (V0 : World) (h : Is V0 H d s m) (ht : Tabs V0) (hlen : (objL s).length ≤ 1000000) :
    Calls Tryz.prog 15 #[.pointer (some ⟨H, 0, none⟩)] V0 (ColP s V0) := by
  obtain ⟨i0, hinf, hz0, hz1, hz2⟩ := info_parts infoInt
  have HO := Lib.hid (Hp.objects_any V0 h ht)
  have HI := Lib.hid h
  have HLN := Lib.hid hlen
  have hcl : (coL s).length = (objL s).length := by simp [coL]
  have HCL := Lib.hid hcl
  have HAT : Hid (∀ j, j < (objL s).length → (coL s).getD j 0 = coV s ((objL s).getD j 0)) := Lib.hid fun j hj => by
    simp [coL, List.getD_eq_getElem?_getD, hj]
  clear h ht hlen hcl
  go_enter Tryz.func15, Tryz.ntmps15
  go_wp2_with (go_at_call 32; fail)
  refine HO.out.mono ?_
  rintro e w1 ⟨p1, c1, rfl, ho1, hb1⟩
  have HR1 := Lib.hid (Rd.of_owns ho1)
  have HG1 : Hid (∀ g, rowB p1 g → V0.heap.size ≤ g) := Lib.hid fun g hg => (owns_lt ho1 hg).1
  have HB1 := Lib.hid hb1
  clear ho1 hb1 HO
  generalize hL : objL s = L at *
  have HLL := Lib.hid hL
  clear hL
  go_wp2_with fail
  go_loopw [4, 6] (fun o i wr => ∃ j : Nat, j ≤ L.length ∧ i = .int .i64 j ∧ ∃ po co, o = .slice po j co ∧ wr.ownsRow w1.heap.size 3 1 (.slice po j co) j (cellsZ ((coL s).take j)) ∧ Below w1.heap.size w1 wr) (fun _ i _ => L.length - (intOf i).toNat)
  case atStart => exact ⟨0, Nat.zero_le _, rfl, none, 0, rfl, ⟨rfl, .inl ⟨rfl, rfl⟩⟩, Below.refl _ _⟩
  case round =>
    obtain ⟨j, hj, rfl, po, co, rfl, hown, hb⟩ := hrel
    have HOW := Lib.hid hown
    have HB := Lib.hid hb
    clear hown hb
    have j0 : (0 : Int) ≤ (j : Int) := by omega
    by_cases hlt : j < L.length
    · have j1 : (j : Int) < (L.length : Int) := by omega
      obtain ⟨g, off, rfl, c0⟩ := (HR1.out.later HB.out).at hlt
      have hj6 : (j : Int) ≤ 1000000 := by have := HLN.out; omega
      have HC := Lib.hid (Hp.color_any' (L.getD j 0) wr (HI.out.later (HB1.out.trans (HB.out.mono HB1.out.size))))
      have HTK : Hid ((coL s).take (j + 1) = (coL s).take j ++ [coV s (L.getD j 0)]) := Lib.hid (by rw [take_snoc (by rw [HCL.out]; exact hlt), HAT.out j hlt])
      have HOV : Hid (∀ V o, Below wr.heap.size wr V → (V.alloc o).ownsRow w1.heap.size 3 1 (.slice po j co) j (cellsZ ((coL s).take j))) := Lib.hid fun V o hV => owns_chg HOW.out (Chg.of_below (S := fun _ => False) (hV.alloc hV.size o)) (fun _ _ e => e)
      have HSZ : Hid (∀ V o, Below wr.heap.size wr V → w1.heap.size ≤ (V.alloc o).heap.size) := Lib.hid fun V o hV => by
        have := hV.size; have := HB.out.size; rw [World.size_alloc]; omega
      generalize coV s (L.getD j 0) = cv at *
      generalize coE s (L.getD j 0) = ce at *
      generalize L.getD j 0 = lv at *
      have hm1 : j + 1 ≤ 1000001 := by omega
      go_wp2_with (first
        | (go_at_call 33; refine HC.out.mono ?_; rintro e w2 ⟨rfl, hb2⟩; have HB2 := Lib.hid hb2; clear hb2)
        | (at_builtin; refine wpList_append_own_at _ rfl _ _ 40 rfl w1.heap.size 3 i0 (.int .i64 0) 1 8 Tryz.underlying40 hinf hz0 hz1 hz2 rfl (by decide) (.slice po j co) j (cellsZ ((coL s).take j)) rfl (HOV.out _ _ HB2.out) ⟨w2.heap.size, 0, none⟩ 1 1 [.int .i64 cv] rfl rfl (one_at rfl) (by simp [Value.oneCell']) (by unfold maxLen; omega) (by omega) (HSZ.out _ _ HB2.out) ?_; intro v' w3 hown hgrow _ hat; obtain ⟨p', cap', rfl, hC, hR⟩ := push_row (Y := w2.alloc (.cells #[.int .i64 cv] 3)) (p := po) (cap := co) (n := j) (Below.refl _ _) hown hgrow hat; have HO3 := Lib.hid hown; have HC3 := Lib.hid hC; clear hown hgrow hat hC hR))
      go_roundw
      case rel => exact ⟨j + 1, by omega, by go_num, p', cap', rfl, by rw [HTK.out, cellsZ_snoc]; exact HO3.out, HB.out.trans (((HB2.out.alloc HB2.out.size _).mono HB.out.size).trans (HC3.out.below (fun k hk => (owns_lt HOW.out hk).1) (HSZ.out _ _ HB2.out)))⟩
      case measure => simp [intOf]; omega
    · obtain rfl : j = L.length := by omega
      have HFI : Hid (Rd wr po (coL s)) := Lib.hid (by
        have h1 := HOW.out
        rw [← HCL.out, List.take_length] at h1
        have h2 := Rd.of_owns (l := coL s) (cap := co) (p := po) h1
        exact h2)
      have HG2 : Hid (∀ g, rowB po g → V0.heap.size ≤ g) := Lib.hid fun g hg => Nat.le_trans HB1.out.size (owns_lt HOW.out hg).1
      have HFB : Hid (Below V0.heap.size V0 wr) := Lib.hid (HB1.out.trans (HB.out.mono HB1.out.size))
      have HR2 := Lib.hid (HR1.out.later HB.out)
      have HLS : Hid (ColP s V0 (.returned (.tuple #[.slice p1 L.length c1, .slice po L.length co])) wr) := Lib.hid (by
        unfold ColP; rw [HLL.out]; exact ⟨p1, c1, po, co, rfl, HR2.out, HFI.out, HFB.out, fun g hg => hg.elim (HG1.out g) (HG2.out g)⟩)
      clear HOW HB HFI HFB HR2 HG1 HG2
      go_wp2_with fail
      go_ret2
      exact HLS.out
end Go.Proofs.YtkfgchhlekdpgaaGreatDoor.Nt
