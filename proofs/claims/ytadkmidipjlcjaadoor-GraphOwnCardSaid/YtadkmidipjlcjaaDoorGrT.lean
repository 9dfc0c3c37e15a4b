/-
  The document's example.
-/
import Derived.Test.YtadkmidipjlcjaaDoorGrP
namespace Go.Proofs.YtadkmidipjlcjaaDoor.Gra
open Go.RowKit Go.Proofs.YtadkmidipjlcjaaDoor.Opr

theorem ex_right : rightB 1 16 (1 : Nat) (2 : Nat) (0 : Nat) 1 1 = true := by decide
abbrev exC7 : C7 := ⟨1, 16, (1 : Nat), (2 : Nat), (0 : Nat), 1, 1⟩

theorem ex1 : (gdo exC7 (s0 0 2 1) 0 1 0 1 0).1 = 1 ∧ (gdo exC7 (s0 0 2 1) 0 1 0 1 0).2.1 = 0 := by decide
theorem ex2 : (gdo exC7 (gdo exC7 (s0 0 2 1) 0 1 0 1 0).2.2 0 3 0 0 0).1 = 0 ∧ (gdo exC7 (gdo exC7 (s0 0 2 1) 0 1 0 1 0).2.2 0 3 0 0 0).2.1 = 0 := by decide
theorem ex3 : (gdo exC7 (gdo exC7 (gdo exC7 (s0 0 2 1) 0 1 0 1 0).2.2 0 3 0 0 0).2.2 0 2 1 0 0).1 = 1 ∧ (gdo exC7 (gdo exC7 (gdo exC7 (s0 0 2 1) 0 1 0 1 0).2.2 0 3 0 0 0).2.2 0 2 1 0 0).2.1 = 0 := by decide

set_option maxRecDepth 100000 in
set_option maxHeartbeats 2000000 in
theorem awake_any (w : World) (ht : FormTab w) (hl : LimTab w) :
    Calls Tryd.prog 10 #[] w fun e w' => e = .returned (.bool true) ∧ Below w.heap.size w w' := by
  have HN := Lib.hid (new_any 1 16 1 1 1 2 0 ex_right (by decide) (by decide) (by decide) w hl)
  have HT := Lib.hid ht
  have HL := Lib.hid hl
  clear ht hl
  go_enter Tryd.func10, Tryd.ntmps10
  go_wp2_with fail
  refine HN.out.mono ?_
  rintro e w1 ⟨G, rfl, P, K, h1, hb1, hm1⟩
  have wf1 : GWf 1 2 0 (s0 0 2 1) := GWf.s0 1 2 0
  have HD1 := Lib.hid (do_any h1 wf1 (by decide) (HT.out.later hb1) (HL.out.later hb1) 0 1 0 1 0)
  have WF2 := Lib.hid (wf1.gdo 1 16 1 1 0 1 0 1 0)
  have HB1 := Lib.hid hb1
  have HM1 := Lib.hid hm1
  clear h1 hb1 hm1 wf1 HN
  go_wp2_with fail
  refine HD1.out.mono ?_
  rintro e w2 ⟨rfl, hE⟩
  rw [show (gdo ⟨1, 16, (1 : Nat), (2 : Nat), (0 : Nat), 1, 1⟩ (s0 0 2 1) 0 1 0 1 0).1 = 1 from ex1.1, show (gdo ⟨1, 16, (1 : Nat), (2 : Nat), (0 : Nat), 1, 1⟩ (s0 0 2 1) 0 1 0 1 0).2.1 = 0 from ex1.2]
  obtain ⟨P2, K2, h2, hc2, hm2⟩ := hE
  have hb2 : Below w.heap.size w w2 := HB1.out.trans (hc2.below (fun k hk => HM1.out k hk) HB1.out.size)
  have hm2' : ∀ x, mine G P2 x → w.heap.size ≤ x := fun x hx => (hm2 x hx).elim (HM1.out x) (fun h => Nat.le_trans HB1.out.size h)
  have HD2 := Lib.hid (do_any h2 WF2.out.1 (by decide) (HT.out.later hb2) (HL.out.later hb2) 0 3 0 0 0)
  have WF3 := Lib.hid (WF2.out.1.gdo 1 16 1 1 0 3 0 0 0)
  have HB2 := Lib.hid hb2
  have HM2 := Lib.hid hm2'
  clear h2 hc2 hm2 hb2 hm2' HD1
  go_wp2_with fail
  refine HD2.out.mono ?_
  rintro e w3 ⟨rfl, hE⟩
  rw [show (gdo ⟨1, 16, (1 : Nat), (2 : Nat), (0 : Nat), 1, 1⟩ (gdo ⟨1, 16, (1 : Nat), (2 : Nat), (0 : Nat), 1, 1⟩ (s0 0 2 1) 0 1 0 1 0).2.2 0 3 0 0 0).1 = 0 from ex2.1, show (gdo ⟨1, 16, (1 : Nat), (2 : Nat), (0 : Nat), 1, 1⟩ (gdo ⟨1, 16, (1 : Nat), (2 : Nat), (0 : Nat), 1, 1⟩ (s0 0 2 1) 0 1 0 1 0).2.2 0 3 0 0 0).2.1 = 0 from ex2.2]
  obtain ⟨P3, K3, h3, hc3, hm3⟩ := hE
  have hb3 : Below w.heap.size w w3 := HB2.out.trans (hc3.below (fun k hk => HM2.out k hk) HB2.out.size)
  have hm3' : ∀ x, mine G P3 x → w.heap.size ≤ x := fun x hx => (hm3 x hx).elim (HM2.out x) (fun h => Nat.le_trans HB2.out.size h)
  have HD3 := Lib.hid (do_any h3 WF3.out.1 (by decide) (HT.out.later hb3) (HL.out.later hb3) 0 2 1 0 0)
  have HB3 := Lib.hid hb3
  have HM3 := Lib.hid hm3'
  clear h3 hc3 hm3 hb3 hm3' HD2
  go_wp2_with fail
  refine HD3.out.mono ?_
  rintro e w4 ⟨rfl, hE⟩
  rw [show (gdo ⟨1, 16, (1 : Nat), (2 : Nat), (0 : Nat), 1, 1⟩ (gdo ⟨1, 16, (1 : Nat), (2 : Nat), (0 : Nat), 1, 1⟩ (gdo ⟨1, 16, (1 : Nat), (2 : Nat), (0 : Nat), 1, 1⟩ (s0 0 2 1) 0 1 0 1 0).2.2 0 3 0 0 0).2.2 0 2 1 0 0).1 = 1 from ex3.1, show (gdo ⟨1, 16, (1 : Nat), (2 : Nat), (0 : Nat), 1, 1⟩ (gdo ⟨1, 16, (1 : Nat), (2 : Nat), (0 : Nat), 1, 1⟩ (gdo ⟨1, 16, (1 : Nat), (2 : Nat), (0 : Nat), 1, 1⟩ (s0 0 2 1) 0 1 0 1 0).2.2 0 3 0 0 0).2.2 0 2 1 0 0).2.1 = 0 from ex3.2]
  obtain ⟨P4, K4, h4, hc4, hm4⟩ := hE
  have HB4 := Lib.hid (HB3.out.trans (hc4.below (fun k hk => HM3.out k hk) HB3.out.size))
  clear h4 hc4 hm4 HD3
  go_wp2_with fail
  go_ret
  exact ⟨rfl, HB4.out⟩
end Go.Proofs.YtadkmidipjlcjaaDoor.Gra
