/-
  The law WorldNone answers true: a config that is not right.
-/
import Derived.Test.YthpgnlcmpoldfaaGreatDoorW5
namespace Go.Proofs.YthpgnlcmpoldfaaGreatDoor.Wo
open Go.RowKit
open Blk (Cfg little little_any little_right)
open Go.Proofs.YthpgnlcmpoldfaaGreatDoor.Addr (Tabs)
open Mu (Sy Sd ShIs sd0 lt_of_cell CoIs OpsR owns_cellN O4 cellsO)
open Go.Proofs.YthpgnlcmpoldfaaGreatDoor.Row (Chg rowB rowB_none info_parts)
set_option maxRecDepth 100000 in
set_option maxHeartbeats 8000000 in
theorem none_false (c : Cfg) (k more : Int) (w : World) (ht : LimTab w) (hm0 : 0 ≤ more) (hm1 : more ≤ 255) (hR : rightB c.b c.wd c.m c.r c.ce c.lg c.st = false) :
    Calls Tryz.prog 6 #[(.agg #[.int .i64 c.b, .int .i64 c.wd, .int .i64 c.m, .int .i64 c.r, .int .i64 c.ce, .int .i64 c.lg, .int .i64 c.st]), .int .i64 k, .int .u8 more] w fun e w' => e = .returned (.bool true) ∧ Below w.heap.size w w' := by
  have HT := Lib.hid ht
  have HRR := Lib.hid (refright_any c.b c.wd c.m c.r c.ce c.lg c.st)
  have hA : Below w.heap.size w (w.alloc (.cells #[.int .i64 c.b, .int .i64 c.wd, .int .i64 c.m, .int .i64 c.r, .int .i64 c.ce, .int .i64 c.lg, .int .i64 c.st] 23)) := (Below.refl _ _).alloc (Nat.le_refl _) _
  have HA := Lib.hid hA
  have HC : Hid (∀ V, Below (w.alloc (.cells #[.int .i64 c.b, .int .i64 c.wd, .int .i64 c.m, .int .i64 c.r, .int .i64 c.ce, .int .i64 c.lg, .int .i64 c.st] 23)).heap.size (w.alloc (.cells #[.int .i64 c.b, .int .i64 c.wd, .int .i64 c.m, .int .i64 c.r, .int .i64 c.ce, .int .i64 c.lg, .int .i64 c.st] 23)) V → Mu.CellsL V w.heap.size [.int .i64 c.b, .int .i64 c.wd, .int .i64 c.m, .int .i64 c.r, .int .i64 c.ce, .int .i64 c.lg, .int .i64 c.st]) := Lib.hid fun V hb o v hv => (hb.cell (p := ⟨w.heap.size, o, none⟩) (by rw [World.size_alloc]; exact Nat.lt_succ_self _)).trans (by rw [World.cell?_alloc_new, ← hv, ← List.getElem?_toArray])
  clear ht hA
  have HN := Lib.hid (new_bad c none 0 0 · · hR)
  rw [← rightB_ref, hR] at HRR
  clear hR
  go_enter Tryz.func6, Tryz.ntmps6
  go_wp2_with (go_at_call 8; fail)
  refine (HRR.out _).mono ?_
  rintro e w0 ⟨rfl, hb0⟩
  have HB0 := Lib.hid hb0
  have HC0 := Lib.hid (HC.out w0 HB0.out)
  clear hb0 HRR
  have k0 := HC0.out 0 _ rfl
  have k1 := HC0.out 1 _ rfl
  have k2 := HC0.out 2 _ rfl
  have k3 := HC0.out 3 _ rfl
  have k4 := HC0.out 4 _ rfl
  have k5 := HC0.out 5 _ rfl
  have k6 := HC0.out 6 _ rfl
  have hl0 : w.heap.size < w0.heap.size := lt_of_cell k0
  go_wp2_with (go_at_call 38; fail)
  refine (HN.out w0 (HT.out.later (HA.out.trans (HB0.out.mono HA.out.size)))).mono ?_
  rintro e w1 ⟨rfl, hb1⟩
  have HB1 : Hid (Below (w.alloc (.cells #[.int .i64 c.b, .int .i64 c.wd, .int .i64 c.m, .int .i64 c.r, .int .i64 c.ce, .int .i64 c.lg, .int .i64 c.st] 23)).heap.size (w.alloc (.cells #[.int .i64 c.b, .int .i64 c.wd, .int .i64 c.m, .int .i64 c.r, .int .i64 c.ce, .int .i64 c.lg, .int .i64 c.st] 23)) w1) := Lib.hid (HB0.out.trans (hb1.mono HB0.out.size))
  have HC1 := Lib.hid (HC.out w1 HB1.out)
  clear hb1 HN HC HC0 HB0 k0 k1 k2 k3 k4 k5 k6 hl0
  have k0 := HC1.out 0 _ rfl
  have k1 := HC1.out 1 _ rfl
  have k2 := HC1.out 2 _ rfl
  have k3 := HC1.out 3 _ rfl
  have k4 := HC1.out 4 _ rfl
  have k5 := HC1.out 5 _ rfl
  have k6 := HC1.out 6 _ rfl
  have hl1 : w.heap.size < w1.heap.size := lt_of_cell k0
  have HW1 : Hid (Below w.heap.size w w1) := Lib.hid (HA.out.trans (HB1.out.mono HA.out.size))
  have HS1 : Hid (2 ≤ w1.heap.size) := Lib.hid (by have h1 := HB1.out.size; have h2 := HT.out.blk; rw [World.size_alloc] at h1; omega)
  clear HB1 HC1
  go_wp2_with (go_at_call 9; fail)
  refine (little_any c w1).mono ?_
  rintro e w2 ⟨rfl, hb2⟩
  have HLR := Lib.hid (little_right c)
  have hs := Blk.slots_bd HLR.out
  have HSB := Lib.hid hs
  generalize little c = d at *
  obtain ⟨M, hM⟩ : ∃ M : Nat, d.m = (M : Int) := ⟨d.m.toNat, by have := hs.m0; omega⟩
  have HMM : Hid (1 ≤ M ∧ M ≤ 8) := Lib.hid ⟨by have := hs.m0; omega, by have := hs.m1; omega⟩
  have HM := Lib.hid hM
  have HW2 := Lib.hid (HW1.out.trans (hb2.mono HW1.out.size))
  have HS2 : Hid (2 ≤ w2.heap.size) := Lib.hid (Nat.le_trans HS1.out hb2.size)
  clear hb2 HW1 k0 k1 k2 k3 k4 k5 k6 hl1 hs hM
  go_upto_region 6 with fail
  obtain ⟨W4, hW4⟩ : ∃ V, w2.alloc (.cells #[.int .i64 d.b, .int .i64 d.wd, .int .i64 d.m, .int .i64 d.r, .int .i64 d.ce, .int .i64 d.lg, .int .i64 d.st] 23) = V := ⟨_, rfl⟩
  have hb4 : Below w2.heap.size w2 W4 := by rw [← hW4]; exact (Below.refl _ _).alloc (Nat.le_refl _) _
  have hc4 : Mu.CellsL W4 w2.heap.size [.int .i64 d.b, .int .i64 d.wd, .int .i64 d.m, .int .i64 d.r, .int .i64 d.ce, .int .i64 d.lg, .int .i64 d.st] := fun o v hv => by rw [← hW4, World.cell?_alloc_new, ← hv, ← List.getElem?_toArray]
  rw [hW4]
  have HW4 := Lib.hid (HW2.out.trans (hb4.mono HW2.out.size))
  have HC4 := Lib.hid hc4
  have HT4 : Hid (Tab1 W4) := Lib.hid ⟨HT.out.later HW4.out, ⟨by have := HS2.out; rw [← hW4, World.size_alloc]; omega⟩⟩
  clear hW4 hb4 HW2
  generalize w2.heap.size = bd at *
  have hl4 : bd < W4.heap.size := lt_of_cell (HC4.out 0 _ rfl)
  have k0 := HC4.out 0 _ rfl
  have k1 := HC4.out 1 _ rfl
  have k2 := HC4.out 2 _ rfl
  have k3 := HC4.out 3 _ rfl
  have k4 := HC4.out 4 _ rfl
  have k5 := HC4.out 5 _ rfl
  have k6 := HC4.out 6 _ rfl
  obtain ⟨n, hn⟩ : ∃ n : Nat, d.b * d.wd = (n : Int) := ⟨(d.b * d.wd).toNat, by have := HSB.out.words; omega⟩
  obtain ⟨nc, hnc⟩ : ∃ n : Nat, d.ce = (n : Int) := ⟨d.ce.toNat, by have := HSB.out.ce0; omega⟩
  have HN6 := Lib.hid (fun (V : World) (p : Option Addr) (cp : Nat) (hb : Below W4.heap.size W4 V) => new_over d n nc M p (M + 1) cp V (HT4.out.later hb) HLR.out hn hnc HM.out HMM.out.1 HMM.out.2 (Nat.lt_succ_self _))
  have HNN := Lib.hid (And.intro hn hnc)
  have hd0 : 1 ≤ d.m := by have := HM.out; have := HMM.out; omega
  have hd1 : d.m ≤ 8 := by have := HM.out; have := HMM.out; omega
  have hmk : ∀ W : World, (Instr.makeSlice 71 (.int .i64 (d.m + 1)) (.int .i64 (d.m + 1))).run Tryz.prog W = .ok (.slice (some ⟨W.heap.size, 0, none⟩) (M + 1) (M + 1)) (W.alloc (.cells (madeCells #[.slice none 0 0] (M + 1)) 33)) := fun W => by
    have := make_progs W (M + 1) (by have := HMM.out; omega)
    rw [HM.out]
    exact this
  have hw1 : IntKind.i64.wrap (d.m + 1) = d.m + 1 := IntWalk.i64_in _ (by omega)
  clear hn hnc
  go_cut [11] (fun b wx => b = .int .i64 1 ∧ Below W4.heap.size W4 wx)
  case first =>
    go_region_with (go_at_call 38; refine (HN6.out _ _ _ (by first | exact (Below.refl _ _).drew.alloc (Nat.le_refl _) _ | exact ((Below.refl _ _).alloc (Nat.le_refl _) _).drew)).mono ?_; rintro e w6 ⟨rfl, hb6⟩; have HB6 : Hid (Below W4.heap.size W4 w6) := Lib.hid (by first | exact (((Below.refl _ _).drew.alloc (Nat.le_refl _) _).trans (hb6.mono (by simp))) | exact ((((Below.refl _ _).alloc (Nat.le_refl _) _).drew).trans (hb6.mono (by simp)))); clear hb6)
    all_goals (go_wp2_with fail; go_meet; exact ⟨rfl, HB6.out⟩)
  case rest =>
  obtain ⟨rfl, hbc⟩ := hcut
  go_upto_region 8 with fail
  obtain ⟨L, hL, hL0, hL1⟩ : ∃ L : Nat, (995 : Int) + more % 12 = (L : Int) ∧ 995 ≤ L ∧ L ≤ 1006 := ⟨(995 + more % 12).toNat, by omega, by omega, by omega⟩
  rw [hL]
  have HBC := Lib.hid (HW4.out.trans (hbc.mono HW4.out.size))
  have HTC := Lib.hid (HT4.out.later hbc)
  have HCC := Lib.hid (HC4.out.later hbc)
  have k0 := HCC.out 0 _ rfl
  have k1 := HCC.out 1 _ rfl
  have k2 := HCC.out 2 _ rfl
  have k3 := HCC.out 3 _ rfl
  have k4 := HCC.out 4 _ rfl
  have k5 := HCC.out 5 _ rfl
  have k6 := HCC.out 6 _ rfl
  have hl8 : bd < wc.heap.size := lt_of_cell k0
  have hmk2 : ∀ W : World, (Instr.makeSlice 33 (.int .i64 (L : Int)) (.int .i64 (L : Int))).run Tryz.prog W = .ok (.slice (some ⟨W.heap.size, 0, none⟩) L L) (W.alloc (.cells (madeCells #[.int .i64 0, .int .i64 0, .int .i64 0, .int .i64 0] (L * 4)) 102)) := fun W => make_ops W L (by omega)
  have HLL := Lib.hid (And.intro hL0 hL1)
  have HZ : Hid (Below wc.heap.size wc ((wc.alloc (.cells (madeCells #[.int .i64 0, .int .i64 0, .int .i64 0, .int .i64 0] (L * 4)) 102)).alloc (.cells #[.slice (some ⟨wc.heap.size, 0, none⟩) L L] 33))) := Lib.hid (((Below.refl _ _).alloc (Nat.le_refl _) _).alloc (by simp) _)
  have HZ1 : Hid (((wc.alloc (.cells (madeCells #[.int .i64 0, .int .i64 0, .int .i64 0, .int .i64 0] (L * 4)) 102)).alloc (.cells #[.slice (some ⟨wc.heap.size, 0, none⟩) L L] 33)).cell? ⟨wc.heap.size + 1, 0, none⟩ = some (.slice (some ⟨wc.heap.size, 0, none⟩) L L)) := Lib.hid (by
    have e := World.cell?_alloc_new (wc.alloc (.cells (madeCells #[.int .i64 0, .int .i64 0, .int .i64 0, .int .i64 0] (L * 4)) 102)) #[.slice (some ⟨wc.heap.size, 0, none⟩) L L] 33 0
    rw [World.size_alloc] at e
    exact e)
  have HZ2 : Hid (∀ (j : Nat) (u : Value), (cellsO (List.replicate L (0, 0, 0, 0)))[j]? = some u → ((wc.alloc (.cells (madeCells #[.int .i64 0, .int .i64 0, .int .i64 0, .int .i64 0] (L * 4)) 102)).alloc (.cells #[.slice (some ⟨wc.heap.size, 0, none⟩) L L] 33)).cell? ⟨wc.heap.size, j, none⟩ = some u) := Lib.hid fun j u hu => by
    rw [((Below.refl (wc.alloc (.cells (madeCells #[.int .i64 0, .int .i64 0, .int .i64 0, .int .i64 0] (L * 4)) 102)).heap.size _).alloc (Nat.le_refl _) _).cell (p := ⟨wc.heap.size, j, none⟩) (by rw [World.size_alloc]; exact Nat.lt_succ_self _), World.cell?_alloc_new]
    exact ops_cells L j u hu
  have HNO := Lib.hid (fun (V : World) (q o : Nat) (hb : Below wc.heap.size wc V) (hq : V.cell? ⟨q, 0, none⟩ = some (.slice (some ⟨o, 0, none⟩) L L)) (ho : ∀ (j : Nat) (u : Value), (cellsO (List.replicate L (0, 0, 0, 0)))[j]? = some u → V.cell? ⟨o, j, none⟩ = some u) => new_ops d n nc M L q o V (HTC.out.later hb) HLR.out HNN.out.1 HNN.out.2 HM.out HMM.out.1 HMM.out.2 hq ho)
  have HNX : Hid (Calls Tryz.prog 38 #[.agg #[.int .i64 d.b, .int .i64 d.wd, .int .i64 d.m, .int .i64 d.r, .int .i64 d.ce, .int .i64 d.lg, .int .i64 d.st], .slice (some ⟨wc.heap.size + 1, 0, none⟩) 1 1] ((wc.alloc (.cells (madeCells #[.int .i64 0, .int .i64 0, .int .i64 0, .int .i64 0] (L * 4)) 102)).alloc (.cells #[.slice (some ⟨wc.heap.size, 0, none⟩) L L] 33)).drew fun e w' => ∃ v, e = .returned (.tuple #[v, .int .i64 (if L ≤ 1000 then 0 else 3)]) ∧ Below w.heap.size w w' ∧ 2 < w'.heap.size) := Lib.hid (by
    refine (HNO.out _ (wc.heap.size + 1) wc.heap.size HZ.out.drew ((Row.cell_of_block (a := ⟨wc.heap.size + 1, 0, none⟩) rfl).trans HZ1.out) (fun j u hu => (Row.cell_of_block (a := ⟨wc.heap.size, j, none⟩) rfl).trans (HZ2.out j u hu))).mono ?_
    rintro e w8 ⟨v, rfl, hb8⟩
    have hq8 : Below wc.heap.size wc w8 := HZ.out.drew.trans (hb8.mono HZ.out.drew.size)
    exact ⟨v, rfl, HBC.out.trans (hq8.mono HBC.out.size), Nat.lt_of_lt_of_le HTC.out.siz.blk hq8.size⟩)
  clear HNO
  obtain ⟨f, hf⟩ : ∃ f : Int, (if L ≤ 1000 then (0 : Int) else 3) = f := ⟨_, rfl⟩
  rw [hf] at HNX
  have HF := Lib.hid hf
  clear hf
  clear hbc hL hL0 hL1 hmk hw1 hd0 hd1 hl4 HN6
  go_cut [14] (fun z wx => z = .int .i64 f ∧ Below w.heap.size w wx ∧ 2 < wx.heap.size)
  case first =>
    go_region_with (go_at_call 38; refine HNX.out.mono ?_; rintro e w8 ⟨v, rfl, hb8⟩; have HB8 := Lib.hid hb8; clear hb8)
    all_goals (go_wp2_with fail; go_meet; exact ⟨rfl, HB8.out⟩)
  case rest =>
  obtain ⟨rfl, hbd⟩ := hcut
  have HBD := Lib.hid hbd
  clear hbd HNX HZ HZ1 HZ2 HBC HCC k0 k1 k2 k3 k4 k5 k6 hl8 hmk2 HC4 HW4
  rcases Nat.lt_or_ge 1000 L with hL | hL
  · have hf := HF.out
    rw [if_neg (by omega)] at hf
    subst hf
    have hl0 : ¬ (L : Int) ≤ 1000 := by omega
    go_wp2_with fail
    refine (nil_run (some ⟨_, 0, none⟩) 1 1 _).mono ?_
    rintro e wq ⟨rfl, hwq⟩
    have HBE : Hid (Below w.heap.size w wq ∧ 2 < wq.heap.size) := Lib.hid (by rw [hwq]; exact ⟨HBD.out.1.alloc HBD.out.1.size _, by rw [World.size_alloc]; exact Nat.lt_succ_of_lt HBD.out.2⟩)
    clear hwq HBD
    have HBD := HBE
    clear HBE
    go_wp2_with fail
    refine (nil_pick k _).mono ?_
    rintro e wq ⟨rfl, rfl⟩
    go_wp2_with fail
    refine (nil_config _).mono ?_
    rintro e wq ⟨rfl, hbq⟩
    have HBE := Lib.hid (And.intro (HBD.out.1.trans (hbq.mono HBD.out.1.size)) (Nat.lt_of_lt_of_le HBD.out.2 hbq.size))
    clear hbq HBD
    have HBD := HBE
    clear HBE
    go_wp2_with fail
    refine (nil_picks _).mono ?_
    rintro e wq ⟨rfl, rfl⟩
    go_wp2_with fail
    refine (nil_events _).mono ?_
    rintro e wq ⟨rfl, rfl⟩
    go_wp2_with fail
    refine (nil_since k _).mono ?_
    rintro e wq ⟨rfl, rfl⟩
    go_wp2_with fail
    refine (nil_mut k _).mono ?_
    rintro e wq ⟨rfl, rfl⟩
    go_wp2_with fail
    refine (nil_coll _).mono ?_
    rintro e wq ⟨rfl, rfl⟩
    go_wp2_with fail
    refine (nil_shared _).mono ?_
    rintro e wq ⟨rfl, rfl⟩
    go_wp2_with fail
    refine (nil_done _).mono ?_
    rintro e wq ⟨rfl, rfl⟩
    go_wp2_with fail
    refine (nil_idle _).mono ?_
    rintro e wq ⟨rfl, rfl⟩
    go_wp2_with fail
    refine (awake_any _ ⟨HT.out.later HBD.out.1, ⟨HBD.out.2⟩⟩).mono ?_
    rintro e wq ⟨rfl, hbq⟩
    have HBE := Lib.hid (And.intro (HBD.out.1.trans (hbq.mono HBD.out.1.size)) (Nat.lt_of_lt_of_le HBD.out.2 hbq.size))
    clear hbq HBD
    have HBD := HBE
    clear HBE
    go_wp2_with fail
    go_ret
    exact ⟨rfl, HBD.out.1⟩
  · have hf := HF.out
    rw [if_pos hL] at hf
    subst hf
    have hl0 : (L : Int) ≤ 1000 := by omega
    go_wp2_with fail
    refine (nil_run (some ⟨_, 0, none⟩) 1 1 _).mono ?_
    rintro e wq ⟨rfl, hwq⟩
    have HBE : Hid (Below w.heap.size w wq ∧ 2 < wq.heap.size) := Lib.hid (by rw [hwq]; exact ⟨HBD.out.1.alloc HBD.out.1.size _, by rw [World.size_alloc]; exact Nat.lt_succ_of_lt HBD.out.2⟩)
    clear hwq HBD
    have HBD := HBE
    clear HBE
    go_wp2_with fail
    refine (nil_pick k _).mono ?_
    rintro e wq ⟨rfl, rfl⟩
    go_wp2_with fail
    refine (nil_config _).mono ?_
    rintro e wq ⟨rfl, hbq⟩
    have HBE := Lib.hid (And.intro (HBD.out.1.trans (hbq.mono HBD.out.1.size)) (Nat.lt_of_lt_of_le HBD.out.2 hbq.size))
    clear hbq HBD
    have HBD := HBE
    clear HBE
    go_wp2_with fail
    refine (nil_picks _).mono ?_
    rintro e wq ⟨rfl, rfl⟩
    go_wp2_with fail
    refine (nil_events _).mono ?_
    rintro e wq ⟨rfl, rfl⟩
    go_wp2_with fail
    refine (nil_since k _).mono ?_
    rintro e wq ⟨rfl, rfl⟩
    go_wp2_with fail
    refine (nil_mut k _).mono ?_
    rintro e wq ⟨rfl, rfl⟩
    go_wp2_with fail
    refine (nil_coll _).mono ?_
    rintro e wq ⟨rfl, rfl⟩
    go_wp2_with fail
    refine (nil_shared _).mono ?_
    rintro e wq ⟨rfl, rfl⟩
    go_wp2_with fail
    refine (nil_done _).mono ?_
    rintro e wq ⟨rfl, rfl⟩
    go_wp2_with fail
    refine (nil_idle _).mono ?_
    rintro e wq ⟨rfl, rfl⟩
    go_wp2_with fail
    refine (awake_any _ ⟨HT.out.later HBD.out.1, ⟨HBD.out.2⟩⟩).mono ?_
    rintro e wq ⟨rfl, hbq⟩
    have HBE := Lib.hid (And.intro (HBD.out.1.trans (hbq.mono HBD.out.1.size)) (Nat.lt_of_lt_of_le HBD.out.2 hbq.size))
    clear hbq HBD
    have HBD := HBE
    clear HBE
    go_wp2_with fail
    go_ret
    exact ⟨rfl, HBD.out.1⟩
end Go.Proofs.YthpgnlcmpoldfaaGreatDoor.Wo
