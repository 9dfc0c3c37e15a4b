/-
  The law MutatorNone answers true: a config that is right.
-/
import Derived.Test.YtipifkgmhgkleaaGreatDoorMzVl
import Derived.Deep.CutBlock
import Derived.Deep.DeepCutAuto
namespace Go.Proofs.YtipifkgmhgkleaaGreatDoor.Mv
open Go.RowKit
open Blk (Cfg little little_any little_right)
open Go.Proofs.YtipifkgmhgkleaaGreatDoor.Addr (Tabs)
open Mu (Sy Sd ShIs sd0 lt_of_cell OpsR O4 cellsO share_bad share_anyT mnew_any mnew_nil mnew_range mnew_long mnil_pick mnil_most mnil_regs mnil_held mnil_mode mnil_color mnil_logged mnil_results mnil_busy mnil_done)
open Go.Proofs.YtipifkgmhgkleaaGreatDoor.Row (Chg rowB rowB_none info_parts)
set_option maxRecDepth 100000 in
set_option maxHeartbeats 8000000 in
theorem none_true (c : Cfg) (id more : Int) (w : World) (ht : Tabs w) (hf : Opr.FormTab w) (hm0 : 0 ≤ more) (hm1 : more ≤ 255) (hR : rightB c.b c.wd c.m c.r c.ce c.lg c.st = true) :
    Calls Tryz.prog 3 #[(.agg #[.int .i64 c.b, .int .i64 c.wd, .int .i64 c.m, .int .i64 c.r, .int .i64 c.ce, .int .i64 c.lg, .int .i64 c.st]), .int .i64 id, .int .u8 more] w fun e w' => e = .returned (.bool true) ∧ Below w.heap.size w w' := by
  have HRR := Lib.hid (refright_any c.b c.wd c.m c.r c.ce c.lg c.st)
  have hA : Below w.heap.size w (w.alloc (.cells #[.int .i64 c.b, .int .i64 c.wd, .int .i64 c.m, .int .i64 c.r, .int .i64 c.ce, .int .i64 c.lg, .int .i64 c.st] 23)) := (Below.refl _ _).alloc (Nat.le_refl _) _
  have HC : Hid (∀ V, Below (w.alloc (.cells #[.int .i64 c.b, .int .i64 c.wd, .int .i64 c.m, .int .i64 c.r, .int .i64 c.ce, .int .i64 c.lg, .int .i64 c.st] 23)).heap.size (w.alloc (.cells #[.int .i64 c.b, .int .i64 c.wd, .int .i64 c.m, .int .i64 c.r, .int .i64 c.ce, .int .i64 c.lg, .int .i64 c.st] 23)) V → Mu.CellsL V w.heap.size [.int .i64 c.b, .int .i64 c.wd, .int .i64 c.m, .int .i64 c.r, .int .i64 c.ce, .int .i64 c.lg, .int .i64 c.st]) := Lib.hid fun V hb o v hv => (hb.cell (p := ⟨w.heap.size, o, none⟩) (by rw [World.size_alloc]; exact Nat.lt_succ_self _)).trans (by rw [World.cell?_alloc_new, ← hv, ← List.getElem?_toArray])
  have HT := Lib.hid (ht.later hA)
  have HF := Lib.hid (hf.later hA)
  have HLI := Lib.hid (fun V => little_any c V)
  have HLR := Lib.hid (little_right c)
  obtain ⟨n, hn⟩ : ∃ n : Nat, c.b * c.wd = (n : Int) := ⟨(c.b * c.wd).toNat, by have := (Blk.slots_bd hR).words; omega⟩
  obtain ⟨nc, hnc⟩ : ∃ n : Nat, c.ce = (n : Int) := ⟨c.ce.toNat, by have := (Blk.slots_bd hR).ce0; omega⟩
  obtain ⟨M, hM⟩ : ∃ M : Nat, c.m = (M : Int) := ⟨c.m.toNat, by have := (Blk.slots_bd hR).m0; omega⟩
  have HSA := Lib.hid (share_anyT c n nc M _ (ht.later hA) hR hn hnc hM (by have := (Blk.slots_bd hR).m0; omega) (by have := (Blk.slots_bd hR).m1; omega))
  clear hn hnc hM
  rw [← rightB_ref, hR] at HRR
  have HA := Lib.hid hA
  clear ht hf hR hA
  have HDM : Hid (∀ V, (Instr.field 23 (.agg #[.int .i64 (little c).b, .int .i64 (little c).wd, .int .i64 (little c).m, .int .i64 (little c).r, .int .i64 (little c).ce, .int .i64 (little c).lg, .int .i64 (little c).st]) 2).run Tryz.prog V = .ok (.int .i64 (little c).m) V) := Lib.hid fun V => by generalize little c = d; kernel_rfl
  generalize little c = d at *
  obtain ⟨n, hn⟩ : ∃ n : Nat, d.b * d.wd = (n : Int) := ⟨(d.b * d.wd).toNat, by have := (Blk.slots_bd HLR.out).words; omega⟩
  obtain ⟨nc, hnc⟩ : ∃ n : Nat, d.ce = (n : Int) := ⟨d.ce.toNat, by have := (Blk.slots_bd HLR.out).ce0; omega⟩
  obtain ⟨M, hM⟩ : ∃ M : Nat, d.m = (M : Int) := ⟨d.m.toNat, by have := (Blk.slots_bd HLR.out).m0; omega⟩
  have HN : Hid (d.b * d.wd = (n : Int) ∧ d.ce = (nc : Int) ∧ d.m = (M : Int) ∧ 1 ≤ M ∧ M ≤ 8) := Lib.hid ⟨hn, hnc, hM, by have := (Blk.slots_bd HLR.out).m0; omega, by have := (Blk.slots_bd HLR.out).m1; omega⟩
  clear hn hnc hM
  go_enter Tryz.func3, Tryz.ntmps3
  go_wp2_with (go_at_call 9; fail)
  refine HSA.out.mono ?_
  rintro e w1 ⟨y, T, rfl, -, -, -, -, -, -, hb1⟩
  have HB1 := Lib.hid hb1
  have HC1 := Lib.hid (HC.out w1 hb1)
  have k0 := HC1.out 0 _ rfl
  have k1 := HC1.out 1 _ rfl
  have k2 := HC1.out 2 _ rfl
  have k3 := HC1.out 3 _ rfl
  have k4 := HC1.out 4 _ rfl
  have k5 := HC1.out 5 _ rfl
  have k6 := HC1.out 6 _ rfl
  have hl1 : w.heap.size < w1.heap.size := lt_of_cell k0
  clear hb1 HSA
  go_wp2_with (go_at_call 10; fail)
  refine (HRR.out _).mono ?_
  rintro e w2 ⟨rfl, hb2⟩
  have HB2 := Lib.hid (HB1.out.trans (hb2.mono HB1.out.size))
  have HC2 := Lib.hid (HC.out w2 HB2.out)
  clear hb2 HRR HB1 HC1 k0 k1 k2 k3 k4 k5 k6
  have k0 := HC2.out 0 _ rfl
  have k1 := HC2.out 1 _ rfl
  have k2 := HC2.out 2 _ rfl
  have k3 := HC2.out 3 _ rfl
  have k4 := HC2.out 4 _ rfl
  have k5 := HC2.out 5 _ rfl
  have k6 := HC2.out 6 _ rfl
  have hl2 : w.heap.size < w2.heap.size := lt_of_cell k0
  go_wp2_with (go_at_call 11; fail)
  refine (HLI.out _).mono ?_
  rintro e w3 ⟨rfl, hb3⟩
  have HB3 := Lib.hid (HB2.out.trans (hb3.mono HB2.out.size))
  clear hb3 HB2 HC2 k0 k1 k2 k3 k4 k5 k6
  go_wp2_with (go_at_call 9; fail)
  refine (share_anyT d n nc M w3 (HT.out.later HB3.out) HLR.out HN.out.1 HN.out.2.1 HN.out.2.2.1 HN.out.2.2.2.1 HN.out.2.2.2.2).mono ?_
  rintro e w4 ⟨y, T, rfl, hsh, -, -, -, -, -, hb4⟩
  have HB4 := Lib.hid (HB3.out.trans (hb4.mono HB3.out.size))
  have HSH := Lib.hid hsh
  have HC4 := Lib.hid (HC.out w4 HB4.out)
  clear hsh hb4 HB3
  have k0 := HC4.out 0 _ rfl
  have k1 := HC4.out 1 _ rfl
  have k2 := HC4.out 2 _ rfl
  have k3 := HC4.out 3 _ rfl
  have k4 := HC4.out 4 _ rfl
  have k5 := HC4.out 5 _ rfl
  have k6 := HC4.out 6 _ rfl
  have hl4 : w.heap.size < w4.heap.size := lt_of_cell k0
  go_wp2_with (go_at_call 11; fail)
  refine (HLI.out _).mono ?_
  rintro e w5 ⟨rfl, hb5⟩
  have HB5 := Lib.hid (HB4.out.trans (hb5.mono HB4.out.size))
  have HS5 := Lib.hid (HSH.out.later hb5)
  clear hb5 HB4 HC4 HSH k0 k1 k2 k3 k4 k5 k6
  have fdm := HDM.out
  obtain ⟨f, hf⟩ : ∃ f : Int, (0 ≤ id ∧ id < (M : Int) ∧ f = 0) ∨ (¬ (0 ≤ id ∧ id < (M : Int)) ∧ f = 1) := by
    by_cases h : 0 ≤ id ∧ id < (M : Int)
    · exact ⟨0, .inl ⟨h.1, h.2, rfl⟩⟩
    · exact ⟨1, .inr ⟨h, rfl⟩⟩
  have HFF := Lib.hid hf
  clear hf
  go_wp2_with (go_at_call 12; fail)
  refine (new_id w5 HS5.out (by exact HN.out.2.2.1) id f HFF.out).mono ?_
  rintro e w6 ⟨v6, rfl, ⟨T', hsh6⟩, hb6⟩
  have HB6 := Lib.hid (HB5.out.trans (hb6.mono HB5.out.size))
  have HS6 := Lib.hid hsh6
  clear hsh6 hb6 HB5 HS5 fdm
  obtain ⟨L, hL, hL0, hL1⟩ : ∃ L : Nat, (995 : Int) + more % 12 = (L : Int) ∧ 995 ≤ L ∧ L ≤ 1006 := ⟨(995 + more % 12).toNat, by omega, by omega, by omega⟩
  obtain ⟨g, hg⟩ : ∃ g : Int, (L ≤ 1000 ∧ g = 0) ∨ (1000 < L ∧ g = 3) := by
    by_cases h : L ≤ 1000
    · exact ⟨0, .inl ⟨h, rfl⟩⟩
    · exact ⟨3, .inr ⟨by omega, rfl⟩⟩
  have HG := Lib.hid hg
  have HL := Lib.hid hL
  have HLL := Lib.hid (And.intro hL0 hL1)
  have HMK : Hid (∀ W : World, (Instr.makeSlice 33 (.int .i64 (L : Int)) (.int .i64 (L : Int))).run Tryz.prog W = .ok (.slice (some ⟨W.heap.size, 0, none⟩) L L) (W.alloc (.cells (madeCells #[.int .i64 0, .int .i64 0, .int .i64 0, .int .i64 0] (L * 4)) 72))) := Lib.hid fun W => make_ops W L (by omega)
  have HLEN := Lib.hid (fun (V : World) (o : Nat) (T1 : Nat → Prop) (hs : ShIs V y T1 (sd0 d n nc) M M) (ho : ∀ (j : Nat) (u : Value), (cellsO (List.replicate L (0, 0, 0, 0)))[j]? = some u → V.cell? ⟨o, j, none⟩ = some u) => new_len V hs (by exact HN.out.2.2.1) HN.out.2.2.2.1 L o g hg ho)
  have hm3 := HN.out.2.2.1
  clear hg hL hL0 hL1
  rcases HFF.out with ⟨h0, h1, rfl⟩ | ⟨h0, rfl⟩
  · have h2 : id < d.m := by omega
    clear h1 hm3
    go_wp2_with (go_at_call 12; fail)
    refine (mnew_nil 0 (.slice none 0 0) _).mono ?_
    rintro e w7 ⟨rfl, q7, hw7⟩
    have HB7 := Lib.hid (HB6.out.trans ((show Below _ w6 w7 from hw7 ▸ below_drewN (Below.refl _ _) q7).mono HB6.out.size))
    have HS7 := Lib.hid (HS6.out.later (show Below _ w6 w7 from hw7 ▸ below_drewN (Below.refl _ _) q7))
    clear hw7
    go_upto_region 6 with fail
    rw [HL.out, HMK.out w7]
    have hZl : w7.heap.size < w7.heap.size + 1 := Nat.lt_succ_self _
    have HZ : Hid (Below w7.heap.size w7 (w7.alloc (.cells (madeCells #[.int .i64 0, .int .i64 0, .int .i64 0, .int .i64 0] (L * 4)) 72))) := Lib.hid ((Below.refl _ _).alloc (Nat.le_refl _) _)
    have hl0 := HLL.out.1
    have hl1 := HLL.out.2
    go_wp2_with (go_at_call 12; fail)
    refine (HLEN.out _ w7.heap.size T' (HS7.out.later HZ.out) (fun j u hu => by rw [World.cell?_alloc_new]; exact ops_cells L j u hu)).mono ?_
    rintro e w8 ⟨v8, rfl, hb8⟩
    have HB8 := Lib.hid (HB7.out.trans ((HZ.out.trans (hb8.mono HZ.out.size)).mono HB7.out.size))
    clear hb8 HB7 HS7 HZ HLEN HMK hZl
    rcases HG.out with ⟨hL2, rfl⟩ | ⟨hL2, rfl⟩
    · have q1 : (L : Int) ≤ 1000 := by omega
      have q2 : ¬ (1000 : Int) < (L : Int) := by omega
      clear hL2
      go_wp2_with fail
      refine (mnil_pick _).mono ?_
      rintro e wq ⟨rfl, hbq⟩
      have HBE := Lib.hid (HB8.out.trans (hbq.mono HB8.out.size))
      clear hbq HB8
      have HB8 := HBE
      clear HBE
      go_wp2_with fail
      refine (mnil_most _).mono ?_
      rintro e wq ⟨rfl, rfl⟩
      go_wp2_with fail
      refine (mnil_regs _).mono ?_
      rintro e wq ⟨rfl, rfl⟩
      go_wp2_with fail
      refine (mnil_held _).mono ?_
      rintro e wq ⟨rfl, rfl⟩
      go_wp2_with fail
      refine (mnil_mode _).mono ?_
      rintro e wq ⟨rfl, rfl⟩
      go_wp2_with fail
      refine (mnil_color _).mono ?_
      rintro e wq ⟨rfl, rfl⟩
      go_wp2_with fail
      refine (mnil_logged _).mono ?_
      rintro e wq ⟨rfl, rfl⟩
      go_wp2_with fail
      refine (mnil_results _).mono ?_
      rintro e wq ⟨rfl, rfl⟩
      go_wp2_with fail
      refine (mnil_busy _).mono ?_
      rintro e wq ⟨rfl, rfl⟩
      go_wp2_with fail
      refine (mnil_done _).mono ?_
      rintro e wq ⟨rfl, q, hwq⟩
      have HBE := Lib.hid (HB8.out.trans ((show Below _ _ wq by rw [hwq]; exact below_drewN ((Below.refl _ _).alloc (Nat.le_refl _) _) q).mono HB8.out.size))
      clear hwq HB8
      have HB8 := HBE
      clear HBE
      go_wp2_with fail
      refine (awake_any _ (HT.out.later HB8.out) (HF.out.later HB8.out)).mono ?_
      rintro e wz ⟨rfl, hbz⟩
      have HBE := Lib.hid (HB8.out.trans (hbz.mono HB8.out.size))
      clear hbz HB8
      go_wp2_with fail
      go_ret
      exact ⟨rfl, HA.out.trans (HBE.out.mono HA.out.size)⟩
    · have q1 : ¬ (L : Int) ≤ 1000 := by omega
      have q2 : (1000 : Int) < (L : Int) := by omega
      clear hL2
      go_wp2_with fail
      refine (mnil_pick _).mono ?_
      rintro e wq ⟨rfl, hbq⟩
      have HBE := Lib.hid (HB8.out.trans (hbq.mono HB8.out.size))
      clear hbq HB8
      have HB8 := HBE
      clear HBE
      go_wp2_with fail
      refine (mnil_most _).mono ?_
      rintro e wq ⟨rfl, rfl⟩
      go_wp2_with fail
      refine (mnil_regs _).mono ?_
      rintro e wq ⟨rfl, rfl⟩
      go_wp2_with fail
      refine (mnil_held _).mono ?_
      rintro e wq ⟨rfl, rfl⟩
      go_wp2_with fail
      refine (mnil_mode _).mono ?_
      rintro e wq ⟨rfl, rfl⟩
      go_wp2_with fail
      refine (mnil_color _).mono ?_
      rintro e wq ⟨rfl, rfl⟩
      go_wp2_with fail
      refine (mnil_logged _).mono ?_
      rintro e wq ⟨rfl, rfl⟩
      go_wp2_with fail
      refine (mnil_results _).mono ?_
      rintro e wq ⟨rfl, rfl⟩
      go_wp2_with fail
      refine (mnil_busy _).mono ?_
      rintro e wq ⟨rfl, rfl⟩
      go_wp2_with fail
      refine (mnil_done _).mono ?_
      rintro e wq ⟨rfl, q, hwq⟩
      have HBE := Lib.hid (HB8.out.trans ((show Below _ _ wq by rw [hwq]; exact below_drewN ((Below.refl _ _).alloc (Nat.le_refl _) _) q).mono HB8.out.size))
      clear hwq HB8
      have HB8 := HBE
      clear HBE
      go_wp2_with fail
      refine (awake_any _ (HT.out.later HB8.out) (HF.out.later HB8.out)).mono ?_
      rintro e wz ⟨rfl, hbz⟩
      have HBE := Lib.hid (HB8.out.trans (hbz.mono HB8.out.size))
      clear hbz HB8
      go_wp2_with fail
      go_ret
      exact ⟨rfl, HA.out.trans (HBE.out.mono HA.out.size)⟩
  · by_cases h1 : 0 ≤ id
    · have h2 : ¬ id < d.m := by omega
      clear h0 hm3
      go_wp2_with (go_at_call 12; fail)
      refine (mnew_nil 0 (.slice none 0 0) _).mono ?_
      rintro e w7 ⟨rfl, q7, hw7⟩
      have HB7 := Lib.hid (HB6.out.trans ((show Below _ w6 w7 from hw7 ▸ below_drewN (Below.refl _ _) q7).mono HB6.out.size))
      have HS7 := Lib.hid (HS6.out.later (show Below _ w6 w7 from hw7 ▸ below_drewN (Below.refl _ _) q7))
      clear hw7
      go_upto_region 6 with fail
      rw [HL.out, HMK.out w7]
      have hZl : w7.heap.size < w7.heap.size + 1 := Nat.lt_succ_self _
      have HZ : Hid (Below w7.heap.size w7 (w7.alloc (.cells (madeCells #[.int .i64 0, .int .i64 0, .int .i64 0, .int .i64 0] (L * 4)) 72))) := Lib.hid ((Below.refl _ _).alloc (Nat.le_refl _) _)
      have hl0 := HLL.out.1
      have hl1 := HLL.out.2
      go_wp2_with (go_at_call 12; fail)
      refine (HLEN.out _ w7.heap.size T' (HS7.out.later HZ.out) (fun j u hu => by rw [World.cell?_alloc_new]; exact ops_cells L j u hu)).mono ?_
      rintro e w8 ⟨v8, rfl, hb8⟩
      have HB8 := Lib.hid (HB7.out.trans ((HZ.out.trans (hb8.mono HZ.out.size)).mono HB7.out.size))
      clear hb8 HB7 HS7 HZ HLEN HMK hZl
      rcases HG.out with ⟨hL2, rfl⟩ | ⟨hL2, rfl⟩
      · have q1 : (L : Int) ≤ 1000 := by omega
        have q2 : ¬ (1000 : Int) < (L : Int) := by omega
        clear hL2
        go_wp2_with fail
        refine (mnil_pick _).mono ?_
        rintro e wq ⟨rfl, hbq⟩
        have HBE := Lib.hid (HB8.out.trans (hbq.mono HB8.out.size))
        clear hbq HB8
        have HB8 := HBE
        clear HBE
        go_wp2_with fail
        refine (mnil_most _).mono ?_
        rintro e wq ⟨rfl, rfl⟩
        go_wp2_with fail
        refine (mnil_regs _).mono ?_
        rintro e wq ⟨rfl, rfl⟩
        go_wp2_with fail
        refine (mnil_held _).mono ?_
        rintro e wq ⟨rfl, rfl⟩
        go_wp2_with fail
        refine (mnil_mode _).mono ?_
        rintro e wq ⟨rfl, rfl⟩
        go_wp2_with fail
        refine (mnil_color _).mono ?_
        rintro e wq ⟨rfl, rfl⟩
        go_wp2_with fail
        refine (mnil_logged _).mono ?_
        rintro e wq ⟨rfl, rfl⟩
        go_wp2_with fail
        refine (mnil_results _).mono ?_
        rintro e wq ⟨rfl, rfl⟩
        go_wp2_with fail
        refine (mnil_busy _).mono ?_
        rintro e wq ⟨rfl, rfl⟩
        go_wp2_with fail
        refine (mnil_done _).mono ?_
        rintro e wq ⟨rfl, q, hwq⟩
        have HBE := Lib.hid (HB8.out.trans ((show Below _ _ wq by rw [hwq]; exact below_drewN ((Below.refl _ _).alloc (Nat.le_refl _) _) q).mono HB8.out.size))
        clear hwq HB8
        have HB8 := HBE
        clear HBE
        go_wp2_with fail
        refine (awake_any _ (HT.out.later HB8.out) (HF.out.later HB8.out)).mono ?_
        rintro e wz ⟨rfl, hbz⟩
        have HBE := Lib.hid (HB8.out.trans (hbz.mono HB8.out.size))
        clear hbz HB8
        go_wp2_with fail
        go_ret
        exact ⟨rfl, HA.out.trans (HBE.out.mono HA.out.size)⟩
      · have q1 : ¬ (L : Int) ≤ 1000 := by omega
        have q2 : (1000 : Int) < (L : Int) := by omega
        clear hL2
        go_wp2_with fail
        refine (mnil_pick _).mono ?_
        rintro e wq ⟨rfl, hbq⟩
        have HBE := Lib.hid (HB8.out.trans (hbq.mono HB8.out.size))
        clear hbq HB8
        have HB8 := HBE
        clear HBE
        go_wp2_with fail
        refine (mnil_most _).mono ?_
        rintro e wq ⟨rfl, rfl⟩
        go_wp2_with fail
        refine (mnil_regs _).mono ?_
        rintro e wq ⟨rfl, rfl⟩
        go_wp2_with fail
        refine (mnil_held _).mono ?_
        rintro e wq ⟨rfl, rfl⟩
        go_wp2_with fail
        refine (mnil_mode _).mono ?_
        rintro e wq ⟨rfl, rfl⟩
        go_wp2_with fail
        refine (mnil_color _).mono ?_
        rintro e wq ⟨rfl, rfl⟩
        go_wp2_with fail
        refine (mnil_logged _).mono ?_
        rintro e wq ⟨rfl, rfl⟩
        go_wp2_with fail
        refine (mnil_results _).mono ?_
        rintro e wq ⟨rfl, rfl⟩
        go_wp2_with fail
        refine (mnil_busy _).mono ?_
        rintro e wq ⟨rfl, rfl⟩
        go_wp2_with fail
        refine (mnil_done _).mono ?_
        rintro e wq ⟨rfl, q, hwq⟩
        have HBE := Lib.hid (HB8.out.trans ((show Below _ _ wq by rw [hwq]; exact below_drewN ((Below.refl _ _).alloc (Nat.le_refl _) _) q).mono HB8.out.size))
        clear hwq HB8
        have HB8 := HBE
        clear HBE
        go_wp2_with fail
        refine (awake_any _ (HT.out.later HB8.out) (HF.out.later HB8.out)).mono ?_
        rintro e wz ⟨rfl, hbz⟩
        have HBE := Lib.hid (HB8.out.trans (hbz.mono HB8.out.size))
        clear hbz HB8
        go_wp2_with fail
        go_ret
        exact ⟨rfl, HA.out.trans (HBE.out.mono HA.out.size)⟩
    · clear h0 hm3
      go_wp2_with (go_at_call 12; fail)
      refine (mnew_nil 0 (.slice none 0 0) _).mono ?_
      rintro e w7 ⟨rfl, q7, hw7⟩
      have HB7 := Lib.hid (HB6.out.trans ((show Below _ w6 w7 from hw7 ▸ below_drewN (Below.refl _ _) q7).mono HB6.out.size))
      have HS7 := Lib.hid (HS6.out.later (show Below _ w6 w7 from hw7 ▸ below_drewN (Below.refl _ _) q7))
      clear hw7
      go_upto_region 6 with fail
      rw [HL.out, HMK.out w7]
      have hZl : w7.heap.size < w7.heap.size + 1 := Nat.lt_succ_self _
      have HZ : Hid (Below w7.heap.size w7 (w7.alloc (.cells (madeCells #[.int .i64 0, .int .i64 0, .int .i64 0, .int .i64 0] (L * 4)) 72))) := Lib.hid ((Below.refl _ _).alloc (Nat.le_refl _) _)
      have hl0 := HLL.out.1
      have hl1 := HLL.out.2
      go_wp2_with (go_at_call 12; fail)
      refine (HLEN.out _ w7.heap.size T' (HS7.out.later HZ.out) (fun j u hu => by rw [World.cell?_alloc_new]; exact ops_cells L j u hu)).mono ?_
      rintro e w8 ⟨v8, rfl, hb8⟩
      have HB8 := Lib.hid (HB7.out.trans ((HZ.out.trans (hb8.mono HZ.out.size)).mono HB7.out.size))
      clear hb8 HB7 HS7 HZ HLEN HMK hZl
      rcases HG.out with ⟨hL2, rfl⟩ | ⟨hL2, rfl⟩
      · have q1 : (L : Int) ≤ 1000 := by omega
        have q2 : ¬ (1000 : Int) < (L : Int) := by omega
        clear hL2
        go_wp2_with fail
        refine (mnil_pick _).mono ?_
        rintro e wq ⟨rfl, hbq⟩
        have HBE := Lib.hid (HB8.out.trans (hbq.mono HB8.out.size))
        clear hbq HB8
        have HB8 := HBE
        clear HBE
        go_wp2_with fail
        refine (mnil_most _).mono ?_
        rintro e wq ⟨rfl, rfl⟩
        go_wp2_with fail
        refine (mnil_regs _).mono ?_
        rintro e wq ⟨rfl, rfl⟩
        go_wp2_with fail
        refine (mnil_held _).mono ?_
        rintro e wq ⟨rfl, rfl⟩
        go_wp2_with fail
        refine (mnil_mode _).mono ?_
        rintro e wq ⟨rfl, rfl⟩
        go_wp2_with fail
        refine (mnil_color _).mono ?_
        rintro e wq ⟨rfl, rfl⟩
        go_wp2_with fail
        refine (mnil_logged _).mono ?_
        rintro e wq ⟨rfl, rfl⟩
        go_wp2_with fail
        refine (mnil_results _).mono ?_
        rintro e wq ⟨rfl, rfl⟩
        go_wp2_with fail
        refine (mnil_busy _).mono ?_
        rintro e wq ⟨rfl, rfl⟩
        go_wp2_with fail
        refine (mnil_done _).mono ?_
        rintro e wq ⟨rfl, q, hwq⟩
        have HBE := Lib.hid (HB8.out.trans ((show Below _ _ wq by rw [hwq]; exact below_drewN ((Below.refl _ _).alloc (Nat.le_refl _) _) q).mono HB8.out.size))
        clear hwq HB8
        have HB8 := HBE
        clear HBE
        go_wp2_with fail
        refine (awake_any _ (HT.out.later HB8.out) (HF.out.later HB8.out)).mono ?_
        rintro e wz ⟨rfl, hbz⟩
        have HBE := Lib.hid (HB8.out.trans (hbz.mono HB8.out.size))
        clear hbz HB8
        go_wp2_with fail
        go_ret
        exact ⟨rfl, HA.out.trans (HBE.out.mono HA.out.size)⟩
      · have q1 : ¬ (L : Int) ≤ 1000 := by omega
        have q2 : (1000 : Int) < (L : Int) := by omega
        clear hL2
        go_wp2_with fail
        refine (mnil_pick _).mono ?_
        rintro e wq ⟨rfl, hbq⟩
        have HBE := Lib.hid (HB8.out.trans (hbq.mono HB8.out.size))
        clear hbq HB8
        have HB8 := HBE
        clear HBE
        go_wp2_with fail
        refine (mnil_most _).mono ?_
        rintro e wq ⟨rfl, rfl⟩
        go_wp2_with fail
        refine (mnil_regs _).mono ?_
        rintro e wq ⟨rfl, rfl⟩
        go_wp2_with fail
        refine (mnil_held _).mono ?_
        rintro e wq ⟨rfl, rfl⟩
        go_wp2_with fail
        refine (mnil_mode _).mono ?_
        rintro e wq ⟨rfl, rfl⟩
        go_wp2_with fail
        refine (mnil_color _).mono ?_
        rintro e wq ⟨rfl, rfl⟩
        go_wp2_with fail
        refine (mnil_logged _).mono ?_
        rintro e wq ⟨rfl, rfl⟩
        go_wp2_with fail
        refine (mnil_results _).mono ?_
        rintro e wq ⟨rfl, rfl⟩
        go_wp2_with fail
        refine (mnil_busy _).mono ?_
        rintro e wq ⟨rfl, rfl⟩
        go_wp2_with fail
        refine (mnil_done _).mono ?_
        rintro e wq ⟨rfl, q, hwq⟩
        have HBE := Lib.hid (HB8.out.trans ((show Below _ _ wq by rw [hwq]; exact below_drewN ((Below.refl _ _).alloc (Nat.le_refl _) _) q).mono HB8.out.size))
        clear hwq HB8
        have HB8 := HBE
        clear HBE
        go_wp2_with fail
        refine (awake_any _ (HT.out.later HB8.out) (HF.out.later HB8.out)).mono ?_
        rintro e wz ⟨rfl, hbz⟩
        have HBE := Lib.hid (HB8.out.trans (hbz.mono HB8.out.size))
        clear hbz HB8
        go_wp2_with fail
        go_ret
        exact ⟨rfl, HA.out.trans (HBE.out.mono HA.out.size)⟩
end Go.Proofs.YtipifkgmhgkleaaGreatDoor.Mv
