/-
  Texts one behind the other: Mvm Mvf Mvn (theorems that nobody names are left out).
-/
import Derived.Test.YtipifkgmhgkleaaGreatDoorMzMa
import Derived.Lib.QuietBelow
import Derived.Test.YtipifkgmhgkleaaGreatDoorMzVk
namespace Go.Proofs.YtipifkgmhgkleaaGreatDoor.Mu
open Go.RowKit
open Blk (Cfg)
open Hp (Ids St Is Mine st0 zeroInts)
open Lg (BfIs BxIs)
open Go.Proofs.YtipifkgmhgkleaaGreatDoor.Row (Chg rowB rowB_none other same cell_of_block frozen_of_block owns_lt owns_chg owns_slice)
set_option maxRecDepth 100000 in
set_option maxHeartbeats 4000000 in
theorem mnew_long {y : Sy} {T : Nat → Prop} {x : Sd} {n nb cp np : Nat} (w : World) (h : ShIs w y T x n nb) (hm : x.s.c.m = (nb : Int)) (id : Nat) (hid : id < nb) (pp : Option Addr) (hl : 1000 < np) :
    Calls Tryz.prog 12 #[.pointer (some ⟨y.S, 0, none⟩), .int .i64 id, .slice pp np cp] w fun e w' => e = .returned (.tuple #[.pointer none, .int .i64 3]) ∧ Below w.heap.size w w' := by
  have HSH := Lib.hid h
  obtain ⟨bq, off, epx, hpx⟩ := h.pr id hid
  have HL := Lib.hid hl
  have hR := Blk.slots_bd h.hp.wf.right
  obtain ⟨room, hroom⟩ : ∃ room : Nat, x.s.c.lg = (room : Int) := ⟨x.s.c.lg.toNat, by have := hR.lg0; omega⟩
  obtain ⟨r, hr⟩ : ∃ r : Nat, x.s.c.r = (r : Int) := ⟨x.s.c.r.toNat, by have := hR.r0; omega⟩
  have HR := Lib.hid (And.intro hroom hr)
  have HB : Hid (1 ≤ room ∧ room ≤ 256 ∧ r ≤ 64) := Lib.hid ⟨by have := hR.lg0; omega, by have := hR.lg1; omega, by have := hR.r1; omega⟩
  have HCF := Lib.hid (fun (V : World) (hb : Below w.heap.size w V) => Hp.config_any V (h.later hb).hp)
  rw [hm, hroom, hr] at HCF
  have HW := Lib.hid (fun (V : World) (hb : Below w.heap.size w V) => (whole_any (h.later hb)).mono fun e w' (hw : e = .returned (.bool true) ∧ w' = V) => (show e = .returned (.bool true) ∧ Below V.heap.size V w' from ⟨hw.1, hw.2 ▸ Below.refl _ _⟩))
  have HGR := Lib.hid (fun d os => below_regrown w d os)
  have c0 := h.c0
  have c4 := h.c4
  rw [epx] at c4
  have HLD : Hid (Ld w w y nb bq off id) := Lib.hid ⟨Below.refl _ _, c0, h.c3, c4, hpx⟩
  have hls := h.ltS
  have k0 := cell_regrown c0
  have k4 := cell_regrown c4
  have i0 : (0 : Int) ≤ (id : Int) := by omega
  have i1 : (id : Int) < (nb : Int) := by omega
  have i2 : ¬ (id : Int) < 0 := by omega
  have i3 : ¬ (nb : Int) ≤ (id : Int) := by omega
  have hfB := fieldB_cfg
  have d2 : decide ((id : Int) < 0) = false := by simp
  have d3 : decide ((nb : Int) ≤ (id : Int)) = false := by simp; omega
  have d4 : min (nb : Int) (nb : Int) = nb := by simp
  have d5 : decide (nb ≤ id) = false := by simp; omega
  clear h hR hroom hr hm epx hpx
  go_enter Tryz.func12, Tryz.ntmps12
  go_wp2_with fail
  refine wp_region_quiet_below (by kernel_rfl) (by kernel_rfl) ?_
  repeat (go_big_quiet_step (first
    | (go_at_call 44; exact Calls.regrown_of (HW.out _ (HGR.out _ _)))
    | (go_at_call 45; exact Calls.regrown_of (HCF.out _ (HGR.out _ _)))))
  refine wpQuiet_nil ?_
  intro wp hw'
  have HBP := Lib.hid (below_grown hw')
  have HLP := Lib.hid (HLD.out.later HBP.out)
  have p0 := HLP.out.l0
  have hlp := lt_of_cell p0
  clear hw' k0 k4 c0 c4 hls
  have HCP := Lib.hid (HCF.out _ HBP.out)
  go_wp2_with (go_at_call 45; fail)
  refine HCP.out.mono ?_
  rintro e w2 ⟨rfl, hb2⟩
  have HB2 := Lib.hid (HBP.out.trans (hb2.mono HBP.out.size))
  have HL2 := Lib.hid (HLP.out.later hb2)
  have hA3 : Below w2.heap.size w2 (w2.alloc (.cells #[.int .i64 x.s.c.b, .int .i64 x.s.c.wd, .int .i64 nb, .int .i64 r, .int .i64 x.s.c.ce, .int .i64 room, .int .i64 x.s.c.st] 23)) := (Below.refl _ _).alloc (Nat.le_refl _) _
  have HA3 := Lib.hid hA3
  have HC3 : Hid ((w2.alloc (.cells #[.int .i64 x.s.c.b, .int .i64 x.s.c.wd, .int .i64 nb, .int .i64 r, .int .i64 x.s.c.ce, .int .i64 room, .int .i64 x.s.c.st] 23)).cell? ⟨w2.heap.size, 3, none⟩ = some (.int .i64 r)) := Lib.hid (by rw [World.cell?_alloc_new]; rfl)
  have HNL := Lib.hid (fun V => Lg.new_good room (room : Int) rfl V HB.out.1 HB.out.2.1)
  clear hb2 HCP p0 hlp HBP HLP hA3
  go_wp2_with (go_at_call 46; fail)
  refine (HNL.out _).mono ?_
  rintro e w4 ⟨rfl, hbf, hb4, hz4⟩
  generalize hw3 : w2.alloc (.cells #[.int .i64 x.s.c.b, .int .i64 x.s.c.wd, .int .i64 nb, .int .i64 r, .int .i64 x.s.c.ce, .int .i64 room, .int .i64 x.s.c.st] 23) = w3 at *
  have HBF := Lib.hid hbf
  have HZ3 : Hid (w3.heap.size = w2.heap.size + 1) := Lib.hid (by rw [← hw3, World.size_alloc])
  have HZ4 := Lib.hid hz4
  have hc43 := (hb4.cell (p := ⟨w2.heap.size, 3, none⟩) (lt_of_cell HC3.out)).trans HC3.out
  have HC43 := Lib.hid hc43
  have HB24 : Hid (Below w2.heap.size w2 w4) := Lib.hid (HA3.out.trans (hb4.mono HA3.out.size))
  have HL4 : Hid (Ld w4 w4 y nb bq off id) := Lib.hid (by
    have h := HL2.out.later HB24.out
    exact ⟨Below.refl _ _, h.l0, h.l3, h.l4, h.lx⟩)
  have HNN := Lib.hid (fun (U : World) (hb : Below w4.heap.size w4 U) => (noter_new y.H w3.heap.size (y.X id) y.F U).mono fun e w' (h : ∃ N, e = .returned (.tuple #[.pointer (some ⟨N, 0, none⟩), .int .i64 0]) ∧ U.heap.size ≤ N ∧ NtAt w' N y.H w3.heap.size (y.X id) y.F ∧ Below U.heap.size U w') => (show ∃ N, e = .returned (.tuple #[.pointer (some ⟨N, 0, none⟩), .int .i64 0]) ∧ (w4.heap.size ≤ N ∧ NtAt w' N y.H w3.heap.size (y.X id) y.F) ∧ Below U.heap.size U w' from by
    obtain ⟨N, h1, h2, h3, h4⟩ := h
    exact ⟨N, h1, ⟨Nat.le_trans hb.size h2, h3⟩, h4⟩))
  have HKD : Hid (Ld w4 w4.drew y nb bq off id) := Lib.hid (HL4.out.later (Below.refl _ _).drew)
  have HKS : Hid (∀ wc W : World, Below wc.heap.size wc W → (Below w4.heap.size w4 wc ∧ wc.cell? ⟨y.S, 0, none⟩ = some (.pointer (some ⟨y.H, 0, none⟩)) ∧ wc.cell? ⟨y.S, 3, none⟩ = some (.pointer (some ⟨y.F, 0, none⟩)) ∧ wc.cell? ⟨y.S, 4, none⟩ = some (.slice (some ⟨bq, off, none⟩) nb y.cx) ∧ wc.cell? ⟨bq, off + id, none⟩ = some (.pointer (some ⟨y.X id, 0, none⟩))) →
      (Below w4.heap.size w4 W ∧ W.cell? ⟨y.S, 0, none⟩ = some (.pointer (some ⟨y.H, 0, none⟩)) ∧ W.cell? ⟨y.S, 3, none⟩ = some (.pointer (some ⟨y.F, 0, none⟩)) ∧ W.cell? ⟨y.S, 4, none⟩ = some (.slice (some ⟨bq, off, none⟩) nb y.cx) ∧ W.cell? ⟨bq, off + id, none⟩ = some (.pointer (some ⟨y.X id, 0, none⟩)))) := Lib.hid fun wc W hb h => by
    have h2 := (show Ld w4 wc y nb bq off id from ⟨h.1, h.2.1, h.2.2.1, h.2.2.2.1, h.2.2.2.2⟩).later hb
    exact ⟨h2.b, h2.l0, h2.l3, h2.l4, h2.lx⟩
  have HK0 : Hid (Below w4.heap.size w4 w4.drew ∧ w4.drew.cell? ⟨y.S, 0, none⟩ = some (.pointer (some ⟨y.H, 0, none⟩)) ∧ w4.drew.cell? ⟨y.S, 3, none⟩ = some (.pointer (some ⟨y.F, 0, none⟩)) ∧ w4.drew.cell? ⟨y.S, 4, none⟩ = some (.slice (some ⟨bq, off, none⟩) nb y.cx) ∧ w4.drew.cell? ⟨bq, off + id, none⟩ = some (.pointer (some ⟨y.X id, 0, none⟩))) := Lib.hid ⟨HKD.out.b, HKD.out.l0, HKD.out.l3, HKD.out.l4, HKD.out.lx⟩
  have hls4 := lt_of_cell HL4.out.l0
  clear hbf hb4 hz4 hw3
  go_wp2_with fail
  go_region_held3 (fun U => Below w4.heap.size w4 U ∧ U.cell? ⟨y.S, 0, none⟩ = some (.pointer (some ⟨y.H, 0, none⟩)) ∧ U.cell? ⟨y.S, 3, none⟩ = some (.pointer (some ⟨y.F, 0, none⟩)) ∧ U.cell? ⟨y.S, 4, none⟩ = some (.slice (some ⟨bq, off, none⟩) nb y.cx) ∧ U.cell? ⟨bq, off + id, none⟩ = some (.pointer (some ⟨y.X id, 0, none⟩)))
    (first | exact HK0.out | assumption | exact HKS.out _ _ hb8 (by assumption))
    (first
      | (go_at_call 47; refine (HNN.out _ (And.left (by assumption))).mono ?_; rintro e w8 ⟨N, rfl, hn8, hb8⟩))
  have hS8 : Ld w4 w8 y nb bq off id := by
    have h := (show (Below w4.heap.size w4 w8 ∧ w8.cell? ⟨y.S, 0, none⟩ = some (.pointer (some ⟨y.H, 0, none⟩)) ∧ w8.cell? ⟨y.S, 3, none⟩ = some (.pointer (some ⟨y.F, 0, none⟩)) ∧ w8.cell? ⟨y.S, 4, none⟩ = some (.slice (some ⟨bq, off, none⟩) nb y.cx) ∧ w8.cell? ⟨bq, off + id, none⟩ = some (.pointer (some ⟨y.X id, 0, none⟩))) from by assumption)
    exact ⟨h.1, h.2.1, h.2.2.1, h.2.2.2.1, h.2.2.2.2⟩
  have HB48 := Lib.hid hS8.b
  have HN8 := Lib.hid hn8
  have hc83 := (hS8.b.cell (p := ⟨w2.heap.size, 3, none⟩) (lt_of_cell HC43.out)).trans HC43.out
  have hlc := lt_of_cell hc83
  have HB08 : Hid (Below w.heap.size w w8) := Lib.hid (HB2.out.trans ((HB24.out.trans (hS8.b.mono HB24.out.size)).mono HB2.out.size))
  have hpl2 : (1000 : Int) < (np : Int) := by have := HL.out; omega
  clear hS8 hn8 hc43 hls4 HNN HKD HKS HK0 HL4
  go_wp2_with fail
  go_ret2
  exact ⟨rfl, HB08.out⟩
end Go.Proofs.YtipifkgmhgkleaaGreatDoor.Mu

namespace Go.Proofs.YtipifkgmhgkleaaGreatDoor.Mu
open Go.RowKit
open Blk (Cfg)
open Hp (Ids St Is Mine st0 zeroInts)
open Lg (BfIs BxIs)
open Go.Proofs.YtipifkgmhgkleaaGreatDoor.Row (Chg rowB rowB_none other same cell_of_block frozen_of_block owns_lt owns_chg owns_slice)
set_option maxRecDepth 100000 in
set_option maxHeartbeats 4000000 in
theorem mnew_range {y : Sy} {T : Nat → Prop} {x : Sd} {n nb : Nat} (w : World) (h : ShIs w y T x n nb) (hm : x.s.c.m = (nb : Int)) (id : Int) (hid : id < 0 ∨ (nb : Int) ≤ id) (v : Value) :
    Calls Tryz.prog 12 #[.pointer (some ⟨y.S, 0, none⟩), .int .i64 id, v] w fun e w' => e = .returned (.tuple #[.pointer none, .int .i64 1]) ∧ Below w.heap.size w w' := by
  have HCF := Lib.hid (fun (V : World) (hb : Below w.heap.size w V) => Hp.config_any V (h.later hb).hp)
  rw [hm] at HCF
  have HW := Lib.hid (fun (V : World) (hb : Below w.heap.size w V) => (whole_any (h.later hb)).mono fun e w' (hw : e = .returned (.bool true) ∧ w' = V) => (show e = .returned (.bool true) ∧ Below V.heap.size V w' from ⟨hw.1, hw.2 ▸ Below.refl _ _⟩))
  have HGR := Lib.hid (fun d os => below_regrown w d os)
  have c0 := h.c0
  have c4 := h.c4
  have hls := h.ltS
  have k0 := cell_regrown c0
  have k4 := cell_regrown c4
  have hfB := fieldB_cfg
  have d4 : min (nb : Int) (nb : Int) = nb := by simp
  clear h hm
  rcases Int.lt_or_le id 0 with hn | hn
  case inl =>
    clear hid
    have d2 : decide (id < 0) = true := by simpa using hn
    go_enter Tryz.func12, Tryz.ntmps12
    go_wp2_with fail
    refine wp_region_quiet_below (by kernel_rfl) (by kernel_rfl) ?_
    repeat (go_big_quiet_step (first
      | (go_at_call 44; exact Calls.regrown_of (HW.out _ (HGR.out _ _)))
      | (go_at_call 45; exact Calls.regrown_of (HCF.out _ (HGR.out _ _)))))
    refine wpQuiet_nil ?_
    intro wp hw'
    have HBP := Lib.hid (below_grown hw')
    clear hw' k0 k4 c0 c4 hls
    go_wp2_with fail
    go_ret2
    exact ⟨rfl, HBP.out⟩
  case inr =>
    have hid2 : (nb : Int) ≤ id := by omega
    have i2 : ¬ id < 0 := by omega
    clear hid
    have d2 : decide (id < 0) = false := by simpa using hn
    have d3 : decide ((nb : Int) ≤ id) = true := by simpa using hid2
    go_enter Tryz.func12, Tryz.ntmps12
    go_wp2_with fail
    refine wp_region_quiet_below (by kernel_rfl) (by kernel_rfl) ?_
    repeat (go_big_quiet_step (first
      | (go_at_call 44; exact Calls.regrown_of (HW.out _ (HGR.out _ _)))
      | (go_at_call 45; exact Calls.regrown_of (HCF.out _ (HGR.out _ _)))))
    refine wpQuiet_nil ?_
    intro wp hw'
    have HBP := Lib.hid (below_grown hw')
    clear hw' k0 k4 c0 c4 hls
    go_wp2_with fail
    go_ret2
    exact ⟨rfl, HBP.out⟩
end Go.Proofs.YtipifkgmhgkleaaGreatDoor.Mu

namespace Go.Proofs.YtipifkgmhgkleaaGreatDoor.Mv
open Go.RowKit
open Blk (Cfg little little_any little_right)
open Go.Proofs.YtipifkgmhgkleaaGreatDoor.Addr (Tabs)
open Mu (Sy Sd ShIs sd0 lt_of_cell OpsR O4 cellsO share_bad share_anyT mnew_any mnew_nil mnew_range mnew_long mnil_pick mnil_most mnil_regs mnil_held mnil_mode mnil_color mnil_logged mnil_results mnil_busy mnil_done)
open Go.Proofs.YtipifkgmhgkleaaGreatDoor.Row (Chg rowB rowB_none info_parts)
theorem infoOp : (Tryz.prog.info? 72).map (fun i => (i.zero, i.size, i.bytes)) = some (some (.agg #[.int .i64 0, .int .i64 0, .int .i64 0, .int .i64 0]), 4, 32) := by kernel_rfl
theorem make_ops (W : World) (n : Nat) (hn : n ≤ 100000) : (Instr.makeSlice 33 (.int .i64 (n : Int)) (.int .i64 (n : Int))).run Tryz.prog W = .ok (.slice (some ⟨W.heap.size, 0, none⟩) n n) (W.alloc (.cells (madeCells #[.int .i64 0, .int .i64 0, .int .i64 0, .int .i64 0] (n * 4)) 72)) := by
  obtain ⟨i, hi, hz, hs, hb⟩ := info_parts infoOp
  have hr := run_make (P := Tryz.prog) W 33 72 i _ Tryz.underlying33 hi hz .i64 .i64 n n (by omega) (by omega) (by rw [hb]; omega) (by omega)
  rw [hr, hs]
  simp [Value.cells]
theorem ops_cells (L : Nat) : ∀ (j : Nat) (u : Value), (cellsO (List.replicate L (0, 0, 0, 0)))[j]? = some u → (madeCells #[.int .i64 0, .int .i64 0, .int .i64 0, .int .i64 0] (L * 4))[j]? = some u := by
  intro j u hu
  have hl := Mu.cellsO_len (List.replicate L ((0, 0, 0, 0) : O4))
  rw [List.length_replicate] at hl
  have hj : j < L * 4 := by have := (List.getElem?_eq_some_iff.1 hu).1; omega
  have hm := List.mem_of_getElem? hu
  have h0 : u = .int .i64 0 := by
    unfold cellsO at hm
    obtain ⟨o, ho, hu2⟩ := List.mem_flatMap.1 hm
    obtain rfl := List.eq_of_mem_replicate ho
    simpa [Mu.o4C] using hu2
  subst h0
  have h4 : j % 4 < 4 := Nat.mod_lt _ (by decide)
  rw [Array.getElem?_eq_getElem (by rw [size_madeCells]; exact hj)]
  simp only [madeCells, Array.getElem_map, Array.getElem_range, Option.some.injEq]
  generalize hk : j % 4 = k at *
  match k, h4 with
  | 0, _ => rfl
  | 1, _ => rfl
  | 2, _ => rfl
  | 3, _ => rfl
/-- Of any number. -/
theorem new_id {y : Sy} {T : Nat → Prop} {x : Sd} {n nb : Nat} (w : World) (h : ShIs w y T x n nb) (hm : x.s.c.m = (nb : Int)) (id f : Int) (hf : (0 ≤ id ∧ id < (nb : Int) ∧ f = 0) ∨ (¬ (0 ≤ id ∧ id < (nb : Int)) ∧ f = 1)) :
    Calls Tryz.prog 12 #[.pointer (some ⟨y.S, 0, none⟩), .int .i64 id, .slice none 0 0] w fun e w' => ∃ v, e = .returned (.tuple #[v, .int .i64 f]) ∧ (∃ T', ShIs w' y T' x n nb) ∧ Below w.heap.size w w' := by
  rcases hf with ⟨h0, h1, rfl⟩ | ⟨h0, rfl⟩
  · obtain ⟨k, rfl⟩ : ∃ k : Nat, id = (k : Int) := ⟨id.toNat, by omega⟩
    refine (mnew_any (cp := 0) w h hm k (by omega) none [] (.inl ⟨rfl, rfl⟩) (by decide) (fun _ => rfl)).mono ?_
    rintro e w' ⟨z, T', r, room, rfl, -, -, -, hsh, -, -, -, -, hb⟩
    exact ⟨_, rfl, ⟨T', hsh⟩, hb⟩
  · refine (mnew_range w h hm id (by omega) (.slice none 0 0)).mono ?_
    rintro e w' ⟨rfl, hb⟩
    exact ⟨_, rfl, ⟨T, h.later hb⟩, hb⟩
/-- Of a program of that many empty operations. -/
theorem new_len {y : Sy} {T : Nat → Prop} {x : Sd} {n nb : Nat} (w : World) (h : ShIs w y T x n nb) (hm : x.s.c.m = (nb : Int)) (hnb : 1 ≤ nb) (L o : Nat) (f : Int) (hf : (L ≤ 1000 ∧ f = 0) ∨ (1000 < L ∧ f = 3))
    (ho : ∀ (j : Nat) (u : Value), (cellsO (List.replicate L (0, 0, 0, 0)))[j]? = some u → w.cell? ⟨o, j, none⟩ = some u) :
    Calls Tryz.prog 12 #[.pointer (some ⟨y.S, 0, none⟩), .int .i64 0, .slice (some ⟨o, 0, none⟩) L L] w fun e w' => ∃ v, e = .returned (.tuple #[v, .int .i64 f]) ∧ Below w.heap.size w w' := by
  rcases hf with ⟨h0, rfl⟩ | ⟨h0, rfl⟩
  · have h2 := mnew_any (cp := L) w h hm 0 (by omega) (some ⟨o, 0, none⟩) (List.replicate L (0, 0, 0, 0)) (.inr ⟨o, 0, rfl, fun j u hu => by rw [Nat.zero_add]; exact ho j u hu⟩) (by simpa using h0) (fun e => by cases e)
    rw [List.length_replicate] at h2
    refine Calls.mono h2 ?_
    rintro e w' ⟨z, T', r, room, rfl, -, -, -, -, -, -, -, -, hb⟩
    exact ⟨_, rfl, hb⟩
  · refine (mnew_long (cp := L) w h hm 0 (by omega) (some ⟨o, 0, none⟩) h0).mono ?_
    rintro e w' ⟨rfl, hb⟩
    exact ⟨_, rfl, hb⟩
end Go.Proofs.YtipifkgmhgkleaaGreatDoor.Mv
