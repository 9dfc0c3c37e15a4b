/-
  A world that isn't there; world.New of what may not be; programs.
-/
import Derived.Test.YthpgnlcmpoldfaaGreatDoorMuJ
import Derived.Test.YthpgnlcmpoldfaaGreatDoorW0
import Derived.Test.YthpgnlcmpoldfaaGreatDoorMuE
import Derived.Test.YthpgnlcmpoldfaaGreatDoorMuD
import Derived.Lib.QuietBelow
namespace Go.Proofs.YthpgnlcmpoldfaaGreatDoor.Wo
open Go.RowKit
set_option maxRecDepth 100000

theorem nil_pick (n : Int) (w : World) : Calls Tryz.prog 40 #[.pointer none, .int .i64 n] w fun e w' => e = .returned (.int .i64 11) ∧ w' = w := by
  go_enter Tryz.func40, Tryz.ntmps40
  go_wp2_with fail
  go_ret
  exact ⟨rfl, rfl⟩

theorem nil_run (p : Option Addr) (n c : Nat) (w : World) : Calls Tryz.prog 39 #[.pointer none, .slice p n c] w fun e w' => e = .returned (.tuple #[.int .i64 0, .int .i64 11]) ∧ w' = w := by
  go_enter Tryz.func39, Tryz.ntmps39
  go_wp2_with fail
  go_step3
  go_wp2_with fail
  simp only [Exit.noGoto]
  go_ret2
  exact ⟨rfl, rfl⟩

theorem nil_picks (w : World) : Calls Tryz.prog 42 #[.pointer none] w fun e w' => e = .returned (.int .i64 0) ∧ w' = w := by
  go_enter Tryz.func42, Tryz.ntmps42
  go_wp2_with fail
  go_ret
  exact ⟨rfl, rfl⟩

theorem nil_since (n : Int) (w : World) : Calls Tryz.prog 44 #[.pointer none, .int .i64 n] w fun e w' => e = .returned (.slice none 0 0) ∧ w' = w := by
  go_enter Tryz.func44, Tryz.ntmps44
  go_wp2_with fail
  go_ret
  exact ⟨rfl, rfl⟩

theorem nil_mut (n : Int) (w : World) : Calls Tryz.prog 45 #[.pointer none, .int .i64 n] w fun e w' => e = .returned (.pointer none) ∧ w' = w := by
  go_enter Tryz.func45, Tryz.ntmps45
  go_wp2_with fail
  go_ret
  exact ⟨rfl, rfl⟩

theorem nil_coll (w : World) : Calls Tryz.prog 46 #[.pointer none] w fun e w' => e = .returned (.pointer none) ∧ w' = w := by
  go_enter Tryz.func46, Tryz.ntmps46
  go_wp2_with fail
  go_ret
  exact ⟨rfl, rfl⟩

theorem nil_shared (w : World) : Calls Tryz.prog 47 #[.pointer none] w fun e w' => e = .returned (.pointer none) ∧ w' = w := by
  go_enter Tryz.func47, Tryz.ntmps47
  go_wp2_with fail
  go_ret
  exact ⟨rfl, rfl⟩

theorem nil_done (w : World) : Calls Tryz.prog 48 #[.pointer none] w fun e w' => e = .returned (.bool false) ∧ w' = w := by
  go_enter Tryz.func48, Tryz.ntmps48
  go_wp2_with fail
  go_ret
  exact ⟨rfl, rfl⟩

theorem nil_idle (w : World) : Calls Tryz.prog 49 #[.pointer none] w fun e w' => e = .returned (.bool false) ∧ w' = w := by
  go_enter Tryz.func49, Tryz.ntmps49
  go_wp2_with fail
  go_ret
  exact ⟨rfl, rfl⟩

theorem nil_events (w : World) : Calls Tryz.prog 43 #[.pointer none] w fun e w' => e = .returned (.slice none 0 0) ∧ w' = w := by
  go_enter Tryz.func43, Tryz.ntmps43
  go_wp2_with (go_at_call 44; refine (nil_since _ _).mono ?_; rintro e w1 ⟨rfl, rfl⟩)
  go_ret
  exact ⟨rfl, rfl⟩
theorem nil_config (w : World) : Calls Tryz.prog 41 #[.pointer none] w fun e w' => e = .returned (.agg #[.int .i64 0, .int .i64 0, .int .i64 0, .int .i64 0, .int .i64 0, .int .i64 0, .int .i64 0]) ∧ Below w.heap.size w w' := by
  have HA : Hid (Below w.heap.size w (w.alloc (.cells #[.int .i64 0, .int .i64 0, .int .i64 0, .int .i64 0, .int .i64 0, .int .i64 0, .int .i64 0] 23))) := Lib.hid ((Below.refl _ _).alloc (Nat.le_refl _) _)
  go_enter Tryz.func41, Tryz.ntmps41
  go_wp2_with fail
  exact bodyPost_ret (v := .agg #[.int .i64 0, .int .i64 0, .int .i64 0, .int .i64 0, .int .i64 0, .int .i64 0, .int .i64 0]) (by simp [results, Tryz.results41, go_sem]) rfl ⟨rfl, HA.out⟩

end Go.Proofs.YthpgnlcmpoldfaaGreatDoor.Wo

namespace Go.Proofs.YthpgnlcmpoldfaaGreatDoor.Wo
open Go.RowKit
open Blk (Cfg)
open Hp (Ids St Is To Mine)
open Go.Proofs.YthpgnlcmpoldfaaGreatDoor.Addr (Tabs)
open Mu (Sy Sd ShIs share_bad1 share_any1)
open Go.Proofs.YthpgnlcmpoldfaaGreatDoor.Row (Chg rowB)
set_option maxRecDepth 100000 in
set_option maxHeartbeats 2000000 in
theorem new_bad (c : Cfg) (p : Option Addr) (np cp : Nat) (w : World) (ht : LimTab w) (hr : rightB c.b c.wd c.m c.r c.ce c.lg c.st = false) : Calls Tryz.prog 38 #[(.agg #[.int .i64 c.b, .int .i64 c.wd, .int .i64 c.m, .int .i64 c.r, .int .i64 c.ce, .int .i64 c.lg, .int .i64 c.st]), .slice p np cp] w fun e w' => e = .returned (.tuple #[.pointer none, .int .i64 1]) ∧ Below w.heap.size w w' := by
  have hA : Below w.heap.size w (w.alloc (.cells #[.int .i64 c.b, .int .i64 c.wd, .int .i64 c.m, .int .i64 c.r, .int .i64 c.ce, .int .i64 c.lg, .int .i64 c.st] 23)) := (Below.refl _ _).alloc (Nat.le_refl _) _
  have HN := Lib.hid (share_bad1 c _ (ht.later hA) hr)
  have HZ : Hid ((w.alloc (.cells #[.int .i64 c.b, .int .i64 c.wd, .int .i64 c.m, .int .i64 c.r, .int .i64 c.ce, .int .i64 c.lg, .int .i64 c.st] 23)).heap.size = w.heap.size + 1) := Lib.hid (by simp)
  have HC : Hid (∀ W, Below (w.alloc (.cells #[.int .i64 c.b, .int .i64 c.wd, .int .i64 c.m, .int .i64 c.r, .int .i64 c.ce, .int .i64 c.lg, .int .i64 c.st] 23)).heap.size (w.alloc (.cells #[.int .i64 c.b, .int .i64 c.wd, .int .i64 c.m, .int .i64 c.r, .int .i64 c.ce, .int .i64 c.lg, .int .i64 c.st] 23)) W → W.cell? ⟨w.heap.size, 2, none⟩ = some (.int .i64 c.m)) := Lib.hid fun W hb => (hb.cell (p := ⟨w.heap.size, 2, none⟩) (by rw [World.size_alloc]; exact Nat.lt_succ_self _)).trans (by rw [World.cell?_alloc_new]; rfl)
  have HA := Lib.hid hA
  clear hA ht hr
  go_enter Tryz.func38, Tryz.ntmps38
  go_wp2_with (go_at_call 7; fail)
  refine HN.out.mono ?_
  rintro e w1 ⟨rfl, hb⟩
  have hc := HC.out w1 hb
  have HB := Lib.hid (HA.out.trans (hb.mono HA.out.size))
  have hl : w.heap.size < w1.heap.size := Mu.lt_of_cell hc
  clear hb
  go_wp2_with fail
  go_ret2
  exact ⟨rfl, HB.out⟩
set_option maxRecDepth 100000 in
set_option maxHeartbeats 2000000 in
theorem new_over (c : Cfg) (n nc M : Nat) (p : Option Addr) (np cp : Nat) (w : World) (ht : Tab1 w) (hR : rightB c.b c.wd c.m c.r c.ce c.lg c.st = true) (hn : c.b * c.wd = (n : Int)) (hnc : c.ce = (nc : Int)) (hM : c.m = (M : Int)) (hM1 : 1 ≤ M) (hM8 : M ≤ 8) (hgt : M < np) :
    Calls Tryz.prog 38 #[(.agg #[.int .i64 c.b, .int .i64 c.wd, .int .i64 c.m, .int .i64 c.r, .int .i64 c.ce, .int .i64 c.lg, .int .i64 c.st]), .slice p np cp] w fun e w' => e = .returned (.tuple #[.pointer none, .int .i64 1]) ∧ Below w.heap.size w w' := by
  have hA : Below w.heap.size w (w.alloc (.cells #[.int .i64 c.b, .int .i64 c.wd, .int .i64 c.m, .int .i64 c.r, .int .i64 c.ce, .int .i64 c.lg, .int .i64 c.st] 23)) := (Below.refl _ _).alloc (Nat.le_refl _) _
  have HN := Lib.hid (share_any1 c n nc M _ (ht.later hA) hR hn hnc hM hM1 hM8)
  have HC : Hid (∀ W, Below (w.alloc (.cells #[.int .i64 c.b, .int .i64 c.wd, .int .i64 c.m, .int .i64 c.r, .int .i64 c.ce, .int .i64 c.lg, .int .i64 c.st] 23)).heap.size (w.alloc (.cells #[.int .i64 c.b, .int .i64 c.wd, .int .i64 c.m, .int .i64 c.r, .int .i64 c.ce, .int .i64 c.lg, .int .i64 c.st] 23)) W → W.cell? ⟨w.heap.size, 2, none⟩ = some (.int .i64 M)) := Lib.hid fun W hb => (hb.cell (p := ⟨w.heap.size, 2, none⟩) (by rw [World.size_alloc]; exact Nat.lt_succ_self _)).trans (by rw [World.cell?_alloc_new, ← hM]; rfl)
  have HA := Lib.hid hA
  have h1 : (M : Int) < (np : Int) := by omega
  clear hA ht hR hn hnc hM hM1 hM8
  go_enter Tryz.func38, Tryz.ntmps38
  go_wp2_with (go_at_call 7; fail)
  refine HN.out.mono ?_
  rintro e w1 ⟨y, T, rfl, _, _, _, _, hb⟩
  have hc := HC.out w1 hb
  have HB := Lib.hid (HA.out.trans (hb.mono HA.out.size))
  have hl : w.heap.size < w1.heap.size := Mu.lt_of_cell hc
  clear hb HN HC
  go_wp2_with fail
  go_ret2
  exact ⟨rfl, HB.out⟩
end Go.Proofs.YthpgnlcmpoldfaaGreatDoor.Wo

namespace Go.Proofs.YthpgnlcmpoldfaaGreatDoor.Mu
open Go.RowKit
open Blk (Cfg)
open Hp (Ids St Is Mine st0 zeroInts)
open Lg (BfIs BxIs)
open Go.Proofs.YthpgnlcmpoldfaaGreatDoor.Row (Chg rowB rowB_none other same cell_of_block frozen_of_block owns_lt owns_chg owns_slice)
set_option maxRecDepth 100000 in
set_option maxHeartbeats 4000000 in
theorem mnew_long {y : Sy} {T : Nat → Prop} {x : Sd} {n nb cp np : Nat} (w : World) (h : ShIs w y T x n nb) (hm : x.s.c.m = (nb : Int)) (id : Nat) (hid : id < nb) (pp : Option Addr) (hl : 1000 < np) :
    Calls Tryz.prog 10 #[.pointer (some ⟨y.S, 0, none⟩), .int .i64 id, .slice pp np cp] w fun e w' => e = .returned (.tuple #[.pointer none, .int .i64 3]) ∧ Below w.heap.size w w' := by
  have HSH := Lib.hid h
  obtain ⟨bq, off, epx, hpx⟩ := h.pr id hid
  have HL := Lib.hid hl
  have hR := Blk.slots_bd h.hp.wf.right
  obtain ⟨room, hroom⟩ : ∃ room : Nat, x.s.c.lg = (room : Int) := ⟨x.s.c.lg.toNat, by have := hR.lg0; omega⟩
  obtain ⟨r, hr⟩ : ∃ r : Nat, x.s.c.r = (r : Int) := ⟨x.s.c.r.toNat, by have := hR.r0; omega⟩
  have HR := Lib.hid (And.intro hroom hr)
  have HB : Hid (1 ≤ room ∧ room ≤ 256 ∧ r ≤ 64) := Lib.hid ⟨by have := hR.lg0; omega, by have := hR.lg1; omega, by have := hR.r1; omega⟩
  have HCF := Lib.hid (fun (V : World) (hb : Below w.heap.size w V) => Hp.config_any V (h.later hb).hp)
  rw [hm, hroom, hr] at HCF
  have HW := Lib.hid (fun (V : World) (hb : Below w.heap.size w V) => (whole_any (h.later hb)).mono fun e w' (hw : e = .returned (.bool true) ∧ w' = V) => (show e = .returned (.bool true) ∧ Below V.heap.size V w' from ⟨hw.1, hw.2 ▸ Below.refl _ _⟩))
  have HGR := Lib.hid (fun d os => below_regrown w d os)
  have c0 := h.c0
  have c4 := h.c4
  rw [epx] at c4
  have HLD : Hid (Ld w w y nb bq off id) := Lib.hid ⟨Below.refl _ _, c0, h.c3, c4, hpx⟩
  have hls := h.ltS
  have k0 := cell_regrown c0
  have k4 := cell_regrown c4
  have i0 : (0 : Int) ≤ (id : Int) := by omega
  have i1 : (id : Int) < (nb : Int) := by omega
  have i2 : ¬ (id : Int) < 0 := by omega
  have i3 : ¬ (nb : Int) ≤ (id : Int) := by omega
  have hfB := fieldB_cfg
  have d2 : decide ((id : Int) < 0) = false := by simp
  have d3 : decide ((nb : Int) ≤ (id : Int)) = false := by simp; omega
  have d4 : min (nb : Int) (nb : Int) = nb := by simp
  have d5 : decide (nb ≤ id) = false := by simp; omega
  clear h hR hroom hr hm epx hpx
  go_enter Tryz.func10, Tryz.ntmps10
  go_wp2_with fail
  refine wp_region_quiet_below (by kernel_rfl) (by kernel_rfl) ?_
  repeat (go_big_quiet_step (first
    | (go_at_call 57; exact Calls.regrown_of (HW.out _ (HGR.out _ _)))
    | (go_at_call 58; exact Calls.regrown_of (HCF.out _ (HGR.out _ _)))))
  refine wpQuiet_nil ?_
  intro wp hw'
  have HBP := Lib.hid (below_grown hw')
  have HLP := Lib.hid (HLD.out.later HBP.out)
  have p0 := HLP.out.l0
  have hlp := lt_of_cell p0
  clear hw' k0 k4 c0 c4 hls
  have HCP := Lib.hid (HCF.out _ HBP.out)
  go_wp2_with (go_at_call 58; fail)
  refine HCP.out.mono ?_
  rintro e w2 ⟨rfl, hb2⟩
  have HB2 := Lib.hid (HBP.out.trans (hb2.mono HBP.out.size))
  have HL2 := Lib.hid (HLP.out.later hb2)
  have hA3 : Below w2.heap.size w2 (w2.alloc (.cells #[.int .i64 x.s.c.b, .int .i64 x.s.c.wd, .int .i64 nb, .int .i64 r, .int .i64 x.s.c.ce, .int .i64 room, .int .i64 x.s.c.st] 23)) := (Below.refl _ _).alloc (Nat.le_refl _) _
  have HA3 := Lib.hid hA3
  have HC3 : Hid ((w2.alloc (.cells #[.int .i64 x.s.c.b, .int .i64 x.s.c.wd, .int .i64 nb, .int .i64 r, .int .i64 x.s.c.ce, .int .i64 room, .int .i64 x.s.c.st] 23)).cell? ⟨w2.heap.size, 3, none⟩ = some (.int .i64 r)) := Lib.hid (by rw [World.cell?_alloc_new]; rfl)
  have HNL := Lib.hid (fun V => Lg.new_good room (room : Int) rfl V HB.out.1 HB.out.2.1)
  clear hb2 HCP p0 hlp HBP HLP hA3
  go_wp2_with (go_at_call 59; fail)
  refine (HNL.out _).mono ?_
  rintro e w4 ⟨rfl, hbf, hb4, hz4⟩
  generalize hw3 : w2.alloc (.cells #[.int .i64 x.s.c.b, .int .i64 x.s.c.wd, .int .i64 nb, .int .i64 r, .int .i64 x.s.c.ce, .int .i64 room, .int .i64 x.s.c.st] 23) = w3 at *
  have HBF := Lib.hid hbf
  have HZ3 : Hid (w3.heap.size = w2.heap.size + 1) := Lib.hid (by rw [← hw3, World.size_alloc])
  have HZ4 := Lib.hid hz4
  have hc43 := (hb4.cell (p := ⟨w2.heap.size, 3, none⟩) (lt_of_cell HC3.out)).trans HC3.out
  have HC43 := Lib.hid hc43
  have HB24 : Hid (Below w2.heap.size w2 w4) := Lib.hid (HA3.out.trans (hb4.mono HA3.out.size))
  have HL4 : Hid (Ld w4 w4 y nb bq off id) := Lib.hid (by
    have h := HL2.out.later HB24.out
    exact ⟨Below.refl _ _, h.l0, h.l3, h.l4, h.lx⟩)
  have HNN := Lib.hid (fun (U : World) (hb : Below w4.heap.size w4 U) => (noter_new y.H w3.heap.size (y.X id) y.F U).mono fun e w' (h : ∃ N, e = .returned (.tuple #[.pointer (some ⟨N, 0, none⟩), .int .i64 0]) ∧ U.heap.size ≤ N ∧ NtAt w' N y.H w3.heap.size (y.X id) y.F ∧ Below U.heap.size U w') => (show ∃ N, e = .returned (.tuple #[.pointer (some ⟨N, 0, none⟩), .int .i64 0]) ∧ (w4.heap.size ≤ N ∧ NtAt w' N y.H w3.heap.size (y.X id) y.F) ∧ Below U.heap.size U w' from by
    obtain ⟨N, h1, h2, h3, h4⟩ := h
    exact ⟨N, h1, ⟨Nat.le_trans hb.size h2, h3⟩, h4⟩))
  have HKD : Hid (Ld w4 w4.drew y nb bq off id) := Lib.hid (HL4.out.later (Below.refl _ _).drew)
  have HKS : Hid (∀ wc W : World, Below wc.heap.size wc W → (Below w4.heap.size w4 wc ∧ wc.cell? ⟨y.S, 0, none⟩ = some (.pointer (some ⟨y.H, 0, none⟩)) ∧ wc.cell? ⟨y.S, 3, none⟩ = some (.pointer (some ⟨y.F, 0, none⟩)) ∧ wc.cell? ⟨y.S, 4, none⟩ = some (.slice (some ⟨bq, off, none⟩) nb y.cx) ∧ wc.cell? ⟨bq, off + id, none⟩ = some (.pointer (some ⟨y.X id, 0, none⟩))) →
      (Below w4.heap.size w4 W ∧ W.cell? ⟨y.S, 0, none⟩ = some (.pointer (some ⟨y.H, 0, none⟩)) ∧ W.cell? ⟨y.S, 3, none⟩ = some (.pointer (some ⟨y.F, 0, none⟩)) ∧ W.cell? ⟨y.S, 4, none⟩ = some (.slice (some ⟨bq, off, none⟩) nb y.cx) ∧ W.cell? ⟨bq, off + id, none⟩ = some (.pointer (some ⟨y.X id, 0, none⟩)))) := Lib.hid fun wc W hb h => by
    have h2 := (show Ld w4 wc y nb bq off id from ⟨h.1, h.2.1, h.2.2.1, h.2.2.2.1, h.2.2.2.2⟩).later hb
    exact ⟨h2.b, h2.l0, h2.l3, h2.l4, h2.lx⟩
  have HK0 : Hid (Below w4.heap.size w4 w4.drew ∧ w4.drew.cell? ⟨y.S, 0, none⟩ = some (.pointer (some ⟨y.H, 0, none⟩)) ∧ w4.drew.cell? ⟨y.S, 3, none⟩ = some (.pointer (some ⟨y.F, 0, none⟩)) ∧ w4.drew.cell? ⟨y.S, 4, none⟩ = some (.slice (some ⟨bq, off, none⟩) nb y.cx) ∧ w4.drew.cell? ⟨bq, off + id, none⟩ = some (.pointer (some ⟨y.X id, 0, none⟩))) := Lib.hid ⟨HKD.out.b, HKD.out.l0, HKD.out.l3, HKD.out.l4, HKD.out.lx⟩
  have hls4 := lt_of_cell HL4.out.l0
  clear hbf hb4 hz4 hw3
  go_wp2_with fail
  go_region_held3 (fun U => Below w4.heap.size w4 U ∧ U.cell? ⟨y.S, 0, none⟩ = some (.pointer (some ⟨y.H, 0, none⟩)) ∧ U.cell? ⟨y.S, 3, none⟩ = some (.pointer (some ⟨y.F, 0, none⟩)) ∧ U.cell? ⟨y.S, 4, none⟩ = some (.slice (some ⟨bq, off, none⟩) nb y.cx) ∧ U.cell? ⟨bq, off + id, none⟩ = some (.pointer (some ⟨y.X id, 0, none⟩)))
    (first | exact HK0.out | assumption | exact HKS.out _ _ hb8 (by assumption))
    (first
      | (go_at_call 60; refine (HNN.out _ (And.left (by assumption))).mono ?_; rintro e w8 ⟨N, rfl, hn8, hb8⟩))
  have hS8 : Ld w4 w8 y nb bq off id := by
    have h := (show (Below w4.heap.size w4 w8 ∧ w8.cell? ⟨y.S, 0, none⟩ = some (.pointer (some ⟨y.H, 0, none⟩)) ∧ w8.cell? ⟨y.S, 3, none⟩ = some (.pointer (some ⟨y.F, 0, none⟩)) ∧ w8.cell? ⟨y.S, 4, none⟩ = some (.slice (some ⟨bq, off, none⟩) nb y.cx) ∧ w8.cell? ⟨bq, off + id, none⟩ = some (.pointer (some ⟨y.X id, 0, none⟩))) from by assumption)
    exact ⟨h.1, h.2.1, h.2.2.1, h.2.2.2.1, h.2.2.2.2⟩
  have HB48 := Lib.hid hS8.b
  have HN8 := Lib.hid hn8
  have hc83 := (hS8.b.cell (p := ⟨w2.heap.size, 3, none⟩) (lt_of_cell HC43.out)).trans HC43.out
  have hlc := lt_of_cell hc83
  have HB08 : Hid (Below w.heap.size w w8) := Lib.hid (HB2.out.trans ((HB24.out.trans (hS8.b.mono HB24.out.size)).mono HB2.out.size))
  have hpl2 : (1000 : Int) < (np : Int) := by have := HL.out; omega
  clear hS8 hn8 hc43 hls4 HNN HKD HKS HK0 HL4
  go_wp2_with fail
  go_ret2
  exact ⟨rfl, HB08.out⟩
end Go.Proofs.YthpgnlcmpoldfaaGreatDoor.Mu

namespace Go.Proofs.YthpgnlcmpoldfaaGreatDoor.Wo
open Go.RowKit
set_option maxRecDepth 100000 in
theorem prog_in (g off n c id : Nat) (v : Value) (w : World) (hid : id < n) (hv : w.cell? ⟨g, off + id, none⟩ = some v) (hs : ∃ p a b, v = .slice p a b) : Calls Tryz.prog 75 #[.slice (some ⟨g, off, none⟩) n c, .int .i64 id] w fun e w' => e = .returned v ∧ w' = w := by
  obtain ⟨p, a, b, rfl⟩ := hs
  have h1 : (id : Int) < (n : Int) := by omega
  have h0 : (0 : Int) ≤ (id : Int) := by omega
  have hl : g < w.heap.size := Mu.lt_of_cell hv
  go_enter Tryz.func75, Tryz.ntmps75
  go_wp2_with fail
  go_ret
  exact ⟨rfl, rfl⟩
set_option maxRecDepth 100000 in
theorem prog_out (p : Option Addr) (n c id : Nat) (w : World) (hid : n ≤ id) : Calls Tryz.prog 75 #[.slice p n c, .int .i64 id] w fun e w' => e = .returned (.slice none 0 0) ∧ w' = w := by
  have h1 : ¬ (id : Int) < (n : Int) := by omega
  go_enter Tryz.func75, Tryz.ntmps75
  go_wp2_with fail
  go_ret
  exact ⟨rfl, rfl⟩
end Go.Proofs.YthpgnlcmpoldfaaGreatDoor.Wo
