/-
  The law's parts: the walk.
-/
import Derived.Test.YtkfgchhlekdpgaaGreatDoorNtJ
import Derived.Deep.RegionHeld3
namespace Go.Proofs.YtkfgchhlekdpgaaGreatDoor.Nt
open Go.RowKit
open Hp (Ids St Is To Mine bnI coE coV colB objL st0)
open Lg (BfIs BxIs)
open Blk (Cfg little little_any little_right BytesP)
open Sw (ThingsP madeS MadeP Mad Sm)
open Go.Proofs.YtkfgchhlekdpgaaGreatDoor.Row (Chg rowB Rd Rd0 cellsZ owns_lt owns_chg)
open Go.Proofs.YtkfgchhlekdpgaaGreatDoor.Addr (Tabs)

def sQ (q : Cs) (n nc : Nat) : St := madeS (st0 (little q.c) n nc) (q.l.take 40)
theorem addsL_nil (r : Nat) (al : List Int) : addsL r al [] = [] := by
  unfold addsL
  rw [List.foldl_nil, ite_self]
theorem addsL_no (r : Nat) (zs : List Nat) : addsL r [] zs = [] := by
  unfold addsL
  rw [if_pos rfl]
theorem addsL_snoc (r : Nat) {al : List Int} (ha : al ≠ []) {zs : List Nat} {j : Nat} (hlt : j < zs.length) : addsL r al (zs.take (j + 1)) = addL r (addsL r al (zs.take j)) (al.getD (zs.getD j 0 % al.length) 0) := by
  have hbz : zs[j]? = some (zs.getD j 0) := by rw [List.getD_eq_getElem?_getD, List.getElem?_eq_getElem hlt]; rfl
  unfold addsL
  rw [if_neg ha, if_neg ha, List.take_add_one, hbz, Option.toList_some, List.foldl_append]
  rfl
theorem four_tmp {fn : Func} {t u v x : Tmp} (h : fn.results = #[.tmp t, .tmp u, .tmp v, .tmp x]) (tmps : Array Value) (P : Program) (w : World) :
    (results fn tmps).run P w = .ok (.tuple #[tmps.getD t undef, tmps.getD u undef, tmps.getD v undef, tmps.getD x undef]) w := by
  simp [results, h]
theorem Pq.fin {V w2 w w' : World} {T : Nat → Prop} {H : Nat} {d : Ids} {s : St} {m B O X room : Nat} {xs os ys : List Int} {up : Bool} (h : Pq w2 w T H d s m B O X room xs os ys) (hV : Below V.heap.size V w2) (ht : Tabs V) (hb : Below w.heap.size w w') (hc : w'.cell? ⟨w.heap.size, 0, none⟩ = some (.bool up)) (hf : w'.frozen? ⟨w.heap.size, 0, none⟩ = false) : Pb V w' H d s m B X w.heap.size room xs ys up := by
  have lB := h.b.ltB
  have lX := h.x.ltX
  have lM : ∀ k, Mine H d k → k < w.heap.size := fun k hk => h.is.lt hk
  have lF := World.block_lt_of_cell? _ _ hc
  have hs := hb.size
  have g1 := hV.size
  have bX : T X := by obtain ⟨p, cap, hr⟩ := h.x; exact hr.tb
  have tag : ∀ k, own H d B X w.heap.size k → T k ∨ w.heap.size ≤ k := fun k hk => by
    rcases hk with hk | rfl | rfl | rfl
    · exact .inl (h.tm k hk)
    · exact .inl h.b.tb
    · exact .inl bX
    · exact .inr (Nat.le_refl _)
  refine ⟨h.is.later hb, ⟨own H d B X w.heap.size, bf_move h.b (Chg.of_below (S := fun _ => False) hb) (fun _ e => e.elim) (fun e => e) tag (.inr (.inl rfl)), bx_move h.x (Chg.of_below (S := fun _ => False) hb) (fun _ e => e.elim) (fun e => e) tag (.inr (.inr (.inl rfl))), ?_, fun k hk => hk⟩, ⟨h.ne.1, by omega, by omega⟩, ⟨h.nm.1, h.nm.2.1, fun e => absurd (lM _ e) (Nat.lt_irrefl _)⟩, hc, hf, hV.trans ((h.bel.trans (hb.mono h.bel.size)).mono hV.size), ?_, ht⟩
  · intro k hk
    rcases hk with hk | rfl | rfl | rfl
    · have := lM k hk; omega
    · omega
    · omega
    · exact lF
  · intro k hk
    have g2 := h.bel.size
    rcases hk with hk | rfl | rfl | rfl
    · have := h.ge.1 k hk; omega
    · have := h.ge.2.1; omega
    · have := h.ge.2.2.1; omega
    · omega
theorem raise_any (F : Nat) (b : Bool) (W : World) (c0 : W.cell? ⟨F, 0, none⟩ = some (.bool b)) (f0 : W.frozen? ⟨F, 0, none⟩ = false) : Calls Tryz.prog 30 #[.pointer (some ⟨F, 0, none⟩)] W fun e w' => e = .returned (.tuple #[]) ∧ w' = W.setCell ⟨F, 0, none⟩ (.bool true) := by
  go_enter Tryz.func30, Tryz.ntmps30
  go_wp2_with fail
  exact bodyPost_end (results_none rfl _ _ _) rfl ⟨rfl, rfl⟩
/-- What parts tells. -/
def PartsP (q : Cs) (n nc : Nat) (V : World) (e : Ending) (w' : World) : Prop := ∃ H B X F d m, e = .returned (.tuple #[.pointer (some ⟨H, 0, none⟩), .pointer (some ⟨B, 0, none⟩), .pointer (some ⟨X, 0, none⟩), .pointer (some ⟨F, 0, none⟩)]) ∧
  Pb V w' H d (sQ q n nc) m B X F (1 + q.room % 6) (addsL (1 + q.room % 6) (objL (sQ q n nc)) q.bl) (addsL 256 (objL (sQ q n nc)) q.xl) q.up ∧ m ≤ 7000 ∧ Sm (sQ q n nc) q.c
set_option maxRecDepth 200000 in
set_option maxHeartbeats 8000000 in
theorem parts_any (q : Cs) (n nc S : Nat) (hn : (little q.c).b * (little q.c).wd = (n : Int)) (hnc : (little q.c).ce = (nc : Int)) (h64 : nc ≤ 64) (V : World) (ht : Tabs V) (hS : S ≤ V.heap.size) (hq : CsP S V q) :
    Calls Tryz.prog 13 #[(.agg #[.int .i64 q.c.b, .int .i64 q.c.wd, .int .i64 q.c.m, .int .i64 q.c.r, .int .i64 q.c.ce, .int .i64 q.c.lg, .int .i64 q.c.st, .slice q.pt q.l.length q.ct, .slice q.pb q.bl.length q.cb, .slice q.px q.xl.length q.cx, .int .u8 q.room, .bool q.up])] V (PartsP q n nc V) := by
  obtain ⟨V1, hV1⟩ : ∃ V1, V.alloc (.cells #[.int .i64 q.c.b, .int .i64 q.c.wd, .int .i64 q.c.m, .int .i64 q.c.r, .int .i64 q.c.ce, .int .i64 q.c.lg, .int .i64 q.c.st, .slice q.pt q.l.length q.ct, .slice q.pb q.bl.length q.cb, .slice q.px q.xl.length q.cx, .int .u8 q.room, .bool q.up] 27) = V1 := ⟨_, rfl⟩
  have HB1 : Hid (Below V.heap.size V V1) := Lib.hid (by rw [← hV1]; exact (Below.refl _ _).alloc (Nat.le_refl _) _)
  have key : ∀ j v, (#[.int .i64 q.c.b, .int .i64 q.c.wd, .int .i64 q.c.m, .int .i64 q.c.r, .int .i64 q.c.ce, .int .i64 q.c.lg, .int .i64 q.c.st, .slice q.pt q.l.length q.ct, .slice q.pb q.bl.length q.cb, .slice q.px q.xl.length q.cx, .int .u8 q.room, .bool q.up] : Array Value)[j]? = some v → V1.cell? ⟨V.heap.size, j, none⟩ = some v := fun j v hv => by
    rw [← hV1, World.cell?_alloc_new]; exact hv
  have KEY := Lib.hid key
  have k0 := key 0 _ rfl
  have k1 := key 1 _ rfl
  have k2 := key 2 _ rfl
  have k3 := key 3 _ rfl
  have k4 := key 4 _ rfl
  have k5 := key 5 _ rfl
  have k6 := key 6 _ rfl
  have k7 := key 7 _ rfl
  have HQ := Lib.hid hq
  have HT := Lib.hid ht
  have HLI := Lib.hid (fun W => little_any q.c W)
  have HMA : Hid (∀ W, Below V.heap.size V W → Calls Tryz.prog 66 #[(.agg #[.int .i64 (little q.c).b, .int .i64 (little q.c).wd, .int .i64 (little q.c).m, .int .i64 (little q.c).r, .int .i64 (little q.c).ce, .int .i64 (little q.c).lg, .int .i64 (little q.c).st]), .slice q.pt q.l.length q.ct] W (MadeP W (madeS (st0 (little q.c) n nc) (q.l.take 40)) (little q.c))) :=
    Lib.hid fun W hW => Sw.made_any S (little q.c) n nc q.pt q.ct q.l W (ht.later hW) (little_right q.c) hn hnc h64 (by have := hW.size; omega) (hq.l.below (hW.mono hS)) hq.ll
  have HK2 : Hid (∀ U U' : World, Below U.heap.size U U' → (Below V.heap.size V U ∧ U.cell? ⟨V.heap.size, 0, none⟩ = some (.int .i64 q.c.b) ∧ U.cell? ⟨V.heap.size, 1, none⟩ = some (.int .i64 q.c.wd) ∧ U.cell? ⟨V.heap.size, 2, none⟩ = some (.int .i64 q.c.m) ∧ U.cell? ⟨V.heap.size, 3, none⟩ = some (.int .i64 q.c.r) ∧ U.cell? ⟨V.heap.size, 4, none⟩ = some (.int .i64 q.c.ce) ∧ U.cell? ⟨V.heap.size, 5, none⟩ = some (.int .i64 q.c.lg) ∧ U.cell? ⟨V.heap.size, 6, none⟩ = some (.int .i64 q.c.st) ∧ U.cell? ⟨V.heap.size, 7, none⟩ = some (.slice q.pt q.l.length q.ct)) →
      (Below V.heap.size V U' ∧ U'.cell? ⟨V.heap.size, 0, none⟩ = some (.int .i64 q.c.b) ∧ U'.cell? ⟨V.heap.size, 1, none⟩ = some (.int .i64 q.c.wd) ∧ U'.cell? ⟨V.heap.size, 2, none⟩ = some (.int .i64 q.c.m) ∧ U'.cell? ⟨V.heap.size, 3, none⟩ = some (.int .i64 q.c.r) ∧ U'.cell? ⟨V.heap.size, 4, none⟩ = some (.int .i64 q.c.ce) ∧ U'.cell? ⟨V.heap.size, 5, none⟩ = some (.int .i64 q.c.lg) ∧ U'.cell? ⟨V.heap.size, 6, none⟩ = some (.int .i64 q.c.st) ∧ U'.cell? ⟨V.heap.size, 7, none⟩ = some (.slice q.pt q.l.length q.ct))) :=
    Lib.hid fun U U' hb ⟨a, b0, b1, b2, b3, b4, b5, b6, b7⟩ => by
      have hz : ∀ j, U'.cell? ⟨V.heap.size, j, none⟩ = U.cell? ⟨V.heap.size, j, none⟩ := fun j => hb.cell (p := ⟨V.heap.size, j, none⟩) (show V.heap.size < U.heap.size from lt_of_cell b0)
      exact ⟨a.trans (hb.mono a.size), (hz 0).trans b0, (hz 1).trans b1, (hz 2).trans b2, (hz 3).trans b3, (hz 4).trans b4, (hz 5).trans b5, (hz 6).trans b6, (hz 7).trans b7⟩
  have HK0 : Hid (Below V.heap.size V V1.drew ∧ V1.drew.cell? ⟨V.heap.size, 0, none⟩ = some (.int .i64 q.c.b) ∧ V1.drew.cell? ⟨V.heap.size, 1, none⟩ = some (.int .i64 q.c.wd) ∧ V1.drew.cell? ⟨V.heap.size, 2, none⟩ = some (.int .i64 q.c.m) ∧ V1.drew.cell? ⟨V.heap.size, 3, none⟩ = some (.int .i64 q.c.r) ∧ V1.drew.cell? ⟨V.heap.size, 4, none⟩ = some (.int .i64 q.c.ce) ∧ V1.drew.cell? ⟨V.heap.size, 5, none⟩ = some (.int .i64 q.c.lg) ∧ V1.drew.cell? ⟨V.heap.size, 6, none⟩ = some (.int .i64 q.c.st) ∧ V1.drew.cell? ⟨V.heap.size, 7, none⟩ = some (.slice q.pt q.l.length q.ct)) :=
    Lib.hid ⟨HB1.out.drew, k0, k1, k2, k3, k4, k5, k6, k7⟩
  have HCC : Hid (∀ U, Below V1.heap.size V1 U → U.cell? ⟨V.heap.size, 8, none⟩ = some (.slice q.pb q.bl.length q.cb) ∧ U.cell? ⟨V.heap.size, 9, none⟩ = some (.slice q.px q.xl.length q.cx) ∧ U.cell? ⟨V.heap.size, 10, none⟩ = some (.int .u8 q.room) ∧ U.cell? ⟨V.heap.size, 11, none⟩ = some (.bool q.up)) := Lib.hid fun U hb => by
    have hz : ∀ j v, V1.cell? ⟨V.heap.size, j, none⟩ = some v → U.cell? ⟨V.heap.size, j, none⟩ = some v := fun j v e => (hb.cell (p := ⟨V.heap.size, j, none⟩) (lt_of_cell e)).trans e
    exact ⟨hz _ _ (key 8 _ rfl), hz _ _ (key 9 _ rfl), hz _ _ (key 10 _ rfl), hz _ _ (key 11 _ rfl)⟩
  have HSS := Lib.hid hS
  clear key hq ht hn hnc h64 hS
  have hr6 : q.room < 256 := HQ.out.r
  go_enter Tryz.func13, Tryz.ntmps13
  go_wp2_with fail
  go_region_held3 (fun U => Below V.heap.size V U ∧ U.cell? ⟨V.heap.size, 0, none⟩ = some (.int .i64 q.c.b) ∧ U.cell? ⟨V.heap.size, 1, none⟩ = some (.int .i64 q.c.wd) ∧ U.cell? ⟨V.heap.size, 2, none⟩ = some (.int .i64 q.c.m) ∧ U.cell? ⟨V.heap.size, 3, none⟩ = some (.int .i64 q.c.r) ∧ U.cell? ⟨V.heap.size, 4, none⟩ = some (.int .i64 q.c.ce) ∧ U.cell? ⟨V.heap.size, 5, none⟩ = some (.int .i64 q.c.lg) ∧ U.cell? ⟨V.heap.size, 6, none⟩ = some (.int .i64 q.c.st) ∧ U.cell? ⟨V.heap.size, 7, none⟩ = some (.slice q.pt q.l.length q.ct))
    (first | exact HK0.out | exact HK2.out _ _ hb2 (by assumption) | exact HK2.out _ _ hb3 (by assumption))
    (first
      | (go_at_call 34; refine (HLI.out _).mono ?_; rintro e w2 ⟨rfl, hb2⟩)
      | (go_at_call 66; refine (HMA.out _ (And.left (by assumption))).mono ?_; rintro e w3 ⟨H, M, base, d, i, m, rfl, hM⟩; have HM := Lib.hid hM; have hb3 := hM.bel; clear hM))
  have hS3 : Below V.heap.size V w3 := (show Below V.heap.size V w3 ∧ w3.cell? ⟨V.heap.size, 0, none⟩ = some (.int .i64 q.c.b) ∧ w3.cell? ⟨V.heap.size, 1, none⟩ = some (.int .i64 q.c.wd) ∧ w3.cell? ⟨V.heap.size, 2, none⟩ = some (.int .i64 q.c.m) ∧ w3.cell? ⟨V.heap.size, 3, none⟩ = some (.int .i64 q.c.r) ∧ w3.cell? ⟨V.heap.size, 4, none⟩ = some (.int .i64 q.c.ce) ∧ w3.cell? ⟨V.heap.size, 5, none⟩ = some (.int .i64 q.c.lg) ∧ w3.cell? ⟨V.heap.size, 6, none⟩ = some (.int .i64 q.c.st) ∧ w3.cell? ⟨V.heap.size, 7, none⟩ = some (.slice q.pt q.l.length q.ct) by assumption).1
  have hbV1 : Below V1.heap.size V1 w3 := ((Below.refl V1.heap.size V1).drew.trans hb2).trans (hb3.mono hb2.size)
  have HV12 : Hid (Below V1.heap.size V1 w2) := Lib.hid ((Below.refl V1.heap.size V1).drew.trans hb2)
  have HS3 := Lib.hid hS3
  have HB2V : Hid (Below V.heap.size V w2) := Lib.hid (HB1.out.trans (HV12.out.mono HB1.out.size))
  have HT3 := Lib.hid (HT.out.later HS3.out)
  have HS23 := Lib.hid hb3.size
  obtain ⟨c8, c9, c10, c11⟩ := HCC.out w3 hbV1
  have HSM := Lib.hid HM.out.sm
  clear HK0 HK2 HLI HMA hS3 hbV1 hb2 hb3 k0 k1 k2 k3 k4 k5 k6 k7
  rename_i hdrop
  clear hdrop
  have hz : 1 + (q.room : Int) % 6 = ((1 + q.room % 6 : Nat) : Int) := by omega
  have hr1 : 1 ≤ 1 + q.room % 6 := by omega
  have hr2 : 1 + q.room % 6 ≤ 256 := by omega
  have HNW := Lib.hid (Lg.new_good (1 + q.room % 6) _ hz w3 hr1 hr2)
  have HNX := Lib.hid (fun w => Lg.new_good 256 256 rfl w (by decide) (by decide))
  have HRO : Hid (1 ≤ 1 + q.room % 6 ∧ 1 + q.room % 6 ≤ 256) := Lib.hid ⟨hr1, hr2⟩
  clear hz hr1 hr2 hr6
  go_wp2_with (go_at_call 67; fail)
  refine HNW.out.mono ?_
  rintro e w4 ⟨rfl, hN4, hb4, s4⟩
  have HN4 := Lib.hid hN4
  have HB4 := Lib.hid hb4
  have HZ4 := Lib.hid s4
  clear hN4 hb4 s4
  go_wp2_with (go_at_call 67; fail)
  refine (HNX.out w4).mono ?_
  rintro e w5 ⟨rfl, hN5, hb5, s5⟩
  have HN5 := Lib.hid hN5
  have HB5 := Lib.hid hb5
  have HZ5 := Lib.hid s5
  clear hN5 hb5 s5
  go_wp2_with (go_at_call 68; fail)
  refine (Lg.box_new w5).mono ?_
  rintro e w6 ⟨rfl, hN6, hb6, s6⟩
  have HN6 := Lib.hid hN6
  have HB6 := Lib.hid hb6
  have HZ6 := Lib.hid s6
  clear hN6 hb6 s6
  go_wp2_with (go_at_call 32; fail)
  have hb46 : Below w4.heap.size w4 w6 := HB5.out.trans (HB6.out.mono HB5.out.size)
  have hb36 : Below w3.heap.size w3 w6 := HB4.out.trans (hb46.mono HB4.out.size)
  have hp0 : Pq w2 w6 (fun k => k < w6.heap.size) H d (sQ q n nc) m w3.heap.size w4.heap.size w5.heap.size (1 + q.room % 6) [] [] [] := by
    have z4 := HZ4.out
    have z5 := HZ5.out
    have z6 := HZ6.out
    have z3 := HS23.out
    have lt : ∀ k, Mine H d k → k < w3.heap.size := fun k hk => HM.out.bo.is.lt hk
    refine ⟨HM.out.bo.is.later hb36, ?_, ?_, HN6.out _ (by omega), fun k hk => hk, fun k hk => (by have := lt k hk; omega), ⟨by omega, by omega, by omega⟩, ⟨fun h => (by have := lt _ h; omega), fun h => (by have := lt _ h; omega), fun h => (by have := lt _ h; omega)⟩, HM.out.bel.trans (hb36.mono z3), ⟨HM.out.g1, by omega, by omega, by omega⟩⟩
    · exact bf_move (HN4.out (fun k => k < w4.heap.size) (by omega)) (Chg.of_below (S := fun _ => False) hb46) (fun _ e => e.elim) (fun e => e) (fun k _ => by omega) (by omega)
    · exact bf_move (HN5.out (fun k => k < w5.heap.size) (by omega)) (Chg.of_below (S := fun _ => False) HB6.out) (fun _ e => e.elim) (fun e => e) (fun k _ => by omega) (by omega)
  have hzz : w3.heap.size < w6.heap.size ∧ w4.heap.size < w6.heap.size ∧ w5.heap.size < w6.heap.size := by
    have z4 := HZ4.out
    have z5 := HZ5.out
    have z6 := HZ6.out
    omega
  have HZZ := Lib.hid hzz
  have hob : (objL (sQ q n nc)).length ≤ 1000000 := by
    unfold objL
    rw [Hp.pkA_eq]
    exact Nat.le_trans (List.length_filter_le _ _) (Nat.le_trans HSM.out.all (by omega))
  have HP0 := Lib.hid hp0
  have HT6 := Lib.hid (HT3.out.later hb36)
  generalize w3.heap.size = B at *
  generalize w4.heap.size = O at *
  generalize w5.heap.size = X at *
  refine (Hp.objects_any w6 HP0.out.is HT6.out).mono ?_
  rintro e w7 ⟨pa, ca, rfl, ho7, hb7⟩
  have HP7 := Lib.hid (HP0.out.later hb7)
  have HRA := Lib.hid (Rd.of_owns ho7)
  have HGO : Hid (∀ g, rowB pa g → w6.heap.size ≤ g) := Lib.hid fun g hg => (owns_lt ho7 hg).1
  obtain ⟨al, hal⟩ : ∃ al, objL (sQ q n nc) = al := ⟨_, rfl⟩
  rw [hal] at HRA hob
  have HAL := Lib.hid hal
  have HOB := Lib.hid hob
  rw [hal]
  clear ho7 hb7 hal hob hp0 hzz hb46 hb36
  go_wp2_with fail
  have HC8 : Hid (∀ U, Below w2.heap.size w2 U → U.cell? ⟨V.heap.size, 8, none⟩ = some (.slice q.pb q.bl.length q.cb) ∧ U.cell? ⟨V.heap.size, 9, none⟩ = some (.slice q.px q.xl.length q.cx) ∧ U.cell? ⟨V.heap.size, 11, none⟩ = some (.bool q.up)) := Lib.hid fun U hb => by
    have h := HCC.out U (HV12.out.trans (hb.mono HV12.out.size))
    exact ⟨h.1, h.2.1, h.2.2.2⟩
  have HBY : Hid (∀ U, Below w2.heap.size w2 U → BytesP S U q.pb q.bl ∧ BytesP S U q.px q.xl) := Lib.hid fun U hb => by
    have h := (HB1.out.mono (Nat.le_refl _)).trans ((HV12.out.trans (hb.mono HV12.out.size)).mono HB1.out.size)
    exact ⟨HQ.out.b.below (h.mono HSS.out), HQ.out.x.below (h.mono HSS.out)⟩
  have HBL : Hid (q.bl.length ≤ 9223372036854775807 ∧ q.xl.length ≤ 9223372036854775807) := Lib.hid ⟨by have := HQ.out.bll; unfold maxLen at this; omega, by have := HQ.out.xll; unfold maxLen at this; omega⟩
  go_loopw [15] (fun i wr => ∃ j : Nat, j ≤ q.bl.length ∧ i = .int .i64 j ∧ Pq w2 wr (fun k => k < w6.heap.size) H d (sQ q n nc) m B O X (1 + q.room % 6) (addsL (1 + q.room % 6) al (q.bl.take j)) [] [] ∧ Chg (fun k => k = B) w7 wr) (fun i _ => q.bl.length - (intOf i).toNat)
  case atStart => exact ⟨0, Nat.zero_le _, rfl, by rw [List.take_zero, addsL_nil]; exact HP7.out, Chg.refl _ _⟩
  case round =>
    obtain ⟨j, hj, rfl, hP, hC⟩ := hrel
    have HP := Lib.hid hP
    have HC := Lib.hid hC
    obtain ⟨e8, -, -⟩ := HC8.out wr hP.bel
    clear hP hC
    have j0 : (0 : Int) ≤ (j : Int) := by omega
    by_cases hlt : j < q.bl.length
    · have hj6 : (j : Int) ≤ 9223372036854775806 := by have := HBL.out.1; omega
      have j1 : decide ((j : Int) < (q.bl.length : Int)) = true := decide_eq_true (by omega)
      by_cases ha : al = []
      · have HPA : Hid (Pq w2 wr (fun k => k < w6.heap.size) H d (sQ q n nc) m B O X (1 + q.room % 6) (addsL (1 + q.room % 6) al q.bl) [] []) := Lib.hid (by
          have h := HP.out
          rw [ha, addsL_no] at h ⊢
          exact h)
        have ha1 : decide ((0 : Int) < (al.length : Int)) = false := decide_eq_false (by simp [ha])
        clear HP
        obtain ⟨wa, rfl⟩ : ∃ wa, wa = wr := ⟨_, rfl⟩
        have HRB := Lib.hid (HRA.out.chg HC.out (fun g hg e => by have := HGO.out g hg; have := HZZ.out.1; omega))
        clear HC HRA
        go_wp2_with fail
        go_loopw [16] (fun i wr => ∃ j : Nat, j ≤ q.xl.length ∧ i = .int .i64 j ∧ Pq w2 wr (fun k => k < w6.heap.size) H d (sQ q n nc) m B O X (1 + q.room % 6) (addsL (1 + q.room % 6) al q.bl) (addsL 256 al (q.xl.take j)) [] ∧ Chg (fun k => k = O) wa wr) (fun i _ => q.xl.length - (intOf i).toNat)
        case atStart => exact ⟨0, Nat.zero_le _, rfl, by rw [List.take_zero, addsL_nil]; exact HPA.out, Chg.refl _ _⟩
        case round =>
          obtain ⟨j2, hj2, rfl, hP2, hC2⟩ := hrel
          have HP := Lib.hid hP2
          have HC := Lib.hid hC2
          obtain ⟨-, e9, e11⟩ := HC8.out wr hP2.bel
          clear hP2 hC2
          have j20 : (0 : Int) ≤ (j2 : Int) := by omega
          by_cases hlt2 : j2 < q.xl.length
          · have hj26 : (j2 : Int) ≤ 9223372036854775806 := by have := HBL.out.2; omega
            have j21 : decide ((j2 : Int) < (q.xl.length : Int)) = true := decide_eq_true (by omega)
            by_cases ha2 : al = []
            · have HPB : Hid (Pq w2 wr (fun k => k < w6.heap.size) H d (sQ q n nc) m B O X (1 + q.room % 6) (addsL (1 + q.room % 6) al q.bl) (addsL 256 al q.xl) []) := Lib.hid (by
                have h := HP.out
                rw [ha2, addsL_no, addsL_no] at h ⊢
                exact h)
              have ha3 : decide ((0 : Int) < (al.length : Int)) = false := decide_eq_false (by simp [ha2])
              clear HP
              go_wp2_with fail
              have HLN := Lib.hid (Lg.len_any wr HPB.out.o)
              have HHD : Hid ((addsL 256 al q.xl) ≠ [] → Calls Tryz.prog 70 #[.pointer (some ⟨X, 0, none⟩), .pointer (some ⟨O, 0, none⟩)] wr fun e w' => e = .returned (.bool true) ∧ Pq w2 w' (fun k => k < w6.heap.size) H d (sQ q n nc) m B O X (1 + q.room % 6) (addsL (1 + q.room % 6) al q.bl) [] (addsL 256 al q.xl)) := Lib.hid fun _ => HPB.out.hand
              obtain ⟨os, hos⟩ : ∃ os, addsL 256 al q.xl = os := ⟨_, rfl⟩
              rw [hos] at HPB HLN HHD
              have HOS := Lib.hid hos
              clear hos
              go_wp2_with (go_at_call 28; fail)
              refine HLN.out.mono ?_
              rintro e w9 ⟨rfl, rfl⟩
              by_cases ho : os = []
              · have HPC : Hid (Pq w2 wr (fun k => k < w6.heap.size) H d (sQ q n nc) m B O X (1 + q.room % 6) (addsL (1 + q.room % 6) al q.bl) [] os) := Lib.hid (by
                  have h := HPB.out
                  rw [ho] at h ⊢
                  exact h)
                have ho1 : os.length = 0 := by rw [ho]; rfl
                clear HHD HLN HPB
                have e12 : (wr.alloc (.cells #[.bool false] 119)).cell? ⟨V.heap.size, 11, none⟩ = some (.bool q.up) := (HC8.out _ (HPC.out.bel.alloc HPC.out.bel.size _)).2.2
                rcases Bool.eq_false_or_eq_true q.up with hup | hup
                · rw [hup] at e12
                  clear e11
                  go_wp2_with (go_at_call 30; fail)
                  refine (raise_any wr.heap.size false (wr.alloc (.cells #[.bool false] 119)) (by simp) (by simp)).mono ?_
                  rintro e w11 ⟨rfl, rfl⟩
                  go_wp2_with fail
                  (try simp only [Exit.inBlock, Exit.then])
                  refine bodyPost_ret (four_tmp rfl _ _ _) rfl ?_
                  exact ⟨H, B, X, _, d, m, rfl, by rw [HAL.out, HOS.out, hup]; exact HPC.out.fin (HB2V.out) HT.out ((Below.refl _ _).alloc (Nat.le_refl _) _) (by simp) (by simp), HM.out.hm, HSM.out⟩
                · rw [hup] at e12
                  clear e11
                  go_wp2_with fail
                  (try simp only [Exit.inBlock, Exit.then])
                  refine bodyPost_ret (four_tmp rfl _ _ _) rfl ?_
                  exact ⟨H, B, X, _, d, m, rfl, by rw [HAL.out, HOS.out, hup]; exact HPC.out.fin (HB2V.out) HT.out ((Below.refl _ _).alloc (Nat.le_refl _) _) (by simp) (by simp), HM.out.hm, HSM.out⟩
              · have ho1 : 0 < os.length := List.length_pos_iff.2 ho
                have ho2 : (0 : Int) < (os.length : Int) := by omega
                have HH := Lib.hid (HHD.out ho)
                clear HHD HLN HPB
                go_wp2_with (go_at_call 70; fail)
                refine HH.out.mono ?_
                rintro e w9 ⟨rfl, hP9⟩
                obtain ⟨-, -, e11⟩ := HC8.out w9 hP9.bel
                have HPC := Lib.hid hP9
                clear hP9
                have e12 : (w9.alloc (.cells #[.bool false] 119)).cell? ⟨V.heap.size, 11, none⟩ = some (.bool q.up) := (HC8.out _ (HPC.out.bel.alloc HPC.out.bel.size _)).2.2
                rcases Bool.eq_false_or_eq_true q.up with hup | hup
                · rw [hup] at e12
                  clear e11
                  go_wp2_with (go_at_call 30; fail)
                  refine (raise_any w9.heap.size false (w9.alloc (.cells #[.bool false] 119)) (by simp) (by simp)).mono ?_
                  rintro e w11 ⟨rfl, rfl⟩
                  go_wp2_with fail
                  (try simp only [Exit.inBlock, Exit.then])
                  refine bodyPost_ret (four_tmp rfl _ _ _) rfl ?_
                  exact ⟨H, B, X, _, d, m, rfl, by rw [HAL.out, HOS.out, hup]; exact HPC.out.fin (HB2V.out) HT.out ((Below.refl _ _).alloc (Nat.le_refl _) _) (by simp) (by simp), HM.out.hm, HSM.out⟩
                · rw [hup] at e12
                  clear e11
                  go_wp2_with fail
                  (try simp only [Exit.inBlock, Exit.then])
                  refine bodyPost_ret (four_tmp rfl _ _ _) rfl ?_
                  exact ⟨H, B, X, _, d, m, rfl, by rw [HAL.out, HOS.out, hup]; exact HPC.out.fin (HB2V.out) HT.out ((Below.refl _ _).alloc (Nat.le_refl _) _) (by simp) (by simp), HM.out.hm, HSM.out⟩
            · exact absurd ha ha2
          · obtain rfl : j2 = q.xl.length := by omega
            have HPB : Hid (Pq w2 wr (fun k => k < w6.heap.size) H d (sQ q n nc) m B O X (1 + q.room % 6) (addsL (1 + q.room % 6) al q.bl) (addsL 256 al q.xl) []) := Lib.hid (by
              have h := HP.out
              rw [List.take_length] at h
              exact h)
            clear HP
            go_wp2_with fail
            have HLN := Lib.hid (Lg.len_any wr HPB.out.o)
            have HHD : Hid ((addsL 256 al q.xl) ≠ [] → Calls Tryz.prog 70 #[.pointer (some ⟨X, 0, none⟩), .pointer (some ⟨O, 0, none⟩)] wr fun e w' => e = .returned (.bool true) ∧ Pq w2 w' (fun k => k < w6.heap.size) H d (sQ q n nc) m B O X (1 + q.room % 6) (addsL (1 + q.room % 6) al q.bl) [] (addsL 256 al q.xl)) := Lib.hid fun _ => HPB.out.hand
            obtain ⟨os, hos⟩ : ∃ os, addsL 256 al q.xl = os := ⟨_, rfl⟩
            rw [hos] at HPB HLN HHD
            have HOS := Lib.hid hos
            clear hos
            go_wp2_with (go_at_call 28; fail)
            refine HLN.out.mono ?_
            rintro e w9 ⟨rfl, rfl⟩
            by_cases ho : os = []
            · have HPC : Hid (Pq w2 wr (fun k => k < w6.heap.size) H d (sQ q n nc) m B O X (1 + q.room % 6) (addsL (1 + q.room % 6) al q.bl) [] os) := Lib.hid (by
                have h := HPB.out
                rw [ho] at h ⊢
                exact h)
              have ho1 : os.length = 0 := by rw [ho]; rfl
              clear HHD HLN HPB
              have e12 : (wr.alloc (.cells #[.bool false] 119)).cell? ⟨V.heap.size, 11, none⟩ = some (.bool q.up) := (HC8.out _ (HPC.out.bel.alloc HPC.out.bel.size _)).2.2
              rcases Bool.eq_false_or_eq_true q.up with hup | hup
              · rw [hup] at e12
                clear e11
                go_wp2_with (go_at_call 30; fail)
                refine (raise_any wr.heap.size false (wr.alloc (.cells #[.bool false] 119)) (by simp) (by simp)).mono ?_
                rintro e w11 ⟨rfl, rfl⟩
                go_wp2_with fail
                (try simp only [Exit.inBlock, Exit.then])
                refine bodyPost_ret (four_tmp rfl _ _ _) rfl ?_
                exact ⟨H, B, X, _, d, m, rfl, by rw [HAL.out, HOS.out, hup]; exact HPC.out.fin (HB2V.out) HT.out ((Below.refl _ _).alloc (Nat.le_refl _) _) (by simp) (by simp), HM.out.hm, HSM.out⟩
              · rw [hup] at e12
                clear e11
                go_wp2_with fail
                (try simp only [Exit.inBlock, Exit.then])
                refine bodyPost_ret (four_tmp rfl _ _ _) rfl ?_
                exact ⟨H, B, X, _, d, m, rfl, by rw [HAL.out, HOS.out, hup]; exact HPC.out.fin (HB2V.out) HT.out ((Below.refl _ _).alloc (Nat.le_refl _) _) (by simp) (by simp), HM.out.hm, HSM.out⟩
            · have ho1 : 0 < os.length := List.length_pos_iff.2 ho
              have ho2 : (0 : Int) < (os.length : Int) := by omega
              have HH := Lib.hid (HHD.out ho)
              clear HHD HLN HPB
              go_wp2_with (go_at_call 70; fail)
              refine HH.out.mono ?_
              rintro e w9 ⟨rfl, hP9⟩
              obtain ⟨-, -, e11⟩ := HC8.out w9 hP9.bel
              have HPC := Lib.hid hP9
              clear hP9
              have e12 : (w9.alloc (.cells #[.bool false] 119)).cell? ⟨V.heap.size, 11, none⟩ = some (.bool q.up) := (HC8.out _ (HPC.out.bel.alloc HPC.out.bel.size _)).2.2
              rcases Bool.eq_false_or_eq_true q.up with hup | hup
              · rw [hup] at e12
                clear e11
                go_wp2_with (go_at_call 30; fail)
                refine (raise_any w9.heap.size false (w9.alloc (.cells #[.bool false] 119)) (by simp) (by simp)).mono ?_
                rintro e w11 ⟨rfl, rfl⟩
                go_wp2_with fail
                (try simp only [Exit.inBlock, Exit.then])
                refine bodyPost_ret (four_tmp rfl _ _ _) rfl ?_
                exact ⟨H, B, X, _, d, m, rfl, by rw [HAL.out, HOS.out, hup]; exact HPC.out.fin (HB2V.out) HT.out ((Below.refl _ _).alloc (Nat.le_refl _) _) (by simp) (by simp), HM.out.hm, HSM.out⟩
              · rw [hup] at e12
                clear e11
                go_wp2_with fail
                (try simp only [Exit.inBlock, Exit.then])
                refine bodyPost_ret (four_tmp rfl _ _ _) rfl ?_
                exact ⟨H, B, X, _, d, m, rfl, by rw [HAL.out, HOS.out, hup]; exact HPC.out.fin (HB2V.out) HT.out ((Below.refl _ _).alloc (Nat.le_refl _) _) (by simp) (by simp), HM.out.hm, HSM.out⟩
      · have ha0 : 0 < al.length := List.length_pos_iff.2 ha
        have ha1 : decide ((0 : Int) < (al.length : Int)) = true := decide_eq_true (by omega)
        obtain ⟨g, off, ep, -, hz, hc⟩ := (HBY.out wr HP.out.bel).1 j hlt
        rw [ep] at e8
        clear ep
        obtain ⟨k, hzm, hkk⟩ : ∃ k : Nat, ((q.bl.getD j 0 : Nat) : Int) % (al.length : Int) = (k : Int) ∧ q.bl.getD j 0 % al.length = k := ⟨_, by simp, rfl⟩
        have hk : k < al.length := by rw [← hkk]; exact Nat.mod_lt _ ha0
        have hR := (HRA.out.chg HC.out (fun g hg e => by have := HGO.out g hg; have := HZZ.out.1; omega)).at hk
        have HTK : Hid (addsL (1 + q.room % 6) al (q.bl.take (j + 1)) = addL (1 + q.room % 6) (addsL (1 + q.room % 6) al (q.bl.take j)) (al.getD k 0)) := Lib.hid (by
          rw [addsL_snoc _ ha hlt, hkk])
        have HAD := Lib.hid (HP.out.addB (al.getD k 0))
        obtain ⟨g2, off2, rfl, c2⟩ := hR
        have kk0 : (0 : Int) ≤ (k : Int) := Int.natCast_nonneg _
        have kk1 : (k : Int) < (al.length : Int) := by omega
        generalize q.bl.getD j 0 = z at *
        generalize al.getD k 0 = v at *
        clear hkk
        go_wp2_with (go_at_call 69; fail)
        refine HAD.out.mono ?_
        rintro e w8 ⟨bo, rfl, hP8, hC8⟩
        have HP8 := Lib.hid hP8
        have HC8' := Lib.hid (HC.out.trans hC8 (fun i h => .inl h))
        clear hP8 hC8
        go_wp2_with fail
        go_roundw
        case rel => exact ⟨j + 1, by omega, by go_num, by rw [HTK.out]; exact HP8.out, HC8'.out⟩
        case measure => simp [intOf]; omega
    · obtain rfl : j = q.bl.length := by omega
      have HPA : Hid (Pq w2 wr (fun k => k < w6.heap.size) H d (sQ q n nc) m B O X (1 + q.room % 6) (addsL (1 + q.room % 6) al q.bl) [] []) := Lib.hid (by
        have h := HP.out
        rw [List.take_length] at h
        exact h)
      clear HP
      obtain ⟨wa, rfl⟩ : ∃ wa, wa = wr := ⟨_, rfl⟩
      have HRB := Lib.hid (HRA.out.chg HC.out (fun g hg e => by have := HGO.out g hg; have := HZZ.out.1; omega))
      clear HC HRA
      go_wp2_with fail
      go_loopw [16] (fun i wr => ∃ j : Nat, j ≤ q.xl.length ∧ i = .int .i64 j ∧ Pq w2 wr (fun k => k < w6.heap.size) H d (sQ q n nc) m B O X (1 + q.room % 6) (addsL (1 + q.room % 6) al q.bl) (addsL 256 al (q.xl.take j)) [] ∧ Chg (fun k => k = O) wa wr) (fun i _ => q.xl.length - (intOf i).toNat)
      case atStart => exact ⟨0, Nat.zero_le _, rfl, by rw [List.take_zero, addsL_nil]; exact HPA.out, Chg.refl _ _⟩
      case round =>
        obtain ⟨j2, hj2, rfl, hP2, hC2⟩ := hrel
        have HP := Lib.hid hP2
        have HC := Lib.hid hC2
        obtain ⟨-, e9, e11⟩ := HC8.out wr hP2.bel
        clear hP2 hC2
        have j20 : (0 : Int) ≤ (j2 : Int) := by omega
        by_cases hlt2 : j2 < q.xl.length
        · have hj26 : (j2 : Int) ≤ 9223372036854775806 := by have := HBL.out.2; omega
          have j21 : decide ((j2 : Int) < (q.xl.length : Int)) = true := decide_eq_true (by omega)
          by_cases ha2 : al = []
          · have HPB : Hid (Pq w2 wr (fun k => k < w6.heap.size) H d (sQ q n nc) m B O X (1 + q.room % 6) (addsL (1 + q.room % 6) al q.bl) (addsL 256 al q.xl) []) := Lib.hid (by
              have h := HP.out
              rw [ha2, addsL_no, addsL_no] at h ⊢
              exact h)
            have ha3 : decide ((0 : Int) < (al.length : Int)) = false := decide_eq_false (by simp [ha2])
            clear HP
            go_wp2_with fail
            have HLN := Lib.hid (Lg.len_any wr HPB.out.o)
            have HHD : Hid ((addsL 256 al q.xl) ≠ [] → Calls Tryz.prog 70 #[.pointer (some ⟨X, 0, none⟩), .pointer (some ⟨O, 0, none⟩)] wr fun e w' => e = .returned (.bool true) ∧ Pq w2 w' (fun k => k < w6.heap.size) H d (sQ q n nc) m B O X (1 + q.room % 6) (addsL (1 + q.room % 6) al q.bl) [] (addsL 256 al q.xl)) := Lib.hid fun _ => HPB.out.hand
            obtain ⟨os, hos⟩ : ∃ os, addsL 256 al q.xl = os := ⟨_, rfl⟩
            rw [hos] at HPB HLN HHD
            have HOS := Lib.hid hos
            clear hos
            go_wp2_with (go_at_call 28; fail)
            refine HLN.out.mono ?_
            rintro e w9 ⟨rfl, rfl⟩
            by_cases ho : os = []
            · have HPC : Hid (Pq w2 wr (fun k => k < w6.heap.size) H d (sQ q n nc) m B O X (1 + q.room % 6) (addsL (1 + q.room % 6) al q.bl) [] os) := Lib.hid (by
                have h := HPB.out
                rw [ho] at h ⊢
                exact h)
              have ho1 : os.length = 0 := by rw [ho]; rfl
              clear HHD HLN HPB
              have e12 : (wr.alloc (.cells #[.bool false] 119)).cell? ⟨V.heap.size, 11, none⟩ = some (.bool q.up) := (HC8.out _ (HPC.out.bel.alloc HPC.out.bel.size _)).2.2
              rcases Bool.eq_false_or_eq_true q.up with hup | hup
              · rw [hup] at e12
                clear e11
                go_wp2_with (go_at_call 30; fail)
                refine (raise_any wr.heap.size false (wr.alloc (.cells #[.bool false] 119)) (by simp) (by simp)).mono ?_
                rintro e w11 ⟨rfl, rfl⟩
                go_wp2_with fail
                (try simp only [Exit.inBlock, Exit.then])
                refine bodyPost_ret (four_tmp rfl _ _ _) rfl ?_
                exact ⟨H, B, X, _, d, m, rfl, by rw [HAL.out, HOS.out, hup]; exact HPC.out.fin (HB2V.out) HT.out ((Below.refl _ _).alloc (Nat.le_refl _) _) (by simp) (by simp), HM.out.hm, HSM.out⟩
              · rw [hup] at e12
                clear e11
                go_wp2_with fail
                (try simp only [Exit.inBlock, Exit.then])
                refine bodyPost_ret (four_tmp rfl _ _ _) rfl ?_
                exact ⟨H, B, X, _, d, m, rfl, by rw [HAL.out, HOS.out, hup]; exact HPC.out.fin (HB2V.out) HT.out ((Below.refl _ _).alloc (Nat.le_refl _) _) (by simp) (by simp), HM.out.hm, HSM.out⟩
            · have ho1 : 0 < os.length := List.length_pos_iff.2 ho
              have ho2 : (0 : Int) < (os.length : Int) := by omega
              have HH := Lib.hid (HHD.out ho)
              clear HHD HLN HPB
              go_wp2_with (go_at_call 70; fail)
              refine HH.out.mono ?_
              rintro e w9 ⟨rfl, hP9⟩
              obtain ⟨-, -, e11⟩ := HC8.out w9 hP9.bel
              have HPC := Lib.hid hP9
              clear hP9
              have e12 : (w9.alloc (.cells #[.bool false] 119)).cell? ⟨V.heap.size, 11, none⟩ = some (.bool q.up) := (HC8.out _ (HPC.out.bel.alloc HPC.out.bel.size _)).2.2
              rcases Bool.eq_false_or_eq_true q.up with hup | hup
              · rw [hup] at e12
                clear e11
                go_wp2_with (go_at_call 30; fail)
                refine (raise_any w9.heap.size false (w9.alloc (.cells #[.bool false] 119)) (by simp) (by simp)).mono ?_
                rintro e w11 ⟨rfl, rfl⟩
                go_wp2_with fail
                (try simp only [Exit.inBlock, Exit.then])
                refine bodyPost_ret (four_tmp rfl _ _ _) rfl ?_
                exact ⟨H, B, X, _, d, m, rfl, by rw [HAL.out, HOS.out, hup]; exact HPC.out.fin (HB2V.out) HT.out ((Below.refl _ _).alloc (Nat.le_refl _) _) (by simp) (by simp), HM.out.hm, HSM.out⟩
              · rw [hup] at e12
                clear e11
                go_wp2_with fail
                (try simp only [Exit.inBlock, Exit.then])
                refine bodyPost_ret (four_tmp rfl _ _ _) rfl ?_
                exact ⟨H, B, X, _, d, m, rfl, by rw [HAL.out, HOS.out, hup]; exact HPC.out.fin (HB2V.out) HT.out ((Below.refl _ _).alloc (Nat.le_refl _) _) (by simp) (by simp), HM.out.hm, HSM.out⟩
          · have ha0 : 0 < al.length := List.length_pos_iff.2 ha2
            have ha3 : decide ((0 : Int) < (al.length : Int)) = true := decide_eq_true (by omega)
            obtain ⟨g, off, ep, -, hz, hc⟩ := (HBY.out wr HP.out.bel).2 j2 hlt2
            rw [ep] at e9
            clear ep
            obtain ⟨k, hzm, hkk⟩ : ∃ k : Nat, ((q.xl.getD j2 0 : Nat) : Int) % (al.length : Int) = (k : Int) ∧ q.xl.getD j2 0 % al.length = k := ⟨_, by simp, rfl⟩
            have hk : k < al.length := by rw [← hkk]; exact Nat.mod_lt _ ha0
            have hR := (HRB.out.chg HC.out (fun g hg e => by have := HGO.out g hg; have := HZZ.out.2.1; omega)).at hk
            have HTK : Hid (addsL 256 al (q.xl.take (j2 + 1)) = addL 256 (addsL 256 al (q.xl.take j2)) (al.getD k 0)) := Lib.hid (by
              rw [addsL_snoc _ ha2 hlt2, hkk])
            have HAD := Lib.hid (HP.out.addO (al.getD k 0))
            obtain ⟨g2, off2, rfl, c2⟩ := hR
            have kk0 : (0 : Int) ≤ (k : Int) := Int.natCast_nonneg _
            have kk1 : (k : Int) < (al.length : Int) := by omega
            generalize q.xl.getD j2 0 = z at *
            generalize al.getD k 0 = v at *
            clear hkk
            go_wp2_with (go_at_call 69; fail)
            refine HAD.out.mono ?_
            rintro e w8 ⟨bo, rfl, hP8, hC8⟩
            have HP8 := Lib.hid hP8
            have HC8' := Lib.hid (HC.out.trans hC8 (fun i h => .inl h))
            clear hP8 hC8
            go_wp2_with fail
            go_roundw
            case rel => exact ⟨j2 + 1, by omega, by go_num, by rw [HTK.out]; exact HP8.out, HC8'.out⟩
            case measure => simp [intOf]; omega
        · obtain rfl : j2 = q.xl.length := by omega
          have HPB : Hid (Pq w2 wr (fun k => k < w6.heap.size) H d (sQ q n nc) m B O X (1 + q.room % 6) (addsL (1 + q.room % 6) al q.bl) (addsL 256 al q.xl) []) := Lib.hid (by
            have h := HP.out
            rw [List.take_length] at h
            exact h)
          clear HP
          go_wp2_with fail
          have HLN := Lib.hid (Lg.len_any wr HPB.out.o)
          have HHD : Hid ((addsL 256 al q.xl) ≠ [] → Calls Tryz.prog 70 #[.pointer (some ⟨X, 0, none⟩), .pointer (some ⟨O, 0, none⟩)] wr fun e w' => e = .returned (.bool true) ∧ Pq w2 w' (fun k => k < w6.heap.size) H d (sQ q n nc) m B O X (1 + q.room % 6) (addsL (1 + q.room % 6) al q.bl) [] (addsL 256 al q.xl)) := Lib.hid fun _ => HPB.out.hand
          obtain ⟨os, hos⟩ : ∃ os, addsL 256 al q.xl = os := ⟨_, rfl⟩
          rw [hos] at HPB HLN HHD
          have HOS := Lib.hid hos
          clear hos
          go_wp2_with (go_at_call 28; fail)
          refine HLN.out.mono ?_
          rintro e w9 ⟨rfl, rfl⟩
          by_cases ho : os = []
          · have HPC : Hid (Pq w2 wr (fun k => k < w6.heap.size) H d (sQ q n nc) m B O X (1 + q.room % 6) (addsL (1 + q.room % 6) al q.bl) [] os) := Lib.hid (by
              have h := HPB.out
              rw [ho] at h ⊢
              exact h)
            have ho1 : os.length = 0 := by rw [ho]; rfl
            clear HHD HLN HPB
            have e12 : (wr.alloc (.cells #[.bool false] 119)).cell? ⟨V.heap.size, 11, none⟩ = some (.bool q.up) := (HC8.out _ (HPC.out.bel.alloc HPC.out.bel.size _)).2.2
            rcases Bool.eq_false_or_eq_true q.up with hup | hup
            · rw [hup] at e12
              clear e11
              go_wp2_with (go_at_call 30; fail)
              refine (raise_any wr.heap.size false (wr.alloc (.cells #[.bool false] 119)) (by simp) (by simp)).mono ?_
              rintro e w11 ⟨rfl, rfl⟩
              go_wp2_with fail
              (try simp only [Exit.inBlock, Exit.then])
              refine bodyPost_ret (four_tmp rfl _ _ _) rfl ?_
              exact ⟨H, B, X, _, d, m, rfl, by rw [HAL.out, HOS.out, hup]; exact HPC.out.fin (HB2V.out) HT.out ((Below.refl _ _).alloc (Nat.le_refl _) _) (by simp) (by simp), HM.out.hm, HSM.out⟩
            · rw [hup] at e12
              clear e11
              go_wp2_with fail
              (try simp only [Exit.inBlock, Exit.then])
              refine bodyPost_ret (four_tmp rfl _ _ _) rfl ?_
              exact ⟨H, B, X, _, d, m, rfl, by rw [HAL.out, HOS.out, hup]; exact HPC.out.fin (HB2V.out) HT.out ((Below.refl _ _).alloc (Nat.le_refl _) _) (by simp) (by simp), HM.out.hm, HSM.out⟩
          · have ho1 : 0 < os.length := List.length_pos_iff.2 ho
            have ho2 : (0 : Int) < (os.length : Int) := by omega
            have HH := Lib.hid (HHD.out ho)
            clear HHD HLN HPB
            go_wp2_with (go_at_call 70; fail)
            refine HH.out.mono ?_
            rintro e w9 ⟨rfl, hP9⟩
            obtain ⟨-, -, e11⟩ := HC8.out w9 hP9.bel
            have HPC := Lib.hid hP9
            clear hP9
            have e12 : (w9.alloc (.cells #[.bool false] 119)).cell? ⟨V.heap.size, 11, none⟩ = some (.bool q.up) := (HC8.out _ (HPC.out.bel.alloc HPC.out.bel.size _)).2.2
            rcases Bool.eq_false_or_eq_true q.up with hup | hup
            · rw [hup] at e12
              clear e11
              go_wp2_with (go_at_call 30; fail)
              refine (raise_any w9.heap.size false (w9.alloc (.cells #[.bool false] 119)) (by simp) (by simp)).mono ?_
              rintro e w11 ⟨rfl, rfl⟩
              go_wp2_with fail
              (try simp only [Exit.inBlock, Exit.then])
              refine bodyPost_ret (four_tmp rfl _ _ _) rfl ?_
              exact ⟨H, B, X, _, d, m, rfl, by rw [HAL.out, HOS.out, hup]; exact HPC.out.fin (HB2V.out) HT.out ((Below.refl _ _).alloc (Nat.le_refl _) _) (by simp) (by simp), HM.out.hm, HSM.out⟩
            · rw [hup] at e12
              clear e11
              go_wp2_with fail
              (try simp only [Exit.inBlock, Exit.then])
              refine bodyPost_ret (four_tmp rfl _ _ _) rfl ?_
              exact ⟨H, B, X, _, d, m, rfl, by rw [HAL.out, HOS.out, hup]; exact HPC.out.fin (HB2V.out) HT.out ((Below.refl _ _).alloc (Nat.le_refl _) _) (by simp) (by simp), HM.out.hm, HSM.out⟩
end Go.Proofs.YtkfgchhlekdpgaaGreatDoor.Nt
