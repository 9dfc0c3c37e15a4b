/-
  The law HeapLooks answers true, for every config, row of deeds and three numbers.
-/
import Derived.Test.YtdldbmpkpjlmmaaGreatDoorRfW
import Derived.Test.YtdldbmpkpjlmmaaGreatDoorHq4
namespace Go.Proofs.YtdldbmpkpjlmmaaGreatDoor.Rf
open Go.RowKit Go.Sort
open Blk (Cfg BoxIs little little_any little_right box7)
open Hp (St Wf st0 Mine bnI coE coV cV ccE fN fE lV lE)
open Go.Proofs.YtdldbmpkpjlmmaaGreatDoor.Row (Chg)
open Go.Proofs.YtdldbmpkpjlmmaaGreatDoor.Addr (Tabs)

theorem box7_other {w1 W2 : World} {d : Cfg} {S : Nat} (hW : (((((((w1.setCell ⟨S, 0, none⟩ (.int .i64 d.b)).setCell ⟨S, 1, none⟩ (.int .i64 d.wd)).setCell ⟨S, 2, none⟩ (.int .i64 d.m)).setCell ⟨S, 3, none⟩ (.int .i64 d.r)).setCell ⟨S, 4, none⟩ (.int .i64 d.ce)).setCell ⟨S, 5, none⟩ (.int .i64 d.lg)).setCell ⟨S, 6, none⟩ (.int .i64 d.st)) = W2) {k : Nat} (hk : k ≠ S) : W2.heap[k]? = w1.heap[k]? := by
  rw [← hW]
  rw [Lis.heap_set hk, Lis.heap_set hk, Lis.heap_set hk, Lis.heap_set hk, Lis.heap_set hk, Lis.heap_set hk, Lis.heap_set hk]
theorem looks_color (s : St) (a : Int) : ∃ (v e r : Int) (bb : Bool), coV s a = v ∧ coE s a = e ∧ roV s a = r ∧ bnI s a = bb ∧ ((v = 0 ∧ e = 1 ∧ r = -1 ∧ bb = false) ∨ (v = 0 ∧ e = 0 ∧ r = 0 ∧ bb = true) ∨ (v = 1 ∧ e = 0 ∧ r = 1 ∧ bb = true)) := by
  refine ⟨_, _, _, _, rfl, rfl, rfl, rfl, ?_⟩
  unfold coV coE roV
  cases bnI s a with
  | false => exact .inl ⟨rfl, rfl, rfl, rfl⟩
  | true =>
    cases hasB s.os a.toNat with
    | false => exact .inr (.inl ⟨rfl, rfl, rfl, rfl⟩)
    | true => exact .inr (.inr ⟨rfl, rfl, rfl, rfl⟩)
set_option maxRecDepth 2000000 in
set_option maxHeartbeats 20000000 in
theorem looks_walk (c : Cfg) (pb : Option Addr) (cb : Nat) (zb : List (Nat × Int × Int × Int)) (q0 q1 q2 : Int) (w : World) (ht : Tabs w) (hb : DeedsP w.heap.size w pb zb) :
    Calls Tryz.prog 4 #[(.agg #[.int .i64 c.b, .int .i64 c.wd, .int .i64 c.m, .int .i64 c.r, .int .i64 c.ce, .int .i64 c.lg, .int .i64 c.st]), .slice pb zb.length cb, .agg #[.int .i64 q0, .int .i64 q1, .int .i64 q2]] w fun e w' => e = .returned (.bool true) ∧ Below w.heap.size w w' := by
  have HT := Lib.hid ht
  have HB := Lib.hid hb
  have HR := Lib.hid (little_right c)
  obtain ⟨nc, hnc, hnc3⟩ := little_ce c
  obtain ⟨n, hn, hn2⟩ := little_n c
  clear ht hb
  go_enter Tryz.func4, Tryz.ntmps4
  go_wp2_with fail
  refine (little_any c _).mono ?_
  rintro e w1 ⟨rfl, hb⟩
  have hb' : Below (w.heap.size + 1) (w.alloc (.cells #[.int .i64 c.b, .int .i64 c.wd, .int .i64 c.m, .int .i64 c.r, .int .i64 c.ce, .int .i64 c.lg, .int .i64 c.st] 23)) w1 := ((Below.refl _ _).alloc (by simp) (.cells #[.int .i64 q0, .int .i64 q1, .int .i64 q2] 38)).trans (hb.mono (by simp))
  have HW := Lib.hid (fun W2 hW => box7 (d := little c) (W2 := W2) hb' hW)
  have HO := Lib.hid (fun W2 hW (k : Nat) (hk : k ≠ w.heap.size) => box7_other (d := little c) (w1 := w1) (W2 := W2) (S := w.heap.size) hW hk)
  have hq1 : ∀ j v, (#[.int .i64 q0, .int .i64 q1, .int .i64 q2] : Array Value)[j]? = some v → w1.cell? ⟨w.heap.size + 1, j, none⟩ = some v := fun j v h => by
    have e := hb.block (w.heap.size + 1) (by simp)
    unfold World.cell?
    rw [show (⟨w.heap.size + 1, j, none⟩ : Addr).block = w.heap.size + 1 from rfl, e]
    have := World.alloc_heap_new (w.alloc (.cells #[.int .i64 c.b, .int .i64 c.wd, .int .i64 c.m, .int .i64 c.r, .int .i64 c.ce, .int .i64 c.lg, .int .i64 c.st] 23)) (.cells #[.int .i64 q0, .int .i64 q1, .int .i64 q2] 38)
    rw [World.size_alloc] at this
    rw [this]
    exact h
  have HQ1 := Lib.hid hq1
  obtain ⟨hc1, hf1⟩ := bcell hb
  have hz1 : w.heap.size + 1 < w1.heap.size := by have := hb.size; simp at this; omega
  clear hb hb' hq1
  generalize hL : little c = d at *
  clear hL
  have HNC := Lib.hid hnc
  have HN := Lib.hid hn
  clear hnc hn
  by_cases hbig : 60 < zb.length
  · have h1 : (60 : Int) < (zb.length : Int) := by omega
    go_wp2_with fail
    generalize hW : World.setCell _ _ _ = W2
    obtain ⟨hbox, hb2⟩ := HW.out W2 hW
    refine (Hp.awake_any _ (HT.out.later hb2)).mono ?_
    rintro e w3 ⟨rfl, hb3⟩
    have HF := Lib.hid (hb2.trans (hb3.mono hb2.size))
    clear hW HW hc1 hf1 hz1 hb2 hbox hb3 HO HQ1
    go_wp2
    go_ret
    exact ⟨rfl, HF.out⟩
  have h1 : (zb.length : Int) ≤ 60 := by omega
  have hd1 : decide ((60 : Int) < (zb.length : Int)) = false := by simpa using h1
  go_wp2_with fail
  generalize hW : World.setCell _ _ _ = W1
  obtain ⟨hbox, hb2⟩ := HW.out W1 hW
  have hq2 : W1.heap[w.heap.size + 1]? = w1.heap[w.heap.size + 1]? := HO.out W1 hW _ (by omega)
  have hs2 : w.heap.size + 1 < W1.heap.size := by rw [← hW]; simpa [World.setCell] using hz1
  clear hW HW hc1 hf1 hz1 HO
  refine (Hp.awake_any _ (HT.out.later hb2)).mono ?_
  rintro e W2 ⟨rfl, hb3⟩
  have HB2 := Lib.hid (hb2.trans (hb3.mono hb2.size))
  have HX2 := Lib.hid (hbox.later hb3)
  have HQ2 : Hid (w.heap.size + 1 < W2.heap.size ∧ ∀ j v, (#[.int .i64 q0, .int .i64 q1, .int .i64 q2] : Array Value)[j]? = some v → W2.cell? ⟨w.heap.size + 1, j, none⟩ = some v) := Lib.hid ⟨Nat.lt_of_lt_of_le hs2 hb3.size, fun j v h => ((hb3.cell (p := ⟨w.heap.size + 1, j, none⟩) hs2).trans (World.cell?_of_block (a := ⟨w.heap.size + 1, j, none⟩) hq2)).trans (HQ1.out j v h)⟩
  have c0 := (hbox.later hb3).b0
  have c1 := (hbox.later hb3).b1
  have c2 := (hbox.later hb3).b2
  have c3 := (hbox.later hb3).b3
  have c4 := (hbox.later hb3).b4
  have c5 := (hbox.later hb3).b5
  have c6 := (hbox.later hb3).b6
  clear hb2 hb3 hbox hq2 hs2 HQ1
  go_wp2_with fail
  refine (Hp.new_good d n nc _ (HT.out.later HB2.out) HR.out HN.out HNC.out).mono ?_
  rintro e w3 ⟨H, dd, rfl, hI, hM, hb3⟩
  have HB3 := Lib.hid (HB2.out.trans (hb3.mono HB2.out.size))
  have HI3 := Lib.hid hI
  have HM3 := Lib.hid (fun k hk => Nat.le_trans HB2.out.size (hM k hk))
  have HM4 := Lib.hid (fun k hk => (show w.heap.size + 1 ≠ k from fun e => by have := hM k hk; have := HQ2.out.1; omega))
  have HQ3 : Hid (w.heap.size + 1 < w3.heap.size ∧ ∀ j v, (#[.int .i64 q0, .int .i64 q1, .int .i64 q2] : Array Value)[j]? = some v → w3.cell? ⟨w.heap.size + 1, j, none⟩ = some v) := Lib.hid ⟨Nat.lt_of_lt_of_le HQ2.out.1 hb3.size, fun j v h => (hb3.cell (p := ⟨w.heap.size + 1, j, none⟩) HQ2.out.1).trans (HQ2.out.2 j v h)⟩
  have hX3 := HX2.out.later hb3
  have d0 := hX3.b0
  have d1 := hX3.b1
  have d2 := hX3.b2
  have d3 := hX3.b3
  have d4 := hX3.b4
  have d5 := hX3.b5
  have d6 := hX3.b6
  clear hI hM hb3 hX3 c0 c1 c2 c3 c4 c5 c6
  go_wp2_with fail
  refine (new_any d n nc _ HR.out HN.out HNC.out (by omega)).mono ?_
  rintro e w4 ⟨M, i, rfl, hMg, hRp, hb4, hA⟩
  have hBo := Bo.start HI3.out (HT.out.later HB3.out) hRp hb4 hA
  have HLO := Lib.hid (show Lo w w4 w4 H dd M w3.heap.size i d n nc dd (st0 d n nc) 0 i from ⟨hBo, rfl, by simp [st0], by simp [st0], HB3.out.trans (hb4.mono HB3.out.size), HM3.out, fun k e => Nat.le_trans HB3.out.size (hA k e), HB3.out.trans (hb4.mono HB3.out.size)⟩)
  have HQ4 : Hid (∀ W d' s m i' r, Bo w4 H dd M w3.heap.size i W d' s m i' r → W.cell? ⟨w.heap.size + 1, 0, none⟩ = some (.int .i64 q0) ∧ W.cell? ⟨w.heap.size + 1, 1, none⟩ = some (.int .i64 q1) ∧ W.cell? ⟨w.heap.size + 1, 2, none⟩ = some (.int .i64 q2)) := Lib.hid fun W d' s m i' r hB => by
    have key : ∀ j v, (#[.int .i64 q0, .int .i64 q1, .int .i64 q2] : Array Value)[j]? = some v → W.cell? ⟨w.heap.size + 1, j, none⟩ = some v := fun j v h =>
      (hB.cell (p := ⟨w.heap.size + 1, j, none⟩) (Nat.lt_of_lt_of_le HQ3.out.1 hb4.size) (fun e => HM4.out _ e rfl) (fun e => by have h : w3.heap.size ≤ w.heap.size + 1 := hA _ e; have := HQ3.out.1; omega)).trans ((hb4.cell (p := ⟨w.heap.size + 1, j, none⟩) HQ3.out.1).trans (HQ3.out.2 j v h))
    exact ⟨key 0 _ rfl, key 1 _ rfl, key 2 _ rfl⟩
  clear hRp hb4 hA hBo hMg d0 d1 d2 d3 d4 d5 d6 HQ3 HQ2
  go_wp2_with fail
  go_loopw [10] (fun x wr => ∃ (j : Nat) (d' : Hp.Ids) (s : St) (i' : Ri), j ≤ zb.length ∧ x = .int .i64 (j : Int) ∧ Lo w w4 wr H dd M w3.heap.size i d n nc d' s (1000 * j) i') (fun x _ => zb.length - (intOf x).toNat)
  case atStart => exact ⟨0, dd, _, i, Nat.zero_le _, rfl, HLO.out⟩
  case round =>
    obtain ⟨j, d', s, i', hj, rfl, hLo⟩ := hrel
    have HL := Lib.hid hLo
    have j0 : (0 : Int) ≤ (j : Int) := Int.natCast_nonneg _
    by_cases hltj : j < zb.length
    · have j1 : (j : Int) < (zb.length : Int) := by omega
      obtain ⟨b, off, rfl, hbS, y0, y1, y2, y3⟩ := HB.out j hltj
      have e0 := (hLo.bel.cell (p := ⟨b, off + j * 4, none⟩) hbS).trans y0
      have e1 := (hLo.bel.cell (p := ⟨b, off + j * 4 + 1, none⟩) hbS).trans y1
      have e2 := (hLo.bel.cell (p := ⟨b, off + j * 4 + 2, none⟩) hbS).trans y2
      have e3 := (hLo.bel.cell (p := ⟨b, off + j * 4 + 3, none⟩) hbS).trans y3
      have HDO := Lib.hid (does_any (dAt zb j).1 (dAt zb j).2.1 (dAt zb j).2.2.1 (dAt zb j).2.2.2 wr hLo.bo.self (by omega))
      clear y0 y1 y2 y3 hLo HLO
      unfold deedV at HDO
      generalize dAt zb j = q at *
      obtain ⟨kd, qa, qb, qc⟩ := q
      go_wp2_with (go_at_call 12; refine HDO.out.mono ?_; rintro e w6 hD; obtain ⟨rfl, d6, s6, i6, hL6⟩ := HL.out.step hD; have HL6 := Lib.hid hL6; clear hD hL6)
      go_roundw
      case rel => exact ⟨j + 1, d6, s6, i6, by omega, by go_num, HL6.out⟩
      case measure => simp [intOf]; omega
    · have j1 : ¬ (j : Int) < (zb.length : Int) := by omega
      have HB0 := Lib.hid hLo.bo
      have HBW := Lib.hid (fun (W : World) (d2 : Hp.Ids) (m2 : Nat) (i2 : Ri) (hB : Bo w4 H dd M w3.heap.size i W d2 s m2 i2 s) => hB.below hLo.b0 hLo.g1 hLo.g2)
      obtain ⟨x0, x1, x2⟩ := HQ4.out _ _ _ _ _ _ hLo.bo
      clear hLo HLO HL HM3 HM4 HI3
      obtain ⟨v, e, r, bb, hv, he, hr, hbb, hcase⟩ := looks_color s q0
      have HC1 : Hid (∀ (W : World) (d2 : Hp.Ids) (m2 : Nat), Hp.Is W H d2 s m2 → Calls Tryz.prog 18 #[.pointer (some ⟨H, 0, none⟩), .int .i64 q0] W fun e' w' => e' = .returned (.tuple #[.int .i64 v, .int .i64 e]) ∧ Below W.heap.size W w') := Lib.hid fun W d2 m2 hI => by
        have := Hp.color_any' q0 W hI
        rw [hv, he] at this
        exact this
      have HC2 : Hid (∀ (W : World) (i2 : Ri), Rp W M w3.heap.size i2 s → Calls Tryz.prog 19 #[.pointer (some ⟨M, 0, none⟩), .int .i64 q0] W fun e' w' => e' = .returned (.int .i64 r) ∧ ∃ q, w' = W.drewN q) := Lib.hid fun W i2 hR => by
        have := color_any q0 W hR
        rw [hr] at this
        exact this
      have HC3 : Hid (∀ (W : World) (d2 : Hp.Ids) (m2 : Nat), Hp.Is W H d2 s m2 → Calls Tryz.prog 20 #[.pointer (some ⟨H, 0, none⟩), .int .i64 q0] W fun e' w' => e' = .returned (.bool bb) ∧ ∃ q, w' = W.drewN q) := Lib.hid fun W d2 m2 hI => by
        have := Hp.isO_any q0 W hI
        rw [hbb] at this
        exact this
      clear hv he hr hbb
      have hcell : (¬ (0 ≤ q2) ∨ (0 ≤ q2 ∧ ¬ q2 < (s.ce.length : Int))) ∧ cV s q2 = 0 ∧ ccE s q2 = 9 ∨ ∃ k : Nat, q2 = k ∧ k < s.ce.length ∧ cV s q2 = s.ce.getD k 0 ∧ ccE s q2 = 0 := by
        unfold cV ccE
        by_cases h : 0 ≤ q2 ∧ q2 < (s.ce.length : Int)
        · right
          rw [if_pos h, if_pos h]
          exact ⟨q2.toNat, by omega, by omega, rfl, rfl⟩
        · left
          rw [if_neg h, if_neg h]
          exact ⟨by omega, rfl, rfl⟩
      have HCE : Hid (∀ (W : World) (d2 : Hp.Ids) (m2 : Nat), Hp.Is W H d2 s m2 → Calls Tryz.prog 21 #[.pointer (some ⟨H, 0, none⟩), .int .i64 q2] W fun e' w' => e' = .returned (.tuple #[.int .i64 (cV s q2), .int .i64 (ccE s q2)]) ∧ Below W.heap.size W w') := Lib.hid fun W d2 m2 hI => Hp.cell_any q2 W hI
      have hmx : max (0 : Int) r = v := by rcases hcase with ⟨rfl, rfl, rfl, rfl⟩ | ⟨rfl, rfl, rfl, rfl⟩ | ⟨rfl, rfl, rfl, rfl⟩ <;> decide
      generalize cV s q2 = cv at *
      generalize ccE s q2 = ce at *
      have h64 : s.ce.length ≤ 64 := HB0.out.is.capc.2
      rcases hcell with ⟨hr2, rfl, rfl⟩ | ⟨k, rfl, hk, rfl, rfl⟩
      · rcases hr2 with hneg | ⟨hpos, hge⟩
        · have hg0 : decide (q2 < 0) = true := by simpa using hneg
          have hg1 : q2 < 0 := by omega
          rcases hcase with ⟨rfl, rfl, rfl, rfl⟩ | ⟨rfl, rfl, rfl, rfl⟩ | ⟨rfl, rfl, rfl, rfl⟩
          all_goals
            go_wp2
            go_quiet (fail)
            go_wp2_with (first
              | (go_at_call 14; refine (Hp.fields_any q0 _ (HB0.out.drewN _).is (HB0.out.drewN _).tb (by omega)).mono ?_; rintro e w5 ⟨rfl, hT⟩; obtain ⟨d5, hB5⟩ := (HB0.out.drewN _).heap hT; have HB5 := Lib.hid hB5; clear hT hB5)
              | (go_at_call 15; refine (fields_any q0 _ HB5.out.rp).mono ?_; rintro e w' ⟨rfl, rfl⟩)
              | (go_at_call 16; refine (Hp.load_any q0 q1 _ HB5.out.is HB5.out.tb (by omega)).mono ?_; rintro e w6 ⟨rfl, hT⟩; obtain ⟨d6, hB6⟩ := HB5.out.heap hT; have HB6 := Lib.hid hB6; clear hT hB6)
              | (go_at_call 17; refine (load_any q0 q1 _ HB6.out.rp).mono ?_; rintro e w' ⟨rfl, rfl⟩)
              | (go_at_call 18; refine (HC1.out _ _ _ HB6.out.is).mono ?_; rintro e w7 ⟨rfl, hb7⟩; have HB7 := Lib.hid (HB6.out.later hb7); clear hb7)
              | (go_at_call 19; refine (HC2.out _ _ HB7.out.rp).mono ?_; rintro e w' ⟨rfl, q8, rfl⟩)
              | (go_at_call 20; refine (HC3.out _ _ _ (HB7.out.drewN _).is).mono ?_; rintro e w' ⟨rfl, q9, rfl⟩)
              | (go_at_call 21; refine (HCE.out _ _ _ (HB7.out.drewN _).is).mono ?_; rintro e w9 ⟨rfl, hb9⟩; have hB9 := (HB7.out.drewN _).later hb9; have cE := hB9.rp.mem.cE; have HB9 := Lib.hid hB9; clear hb9 hB9))
            go_ret
            exact ⟨rfl, HBW.out _ _ _ _ HB9.out⟩
        · have hg0 : decide (q2 < 0) = false := by simpa using hpos
          have hg1 : decide ((s.ce.length : Int) ≤ q2) = true := by simp; omega
          have hg2 : (s.ce.length : Int) ≤ q2 := by omega
          rcases hcase with ⟨rfl, rfl, rfl, rfl⟩ | ⟨rfl, rfl, rfl, rfl⟩ | ⟨rfl, rfl, rfl, rfl⟩
          all_goals
            go_wp2
            go_quiet (fail)
            go_wp2_with (first
              | (go_at_call 14; refine (Hp.fields_any q0 _ (HB0.out.drewN _).is (HB0.out.drewN _).tb (by omega)).mono ?_; rintro e w5 ⟨rfl, hT⟩; obtain ⟨d5, hB5⟩ := (HB0.out.drewN _).heap hT; have HB5 := Lib.hid hB5; clear hT hB5)
              | (go_at_call 15; refine (fields_any q0 _ HB5.out.rp).mono ?_; rintro e w' ⟨rfl, rfl⟩)
              | (go_at_call 16; refine (Hp.load_any q0 q1 _ HB5.out.is HB5.out.tb (by omega)).mono ?_; rintro e w6 ⟨rfl, hT⟩; obtain ⟨d6, hB6⟩ := HB5.out.heap hT; have HB6 := Lib.hid hB6; clear hT hB6)
              | (go_at_call 17; refine (load_any q0 q1 _ HB6.out.rp).mono ?_; rintro e w' ⟨rfl, rfl⟩)
              | (go_at_call 18; refine (HC1.out _ _ _ HB6.out.is).mono ?_; rintro e w7 ⟨rfl, hb7⟩; have HB7 := Lib.hid (HB6.out.later hb7); clear hb7)
              | (go_at_call 19; refine (HC2.out _ _ HB7.out.rp).mono ?_; rintro e w' ⟨rfl, q8, rfl⟩)
              | (go_at_call 20; refine (HC3.out _ _ _ (HB7.out.drewN _).is).mono ?_; rintro e w' ⟨rfl, q9, rfl⟩)
              | (go_at_call 21; refine (HCE.out _ _ _ (HB7.out.drewN _).is).mono ?_; rintro e w9 ⟨rfl, hb9⟩; have hB9 := (HB7.out.drewN _).later hb9; have cE := hB9.rp.mem.cE; have HB9 := Lib.hid hB9; clear hb9 hB9))
            go_ret
            exact ⟨rfl, HBW.out _ _ _ _ HB9.out⟩
      · have k0 : (0 : Int) ≤ (k : Int) := Int.natCast_nonneg _
        have k1 : (k : Int) < (s.ce.length : Int) := by omega
        have HKL := Lib.hid hk
        rcases hcase with ⟨rfl, rfl, rfl, rfl⟩ | ⟨rfl, rfl, rfl, rfl⟩ | ⟨rfl, rfl, rfl, rfl⟩
        all_goals
          go_wp2
          go_quiet (fail)
          go_wp2_with (first
            | (go_at_call 14; refine (Hp.fields_any q0 _ (HB0.out.drewN _).is (HB0.out.drewN _).tb (by omega)).mono ?_; rintro e w5 ⟨rfl, hT⟩; obtain ⟨d5, hB5⟩ := (HB0.out.drewN _).heap hT; have HB5 := Lib.hid hB5; clear hT hB5)
            | (go_at_call 15; refine (fields_any q0 _ HB5.out.rp).mono ?_; rintro e w' ⟨rfl, rfl⟩)
            | (go_at_call 16; refine (Hp.load_any q0 q1 _ HB5.out.is HB5.out.tb (by omega)).mono ?_; rintro e w6 ⟨rfl, hT⟩; obtain ⟨d6, hB6⟩ := HB5.out.heap hT; have HB6 := Lib.hid hB6; clear hT hB6)
            | (go_at_call 17; refine (load_any q0 q1 _ HB6.out.rp).mono ?_; rintro e w' ⟨rfl, rfl⟩)
            | (go_at_call 18; refine (HC1.out _ _ _ HB6.out.is).mono ?_; rintro e w7 ⟨rfl, hb7⟩; have HB7 := Lib.hid (HB6.out.later hb7); clear hb7)
            | (go_at_call 19; refine (HC2.out _ _ HB7.out.rp).mono ?_; rintro e w' ⟨rfl, q8, rfl⟩)
            | (go_at_call 20; refine (HC3.out _ _ _ (HB7.out.drewN _).is).mono ?_; rintro e w' ⟨rfl, q9, rfl⟩)
            | (go_at_call 21; refine (HCE.out _ _ _ (HB7.out.drewN _).is).mono ?_; rintro e w9 ⟨rfl, hb9⟩; have hB9 := (HB7.out.drewN _).later hb9; have cE := hB9.rp.mem.cE; have ck := hB9.rp.mem.cells k HKL.out; have HB9 := Lib.hid hB9; clear hb9 hB9))
          go_ret
          exact ⟨rfl, HBW.out _ _ _ _ HB9.out⟩
end Go.Proofs.YtdldbmpkpjlmmaaGreatDoor.Rf
