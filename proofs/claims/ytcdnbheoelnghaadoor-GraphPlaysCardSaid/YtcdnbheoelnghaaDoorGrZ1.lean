/-
  A graph and the document's, side by side; GraphPlays.
-/
import Derived.Test.YtcdnbheoelnghaaDoorGrM7
import Derived.Deep.RegionHeld3
namespace Go.Proofs.YtcdnbheoelnghaaDoor.Gra
open Go.RowKit Go.Proofs.YtcdnbheoelnghaaDoor.Opr
open Go.Proofs.YtcdnbheoelnghaaDoor.Row (Chg rowB rowB_none Rd Rd0 cellsZ cellsZ_length cellsZ_at info_parts infoInt owns_lt owns_slice owns_chg owns_block owns_base same_any)

def Gz (w wr : World) (bx : List (List Value)) (c : C7) (G : Nat) (s : GSt) (M r nc B base : Nat) (s2 : GSt) (n : Nat) : Prop := ∃ P K pz cz zs pp cp L, Gb w wr bx c G P K s M r nc ∧ Rg wr B base c pz cz zs pp cp L ∧ Rel s2 zs L ∧ L.length ≤ n ∧ (∀ x, mine G P x → ¬ mineR B pz pp x) ∧ w.heap.size + bx.length ≤ base
section
variable {w wr w' : World} {bx : List (List Value)} {c : C7} {G B base n : Nat} {s s2 : GSt} {M r nc : Nat}
theorem Gz.later (h : Gz w wr bx c G s M r nc B base s2 n) (hb : Below wr.heap.size wr w') : Gz w w' bx c G s M r nc B base s2 n := by
  obtain ⟨P, K, pz, cz, zs, pp, cp, L, h1, h2, h3, h4, h5, h6⟩ := h
  exact ⟨P, K, pz, cz, zs, pp, cp, L, h1.later hb, h2.later hb, h3, h4, h5, h6⟩
theorem Gz.gx (h : Gz w wr bx c G s M r nc B base s2 n) : Gx w wr bx c G s M r nc := by
  obtain ⟨P, K, pz, cz, zs, pp, cp, L, h1, _⟩ := h
  exact ⟨P, K, h1⟩
end
theorem Gz.do {w wr : World} {bx : List (List Value)} {b wd lg st : Int} {G B base n : Nat} {s s2 : GSt} {M r nc : Nat} (h : Gz w wr bx ⟨b, wd, M, r, nc, lg, st⟩ G s M r nc B base s2 n) (hN : s.nO ≤ 1000000) (ht : FormTab w) (hl : LimTab w) (q : DQ) (V : World) (hV : Below wr.heap.size wr V) :
    Calls Tryd.prog 9 #[.pointer (some ⟨G, 0, none⟩), .int .i64 q.1, .agg #[.int .i64 q.2.1, .int .i64 q.2.2.1, .int .i64 q.2.2.2.1, .int .i64 q.2.2.2.2]] V fun e w' => e = .returned (.tuple #[.int .i64 (gV ⟨b, wd, M, r, nc, lg, st⟩ s q), .int .i64 (gE ⟨b, wd, M, r, nc, lg, st⟩ s q)]) ∧ Gz w w' bx ⟨b, wd, M, r, nc, lg, st⟩ G (gS ⟨b, wd, M, r, nc, lg, st⟩ s q) M r nc B base s2 n := by
  obtain ⟨P, K, pz, cz, zs, pp, cp, L, h1, h2, h3, h4, h5, h6⟩ := h.later hV
  refine (do_any h1.is h1.wf hN (ht.later h1.bel) (hl.later h1.bel) q.1 q.2.1 q.2.2.1 q.2.2.2.1 q.2.2.2.2).mono ?_
  rintro e w' ⟨rfl, P', K', k1, k2, k3⟩
  have hs := h1.bel.size
  refine ⟨rfl, P', K', pz, cz, zs, pp, cp, L, ⟨k1, (h1.wf.gdo b wd lg st _ _ _ _ _).1, h1.bel.trans (k2.below (fun k hk => by have := h1.mi k hk; omega) hs), fun x hx => ?_, fun i l hl j v hv => ?_, Nat.le_trans h1.bxs k2.size⟩, h2.chg k2 (fun x hx e => h5 x e hx), h3, h4, fun x hx e => ?_, h6⟩
  · rcases k3 x hx with e | e
    · exact h1.mi x e
    · have := h1.bxs; omega
  · have hc := h1.box i l hl j v hv
    have hi : i < bx.length := (List.getElem?_eq_some_iff.1 hl).1
    exact (k2.cell (p := ⟨w.heap.size + i, j, none⟩) (lt_of_cell hc) (fun e => by have : w.heap.size + bx.length ≤ w.heap.size + i := h1.mi _ e; omega)).trans hc
  · rcases k3 x hx with k | k
    · exact h5 x k e
    · have := (h2.ltM e).2; omega
theorem Gz.rdo {w wr : World} {bx : List (List Value)} {b wd lg st : Int} {G B base n : Nat} {s s2 : GSt} {M r nc : Nat} (h : Gz w wr bx ⟨b, wd, M, r, nc, lg, st⟩ G s M r nc B base s2 n) (wf2 : GWf M r nc s2) (hN : s2.nO ≤ 100000) (hn : n ≤ 100000) (q : DQ) (V : World) (hV : Below wr.heap.size wr V) :
    Calls Tryd.prog 10 #[.pointer (some ⟨B, 0, none⟩), .int .i64 q.1, .agg #[.int .i64 q.2.1, .int .i64 q.2.2.1, .int .i64 q.2.2.2.1, .int .i64 q.2.2.2.2]] V fun e w' => e = .returned (.tuple #[.int .i64 (gV ⟨b, wd, M, r, nc, lg, st⟩ s2 q), .int .i64 (gE ⟨b, wd, M, r, nc, lg, st⟩ s2 q)]) ∧ Gz w w' bx ⟨b, wd, M, r, nc, lg, st⟩ G s M r nc B base (gS ⟨b, wd, M, r, nc, lg, st⟩ s2 q) (n + 1) := by
  obtain ⟨P, K, pz, cz, zs, pp, cp, L, h1, h2, h3, h4, h5, h6⟩ := h.later hV
  refine (rdo_any h2 h3 wf2 (by omega) hN q.1 q.2.1 q.2.2.1 q.2.2.2.1 q.2.2.2.2).mono ?_
  rintro e w' ⟨rfl, pz', cz', zs', pp', cp', L', k1, k2, k3, k4, k5⟩
  refine ⟨rfl, P, K, pz', cz', zs', pp', cp', L', h1.other k4 (fun x hx => Nat.le_trans h6 (h2.ltM hx).1) (fun x hx e => h5 x hx e), k1, k2, by omega, fun x hx e => ?_, h6⟩
  rcases k5 x e with k | k
  · exact h5 x hx k
  · have := h1.is.ltM hx; omega
theorem Rg.fresh (c : C7) (W : World) (base : Nat) (hb : base ≤ W.heap.size) : Rg (W.alloc (.cells #[.int .i64 c.b, .int .i64 c.wd, .int .i64 c.m, .int .i64 c.r, .int .i64 c.ce, .int .i64 c.lg, .int .i64 c.st, .slice none 0 0, .slice none 0 0] 35)) W.heap.size base c none 0 [] none 0 [] where
  cf := fun j v hv => by
    have hC := CellsAt.new W #[.int .i64 c.b, .int .i64 c.wd, .int .i64 c.m, .int .i64 c.r, .int .i64 c.ce, .int .i64 c.lg, .int .i64 c.st, .slice none 0 0, .slice none 0 0] 35
    have hj : j < 7 := (List.getElem?_eq_some_iff.1 hv).1
    refine hC j v ?_
    rw [← hv]
    have h7 : j = 0 ∨ j = 1 ∨ j = 2 ∨ j = 3 ∨ j = 4 ∨ j = 5 ∨ j = 6 := by omega
    rcases h7 with rfl | rfl | rfl | rfl | rfl | rfl | rfl <;> rfl
  c7 := CellsAt.new W #[.int .i64 c.b, .int .i64 c.wd, .int .i64 c.m, .int .i64 c.r, .int .i64 c.ce, .int .i64 c.lg, .int .i64 c.st, .slice none 0 0, .slice none 0 0] 35 7 _ rfl
  c8 := CellsAt.new W #[.int .i64 c.b, .int .i64 c.wd, .int .i64 c.m, .int .i64 c.r, .int .i64 c.ce, .int .i64 c.lg, .int .i64 c.st, .slice none 0 0, .slice none 0 0] 35 8 _ rfl
  fz := fun j => by simp
  oz := ⟨rfl, .inl ⟨rfl, rfl⟩⟩
  ol := ⟨rfl, .inl ⟨rfl, rfl⟩⟩
  ap := fun x h => absurd h (rowB_none x)
  ag := ⟨rowB_none _, rowB_none _⟩
  ge := hb
theorem Gz.start {w W : World} {bx : List (List Value)} {c : C7} {G M r nc : Nat} (h : Gx w W bx c G (s0 nc r M) M r nc) : Gz w (W.alloc (.cells #[.int .i64 c.b, .int .i64 c.wd, .int .i64 c.m, .int .i64 c.r, .int .i64 c.ce, .int .i64 c.lg, .int .i64 c.st, .slice none 0 0, .slice none 0 0] 35)) bx c G (s0 nc r M) M r nc W.heap.size (w.heap.size + bx.length) (s0 nc r M) 0 := by
  obtain ⟨P, K, h1⟩ := h
  refine ⟨P, K, none, 0, [], none, 0, [], h1.later ((Below.refl _ _).alloc (Nat.le_refl _) _), Rg.fresh c W _ h1.bxs, Rel.start nc r M, Nat.le_refl _, fun x hx e => ?_, Nat.le_refl _⟩
  rcases e with e | e | e
  · have := h1.is.ltM hx; omega
  · exact absurd e (rowB_none x)
  · exact absurd e (rowB_none x)
set_option maxRecDepth 2000000 in
set_option maxHeartbeats 16000000 in
theorem plays_walk (c : C7) (pd : Option Addr) (cd : Nat) (ld : List DQ) (w : World) (ht : FormTab w) (hl : LimTab w) (hd : DeedsAt w pd ld) (hlen : ld.length ≤ maxLen) :
    Calls Tryd.prog 3 #[(.agg #[.int .i64 c.b, .int .i64 c.wd, .int .i64 c.m, .int .i64 c.r, .int .i64 c.ce, .int .i64 c.lg, .int .i64 c.st]), .slice pd ld.length cd] w fun e w' => e = .returned (.bool true) ∧ Below w.heap.size w w' := by
  unfold maxLen at hlen
  have HT := Lib.hid ht
  have HL := Lib.hid hl
  have HD := Lib.hid hd
  have HLEN := Lib.hid hlen
  have HR := Lib.hid (little_right c)
  obtain ⟨M, r, nc, hM, hr, hnc, hM1, hM4, hr1, hr5, hnc3⟩ := little_nat c
  have HNR := Lib.hid (And.intro hM (And.intro hr (And.intro hnc (And.intro hM4 (And.intro hr5 hnc3)))))
  clear ht hl hd hlen hM hr hnc hM1 hM4 hr1 hr5 hnc3
  go_enter Tryd.func3, Tryd.ntmps3
  go_wp2_with fail
  refine (little_any c _).mono ?_
  rintro e w1 ⟨rfl, hb⟩
  have hblk : w1.heap[w.heap.size]? = some (.cells #[.int .i64 c.b, .int .i64 c.wd, .int .i64 c.m, .int .i64 c.r, .int .i64 c.ce, .int .i64 c.lg, .int .i64 c.st] 23) := by
    rw [hb.block w.heap.size (by simp)]
    exact heap_alloc_new w _
  have HW := Lib.hid (fun W2 hW => box7 (d := little c) (W2 := W2) hblk hW)
  have HB1 : Hid (Below w.heap.size w w1) := Lib.hid (((Below.refl _ w).alloc (Nat.le_refl _) _).trans (hb.mono (by simp)))
  obtain ⟨hc1, hf1⟩ := bcell hb
  have hz1 : w.heap.size < w1.heap.size := by have := hb.size; simp at this; omega
  clear hb hblk
  generalize hL : little c = d at *
  clear hL
  by_cases hbig : 80 < ld.length
  · have h1 : (80 : Int) < (ld.length : Int) := by omega
    go_wp2_with fail
    generalize hW : World.setCell _ _ _ = W2
    obtain ⟨hbox, hoth, hsz, hbw⟩ := HW.out W2 hW
    have hb2 : Below w.heap.size w W2 := HB1.out.trans (hbw _ (Nat.le_refl _))
    refine (awake_any _ (HT.out.later hb2) (HL.out.later hb2)).mono ?_
    rintro e w3 ⟨rfl, hb3⟩
    have HF := Lib.hid (hb2.trans (hb3.mono hb2.size))
    clear hW HW hc1 hf1 hz1 hb2 hbox hb3 hoth hsz hbw
    go_wp2
    go_ret
    exact ⟨rfl, HF.out⟩
  have h1 : (ld.length : Int) ≤ 80 := by omega
  have hd1 : decide ((80 : Int) < (ld.length : Int)) = false := by simpa using h1
  go_wp2_with fail
  generalize hW : World.setCell _ _ _ = W1
  obtain ⟨hbox, hoth, hsz, hbw⟩ := HW.out W1 hW
  have hb2 : Below w.heap.size w W1 := HB1.out.trans (hbw _ (Nat.le_refl _))
  clear hW HW hc1 hf1 hoth hbw HB1
  rw [← hsz] at hz1
  refine (awake_any _ (HT.out.later hb2) (HL.out.later hb2)).mono ?_
  rintro e W2 ⟨rfl, hb3⟩
  have HB2 := Lib.hid (hb2.trans (hb3.mono hb2.size))
  have HX2 := Lib.hid (hbox.later hb3)
  have hz2 : w.heap.size < W2.heap.size := Nat.lt_of_lt_of_le hz1 hb3.size
  clear hb2 hb3 hbox hz1 hsz
  obtain ⟨b, wd, m, rr, ce, lg, st⟩ := d
  obtain ⟨rfl, rfl, rfl, hM4, hr5, hnc3⟩ := HNR.out
  have c0 := HX2.out 0 _ rfl
  have c1 := HX2.out 1 _ rfl
  have c2 := HX2.out 2 _ rfl
  have c3 := HX2.out 3 _ rfl
  have c4 := HX2.out 4 _ rfl
  have c5 := HX2.out 5 _ rfl
  have c6 := HX2.out 6 _ rfl
  simp only at c0 c1 c2 c3 c4 c5 c6
  have HNEW := Lib.hid (new_any b wd lg st M r nc HR.out (by omega) (by omega) (by omega) W2 (HL.out.later HB2.out))
  have HBD := Lib.hid (And.intro hM4 (And.intro hr5 hnc3))
  clear hM4 hr5 hnc3 HNR
  go_wp2_with fail
  refine HNEW.out.mono ?_
  rintro e W3 ⟨G, rfl, hP⟩
  have hG := Gx.start (bx := [cv ⟨b, wd, M, r, nc, lg, st⟩]) ⟨rfl, rfl, rfl⟩ HB2.out (fun i l hl => by
    match i, hl with
    | 0, hl => cases hl; exact HX2.out) hz2 hP
  have HG := Lib.hid hG
  clear hP hG HX2 HNEW hz2 c0 c1 c2 c3 c4 c5 c6
  generalize hbx : [cv ⟨b, wd, M, r, nc, lg, st⟩] = bx at *
  have HBX := Lib.hid hbx
  have HBXL : Hid (bx.length = 1) := Lib.hid (by rw [← hbx]; rfl)
  clear hbx
  obtain ⟨W4, hW4⟩ : ∃ W4, W3.alloc (.cells #[.int .i64 b, .int .i64 wd, .int .i64 M, .int .i64 r, .int .i64 nc, .int .i64 lg, .int .i64 st, .slice none 0 0, .slice none 0 0] 35) = W4 := ⟨_, rfl⟩
  have HZ : Hid (Gz w W4 bx ⟨b, wd, M, r, nc, lg, st⟩ G (s0 nc r M) M r nc W3.heap.size (w.heap.size + bx.length) (s0 nc r M) 0) := Lib.hid (by rw [← hW4]; exact Gz.start HG.out)
  have hcf : CellsAt W3 w.heap.size (cv ⟨b, wd, M, r, nc, lg, st⟩) := HG.out.box 0 (cv ⟨b, wd, M, r, nc, lg, st⟩) (by rw [← HBX.out]; rfl)
  have c0 := hcf 0 _ rfl
  have c1 := hcf 1 _ rfl
  have c2 := hcf 2 _ rfl
  have c3 := hcf 3 _ rfl
  have c4 := hcf 4 _ rfl
  have c5 := hcf 5 _ rfl
  have c6 := hcf 6 _ rfl
  simp only at c0 c1 c2 c3 c4 c5 c6
  have hlt3 : w.heap.size < W3.heap.size := lt_of_cell c0
  go_wp2_with fail
  clear hcf c0 c1 c2 c3 c4 c5 c6 hlt3 hW4 HG
  generalize W3.heap.size = GB at *
  go_loopw [8] (fun i wr => ∃ j : Nat, j ≤ ld.length ∧ i = .int .i64 j ∧ Gz w wr bx ⟨b, wd, M, r, nc, lg, st⟩ G (sAt ⟨b, wd, M, r, nc, lg, st⟩ (s0 nc r M) ld j) M r nc GB (w.heap.size + bx.length) (sAt ⟨b, wd, M, r, nc, lg, st⟩ (s0 nc r M) ld j) j) (fun i _ => ld.length - (intOf i).toNat)
  case atStart => exact ⟨0, Nat.zero_le _, rfl, HZ.out⟩
  case round =>
    clear HZ
    obtain ⟨j, hj, rfl, hgz⟩ := hrel
    have HX := Lib.hid hgz
    clear hgz
    have j0 : (0 : Int) ≤ (j : Int) := by omega
    have HNO := Lib.hid (sAt_wf (b := b) (wd := wd) (lg := lg) (st := st) (M := M) (r := r) (nc := nc) ld j)
    by_cases hlt : j < ld.length
    · have j1 : (j : Int) < (ld.length : Int) := by omega
      have HS : Hid (gS ⟨b, wd, M, r, nc, lg, st⟩ (sAt ⟨b, wd, M, r, nc, lg, st⟩ (s0 nc r M) ld j) (dq ld j) = sAt ⟨b, wd, M, r, nc, lg, st⟩ (s0 nc r M) ld (j + 1)) := Lib.hid rfl
      have HN80 : Hid ((sAt ⟨b, wd, M, r, nc, lg, st⟩ (s0 nc r M) ld j).nO ≤ 80) := Lib.hid (by have := HNO.out.2; omega)
      generalize hs1 : sAt ⟨b, wd, M, r, nc, lg, st⟩ (s0 nc r M) ld (j + 1) = s1 at HS
      have HS1 := Lib.hid hs1
      generalize sAt ⟨b, wd, M, r, nc, lg, st⟩ (s0 nc r M) ld j = s at *
      obtain ⟨B, off, rfl, e0, e1, e2, e3, e4⟩ := (HD.out.later HX.out.gx.bel) j hlt
      have HDS : Hid (∀ V, Below w.heap.size w V → V.cell? ⟨B, off + j * 5, none⟩ = some (.int .i64 (dq ld j).1) ∧ V.cell? ⟨B, off + j * 5 + 1, none⟩ = some (.int .i64 (dq ld j).2.1) ∧
          V.cell? ⟨B, off + j * 5 + 2, none⟩ = some (.int .i64 (dq ld j).2.2.1) ∧ V.cell? ⟨B, off + j * 5 + 3, none⟩ = some (.int .i64 (dq ld j).2.2.2.1) ∧ V.cell? ⟨B, off + j * 5 + 4, none⟩ = some (.int .i64 (dq ld j).2.2.2.2)) := Lib.hid fun V hV => by
        obtain ⟨B', off', e, k0, k1, k2, k3, k4⟩ := (HD.out.later hV) j hlt
        cases e
        exact ⟨k0, k1, k2, k3, k4⟩
      have HDO := Lib.hid (fun V hV => Gz.do HX.out (by have := HN80.out; omega) HT.out HL.out (dq ld j) V hV)
      have HDR := Lib.hid (fun (w1 : World) (h : Gz w w1 bx ⟨b, wd, M, r, nc, lg, st⟩ G s1 M r nc GB (w.heap.size + bx.length) s j) V hV => Gz.rdo h HNO.out.1 (by have := HN80.out; omega) (by omega) (dq ld j) V hV)
      have HB50 := Lib.hid HX.out.gx.bel
      have HB51 := Lib.hid HX.out.gx.bel.drew
      have HR0 : Hid (Below wr.heap.size wr wr) := Lib.hid (Below.refl _ _)
      have HR1 : Hid (Below wr.heap.size wr wr.drew) := Lib.hid (Below.refl _ _).drew
      rw [HS.out] at HDO HDR
      generalize gV ⟨b, wd, M, r, nc, lg, st⟩ s (dq ld j) = v1 at HDO HDR
      generalize gE ⟨b, wd, M, r, nc, lg, st⟩ s (dq ld j) = v2 at HDO HDR
      clear HS hs1 HNO HX HD
      generalize dq ld j = q at *
      obtain ⟨q0, qk, qa, qb, qc⟩ := q
      simp only at e0 e1 e2 e3 e4 HDO HDS HDR
      go_wp2_with fail
      go_region_held3 (fun U => U.cell? ⟨B, off + j * 5, none⟩ = some (.int .i64 q0) ∧ U.cell? ⟨B, off + j * 5 + 1, none⟩ = some (.int .i64 qk) ∧ U.cell? ⟨B, off + j * 5 + 2, none⟩ = some (.int .i64 qa) ∧ U.cell? ⟨B, off + j * 5 + 3, none⟩ = some (.int .i64 qb) ∧ U.cell? ⟨B, off + j * 5 + 4, none⟩ = some (.int .i64 qc))
        (first | exact HDS.out _ HB50.out | exact HDS.out _ HB51.out | exact HDS.out _ HBT.out.gx.bel)
        ((go_at_call 9; refine (HDO.out _ (by first | exact HR0.out | exact HR1.out)).mono ?_; rintro e W6 ⟨rfl, hbt⟩; have HBT := Lib.hid hbt; clear hbt))
      rename_i hdrop
      clear hdrop e0 e1 e2 e3 e4 HDO HB50 HB51 HR0 HR1
      obtain ⟨e0, e1, e2, e3, e4⟩ := HDS.out W6 HBT.out.gx.bel
      have HDO := Lib.hid (HDR.out W6 HBT.out)
      have HB50 := Lib.hid HBT.out.gx.bel
      have HB51 := Lib.hid HBT.out.gx.bel.drew
      have HR0 : Hid (Below W6.heap.size W6 W6) := Lib.hid (Below.refl _ _)
      have HR1 : Hid (Below W6.heap.size W6 W6.drew) := Lib.hid (Below.refl _ _).drew
      clear HBT HDR
      go_wp2_with fail
      go_region_held3 (fun U => U.cell? ⟨B, off + j * 5, none⟩ = some (.int .i64 q0) ∧ U.cell? ⟨B, off + j * 5 + 1, none⟩ = some (.int .i64 qk) ∧ U.cell? ⟨B, off + j * 5 + 2, none⟩ = some (.int .i64 qa) ∧ U.cell? ⟨B, off + j * 5 + 3, none⟩ = some (.int .i64 qb) ∧ U.cell? ⟨B, off + j * 5 + 4, none⟩ = some (.int .i64 qc))
        (first | exact HDS.out _ HB50.out | exact HDS.out _ HB51.out | exact HDS.out _ HBT.out.gx.bel)
        ((go_at_call 10; refine (HDO.out _ (by first | exact HR0.out | exact HR1.out)).mono ?_; rintro e W7 ⟨rfl, hbt⟩; have HBT := Lib.hid hbt; clear hbt))
      rename_i hdrop
      clear hdrop e0 e1 e2 e3 e4 HDO HB50 HB51 HR0 HR1 HDS
      have n1 : (v1 != v1) = false := by simp
      have n2 : (v2 != v2) = false := by simp
      go_wp2_with fail
      go_roundw
      case rel => exact ⟨j + 1, by omega, by go_num, by rw [HS1.out]; exact HBT.out⟩
      case measure => simp [intOf]; omega
    · obtain rfl : j = ld.length := by omega
      have hn80 : (sAt ⟨b, wd, M, r, nc, lg, st⟩ (s0 nc r M) ld ld.length).nO ≤ 80 := by have := HNO.out.2; omega
      have hwf := HNO.out.1
      generalize sAt ⟨b, wd, M, r, nc, lg, st⟩ (s0 nc r M) ld ld.length = s at *
      obtain ⟨P, K, pz, cz, zs, pp, cp, L, h1, h2, h3, h4, h5, h6⟩ := HX.out
      have HGB := Lib.hid h1
      have HRG := Lib.hid h2
      have HREL := Lib.hid h3
      have HWF := Lib.hid hwf
      have HN80 := Lib.hid hn80
      have HLL : Hid (L.length ≤ 100000) := Lib.hid (by omega)
      have hgx : Gx w wr bx ⟨b, wd, M, r, nc, lg, st⟩ G s M r nc := ⟨P, K, h1⟩
      have HGX := Lib.hid hgx
      have hzl := h3.size
      have HZL := Lib.hid hzl
      have HK : Hid (∀ U, Below wr.heap.size wr U → U.cell? ⟨GB, 7, none⟩ = some (.slice pz s.nO cz)) := Lib.hid fun U hU => by have := (h2.later hU).c7; rw [hzl] at this; exact this
      have HCN := Lib.hid (fun V hV => Gx.count hgx V hV)
      have HRT := Lib.hid (fun V (hV : Below wr.heap.size wr V) => roots_any (h1.later hV).is hwf HBD.out.1 HBD.out.2.1 HBD.out.2.2)
      have HRQ : Hid (∀ V, Below wr.heap.size wr V → Calls Tryd.prog 14 #[.pointer (some ⟨GB, 0, none⟩)] V (NewR V (rtL s))) := Lib.hid fun V hV => by
        have := rroots_any (h2.later hV) HLL.out (by omega)
        rw [rel_roots h3 hwf] at this
        exact this
      have HRC := Lib.hid (fun V hV => Gx.reach hgx HBD.out.1 HBD.out.2.1 HBD.out.2.2 (by omega) V hV)
      have HRE := Lib.hid (fun V (hV : Below wr.heap.size wr V) => rreach_any (h2.later hV) h3 hwf HBD.out.1 HBD.out.2.1 HBD.out.2.2 HLL.out (by omega))
      have HR23 := Lib.hid (rtL_len hwf HBD.out.1 HBD.out.2.1 HBD.out.2.2)
      have HQ81 : Hid ((rcS s).length ≤ 81) := Lib.hid (Nat.le_trans (rcS_len s) (by omega))
      have hlB : GB < wr.heap.size := (h2.ltM (.inl rfl)).2
      have HD0 : Hid (Below wr.heap.size wr wr) := Lib.hid (Below.refl _ _)
      have HD1 : Hid (Below wr.heap.size wr wr.drew) := Lib.hid (Below.refl _ _).drew
      have n0 : (0 : Int) ≤ (s.nO : Int) := Int.natCast_nonneg _
      have n80 : (s.nO : Int) ≤ 80 := by omega
      have hne : ((s.nO : Int) != (s.nO : Int)) = false := by simp
      clear h1 h2 h3 h4 h5 h6 hgx hn80 hwf hzl HX HNO HR HD
      generalize rtL s = R at *
      generalize rcS s = Q at *
      go_wp2_with fail
      go_region_held3 (fun U => U.cell? ⟨GB, 7, none⟩ = some (.slice pz s.nO cz))
        (first | exact HK.out _ HD0.out | exact HK.out _ HD1.out | exact HK.out _ HB11.out | exact HK.out _ HB10.out | exact HK.out _ HB9.out | exact HK.out _ HB8.out | exact HK.out _ HB7.out | exact HK.out _ HB6.out)
        (first
          | (go_at_call 11; refine (HCN.out _ (by first | exact HD0.out | exact HD1.out)).mono ?_; rintro e w9 ⟨rfl, hw9⟩; subst hw9)
          | (have hq := HR10.out; clear hq; go_at_call 12; refine (same_any p9 p10 c9 c10 Q _ (HR9.out.later HL10.out) HR10.out (by have := HQ81.out; omega)).mono ?_; rintro e w11 ⟨rfl, n11, hw11⟩; have HB11 : Hid (Below wr.heap.size wr w11) := Lib.hid (by rw [hw11]; exact below_drewN HB10.out n11); clear hw11)
          | (go_at_call 12; refine (same_any p6 p7 c6 c7 R _ (HR6.out.later HL7.out) HR7.out (by have := HR23.out; omega)).mono ?_; rintro e w8 ⟨rfl, n8, hw8⟩; have HB8 : Hid (Below wr.heap.size wr w8) := Lib.hid (by rw [hw8]; exact below_drewN HB7.out n8); clear hw8)
          | (go_at_call 13; refine (HRT.out _ (by first | exact HD0.out | exact HD1.out)).mono ?_; rintro e w6 ⟨p6, c6, rfl, ho6, hb6⟩; have HR6 := Lib.hid (Rd.of_owns ho6); have HB6 : Hid (Below wr.heap.size wr w6) := Lib.hid (by first | exact HD1.out.trans hb6 | exact hb6); clear ho6 hb6)
          | (go_at_call 14; refine (HRQ.out _ HB6.out).mono ?_; rintro e w7 ⟨p7, c7, rfl, ho7, hb7⟩; have HR7 := Lib.hid (Rd.of_owns ho7); have HL7 := Lib.hid hb7; have HB7 : Hid (Below wr.heap.size wr w7) := Lib.hid (HB6.out.trans (hb7.mono HB6.out.size)); clear ho7 hb7)
          | (go_at_call 15; refine (HRC.out _ HB8.out).mono ?_; rintro e w9 ⟨p9, c9, rfl, ho9, hb9⟩; have HR9 := Lib.hid (Rd.of_owns ho9); have HB9 : Hid (Below wr.heap.size wr w9) := Lib.hid (HB8.out.trans (hb9.mono HB8.out.size)); clear ho9 hb9)
          | (go_at_call 16; refine (HRE.out _ HB9.out).mono ?_; rintro e w10 ⟨p10, c10, rfl, ho10, hb10⟩; have HR10 := Lib.hid (Rd.of_owns ho10); have HL10 := Lib.hid hb10; have HB10 : Hid (Below wr.heap.size wr w10) := Lib.hid (HB9.out.trans (hb10.mono HB9.out.size)); clear ho10 hb10))
      rename_i hdrop
      clear hdrop
      go_wp2_with fail
      have hgx := HGX.out.later HB11.out
      have hrg := HRG.out.later HB11.out
      have HREG := Lib.hid (Gx.reg hgx w11 (Below.refl _ _))
      have HCEL := Lib.hid (Gx.cell hgx w11 (Below.refl _ _))
      have HFD := Lib.hid (fun V hV => Gx.fields hgx (by have := HN80.out; omega) V hV)
      have HAT := Lib.hid (fun V (hV : Below w11.heap.size w11 V) => at_any (hrg.later hV) HLL.out)
      have HA1 := Lib.hid HREL.out.a1
      have HA2 := Lib.hid HREL.out.a2
      have HA3 := Lib.hid HREL.out.a3
      have HBW := Lib.hid hgx.bel
      have hcf : CellsAt w11 w.heap.size (cv ⟨b, wd, M, r, nc, lg, st⟩) := hgx.box 0 (cv ⟨b, wd, M, r, nc, lg, st⟩) (by rw [← HBX.out]; rfl)
      have HCF := Lib.hid hcf
      have HSZA := Lib.hid (fun (i : Nat) (hi : i < s.nO) => HREL.out.size_at hi)
      have HFL := Lib.hid (fdI_len HWF.out)
      have HOZ : Hid (∀ V, Below w11.heap.size w11 V → V.cell? ⟨GB, 7, none⟩ = some (.slice pz s.nO cz) ∧ GB < V.heap.size ∧ ∀ i, i < s.nO → ∃ g, pz = some ⟨g, 0, none⟩ ∧ V.cell? ⟨g, i, none⟩ = some (.int .i64 ((s.E (3 + 2 * i)).length : Int))) := Lib.hid fun V hV => by
        have hr := hrg.later hV
        refine ⟨by have := hr.c7; rw [HZL.out] at this; exact this, (hr.ltM (.inl rfl)).2, fun i hi => ?_⟩
        have ho := hr.oz
        have hiz : i < zs.length := by rw [HZL.out]; exact hi
        obtain ⟨g, hg⟩ := owns_form ho (by omega)
        rw [hg] at ho
        have hc := Row.owns_cell ho i _ (cellsZ_at zs hiz)
        rw [HSZA.out i hi] at hc
        exact ⟨g, hg, hc⟩
      have c2 := hcf 2 _ rfl
      have c3 := hcf 3 _ rfl
      have c4 := hcf 4 _ rfl
      simp only at c2 c3 c4
      have hlw : w.heap.size < w11.heap.size := lt_of_cell c2
      clear hgx hrg hcf HK HCN HRT HRQ HRC HRE HR6 HR7 HR9 HR10 HL7 HL10 HB6 HB7 HB8 HB9 HB10 HD0 HD1 hne HB11 HGB HRG HGX
      have m4 : (M : Int) ≤ 4 := by have := HBD.out.1; omega
      have r5 : (r : Int) ≤ 5 := by have := HBD.out.2.1; omega
      have c3' : (nc : Int) ≤ 3 := by have := HBD.out.2.2; omega
      go_loopw [13] (fun i wx => ∃ a : Nat, a ≤ M + 2 ∧ i = .int .i64 ((a : Int) - 1) ∧ wx = w11) (fun i _ => M + 2 - (intOf i + 1).toNat)
      case atStart => exact ⟨0, Nat.zero_le _, rfl, rfl⟩
      case round =>
        obtain ⟨a, ha, rfl, rfl⟩ := hrel
        have a0 : (0 : Int) ≤ (a : Int) := by omega
        by_cases hla : a < M + 2
        · have g1 : decide ((a : Int) - 1 ≤ (M : Int)) = true := decide_eq_true (by omega)
          go_wp2_with fail
          go_loopw [14] (fun i wx => ∃ k : Nat, k ≤ r + 2 ∧ i = .int .i64 ((k : Int) - 1) ∧ wx = wr) (fun i _ => r + 2 - (intOf i + 1).toNat)
          case atStart => exact ⟨0, Nat.zero_le _, rfl, rfl⟩
          case round =>
            obtain ⟨k, hk, rfl, rfl⟩ := hrel
            have k0 : (0 : Int) ≤ (k : Int) := by omega
            by_cases hlk : k < r + 2
            · have g2 : decide ((k : Int) - 1 ≤ (r : Int)) = true := decide_eq_true (by omega)
              have HRA := Lib.hid (HREG.out ((a : Int) - 1) ((k : Int) - 1))
              have HRB := Lib.hid (HAT.out _ (Below.refl _ _) 1 ((a : Int) - 1) ((k : Int) - 1))
              rw [HA1.out] at HRB
              generalize rgI s ((a : Int) - 1) ((k : Int) - 1) = rv at HRA HRB
              have hne : (rv != rv) = false := by simp
              go_wp2_with (go_at_call 17; fail)
              refine HRA.out.mono ?_
              rintro e w9 ⟨rfl, hw9⟩
              subst hw9
              go_wp2_with (go_at_call 18; fail)
              refine HRB.out.mono ?_
              rintro e w9 ⟨rfl, hw9⟩
              subst hw9
              go_wp2_with fail
              go_roundw
              case rel => exact ⟨k + 1, by omega, by go_num, trivial⟩
              case measure => simp [intOf]; omega
            · have g2 : decide ((k : Int) - 1 ≤ (r : Int)) = false := decide_eq_false (by omega)
              go_wp2_with fail
              go_roundw
              case rel => exact ⟨a + 1, by omega, by go_num, trivial⟩
              case measure => simp [intOf]; omega
        · have g1 : decide ((a : Int) - 1 ≤ (M : Int)) = false := decide_eq_false (by omega)
          go_wp2_with fail
          go_loopw [15] (fun i wx => ∃ a : Nat, a ≤ nc + 2 ∧ i = .int .i64 ((a : Int) - 1) ∧ wx = wr) (fun i _ => nc + 2 - (intOf i + 1).toNat)
          case atStart => exact ⟨0, Nat.zero_le _, rfl, rfl⟩
          case round =>
            clear a0 g1
            obtain ⟨k, hk, rfl, rfl⟩ := hrel
            have k0 : (0 : Int) ≤ (k : Int) := by omega
            by_cases hlk : k < nc + 2
            · have g2 : decide ((k : Int) - 1 ≤ (nc : Int)) = true := decide_eq_true (by omega)
              have HRA := Lib.hid (HCEL.out ((k : Int) - 1))
              have HRB := Lib.hid (HAT.out _ (Below.refl _ _) 2 0 ((k : Int) - 1))
              rw [HA2.out] at HRB
              generalize atI (s.E 2) ((k : Int) - 1) = rv at HRA HRB
              have hne : (rv != rv) = false := by simp
              go_wp2_with (go_at_call 19; fail)
              refine HRA.out.mono ?_
              rintro e w9 ⟨rfl, hw9⟩
              subst hw9
              go_wp2_with (go_at_call 18; fail)
              refine HRB.out.mono ?_
              rintro e w9 ⟨rfl, hw9⟩
              subst hw9
              go_wp2_with fail
              go_roundw
              case rel => exact ⟨k + 1, by omega, by go_num, trivial⟩
              case measure => simp [intOf]; omega
            · have g2 : decide ((k : Int) - 1 ≤ (nc : Int)) = false := decide_eq_false (by omega)
              go_wp2_with fail
              go_loopw [16] (fun i wx => ∃ a : Nat, a ≤ s.nO ∧ i = .int .i64 ((a : Int) + 1) ∧ Below wr.heap.size wr wx) (fun i _ => s.nO + 1 - (intOf i).toNat)
              case atStart => exact ⟨0, Nat.zero_le _, rfl, Below.refl _ _⟩
              case round =>
                clear k0 g2 c2 c3 c4 hlw
                obtain ⟨wz, rfl⟩ : ∃ wz, wz = wr := ⟨_, rfl⟩
                obtain ⟨a, ha, rfl, hbz⟩ := hrel
                have HBZ := Lib.hid hbz
                obtain ⟨z7, hlz, hzz⟩ := HOZ.out wz hbz
                have HZZ := Lib.hid hzz
                clear hbz hzz
                have a0 : (0 : Int) ≤ (a : Int) := by omega
                by_cases hlt : a < s.nO
                · have g1 : decide ((a : Int) + 1 ≤ (s.nO : Int)) = true := decide_eq_true (by omega)
                  have HFA := Lib.hid (HFD.out wz HBZ.out ((a : Int) + 1))
                  have HFE : Hid (fdI s ((a : Int) + 1) = s.E (3 + 2 * a)) := Lib.hid (by unfold fdI; rw [if_pos (by omega), show 3 + 2 * ((a : Int) + 1 - 1).toNat = 3 + 2 * a by omega])
                  have HFN := Lib.hid (HFL.out ((a : Int) + 1))
                  have HA3X := Lib.hid (HA3.out ((a : Int) + 1))
                  rw [HFE.out] at HFA HFN HA3X
                  have HZA : Hid (∀ V, Below wr.heap.size wr V → ∃ g, pz = some ⟨g, 0, none⟩ ∧ V.cell? ⟨g, a, none⟩ = some (.int .i64 ((s.E (3 + 2 * a)).length : Int))) := Lib.hid fun V hV => (HOZ.out V hV).2.2 a hlt
                  generalize s.E (3 + 2 * a) = fl at *
                  have f15 : (fl.length : Int) ≤ 15 := by have := HFN.out; omega
                  go_wp2_with (go_at_call 20; fail)
                  refine HFA.out.mono ?_
                  rintro e w5 ⟨p5, c5, rfl, ho5, hb5⟩
                  have HB5 := Lib.hid (HBZ.out.trans (hb5.mono HBZ.out.size))
                  have HR5 := Lib.hid (Rd.of_owns ho5)
                  clear ho5 hb5 HFA z7 hlz HZZ
                  obtain ⟨z7, hlz, _⟩ := HOZ.out w5 HB5.out
                  obtain ⟨zg, hzg, zc⟩ := HZA.out w5 HB5.out
                  have hs1 : ((a : Int) + 1 - 1) = (a : Int) := by omega
                  have hne : ((fl.length : Int) != (fl.length : Int)) = false := by simp
                  subst hzg
                  go_wp2_with fail
                  clear z7 hlz zc hs1 hne
                  go_loopw [18] (fun i wx => ∃ k : Nat, k ≤ fl.length ∧ i = .int .i64 (k : Int) ∧ Below w5.heap.size w5 wx) (fun i _ => fl.length - (intOf i).toNat)
                  case atStart => exact ⟨0, Nat.zero_le _, rfl, Below.refl _ _⟩
                  case round =>
                    obtain ⟨k, hk, rfl, hbk⟩ := hrel
                    have k0 : (0 : Int) ≤ (k : Int) := by omega
                    have HBK := Lib.hid hbk
                    have HBR := Lib.hid (HB5.out.trans (hbk.mono HB5.out.size))
                    clear hbk
                    by_cases hlk : k < fl.length
                    · have k1 : (k : Int) < (fl.length : Int) := by omega
                      obtain ⟨g5, o5, hg5, hc5⟩ := (HR5.out.later HBK.out).at hlk
                      have HAV := Lib.hid (fun V hV => HAT.out V hV 3 ((a : Int) + 1) (k : Int))
                      have hav : atL L 3 ((a : Int) + 1) (k : Int) = fl.getD k 0 := by
                        rw [HA3X.out]
                        unfold atI
                        rw [if_pos ⟨by omega, by omega⟩, Int.toNat_natCast]
                      rw [hav] at HAV
                      generalize fl.getD k 0 = v at *
                      have hne : (v != v) = false := by simp
                      have HBN := Lib.hid (fun n => below_drewN HBR.out n)
                      have HBK2 := Lib.hid (fun n => below_drewN HBK.out n)
                      subst hg5
                      clear hav
                      go_wp2_with fail
                      go_quiet ((go_at_call 18; exact Calls.quiet_of_same (HAV.out _ (by first | exact HBN.out _ | exact HBR.out))))
                      go_wp2_with fail
                      go_roundw
                      case rel => exact ⟨k + 1, by omega, by go_num, HBK2.out _⟩
                      case measure => simp [intOf]; omega
                    · obtain rfl : k = fl.length := by omega
                      go_wp2_with fail
                      go_roundw
                      case rel => exact ⟨a + 1, by omega, by go_num, HBR.out⟩
                      case measure => simp [intOf]; omega
                · obtain rfl : a = s.nO := by omega
                  have g1 : decide ((s.nO : Int) + 1 ≤ (s.nO : Int)) = false := decide_eq_false (by omega)
                  have HF0 : Hid (∀ V, Below wr.heap.size wr V → Calls Tryd.prog 20 #[.pointer (some ⟨G, 0, none⟩), .int .i64 0] V (NewR V [])) := Lib.hid fun V hV => by
                    have := HFD.out V hV 0
                    have e : fdI s 0 = [] := by unfold fdI; rw [if_neg (by omega)]
                    rw [e] at this
                    exact this
                  have HF1 : Hid (∀ V, Below wr.heap.size wr V → Calls Tryd.prog 20 #[.pointer (some ⟨G, 0, none⟩), .int .i64 ((s.nO : Int) + 1)] V (NewR V [])) := Lib.hid fun V hV => by
                    have := HFD.out V hV ((s.nO : Int) + 1)
                    have e : fdI s ((s.nO : Int) + 1) = [] := by unfold fdI; rw [if_neg (by omega)]
                    rw [e] at this
                    exact this
                  go_wp2_with (go_at_call 20; fail)
                  refine (HF0.out _ HBZ.out).mono ?_
                  rintro e w5 ⟨p5, c5, rfl, ho5, hb5⟩
                  have HB5 := Lib.hid (HBZ.out.trans (hb5.mono HBZ.out.size))
                  clear ho5 hb5 z7 hlz HZZ
                  obtain ⟨z7, hlz, _⟩ := HOZ.out w5 HB5.out
                  rw [List.length_nil]
                  go_wp2_with (go_at_call 20; fail)
                  refine (HF1.out _ HB5.out).mono ?_
                  rintro e w6 ⟨p6, c6, rfl, ho6, hb6⟩
                  have HB6 := Lib.hid (HBW.out.trans ((HB5.out.trans (hb6.mono HB5.out.size)).mono HBW.out.size))
                  clear ho6 hb6
                  rw [List.length_nil]
                  go_wp2_with fail
                  go_ret
                  exact ⟨rfl, HB6.out⟩
end Go.Proofs.YtcdnbheoelnghaaDoor.Gra
