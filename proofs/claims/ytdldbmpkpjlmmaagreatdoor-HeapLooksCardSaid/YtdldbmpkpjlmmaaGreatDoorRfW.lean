/-
  The law HeapParts answers true, for every config and row of deeds.
-/
import Derived.Test.YtdldbmpkpjlmmaaGreatDoorRq4
import Derived.Test.YtdldbmpkpjlmmaaGreatDoorHq3
namespace Go.Proofs.YtdldbmpkpjlmmaaGreatDoor.Rf
open Go.RowKit Go.Sort
open Blk (Cfg BoxIs little little_any little_right box7)
open Hp (St Wf st0 Mine)
open Go.Proofs.YtdldbmpkpjlmmaaGreatDoor.Row (Chg)
open Go.Proofs.YtdldbmpkpjlmmaaGreatDoor.Addr (Tabs)

theorem little_ce (c : Cfg) : ∃ nc : Nat, (little c).ce = (nc : Int) ∧ nc ≤ 3 := by
  have : (little c).ce = c.ce % 4 := rfl
  exact ⟨(little c).ce.toNat, by omega, by omega⟩
theorem little_n (c : Cfg) : ∃ n : Nat, (little c).b * (little c).wd = (n : Int) ∧ n ≤ 1048576 := by
  obtain ⟨p0, p1⟩ := (Blk.slots_bd (little_right c)).words
  exact ⟨((little c).b * (little c).wd).toNat, by omega, by omega⟩
/-- A row of deeds that came in. -/
def dAt (l : List (Nat × Int × Int × Int)) (j : Nat) : Nat × Int × Int × Int := l.getD j (0, 0, 0, 0)
def DeedsP (S : Nat) (w : World) (p : Option Addr) (l : List (Nat × Int × Int × Int)) : Prop := ∀ j, j < l.length → ∃ b off, p = some ⟨b, off, none⟩ ∧ b < S ∧
  w.cell? ⟨b, off + j * 4, none⟩ = some (.int .u8 (dAt l j).1) ∧ w.cell? ⟨b, off + j * 4 + 1, none⟩ = some (.int .i64 (dAt l j).2.1) ∧ w.cell? ⟨b, off + j * 4 + 2, none⟩ = some (.int .i64 (dAt l j).2.2.1) ∧ w.cell? ⟨b, off + j * 4 + 3, none⟩ = some (.int .i64 (dAt l j).2.2.2)
/-- Both are new. -/
theorem Bo.start {w3 w4 : World} {H M n nc : Nat} {dd : Hp.Ids} {i : Ri} {c : Cfg} (hI : Hp.Is w3 H dd (st0 c n nc) 0) (ht : Tabs w3) (hR : Rp w4 M w3.heap.size i (st0 c n nc)) (hb : Below w3.heap.size w3 w4) (hA : ∀ k, All M i k → w3.heap.size ≤ k) :
    Bo w4 H dd M w3.heap.size i w4 dd (st0 c n nc) 0 i (st0 c n nc) := by
  have hH := hI.hi H (.inr (.inl (.inl rfl)))
  have hHl := hI.ltH
  exact ⟨hI.later hb, hR, fun k e e2 => by have := hI.lt e; have := hA k e2; omega, ht.later hb, fun k e => by have := hA k e; omega, Chg.refl _ _, fun _ e => .inl e, fun _ e => .inl e⟩
theorem Bo.below {w w0 wr : World} {H M base m : Nat} {d0 d : Hp.Ids} {i0 i : Ri} {s r : St} (h : Bo w0 H d0 M base i0 wr d s m i r) (hb : Below w.heap.size w w0) (h1 : ∀ k, Mine H d0 k → w.heap.size ≤ k) (h2 : ∀ k, All M i0 k → w.heap.size ≤ k) : Below w.heap.size w wr :=
  hb.trans (h.chg.below (fun k e => e.elim (h1 k) (h2 k)) hb.size)
/-- While deeds are done. -/
structure Lo (w W0 wr : World) (H : Nat) (d0 : Hp.Ids) (M base : Nat) (i0 : Ri) (dc : Cfg) (n nc : Nat) (d : Hp.Ids) (s : St) (m : Nat) (i : Ri) : Prop where
  bo : Bo W0 H d0 M base i0 wr d s m i s
  hc : s.c = dc
  hn : s.ws.length = n
  hl : s.ce.length = nc
  bel : Below w.heap.size w wr
  g1 : ∀ k, Mine H d0 k → w.heap.size ≤ k
  g2 : ∀ k, All M i0 k → w.heap.size ≤ k
  b0 : Below w.heap.size w W0
theorem Lo.step {w W0 wr w' : World} {H M base n nc m : Nat} {d0 d : Hp.Ids} {i0 i : Ri} {dc : Cfg} {s : St} {e : Ending} (h : Lo w W0 wr H d0 M base i0 dc n nc d s m i) (hD : DoP wr H M base d i s m e w') :
    e = .returned (.bool true) ∧ ∃ d' s' i', Lo w W0 w' H d0 M base i0 dc n nc d' s' (m + 1000) i' := by
  obtain ⟨he, s', d', i', ⟨k1, k2, k3⟩, hB⟩ := hD
  have hB2 := h.bo.trans hB
  exact ⟨he, d', s', i', hB2, k1.trans h.hc, k3.trans h.hn, k2.trans h.hl, hB2.below h.b0 h.g1 h.g2, h.g1, h.g2, h.b0⟩
set_option maxRecDepth 100000 in
set_option maxHeartbeats 8000000 in
theorem parts_walk (c : Cfg) (pb : Option Addr) (cb : Nat) (zb : List (Nat × Int × Int × Int)) (w : World) (ht : Tabs w) (hb : DeedsP w.heap.size w pb zb) :
    Calls Tryz.prog 5 #[(.agg #[.int .i64 c.b, .int .i64 c.wd, .int .i64 c.m, .int .i64 c.r, .int .i64 c.ce, .int .i64 c.lg, .int .i64 c.st]), .slice pb zb.length cb] w fun e w' => e = .returned (.bool true) ∧ Below w.heap.size w w' := by
  have HT := Lib.hid ht
  have HB := Lib.hid hb
  have HR := Lib.hid (little_right c)
  obtain ⟨nc, hnc, hnc3⟩ := little_ce c
  obtain ⟨n, hn, hn2⟩ := little_n c
  have hd4 : (little c).b ≤ 4 := (Blk.little_b c).2
  clear ht hb
  go_enter Tryz.func5, Tryz.ntmps5
  go_wp2_with fail
  refine (little_any c _).mono ?_
  rintro e w1 ⟨rfl, hb⟩
  have HW := Lib.hid (fun W2 hW => box7 (d := little c) (W2 := W2) (by simpa using hb) hW)
  obtain ⟨hc1, hf1⟩ := bcell hb
  have hz1 : w.heap.size < w1.heap.size := by have := hb.size; simp at this; omega
  clear hb
  generalize hL : little c = d at *
  clear hL
  have HNC := Lib.hid hnc
  have HN := Lib.hid hn
  have HD4 := Lib.hid hd4
  clear hnc hn hd4
  by_cases hbig : 80 < zb.length
  · have h1 : (80 : Int) < (zb.length : Int) := by omega
    go_wp2_with fail
    generalize hW : World.setCell _ _ _ = W2
    obtain ⟨hbox, hb2⟩ := HW.out W2 hW
    refine (Hp.awake_any _ (HT.out.later hb2)).mono ?_
    rintro e w3 ⟨rfl, hb3⟩
    have HF := Lib.hid (hb2.trans (hb3.mono hb2.size))
    clear hW HW hc1 hf1 hz1 hb2 hbox hb3
    go_wp2
    go_ret
    exact ⟨rfl, HF.out⟩
  have h1 : (zb.length : Int) ≤ 80 := by omega
  have hd1 : decide ((80 : Int) < (zb.length : Int)) = false := by simpa using h1
  go_wp2_with fail
  generalize hW : World.setCell _ _ _ = W1
  obtain ⟨hbox, hb2⟩ := HW.out W1 hW
  clear hW HW hc1 hf1 hz1
  refine (Hp.awake_any _ (HT.out.later hb2)).mono ?_
  rintro e W2 ⟨rfl, hb3⟩
  have HB2 := Lib.hid (hb2.trans (hb3.mono hb2.size))
  have HX2 := Lib.hid (hbox.later hb3)
  have c0 := (hbox.later hb3).b0
  have c1 := (hbox.later hb3).b1
  have c2 := (hbox.later hb3).b2
  have c3 := (hbox.later hb3).b3
  have c4 := (hbox.later hb3).b4
  have c5 := (hbox.later hb3).b5
  have c6 := (hbox.later hb3).b6
  clear hb2 hb3 hbox
  go_wp2_with fail
  refine (Hp.new_good d n nc _ (HT.out.later HB2.out) HR.out HN.out HNC.out).mono ?_
  rintro e w3 ⟨H, dd, rfl, hI, hM, hb3⟩
  have HB3 := Lib.hid (HB2.out.trans (hb3.mono HB2.out.size))
  have HI3 := Lib.hid hI
  have HM3 := Lib.hid (fun k hk => Nat.le_trans HB2.out.size (hM k hk))
  have hX3 := HX2.out.later hb3
  have d0 := hX3.b0
  have d1 := hX3.b1
  have d2 := hX3.b2
  have d3 := hX3.b3
  have d4 := hX3.b4
  have d5 := hX3.b5
  have d6 := hX3.b6
  clear hI hM hb3 hX3 c0 c1 c2 c3 c4 c5 c6
  go_wp2_with fail
  refine (new_any d n nc _ HR.out HN.out HNC.out (by omega)).mono ?_
  rintro e w4 ⟨M, i, rfl, hMg, hRp, hb4, hA⟩
  have hBo := Bo.start HI3.out (HT.out.later HB3.out) hRp hb4 hA
  have HLO := Lib.hid (show Lo w w4 w4 H dd M w3.heap.size i d n nc dd (st0 d n nc) 0 i from ⟨hBo, rfl, by simp [st0], by simp [st0], HB3.out.trans (hb4.mono HB3.out.size), HM3.out, fun k e => Nat.le_trans HB3.out.size (hA k e), HB3.out.trans (hb4.mono HB3.out.size)⟩)
  clear hRp hb4 hA hBo hMg d0 d1 d2 d3 d4 d5 d6
  go_wp2_with fail
  go_loopw [8] (fun x wr => ∃ (j : Nat) (d' : Hp.Ids) (s : St) (i' : Ri), j ≤ zb.length ∧ x = .int .i64 (j : Int) ∧ Lo w w4 wr H dd M w3.heap.size i d n nc d' s (1000 * j) i') (fun x _ => zb.length - (intOf x).toNat)
  case atStart => exact ⟨0, dd, _, i, Nat.zero_le _, rfl, HLO.out⟩
  case round =>
    obtain ⟨j, d', s, i', hj, rfl, hLo⟩ := hrel
    have HL := Lib.hid hLo
    have j0 : (0 : Int) ≤ (j : Int) := Int.natCast_nonneg _
    by_cases hltj : j < zb.length
    · have j1 : (j : Int) < (zb.length : Int) := by omega
      obtain ⟨b, off, rfl, hbS, y0, y1, y2, y3⟩ := HB.out j hltj
      have e0 := (hLo.bel.cell (p := ⟨b, off + j * 4, none⟩) hbS).trans y0
      have e1 := (hLo.bel.cell (p := ⟨b, off + j * 4 + 1, none⟩) hbS).trans y1
      have e2 := (hLo.bel.cell (p := ⟨b, off + j * 4 + 2, none⟩) hbS).trans y2
      have e3 := (hLo.bel.cell (p := ⟨b, off + j * 4 + 3, none⟩) hbS).trans y3
      have HDO := Lib.hid (does_any (dAt zb j).1 (dAt zb j).2.1 (dAt zb j).2.2.1 (dAt zb j).2.2.2 wr hLo.bo.self (by omega))
      clear y0 y1 y2 y3 hLo HLO
      unfold deedV at HDO
      generalize dAt zb j = q at *
      obtain ⟨kd, qa, qb, qc⟩ := q
      go_wp2_with (go_at_call 12; refine HDO.out.mono ?_; rintro e w6 hD; obtain ⟨rfl, d6, s6, i6, hL6⟩ := HL.out.step hD; have HL6 := Lib.hid hL6; clear hD hL6)
      go_roundw
      case rel => exact ⟨j + 1, d6, s6, i6, by omega, by go_num, HL6.out⟩
      case measure => simp [intOf]; omega
    · have j1 : ¬ (j : Int) < (zb.length : Int) := by omega
      have HPT := Lib.hid (Hp.parted_any wr hLo.bo.is hLo.bo.tb (by omega) (by rw [hLo.hc]; exact HD4.out))
      clear hLo HLO
      go_wp2_with (go_at_call 22; refine HPT.out.mono ?_; rintro e w6 ⟨rfl, hb6⟩; have HB6 := Lib.hid (HL.out.bel.trans (hb6.mono HL.out.bel.size)); clear hb6)
      go_ret
      exact ⟨rfl, HB6.out⟩
end Go.Proofs.YtdldbmpkpjlmmaaGreatDoor.Rf
