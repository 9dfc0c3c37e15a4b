/-
  What an object's fields have: fields; the iterator Edges, which opens by it; look; an empty set.
-/
import Derived.Test.YtpcgmkchflmcmaaGreatDoorTrA
import Derived.Test.YtpcgmkchflmcmaaGreatDoorTrB
import Derived.Test.YtpcgmkchflmcmaaGreatDoorSwm
namespace Go.Proofs.YtpcgmkchflmcmaaGreatDoor.Tr
open Go.RowKit Go.Shelf
open Class (below_drewN)
open Blk (Cfg allP)
open Hp (isO_any fields_any load_any Ids St Wf Is To Mine bn bnI bnI_nat fN fE lE lV objL not_mine make_ints zeroInts zeroInts_at two_new)
open Go.Proofs.YtpcgmkchflmcmaaGreatDoor.Row (Chg Rd Rd0 rowB cell_of_block frozen_of_block other same cellsZ cellsZ_length cellsZ_at)
open Go.Proofs.YtpcgmkchflmcmaaGreatDoor.Addr (Tabs)
attribute [local go_sem] Oper.semAt_some

section
variable {w w1 w2 w' : World} {H : Nat} {d d1 d2 d' : Ids} {s s1 s2 s' : St} {m m1 m2 m' : Nat}
/-- A heap that was d's is d1's now: only its own blocks turned. -/
structure Tn (w : World) (H : Nat) (d : Ids) (w1 : World) (d1 : Ids) (s1 : St) (m1 : Nat) : Prop where
  is : Is w1 H d1 s1 m1
  chg : Chg (Mine H d) w w1
  grow : ∀ j, Mine H d1 j → Mine H d j ∨ w.heap.size ≤ j
theorem Tn.refl (h : Is w H d s m) : Tn w H d w d s m := ⟨h, Chg.refl _ _, fun _ e => .inl e⟩
theorem Tn.to (h : Tn w H d w1 d1 s1 m1) (k : To w1 w2 H d1 s2 m2) : ∃ d2, Tn w H d w2 d2 s2 m2 := by
  obtain ⟨d2, h3, h4, h5⟩ := k
  have hs := h.chg.size
  exact ⟨d2, h3, h.chg.trans h4 h.grow, fun j hj => (h5 j hj).elim (h.grow j) (fun e => .inr (by omega))⟩
theorem Tn.trans (h : Tn w H d w1 d1 s1 m1) (k : Tn w1 H d1 w2 d2 s2 m2) : Tn w H d w2 d2 s2 m2 := by
  have hs := h.chg.size
  exact ⟨k.is, h.chg.trans k.chg h.grow, fun j hj => (k.grow j hj).elim (h.grow j) (fun e => .inr (by omega))⟩
theorem Tn.later (h : Tn w H d w1 d1 s1 m1) (hb : Below w1.heap.size w1 w2) : Tn w H d w2 d1 s1 m1 :=
  ⟨h.is.later hb, h.chg.trans (Chg.of_below (S := fun _ => False) hb) (fun _ e => e.elim), h.grow⟩
theorem Tn.more (h : Tn w H d w1 d1 s1 m1) (hm : m1 ≤ m2) : Tn w H d w1 d1 s1 m2 := ⟨h.is.more hm, h.chg, h.grow⟩
theorem Tn.tabs (h : Tn w H d w1 d1 s1 m1) (h0 : Is w H d s m) (ht : Tabs w) : Tabs w1 := h0.tabs h.chg ht
end

/-- What an object's fields have; nothing, of what is none. -/
def fs (s : St) (a : Int) : List Int := if bnI s a = true then (List.range (fN s a)).map fun k => lV s a (k : Nat) else []
theorem fs_no {s : St} {a : Int} (h : bnI s a = false) : fs s a = [] := if_neg (by simp [h])
theorem fs_len {s : St} {a : Int} (h : bnI s a = true) : (fs s a).length = fN s a := by rw [fs, if_pos h]; simp
theorem fs_at {s : St} {a : Int} (h : bnI s a = true) {k : Nat} (hk : k < fN s a) : (fs s a).getD k 0 = lV s a (k : Nat) := by
  rw [fs, if_pos h, List.getD_eq_getElem?_getD]
  simp [hk]
theorem obj_fN {s : St} {a : Int} (hw : Wf s) (h : bnI s a = true) : fN s a ≤ 15 ∧ fE s a = 0 := by
  have h0 : 0 ≤ a := by unfold bnI at h; rw [Bool.and_eq_true, decide_eq_true_iff] at h; exact h.1
  obtain ⟨n, rfl⟩ := Int.eq_ofNat_of_zero_le h0
  rw [bnI_nat] at h
  obtain ⟨h1, h2, _⟩ := Hp.obj_fields hw h
  exact ⟨by rw [h1]; exact Hdr.obF_le _, h2⟩

/-- A row of numbers that is laid anew, the first ones already. -/
def Fr (W : World) (g n j : Nat) (f : Nat → Int) : Prop := ∀ k, k < n → W.cell? ⟨g, k, none⟩ = some (.int .i64 (if k < j then f k else 0)) ∧ W.frozen? ⟨g, k, none⟩ = false
theorem Fr.chg {S : Nat → Prop} {W W' : World} {g n j : Nat} {f : Nat → Int} (h : Fr W g n j f) (hc : Chg S W W') (hg : ¬ S g) : Fr W' g n j f := fun k hk => by
  obtain ⟨h1, h2⟩ := h k hk
  have hl : g < W.heap.size := World.block_lt_of_cell? W _ h1
  exact ⟨(hc.cell (p := ⟨g, k, none⟩) hl hg).trans h1, (hc.frozen (p := ⟨g, k, none⟩) hl hg).trans h2⟩
theorem Fr.set {W : World} {g n j : Nat} {f : Nat → Int} (h : Fr W g n j f) (hj : j < n) : Fr (W.setCell ⟨g, j, none⟩ (.int .i64 (f j))) g n (j + 1) f := fun k hk => by
  obtain ⟨h1, h2⟩ := h k hk
  refine ⟨?_, (World.frozen?_setCell ..).trans h2⟩
  by_cases e : k = j
  · subst e
    exact (same h1).trans (by simp)
  · rw [other (by intro h3; exact e (congrArg Addr.off h3).symm), h1]
    have e2 : (k < j + 1) = (k < j) := by simp; omega
    simp only [e2]
theorem Fr.start (W : World) (n : Nat) (f : Nat → Int) : Fr (W.alloc (.cells (zeroInts n) 3)) W.heap.size n 0 f := fun k hk =>
  ⟨by rw [World.cell?_alloc_new]; simp only [Nat.not_lt_zero, if_false]; exact zeroInts_at n k hk, World.frozen?_alloc_at _ _ _ _ rfl⟩

theorem Tn.fr {w wr w3 : World} {H g n j : Nat} {d d1 : Ids} {s1 s2 : St} {m1 m2 : Nat} {f : Nat → Int} (h : Tn w H d wr d1 s1 m1) (k : To wr w3 H d1 s2 m2) (hf : Fr wr g n j f) (hg : ¬ Mine H d1 g) (hj : j < n) :
    ∃ d3, Tn w H d w3 d3 s2 m2 ∧ Fr w3 g n j f ∧ ¬ Mine H d3 g := by
  obtain ⟨d3, h3, h4, h5⟩ := k
  have hs := h.chg.size
  have hl : g < wr.heap.size := World.block_lt_of_cell? wr _ (hf j hj).1
  exact ⟨d3, ⟨h3, h.chg.trans h4 h.grow, fun j hj => (h5 j hj).elim (h.grow j) (fun e => .inr (by omega))⟩, hf.chg h4 hg, fun e => (h5 g e).elim hg (by omega)⟩
theorem Tn.lay {w wr : World} {H g n j : Nat} {d d1 : Ids} {s1 : St} {m1 : Nat} {f : Nat → Int} (h : Tn w H d wr d1 s1 m1) (hf : Fr wr g n j f) (hg : ¬ Mine H d1 g) (hj : j < n) (hw : w.heap.size ≤ g) :
    Tn w H d (wr.setCell ⟨g, j, none⟩ (.int .i64 (f j))) d1 s1 m1 ∧ Fr (wr.setCell ⟨g, j, none⟩ (.int .i64 (f j))) g n (j + 1) f :=
  ⟨⟨h.is.chg (S := fun k => k = g) (Chg.set (S := fun k => k = g) (Chg.refl _ _) (.inl rfl) _) (fun _ hk e => hg (e ▸ hk)), h.chg.set (.inr hw) _, h.grow⟩, hf.set hj⟩
theorem Fr.rd {W : World} {g n : Nat} {l : List Int} {f : Nat → Int} (h : Fr W g n n f) (hl : l.length = n) (hf : ∀ k, k < n → l.getD k 0 = f k) : Rd W (some ⟨g, 0, none⟩) l :=
  .inr ⟨g, 0, rfl, fun j hj => by rw [Nat.zero_add, (h j (by omega)).1, if_pos (by omega), hf j (by omega)]⟩

set_option maxRecDepth 100000 in
set_option maxHeartbeats 4000000 in
theorem flds_any {H : Nat} {d : Ids} {s : St} {m : Nat} (a : Int) (w : World) (h : Is w H d s m) (ht : Tabs w) (hm : m < 800000) :
    Calls Tryz.prog 34 #[.pointer (some ⟨H, 0, none⟩), .int .i64 a] w fun e w' => ∃ p cap d', e = .returned (.slice p (fs s a).length cap) ∧ Rd w' p (fs s a) ∧ (∀ g, rowB p g → w.heap.size ≤ g ∧ ¬ Mine H d' g) ∧ Tn w H d w' d' s (m + 40) := by
  have HIS := Lib.hid (isO_any a w h)
  have HH := Lib.hid h
  have HT := Lib.hid ht
  cases hb : bnI s a with
  | false =>
    rw [fs_no hb]
    rw [hb] at HIS
    clear h ht
    go_enter Tryz.func34, Tryz.ntmps34
    go_wp2_with (go_at_call 39; refine HIS.out.mono ?_; rintro e w' ⟨rfl, q, rfl⟩)
    go_ret
    exact ⟨none, 0, d, rfl, Rd.nil _, fun g hg => absurd hg (Row.rowB_none g), (Tn.refl HH.out).later (below_drewN (Below.refl _ _) q) |>.more (by omega)⟩
  | true =>
    rw [hb] at HIS
    obtain ⟨hn15, hE⟩ := obj_fN h.wf hb
    have HF := Lib.hid (fun q => fields_any a (w.drewN q) (h.drewN q) (ht.later (below_drewN (Below.refl _ _) q)) (by omega))
    have HLN := Lib.hid (fs_len hb)
    have HAT := Lib.hid (fun k (hk : k < fN s a) => fs_at hb hk)
    rw [HLN.out]
    generalize hn : fN s a = n at *
    have hmk := make_ints n (by omega)
    clear h ht hn hE
    go_enter Tryz.func34, Tryz.ntmps34
    go_wp2_with (first
      | (go_at_call 39; refine HIS.out.mono ?_; rintro e w' ⟨rfl, q, rfl⟩)
      | (go_at_call 26; refine (HF.out q).mono ?_; rintro e w2 ⟨rfl, hT2⟩))
    obtain ⟨d2, hT3⟩ := ((Tn.refl HH.out).later (below_drewN (Below.refl w.heap.size w) q)).to hT2
    have HT2 := Lib.hid hT3
    clear hT2 hT3
    go_wp2
    generalize hX : World.alloc _ _ = X
    have hFr : Fr X w2.heap.size n 0 (fun k => lV s a (k : Nat)) := by rw [← hX]; exact Fr.start w2 n _
    have hbX : Below w2.heap.size w2 X := by rw [← hX]; exact (Below.refl _ _).alloc (Nat.le_refl _) _
    have hsw : w.heap.size ≤ w2.heap.size := HT2.out.chg.size
    have HX := Lib.hid (show Tn w H d X d2 s (m + 1) ∧ Fr X w2.heap.size n 0 (fun k => lV s a (k : Nat)) ∧ ¬ Mine H d2 w2.heap.size from ⟨HT2.out.later hbX, hFr, not_mine HT2.out.is (Nat.le_refl _)⟩)
    have HGE := Lib.hid hsw
    clear hX hFr hbX hsw HT2 HF HIS
    generalize w2.heap.size = g at *
    clear w2
    go_loopw [23] (fun x wr => ∃ (j : Nat) (d' : Ids), j ≤ n ∧ x = .int .i64 (j : Int) ∧ Tn w H d wr d' s (m + 1 + 2 * j) ∧ Fr wr g n j (fun k => lV s a (k : Nat)) ∧ ¬ Mine H d' g) (fun x _ => n - (intOf x).toNat)
    case atStart => exact ⟨0, d2, Nat.zero_le _, rfl, HX.out⟩
    case round =>
      obtain ⟨j, d', hj, rfl, hT, hFr, hnm⟩ := hrel
      have HT3 := Lib.hid hT
      have HFR := Lib.hid hFr
      have HNM := Lib.hid hnm
      clear hT hFr hnm HX
      by_cases hlt : j < n
      · have j0 : (0 : Int) ≤ (j : Int) := Int.natCast_nonneg _
        have j1 : (j : Int) < (n : Int) := by omega
        have HL := Lib.hid (load_any a (j : Nat) wr HT3.out.is (HT3.out.tabs HH.out HT.out) (by omega))
        go_wp2_with (go_at_call 20; refine HL.out.mono ?_; rintro e w3 ⟨rfl, hT4⟩; obtain ⟨d3, q1, q2, q3⟩ := HT3.out.fr hT4 HFR.out HNM.out hlt; have HT5 := Lib.hid q1; have HFR5 := Lib.hid q2; have HNM5 := Lib.hid q3; obtain ⟨c1, c2⟩ := q2 j hlt; clear hT4 q1 q2 q3)
        go_roundw
        case rel =>
          obtain ⟨z1, z2⟩ := HT5.out.lay HFR5.out HNM5.out hlt HGE.out
          exact ⟨j + 1, d3, by omega, by go_num, z1.more (by omega), z2, HNM5.out⟩
        case measure => simp [intOf]; omega
      · have j1 : ¬ (j : Int) < (n : Int) := by omega
        obtain rfl : j = n := by omega
        go_wp2
        go_ret
        exact ⟨some ⟨g, 0, none⟩, ⟨_, rfl⟩, HFR.out.rd HLN.out HAT.out, d', (fun g' hg' => (by have e : g = g' := (by simpa [rowB] using hg'); exact e ▸ ⟨HGE.out, HNM.out⟩)), HT3.out.more (by omega)⟩
end Go.Proofs.YtpcgmkchflmcmaaGreatDoor.Tr
