/-
  An empty set of a heap's addresses; reached, whole.
-/
import Derived.Test.YtpcgmkchflmcmaaGreatDoorTrH
import Derived.Deep.LoopGhost
namespace Go.Proofs.YtpcgmkchflmcmaaGreatDoor.Tr
open Go.RowKit Go.Shelf
open Class (below_drewN)
open Blk (Cfg allP kAt)
open Bits (SetIs)
open Hp (isO_any Ids St Wf Is To Mine bn bnI bnI_nat fN fE lE lV objL not_mine two_new config_any pkA_len)
open Go.Proofs.YtpcgmkchflmcmaaGreatDoor.Row (Chg Rd Rd0 rowB rowB_none cell_of_block frozen_of_block other same cellsZ cellsZ_length cellsZ_at cellsZ_snoc info_parts infoInt one_at push_row owns_block owns_chg owns_lt owns_less owns_cell owns_cap owns_some)
open Go.Proofs.YtpcgmkchflmcmaaGreatDoor.Addr (Tabs)

def zsN (n : Nat) : List Nat := List.replicate ((n + 1 + 63) / 64) 0
set_option maxHeartbeats 1000000 in
theorem none_any {H : Nat} {d : Ids} {s : St} {m : Nat} (w : World) (h : Is w H d s m) (ht : Tabs w) : Calls Tryz.prog 43 #[.pointer (some ⟨H, 0, none⟩)] w fun e w' => ∃ B G, e = .returned (.pointer (some ⟨B, 0, none⟩)) ∧
    SetIs w' B G (s.ws.length + 1) ((s.ws.length + 1 + 63) / 64) (zsN s.ws.length) ∧ w.heap.size ≤ B ∧ w.heap.size ≤ G ∧ B < w'.heap.size ∧ G < w'.heap.size ∧ B ≠ G ∧ Below w.heap.size w w' := by
  have HC := Lib.hid (config_any w h)
  have HR := Lib.hid h.wf.right
  have HRC := Lib.hid (refRightB_true.1 ((rightB_ref ..).symm.trans h.wf.right))
  have HL := Lib.hid ht
  have hw := h.wf.words
  have hl := (Rf.words_wrap h.wf).1
  have HN := Lib.hid (fun (W : World) => Bits.new_good (s.ws.length + 1) W (by omega))
  have HW := Lib.hid (fun (W : World) (hb : Below w.heap.size w W) => by
    have h1 := words_yes s.c.b s.c.wd s.c.m s.c.r s.c.ce s.c.lg s.c.st W (HL.out.later hb).lim HRC.out HR.out
    rw [hw] at h1
    exact h1)
  rw [show ((s.ws.length + 1 : Nat) : Int) = (s.ws.length : Int) + 1 from rfl] at HN
  clear h ht hw HR HRC
  go_enter Tryz.func43, Tryz.ntmps43
  go_wp2_with (first
    | (go_at_call 78; refine HC.out.mono ?_; rintro e w1 ⟨rfl, hb1⟩)
    | (go_at_call 77; refine (HW.out _ hb1).mono ?_; rintro e w2 ⟨rfl, hb2⟩)
    | (go_at_call 76; refine (HN.out _).mono ?_; rintro e w3 ⟨B, G, rfl, h1, h2, h3, h4, h5, h6, h7⟩))
  go_ret
  exact ⟨B, G, rfl, h1, by have := hb1.size; have := hb2.size; omega, by have := hb1.size; have := hb2.size; omega, h4, h5, h6, (hb1.trans (hb2.mono hb1.size)).trans (h7.mono (by have := hb1.size; have := hb2.size; omega))⟩
theorem take_snoc (l : List Int) {c : Nat} (h : c < l.length) : l.take c ++ [l.getD c 0] = l.take (c + 1) := by
  rw [List.take_add_one, List.getElem?_eq_getElem h, List.getD_eq_getElem?_getD, List.getElem?_eq_getElem h]
  rfl
theorem un_zero (s : St) : un s (zsN s.ws.length) = (objL s).length := by
  unfold un
  rw [List.filter_eq_self.2]
  intro a _
  unfold hasI zsN
  rw [hasB_zero]
  rfl
/-- A search since a world. -/
structure Ru (w wr : World) (H : Nat) (d0 d : Ids) (s : St) (m : Nat) (f : Fv) (cap : Nat) (po : Option Addr) (co : Nat) (q : List Nat × List Int) : Prop where
  rq : Rq wr H d s m f cap w.heap.size po co q
  chg : Chg (Mine H d0) w wr
  grow : ∀ j, Mine H d j → Mine H d0 j ∨ w.heap.size ≤ j
  new : ∀ k, f.mem k → w.heap.size ≤ k
theorem Ru.step {w wr w' : World} {H : Nat} {d0 d d' : Ids} {s : St} {m m' : Nat} {f : Fv} {cap co co' : Nat} {po po' : Option Addr} {q q' : List Nat × List Int} (h : Ru w wr H d0 d s m f cap po co q) (h' : Rq w' H d' s m' f cap w.heap.size po' co' q') (hc : Chg (OwR H d f po) wr w')
    (hg : ∀ k, OwR H d' f po' k → OwR H d f po k ∨ wr.heap.size ≤ k) : Ru w w' H d0 d' s m' f cap po' co' q' := by
  have hs := h.chg.size
  refine ⟨h', h.chg.trans hc (fun k e => e.elim (h.grow k) (fun e => .inr (e.elim (h.new k) (fun e => (owns_lt h.rq.own e).1)))), fun j hj => ?_, h.new⟩
  rcases hg j (.inl hj) with e | e
  · rcases e with e | e | e
    · exact h.grow j e
    · exact .inr (h.new j e)
    · exact .inr (owns_lt h.rq.own e).1
  · exact .inr (by omega)
theorem Ru.tn {w wr : World} {H : Nat} {d0 d : Ids} {s : St} {m : Nat} {f : Fv} {cap co : Nat} {po : Option Addr} {q : List Nat × List Int} (h : Ru w wr H d0 d s m f cap po co q) : Tn w H d0 wr d s m := ⟨h.rq.is, h.chg, h.grow⟩
theorem Ru.start {w w1 X : World} {H B G : Nat} {d : Ids} {s : St} {m : Nat} (h : Is w H d s m) (ht : Tabs w) (hvb : vB ≤ w.heap.size) (hmi : ∀ k, Mine H d k → vB ≤ k)
    (h1 : SetIs w1 B G (s.ws.length + 1) ((s.ws.length + 1 + 63) / 64) (zsN s.ws.length)) (hB : w.heap.size + 1 ≤ B) (hG : w.heap.size + 1 ≤ G) (hBl : B < w1.heap.size) (hGl : G < w1.heap.size) (hBG : B ≠ G) (hb : Below (w.heap.size + 1) (w.alloc (.cells #[.pointer (some ⟨H, 0, none⟩)] 32)) w1)
    (hX : (w1.alloc (.cells #[.pointer (some ⟨B, 0, none⟩)] 69)).alloc (.cells #[.slice none 0 0] 28) = X) :
    Ru w X H d d s m ⟨w.heap.size, w1.heap.size, w1.heap.size + 1, B, G⟩ ((s.ws.length + 1 + 63) / 64) none 0 (zsN s.ws.length, []) := by
  have hbw : Below w.heap.size w w1 := ((Below.refl _ _).alloc (Nat.le_refl _) _).trans (hb.mono (Nat.le_succ _))
  have hbX : Below w1.heap.size w1 X := by rw [← hX]; exact ((Below.refl _ _).alloc (Nat.le_refl _) _).alloc (by simp) _
  have hs := hbw.size
  have hwX : Below w.heap.size w X := hbw.trans (hbX.mono hs)
  have hsX : X.heap.size = w1.heap.size + 2 := by rw [← hX]; simp
  have hsz : w.heap.size + 1 ≤ w1.heap.size := by omega
  refine ⟨⟨h.later hwX, ht.later hwX, h1.below hbX hBl hGl, ?_, by rw [← hX]; exact (Boxed.new w1 _ _).alloc _, by rw [← hX]; exact boxed_new (by simp), ⟨rfl, .inl ⟨rfl, rfl⟩⟩, ?_, ?_, fun g hg => absurd hg (rowB_none g), (by show B < _; omega), (by show G < _; omega), hwX.size, ?_⟩, Chg.of_below hwX, fun j hj => .inl hj, ?_⟩
  · exact Boxed.below (Boxed.below (Boxed.new w _ _) hb (Nat.lt_succ_self _)) hbX (show w.heap.size < w1.heap.size by omega)
  · show [w.heap.size, w1.heap.size, w1.heap.size + 1, B, G].Nodup
    simp only [List.nodup_cons, List.mem_cons, List.not_mem_nil, or_false, not_or, List.nodup_nil, and_true, not_false_eq_true]
    omega
  · rintro k hk
    have hk' : k = w.heap.size ∨ k = w1.heap.size ∨ k = w1.heap.size + 1 ∨ k = B ∨ k = G := hk
    have : w.heap.size ≤ k := by omega
    exact not_mine h this
  · rintro k (e | e | e)
    · exact hmi k e
    · have hk' : k = w.heap.size ∨ k = w1.heap.size ∨ k = w1.heap.size + 1 ∨ k = B ∨ k = G := e
      omega
    · exact absurd e (rowB_none k)
  · intro k hk
    have hk' : k = w.heap.size ∨ k = w1.heap.size ∨ k = w1.heap.size + 1 ∨ k = B ∨ k = G := hk
    omega

/-- What reached leaves. -/
def Found (w : World) (H : Nat) (d : Ids) (s : St) (m : Nat) (R : List Int) (e : Ending) (w' : World) : Prop := ∃ B G cap F d', e = .returned (.pointer (some ⟨B, 0, none⟩)) ∧ SetIs w' B G (s.ws.length + 1) cap F ∧ (∀ u, 0 ≤ u → (hasI F u = true ↔ Rch s R u)) ∧
  Tn w H d w' d' s (m + 40 * (objL s).length) ∧ (w.heap.size ≤ B ∧ w.heap.size ≤ G ∧ B < w'.heap.size ∧ G < w'.heap.size ∧ B ≠ G) ∧ ¬ Mine H d' B ∧ ¬ Mine H d' G

set_option maxRecDepth 100000 in
set_option maxHeartbeats 4000000 in
theorem reached_any {H : Nat} {d : Ids} {s : St} {m : Nat} (pr : Option Addr) (cr : Nat) (R : List Int) (w : World) (h : Is w H d s m) (ht : Tabs w) (hm : m + 40 * (objL s).length < 800000) (hr : Rd0 w pr R) (hrl : ∀ g, rowB pr g → 0 < R.length → g < w.heap.size ∧ ¬ Mine H d g) (hlen : R.length ≤ maxLen) (hvb : vB ≤ w.heap.size) (hmi : ∀ k, Mine H d k → vB ≤ k) :
    Calls Tryz.prog 29 #[.pointer (some ⟨H, 0, none⟩), .slice pr R.length cr] w (Found w H d s m R) := by
  unfold maxLen at hlen
  have hb0 : Below w.heap.size w (w.alloc (.cells #[.pointer (some ⟨H, 0, none⟩)] 32)) := (Below.refl _ _).alloc (Nat.le_refl _) _
  have HN := Lib.hid (none_any _ (h.later hb0) (ht.later hb0))
  have HH := Lib.hid h
  have HT := Lib.hid ht
  have HR := Lib.hid hr
  have HB0 := Lib.hid hb0
  have HRL := Lib.hid hrl
  have HMI := Lib.hid hmi
  clear h ht hr hb0 hrl hmi
  go_enter Tryz.func29, Tryz.ntmps29
  go_wp2_with (go_at_call 43; refine HN.out.mono ?_; rintro e w1 ⟨B, G, rfl, h1, h2, h3, h4, h5, h6, h7⟩)
  generalize hX : World.alloc _ _ = X
  simp only [World.size_alloc] at h2 h3 h7
  have HRU := Lib.hid (Ru.start HH.out HT.out hvb HMI.out h1 h2 h3 h4 h5 h6 h7 hX)
  clear h1 h2 h3 h4 h5 h6 h7 hX HN HB0
  obtain ⟨f, hf⟩ : ∃ f : Fv, (⟨w.heap.size, w1.heap.size, w1.heap.size + 1, B, G⟩ : Fv) = f := ⟨_, rfl⟩
  rw [hf] at HRU
  rw [show w1.heap.size + 1 = f.Bo by rw [← hf], show w1.heap.size = f.Bf by rw [← hf], show w.heap.size = f.Bh by rw [← hf]]
  have hBf : B = f.B := by rw [← hf]
  subst hBf
  clear hf
  have hk4 := HH.out.tb.kLt
  have hw := HH.out.wf
  have hN : (objL s).length ≤ 1048576 := pkA_len hw (bnI s)
  have hSq0 : Sq s (zsN s.ws.length, []) := (Sch.start s R).sq
  have hun0 : un s (zsN s.ws.length) = (objL s).length := un_zero s
  have HK4 := Lib.hid hk4
  have HW := Lib.hid hw
  have HS0 := Lib.hid hSq0
  have HUN := Lib.hid hun0
  have HRUS := Lib.hid (show ∀ (wr : World) (po : Option Addr) (co i : Nat), i < R.length → Ru w wr H d d s m f ((s.ws.length + 1 + 63) / 64) po co (mts s (zsN s.ws.length, []) (R.take i)) → Calls Tryz.prog 60 #[.int .i64 (R.getD i 0), .pointer (some ⟨f.Bh, 0, none⟩), .pointer (some ⟨f.Bf, 0, none⟩), .pointer (some ⟨f.Bo, 0, none⟩)] wr fun e X' => (∃ u, e = .returned u) ∧ ∃ po' co', Ru w X' H d d s m f ((s.ws.length + 1 + 63) / 64) po' co' (mts s (zsN s.ws.length, []) (R.take (i + 1))) from fun wr po co i hi hru => by
    have h1 := un_mts HW.out HK4.out (R.take i) HS0.out
    simp only [List.length_nil, HUN.out] at h1
    refine (met_any (R.getD i 0) wr hru.rq (by omega)).mono ?_
    rintro e X' ⟨he, po', co', g1, g2, g3⟩
    rw [← mts_snoc, take_snoc R hi] at g1
    exact ⟨he, po', co', hru.step g1 g2 (fun k hk => hk.elim (fun e => .inl (.inl e)) (fun e => e.elim (fun e => .inl (.inr (.inl e))) (fun e => (g3 k e).imp (fun e => .inr (.inr e)) id)))⟩)
  clear hk4 hw hSq0 hun0
  go_loopw [17] (fun x wr => ∃ (i : Nat) (po : Option Addr) (co : Nat), i ≤ R.length ∧ x = .int .i64 (i : Int) ∧ Ru w wr H d d s m f ((s.ws.length + 1 + 63) / 64) po co (mts s (zsN s.ws.length, []) (R.take i))) (fun x _ => R.length - (intOf x).toNat)
  case atStart => exact ⟨0, none, 0, Nat.zero_le _, rfl, HRU.out⟩
  case round =>
    obtain ⟨i, po, co, hi, rfl, hru⟩ := hrel
    have HU := Lib.hid hru
    clear hru HRU
    by_cases hlt : i < R.length
    · have i0 : (0 : Int) ≤ (i : Int) := Int.natCast_nonneg _
      have i1 : (i : Int) < (R.length : Int) := by omega
      obtain ⟨g, off, hp, _⟩ := HR.out i hlt
      have hgl := HRL.out g (by rw [hp]; rfl) (by omega)
      obtain ⟨_, _, hp2, hc0⟩ := HR.out i hlt
      have hc : wr.cell? ⟨g, off + i, none⟩ = some (.int .i64 (R.getD i 0)) := by
        rw [hp] at hp2
        cases hp2
        exact (HU.out.chg.cell (p := ⟨g, off + i, none⟩) hgl.1 hgl.2).trans hc0
      have HC := Lib.hid (HRUS.out wr po co i hlt HU.out)
      subst hp
      clear hgl hp2 hc0
      generalize R.getD i 0 = v at *
      go_wp2_with (refine HC.out.mono ?_; rintro e X' ⟨⟨u, rfl⟩, po', co', hru⟩)
      go_roundw
      case rel => exact ⟨i + 1, po', co', by omega, by go_num, hru⟩
      case measure => simp [intOf]; omega
    · have i1 : ¬ (i : Int) < (R.length : Int) := by omega
      obtain rfl : i = R.length := by omega
      go_wp2
      rw [List.take_length] at HU
      have hsr : Sch s R (mts s (zsN s.ws.length, []) R) := (Sch.start s R).roots HW.out (fun r h => h)
      have hrt : ∀ r ∈ R, bnI s r = true → hasI (mts s (zsN s.ws.length, []) R).1 r = true := fun r h1 h2 => mts_has HW.out R HS0.out r h1 h2
      have hku := un_mts HW.out HK4.out R HS0.out
      simp only [List.length_nil, HUN.out, Nat.add_zero] at hku
      have HST := Lib.hid (And.intro HU.out (And.intro hsr (And.intro hrt hku)))
      clear hsr hrt hku HU HRUS HR HRL
      generalize mts s (zsN s.ws.length, []) R = q0 at *
      obtain ⟨F0, ol0⟩ := q0
      go_loopg [11] (objL s).length (fun k x wr => ∃ (d' : Ids) (m' : Nat) (po : Option Addr) (co : Nat) (F : List Nat) (ol : List Int), Ru w wr H d d' s m' f ((s.ws.length + 1 + 63) / 64) po co (F, ol) ∧ Sch s R (F, ol) ∧ (∀ r ∈ R, bnI s r = true → hasI F r = true) ∧ un s F + ol.length = k ∧ m' + 40 * k ≤ m + 40 * (objL s).length)
      case atStart => exact ⟨d, m, po, co, F0, ol0, HST.out.1, HST.out.2.1, HST.out.2.2.1, HST.out.2.2.2, Nat.le_refl _⟩
      case round =>
        clear HST
        obtain ⟨d', m', po', co', F, ol, hru, hsc, hrt, hk, hmm⟩ := hrel
        rcases List.eq_nil_or_concat ol with e0 | ⟨ol', a, e0⟩
        · subst e0
          have cO : wr.cell? ⟨f.Bo, 0, none⟩ = some (.slice po' 0 co') := hru.rq.cO.cell
          have cF := hru.rq.cF.cell
          have HU := Lib.hid (And.intro hru (And.intro hsc hrt))
          have HM := Lib.hid hmm
          clear hru hsc hrt hk hmm
          go_wp2
          go_ret
          refine ⟨f.B, f.G, _, F, d', rfl, HU.out.1.rq.set, fun u hu => HU.out.2.1.fin HU.out.2.2 u hu, HU.out.1.tn.more (by have := HM.out; omega), ⟨HU.out.1.new _ (.inr (.inr (.inr (.inl rfl)))), HU.out.1.new _ (.inr (.inr (.inr (.inr rfl)))), HU.out.1.rq.ltB, HU.out.1.rq.ltG, fun e => ?_⟩, HU.out.1.rq.ap _ (.inr (.inr (.inr (.inl rfl)))), HU.out.1.rq.ap _ (.inr (.inr (.inr (.inr rfl))))⟩
          have hn := HU.out.1.rq.nd
          simp only [Fv.l, List.nodup_cons, List.mem_cons, List.not_mem_nil, or_false, not_or] at hn
          omega
        · rw [List.concat_eq_append] at e0
          subst e0
          have cO : wr.cell? ⟨f.Bo, 0, none⟩ = some (.slice po' (ol' ++ [a]).length co') := hru.rq.cO.cell
          have cOf := hru.rq.cO.frozen
          have cH := hru.rq.cH.cell
          have hlen2 : (ol' ++ [a]).length = ol'.length + 1 := by simp
          obtain ⟨g, hpo, hat, hcap, hrq2, hch2⟩ := hru.rq.pop
          subst hpo
          have hBhO : f.Bh ≠ f.Bo := by
            have hn := hru.rq.nd
            simp only [Fv.l, List.nodup_cons, List.mem_cons, List.not_mem_nil, or_false, not_or] at hn
            omega
          have hgO : g ≠ f.Bo := fun e => hru.rq.nm (k := f.Bo) (.inr (.inr (.inl rfl))) (by rw [← e]; rfl)
          rw [hlen2] at cO hk
          have hsq2 : Sq s (F, ol') := ⟨hsc.sq.set, fun v hv => hsc.sq.op v (List.mem_append_left _ hv)⟩
          have hle : un s F + ol'.length ≤ 1048576 := by omega
          have HL := Lib.hid (look_any (meets_reached (H := H) (d := d') (m := m') (f := f) (cap := (s.ws.length + 1 + 63) / 64) (base := w.heap.size) (po := some ⟨g, 0, none⟩) (co := co') (q := (F, ol')) (by omega) HK4.out HW.out hsq2 hle) HW.out a _ _ ⟨rfl, hrq2⟩ hrq2.vb)
          have HU := Lib.hid (hru.step hrq2 hch2 (fun k e => .inl e))
          have HS := Lib.hid (hsc.look HW.out)
          have HRT := Lib.hid (show ∀ r ∈ R, bnI s r = true → hasI (mts s (F, ol') ((fs s a).filter fun v => !(v == 0))).1 r = true from fun r h1 h2 => mts_mono HW.out _ hsq2 r (bnI_pos h2).1 (hrt r h1 h2))
          have HKK := Lib.hid (show un s (mts s (F, ol') ((fs s a).filter fun v => !(v == 0))).1 + (mts s (F, ol') ((fs s a).filter fun v => !(v == 0))).2.length + 1 = gk by rw [un_mts HW.out HK4.out _ hsq2]; simp only; omega)
          have HMM := Lib.hid hmm
          clear hru hsc hrt hk hmm hrq2 hch2 hsq2 hlen2
          obtain ⟨n, hn⟩ : ∃ n, ol'.length = n := ⟨_, rfl⟩
          rw [hn] at cO hat hcap HL HU
          have n0 : (0 : Int) ≤ (n : Int) := Int.natCast_nonneg _
          have n1 : (n : Int) ≤ 1048576 := by omega
          have n2 : n ≤ 1048576 := by omega
          have HNN := Lib.hid hn
          clear hn
          go_wp2_with (go_at_call 62; refine HL.out.mono ?_; rintro e w4 ⟨⟨u, rfl⟩, O', ⟨d2, po2, co2, rfl, hrq3⟩, hch3, hg3⟩)
          have HU3 := Lib.hid (HU.out.step hrq3 hch3 hg3)
          clear hrq3 hch3 hg3
          generalize mts s (F, ol') ((fs s a).filter fun v => !(v == 0)) = q3 at *
          obtain ⟨F3, ol3⟩ := q3
          go_roundg (gk - 1)
          case measure => have := HKK.out; omega
          case rel =>
            have h1 := HKK.out
            have h2 := HMM.out
            simp only at h1
            exact ⟨d2, m' + 40, po2, co2, F3, ol3, HU3.out, HS.out, HRT.out, by omega, by omega⟩
end Go.Proofs.YtpcgmkchflmcmaaGreatDoor.Tr
