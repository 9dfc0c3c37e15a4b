/-
  look: each value of an object's edges is handed to whatever function keeps its own state.
-/
import Derived.Test.YtpcgmkchflmcmaaGreatDoorTrD
namespace Go.Proofs.YtpcgmkchflmcmaaGreatDoor.Tr
open Go.RowKit Go.Shelf
open Class (below_drewN)
open Blk (Cfg allP)
open Hp (isO_any fields_any load_any Ids St Wf Is To Mine bn bnI bnI_nat fN fE lE lV objL not_mine two_new)
open Go.Proofs.YtpcgmkchflmcmaaGreatDoor.Row (Chg Rd Rd0 rowB cell_of_block frozen_of_block other same cellsZ cellsZ_length cellsZ_at)
open Go.Proofs.YtpcgmkchflmcmaaGreatDoor.Addr (Tabs)
attribute [local go_sem] Oper.semAt_some

/-- A function that is handed numbers, one behind the other: what it keeps, in its own blocks, beside a heap. -/
structure Meets (mf : Nat) (bs cs : Array Value) (H : Nat) (s : St) (vb : Nat) (K0 : (Nat → Prop) → World → Prop) (Kp : (Nat → Prop) → List Int → World → Prop) : Prop where
  enter : ∀ args w, (callFunc mf args).run Tryz.prog w = .ok (.enter mf args) w
  stab : ∀ O l X Y, Kp O l X → Below vb X Y → (∀ k, O k → Y.heap[k]? = X.heap[k]?) → Kp O l Y
  stab0 : ∀ O X Y, K0 O X → Below vb X Y → (∀ k, O k → Y.heap[k]? = X.heap[k]?) → K0 O Y
  lt0 : ∀ O X, K0 O X → ∀ k, O k → k < X.heap.size
  lt : ∀ O l X, Kp O l X → ∀ k, O k → k < X.heap.size
  call : ∀ O l v X, Kp O l X → Calls Tryz.prog mf (bs.push (.int .i64 v) ++ cs) X fun e X' => (∃ u, e = .returned u) ∧ ∃ O', Kp O' (l ++ [v]) X' ∧ Chg O X X' ∧ ∀ k, O' k → O k ∨ X.heap.size ≤ k
  heap : ∀ O X, K0 O X → ∃ d m, Is X H d s m ∧ Tabs X ∧ m < 800000 ∧ (∀ k, Mine H d k → O k) ∧ ∀ X', Is X' H d s m → K0 O X' → ∀ Y d', Tn X' H d Y d' s (m + 40) → ∃ O', Kp O' [] Y ∧ ∀ k, O' k → Mine H d' k ∨ O k

/-- What look has handed on, and what it has turned. -/
def Lk (Kp : (Nat → Prop) → List Int → World → Prop) (l : List Int) (w : World) (B : Nat) (O : Nat → Prop) (f : Value) (O2 : Nat → Prop) (i : Nat) (Y : World) : Prop :=
  ∃ O1, Kp O1 (((eA l).take i).map (·.2)) Y ∧ Chg O w Y ∧ (∀ k, O1 k → O k ∨ B ≤ k) ∧ (∀ k, O1 k → k < B ∨ O2 k) ∧ Boxed Y w.heap.size 112 f

theorem take_next (l : List (Nat × Int)) {i : Nat} (h : i < l.length) : (l.take (i + 1)).map (·.2) = (l.take i).map (·.2) ++ [(l.getD i (0, 0)).2] := by
  rw [List.take_add_one, List.map_append, List.getElem?_eq_getElem h, List.getD_eq_getElem?_getD, List.getElem?_eq_getElem h]
  rfl

set_option maxRecDepth 100000 in
set_option maxHeartbeats 4000000 in
theorem look_any {mf : Nat} {bs cs : Array Value} {H : Nat} {s : St} {K0 : (Nat → Prop) → World → Prop} {Kp : (Nat → Prop) → List Int → World → Prop} {vb : Nat} (hM : Meets mf bs cs H s vb K0 Kp) (hw : Wf s) (a : Int) (O : Nat → Prop) (w : World) (h : K0 O w) (hvb : vb ≤ w.heap.size) :
    Calls Tryz.prog 62 #[.pointer (some ⟨H, 0, none⟩), .int .i64 a, .func (.func mf) bs cs] w fun e w' => (∃ v, e = .returned v) ∧ ∃ O', Kp O' ((fs s a).filter fun v => !(v == 0)) w' ∧ Chg O w w' ∧ ∀ k, O' k → O k ∨ w.heap.size ≤ k := by
  obtain ⟨d, m, hI, hT, hm, hmo, hop⟩ := hM.heap O w h
  have HO := Lib.hid (hM.lt0 O w h)
  have HM := Lib.hid hM
  have HI := Lib.hid hI
  have HT := Lib.hid hT
  have HMO := Lib.hid hmo
  have HK := Lib.hid h
  have HOP := Lib.hid hop
  clear hM hI hT hmo h hop
  have eg := HM.out.enter
  refine (callsIn_wide (n := 8)).1 ?_
  refine callsIn_of_wp_marks Tryz.func62 rfl trivial ?_ rfl
  simp only [Tryz.ntmps62, List.size_toArray, List.length_cons, List.length_nil, Nat.reduceAdd, Nat.reduceSub, Array.replicate_succ, Array.replicate_zero, List.push_toArray, List.append_toArray, List.nil_append, List.cons_append]
  gi_wp2_with (refine ⟨trivial, ?_⟩; gi_at_call 19; refine (callsIn_wide.2 (edges_any _ _ _)).mono ?_; rintro e w'' ⟨rfl, rfl⟩)
  generalize hX : World.alloc _ _ = X
  have bX : Below w.heap.size w X := by rw [← hX]; exact (((Below.refl _ _).alloc (Nat.le_refl _) _).alloc (by simp) _).alloc (by simp; omega) _
  have hsX : X.heap.size = w.heap.size + 3 := by rw [← hX]; simp
  have xf : Boxed X w.heap.size 112 (.func (.func mf) bs cs) := by rw [← hX]; exact ((Boxed.new _ _ _).alloc _).alloc _
  have xh : Boxed X (w.heap.size + 1) 32 (.pointer (some ⟨H, 0, none⟩)) := by rw [← hX]; exact (boxed_new (by simp)).alloc _
  have xa : Boxed X (w.heap.size + 2) 3 (.int .i64 a) := by rw [← hX]; exact boxed_new (by simp)
  clear hX
  have HB := Lib.hid bX
  have HMI := Lib.hid (fun k (hk : Mine H d k) => HO.out k (HMO.out k hk))
  have hN := HI.out.wf
  refine wpIn_rangeFunc_open rfl (by decide) (gf := 33) (lb := #[.pointer (some ⟨w.heap.size + 1, 0, none⟩), .pointer (some ⟨w.heap.size + 1 + 1, 0, none⟩)]) rfl trivial (enters_of Tryz.func33 (by kernel_rfl) rfl)
    (N := (eA (fs s a)).length) (encs := encE (fs s a)) (R := OpE H d s m) (edges1_open 7 (w.heap.size + 1) (w.heap.size + 1 + 1) a hm hw X) (Below.refl _ _) (fun _ => rfl)
    (Lk Kp (fs s a) w X.heap.size O (.func (.func mf) bs cs)) (fun _ _ _ _ => False) ?hI (fun _ _ _ _ _ h => h.elim) ?hT ?hR ?h0
    (fun i => { tmps := #[.pointer (some ⟨H, 0, none⟩), .int .i64 a, .func (.func mf) bs cs, undef, undef, .pointer (some ⟨w.heap.size, 0, none⟩), undef, .int .i64 (eV (fs s a) i), .pointer (some ⟨H, 0, none⟩), .int .i64 a, .func (.func 33) #[] #[.pointer (some ⟨w.heap.size + 1, 0, none⟩), .pointer (some ⟨w.heap.size + 1 + 1, 0, none⟩)], .int .i64 (eK (fs s a) i : Int), .int .i64 (eV (fs s a) i), undef, undef, undef], defers := [] }) ?assign ?body ?done (fun _ _ _ _ _ _ _ h => h.elim)
  case hI =>
    rintro O2 i X' Y ⟨O1, h1, h2, h3, h4, h5⟩ hb hk
    refine ⟨O1, HM.out.stab _ _ _ _ h1 (hb.mono (by omega)) (fun k hk1 => (h4 k hk1).elim (fun e => hb.block k e) (fun e => hk k e)), ?_, h3, h4, Boxed.below h5 hb (by omega)⟩
    exact h2.trans (T := fun k => X.heap.size ≤ k) ⟨hb.os, hb.tape, hb.output, hb.size, fun k _ h1 => hb.block k (by omega)⟩ (fun k hk => .inr (by omega))
  case hT =>
    intro W hb
    have hb2 := HB.out.trans (hb.mono HB.out.size)
    exact ⟨HI.out.later hb2, HT.out.later hb2, (Boxed.below xh hb (by omega)).cell, (Boxed.below xa hb (by omega)).cell⟩
  case hR =>
    rintro X' Y G k hs hb ⟨d', hT, _⟩ h1 h2
    exact hT.chg.block k h2 (fun e => by have := HMI.out k e; omega)
  case h0 =>
    rintro X' Y G hs hb ⟨d', hT, hG⟩
    have hb2 := HB.out.trans (hb.mono HB.out.size)
    have hK2 : K0 O X' := HM.out.stab0 _ _ _ HK.out (hb2.mono hvb) (fun k hk => hb2.block k (HO.out k hk))
    obtain ⟨O1, g1, g2⟩ := HOP.out X' (HI.out.later hb2) hK2 Y d' hT
    have hsz : X'.heap.size ≤ Y.heap.size := hT.chg.size
    have hd : ∀ k, O1 k → O k ∨ X'.heap.size ≤ k := fun k hk => (g2 k hk).elim (fun e => (hT.grow k e).imp (HMO.out k) id) .inl
    refine ⟨O1, ⟨O1, by simpa using g1, ?_, fun k hk => (hd k hk).imp id (fun e => by omega), fun k hk => .inr hk, ?_⟩, fun k hk => ⟨HM.out.lt _ _ _ g1 k hk, fun hg => ?_⟩, fun k hk => (hd k hk).imp (fun e => by have := HO.out k e; omega) id⟩
    · exact (Chg.of_below (S := O) hb2).trans hT.chg (fun k hk => .inl (HMO.out k hk))
    · exact (hT.chg.block w.heap.size (by omega) (fun e => by have := HMI.out _ e; omega)).trans (Boxed.below xf hb (by omega))
    · obtain ⟨q1, q2⟩ := hG k hg
      rcases g2 k hk with e | e
      · exact q2 e
      · have := HO.out k e; have := hb2.size; omega
  case assign =>
    intro l i Y K hi hK
    unfold encE
    gi_wp2
    exact hK
  case body =>
    rintro l O2 i Y hl _ hi ⟨O1, h1, h2, h3, h4, h5⟩ hlt hsz
    have kf := h5.cell
    have HC := Lib.hid (HM.out.call O1 _ (eV (fs s a) i) Y h1)
    have HE : Hid (((eA (fs s a)).take (i + 1)).map (·.2) = ((eA (fs s a)).take i).map (·.2) ++ [eV (fs s a) i]) := Lib.hid (take_next (eA (fs s a)) hi)
    have H1 := Lib.hid h1
    have H2 := Lib.hid h2
    have H3 := Lib.hid h3
    have H4 := Lib.hid h4
    have H5 := Lib.hid h5
    have HLT := Lib.hid hlt
    clear h1 h2 h3 h4 h5 hlt xf xh xa hN
    gi_wp2_with (refine ⟨trivial, ?_⟩; refine (CallsIn.inRound l (callsIn_wide.2 HC.out)).mono ?_; rintro e Y' ⟨⟨u, rfl⟩, O', hk', hc', hg'⟩)
    refine ⟨fun k => O2 k ∨ (O' k ∧ X.heap.size ≤ k), ⟨hc'.size, fun k c1 c2 c3 => hc'.block k c2 (fun e => (H4.out k e).elim (by omega) c3), fun k hk => hk.elim .inl (fun e => (hg' k e.1).elim (fun e2 => (H4.out k e2).elim (fun e3 => by have := e.2; omega) .inl) .inr), fun k hk => hk.elim (fun e => by have := HLT.out k e; have := hc'.size; omega) (fun e => HM.out.lt _ _ _ hk' k e.1)⟩, O', ?_, H2.out.trans hc' (fun k hk => (H3.out k hk).imp id (fun e => by omega)), fun k hk => (hg' k hk).elim (H3.out k) (fun e => .inr (by omega)), fun k hk => ?_, ?_⟩
    · rw [HE.out]; exact hk'
    · by_cases e : k < X.heap.size
      · exact .inl e
      · exact .inr (.inr ⟨hk, by omega⟩)
    · exact (hc'.block w.heap.size (by omega) (fun e => (H3.out _ e).elim (fun e2 => by have := HO.out _ e2; omega) (by omega))).trans H5.out
  case done =>
    rintro D O2 Y hD ⟨O1, h1, h2, h3, h4, h5⟩ hn hlt hK
    have hfin : Kp O1 ((fs s a).filter fun v => !(v == 0)) (Y.putObj D (.deferred none)) ∧ Chg O w (Y.putObj D (.deferred none)) ∧ ∀ k, O1 k → O k ∨ w.heap.size ≤ k := by
      refine ⟨?_, h2.trans (T := fun k => k = D) ⟨rfl, rfl, rfl, by simp, fun k _ h1 => World.putObj_heap_other (by exact h1)⟩ (fun k hk => .inr (by omega)), fun k hk => (h3 k hk).imp id (fun e => by omega)⟩
      rw [← eA_vals, ← List.take_length (l := eA (fs s a))]
      exact HM.out.stab _ _ _ _ h1 (below_putObj (by omega) _ _) (fun k hk => World.putObj_heap_other (fun e => (h4 k hk).elim (fun e2 => by omega) (fun e2 => hn (e ▸ e2))))
    have HF := Lib.hid hfin
    clear hfin h1 h2 h3 h4 h5 xf xh xa hN
    gi_wp2
    refine ⟨by simp, .inl ⟨_, _, rfl, run_takeDeferred hK, ?_⟩⟩
    exact ⟨_, results_none rfl _ _ _, ⟨_, rfl⟩, O1, HF.out⟩
end Go.Proofs.YtpcgmkchflmcmaaGreatDoor.Tr
