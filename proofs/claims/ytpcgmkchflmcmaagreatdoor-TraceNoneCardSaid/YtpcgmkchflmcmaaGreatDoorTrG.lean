/-
  reached: its closure, in memory, step by step; the search whole.
-/
import Derived.Test.YtpcgmkchflmcmaaGreatDoorTrE
import Derived.Test.YtpcgmkchflmcmaaGreatDoorTrF
import Derived.Maps.AppendAt
import Derived.Deep.LoopGhost
namespace Go.Proofs.YtpcgmkchflmcmaaGreatDoor.Tr
open Go.RowKit Go.Shelf
open Class (below_drewN)
open Blk (Cfg allP kAt)
open Bits (SetIs)
open Hp (isO_any Ids St Wf Is To Mine bn bnI bnI_nat fN fE lE lV objL not_mine two_new config_any)
open Go.Proofs.YtpcgmkchflmcmaaGreatDoor.Row (Chg Rd Rd0 rowB rowB_none cell_of_block frozen_of_block other same cellsZ cellsZ_length cellsZ_at cellsZ_snoc info_parts infoInt one_at push_row owns_block owns_chg owns_lt owns_less owns_cell owns_cap owns_some)
open Go.Proofs.YtpcgmkchflmcmaaGreatDoor.Addr (Tabs)

/-- The five blocks of a search beside its row. -/
structure Fv where
  Bh : Nat
  Bf : Nat
  Bo : Nat
  B : Nat
  G : Nat
def Fv.l (f : Fv) : List Nat := [f.Bh, f.Bf, f.Bo, f.B, f.G]
def Fv.mem (f : Fv) (k : Nat) : Prop := k = f.Bh ∨ k = f.Bf ∨ k = f.Bo ∨ k = f.B ∨ k = f.G
/-- Its blocks. -/
def OwR (H : Nat) (d : Ids) (f : Fv) (po : Option Addr) (k : Nat) : Prop := Mine H d k ∨ f.mem k ∨ rowB po k
/-- All variables that the program reads lie below this. -/
def vB : Nat := max (max 1 2) 0 + 1
theorem tabs_vb {X Y : World} (h : Tabs X) (hb : Below vB X Y) : Tabs Y := h.below hb (by unfold vB; omega) (by unfold vB; omega)
theorem tz_vb {X Y : World} (h : Bits.TzTab X) (hb : Below vB X Y) : Bits.TzTab Y := h.below hb (by unfold vB; omega)
/-- A search in memory: the set, what is open. -/
structure Rq (X : World) (H : Nat) (d : Ids) (s : St) (m : Nat) (f : Fv) (cap base : Nat) (po : Option Addr) (co : Nat) (q : List Nat × List Int) : Prop where
  is : Is X H d s m
  tabs : Tabs X
  set : SetIs X f.B f.G (s.ws.length + 1) cap q.1
  cH : Boxed X f.Bh 32 (.pointer (some ⟨H, 0, none⟩))
  cF : Boxed X f.Bf 69 (.pointer (some ⟨f.B, 0, none⟩))
  cO : Boxed X f.Bo 28 (.slice po q.2.length co)
  own : X.ownsRow base 3 1 (.slice po q.2.length co) q.2.length (cellsZ q.2)
  nd : f.l.Nodup
  ap : ∀ k, f.mem k → ¬ Mine H d k
  apR : ∀ g, rowB po g → ¬ Mine H d g ∧ ¬ f.mem g
  ltB : f.B < X.heap.size
  ltG : f.G < X.heap.size
  bs : base ≤ X.heap.size
  hi : ∀ k, OwR H d f po k → vB ≤ k

section
variable {X Y : World} {H : Nat} {d d' : Ids} {s : St} {m m' : Nat} {f : Fv} {cap base : Nat} {po : Option Addr} {co : Nat} {q : List Nat × List Int}
theorem Rq.lt (h : Rq X H d s m f cap base po co q) {k : Nat} (hk : OwR H d f po k) : k < X.heap.size := by
  have h1 := h.cH.lt
  have h2 := h.cF.lt
  have h3 := h.cO.lt
  have h4 := h.ltB
  have h5 := h.ltG
  rcases hk with e | e | e
  · exact h.is.lt e
  · unfold Fv.mem at e; omega
  · exact (owns_lt h.own e).2
/-- What leaves its blocks leaves it. -/
theorem Rq.kept (h : Rq X H d s m f cap base po co q) (hb : Below vB X Y) (hk : ∀ k, OwR H d f po k → Y.heap[k]? = X.heap[k]?) : Rq Y H d s m f cap base po co q :=
  have hs := hb.size
  ⟨h.is.kept (fun k e => hk k (.inl e)) hs, tabs_vb h.tabs hb, h.set.kept' (hk _ (.inr (.inl (.inr (.inr (.inr (.inl rfl))))))) (hk _ (.inr (.inl (.inr (.inr (.inr (.inr rfl))))))),
    (hk _ (.inr (.inl (.inl rfl)))).trans h.cH, (hk _ (.inr (.inl (.inr (.inl rfl))))).trans h.cF, (hk _ (.inr (.inl (.inr (.inr (.inl rfl)))))).trans h.cO, owns_block h.own (fun g hg => hk g (.inr (.inr hg))), h.nd, h.ap, h.apR, Nat.lt_of_lt_of_le h.ltB hs, Nat.lt_of_lt_of_le h.ltG hs, Nat.le_trans h.bs hs, h.hi⟩
theorem Rq.vb (h : Rq X H d s m f cap base po co q) : vB ≤ X.heap.size := by
  have h1 := h.hi f.G (.inr (.inl (.inr (.inr (.inr (.inr rfl))))))
  have h2 := h.ltG
  omega
theorem Rq.later (h : Rq X H d s m f cap base po co q) (hb : Below X.heap.size X Y) : Rq Y H d s m f cap base po co q := h.kept (hb.mono h.vb) (fun k hk => hb.block k (h.lt hk))
theorem Rq.drewN (h : Rq X H d s m f cap base po co q) (n : Nat) : Rq (X.drewN n) H d s m f cap base po co q := h.later (below_drewN (Below.refl _ _) n)
theorem Rq.nm (h : Rq X H d s m f cap base po co q) {k : Nat} (hk : f.mem k) : ¬ rowB po k := fun e => (h.apR k e).2 hk
/-- One number laid into the set. -/
theorem Rq.put (h : Rq X H d s m f cap base po co q) {F : List Nat} (hs : SetIs Y f.B f.G (s.ws.length + 1) cap F) (hg : X.grownBy Y (some f.G)) (hz : Y.heap.size = X.heap.size) : Rq Y H d s m f cap base po co (F, q.2) ∧ Chg (fun k => k = f.G) X Y := by
  have hk : ∀ k, k < X.heap.size → k ≠ f.G → Y.heap[k]? = X.heap[k]? := fun k h1 h2 => hg.block k h1 (fun e => h2 (Option.some.inj e))
  have hn := h.nd
  simp only [Fv.l, List.nodup_cons, List.mem_cons, List.not_mem_nil, or_false, not_or] at hn
  have hG : f.mem f.G := .inr (.inr (.inr (.inr rfl)))
  have hC : Chg (fun k => k = f.G) X Y := ⟨hg.os, hg.tape, hg.output, by omega, fun k h1 h2 => hk k h1 h2⟩
  refine ⟨⟨h.is.chg hC (fun k e e2 => h.ap _ hG (e2 ▸ e)), tabs_vb h.tabs (hC.below (fun k e => by rw [e]; exact h.hi _ (.inr (.inl hG))) h.vb), hs, (hk _ h.cH.lt (by omega)).trans h.cH, (hk _ h.cF.lt (by omega)).trans h.cF, (hk _ h.cO.lt (by omega)).trans h.cO, owns_chg h.own hC (fun g hg e => h.nm hG (e ▸ hg)), h.nd, h.ap, h.apR, by have := h.ltB; omega, by have := h.ltG; omega, by have := h.bs; omega, h.hi⟩, hC⟩
/-- One number more is open. -/
theorem Rq.push {Y0 w3 : World} {v' : Value} {v : Int} (h : Rq X H d s m f cap base po co q) (hb : Below X.heap.size X Y0)
    (hown : w3.ownsRow base 3 1 v' (q.2.length + 1) (cellsZ q.2 ++ [.int .i64 v])) (hg : Y0.grownBy w3 (Value.slice po q.2.length co).ownBlock)
    (hat : v'.ownBlock = (Value.slice po q.2.length co).ownBlock ∨ v'.ownBlock = some Y0.heap.size) :
    ∃ po' co', v' = .slice po' (q.2.length + 1) co' ∧ Rq (w3.setCell ⟨f.Bo, 0, none⟩ v') H d s m f cap base po' co' (q.1, q.2 ++ [v]) ∧ Chg (OwR H d f po) X (w3.setCell ⟨f.Bo, 0, none⟩ v') ∧ (∀ k, rowB po' k → rowB po k ∨ X.heap.size ≤ k) ∧ w3.cell? ⟨f.Bo, 0, none⟩ = some (.slice po q.2.length co) ∧ w3.frozen? ⟨f.Bo, 0, none⟩ = false := by
  obtain ⟨po', co', rfl, hC, hR⟩ := push_row hb hown hg hat
  have hO : f.mem f.Bo := .inr (.inr (.inl rfl))
  have hvb := h.vb
  have hBo : w3.heap[f.Bo]? = X.heap[f.Bo]? := hC.block _ h.cO.lt (h.nm hO)
  have hbox : Boxed w3 f.Bo 28 (.slice po q.2.length co) := hBo.trans h.cO
  have hC2 : Chg (fun k => k = f.Bo ∨ rowB po k) X (w3.setCell ⟨f.Bo, 0, none⟩ (.slice po' (q.2.length + 1) co')) := Chg.set (S := fun k => k = f.Bo ∨ rowB po k) (hC.mono fun _ e => .inr e) (.inl (.inl rfl)) _
  have hn := h.nd
  simp only [Fv.l, List.nodup_cons, List.mem_cons, List.not_mem_nil, or_false, not_or] at hn
  have hk : ∀ k, f.mem k → k ≠ f.Bo → k < X.heap.size → (w3.setCell ⟨f.Bo, 0, none⟩ (.slice po' (q.2.length + 1) co')).heap[k]? = X.heap[k]? := fun k h1 h2 h3 => hC2.block k h3 (fun e => e.elim h2 (h.nm h1))
  have hlt : ∀ k, f.mem k → k < X.heap.size := fun k hk => h.lt (.inr (.inl hk))
  have hne' : ¬ rowB po' f.Bo := fun e => (hR _ e).elim (h.nm hO) (by have := h.cO.lt; omega)
  have hlen : (q.2 ++ [v]).length = q.2.length + 1 := by simp
  have m1 : f.mem f.Bh := .inl rfl
  have m2 : f.mem f.Bf := .inr (.inl rfl)
  have m4 : f.mem f.B := .inr (.inr (.inr (.inl rfl)))
  have m5 : f.mem f.G := .inr (.inr (.inr (.inr rfl)))
  have hsz := hC2.size
  refine ⟨po', co', rfl, ⟨h.is.chg hC2 (fun k e e2 => e2.elim (fun e3 => h.ap _ hO (e3 ▸ e)) (fun e3 => (h.apR k e3).1 e)), tabs_vb h.tabs (hC2.below (fun k e => h.hi k (e.elim (fun e => .inr (.inl (e ▸ hO))) (fun e => .inr (.inr e)))) hvb),
    h.set.kept' (hk _ m4 (by omega) (hlt _ m4)) (hk _ m5 (by omega) (hlt _ m5)), (hk _ m1 (by omega) (hlt _ m1)).trans h.cH, (hk _ m2 (by omega) (hlt _ m2)).trans h.cF, ?_, ?_, h.nd, h.ap, fun g hg => ?_, by have := h.ltB; omega, by have := h.ltG; omega, by have := h.bs; omega, fun k hk => ?_⟩,
    hC2.mono (fun k e => e.elim (fun e => .inr (.inl (e ▸ hO))) (fun e => .inr (.inr e))), hR, hbox.cell, hbox.frozen⟩
  · rw [hlen]; exact hbox.set _
  · rw [hlen, cellsZ_snoc]
    exact owns_block hown (fun g hg => Below.heap_setCell _ _ _ _ (fun e => hne' (by rw [← (show g = f.Bo from e)]; exact hg)))
  · rcases hR g hg with e | e
    · exact h.apR g e
    · exact ⟨fun e2 => by have := h.is.lt e2; omega, fun e2 => by have := hlt g e2; omega⟩
  · rcases hk with e | e | e
    · exact h.hi k (.inl e)
    · exact h.hi k (.inr (.inl e))
    · rcases hR k e with e | e
      · exact h.hi k (.inr (.inr e))
      · omega

set_option maxRecDepth 100000 in
set_option maxHeartbeats 2000000 in
theorem met_any (v : Int) (X : World) (h : Rq X H d s m f cap base po co q) (hl : q.2.length ≤ 1048576) :
    Calls Tryz.prog 60 #[.int .i64 v, .pointer (some ⟨f.Bh, 0, none⟩), .pointer (some ⟨f.Bf, 0, none⟩), .pointer (some ⟨f.Bo, 0, none⟩)] X fun e X' => (∃ u, e = .returned u) ∧ ∃ po' co', Rq X' H d s m f cap base po' co' (stp s q v) ∧ Chg (OwR H d f po) X X' ∧ ∀ k, rowB po' k → rowB po k ∨ X.heap.size ≤ k := by
  have HIS := Lib.hid (isO_any v X h.is)
  have cH := h.cH.cell
  have cF := h.cF.cell
  have cO := h.cO.cell
  have HH := Lib.hid h
  have HB := Lib.hid (below_drewN (Below.refl X.heap.size X))
  cases hb : bnI s v with
  | false =>
    have e : stp s q v = q := by unfold stp; rw [if_neg (by simp [hb])]
    rw [hb] at HIS
    rw [e]
    clear h e
    go_enter Tryz.func60, Tryz.ntmps60
    go_wp2_with (go_at_call 39; refine HIS.out.mono ?_; rintro e w' ⟨rfl, k, rfl⟩)
    go_end0
    exact ⟨⟨_, rfl⟩, po, co, HH.out.drewN k, Chg.of_below (HB.out k), fun k hk => .inl hk⟩
  | true =>
    rw [hb] at HIS
    have hn := h.nd
    simp only [Fv.l, List.nodup_cons, List.mem_cons, List.not_mem_nil, or_false, not_or] at hn
    have HP := Lib.hid (fun k => Bits.put_any f.B f.G (s.ws.length + 1) cap q.1 v true (X.drewN k) (h.set.drewN k) (by omega))
    have HPU := Lib.hid (fun k (F : List Nat) (Y : World) hs hg hz => (h.drewN k).put (Y := Y) (F := F) hs hg hz)
    have hlt := bnI_lt h.is.wf hb
    have hmay : Bits.mayB v (s.ws.length + 1 : Nat) = true := by have := (bnI_pos hb).1; simp [Bits.mayB]; omega
    have hR : Bits.putR (s.ws.length + 1) q.1 v true = !hasI q.1 v := by unfold Bits.putR hasI; rw [hmay]; cases hasB q.1 v.toNat <;> rfl
    have hG : f.mem f.G := .inr (.inr (.inr (.inr rfl)))
    cases hf : hasI q.1 v with
    | true =>
      have e : stp s q v = q := by unfold stp; rw [if_neg (by simp [hf])]
      have e2 : Bits.putS (s.ws.length + 1) q.1 v true = q.1 := by unfold Bits.putS; rw [hR, hf]; rfl
      rw [e2, hR, hf] at HP
      rw [e]
      clear h e e2 hn hmay hR
      go_enter Tryz.func60, Tryz.ntmps60
      go_wp2_with (first
        | (go_at_call 39; refine HIS.out.mono ?_; rintro e w' ⟨rfl, k, rfl⟩)
        | (go_at_call 61; refine (HP.out k).mono ?_; rintro e w' ⟨rfl, h1, h2, h3⟩; obtain ⟨g1, g2⟩ := HPU.out k _ _ h1 h2 h3; have HG := Lib.hid (And.intro g1 g2); clear h1 h2 h3 g1 g2))
      go_end0
      exact ⟨⟨_, rfl⟩, po, co, HG.out.1, (Chg.of_below (HB.out k)).trans (HG.out.2.mono (fun k e => (.inr (.inl (e ▸ hG)) : OwR H d f po k))) (fun k e => .inl e), fun k hk => .inl hk⟩
    | false =>
      obtain ⟨i0, hinf, hz0, hz1, hz2⟩ := info_parts infoInt
      have e : stp s q v = (putW q.1 v.toNat, q.2 ++ [v]) := by unfold stp; rw [if_pos ⟨hb, hf⟩]
      have e2 : Bits.putS (s.ws.length + 1) q.1 v true = putW q.1 v.toNat := by unfold Bits.putS; rw [hR, hf]; rfl
      rw [e2, hR, hf] at HP
      rw [e]
      have HPS := Lib.hid (fun (Y Y0 w3 : World) (v' : Value) (g : Rq Y H d s m f cap base po co (putW q.1 v.toNat, q.2)) hb a b c => g.push (Y0 := Y0) (w3 := w3) (v' := v') (v := v) hb a b c)
      have hBoG : f.Bo ≠ f.G := by omega
      have hbs := h.bs
      have hkO := Lib.hid (show ∀ Y : World, Chg (fun k => k = f.G) X Y → Y.cell? ⟨f.Bo, 0, none⟩ = some (.slice po q.2.length co) from fun Y hc => (hc.cell (p := ⟨f.Bo, 0, none⟩) h.cO.lt hBoG).trans cO)
      clear h e e2 hn hmay hR
      go_enter Tryz.func60, Tryz.ntmps60
      go_wp2_with (first
        | (go_at_call 39; refine HIS.out.mono ?_; rintro e w' ⟨rfl, k, rfl⟩)
        | (go_at_call 61; refine (HP.out k).mono ?_; rintro e w2 ⟨rfl, h1, h2, h3⟩; obtain ⟨g1, g2⟩ := HPU.out k _ _ h1 h2 h3; have hc2 := hkO.out w2 ((Chg.of_below (HB.out k)).trans g2 (fun k e => .inl e)); have hz2 : X.heap.size = w2.heap.size := h3.symm; have hl2 : f.Bo < w2.heap.size := g1.cO.lt; have HG := Lib.hid (And.intro g1 g2); have HOW : Hid (w2.ownsRow base 3 1 (.slice po q.2.length co) q.2.length (cellsZ q.2)) := Lib.hid g1.own; clear h1 h2 h3 g1 g2)
        | (at_builtin; refine wpList_append_own_at _ rfl _ _ 28 rfl base 3 i0 (.int .i64 0) 1 8 Tryz.underlying28 hinf hz0 hz1 ‹i0.bytes = 8› rfl (by decide) _ _ (cellsZ q.2) rfl (owns_block HOW.out (fun g hg => Below.heap_alloc _ _ _ (by simpa using (owns_lt HOW.out hg).2))) ⟨w2.heap.size, 0, none⟩ 1 1 [.int .i64 v] rfl rfl (one_at rfl) (by simp [Value.oneCell']) (by unfold maxLen; omega) (by omega) (by simp; omega) ?_))
      intro v' w3 hown hgrow _ hat
      obtain ⟨po', co', rfl, hR, hC, hR', hc3, hf3⟩ := HPS.out w2 _ w3 v' HG.out.1 ((Below.refl _ w2).alloc (Nat.le_refl _) _) hown hgrow (by simpa using hat)
      have HF := Lib.hid (And.intro hR (And.intro hC hR'))
      have HZ := Lib.hid hz2
      clear hown hgrow hat hR hC hR'
      go_wp2
      go_end0
      refine ⟨⟨_, rfl⟩, po', co', HF.out.1, ?_, fun k hk => (HF.out.2.2 k hk).imp id (fun e => by have := HZ.out; omega)⟩
      exact ((Chg.of_below (HB.out k)).trans (HG.out.2.mono (fun k e => (.inr (.inl (e ▸ hG)) : OwR H d f po k))) (fun k e => .inl e)).trans HF.out.2.1 (fun k e => .inl e)
end
end Go.Proofs.YtpcgmkchflmcmaaGreatDoor.Tr
