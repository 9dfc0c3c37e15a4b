/-
  reached: the search whole: just what is reached is found.
-/
import Derived.Test.YtpcgmkchflmcmaaGreatDoorTrG
namespace Go.Proofs.YtpcgmkchflmcmaaGreatDoor.Tr
open Go.RowKit Go.Shelf
open Class (below_drewN)
open Blk (Cfg allP kAt)
open Bits (SetIs)
open Hp (isO_any Ids St Wf Is To Mine bn bnI bnI_nat fN fE lE lV objL not_mine two_new config_any pkA_len)
open Go.Proofs.YtpcgmkchflmcmaaGreatDoor.Row (Chg Rd Rd0 rowB rowB_none cell_of_block frozen_of_block other same cellsZ cellsZ_length cellsZ_at cellsZ_snoc info_parts infoInt one_at push_row owns_block owns_chg owns_lt owns_less owns_cell owns_cap owns_some)
open Go.Proofs.YtpcgmkchflmcmaaGreatDoor.Addr (Tabs)

section
variable {w wr X Y : World} {H : Nat} {d d0 d' : Ids} {s : St} {m m' : Nat} {f : Fv} {cap base : Nat} {po : Option Addr} {co : Nat} {q : List Nat × List Int}
/-- The heap has turned by loads alone. -/
theorem Rq.turn (h : Rq X H d s m f cap base po co q) (hT : Tn X H d Y d' s m') : Rq Y H d' s m' f cap base po co q := by
  have hb : Below vB X Y := hT.chg.below (fun k hk => h.hi k (.inl hk)) h.vb
  have hk : ∀ k, f.mem k ∨ rowB po k → Y.heap[k]? = X.heap[k]? := fun k hk => hT.chg.block k (h.lt (.inr hk)) (fun e => hk.elim (fun e2 => h.ap k e2 e) (fun e2 => (h.apR k e2).1 e))
  have hn : ∀ k, f.mem k ∨ rowB po k → ¬ Mine H d' k := fun k hk e => (hT.grow k e).elim (fun e => hk.elim (fun e2 => h.ap k e2 e) (fun e2 => (h.apR k e2).1 e)) (fun e => by have := h.lt (.inr hk); omega)
  have hs := hb.size
  refine ⟨hT.is, tabs_vb h.tabs hb, h.set.kept' (hk _ (.inl (.inr (.inr (.inr (.inl rfl)))))) (hk _ (.inl (.inr (.inr (.inr (.inr rfl)))))), (hk _ (.inl (.inl rfl))).trans h.cH, (hk _ (.inl (.inr (.inl rfl)))).trans h.cF, (hk _ (.inl (.inr (.inr (.inl rfl))))).trans h.cO, owns_block h.own (fun g hg => hk g (.inr hg)), h.nd, fun k hk => hn k (.inl hk), fun g hg => ⟨hn g (.inr hg), (h.apR g hg).2⟩, Nat.lt_of_lt_of_le h.ltB hs, Nat.lt_of_lt_of_le h.ltG hs, Nat.le_trans h.bs hs, fun k hk => ?_⟩
  rcases hk with e | e
  · rcases hT.grow k e with e | e
    · exact h.hi k (.inl e)
    · have := h.vb; omega
  · exact h.hi k (.inr e)
theorem Rq.more (h : Rq X H d s m f cap base po co q) (hm : m ≤ m') : Rq X H d s m' f cap base po co q := ⟨h.is.more hm, h.tabs, h.set, h.cH, h.cF, h.cO, h.own, h.nd, h.ap, h.apR, h.ltB, h.ltG, h.bs, h.hi⟩
/-- The last one that is open is taken off. -/
theorem Rq.pop {F : List Nat} {ol : List Int} {a : Int} (h : Rq X H d s m f cap base po co (F, ol ++ [a])) :
    ∃ g, po = some ⟨g, 0, none⟩ ∧ X.cell? ⟨g, ol.length, none⟩ = some (.int .i64 a) ∧ ol.length + 1 ≤ co ∧ Rq (X.setCell ⟨f.Bo, 0, none⟩ (.slice po ol.length co)) H d s m f cap base po co (F, ol) ∧ Chg (OwR H d f po) X (X.setCell ⟨f.Bo, 0, none⟩ (.slice po ol.length co)) := by
  have hlen : (ol ++ [a]).length = ol.length + 1 := by simp
  have ho : X.ownsRow base 3 1 (.slice po (ol ++ [a]).length co) (ol ++ [a]).length (cellsZ (ol ++ [a])) := h.own
  rw [hlen] at ho
  obtain ⟨g, rfl⟩ := Hp.hsome ho
  have hO : f.mem f.Bo := .inr (.inr (.inl rfl))
  have hn := h.nd
  simp only [Fv.l, List.nodup_cons, List.mem_cons, List.not_mem_nil, or_false, not_or] at hn
  have hC : Chg (fun k => k = f.Bo) X (X.setCell ⟨f.Bo, 0, none⟩ (.slice (some ⟨g, 0, none⟩) ol.length co)) := Chg.set (S := fun k => k = f.Bo) (Chg.refl _ _) (.inl rfl) _
  have hk : ∀ k, k < X.heap.size → k ≠ f.Bo → (X.setCell ⟨f.Bo, 0, none⟩ (.slice (some ⟨g, 0, none⟩) ol.length co)).heap[k]? = X.heap[k]? := fun k h1 h2 => hC.block k h1 h2
  have hl : ∀ k, f.mem k → k < X.heap.size := fun k hk => h.lt (.inr (.inl hk))
  have hs := hC.size
  have m1 : f.mem f.Bh := .inl rfl
  have m2 : f.mem f.Bf := .inr (.inl rfl)
  have m4 : f.mem f.B := .inr (.inr (.inr (.inl rfl)))
  have m5 : f.mem f.G := .inr (.inr (.inr (.inr rfl)))
  refine ⟨g, rfl, owns_cell ho ol.length (.int .i64 a) (by rw [cellsZ_snoc, List.getElem?_append_right (by rw [cellsZ_length]; exact Nat.le_refl _), cellsZ_length]; simp), (owns_cap ho).1, ?_, hC.mono (fun k e => .inr (.inl (e ▸ hO)))⟩
  refine ⟨h.is.chg hC (fun k e e2 => h.ap _ hO (e2 ▸ e)), tabs_vb h.tabs (hC.below (fun k e => by rw [e]; exact h.hi _ (.inr (.inl hO))) h.vb), h.set.kept' (hk _ (hl _ m4) (by omega)) (hk _ (hl _ m5) (by omega)), (hk _ (hl _ m1) (by omega)).trans h.cH, (hk _ (hl _ m2) (by omega)).trans h.cF, h.cO.set _, ?_, h.nd, h.ap, h.apR, by have := h.ltB; omega, by have := h.ltG; omega, by have := h.bs; omega, h.hi⟩
  have h2 := owns_less ho (Nat.le_succ ol.length)
  have e : (cellsZ (ol ++ [a])).take ol.length = cellsZ ol := by rw [cellsZ_snoc]; exact List.take_left' (cellsZ_length ol)
  rw [e] at h2
  exact owns_block h2 (fun g' hg => hC.block g' (owns_lt h2 hg).2 (fun e => h.nm hO (by rw [← e]; exact hg)))

/-- Ahead of a look; and while it goes on. -/
def KR0 (H : Nat) (d : Ids) (s : St) (m : Nat) (f : Fv) (cap base : Nat) (po : Option Addr) (co : Nat) (q : List Nat × List Int) (O : Nat → Prop) (X : World) : Prop := O = OwR H d f po ∧ Rq X H d s m f cap base po co q
def KR (H : Nat) (s : St) (m : Nat) (f : Fv) (cap base : Nat) (q : List Nat × List Int) (O : Nat → Prop) (l : List Int) (X : World) : Prop := ∃ d po co, O = OwR H d f po ∧ Rq X H d s m f cap base po co (mts s q l)
theorem meets_reached (hm : m < 800000) (hk4 : ∀ j, kAt s.ks j < 4) (hw : Wf s) (hq : Sq s q) (hl : un s q.1 + q.2.length ≤ 1048576) : Meets 60 #[] #[.pointer (some ⟨f.Bh, 0, none⟩), .pointer (some ⟨f.Bf, 0, none⟩), .pointer (some ⟨f.Bo, 0, none⟩)] H s vB (KR0 H d s m f cap base po co q) (KR H s (m + 40) f cap base q) := by
  refine ⟨enters_of Tryz.func60 (by kernel_rfl) rfl, ?_, ?_, ?_, ?_, ?_, ?_⟩
  · rintro O l X Y ⟨d, po, co, rfl, h⟩ hb hk
    exact ⟨d, po, co, rfl, h.kept hb hk⟩
  · rintro O X Y ⟨rfl, h⟩ hb hk
    exact ⟨rfl, h.kept hb hk⟩
  · rintro O X ⟨rfl, h⟩ k hk
    exact h.lt hk
  · rintro O l X ⟨d, po, co, rfl, h⟩ k hk
    exact h.lt hk
  · rintro O l v X ⟨d, po, co, rfl, h⟩
    have hle := un_mts hw hk4 l hq
    refine (met_any v X h (by omega)).mono ?_
    rintro e X' ⟨he, po', co', h1, h2, h3⟩
    rw [← mts_snoc] at h1
    exact ⟨he, _, ⟨d, po', co', rfl, h1⟩, h2, fun k hk => hk.elim (fun e => .inl (.inl e)) (fun e => e.elim (fun e => .inl (.inr (.inl e))) (fun e => (h3 k e).imp (fun e => .inr (.inr e)) id))⟩
  · rintro O X ⟨rfl, h⟩
    refine ⟨d, m, h.is, h.tabs, hm, fun k hk => .inl hk, ?_⟩
    rintro X' hI ⟨_, h'⟩ Y d' hT
    exact ⟨_, ⟨d', po, co, rfl, h'.turn hT⟩, fun k hk => hk.elim .inl (fun e => .inr (.inr e))⟩
end
end Go.Proofs.YtpcgmkchflmcmaaGreatDoor.Tr
