/-
  A heap and a cursor on it: Step.
-/
import Derived.Test.YtbejddpfnglkbaaGreatDoorSwA
namespace Go.Proofs.YtbejddpfnglkbaaGreatDoor.Sw
open Go.RowKit
open Blk (Cfg)
open Hp (Ids St Wf Is To Mine bnI bn coE coV frE frS colB)
open Go.Proofs.YtbejddpfnglkbaaGreatDoor.Row (Chg Rd cell_of_block frozen_of_block other same rowB)
open Go.Proofs.YtbejddpfnglkbaaGreatDoor.Addr (Tabs)

/-- Is a slot's turn its end? What is there then; what is told. -/
def swB (s : St) (col a : Int) : Bool := bnI s a && !(coV s a == col)
def swT (s : St) (col a : Int) : St := if swB s col a = true then frS s a.toNat else s
def swV (s : St) (col a : Int) : Int := if swB s col a = true then a else 0

/-- A heap and a cursor on it, since w1. -/
structure Hc (w1 : World) (H : Nat) (d0 : Ids) (C : Nat) (w : World) (d : Ids) (s : St) (m : Nat) (b col : Int) (p : Option Addr) (cap : Nat) (L : List Int) : Prop where
  is : Is w H d s m
  tb : Tabs w
  cu : CuIs w C H b col p cap L
  nC : ¬ Mine H d C
  nR : ∀ g, rowB p g → ¬ Mine H d g
  hi : 1 < C ∧ 0 < C
  chg : Chg (fun k => Mine H d0 k ∨ k = C) w1 w
  inD : ∀ k, Mine H d k → Mine H d0 k ∨ w1.heap.size ≤ k
section
variable {w1 w w' : World} {H C m m' : Nat} {d0 d : Ids} {s s' : St} {b col : Int} {p : Option Addr} {cap : Nat} {L : List Int}
theorem Hc.heap (h : Hc w1 H d0 C w d s m b col p cap L) (hT : To w w' H d s' m') : ∃ d', Hc w1 H d0 C w' d' s' m' b col p cap L := by
  obtain ⟨d', g1, g2, g3⟩ := hT
  have hs := h.chg.size
  exact ⟨d', g1, h.is.tabs g2 h.tb, h.cu.chg g2 h.nC h.nR, fun e => (g3 C e).elim h.nC (fun x => by have := h.cu.ltC; omega), fun g hg e => (g3 g e).elim (h.nR g hg) (fun x => by have := h.cu.lt g hg; omega), h.hi,
    h.chg.trans g2 (fun q e => (h.inD q e).imp .inl id), fun k e => (g3 k e).elim (h.inD k) (fun x => .inr (by omega))⟩
theorem Hc.later (h : Hc w1 H d0 C w d s m b col p cap L) (hb : Below w.heap.size w w') : Hc w1 H d0 C w' d s m b col p cap L :=
  ⟨h.is.later hb, h.tb.later hb, h.cu.later hb, h.nC, h.nR, h.hi, h.chg.trans (Chg.of_below (S := fun k => Mine H d0 k ∨ k = C) hb) (fun _ e => .inl e), h.inD⟩
theorem Hc.turn (h : Hc w1 H d0 C w d s m b col p cap L) {v : Value} {p' : Option Addr} {cap' : Nat} {L' : List Int} (hcu : CuIs (w.setCell ⟨C, 3, none⟩ v) C H b col p' cap' L') (hp : ∀ g, rowB p' g → rowB p g) : Hc w1 H d0 C (w.setCell ⟨C, 3, none⟩ v) d s m b col p' cap' L' := by
  have hC : Chg (fun k => k = C) w (w.setCell ⟨C, 3, none⟩ v) := Chg.set (S := fun k => k = C) (Chg.refl _ w) (.inl rfl) _
  have hl := h.cu.ltC
  have hb : Below (max 1 0 + 1) w (w.setCell ⟨C, 3, none⟩ v) := hC.below (fun k hk => by have := h.hi; omega) (by have := h.hi; omega)
  exact ⟨h.is.chg hC (fun k e e2 => h.nC (e2 ▸ e)), h.tb.below hb (by omega) (by omega), hcu, h.nC, fun g hg => h.nR g (hp g hg), h.hi, h.chg.trans hC (fun q e => .inl (.inr e)), h.inD⟩

set_option maxRecDepth 100000 in
set_option maxHeartbeats 2000000 in
theorem step_any {a : Int} {t : List Int} (w : World) (h : Hc w1 H d0 C w d s m b col p cap (a :: t)) (hm : m < 700000) :
    Calls Tryz.prog 20 #[.pointer (some ⟨C, 0, none⟩)] w fun e w' => e = .returned (.tuple #[.int .i64 (swV s col a), .bool (swB s col a)]) ∧
      ∃ d' p' cap', Hc w1 H d0 C w' d' (swT s col a) (m + 1) b col p' cap' t ∧ ∀ g, rowB p' g → rowB p g := by
  obtain ⟨g, off, hp, hx⟩ := h.cu.rd.at (j := 0) (by simp)
  subst hp
  rw [List.getD_cons_zero, Nat.add_zero] at hx
  have c3 := h.cu.c3
  have c0 := h.cu.c0
  have f3 := h.cu.f3
  have hlc := h.cu.le
  rw [List.length_cons] at c3 hlc
  have HDN := Lib.hid (done_any w h.cu false (by rw [List.length_cons, beq_eq_false_iff_ne]; omega))
  have hl0 : (0 : Int) < (t.length : Int) + 1 := by omega
  have hl1 : (1 : Int) ≤ (t.length : Int) + 1 := by omega
  have hl2 : (0 : Int) ≤ (t.length : Int) := by omega
  by_cases hc1 : cap = 1
  · subst hc1
    have ht0 : t = [] := List.eq_nil_of_length_eq_zero (by omega)
    subst ht0
    have HN := Lib.hid (h.turn h.cu.last (fun _ e => e))
    simp only [List.length_nil] at c3 hlc hl0
    clear h hlc hl1 hl2
    go_enter Tryz.func20, Tryz.ntmps20
    go_wp2_with (go_at_call 18; refine HDN.out.mono ?_; rintro e w' ⟨rfl, rfl⟩)
    have HN2 := HN
    clear HN HDN hx c3 f3 c0
    change Hid (Hc _ _ _ _ (w.setCell ⟨C, 3, none⟩ (.slice (some ⟨g, off, none⟩) 0 0)) _ _ _ _ _ _ _ _) at HN2
    generalize w.setCell ⟨C, 3, none⟩ (.slice (some ⟨g, off, none⟩) 0 0) = wq at *
    refine (Hp.color_any' a wq HN2.out.is).mono ?_
    rintro e w2 ⟨rfl, hb2⟩
    have HN3 := Lib.hid (HN2.out.later hb2)
    clear hb2 HN2
    have c0 := HN3.out.cu.c0
    have c2 := HN3.out.cu.c2
    by_cases hbn : bnI s a = true
    · have hE : coE s a = 0 := by rw [coE, if_pos hbn]
      rw [hE]
      by_cases hcc : coV s a = col
      · have bcc : (coV s a == col) = true := by rw [beq_iff_eq]; exact hcc
        have e1 : swB s col a = false := by simp [swB, bcc]
        have e2 : swT s col a = s := by rw [swT, e1]; rfl
        have e3 : swV s col a = 0 := by rw [swV, e1]; rfl
        have E1 := Lib.hid e1
        have E2 := Lib.hid e2
        have E3 := Lib.hid e3
        clear e1 e2 e3
        go_wp2
        go_ret2
        rw [E1.out, E2.out, E3.out]
        exact ⟨rfl, _, _, _, { HN3.out with is := HN3.out.is.more (Nat.le_succ _) }, fun k e => by cases e; rfl⟩
      · have bcc : (coV s a == col) = false := by rw [beq_eq_false_iff_ne]; exact hcc
        have e1 : swB s col a = true := by simp [swB, bcc, hbn]
        have e2 : swT s col a = frS s a.toNat := by rw [swT, if_pos e1]
        have e3 : swV s col a = a := by rw [swV, if_pos e1]
        have hF : frE s a = 0 := by rw [frE, if_pos hbn]
        have E1 := Lib.hid e1
        have E2 := Lib.hid e2
        have E3 := Lib.hid e3
        clear e1 e2 e3
        go_wp2_with fail
        refine (Hp.free_any a w2 HN3.out.is HN3.out.tb (by omega)).mono ?_
        rintro e w3 ⟨rfl, hT⟩
        rw [hF, if_pos rfl] at hT
        rw [hF]
        obtain ⟨d4, hH4⟩ := HN3.out.heap hT
        have HN4 := Lib.hid hH4
        clear hT hH4 HN3
        go_wp2
        go_ret2
        rw [E1.out, E2.out, E3.out]
        exact ⟨rfl, _, _, _, HN4.out, fun k e => by cases e; rfl⟩
    · have hE : coE s a = 1 := by rw [coE, if_neg hbn]
      have e1 : swB s col a = false := by simp [swB, hbn]
      have e2 : swT s col a = s := by rw [swT, e1]; rfl
      have e3 : swV s col a = 0 := by rw [swV, e1]; rfl
      rw [hE]
      have E1 := Lib.hid e1
      have E2 := Lib.hid e2
      have E3 := Lib.hid e3
      clear e1 e2 e3
      go_wp2
      go_ret2
      rw [E1.out, E2.out, E3.out]
      exact ⟨rfl, _, _, _, { HN3.out with is := HN3.out.is.more (Nat.le_succ _) }, fun k e => by cases e; rfl⟩
  · have HN := Lib.hid (h.turn h.cu.next (fun k e => by cases e; rfl))
    clear h
    go_enter Tryz.func20, Tryz.ntmps20
    go_wp2_with (go_at_call 18; refine HDN.out.mono ?_; rintro e w' ⟨rfl, rfl⟩)
    have HN2 := HN
    clear HN HDN hx c3 f3 c0
    change Hid (Hc _ _ _ _ (w.setCell ⟨C, 3, none⟩ (.slice (some ⟨g, off + 1, none⟩) t.length (cap - 1))) _ _ _ _ _ _ _ _) at HN2
    generalize w.setCell ⟨C, 3, none⟩ (.slice (some ⟨g, off + 1, none⟩) t.length (cap - 1)) = wq at *
    refine (Hp.color_any' a wq HN2.out.is).mono ?_
    rintro e w2 ⟨rfl, hb2⟩
    have HN3 := Lib.hid (HN2.out.later hb2)
    clear hb2 HN2
    have c0 := HN3.out.cu.c0
    have c2 := HN3.out.cu.c2
    by_cases hbn : bnI s a = true
    · have hE : coE s a = 0 := by rw [coE, if_pos hbn]
      rw [hE]
      by_cases hcc : coV s a = col
      · have bcc : (coV s a == col) = true := by rw [beq_iff_eq]; exact hcc
        have e1 : swB s col a = false := by simp [swB, bcc]
        have e2 : swT s col a = s := by rw [swT, e1]; rfl
        have e3 : swV s col a = 0 := by rw [swV, e1]; rfl
        have E1 := Lib.hid e1
        have E2 := Lib.hid e2
        have E3 := Lib.hid e3
        clear e1 e2 e3
        go_wp2
        go_ret2
        rw [E1.out, E2.out, E3.out]
        exact ⟨rfl, _, _, _, { HN3.out with is := HN3.out.is.more (Nat.le_succ _) }, fun k e => by cases e; rfl⟩
      · have bcc : (coV s a == col) = false := by rw [beq_eq_false_iff_ne]; exact hcc
        have e1 : swB s col a = true := by simp [swB, bcc, hbn]
        have e2 : swT s col a = frS s a.toNat := by rw [swT, if_pos e1]
        have e3 : swV s col a = a := by rw [swV, if_pos e1]
        have hF : frE s a = 0 := by rw [frE, if_pos hbn]
        have E1 := Lib.hid e1
        have E2 := Lib.hid e2
        have E3 := Lib.hid e3
        clear e1 e2 e3
        go_wp2_with fail
        refine (Hp.free_any a w2 HN3.out.is HN3.out.tb (by omega)).mono ?_
        rintro e w3 ⟨rfl, hT⟩
        rw [hF, if_pos rfl] at hT
        rw [hF]
        obtain ⟨d4, hH4⟩ := HN3.out.heap hT
        have HN4 := Lib.hid hH4
        clear hT hH4 HN3
        go_wp2
        go_ret2
        rw [E1.out, E2.out, E3.out]
        exact ⟨rfl, _, _, _, HN4.out, fun k e => by cases e; rfl⟩
    · have hE : coE s a = 1 := by rw [coE, if_neg hbn]
      have e1 : swB s col a = false := by simp [swB, hbn]
      have e2 : swT s col a = s := by rw [swT, e1]; rfl
      have e3 : swV s col a = 0 := by rw [swV, e1]; rfl
      rw [hE]
      have E1 := Lib.hid e1
      have E2 := Lib.hid e2
      have E3 := Lib.hid e3
      clear e1 e2 e3
      go_wp2
      go_ret2
      rw [E1.out, E2.out, E3.out]
      exact ⟨rfl, _, _, _, { HN3.out with is := HN3.out.is.more (Nat.le_succ _) }, fun k e => by cases e; rfl⟩
end
end Go.Proofs.YtbejddpfnglkbaaGreatDoor.Sw
