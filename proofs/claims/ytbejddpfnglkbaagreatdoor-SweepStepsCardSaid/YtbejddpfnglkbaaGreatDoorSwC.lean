/-
  What steps free until they are done.
-/
import Derived.Test.YtbejddpfnglkbaaGreatDoorSwB
namespace Go.Proofs.YtbejddpfnglkbaaGreatDoor.Sw
open Go.RowKit
open Blk (Cfg)
open Hp (Ids St Wf Is To Mine bnI bn coE coV frE frS colB holdsF)
open Go.Proofs.YtbejddpfnglkbaaGreatDoor.Row (Chg Rd cell_of_block frozen_of_block other same rowB cellsZ cellsZ_snoc owns_lt owns_chg owns_slice owns_base push_row info_parts infoInt one_at)
open Go.Proofs.YtbejddpfnglkbaaGreatDoor.Addr (Tabs)

/-- What is there behind all turns; what they free. -/
def swS (s : St) (col : Int) : List Int → St
  | [] => s
  | a :: l => swS (swT s col a) col l
def swF (s : St) (col : Int) : List Int → List Int
  | [] => []
  | a :: l => (if swB s col a = true then [a] else []) ++ swF (swT s col a) col l
theorem swF_len (s : St) (col : Int) (l : List Int) : (swF s col l).length ≤ l.length := by
  induction l generalizing s with
  | nil => exact Nat.le_refl _
  | cons a l ih =>
    have := ih (swT s col a)
    unfold swF
    split <;> simp <;> omega

section
variable {w1 w w' : World} {H C m m' : Nat} {d0 d d' : Ids} {s s' : St} {b col : Int} {p p' : Option Addr} {cap cap' : Nat} {L L' : List Int}
theorem Hc.self (h : Hc w1 H d0 C w d s m b col p cap L) : Hc w H d C w d s m b col p cap L := ⟨h.is, h.tb, h.cu, h.nC, h.nR, h.hi, Chg.refl _ _, fun _ e => .inl e⟩
theorem Hc.trans (h : Hc w1 H d0 C w d s m b col p cap L) (h2 : Hc w H d C w' d' s' m' b col p' cap' L') : Hc w1 H d0 C w' d' s' m' b col p' cap' L' :=
  ⟨h2.is, h2.tb, h2.cu, h2.nC, h2.nR, h2.hi, h.chg.trans h2.chg (fun q e => e.elim (fun e => (h.inD q e).imp .inl id) (fun e => .inl (.inr e))), fun k e => (h2.inD k e).elim (h.inD k) (fun x => .inr (by have := h.chg.size; omega))⟩
theorem Hc.blocks {S : Nat → Prop} (h : Hc w1 H d0 C w d s m b col p cap L) (hc : Chg S w w') (hS : ∀ g, S g → ¬ Mine H d g ∧ g ≠ C ∧ ¬ rowB p g ∧ w1.heap.size ≤ g) (hC : C < w1.heap.size) : Hc w1 H d0 C w' d s m b col p cap L :=
  have hs := h.chg.size
  have hb : Below (max 1 0 + 1) w w' := hc.below (fun k hk => by have := h.hi; have := (hS k hk).2.2.2; omega) (by have := h.hi; omega)
  ⟨h.is.chg hc (fun k e e2 => (hS k e2).1 e), h.tb.below hb (by omega) (by omega), h.cu.chg hc (fun e => (hS C e).2.1 rfl) (fun g hg e => (hS g e).2.2.1 hg), h.nC, h.nR, h.hi, h.chg.trans hc (fun q e => .inr (hS q e).2.2.2), h.inD⟩

/-- A heap, a cursor on it, and the row of what was freed. -/
structure Ou (w1 : World) (H : Nat) (d0 : Ids) (C : Nat) (w : World) (d : Ids) (s : St) (m : Nat) (b col : Int) (p : Option Addr) (cap : Nat) (L fo : List Int) (po : Option Addr) (co : Nat) : Prop where
  hc : Hc w1 H d0 C w d s m b col p cap L
  own : w.ownsRow w1.heap.size 3 1 (.slice po fo.length co) fo.length (cellsZ fo)
  av : ∀ g, rowB po g → ¬ Mine H d g ∧ g ≠ C ∧ ¬ rowB p g
variable {fo : List Int} {po : Option Addr} {co : Nat}
theorem Ou.step (h : Ou w1 H d0 C w d s m b col p cap L fo po co) (h2 : Hc w H d C w' d' s' m' b col p' cap' L') (hp : ∀ g, rowB p' g → rowB p g) : Ou w1 H d0 C w' d' s' m' b col p' cap' L' fo po co :=
  ⟨h.hc.trans h2, owns_chg h.own h2.chg (fun g hg e => e.elim (h.av g hg).1 (h.av g hg).2.1), fun g hg => ⟨fun e => (h2.inD g e).elim (h.av g hg).1 (fun x => by have := (owns_lt h.own hg).2; omega), (h.av g hg).2.1, fun e => (h.av g hg).2.2 (hp g e)⟩⟩
theorem Ou.push {a : Int} {po' : Option Addr} {co' : Nat} (h : Ou w1 H d0 C w d s m b col p cap L fo po co) (hC : C < w1.heap.size) (hc : Chg (rowB po) w w') (ho : w'.ownsRow w1.heap.size 3 1 (.slice po' (fo ++ [a]).length co') (fo ++ [a]).length (cellsZ (fo ++ [a]))) (hR : ∀ g, rowB po' g → rowB po g ∨ w.heap.size ≤ g) :
    Ou w1 H d0 C w' d s m b col p cap L (fo ++ [a]) po' co' :=
  ⟨h.hc.blocks hc (fun g hg => ⟨(h.av g hg).1, (h.av g hg).2.1, (h.av g hg).2.2, (owns_lt h.own hg).1⟩) hC, ho, fun g hg => (hR g hg).elim (h.av g) (fun x => ⟨fun e => by have := h.hc.is.lt e; omega, fun e => by have := h.hc.cu.ltC; omega, fun e => by have := h.hc.cu.lt g e; omega⟩)⟩

/-- How many slots a cursor has left. -/
def lenAt (w : World) (C : Nat) : Nat := match w.cell? ⟨C, 3, none⟩ with | some (.slice _ n _) => n | _ => 0
theorem CuIs.len (h : CuIs w C H b col p cap L) : lenAt w C = L.length := by unfold lenAt; rw [h.c3]

set_option maxRecDepth 100000 in
set_option maxHeartbeats 2000000 in
theorem freed_any (w : World) (h : Hc w H d C w d s m b col p cap L) (hm : m + L.length < 600000) (hL : L.length ≤ 100000) :
    Calls Tryz.prog 33 #[holdsF 18 (.pointer (some ⟨C, 0, none⟩)), holdsF 20 (.pointer (some ⟨C, 0, none⟩))] w fun e w' =>
      ∃ d' p' cap' po co, e = .returned (.slice po (swF s col L).length co) ∧ Ou w H d C w' d' (swS s col L) (m + L.length) b col p' cap' [] (swF s col L) po co := by
  obtain ⟨i0, hinf, hz0, hz1, hz2⟩ := info_parts infoInt
  have HH : Hid (Ou w H d C w d s m b col p cap L [] none 0) := Lib.hid ⟨h, ⟨by simp [cellsZ], .inl ⟨rfl, rfl⟩⟩, fun g hg => by cases hg⟩
  have HC := Lib.hid h.cu.ltC
  clear h
  unfold holdsF
  go_enter Tryz.func33, Tryz.ntmps33
  go_wp2_with fail
  go_loopw [5] (fun ov wr => ∃ (d' : Ids) (s' : St) (m' : Nat) (p' : Option Addr) (cap' : Nat) (L' fo : List Int) (po : Option Addr) (co : Nat), ov = .slice po fo.length co ∧ swS s col L = swS s' col L' ∧ swF s col L = fo ++ swF s' col L' ∧ m' + L'.length = m + L.length ∧ fo.length + L'.length ≤ L.length ∧ Ou w H d C wr d' s' m' b col p' cap' L' fo po co) (fun _ wr => lenAt wr C)
  case atStart => exact ⟨d, s, m, p, cap, L, [], none, 0, rfl, rfl, rfl, rfl, by simp, HH.out⟩
  case round =>
    clear HH
    obtain ⟨d', s', m', p', cap', L', fo, po, co, rfl, hS, hF, hmm, hll, hO⟩ := hrel
    have HO := Lib.hid hO
    have HS := Lib.hid hS
    have HF := Lib.hid hF
    have hlen := hO.hc.cu.len
    clear hO hS hF
    rcases L' with _ | ⟨a, t⟩
    · have HD := Lib.hid (done_any wr HO.out.hc.cu true rfl)
      clear hlen
      go_wp2_with (go_at_call 18; refine HD.out.mono ?_; rintro e wa ⟨rfl, rfl⟩)
      go_ret
      have e1 : swF s col L = fo := by rw [HF.out]; simp [swF]
      have e2 : swS s col L = s' := HS.out
      rw [e1, e2]
      rw [List.length_nil, Nat.add_zero] at hmm
      exact ⟨d', p', cap', po, co, rfl, hmm ▸ HO.out⟩
    · have HD := Lib.hid (done_any wr HO.out.hc.cu false (by rw [List.length_cons, beq_eq_false_iff_ne]; omega))
      rw [List.length_cons] at hmm hll hlen
      have HLN : Hid (lenAt wr C = t.length + 1) := Lib.hid hlen
      clear hlen
      have HST := Lib.hid (step_any wr HO.out.hc.self (by omega))
      go_wp2_with (go_at_call 18; refine HD.out.mono ?_; rintro e wa ⟨rfl, rfl⟩)
      refine HST.out.mono ?_
      rintro e w2 ⟨rfl, d2, p2, cap2, h2, hp2⟩
      have HO2 := Lib.hid (HO.out.step h2 hp2)
      clear h2 hp2 HST HD
      cases hsb : swB s' col a with
      | false =>
        have HF2 := Lib.hid (show swF s col L = fo ++ swF (swT s' col a) col t by rw [HF.out]; simp [swF, hsb])
        go_wp2
        go_roundw
        case rel => exact ⟨d2, _, m' + 1, p2, cap2, t, fo, po, co, rfl, HS.out, HF2.out, by omega, by omega, HO2.out⟩
        case measure => rw [HLN.out, HO2.out.hc.cu.len]; omega
      | true =>
        have hv : swV s' col a = a := by rw [swV, if_pos hsb]
        rw [hv]
        have HF2 := Lib.hid (show swF s col L = (fo ++ [a]) ++ swF (swT s' col a) col t by rw [HF.out]; simp [swF, hsb])
        have hba : Below w2.heap.size w2 (w2.alloc (.cells #[.int .i64 a] 3)) := (Below.refl _ w2).alloc (Nat.le_refl _) _
        have HBA := Lib.hid hba
        have HOW := Lib.hid (Row.owns_block HO2.out.own (fun g hg => Below.heap_alloc w2 (.cells #[.int .i64 a] 3) g (owns_lt HO2.out.own hg).2))
        have hwz : w.heap.size ≤ w2.heap.size := HO2.out.hc.chg.size
        have hfl : fo.length ≤ 100000 := by omega
        clear hba HF HO
        go_wp2_with (at_builtin; refine wpList_append_own_at _ rfl (.tmp 17) (.tmp 19) 32 rfl w.heap.size 3 i0 (.int .i64 0) 1 8 Tryz.underlying32 hinf hz0 hz1 hz2 rfl (by decide) _ _ _ rfl HOW.out ⟨w2.heap.size, 0, none⟩ 1 1 [.int .i64 a] rfl rfl (one_at rfl) (by simp [Value.oneCell']) (by unfold maxLen; omega) (by omega) (by simp; omega) ?_)
        intro v' w3 hown hgrow _ hat
        obtain ⟨po', co', rfl, hC3, hR3⟩ := push_row HBA.out hown hgrow (by simpa using hat)
        rw [← cellsZ_snoc] at hown
        have hle : (fo ++ [a]).length = fo.length + 1 := by simp
        have hO3 := HO2.out.push (a := a) HC.out hC3 (by rw [hle]; exact hown) hR3
        have HO3 := Lib.hid hO3
        clear hown hgrow hat hC3 hR3 hO3
        go_wp2
        go_roundw
        case rel => exact ⟨d2, _, m' + 1, p2, cap2, t, fo ++ [a], po', co', by rw [hle], HS.out, HF2.out, by omega, by omega, HO3.out⟩
        case measure => rw [HLN.out, HO3.out.hc.cu.len]; omega
end
end Go.Proofs.YtbejddpfnglkbaaGreatDoor.Sw
