/-
  Noting a value, in any state.
-/
import Derived.Test.YtkfgchhlekdpgaaGreatDoorNtE
import Derived.Test.YtkfgchhlekdpgaaGreatDoorNtL
namespace Go.Proofs.YtkfgchhlekdpgaaGreatDoor.Nt
open Go.RowKit
open Hp (Ids St coE coV)

/-- How many steps Note takes ahead of what is handed to it; what it leaves. -/
def nSkip (c : Int) (s : St) (v : Int) : Prop := v = 0 ∨ coE s v ≠ 0 ∨ coV s v = c
instance (c : Int) (s : St) (v : Int) : Decidable (nSkip c s v) := by unfold nSkip; exact inferInstance
def nK (c : Int) (s : St) (v : Int) (room : Nat) (xs ys : List Int) : Nat := if v = 0 then 0 else if nSkip c s v then 1 else if xs.length < room then 1 else pK c s xs ys + 2
def nS (c : Int) (s : St) (v : Int) (room : Nat) (xs ys : List Int) : St := if nSkip c s v then s else if xs.length < room then s else pT c s xs ys
def nX (c : Int) (s : St) (v : Int) (room : Nat) (xs : List Int) : List Int := if nSkip c s v then xs else if xs.length < room then xs ++ [v] else [v]
def nY (c : Int) (s : St) (v : Int) (room : Nat) (xs ys : List Int) : List Int := if nSkip c s v then ys else if xs.length < room then ys else pY xs ys
def nU (c : Int) (s : St) (v : Int) (room : Nat) (xs ys : List Int) (up : Bool) : Bool := if nSkip c s v then up else if xs.length < room then up else (up || pU c s xs ys)
section
variable {w : Bas} {H B X F N room : Nat} {m : Nat}
theorem note_any (v c : Int) (kt : Nat) (Q : Aim) (HI : ∀ V d s xs ys up, Nb w V H d s m B X F N room xs ys up [] → Q.i V) (tv : Value) (hv : tvOk tv) (xs ys : List Int) (d : Ids) (s : St) (up : Bool) (ex : List (Nat × Value)) (W : World) (h : Nb w W H d s m B X F N room xs ys up ex)
    (HT : ∀ V d', Nb w V H d' (nS c s v room xs ys) m B X F N room (nX c s v room xs) (nY c s v room xs ys) (nU c s v room xs ys up) ex → Does Q kt tv V) :
    Calls Tryz.prog 19 #[.pointer (some ⟨N, 0, none⟩), .int .i64 v, .int .i64 c, tv] W fun e W' => ∃ u, e = .returned u ∧ Does Q (nK c s v room xs ys + kt) u W' := by
  obtain ⟨hle, hr1⟩ : xs.length ≤ room ∧ 1 ≤ room := by
    obtain ⟨T, t1, _⟩ := h.lg
    exact ⟨t1.len, t1.r1⟩
  by_cases h0 : v = 0
  · have hs : nSkip c s v := .inl h0
    have ek : nK c s v room xs ys + kt = kt := by unfold nK; rw [if_pos h0, Nat.zero_add]
    rw [ek]
    subst h0
    refine (note_zero c tv hv h).mono ?_
    rintro e W' ⟨rfl, hn⟩
    refine ⟨tv, rfl, HT W' d ?_⟩
    unfold nS nX nY nU
    rw [if_pos hs, if_pos hs, if_pos hs, if_pos hs]
    exact hn
  · refine (note_some v c h0 tv hv h).mono ?_
    rintro e W1 ⟨b0, b1, b2, b3, b4, ex', rfl, h1, hb, hsub⟩
    refine ⟨_, rfl, ?_⟩
    by_cases hs : nSkip c s v
    · have ek : nK c s v room xs ys + kt = kt + 1 := by unfold nK; rw [if_neg h0, if_pos hs]; omega
      rw [ek]
      refine ⟨HI _ _ _ _ _ _ (h1.less (fun p hp => by cases hp)), _, _, rfl, fun V => enters_note _ V, (note_skip h1 hb (hs.resolve_left h0)).mono ?_⟩
      rintro e W2 ⟨rfl, hn⟩
      refine ⟨tv, rfl, HT W2 d ?_⟩
      unfold nS nX nY nU
      rw [if_pos hs, if_pos hs, if_pos hs, if_pos hs]
      exact hn.less hsub
    · have hce : coE s v = 0 := Decidable.byContradiction fun e => hs (.inr (.inl e))
      have hcv : coV s v ≠ c := fun e => hs (.inr (.inr e))
      by_cases hl : xs.length < room
      · have ek : nK c s v room xs ys + kt = kt + 1 := by unfold nK; rw [if_neg h0, if_neg hs, if_pos hl]; omega
        rw [ek]
        refine ⟨HI _ _ _ _ _ _ (h1.less (fun p hp => by cases hp)), _, _, rfl, fun V => enters_note _ V, note_more (Does Q kt) h1 hb hce hcv (fun _ V hn => HT V d ?_) (fun e => absurd hl (by omega))⟩
        unfold nS nX nY nU
        rw [if_neg hs, if_neg hs, if_neg hs, if_neg hs, if_pos hl, if_pos hl, if_pos hl, if_pos hl]
        exact hn.less hsub
      · have ek : nK c s v room xs ys + kt = (pK c s xs ys + (kt + 1)) + 1 := by unfold nK; rw [if_neg h0, if_neg hs, if_neg hl]; omega
        rw [ek]
        refine ⟨HI _ _ _ _ _ _ (h1.less (fun p hp => by cases hp)), _, _, rfl, fun V => enters_note _ V, note_more (Does Q (pK c s xs ys + (kt + 1))) h1 hb hce hcv (fun e => absurd e hl) (fun _ V hn => ?_)⟩
        refine pour_any c (kt + 1) Q HI _ (by first | exact .inr ⟨_, _, rfl⟩ | exact Or.inr ⟨_, rfl⟩ | simp [tvOk]) xs ys d s up ex' V hn (fun V2 d2 hn2 => ?_)
        refine ⟨HI _ _ _ _ _ _ (hn2.less (fun p hp => by cases hp)), _, _, rfl, fun V => enters_add _ V, (add_step hn2 (by simp; omega) hb.1 hb.2.1 hb.2.2.2.1).mono ?_⟩
        rintro e W2 ⟨rfl, hn3⟩
        refine ⟨tv, rfl, HT W2 d2 ?_⟩
        unfold nS nX nY nU
        rw [if_neg hs, if_neg hs, if_neg hs, if_neg hs, if_neg hl, if_neg hl, if_neg hl, if_neg hl]
        exact hn3.less hsub
end
end Go.Proofs.YtkfgchhlekdpgaaGreatDoor.Nt
