/-
  Steps of painting, whatever the buffer has; of pouring.
-/
import Derived.Test.YtkfgchhlekdpgaaGreatDoorNtB
import Derived.Deep.RegionWith
import Derived.BigQuiet
namespace Go.Proofs.YtkfgchhlekdpgaaGreatDoor.Nt
open Go.RowKit
open Hp (Ids St Is To Mine bnI coE coV colB)
open Rf (paS paE paF)

section
variable {w : Bas} {H B X F N room : Nat} {ys : List Int} {m : Nat}
set_option maxRecDepth 100000 in
set_option maxHeartbeats 4000000 in
/-- One address is painted; what comes then is paint's. -/
theorem paint_step {d : Ids} {s : St} {up : Bool} {a : Int} {r : List Int} {ex : List (Nat × Value)} {W : World} {b0 b1 b2 b3 : Nat} {c : Int} {an : Bool} {tv : Value} (R : Value → World → Prop)
    (h : Nb w W H d s m B X F N room (a :: r) ys up ex) (h0 : (b0, .pointer (some ⟨N, 0, none⟩)) ∈ ex) (h1 : (b1, .int .i64 c) ∈ ex) (h2 : (b2, .bool an) ∈ ex) (h3 : (b3, tv) ∈ ex)
    (HP : ∀ V d', Nb w V H d' (pS c s a) m B X F N room r ys up ex → Calls Tryz.prog 78 #[.pointer (some ⟨N, 0, none⟩), .int .i64 c, .bool (an || paF s a c), tv] V fun e W' => ∃ v, e = .returned v ∧ R v W') :
    Calls Tryz.prog 128 #[.pointer (some ⟨b0, 0, none⟩), .pointer (some ⟨b1, 0, none⟩), .pointer (some ⟨b2, 0, none⟩), .pointer (some ⟨b3, 0, none⟩)] W fun e w' => ∃ v, e = .returned v ∧ R v w' := by
  have e0 := h.at h0
  have n1 := h.n1
  have HN := Lib.hid (nb_next h)
  have HM := Lib.hid (And.intro h0 (And.intro h1 (And.intro h2 h3)))
  have HPP := Lib.hid HP
  clear h h0 h1 h2 h3 HP
  go_enter Tryz.func128, Tryz.ntmps128
  go_wp2_with (go_at_call 129; fail)
  refine HN.out.mono ?_
  rintro e W1 ⟨rfl, hn⟩
  have H1 := Lib.hid hn
  have e0 := hn.at HM.out.1
  have e1 := hn.at HM.out.2.1
  have n0 := hn.n0
  have HQ : Hid (∀ V, Below W1.heap.size W1 V → Calls Tryz.prog 130 #[.pointer (some ⟨H, 0, none⟩), .int .i64 a, .int .i64 c] V fun e w' => e = .returned (.tuple #[.bool (paF s a c), .int .i64 (paE s a c)]) ∧ ∃ d', Nb w w' H d' (pS c s a) m B X F N room r ys up ex) := Lib.hid fun V hV => nb_paint c a (hn.later hV)
  have HR0 : Hid (Below W1.heap.size W1 W1) := Lib.hid (Below.refl _ _)
  have HR1 : Hid (Below W1.heap.size W1 W1.drew) := Lib.hid (Below.refl _ _).drew
  clear hn HN
  go_wp2_with fail
  go_region_with (go_at_call 130; refine (HQ.out _ (by first | exact HR0.out | exact HR1.out)).mono ?_; rintro e W2 ⟨rfl, d2, hn2⟩; have H2 := Lib.hid hn2; clear hn2)
  all_goals (have f0 := H2.out.at HM.out.1)
  all_goals (have f1 := H2.out.at HM.out.2.1)
  all_goals (have f2 := H2.out.at HM.out.2.2.1)
  all_goals (have f3 := H2.out.at HM.out.2.2.2)
  all_goals (have HC := Lib.hid (HPP.out W2 d2 H2.out))
  all_goals (clear e0 e1 n0 n1 HQ HPP H2 HM H1)
  all_goals (generalize paF s a c = pf at *)
  all_goals (cases an <;> skip)
  all_goals (simp only [Bool.true_or, Bool.false_or] at HC)
  all_goals go_wp2_with (go_at_call 78; refine HC.out.mono ?_; rintro e W3 ⟨v, rfl, hr⟩; have HR := Lib.hid hr; clear hr)
  all_goals go_ret
  all_goals exact ⟨v, rfl, HR.out⟩
set_option maxRecDepth 100000 in
set_option maxHeartbeats 4000000 in
/-- paint of a buffer that has some: the step that paints one. -/
theorem paint_cons (c : Int) (tv : Value) (hv : tvOk tv) (a : Int) (r : List Int) (an : Bool) (d : Ids) (s : St) (up : Bool) (ex : List (Nat × Value)) (W : World) (h : Nb w W H d s m B X F N room (a :: r) ys up ex) :
    Calls Tryz.prog 78 #[.pointer (some ⟨N, 0, none⟩), .int .i64 c, .bool an, tv] W fun e W' => ∃ b0 b1 b2 b3 ex', e = .returned (.func (.func 128) #[] #[.pointer (some ⟨b0, 0, none⟩), .pointer (some ⟨b1, 0, none⟩), .pointer (some ⟨b2, 0, none⟩), .pointer (some ⟨b3, 0, none⟩)]) ∧
      Nb w W' H d s m B X F N room (a :: r) ys up ex' ∧ (b0, Value.pointer (some ⟨N, 0, none⟩)) ∈ ex' ∧ (b1, Value.int .i64 c) ∈ ex' ∧ (b2, Value.bool an) ∈ ex' ∧ (b3, tv) ∈ ex' ∧ ∀ p ∈ ex, p ∈ ex' := by
  obtain ⟨W1, hW1⟩ : ∃ W1, (((W.alloc (.cells #[.pointer (some ⟨N, 0, none⟩)] 36)).alloc (.cells #[.int .i64 c] 3)).alloc (.cells #[.bool an] 4)).alloc (.cells #[tv] 48) = W1 := ⟨_, rfl⟩
  have h4 := h.four _ _ _ _ hW1
  have H4 := Lib.hid h4
  have e0 := h4.at (b := W.heap.size) (v := .pointer (some ⟨N, 0, none⟩)) (by simp)
  have n1 := h4.n1
  have HL := Lib.hid (nb_len h4)
  have hl : (0 : Int) < ((a :: r).length : Int) := by rw [List.length_cons]; omega
  generalize (a :: r).length = L at HL hl
  clear h h4
  rcases hv with rfl | ⟨f, cap, rfl⟩
  · go_enter Tryz.func78, Tryz.ntmps78
    go_wp2_with (go_at_call 28; refine HL.out.mono ?_; rintro e w9 ⟨rfl, hw9⟩; obtain rfl : W1 = w9 := hw9.symm)
    go_ret
    exact ⟨_, _, _, _, _, rfl, H4.out, by simp, by simp, by simp, by simp, fun p hp => by simp [hp]⟩
  · go_enter Tryz.func78, Tryz.ntmps78
    go_wp2_with (go_at_call 28; refine HL.out.mono ?_; rintro e w9 ⟨rfl, hw9⟩; obtain rfl : W1 = w9 := hw9.symm)
    go_ret
    exact ⟨_, _, _, _, _, rfl, H4.out, by simp, by simp, by simp, by simp, fun p hp => by simp [hp]⟩
theorem paint_any (c : Int) (kt : Nat) (Q : Aim) (HI : ∀ V d s xs ys up, Nb w V H d s m B X F N room xs ys up [] → Q.i V) (tv : Value) (hv : tvOk tv) : ∀ (xs : List Int) (an : Bool) (d : Ids) (s : St) (up : Bool) (ex : List (Nat × Value)) (W : World),
    Nb w W H d s m B X F N room xs ys up ex → (∀ V d', Nb w V H d' (pSt c xs s) m B X F N room [] ys (up || pAn c xs s an) ex → Does Q kt tv V) →
    Calls Tryz.prog 78 #[.pointer (some ⟨N, 0, none⟩), .int .i64 c, .bool an, tv] W fun e W' => ∃ v, e = .returned v ∧ Does Q (xs.length + (if pAn c xs s an = true then 1 else 0) + kt) v W' := by
  intro xs
  induction xs with
  | nil =>
    intro an d s up ex W h HT
    refine (paint_nil c kt Q HI tv hv an d s up ex W h HT).mono ?_
    rintro e W' ⟨v, rfl, hd⟩
    refine ⟨v, rfl, ?_⟩
    have e : ([] : List Int).length + (if pAn c [] s an = true then 1 else 0) + kt = (if an = true then 1 else 0) + kt := by
      show 0 + (if an = true then 1 else 0) + kt = (if an = true then 1 else 0) + kt
      rw [Nat.zero_add]
    rw [e]; exact hd
  | cons a r ih =>
    intro an d s up ex W h HT
    refine (paint_cons c tv hv a r an d s up ex W h).mono ?_
    rintro e W1 ⟨b0, b1, b2, b3, ex', rfl, h1, m0, m1, m2, m3, hs⟩
    refine ⟨_, rfl, ?_⟩
    have e : (a :: r).length + (if pAn c (a :: r) s an = true then 1 else 0) + kt = (r.length + (if pAn c r (pS c s a) (an || paF s a c) = true then 1 else 0) + kt) + 1 := by
      show r.length + 1 + (if pAn c r (pS c s a) (an || paF s a c) = true then 1 else 0) + kt = _
      generalize (if pAn c r (pS c s a) (an || paF s a c) = true then 1 else 0) = q
      omega
    rw [e]
    refine ⟨HI _ _ _ _ _ _ (h1.less (fun p hp => by cases hp)), _, _, rfl, fun V => enters_61 _ V, paint_step _ h1 m0 m1 m2 m3 (fun V d' hn => ih (an || paF s a c) d' (pS c s a) up ex V (hn.less hs) (fun V2 d2 hn2 => HT V2 d2 hn2))⟩
end
end Go.Proofs.YtkfgchhlekdpgaaGreatDoor.Nt
