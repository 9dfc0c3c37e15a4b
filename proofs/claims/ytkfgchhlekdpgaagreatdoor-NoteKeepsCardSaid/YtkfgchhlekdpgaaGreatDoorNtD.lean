/-
  Pouring; a step that does nothing, and is the last one.
-/
import Derived.Test.YtkfgchhlekdpgaaGreatDoorNtC
namespace Go.Proofs.YtkfgchhlekdpgaaGreatDoor.Nt
open Go.RowKit
open Hp (Ids St Is To Mine bnI coE coV colB)
open Rf (paS paE paF)

/-- In how many steps a pour is done; what there is then. -/
def pK (c : Int) (s : St) (xs ys : List Int) : Nat := if xs = [] then 0 else if ys = [] then 1 else 1 + (xs.length + (if pAn c xs s false = true then 1 else 0))
def pT (c : Int) (s : St) (xs ys : List Int) : St := if xs = [] then s else if ys = [] then s else pSt c xs s
def pY (xs ys : List Int) : List Int := if xs = [] then ys else if ys = [] then xs else ys
def pU (c : Int) (s : St) (xs ys : List Int) : Bool := if xs = [] then false else if ys = [] then false else pAn c xs s false
theorem enters_once : ∀ args W, (callFunc 76 args).run Tryz.prog W = .ok (.enter 76 args) W := enters_of Tryz.func76 (by kernel_rfl) rfl
theorem enters_pour : ∀ args W, (callFunc 77 args).run Tryz.prog W = .ok (.enter 77 args) W := enters_of Tryz.func77 (by kernel_rfl) rfl
theorem once_any (W : World) : Calls Tryz.prog 20 #[.nilFunc] W fun e w' => e = .returned (.func (.func 76) #[] #[.pointer (some ⟨W.heap.size, 0, none⟩)]) ∧ w' = W.alloc (.cells #[.nilFunc] 1) := by
  go_enter Tryz.func20, Tryz.ntmps20
  go_wp2_with fail
  go_ret
  exact ⟨rfl, rfl⟩
theorem once_step (b : Nat) (W : World) (h : W.cell? ⟨b, 0, none⟩ = some .nilFunc) : Calls Tryz.prog 76 #[.pointer (some ⟨b, 0, none⟩)] W fun e w' => e = .returned .nilFunc ∧ w' = W := by
  have hqn : ∀ W : World, (binOp .neq 1 .nilFunc .nilFunc).run Tryz.prog W = .ok (.bool false) W := fun _ => by kernel_rfl
  go_enter Tryz.func76, Tryz.ntmps76
  go_wp2_with fail
  go_ret
  exact ⟨rfl, rfl⟩
theorem does_once (Q : Aim) (b : Nat) (W : World) (h : W.cell? ⟨b, 0, none⟩ = some .nilFunc) (hi : Q.i W) (hq : Q.q W) : Does Q 1 (.func (.func 76) #[] #[.pointer (some ⟨b, 0, none⟩)]) W := by
  refine ⟨hi, _, _, rfl, fun V => enters_once _ V, (once_step b W h).mono ?_⟩
  rintro e w' ⟨rfl, rfl⟩
  exact ⟨_, rfl, rfl, hq⟩
section
variable {w : Bas} {H B X F N room : Nat} {m : Nat}
set_option maxRecDepth 100000 in
set_option maxHeartbeats 2000000 in
/-- The first step, the box being empty. -/
theorem pour_hand {d : Ids} {s : St} {up : Bool} {xs : List Int} {ex : List (Nat × Value)} {W : World} {b0 b1 b2 : Nat} {c : Int} {tv : Value}
    (h : Nb w W H d s m B X F N room xs [] up ex) (h0 : (b0, .pointer (some ⟨N, 0, none⟩)) ∈ ex) (h1 : (b1, tv) ∈ ex) (_h2 : (b2, .int .i64 c) ∈ ex) :
    Calls Tryz.prog 77 #[.pointer (some ⟨b0, 0, none⟩), .pointer (some ⟨b1, 0, none⟩), .pointer (some ⟨b2, 0, none⟩)] W fun e w' => e = .returned tv ∧ Nb w w' H d s m B X F N room [] xs up ex := by
  have e0 := h.at h0
  have n1 := h.n1
  have n2 := h.n2
  have HH : Hid (∀ V, Below W.heap.size W V → Calls Tryz.prog 70 #[.pointer (some ⟨X, 0, none⟩), .pointer (some ⟨B, 0, none⟩)] V fun e w' => e = .returned (.bool true) ∧ Nb w w' H d s m B X F N room [] xs up ex) := Lib.hid fun V hV => nb_hand (h.later hV)
  have HR0 : Hid (Below W.heap.size W W) := Lib.hid (Below.refl _ _)
  have HR1 : Hid (Below W.heap.size W W.drew) := Lib.hid (Below.refl _ _).drew
  have H1 := Lib.hid h1
  clear h h0 h1
  go_enter Tryz.func77, Tryz.ntmps77
  go_wp2_with fail
  go_region_with (go_at_call 70; refine (HH.out _ (by first | exact HR0.out | exact HR1.out)).mono ?_; rintro e W2 ⟨rfl, hn2⟩; have H2 := Lib.hid hn2; clear hn2)
  all_goals (have f1 := H2.out.at H1.out)
  all_goals (clear e0 n1 n2)
  all_goals go_wp2_with fail
  all_goals go_ret
  all_goals exact ⟨rfl, H2.out⟩
set_option maxRecDepth 100000 in
set_option maxHeartbeats 2000000 in
/-- The first step, the box having some. -/
theorem pour_no {d : Ids} {s : St} {up : Bool} {xs : List Int} {y : Int} {ys : List Int} {ex : List (Nat × Value)} {W : World} {b0 b1 b2 : Nat} {c : Int} {tv : Value} (R : Value → World → Prop)
    (h : Nb w W H d s m B X F N room xs (y :: ys) up ex) (h0 : (b0, .pointer (some ⟨N, 0, none⟩)) ∈ ex) (h1 : (b1, tv) ∈ ex) (h2 : (b2, .int .i64 c) ∈ ex)
    (HP : ∀ V, Nb w V H d s m B X F N room xs (y :: ys) up ex → Calls Tryz.prog 78 #[.pointer (some ⟨N, 0, none⟩), .int .i64 c, .bool false, tv] V fun e W' => ∃ v, e = .returned v ∧ R v W') :
    Calls Tryz.prog 77 #[.pointer (some ⟨b0, 0, none⟩), .pointer (some ⟨b1, 0, none⟩), .pointer (some ⟨b2, 0, none⟩)] W fun e w' => ∃ v, e = .returned v ∧ R v w' := by
  have e0 := h.at h0
  have e1 := h.at h1
  have e2 := h.at h2
  have n1 := h.n1
  have n2 := h.n2
  have HH : Hid (∀ V, Below W.heap.size W V → Calls Tryz.prog 70 #[.pointer (some ⟨X, 0, none⟩), .pointer (some ⟨B, 0, none⟩)] V fun e w' => e = .returned (.bool false) ∧ w' = V) := Lib.hid fun V hV => nb_hand_no (h.later hV)
  have HR : Hid (∀ n, Below W.heap.size W (W.drewN n)) := Lib.hid fun n => below_drewN (Below.refl _ _) n
  have HC : Hid (∀ n, Calls Tryz.prog 78 #[.pointer (some ⟨N, 0, none⟩), .int .i64 c, .bool false, tv] (W.drewN n) fun e W' => ∃ v, e = .returned v ∧ R v W') := Lib.hid fun n => HP _ (h.later (below_drewN (Below.refl _ _) n))
  clear h h0 h1 h2 HP
  go_enter Tryz.func77, Tryz.ntmps77
  go_wp2_with fail
  go_quiet ((go_at_call 70; exact Calls.quiet_of_same (HH.out _ (by first | exact HR.out _ | exact HR.out 0))))
  go_wp2_with (go_at_call 78; refine (HC.out _).mono ?_; rintro e W3 ⟨v, rfl, hr⟩; have HRR := Lib.hid hr; clear hr)
  go_ret
  exact ⟨v, rfl, HRR.out⟩
set_option maxRecDepth 100000 in
set_option maxHeartbeats 2000000 in
theorem pour_nil (c : Int) (tv : Value) (hv : tvOk tv) {d : Ids} {s : St} {up : Bool} {ys : List Int} {ex : List (Nat × Value)} {W : World} (h : Nb w W H d s m B X F N room [] ys up ex) :
    Calls Tryz.prog 27 #[.pointer (some ⟨N, 0, none⟩), .int .i64 c, tv] W fun e W' => e = .returned tv ∧ Nb w W' H d s m B X F N room [] ys up ex := by
  obtain ⟨W1, hW1⟩ : ∃ W1, ((W.alloc (.cells #[.pointer (some ⟨N, 0, none⟩)] 36)).alloc (.cells #[.int .i64 c] 3)).alloc (.cells #[tv] 48) = W1 := ⟨_, rfl⟩
  have h3 := h.three _ _ _ hW1
  have H3 := Lib.hid h3
  have e0 := h3.at (b := W.heap.size) (v := .pointer (some ⟨N, 0, none⟩)) (by simp)
  have e2 := h3.at (b := W.heap.size + 1 + 1) (v := tv) (by simp)
  have n1 := h3.n1
  have HL : Hid (Calls Tryz.prog 28 #[.pointer (some ⟨B, 0, none⟩)] W1 fun e w' => e = .returned (.int .i64 0) ∧ w' = W1) := Lib.hid (nb_len h3)
  clear h h3
  rcases hv with rfl | ⟨f, cap, rfl⟩
  · go_enter Tryz.func27, Tryz.ntmps27
    go_wp2_with (go_at_call 28; refine HL.out.mono ?_; rintro e w9 ⟨rfl, hw9⟩; obtain rfl : W1 = w9 := hw9.symm)
    go_ret
    exact ⟨rfl, H3.out.less (fun p hp => by simp [hp])⟩
  · go_enter Tryz.func27, Tryz.ntmps27
    go_wp2_with (go_at_call 28; refine HL.out.mono ?_; rintro e w9 ⟨rfl, hw9⟩; obtain rfl : W1 = w9 := hw9.symm)
    go_ret
    exact ⟨rfl, H3.out.less (fun p hp => by simp [hp])⟩
set_option maxRecDepth 100000 in
set_option maxHeartbeats 2000000 in
theorem pour_cons (c : Int) (tv : Value) (hv : tvOk tv) {d : Ids} {s : St} {up : Bool} {a : Int} {r ys : List Int} {ex : List (Nat × Value)} {W : World} (h : Nb w W H d s m B X F N room (a :: r) ys up ex) :
    Calls Tryz.prog 27 #[.pointer (some ⟨N, 0, none⟩), .int .i64 c, tv] W fun e W' => ∃ b0 b1 b2 ex', e = .returned (.func (.func 77) #[] #[.pointer (some ⟨b0, 0, none⟩), .pointer (some ⟨b1, 0, none⟩), .pointer (some ⟨b2, 0, none⟩)]) ∧
      Nb w W' H d s m B X F N room (a :: r) ys up ex' ∧ (b0, Value.pointer (some ⟨N, 0, none⟩)) ∈ ex' ∧ (b1, tv) ∈ ex' ∧ (b2, Value.int .i64 c) ∈ ex' ∧ ∀ p ∈ ex, p ∈ ex' := by
  obtain ⟨W1, hW1⟩ : ∃ W1, ((W.alloc (.cells #[.pointer (some ⟨N, 0, none⟩)] 36)).alloc (.cells #[.int .i64 c] 3)).alloc (.cells #[tv] 48) = W1 := ⟨_, rfl⟩
  have h3 := h.three _ _ _ hW1
  have H3 := Lib.hid h3
  have e0 := h3.at (b := W.heap.size) (v := .pointer (some ⟨N, 0, none⟩)) (by simp)
  have n1 := h3.n1
  have HL := Lib.hid (nb_len h3)
  have hl : (((a :: r).length : Int) == 0) = false := by rw [beq_eq_false_iff_ne, List.length_cons]; omega
  generalize (a :: r).length = L at HL hl
  clear h h3
  rcases hv with rfl | ⟨f, cap, rfl⟩
  · go_enter Tryz.func27, Tryz.ntmps27
    go_wp2_with (go_at_call 28; refine HL.out.mono ?_; rintro e w9 ⟨rfl, hw9⟩; obtain rfl : W1 = w9 := hw9.symm)
    go_ret
    exact ⟨_, _, _, _, rfl, H3.out, by simp, by simp, by simp, fun p hp => by simp [hp]⟩
  · go_enter Tryz.func27, Tryz.ntmps27
    go_wp2_with (go_at_call 28; refine HL.out.mono ?_; rintro e w9 ⟨rfl, hw9⟩; obtain rfl : W1 = w9 := hw9.symm)
    go_ret
    exact ⟨_, _, _, _, rfl, H3.out, by simp, by simp, by simp, fun p hp => by simp [hp]⟩
/-- A pour, ahead of whatever comes then. -/
theorem pour_any (c : Int) (kt : Nat) (Q : Aim) (HI : ∀ V d s xs ys up, Nb w V H d s m B X F N room xs ys up [] → Q.i V) (tv : Value) (hv : tvOk tv) (xs ys : List Int) (d : Ids) (s : St) (up : Bool) (ex : List (Nat × Value)) (W : World) (h : Nb w W H d s m B X F N room xs ys up ex)
    (HT : ∀ V d', Nb w V H d' (pT c s xs ys) m B X F N room [] (pY xs ys) (up || pU c s xs ys) ex → Does Q kt tv V) :
    Calls Tryz.prog 27 #[.pointer (some ⟨N, 0, none⟩), .int .i64 c, tv] W fun e W' => ∃ v, e = .returned v ∧ Does Q (pK c s xs ys + kt) v W' := by
  cases xs with
  | nil =>
    refine (pour_nil c tv hv h).mono ?_
    rintro e W' ⟨rfl, hn⟩
    refine ⟨tv, rfl, ?_⟩
    have e : pK c s [] ys + kt = kt := by unfold pK; rw [if_pos rfl, Nat.zero_add]
    rw [e]
    exact HT W' d (by unfold pT pY pU; rw [if_pos rfl, if_pos rfl, if_pos rfl, Bool.or_false]; exact hn)
  | cons a r =>
    refine (pour_cons c tv hv h).mono ?_
    rintro e W1 ⟨b0, b1, b2, ex', rfl, h1, m0, m1, m2, hs⟩
    refine ⟨_, rfl, ?_⟩
    cases ys with
    | nil =>
      have e : pK c s (a :: r) [] + kt = kt + 1 := by unfold pK; rw [if_neg (by simp), if_pos rfl]; omega
      rw [e]
      refine ⟨HI _ _ _ _ _ _ (h1.less (fun p hp => by cases hp)), _, _, rfl, fun V => enters_pour _ V, (pour_hand h1 m0 m1 m2).mono ?_⟩
      rintro e W2 ⟨rfl, hn⟩
      refine ⟨tv, rfl, HT W2 d ?_⟩
      unfold pT pY pU
      rw [if_neg (by simp), if_pos rfl, if_neg (by simp), if_pos rfl, if_neg (by simp), if_pos rfl, Bool.or_false]
      exact hn.less hs
    | cons y q =>
      have e : pK c s (a :: r) (y :: q) + kt = ((a :: r).length + (if pAn c (a :: r) s false = true then 1 else 0) + kt) + 1 := by
        unfold pK; rw [if_neg (by simp), if_neg (by simp)]; omega
      rw [e]
      refine ⟨HI _ _ _ _ _ _ (h1.less (fun p hp => by cases hp)), _, _, rfl, fun V => enters_pour _ V, pour_no _ h1 m0 m1 m2 (fun V hn => paint_any c kt Q HI tv hv (a :: r) false d s up ex V (hn.less hs) (fun V2 d2 hn2 => HT V2 d2 ?_))⟩
      unfold pT pY pU
      rw [if_neg (by simp), if_neg (by simp), if_neg (by simp), if_neg (by simp), if_neg (by simp), if_neg (by simp)]
      exact hn2
end
end Go.Proofs.YtkfgchhlekdpgaaGreatDoor.Nt
