/-
  Noting a value.
-/
import Derived.Test.YtkfgchhlekdpgaaGreatDoorNtD
import Derived.Laws.EntriesVeiled
namespace Go.Proofs.YtkfgchhlekdpgaaGreatDoor.Nt
open Go.RowKit
open Hp (Ids St Is To Mine bnI coE coV colB)
open Lg (BfIs BxIs)
open Rf (paS paE paF)

theorem enters_add : ∀ args W, (callFunc 73 args).run Tryz.prog W = .ok (.enter 73 args) W := enters_of Tryz.func73 (by kernel_rfl) rfl
theorem enters_note : ∀ args W, (callFunc 74 args).run Tryz.prog W = .ok (.enter 74 args) W := enters_of Tryz.func74 (by kernel_rfl) rfl
section
variable {w : Bas} {wr : World} {H : Nat} {d : Ids} {s : St} {m B X F N room : Nat} {xs ys : List Int} {up : Bool} {ex : List (Nat × Value)}
theorem nb_add (v : Int) (h : Nb w wr H d s m B X F N room xs ys up ex) (hl : xs.length < room) : Calls Tryz.prog 69 #[.pointer (some ⟨B, 0, none⟩), .int .i64 v] wr fun e w' => e = .returned (.bool true) ∧ Nb w w' H d s m B X F N room (xs ++ [v]) ys up ex := by
  obtain ⟨T, t1, t2, t3, t4⟩ := h.lg
  refine (Lg.add_good v wr t1 t3 hl).mono ?_
  rintro e w' ⟨rfl, h1, h2⟩
  exact ⟨rfl, h.log (h2.mono fun k hk => .inl hk) t3 t4 h1 (t2.chg h2 (fun k hk => by subst hk; exact t4 _ (.inl (.inr (.inl rfl)))) h.ne.1)⟩
theorem nb_full (h : Nb w wr H d s m B X F N room xs ys up ex) : Calls Tryz.prog 75 #[.pointer (some ⟨B, 0, none⟩)] wr fun e w' => e = .returned (.bool (decide (xs.length = room))) ∧ ∃ q, w' = wr.drewN q := by
  obtain ⟨T, t1, _⟩ := h.lg
  exact Lg.full_any wr t1
set_option maxRecDepth 100000 in
set_option maxHeartbeats 2000000 in
/-- The step that adds. -/
theorem add_step {W : World} {b0 b1 b2 : Nat} {v : Int} {tv : Value} (h : Nb w W H d s m B X F N room xs ys up ex) (hl : xs.length < room) (h0 : (b0, .pointer (some ⟨N, 0, none⟩)) ∈ ex) (h1 : (b1, .int .i64 v) ∈ ex) (h2 : (b2, tv) ∈ ex) :
    Calls Tryz.prog 73 #[.pointer (some ⟨b0, 0, none⟩), .pointer (some ⟨b1, 0, none⟩), .pointer (some ⟨b2, 0, none⟩)] W fun e w' => e = .returned tv ∧ Nb w w' H d s m B X F N room (xs ++ [v]) ys up ex := by
  have e0 := h.at h0
  have e1 := h.at h1
  have n1 := h.n1
  have HH : Hid (∀ V, Below W.heap.size W V → Calls Tryz.prog 69 #[.pointer (some ⟨B, 0, none⟩), .int .i64 v] V fun e w' => e = .returned (.bool true) ∧ Nb w w' H d s m B X F N room (xs ++ [v]) ys up ex) := Lib.hid fun V hV => nb_add v (h.later hV) hl
  have HR0 : Hid (Below W.heap.size W W) := Lib.hid (Below.refl _ _)
  have HR1 : Hid (Below W.heap.size W W.drew) := Lib.hid (Below.refl _ _).drew
  have H2 := Lib.hid h2
  clear h h0 h1 h2 hl
  go_enter Tryz.func73, Tryz.ntmps73
  go_wp2_with fail
  go_region_with (go_at_call 69; refine (HH.out _ (by first | exact HR0.out | exact HR1.out)).mono ?_; rintro e W2 ⟨rfl, hn2⟩; have HN2 := Lib.hid hn2; clear hn2)
  all_goals (have f1 := HN2.out.at H2.out)
  all_goals (clear e0 e1 n1)
  all_goals go_wp2_with fail
  all_goals go_ret
  all_goals exact ⟨rfl, HN2.out⟩
/-- Five boxes that Note lays. -/
theorem Nb.five (h : Nb w wr H d s m B X F N room xs ys up ex) (p v c tv fv : Value) {r1 r2 r3 r4 r5 : TypeId} {W : World} (hW : ((((wr.alloc (.cells #[p] r1)).alloc (.cells #[v] r2)).alloc (.cells #[c] r3)).alloc (.cells #[tv] r4)).alloc (.cells #[fv] r5) = W) :
    Nb w W H d s m B X F N room xs ys up ((wr.heap.size + 1 + 1 + 1 + 1, fv) :: (wr.heap.size, p) :: (wr.heap.size + 1, v) :: (wr.heap.size + 1 + 1, c) :: (wr.heap.size + 1 + 1 + 1, tv) :: ex) := by
  have h4 := h.four p v c tv (r1 := r1) (r2 := r2) (r3 := r3) (r4 := r4) rfl
  have hz : ((((wr.alloc (.cells #[p] r1)).alloc (.cells #[v] r2)).alloc (.cells #[c] r3)).alloc (.cells #[tv] r4)).heap.size = wr.heap.size + 1 + 1 + 1 + 1 := by simp
  generalize (((wr.alloc (.cells #[p] r1)).alloc (.cells #[v] r2)).alloc (.cells #[c] r3)).alloc (.cells #[tv] r4) = V at *
  subst hW
  have hb : Below V.heap.size V (V.alloc (.cells #[fv] r5)) := (Below.refl _ _).alloc (Nat.le_refl _) _
  refine (h4.later hb).box ?_ (h.not_new (by omega))
  rw [← hz]
  exact World.cell?_alloc_new ..
end
section
variable {w : Bas} {H B X F N room : Nat} {m : Nat}
set_option maxRecDepth 100000 in
set_option maxHeartbeats 2000000 in
theorem note_zero (c : Int) (tv : Value) (hv : tvOk tv) {d : Ids} {s : St} {up : Bool} {xs ys : List Int} {ex : List (Nat × Value)} {W : World} (h : Nb w W H d s m B X F N room xs ys up ex) :
    Calls Tryz.prog 19 #[.pointer (some ⟨N, 0, none⟩), .int .i64 0, .int .i64 c, tv] W fun e W' => e = .returned tv ∧ Nb w W' H d s m B X F N room xs ys up ex := by
  obtain ⟨W1, hW1⟩ : ∃ W1, (((W.alloc (.cells #[.pointer (some ⟨N, 0, none⟩)] 36)).alloc (.cells #[.int .i64 0] 3)).alloc (.cells #[.int .i64 c] 3)).alloc (.cells #[tv] 48) = W1 := ⟨_, rfl⟩
  have h4 := h.four _ _ _ _ hW1
  have H4 := Lib.hid h4
  have e0 := h4.at (b := W.heap.size) (v := .pointer (some ⟨N, 0, none⟩)) (by simp)
  have e1 := h4.at (b := W.heap.size + 1) (v := .int .i64 0) (by simp)
  have e3 := h4.at (b := W.heap.size + 1 + 1 + 1) (v := tv) (by simp)
  clear h h4
  rcases hv with rfl | ⟨f, cap, rfl⟩
  · go_enter Tryz.func19, Tryz.ntmps19
    go_wp2_with fail
    go_ret
    exact ⟨rfl, H4.out.less (fun p hp => by simp [hp])⟩
  · go_enter Tryz.func19, Tryz.ntmps19
    go_wp2_with fail
    go_ret
    exact ⟨rfl, H4.out.less (fun p hp => by simp [hp])⟩
/-- What a note's closures hold. -/
def NtBx (ex' : List (Nat × Value)) (N : Nat) (v c : Int) (tv : Value) (b0 b1 b2 b3 b4 : Nat) : Prop :=
  (b0, Value.pointer (some ⟨N, 0, none⟩)) ∈ ex' ∧ (b1, Value.int .i64 v) ∈ ex' ∧ (b2, Value.int .i64 c) ∈ ex' ∧ (b3, tv) ∈ ex' ∧ (b4, Value.func (.func 73) #[] #[.pointer (some ⟨b0, 0, none⟩), .pointer (some ⟨b1, 0, none⟩), .pointer (some ⟨b3, 0, none⟩)]) ∈ ex'
set_option maxRecDepth 100000 in
set_option maxHeartbeats 2000000 in
theorem note_some (v c : Int) (h0 : v ≠ 0) (tv : Value) (hv : tvOk tv) {d : Ids} {s : St} {up : Bool} {xs ys : List Int} {ex : List (Nat × Value)} {W : World} (h : Nb w W H d s m B X F N room xs ys up ex) :
    Calls Tryz.prog 19 #[.pointer (some ⟨N, 0, none⟩), .int .i64 v, .int .i64 c, tv] W fun e W' => ∃ b0 b1 b2 b3 b4 ex', e = .returned (.func (.func 74) #[] #[.pointer (some ⟨b0, 0, none⟩), .pointer (some ⟨b1, 0, none⟩), .pointer (some ⟨b2, 0, none⟩), .pointer (some ⟨b3, 0, none⟩), .pointer (some ⟨b4, 0, none⟩)]) ∧
      Nb w W' H d s m B X F N room xs ys up ex' ∧ NtBx ex' N v c tv b0 b1 b2 b3 b4 ∧ ∀ p ∈ ex, p ∈ ex' := by
  obtain ⟨W1, hW1⟩ : ∃ W1, (((W.alloc (.cells #[.pointer (some ⟨N, 0, none⟩)] 36)).alloc (.cells #[.int .i64 v] 3)).alloc (.cells #[.int .i64 c] 3)).alloc (.cells #[tv] 48) = W1 := ⟨_, rfl⟩
  have h4 := h.four _ _ _ _ hW1
  have e0 := h4.at (b := W.heap.size) (v := .pointer (some ⟨N, 0, none⟩)) (by simp)
  have e1 := h4.at (b := W.heap.size + 1) (v := .int .i64 v) (by simp)
  have hsz : W1.heap.size = W.heap.size + 1 + 1 + 1 + 1 := by rw [← hW1]; simp
  obtain ⟨W2, hW2⟩ : ∃ W2, W1.alloc (.cells #[.func (.func 73) #[] #[.pointer (some ⟨W.heap.size, 0, none⟩), .pointer (some ⟨W.heap.size + 1, 0, none⟩), .pointer (some ⟨W.heap.size + 1 + 1 + 1, 0, none⟩)]] 47) = W2 := ⟨_, rfl⟩
  have h5 := h.five _ _ _ _ _ (show ((((W.alloc (.cells #[.pointer (some ⟨N, 0, none⟩)] 36)).alloc (.cells #[.int .i64 v] 3)).alloc (.cells #[.int .i64 c] 3)).alloc (.cells #[tv] 48)).alloc (.cells #[.func (.func 73) #[] #[.pointer (some ⟨W.heap.size, 0, none⟩), .pointer (some ⟨W.heap.size + 1, 0, none⟩), .pointer (some ⟨W.heap.size + 1 + 1 + 1, 0, none⟩)]] 47) = W2 by rw [hW1]; exact hW2)
  rw [← hsz] at h5
  have H5 := Lib.hid h5
  have hb0 : (v == 0) = false := by rw [beq_eq_false_iff_ne]; exact h0
  clear h h4 h5 hsz h0
  rcases hv with rfl | ⟨f, cap, rfl⟩
  · go_enter Tryz.func19, Tryz.ntmps19
    go_wp2_with fail
    go_ret
    exact ⟨W.heap.size, W.heap.size + 1, W.heap.size + 1 + 1, W.heap.size + 1 + 1 + 1, W1.heap.size, _, rfl, H5.out, by unfold NtBx; simp, fun p hp => by simp [hp]⟩
  · go_enter Tryz.func19, Tryz.ntmps19
    go_wp2_with fail
    go_ret
    exact ⟨W.heap.size, W.heap.size + 1, W.heap.size + 1 + 1, W.heap.size + 1 + 1 + 1, W1.heap.size, _, rfl, H5.out, by unfold NtBx; simp, fun p hp => by simp [hp]⟩
set_option maxRecDepth 100000 in
set_option maxHeartbeats 4000000 in
/-- The first step, the value being no object, or having the color. -/
theorem note_skip {d : Ids} {s : St} {up : Bool} {xs ys : List Int} {ex : List (Nat × Value)} {W : World} {b0 b1 b2 b3 b4 : Nat} {v c : Int} {tv : Value} (h : Nb w W H d s m B X F N room xs ys up ex) (hb : NtBx ex N v c tv b0 b1 b2 b3 b4) (hs : coE s v ≠ 0 ∨ coV s v = c) :
    Calls Tryz.prog 74 #[.pointer (some ⟨b0, 0, none⟩), .pointer (some ⟨b1, 0, none⟩), .pointer (some ⟨b2, 0, none⟩), .pointer (some ⟨b3, 0, none⟩), .pointer (some ⟨b4, 0, none⟩)] W fun e w' => e = .returned tv ∧ Nb w w' H d s m B X F N room xs ys up ex := by
  have e0 := h.at hb.1
  have e1 := h.at hb.2.1
  have n0 := h.n0
  have HH : Hid (∀ V, Below W.heap.size W V → Calls Tryz.prog 33 #[.pointer (some ⟨H, 0, none⟩), .int .i64 v] V fun e w' => e = .returned (.tuple #[.int .i64 (coV s v), .int .i64 (coE s v)]) ∧ Nb w w' H d s m B X F N room xs ys up ex) := Lib.hid fun V hV => nb_color v (h.later hV)
  have HR0 : Hid (Below W.heap.size W W) := Lib.hid (Below.refl _ _)
  have HR1 : Hid (Below W.heap.size W W.drew) := Lib.hid (Below.refl _ _).drew
  have HB := Lib.hid hb
  have HS := Lib.hid hs
  clear h hb hs
  generalize coE s v = ce at *
  generalize coV s v = cc at *
  go_enter Tryz.func74, Tryz.ntmps74
  go_wp2_with fail
  go_region_with (go_at_call 33; refine (HH.out _ (by first | exact HR0.out | exact HR1.out)).mono ?_; rintro e W2 ⟨rfl, hn2⟩; have HN2 := Lib.hid hn2; clear hn2)
  all_goals (have f2 := HN2.out.at HB.out.2.2.1)
  all_goals (have f3 := HN2.out.at HB.out.2.2.2.1)
  all_goals (clear e0 e1 n0)
  all_goals (by_cases he : ce = 0)
  all_goals first
    | (have hc := HS.out.resolve_left (fun e => e he)
       subst he hc
       have hq : (cc == cc) = true := by simp
       go_wp2_with fail
       go_ret
       exact ⟨rfl, HN2.out⟩)
    | (have hq : (ce != 0) = true := by rw [bne_iff_ne]; exact he
       clear he
       go_wp2_with fail
       go_ret
       exact ⟨rfl, HN2.out⟩)
set_option maxRecDepth 100000 in
set_option maxHeartbeats 4000000 in
/-- The first step, the value being of the other color. -/
theorem note_more {d : Ids} {s : St} {up : Bool} {xs ys : List Int} {ex : List (Nat × Value)} {W : World} {b0 b1 b2 b3 b4 : Nat} {v c : Int} {tv : Value} (R : Value → World → Prop) (h : Nb w W H d s m B X F N room xs ys up ex) (hb : NtBx ex N v c tv b0 b1 b2 b3 b4) (he : coE s v = 0) (hc : coV s v ≠ c)
    (HA : xs.length < room → ∀ V, Nb w V H d s m B X F N room (xs ++ [v]) ys up ex → R tv V)
    (HP : xs.length = room → ∀ V, Nb w V H d s m B X F N room xs ys up ex → Calls Tryz.prog 27 #[.pointer (some ⟨N, 0, none⟩), .int .i64 c, .func (.func 73) #[] #[.pointer (some ⟨b0, 0, none⟩), .pointer (some ⟨b1, 0, none⟩), .pointer (some ⟨b3, 0, none⟩)]] V fun e W' => ∃ v, e = .returned v ∧ R v W') :
    Calls Tryz.prog 74 #[.pointer (some ⟨b0, 0, none⟩), .pointer (some ⟨b1, 0, none⟩), .pointer (some ⟨b2, 0, none⟩), .pointer (some ⟨b3, 0, none⟩), .pointer (some ⟨b4, 0, none⟩)] W fun e w' => ∃ v, e = .returned v ∧ R v w' := by
  have e0 := h.at hb.1
  have e1 := h.at hb.2.1
  have n0 := h.n0
  have HH : Hid (∀ V, Below W.heap.size W V → Calls Tryz.prog 33 #[.pointer (some ⟨H, 0, none⟩), .int .i64 v] V fun e w' => e = .returned (.tuple #[.int .i64 (coV s v), .int .i64 (coE s v)]) ∧ Nb w w' H d s m B X F N room xs ys up ex) := Lib.hid fun V hV => nb_color v (h.later hV)
  have HR0 : Hid (Below W.heap.size W W) := Lib.hid (Below.refl _ _)
  have HR1 : Hid (Below W.heap.size W W.drew) := Lib.hid (Below.refl _ _).drew
  have HB := Lib.hid hb
  have HAA := Lib.hid HA
  have HPP := Lib.hid HP
  have hlen : xs.length ≤ room := by obtain ⟨T, t1, _⟩ := h.lg; exact t1.len
  rw [he] at HH
  have hq : (coV s v == c) = false := by rw [beq_eq_false_iff_ne]; exact hc
  clear h hb HA HP he hc
  generalize coV s v = cc at *
  go_enter Tryz.func74, Tryz.ntmps74
  go_wp2_with fail
  go_region_with (go_at_call 33; refine (HH.out _ (by first | exact HR0.out | exact HR1.out)).mono ?_; rintro e W2 ⟨rfl, hn2⟩; have HN2 := Lib.hid hn2; clear hn2)
  all_goals (have f0 := HN2.out.at HB.out.1)
  all_goals (have f2 := HN2.out.at HB.out.2.2.1)
  all_goals (have n1 := HN2.out.n1)
  all_goals (have HFU := Lib.hid (nb_full HN2.out))
  all_goals (clear e0 e1 n0)
  all_goals (rcases Nat.lt_or_eq_of_le hlen with hl | hl)
  all_goals first
    | (have hd : decide (xs.length = room) = false := decide_eq_false (by omega)
       rw [hd] at HFU
       go_wp2_with (go_at_call 75; fail)
       refine HFU.out.mono ?_
       rintro e W3 ⟨rfl, q, rfl⟩
       have HN3 := Lib.hid (HN2.out.later (below_drewN (Below.refl _ _) q))
       have g4 := HN3.out.at HB.out.2.2.2.2
       have HAD := Lib.hid (add_step HN3.out hl HB.out.1 HB.out.2.1 HB.out.2.2.2.1)
       have HAC := Lib.hid (HAA.out hl)
       clear f0 f2 n1 hd hl
       go_wp2_with (go_at_call 73; refine HAD.out.mono ?_; rintro e W4 ⟨rfl, hn4⟩; have HN4 := Lib.hid hn4; clear hn4)
       go_ret
       exact ⟨_, rfl, HAC.out _ HN4.out⟩)
    | (have hd : decide (xs.length = room) = true := decide_eq_true hl
       rw [hd] at HFU
       go_wp2_with (go_at_call 75; fail)
       refine HFU.out.mono ?_
       rintro e W3 ⟨rfl, q, rfl⟩
       have HN3 := Lib.hid (HN2.out.later (below_drewN (Below.refl _ _) q))
       have g0 := HN3.out.at HB.out.1
       have g2 := HN3.out.at HB.out.2.2.1
       have g4 := HN3.out.at HB.out.2.2.2.2
       have HPO := Lib.hid (HPP.out hl _ HN3.out)
       clear f0 f2 n1 hd hl
       go_wp2_with (go_at_call 27; refine HPO.out.mono ?_; rintro e W4 ⟨v4, rfl, hr⟩; have HRR := Lib.hid hr; clear hr)
       go_ret
       exact ⟨v4, rfl, HRR.out⟩)
end
end Go.Proofs.YtkfgchhlekdpgaaGreatDoor.Nt
