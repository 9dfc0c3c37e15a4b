/-
  Steps of painting and pouring.
-/
import Derived.Test.YtkfgchhlekdpgaaGreatDoorNtA
import Derived.Deep.RegionWith
namespace Go.Proofs.YtkfgchhlekdpgaaGreatDoor.Nt
open Go.RowKit
open Hp (Ids St Is To Mine bnI coE coV colB)
open Lg (BfIs BxIs)
open Rf (paS paE paF)
open Go.Proofs.YtkfgchhlekdpgaaGreatDoor.Row (Chg rowB)
open Go.Proofs.YtkfgchhlekdpgaaGreatDoor.Addr (Tabs)

/-- What painting leaves. -/
def pS (c : Int) (s : St) (a : Int) : St := if paE s a c = 0 then paS s a.toNat c else s
def pSt (c : Int) : List Int → St → St
  | [], s => s
  | a :: r, s => pSt c r (pS c s a)
def pAn (c : Int) : List Int → St → Bool → Bool
  | [], _, an => an
  | a :: r, s, an => pAn c r (pS c s a) (an || paF s a c)
section
variable {w : Bas} {wr : World} {H : Nat} {d : Ids} {s : St} {m B X F N room : Nat} {xs ys : List Int} {up : Bool} {ex : List (Nat × Value)}
theorem nb_len (h : Nb w wr H d s m B X F N room xs ys up ex) : Calls Tryz.prog 28 #[.pointer (some ⟨B, 0, none⟩)] wr fun e w' => e = .returned (.int .i64 xs.length) ∧ w' = wr := by
  obtain ⟨T, t1, _⟩ := h.lg
  exact (Lg.len_any wr t1).mono fun e w' h => ⟨h.1, h.2.symm⟩
theorem nb_next {a : Int} (h : Nb w wr H d s m B X F N room (a :: xs) ys up ex) : Calls Tryz.prog 129 #[.pointer (some ⟨B, 0, none⟩)] wr fun e w' => e = .returned (.tuple #[.int .i64 a, .bool true]) ∧ Nb w w' H d s m B X F N room xs ys up ex := by
  obtain ⟨T, t1, t2, t3, t4⟩ := h.lg
  refine (Lg.next_first wr t1).mono ?_
  rintro e w' ⟨rfl, h1, h2⟩
  exact ⟨rfl, h.log (h2.mono fun k hk => .inl hk) t3 t4 h1 (t2.chg h2 (fun k hk => by subst hk; exact t4 _ (.inl (.inr (.inl rfl)))) h.ne.1)⟩
theorem nb_hand_no {y : Int} (h : Nb w wr H d s m B X F N room xs (y :: ys) up ex) : Calls Tryz.prog 70 #[.pointer (some ⟨X, 0, none⟩), .pointer (some ⟨B, 0, none⟩)] wr fun e w' => e = .returned (.bool false) ∧ w' = wr := by
  obtain ⟨T, t1, t2, t3, t4⟩ := h.lg
  exact (Lg.hand_some wr t2).mono fun e w' h => ⟨h.1, h.2.symm⟩
theorem nb_hand (h : Nb w wr H d s m B X F N room xs [] up ex) : Calls Tryz.prog 70 #[.pointer (some ⟨X, 0, none⟩), .pointer (some ⟨B, 0, none⟩)] wr fun e w' => e = .returned (.bool true) ∧ Nb w w' H d s m B X F N room [] xs up ex := by
  obtain ⟨T, t1, t2, t3, t4⟩ := h.lg
  refine (Lg.hand_good wr t2 t1 h.ne.1).mono ?_
  rintro e w' ⟨rfl, h1, h2, h3⟩
  exact ⟨rfl, h.log h3 t3 t4 h2 h1⟩
theorem nb_paint (c a : Int) (h : Nb w wr H d s m B X F N room xs ys up ex) : Calls Tryz.prog 130 #[.pointer (some ⟨H, 0, none⟩), .int .i64 a, .int .i64 c] wr fun e w' => e = .returned (.tuple #[.bool (paF s a c), .int .i64 (paE s a c)]) ∧ ∃ d', Nb w w' H d' (pS c s a) m B X F N room xs ys up ex := by
  refine (Rf.hpaint_any a c wr h.is).mono ?_
  rintro e w' ⟨rfl, hT⟩
  exact ⟨rfl, h.heap hT⟩
theorem nb_color (a : Int) (h : Nb w wr H d s m B X F N room xs ys up ex) : Calls Tryz.prog 33 #[.pointer (some ⟨H, 0, none⟩), .int .i64 a] wr fun e w' => e = .returned (.tuple #[.int .i64 (coV s a), .int .i64 (coE s a)]) ∧ Nb w w' H d s m B X F N room xs ys up ex := by
  refine (Hp.color_any' a wr h.is).mono ?_
  rintro e w' ⟨rfl, hb⟩
  exact ⟨rfl, h.later hb⟩
set_option maxRecDepth 100000 in
theorem nb_raise (h : Nb w wr H d s m B X F N room xs ys up ex) : Calls Tryz.prog 30 #[.pointer (some ⟨F, 0, none⟩)] wr fun e w' => e = .returned (.tuple #[]) ∧ Nb w w' H d s m B X F N room xs ys true ex := by
  have HF := Lib.hid (h.flag true)
  have c0 := h.fl
  have f0 := h.ff
  clear h
  go_enter Tryz.func30, Tryz.ntmps30
  go_wp2_with fail
  exact bodyPost_end (results_none rfl _ _ _) rfl ⟨rfl, HF.out⟩
/-- Four boxes that paint lays. -/
theorem Nb.four (h : Nb w wr H d s m B X F N room xs ys up ex) (p c an tv : Value) {r1 r2 r3 r4 : TypeId} {W : World} (hW : (((wr.alloc (.cells #[p] r1)).alloc (.cells #[c] r2)).alloc (.cells #[an] r3)).alloc (.cells #[tv] r4) = W) :
    Nb w W H d s m B X F N room xs ys up ((wr.heap.size, p) :: (wr.heap.size + 1, c) :: (wr.heap.size + 1 + 1, an) :: (wr.heap.size + 1 + 1 + 1, tv) :: ex) := by
  obtain ⟨hb, c0, c1, c2, c3, _⟩ := Rf.four_cells (w := wr) (u := p) (v := c) (x := an) (y := tv) (r := r1) (s := r2) (t := r3) (t' := r4)
  rw [hW] at hb c0 c1 c2 c3
  exact ((((h.later hb).box c3 (h.not_new (by omega))).box c2 (h.not_new (by omega))).box c1 (h.not_new (by omega))).box c0 (h.not_new (by omega))
/-- Three. -/
theorem Nb.three (h : Nb w wr H d s m B X F N room xs ys up ex) (p c tv : Value) {r1 r2 r3 : TypeId} {W : World} (hW : ((wr.alloc (.cells #[p] r1)).alloc (.cells #[c] r2)).alloc (.cells #[tv] r3) = W) :
    Nb w W H d s m B X F N room xs ys up ((wr.heap.size, p) :: (wr.heap.size + 1, c) :: (wr.heap.size + 1 + 1, tv) :: ex) := by
  obtain ⟨c0, c1, c2, _⟩ := Hp.three_cells (w := wr) (u := p) (v := c) (x := tv) (r := r1) (s := r2) (t := r3)
  have hb := Hp.three_new (w := wr) p c tv r1 r2 r3
  rw [hW] at hb c0 c1 c2
  exact (((h.later hb).box c2 (h.not_new (by omega))).box c1 (h.not_new (by omega))).box c0 (h.not_new (by omega))
theorem Nb.at (h : Nb w wr H d s m B X F N room xs ys up ex) {b : Nat} {v : Value} (hm : (b, v) ∈ ex) : wr.cell? ⟨b, 0, none⟩ = some v := (h.ex _ hm).1
end
section
variable {w : Bas} {H B X F N room : Nat} {ys : List Int} {m : Nat}
theorem enters_61 : ∀ args W, (callFunc 128 args).run Tryz.prog W = .ok (.enter 128 args) W := enters_of Tryz.func128 (by kernel_rfl) rfl
theorem enters_64 : ∀ args W, (callFunc 131 args).run Tryz.prog W = .ok (.enter 131 args) W := enters_of Tryz.func131 (by kernel_rfl) rfl
set_option maxRecDepth 100000 in
set_option maxHeartbeats 2000000 in
/-- The last step: the flag is raised. -/
theorem raise_step {d : Ids} {s : St} {up : Bool} {xs : List Int} {ex : List (Nat × Value)} {W : World} {b0 b1 : Nat} {tv : Value} (h : Nb w W H d s m B X F N room xs ys up ex) (h0 : (b0, .pointer (some ⟨N, 0, none⟩)) ∈ ex) (h1 : (b1, tv) ∈ ex) :
    Calls Tryz.prog 131 #[.pointer (some ⟨b0, 0, none⟩), .pointer (some ⟨b1, 0, none⟩)] W fun e w' => e = .returned tv ∧ Nb w w' H d s m B X F N room xs ys true ex := by
  have e0 := h.at h0
  have n3 := h.n3
  have HR := Lib.hid (nb_raise h)
  have H1 := Lib.hid h1
  clear h h0 h1
  go_enter Tryz.func131, Tryz.ntmps131
  go_wp2_with (go_at_call 30; refine HR.out.mono ?_; rintro e w2 ⟨rfl, hn⟩; have HN := Lib.hid hn; have e1 := hn.at H1.out; clear hn)
  go_ret
  exact ⟨rfl, HN.out⟩
set_option maxRecDepth 100000 in
set_option maxHeartbeats 4000000 in
/-- A step, or none. -/
def tvOk (tv : Value) : Prop := tv = .nilFunc ∨ ∃ f cap, tv = .func (.func f) #[] cap
/-- paint of an empty buffer. -/
theorem paint_nil (c : Int) (kt : Nat) (Q : Aim) (HI : ∀ V d s xs ys up, Nb w V H d s m B X F N room xs ys up [] → Q.i V) (tv : Value) (hv : tvOk tv) (an : Bool) (d : Ids) (s : St) (up : Bool) (ex : List (Nat × Value)) (W : World)
    (h : Nb w W H d s m B X F N room [] ys up ex) (HT : ∀ V d', Nb w V H d' s m B X F N room [] ys (up || an) ex → Does Q kt tv V) :
    Calls Tryz.prog 78 #[.pointer (some ⟨N, 0, none⟩), .int .i64 c, .bool an, tv] W fun e W' => ∃ v, e = .returned v ∧ Does Q ((if an = true then 1 else 0) + kt) v W' := by
  obtain ⟨W1, hW1⟩ : ∃ W1, (((W.alloc (.cells #[.pointer (some ⟨N, 0, none⟩)] 36)).alloc (.cells #[.int .i64 c] 3)).alloc (.cells #[.bool an] 4)).alloc (.cells #[tv] 48) = W1 := ⟨_, rfl⟩
  have h4 := h.four _ _ _ _ hW1
  have H4 := Lib.hid h4
  have e0 := h4.at (b := W.heap.size) (v := .pointer (some ⟨N, 0, none⟩)) (by simp)
  have e2 := h4.at (b := W.heap.size + 1 + 1) (v := .bool an) (by simp)
  have e3 := h4.at (b := W.heap.size + 1 + 1 + 1) (v := tv) (by simp)
  have n1 := h4.n1
  have HL : Hid (Calls Tryz.prog 28 #[.pointer (some ⟨B, 0, none⟩)] W1 fun e w' => e = .returned (.int .i64 0) ∧ w' = W1) := Lib.hid (nb_len h4)
  have HE : Hid (∀ p ∈ ex, p ∈ (W.heap.size, Value.pointer (some ⟨N, 0, none⟩)) :: (W.heap.size + 1, .int .i64 c) :: (W.heap.size + 1 + 1, .bool an) :: (W.heap.size + 1 + 1 + 1, tv) :: ex) := Lib.hid fun p hp => by simp [hp]
  have HTH := Lib.hid HT
  clear h h4 HT
  cases an with
  | true =>
    have HD : Hid (Does Q (1 + kt) (.func (.func 131) #[] #[.pointer (some ⟨W.heap.size, 0, none⟩), .pointer (some ⟨W.heap.size + 1 + 1 + 1, 0, none⟩)]) W1) := Lib.hid (by
      rw [Nat.add_comm]
      refine ⟨HI _ _ _ _ _ _ (H4.out.less (fun p hp => by cases hp)), _, _, rfl, fun V => enters_64 _ V, (raise_step (b0 := W.heap.size) (b1 := W.heap.size + 1 + 1 + 1) (tv := tv) H4.out (by simp) (by simp)).mono ?_⟩
      rintro e w' ⟨rfl, hn⟩
      refine ⟨tv, rfl, HTH.out w' d ?_⟩
      have := hn.less HE.out
      simpa using this)
    clear H4 HTH HE
    rcases hv with rfl | ⟨f, cap, rfl⟩
    · go_enter Tryz.func78, Tryz.ntmps78
      go_wp2_with (go_at_call 28; refine HL.out.mono ?_; rintro e w9 ⟨rfl, hw9⟩; obtain rfl : W1 = w9 := hw9.symm)
      go_ret
      exact ⟨_, rfl, HD.out⟩
    · go_enter Tryz.func78, Tryz.ntmps78
      go_wp2_with (go_at_call 28; refine HL.out.mono ?_; rintro e w9 ⟨rfl, hw9⟩; obtain rfl : W1 = w9 := hw9.symm)
      go_ret
      exact ⟨_, rfl, HD.out⟩
  | false =>
    have HD : Hid (Does Q kt tv W1) := Lib.hid (HTH.out W1 d (by simpa using H4.out.less HE.out))
    have hk : (if (false : Bool) = true then 1 else 0) + kt = kt := by simp
    rw [hk]
    clear H4 HTH HE hk
    rcases hv with rfl | ⟨f, cap, rfl⟩
    · go_enter Tryz.func78, Tryz.ntmps78
      go_wp2_with (go_at_call 28; refine HL.out.mono ?_; rintro e w9 ⟨rfl, hw9⟩; obtain rfl : W1 = w9 := hw9.symm)
      go_ret
      exact ⟨_, rfl, HD.out⟩
    · go_enter Tryz.func78, Tryz.ntmps78
      go_wp2_with (go_at_call 28; refine HL.out.mono ?_; rintro e w9 ⟨rfl, hw9⟩; obtain rfl : W1 = w9 := hw9.symm)
      go_ret
      exact ⟨_, rfl, HD.out⟩
end
end Go.Proofs.YtkfgchhlekdpgaaGreatDoor.Nt
