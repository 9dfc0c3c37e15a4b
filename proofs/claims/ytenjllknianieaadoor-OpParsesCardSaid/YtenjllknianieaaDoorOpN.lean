/-
  The law's example; OpRegs.
-/
import Derived.Test.YtenjllknianieaaDoorOpI
namespace Go.Proofs.YtenjllknianieaaDoor.Opr
open Go.RowKit

/-- Are two operations the same? -/
def eqOp (k a b c k' a' b' c' : Int) : Bool := k == k' && (a == a' && (b == b' && c == c'))
theorem run_eq_op (k a b c k' a' b' c' : Int) (w : World) :
    (binOp .eql 23 (.agg #[.int .i64 k, .int .i64 a, .int .i64 b, .int .i64 c]) (.agg #[.int .i64 k', .int .i64 a', .int .i64 b', .int .i64 c'])).run Tryd.prog w
      = .ok (.bool (eqOp k a b c k' a' b' c')) w := by
  have hp : Tryd.prog.stoodInHeld 23 = false := by kernel_rfl
  have hu := Tryd.underlying23
  have h3 := Tryd.underlying3
  have c3 : Tryd.prog.cellsOf 3 = 1 := by kernel_rfl
  rw [run_eql_struct, run_equalIn_agg _ _ _ _ _ (by unfold Program.fieldsOf; rw [hu]) hp]
  unfold Program.fieldsOf
  rw [hu]
  simp only [Op.eqFields]
  simp [go_sem, h3, part]
  unfold eqOp
  (repeat' split) <;> simp [*]
theorem guardOp : Tryd.prog.eqGuardType Tryd.prog.depth 23 = false := by kernel_rfl
theorem eqOp_self (k a b c : Int) : eqOp k a b c k a b c = true := by simp [eqOp]
theorem itoa_dig {n : Nat} (h : n < 10) : Lib.itoa (n : Int) = [UInt8.ofNat (48 + n)] := by
  unfold Lib.itoa
  rw [if_neg (by omega), show ((n : Int)).toNat = n by omega, Lib.decDigits, dif_pos h]
theorem bare_ex : BareK 3 1 0 2 := ⟨by omega, by omega, by unfold inI; omega, by unfold inI; omega, by unfold inI; omega, fun h => absurd h (by decide), fun h => absurd h (by decide), fun h => absurd h (by decide)⟩
theorem line_ex : (⟨#[115, 116, 111, 114, 101, 32, 49, 32, 48, 32, 50]⟩ : ByteArray) = bs (lineK 3 1 0 2) := by
  unfold lineK numsK
  have h1 : Lib.itoa (1 : Int) = [49] := itoa_dig (n := 1) (by omega)
  have h0 : Lib.itoa (0 : Int) = [48] := itoa_dig (n := 0) (by omega)
  have h2 : Lib.itoa (2 : Int) = [50] := itoa_dig (n := 2) (by omega)
  rw [show usesK 3 = 3 from rfl]
  simp only [List.take_succ_cons, List.take_zero, List.map_cons, List.map_nil, h1, h0, h2]
  rfl
theorem parse_ex (w : World) (ht : FormTab w) (hl : LibTab w) :
    Calls Tryd.prog 22 #[.string ⟨#[115, 116, 111, 114, 101, 32, 49, 32, 48, 32, 50]⟩] w fun e w' => e = .returned (.tuple #[.agg #[.int .i64 3, .int .i64 1, .int .i64 0, .int .i64 2], .int .i64 0]) ∧ Below w.heap.size w w' := by
  refine (parse_any _ (by decide) w ht hl).mono ?_
  rintro e w' ⟨hp, hb⟩
  refine ⟨?_, hb⟩
  rcases hp with ⟨k, a, b, c, h1, h2, rfl⟩ | ⟨_, h2⟩
  · obtain ⟨rfl, rfl, rfl, rfl⟩ := line_inj bare_ex h1 (bs_inj (line_ex.symm.trans h2))
    rfl
  · exact absurd line_ex (h2 3 1 0 2 bare_ex)
theorem check_ex : checkE 1 16 1 2 0 1 1 3 1 0 2 = 5 := by decide

set_option maxRecDepth 100000 in
set_option maxHeartbeats 2000000 in
theorem awake_any (w : World) (ht : FormTab w) (hl : LibTab w) (hm : LimTab w) :
    Calls Tryd.prog 21 #[] w fun e w' => e = .returned (.bool true) ∧ Below w.heap.size w w' := by
  have HT := Lib.hid ht
  have HL := Lib.hid hl
  have HM := Lib.hid hm
  clear ht hl hm
  have heq := run_eq_op 3 1 0 2 3 1 0 2
  rw [eqOp_self] at heq
  have hgd := guardOp
  go_enter Tryd.func21, Tryd.ntmps21
  go_wp2_with (go_at_call 22; refine (parse_ex _ HT.out HL.out).mono ?_; rintro e w1 ⟨rfl, hb1⟩; have HB1 := Lib.hid hb1; clear hb1)
  refine (check_any 1 16 1 2 0 1 1 3 1 0 2 _ ((HT.out.later HB1.out).alloc _) ((HM.out.later HB1.out).alloc _)).mono ?_
  rw [check_ex]
  rintro e w2 ⟨rfl, hb2⟩
  have HB2 := Lib.hid hb2
  clear hb2
  go_wp2_with fail
  go_ret
  exact ⟨rfl, HB1.out.trans (((Below.refl w1.heap.size w1).alloc (Nat.le_refl _) _).trans (HB2.out.mono (by simp)) |>.mono HB1.out.size)⟩

theorem firstF_zero {r ce : Int} {k : Nat} {f : Nat → Int} : ∀ (n p : Nat), firstF r ce k f n p = 0 → ∀ j, p ≤ j → j < p + n → faultE r ce (useK k j) (f j) = 0
  | 0, _, _, j, h1, h2 => by omega
  | n + 1, p, h, j, h1, h2 => by
    unfold firstF at h
    split at h
    · by_cases hj : j = p
      · subst hj; assumption
      · exact firstF_zero n (p + 1) h j (by omega) (by omega)
    · contradiction
theorem firstF_all {r ce : Int} {k : Nat} {f : Nat → Int} : ∀ (n p : Nat), (∀ j, p ≤ j → j < p + n → faultE r ce (useK k j) (f j) = 0) → firstF r ce k f n p = 0
  | 0, _, _ => rfl
  | n + 1, p, h => by
    unfold firstF
    rw [if_pos (h p (by omega) (by omega))]
    exact firstF_all n (p + 1) (fun j h1 h2 => h j (by omega) (by omega))
theorem firstF_mem {r ce : Int} {k : Nat} {f : Nat → Int} (P : Int → Prop) (h0 : P 0) : ∀ (n p : Nat), (∀ j, p ≤ j → j < p + n → P (faultE r ce (useK k j) (f j))) → P (firstF r ce k f n p)
  | 0, _, _ => h0
  | n + 1, p, h => by
    unfold firstF
    split
    · exact firstF_mem P h0 n (p + 1) (fun j h1 h2 => h j (by omega) (by omega))
    · exact h p (by omega) (by omega)
theorem belowB_mono {n e e' : Int} (h : e ≤ e') (hb : belowB n e = true) : belowB n e' = true := by
  unfold belowB at *
  simp only [Bool.and_eq_true, decide_eq_true_eq] at *
  omega
theorem fault_mono {r ce r' ce' : Int} (hr : r ≤ r') (hc : ce ≤ ce') {u : Nat} {n : Int} (h : faultE r ce u n = 0) : faultE r' ce' u n = 0 := by
  unfold faultE at *
  split at h
  · cases h
  · rename_i h1
    split at h
    · cases h
    · rename_i h2
      split at h
      · cases h
      · rename_i h3
        rw [if_neg, if_neg, if_neg h3]
        · rintro ⟨e, hb⟩
          exact h2 ⟨e, by rw [Bool.eq_false_iff]; intro hh; rw [belowB_mono hc hh] at hb; cases hb⟩
        · rintro ⟨e, hb⟩
          exact h1 ⟨e, by rw [Bool.eq_false_iff]; intro hh; rw [belowB_mono hr hh] at hb; cases hb⟩
theorem right_small {r ce : Int} (h1 : 1 ≤ r) (h2 : r ≤ 64) (h3 : 0 ≤ ce) (h4 : ce ≤ 64) : rightB 1 16 1 r ce 1 1 = true := by
  simp only [rightB, clampAt, nearI]
  simp
  constructor <;> (repeat' split) <;> omega
theorem check_mono {r ce r' ce' : Int} (h1 : 1 ≤ r) (hr : r ≤ r') (h2 : r' ≤ 64) (h3 : 0 ≤ ce) (hc : ce ≤ ce') (h4 : ce' ≤ 64) {k a x c : Int} (h : checkE 1 16 1 r ce 1 1 k a x c = 0) : checkE 1 16 1 r' ce' 1 1 k a x c = 0 := by
  unfold checkE at *
  rw [right_small h1 (by omega) h3 (by omega)] at h
  rw [right_small (by omega) h2 (by omega) h4]
  split at h
  · rename_i hk
    rw [if_pos hk]
    exact firstF_all _ _ (fun j j1 j2 => fault_mono hr hc (firstF_zero _ _ h j j1 j2))
  · cases h
theorem check_64 {k a x c : Int} (ha : 0 ≤ a ∧ a < 64) (hx : 0 ≤ x ∧ x < 64) (hc : 0 ≤ c ∧ c < 64) : checkE 1 16 1 64 64 1 1 k a x c ≠ 5 ∧ checkE 1 16 1 64 64 1 1 k a x c ≠ 9 := by
  unfold checkE
  split
  · refine firstF_mem (fun v => v ≠ 5 ∧ v ≠ 9) (by decide) _ _ (fun j _ _ => ?_)
    have hn : 0 ≤ numAt a x c j ∧ numAt a x c j < 64 := by unfold numAt; split <;> assumption
    have hb : belowB (numAt a x c j) 64 = true := by unfold belowB; simp only [Bool.and_eq_true, decide_eq_true_eq]; exact hn
    unfold faultE
    rw [hb]
    simp only [Bool.true_eq_false, and_false, if_false]
    split <;> decide
  · decide
end Go.Proofs.YtenjllknianieaaDoor.Opr
