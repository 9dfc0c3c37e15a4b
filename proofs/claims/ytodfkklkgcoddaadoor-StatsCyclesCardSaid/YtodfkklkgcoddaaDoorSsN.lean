/-
  The document's Int.
-/
import Derived.Test.YtodfkklkgcoddaaDoorSsM
namespace Go.Proofs.YtodfkklkgcoddaaDoor.Ss
open Go.RowKit

/-- The digits, none of 0. -/
def digs0 (m : Nat) : List UInt8 := if m = 0 then [] else Lib.decDigits m
theorem digs0_step (m : Nat) : digs0 (m / 10) ++ [UInt8.ofNat (48 + m % 10)] = Lib.decDigits m := by
  unfold digs0
  by_cases h : m < 10
  · rw [if_pos (by omega), Lib.decDigits, dif_pos h, show m % 10 = m by omega]; rfl
  · rw [if_neg (by omega)]
    conv => rhs; rw [Lib.decDigits, dif_neg h]

theorem conv_one (wr : World) (m : Nat) : (convert 62 9 (.slice (some ⟨wr.heap.size, 0, none⟩) 1 1)).run Tryd.prog (wr.alloc (.cells #[.int .u8 (48 + (m : Int) % 10)] 5)) =
    .ok (.string (bs [UInt8.ofNat (48 + m % 10)])) (wr.alloc (.cells #[.int .u8 (48 + (m : Int) % 10)] 5)) := by
  have hd := dgt (show m % 10 < 10 by omega)
  refine run_convert_bytes_back (P := Tryd.prog) _ 62 9 5 ⟨wr.heap.size, 0, none⟩ 1 [UInt8.ofNat (48 + m % 10)] Tryd.underlying62 Tryd.underlying5 Tryd.underlying9 ?_
  intro j hj
  obtain rfl : j = 0 := by simpa using hj
  show (wr.alloc (.cells #[.int .u8 (48 + (m : Int) % 10)] 5)).cell? ⟨wr.heap.size, 0, none⟩ = some (.int .u8 ((UInt8.ofNat (48 + m % 10)).toNat : Int))
  rw [hd, World.cell?_alloc_new]
  simp
/-- Is it empty? -/
def emp : Value → Nat
  | .string b => if b.size = 0 then 1 else 0
  | _ => 0
theorem emp_nil : emp (.string (bs [])) = 1 := rfl
theorem emp_cons {l : List UInt8} (h : l ≠ []) : emp (.string (bs l)) = 0 := by
  show (if (bs l).size = 0 then 1 else 0) = 0
  rw [bs_size, if_neg]
  intro e
  exact h (List.eq_nil_of_length_eq_zero e)

set_option maxRecDepth 100000 in
set_option maxHeartbeats 2000000 in
theorem refintP_any (n : Nat) (hn : n ≤ 9223372036854775807) (w : World) :
    Calls Tryd.prog 21 #[.int .i64 n] w fun e w' => e = .returned (.string (bs (Lib.decDigits n))) ∧ Below w.heap.size w w' := by
  have n0 : (0 : Int) ≤ (n : Int) := by omega
  have hm : ((n : Int) == -9223372036854775808) = false := by rw [beq_eq_false_iff_ne]; omega
  have hlen : (Lib.decDigits n).length ≤ 19 := dec_len (by omega)
  have HLEN := Lib.hid hlen
  clear hlen
  go_enter Tryd.func21, Tryd.ntmps21
  go_wp2_with fail
  go_loopw [0, 3] (fun v s wr => ∃ (m : Nat) (l : List UInt8), v = .int .i64 m ∧ s = .string (bs l) ∧ m ≤ n ∧ ((l = [] ∧ m = n) ∨ (l ≠ [] ∧ digs0 m ++ l = Lib.decDigits n)) ∧ Below w.heap.size w wr) (fun v s _ => 2 * (intOf v).toNat + emp s)
  case atStart => exact ⟨n, [], rfl, rfl, Nat.le_refl _, .inl ⟨rfl, rfl⟩, Below.refl _ _⟩
  case round =>
    obtain ⟨m, l, rfl, rfl, hmn, hr, hb⟩ := hrel
    have HB := Lib.hid hb
    have HR := Lib.hid hr
    clear hb hr
    have m0 : (0 : Int) ≤ (m : Int) := by omega
    have hm2 : (m : Int) ≤ 9223372036854775807 := by omega
    have hcv := conv_one wr m
    by_cases hgo : l = [] ∨ 0 < m
    · have hg : ((bs l).toList.isEmpty || decide (0 < m)) = true := by
        rw [bs_empty, Bool.or_eq_true, decide_eq_true_eq]
        exact hgo.imp (fun h => by rw [h]; rfl) id
      have HL : Hid (digs0 (m / 10) ++ ([UInt8.ofNat (48 + m % 10)] ++ l) = Lib.decDigits n) := Lib.hid (by
        rw [← List.append_assoc, digs0_step]
        rcases HR.out with ⟨rfl, rfl⟩ | ⟨hl, hd⟩
        · rw [List.append_nil]
        · rw [← hd]
          have : 0 < m := hgo.resolve_left hl
          unfold digs0
          rw [if_neg (by omega)])
      have hsz : (bs l).size ≤ 19 := by
        rw [bs_size]
        have h1 := congrArg List.length HL.out
        simp only [List.length_append] at h1
        have := HLEN.out
        omega
      have hs1 : (bs [UInt8.ofNat (48 + m % 10)]).size = 1 := bs_size _
      have HG := Lib.hid hgo
      clear hgo
      have he3 : [48 + UInt8.ofNat (m % 10)] = [UInt8.ofNat (48 + m % 10)] := by
        congr 1
        apply UInt8.toNat_inj.1
        rw [dgt (by omega), UInt8.toNat_add, UInt8.toNat_ofNat']
        show (48 + _) % 256 = _
        omega
      have hs2 : (bs [48 + UInt8.ofNat (m % 10)]).size = 1 := bs_size _
      have HE3 : Hid ([48 + UInt8.ofNat (m % 10)] = [UInt8.ofNat (48 + m % 10)]) := Lib.hid he3
      clear he3
      have HD : Hid (m / 10 ≤ n) := Lib.hid (by omega)
      by_cases hle : l = []
      · subst hle
        have he : (bs []).toList.isEmpty = true := by rw [bs_empty]; rfl
        go_wp2_with fail
        go_roundw
        case rel => exact ⟨m / 10, [UInt8.ofNat (48 + m % 10)] ++ [], by go_num, by rw [HE3.out, bs_append], HD.out, .inr ⟨by simp, HL.out⟩, HB.out.alloc HB.out.size _⟩
        case measure =>
          rw [HE3.out, bs_append, emp_cons (by simp), emp_nil]
          simp [intOf]; omega
      · have he : (bs l).toList.isEmpty = false := by
          rw [bs_empty]
          cases l with
          | nil => exact absurd rfl hle
          | cons _ _ => rfl
        have hmp : 0 < m := HG.out.resolve_left hle
        have hdm : decide (0 < m) = true := decide_eq_true hmp
        go_wp2_with fail
        go_roundw
        case rel => exact ⟨m / 10, [UInt8.ofNat (48 + m % 10)] ++ l, by go_num, by rw [HE3.out, bs_append], HD.out, .inr ⟨by simp, HL.out⟩, HB.out.alloc HB.out.size _⟩
        case measure =>
          rw [HE3.out, bs_append, emp_cons (by simp), emp_cons hle]
          simp [intOf]; omega
    · have hle : l ≠ [] := fun h => hgo (.inl h)
      obtain rfl : m = 0 := by
        have : ¬ 0 < m := fun h => hgo (.inr h)
        omega
      have he : (bs l).toList.isEmpty = false := by
        rw [bs_empty]
        cases l with
        | nil => exact absurd rfl hle
        | cons _ _ => rfl
      have HL : Hid (l = Lib.decDigits n) := Lib.hid (by
        rcases HR.out with ⟨rfl, _⟩ | ⟨_, hd⟩
        · exact absurd rfl hle
        · rw [← hd]; rfl)
      clear hgo hle hcv
      go_wp2_with fail
      go_ret
      exact ⟨by rw [← HL.out]; rfl, HB.out⟩

theorem itoa_min : Lib.itoa (-9223372036854775808) = [45, 57, 50, 50, 51, 51, 55, 50, 48, 51, 54, 56, 53, 52, 55, 55, 53, 56, 48, 56] := by
  unfold Lib.itoa
  rw [if_pos (by decide)]
  have h := dec_val 18 [57, 50, 50, 51, 51, 55, 50, 48, 51, 54, 56, 53, 52, 55, 55, 53, 56, 48, 56] rfl (by intro c hc; simp only [List.mem_cons, List.not_mem_nil, or_false] at hc; unfold digB; rcases hc with rfl | rfl | rfl | rfl | rfl | rfl | rfl | rfl | rfl | rfl | rfl | rfl | rfl | rfl | rfl | rfl | rfl | rfl | rfl <;> decide) (.inl (by decide))
  have e : valD 0 [57, 50, 50, 51, 51, 55, 50, 48, 51, 54, 56, 53, 52, 55, 55, 53, 56, 48, 56] = (-9223372036854775808 : Int).natAbs := by decide
  rw [e] at h
  rw [h]
set_option maxRecDepth 100000 in
set_option maxHeartbeats 2000000 in
theorem refint_any (n : Int) (hn : inI n) (w : World) :
    Calls Tryd.prog 21 #[.int .i64 n] w fun e w' => e = .returned (.string (bs (Lib.itoa n))) ∧ Below w.heap.size w w' := by
  unfold inI at hn
  by_cases h0 : 0 ≤ n
  · obtain ⟨m, rfl⟩ : ∃ m : Nat, n = m := ⟨n.toNat, by omega⟩
    have e : Lib.itoa (m : Int) = Lib.decDigits m := by unfold Lib.itoa; rw [if_neg (by omega)]; simp
    rw [e]
    exact refintP_any m (by omega) w
  · by_cases hm : n = -9223372036854775808
    · subst hm
      have HE := Lib.hid itoa_min
      clear hn h0
      go_enter Tryd.func21, Tryd.ntmps21
      go_wp2_with fail
      go_ret
      exact ⟨by rw [HE.out]; rfl, Below.refl _ _⟩
    · obtain ⟨m, rfl⟩ : ∃ m : Nat, n = -(m : Int) := ⟨(-n).toNat, by omega⟩
      have hq : ((-(m : Int)) == -9223372036854775808) = false := by rw [beq_eq_false_iff_ne]; exact hm
      have e : Lib.itoa (-(m : Int)) = [45] ++ Lib.decDigits m := by unfold Lib.itoa; rw [if_pos (by omega)]; simp
      have HE := Lib.hid e
      have hlt : -(m : Int) < 0 := by omega
      have hm1 : (m : Int) ≤ 9223372036854775807 := by omega
      have HP := Lib.hid (refintP_any m (by omega) w)
      have hs1 : (bs (Lib.decDigits m)).size ≤ 19 := by rw [bs_size]; exact dec_len (by omega)
      have hs2 : (⟨#[45]⟩ : ByteArray).size = 1 := rfl
      clear h0 hm e hn
      go_enter Tryd.func21, Tryd.ntmps21
      go_wp2_with (go_at_call 21; fail)
      refine HP.out.mono ?_
      rintro e w3 ⟨rfl, hb3⟩
      have HB3 := Lib.hid hb3
      clear hb3
      go_wp2_with fail
      go_ret
      exact ⟨by rw [HE.out, ← bs_append]; rfl, HB3.out⟩
end Go.Proofs.YtodfkklkgcoddaaDoor.Ss
