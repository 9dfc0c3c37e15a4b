/-
  The document's Number.
-/
import Derived.Test.YtenjllknianieaaDoorOpJ
namespace Go.Proofs.YtenjllknianieaaDoor.Opr
open Go.RowKit

/-- What Number tells. -/
def NumB2 (s : ByteArray) (e : Ending) : Prop :=
  (∃ v : Int, inI v ∧ s = bs (Lib.itoa v) ∧ e = .returned (.tuple #[.int .i64 v, .bool true])) ∨
  ((∃ v : Int, e = .returned (.tuple #[.int .i64 v, .bool false])) ∧ ∀ v : Int, inI v → s ≠ bs (Lib.itoa v))
theorem bs_get {l : List UInt8} {i : Nat} (_ : i < (bs l).size) (h2 : i < l.length) : (bs l)[i] = l[i] := rfl
theorem bs_tail (c : UInt8) (D : List UInt8) : (bs (c :: D)).extract 1 (D.length + 1) = bs D := by
  apply ByteArray.ext
  apply Array.ext'
  simp [bs, ByteArray.data_extract]
/-- A numeral's digits. -/
theorem itoa_neg {v : Int} (_hv : inI v) {D : List UInt8} (h : 45 :: D = Lib.itoa v) : v < 0 ∧ D = Lib.decDigits v.natAbs := by
  unfold Lib.itoa at h
  split at h
  · injection h with _ h2; exact ⟨by assumption, h2⟩
  · exfalso
    have := dec_digs v.toNat 45 (by rw [← h]; simp)
    unfold digB at this
    simp at this
theorem itoa_pos {v : Int} {D : List UInt8} (hD : D.head? ≠ some 45) (h : D = Lib.itoa v) : 0 ≤ v ∧ D = Lib.decDigits v.toNat := by
  unfold Lib.itoa at h
  split at h
  · rw [h] at hD; exact absurd rfl hD
  · exact ⟨by omega, h⟩
theorem digB_dec (c : UInt8) : digB c ∨ c.toNat < 48 ∨ 57 < c.toNat := by unfold digB; omega
/-- No numeral. -/
def NoNum (m : Bool) (D : List UInt8) : Prop := ∀ u : Nat, D = Lib.decDigits u → (m = true → u = 0 ∨ 9223372036854775808 < u) ∧ (m = false → 9223372036854775807 < u)
theorem noNum_neg {D : List UInt8} (h : NoNum true D) : ∀ v : Int, inI v → bs (45 :: D) ≠ bs (Lib.itoa v) := fun v hv e => by
  obtain ⟨h1, h2⟩ := itoa_neg hv (bs_inj e)
  have := (h _ h2).1 rfl
  unfold inI at hv; omega
theorem noNum_pos {D : List UInt8} (hD : D.head? ≠ some 45) (h : NoNum false D) : ∀ v : Int, inI v → bs D ≠ bs (Lib.itoa v) := fun v hv e => by
  obtain ⟨h1, h2⟩ := itoa_pos hD (bs_inj e)
  have := (h _ h2).2 rfl
  unfold inI at hv; omega
theorem noNum_of {m : Bool} {D : List UInt8} (h : ∀ u, D ≠ Lib.decDigits u) : NoNum m D := fun u e => absurd e (h u)
theorem noNum_long {m : Bool} {D : List UInt8} (h : 19 < D.length) : NoNum m D := fun u e => by
  by_cases hu : u < 10000000000000000000
  · have := dec_len hu
    rw [← e] at this; omega
  · exact ⟨fun _ => by omega, fun _ => by omega⟩
theorem noNum_zero {m : Bool} {T : List UInt8} (h : m = true ∨ T ≠ []) : NoNum m (48 :: T) := fun u e => by
  by_cases hu : u = 0
  · subst hu
    rw [dec_zero] at e
    injection e with _ e2
    subst e2
    exact ⟨fun _ => .inl rfl, fun hm => by rcases h with h | h <;> simp_all⟩
  · have := dec_head u hu
    rw [← e] at this
    exact absurd rfl this
theorem noNum_bad {m : Bool} {D : List UInt8} {c : UInt8} (hc : c ∈ D) (h : ¬ digB c) : NoNum m D := noNum_of fun u e => h (dec_digs u c (by rw [← e]; exact hc))
theorem noNum_big {m : Bool} {D : List UInt8} (hv' : (m = true → valD 0 D = 0 ∨ 9223372036854775808 < valD 0 D) ∧ (m = false → 9223372036854775807 < valD 0 D)) : NoNum m D := fun u e => by
  rw [e, val_dec] at hv'; exact hv'
theorem valD_take {D : List UInt8} {i : Nat} (hi : i < D.length) : valD 0 (D.take (i + 1)) = valD 0 (D.take i) * 10 + (D[i].toNat - 48) := by
  rw [List.take_add_one, List.getElem?_eq_getElem hi, valD_append]; rfl
theorem valD_take_lt {D : List UInt8} {i : Nat} (hi : i ≤ 18) (hd : ∀ j (h : j < D.length), j < i → digB D[j]) : valD 0 (D.take i) < 1000000000000000000 := by
  have h1 := valD_lt (D.take i) 0 (fun c hc => by
    obtain ⟨j, hj, rfl⟩ := List.mem_iff_getElem.1 hc
    rw [List.getElem_take]
    rw [List.length_take] at hj
    exact hd j (by omega) (by omega))
  have h2 : 10 ^ (D.take i).length ≤ 10 ^ 18 := Nat.pow_le_pow_right (by omega) (by rw [List.length_take]; omega)
  have h3 : (10 : Nat) ^ 18 = 1000000000000000000 := by decide
  omega

set_option maxRecDepth 100000 in
set_option maxHeartbeats 8000000 in
theorem numberM_any (D : List UInt8) (hL : D.length ≤ 1000000) (w : World) :
    Calls Tryd.prog 57 #[.string (bs (45 :: D))] w fun e w' => NumB2 (bs (45 :: D)) e ∧ Below w.heap.size w w' := by
  have HNN : Hid (NoNum true D → ∀ v : Int, inI v → (bs (45 :: D)) ≠ bs (Lib.itoa v)) := Lib.hid fun h => noNum_neg h
  have hs0 : (bs (45 :: D)).size = D.length + 1 := bs_size _
  have hne : (bs (45 :: D)).toList.isEmpty = false := by rw [bs_empty]; rfl
  have hb0 : ((bs (45 :: D))[0]'(by rw [hs0]; omega)).toNat = 45 := rfl
  have htl : (bs (45 :: D)).extract 1 (D.length + 1) = bs D := bs_tail _ _
  have hsz : (bs D).size = D.length := bs_size _
  go_enter Tryd.func57, Tryd.ntmps57
  by_cases hD0 : D.length < 1
  · have HNO := Lib.hid (noNum_of (m := true) (D := D) fun u e => by rw [List.eq_nil_of_length_eq_zero (by omega : D.length = 0)] at e; exact dec_ne u e.symm)
    go_wp2_with fail
    go_ret2
    exact ⟨.inr ⟨⟨0, rfl⟩, HNN.out HNO.out⟩, Below.refl _ _⟩
  · by_cases hD19 : 19 < D.length
    · have HNO := Lib.hid (noNum_long (m := true) hD19)
      go_wp2_with fail
      go_ret2
      exact ⟨.inr ⟨⟨0, rfl⟩, HNN.out HNO.out⟩, Below.refl _ _⟩
    · have hb1 : (((bs D)[0]'(by rw [hsz]; omega)).toNat : Int) = ((D[0]'(by omega)).toNat : Int) := rfl
      have hlen : 1 ≤ D.length := by omega
      by_cases hz : (D[0]'(by omega)).toNat = 48
      · have HNO : Hid (NoNum true D) := Lib.hid (by
          have h1 : D = 48 :: D.tail := by
            cases D with
            | nil => simp at hlen
            | cons c T =>
              have h2 : c.toNat = 48 := hz
              rw [show c = 48 from UInt8.toNat_inj.1 (by rw [h2]; rfl)]; rfl
          rw [h1]
          refine noNum_zero ?_
          exact .inl rfl)
        have hbz : (((bs D)[0]'(by rw [hsz]; omega)).toNat : Int) = 48 := by rw [hb1, hz]; rfl
        have hb8 : ((bs (45 :: D)).toList == [48]) = false := by rw [ByteArray.toList_eq, beq_eq_false_iff_ne]; intro e; injection e with e _; exact absurd e (by decide)
        clear hb1
        go_wp2_with fail
        go_ret2
        exact ⟨.inr ⟨⟨0, rfl⟩, HNN.out HNO.out⟩, Below.refl _ _⟩
      · have hbz : ((((bs D)[0]'(by rw [hsz]; omega)).toNat : Int) == 48) = false := by rw [hb1, beq_eq_false_iff_ne]; omega
        have hb8 : ((bs (45 :: D)).toList == [48]) = false := by rw [ByteArray.toList_eq, beq_eq_false_iff_ne]; intro e; injection e with e _; exact absurd e (by decide)
        have HZ := Lib.hid hz
        have HL1 := Lib.hid hlen
        clear hz hb1 hlen
        go_wp2_with fail
        go_loopw [6, 7] (fun a i wr => ∃ p : Nat, p ≤ D.length ∧ i = .int .i64 p ∧ a = .int .u64 (valD 0 (D.take p)) ∧ (∀ j (h : j < D.length), j < p → digB D[j]) ∧ wr = w) (fun _ i _ => 19 - (intOf i).toNat)
        case atStart => exact ⟨0, Nat.zero_le _, rfl, rfl, fun j _ hj => by omega, rfl⟩
        case round =>
          obtain ⟨p, hp, rfl, rfl, hdg, rfl⟩ := hrel
          have HDG := Lib.hid hdg
          clear hdg
          have p0 : (0 : Int) ≤ (p : Int) := by omega
          by_cases hlt : p < D.length
          · have hpl : (p : Int) < (D.length : Int) := by omega
            have hvl : valD 0 (D.take p) < 1000000000000000000 := valD_take_lt (by omega) HDG.out
            have hst := valD_take hlt
            have HST := Lib.hid hst
            clear hst
            generalize valD 0 (D.take p) = V at *
            have hbp : ((bs D)[p]'(by rw [hsz]; exact hlt)).toNat = (D[p]).toNat := rfl
            have HBP := Lib.hid hbp
            clear hbp
            generalize hcc : ((bs D)[p]'(by rw [hsz]; exact hlt)).toNat = cc at *
            have hc255 : cc ≤ 255 := by rw [HBP.out]; have := (D[p]).toNat_lt; omega
            by_cases hd1 : cc < 48
            · have HNO : Hid (NoNum true D) := Lib.hid (noNum_bad (List.getElem_mem hlt) (by unfold digB; rw [← HBP.out]; omega))
              go_wp2_with fail
              go_ret2
              exact ⟨.inr ⟨⟨0, rfl⟩, HNN.out HNO.out⟩, Below.refl _ _⟩
            · by_cases hd2 : 57 < cc
              · have HNO : Hid (NoNum true D) := Lib.hid (noNum_bad (List.getElem_mem hlt) (by unfold digB; rw [← HBP.out]; omega))
                go_wp2_with fail
                go_ret2
                exact ⟨.inr ⟨⟨0, rfl⟩, HNN.out HNO.out⟩, Below.refl _ _⟩
              · have hV : (V : Int) < 1000000000000000000 := by omega
                have hd3 : (48 : Int) ≤ (cc : Int) := by omega
                have hd4 : (cc : Int) ≤ 57 := by omega
                have hV0 : (0 : Int) ≤ (V : Int) := by omega
                clear hvl
                have HD1 := Lib.hid hd1
                have HD2 := Lib.hid hd2
                have hor : (decide ((cc : Int) < 48) || decide ((57 : Int) < (cc : Int))) = false := by rw [decide_eq_false (by omega), decide_eq_false (by omega)]; rfl
                clear hd1 hd2 hc255
                go_wp2_with fail
                go_roundw
                case rel =>
                  refine ⟨p + 1, by omega, by go_num, ?_, fun j h hj => ?_, trivial⟩
                  · rw [HST.out, ← HBP.out]; go_num
                  · by_cases hjp : j < p
                    · exact HDG.out j h hjp
                    · obtain rfl : j = p := by omega
                      unfold digB; rw [← HBP.out]; omega
                case measure => simp [intOf]; omega
          · obtain rfl : p = D.length := by omega
            have hdall : ∀ c ∈ D, digB c := fun c hc => by
              obtain ⟨j, hj, rfl⟩ := List.mem_iff_getElem.1 hc
              exact HDG.out j hj hj
            rw [List.take_length]
            have hdv : Lib.decDigits (valD 0 D) = D := dec_val (D.length - 1) D (by have := HL1.out; omega) hdall (.inl (by
              intro e
              apply HZ.out
              cases D with
              | nil => cases e
              | cons c T => injection e with e; subst e; rfl))
            have hv0 : valD 0 D ≠ 0 := by
              intro e
              rw [e, dec_zero] at hdv
              have e1 : D[0]? = some 48 := by rw [← hdv]; rfl
              obtain ⟨h9, e9⟩ := List.getElem?_eq_some_iff.1 e1
              apply HZ.out
              rw [e9]; rfl
            have HDV := Lib.hid hdv
            have hbig : valD 0 D < 10000000000000000000 := by
              have h1 := valD_lt D 0 hdall
              have h2 : 10 ^ D.length ≤ 10 ^ 19 := Nat.pow_le_pow_right (by omega) (by omega)
              have h3 : (10 : Nat) ^ 19 = 10000000000000000000 := by decide
              omega
            have HNO : Hid (9223372036854775808 < valD 0 D → NoNum true D) := Lib.hid fun h => noNum_big ⟨fun _ => .inr h, (fun h => by cases h)⟩
            clear hdall hdv
            generalize valD 0 D = V at *
            have hV0 : (1 : Int) ≤ (V : Int) := by omega
            have hV1 : (V : Int) < 10000000000000000000 := by omega
            by_cases hle : V ≤ 9223372036854775808
            · have hle2 : (V : Int) ≤ 9223372036854775808 := by omega
              have HYES : Hid (inI (-((V : Int) - 1) - 1) ∧ bs (45 :: D) = bs (Lib.itoa (-((V : Int) - 1) - 1))) := Lib.hid (by
                rw [show -((V : Int) - 1) - 1 = -(V : Int) by omega]
                refine ⟨by unfold inI; omega, ?_⟩
                unfold Lib.itoa
                rw [if_pos (by omega), show (-(V : Int)).natAbs = V by omega, HDV.out])
              go_wp2_with fail
              go_ret2
              exact ⟨.inl ⟨_, HYES.out.1, HYES.out.2, rfl⟩, Below.refl _ _⟩
            · have hle2 : ¬ (V : Int) ≤ 9223372036854775808 := by omega
              have HN2 := Lib.hid (HNO.out (by omega))
              go_wp2_with fail
              go_ret2
              exact ⟨.inr ⟨⟨_, rfl⟩, HNN.out HN2.out⟩, Below.refl _ _⟩

set_option maxRecDepth 100000 in
set_option maxHeartbeats 8000000 in
theorem numberP_any (D : List UInt8) (hL : D.length ≤ 1000000) (hD : D.head? ≠ some 45) (w : World) :
    Calls Tryd.prog 57 #[.string (bs D)] w fun e w' => NumB2 (bs D) e ∧ Below w.heap.size w w' := by
  have HNN : Hid (NoNum false D → ∀ v : Int, inI v → (bs D) ≠ bs (Lib.itoa v)) := Lib.hid fun h => noNum_pos hD h
  by_cases hnil : D = []
  · subst hnil
    have HNO := Lib.hid (noNum_of (m := false) (D := []) fun u e => dec_ne u e.symm)
    have hne : (bs []).toList.isEmpty = true := by rw [bs_empty]; rfl
    have hs0 : (bs []).size = 0 := bs_size _
    go_enter Tryd.func57, Tryd.ntmps57
    go_wp2_with fail
    go_ret2
    exact ⟨.inr ⟨⟨0, rfl⟩, HNN.out HNO.out⟩, Below.refl _ _⟩
  have hne : (bs D).toList.isEmpty = false := by
    rw [bs_empty]
    cases D with
    | nil => exact absurd rfl hnil
    | cons _ _ => rfl
  have hd0 : 0 < D.length := List.length_pos_iff.2 hnil
  clear hnil
  have hb45 : ((((bs D)[0]'(by rw [bs_size]; exact hd0)).toNat : Int) == 45) = false := by
    rw [beq_eq_false_iff_ne]
    intro e
    apply hD
    have e1 : (D[0]'hd0).toNat = 45 := Int.ofNat.inj e
    cases D with
    | nil => simp at hd0
    | cons c T =>
      have e2 : c = 45 := UInt8.toNat_inj.1 e1
      rw [e2]; rfl
  clear hD
  have hsz : (bs D).size = D.length := bs_size _
  go_enter Tryd.func57, Tryd.ntmps57
  by_cases hD0 : D.length < 1
  · exact absurd hd0 (by omega)
  · by_cases hD19 : 19 < D.length
    · have HNO := Lib.hid (noNum_long (m := false) hD19)
      go_wp2_with fail
      go_ret2
      exact ⟨.inr ⟨⟨0, rfl⟩, HNN.out HNO.out⟩, Below.refl _ _⟩
    · have hb1 : (((bs D)[0]'(by rw [hsz]; omega)).toNat : Int) = ((D[0]'(by omega)).toNat : Int) := rfl
      have hlen : 1 ≤ D.length := by omega
      by_cases hz : (D[0]'(by omega)).toNat = 48 ∧ D ≠ [48]
      · have HNO : Hid (NoNum false D) := Lib.hid (by
          have h1 : D = 48 :: D.tail := by
            cases D with
            | nil => simp at hlen
            | cons c T =>
              have h2 : c.toNat = 48 := hz.1
              rw [show c = 48 from UInt8.toNat_inj.1 (by rw [h2]; rfl)]; rfl
          rw [h1]
          refine noNum_zero ?_
          right
          intro e
          exact hz.2 (by rw [h1, e]))
        have hbz : (((bs D)[0]'(by rw [hsz]; omega)).toNat : Int) = 48 := by rw [hb1, hz.1]; rfl
        have hb8 : ((bs D).toList == [48]) = false := by rw [ByteArray.toList_eq, beq_eq_false_iff_ne]; exact hz.2
        clear hb1
        go_wp2_with fail
        go_ret2
        exact ⟨.inr ⟨⟨0, rfl⟩, HNN.out HNO.out⟩, Below.refl _ _⟩
      · by_cases h48 : D = [48]
        · have hbz : ((((bs D)[0]'(by rw [hsz]; omega)).toNat : Int) == 48) = true := by
            rw [hb1, beq_iff_eq]
            have e1 : D[0]? = some 48 := by rw [h48]; rfl
            obtain ⟨h9, e9⟩ := List.getElem?_eq_some_iff.1 e1
            rw [e9]; rfl
          have hb8 : ((bs D).toList == [48]) = true := by rw [ByteArray.toList_eq, beq_iff_eq]; exact h48
          clear h48
          have HZ := Lib.hid hz
          have HL1 := Lib.hid hlen
          clear hz hb1 hlen
          go_wp2_with fail
          go_loopw [6, 7] (fun a i wr => ∃ p : Nat, p ≤ D.length ∧ i = .int .i64 p ∧ a = .int .u64 (valD 0 (D.take p)) ∧ (∀ j (h : j < D.length), j < p → digB D[j]) ∧ wr = w) (fun _ i _ => 19 - (intOf i).toNat)
          case atStart => exact ⟨0, Nat.zero_le _, rfl, rfl, fun j _ hj => by omega, rfl⟩
          case round =>
            obtain ⟨p, hp, rfl, rfl, hdg, rfl⟩ := hrel
            have HDG := Lib.hid hdg
            clear hdg
            have p0 : (0 : Int) ≤ (p : Int) := by omega
            by_cases hlt : p < D.length
            · have hpl : (p : Int) < (D.length : Int) := by omega
              have hvl : valD 0 (D.take p) < 1000000000000000000 := valD_take_lt (by omega) HDG.out
              have hst := valD_take hlt
              have HST := Lib.hid hst
              clear hst
              generalize valD 0 (D.take p) = V at *
              have hbp : ((bs D)[p]'(by rw [hsz]; exact hlt)).toNat = (D[p]).toNat := rfl
              have HBP := Lib.hid hbp
              clear hbp
              generalize hcc : ((bs D)[p]'(by rw [hsz]; exact hlt)).toNat = cc at *
              have hc255 : cc ≤ 255 := by rw [HBP.out]; have := (D[p]).toNat_lt; omega
              by_cases hd1 : cc < 48
              · have HNO : Hid (NoNum false D) := Lib.hid (noNum_bad (List.getElem_mem hlt) (by unfold digB; rw [← HBP.out]; omega))
                go_wp2_with fail
                go_ret2
                exact ⟨.inr ⟨⟨0, rfl⟩, HNN.out HNO.out⟩, Below.refl _ _⟩
              · by_cases hd2 : 57 < cc
                · have HNO : Hid (NoNum false D) := Lib.hid (noNum_bad (List.getElem_mem hlt) (by unfold digB; rw [← HBP.out]; omega))
                  go_wp2_with fail
                  go_ret2
                  exact ⟨.inr ⟨⟨0, rfl⟩, HNN.out HNO.out⟩, Below.refl _ _⟩
                · have hV : (V : Int) < 1000000000000000000 := by omega
                  have hd3 : (48 : Int) ≤ (cc : Int) := by omega
                  have hd4 : (cc : Int) ≤ 57 := by omega
                  have hV0 : (0 : Int) ≤ (V : Int) := by omega
                  clear hvl
                  have HD1 := Lib.hid hd1
                  have HD2 := Lib.hid hd2
                  have hor : (decide ((cc : Int) < 48) || decide ((57 : Int) < (cc : Int))) = false := by rw [decide_eq_false (by omega), decide_eq_false (by omega)]; rfl
                  clear hd1 hd2 hc255
                  go_wp2_with fail
                  go_roundw
                  case rel =>
                    refine ⟨p + 1, by omega, by go_num, ?_, fun j h hj => ?_, trivial⟩
                    · rw [HST.out, ← HBP.out]; go_num
                    · by_cases hjp : j < p
                      · exact HDG.out j h hjp
                      · obtain rfl : j = p := by omega
                        unfold digB; rw [← HBP.out]; omega
                  case measure => simp [intOf]; omega
            · obtain rfl : p = D.length := by omega
              have hdall : ∀ c ∈ D, digB c := fun c hc => by
                obtain ⟨j, hj, rfl⟩ := List.mem_iff_getElem.1 hc
                exact HDG.out j hj hj
              rw [List.take_length]
              have hdv : Lib.decDigits (valD 0 D) = D := dec_val (D.length - 1) D (by have := HL1.out; omega) hdall (by
                by_cases h48 : D = [48]
                · exact .inr h48
                · left
                  intro e
                  apply HZ.out
                  cases D with
                  | nil => cases e
                  | cons c T => injection e with e; subst e; exact ⟨rfl, h48⟩)
              have HDV := Lib.hid hdv
              have hbig : valD 0 D < 10000000000000000000 := by
                have h1 := valD_lt D 0 hdall
                have h2 : 10 ^ D.length ≤ 10 ^ 19 := Nat.pow_le_pow_right (by omega) (by omega)
                have h3 : (10 : Nat) ^ 19 = 10000000000000000000 := by decide
                omega
              have HNO : Hid (9223372036854775807 < valD 0 D → NoNum false D) := Lib.hid fun h => noNum_big ⟨(fun h => by cases h), fun _ => h⟩
              clear hdall hdv
              generalize valD 0 D = V at *
              have hV0 : (0 : Int) ≤ (V : Int) := by omega
              have hV1 : (V : Int) < 10000000000000000000 := by omega
              by_cases hle : V ≤ 9223372036854775807
              · have hle2 : (V : Int) ≤ 9223372036854775807 := by omega
                have HYES : Hid (inI (V : Int) ∧ bs D = bs (Lib.itoa (V : Int))) := Lib.hid (by
                  refine ⟨by unfold inI; omega, ?_⟩
                  unfold Lib.itoa
                  rw [if_neg (by omega), show (V : Int).toNat = V by omega, HDV.out])
                go_wp2_with fail
                go_ret2
                exact ⟨.inl ⟨_, HYES.out.1, HYES.out.2, rfl⟩, Below.refl _ _⟩
              · have hle2 : ¬ (V : Int) ≤ 9223372036854775807 := by omega
                have HN2 := Lib.hid (HNO.out (by omega))
                go_wp2_with fail
                go_ret2
                exact ⟨.inr ⟨⟨_, rfl⟩, HNN.out HN2.out⟩, Below.refl _ _⟩
        · have hbz : ((((bs D)[0]'(by rw [hsz]; omega)).toNat : Int) == 48) = false := by
            rw [hb1, beq_eq_false_iff_ne]
            intro e
            exact hz ⟨Int.ofNat.inj e, h48⟩
          clear h48
          have HZ := Lib.hid hz
          have HL1 := Lib.hid hlen
          clear hz hb1 hlen
          go_wp2_with fail
          go_loopw [6, 7] (fun a i wr => ∃ p : Nat, p ≤ D.length ∧ i = .int .i64 p ∧ a = .int .u64 (valD 0 (D.take p)) ∧ (∀ j (h : j < D.length), j < p → digB D[j]) ∧ wr = w) (fun _ i _ => 19 - (intOf i).toNat)
          case atStart => exact ⟨0, Nat.zero_le _, rfl, rfl, fun j _ hj => by omega, rfl⟩
          case round =>
            obtain ⟨p, hp, rfl, rfl, hdg, rfl⟩ := hrel
            have HDG := Lib.hid hdg
            clear hdg
            have p0 : (0 : Int) ≤ (p : Int) := by omega
            by_cases hlt : p < D.length
            · have hpl : (p : Int) < (D.length : Int) := by omega
              have hvl : valD 0 (D.take p) < 1000000000000000000 := valD_take_lt (by omega) HDG.out
              have hst := valD_take hlt
              have HST := Lib.hid hst
              clear hst
              generalize valD 0 (D.take p) = V at *
              have hbp : ((bs D)[p]'(by rw [hsz]; exact hlt)).toNat = (D[p]).toNat := rfl
              have HBP := Lib.hid hbp
              clear hbp
              generalize hcc : ((bs D)[p]'(by rw [hsz]; exact hlt)).toNat = cc at *
              have hc255 : cc ≤ 255 := by rw [HBP.out]; have := (D[p]).toNat_lt; omega
              by_cases hd1 : cc < 48
              · have HNO : Hid (NoNum false D) := Lib.hid (noNum_bad (List.getElem_mem hlt) (by unfold digB; rw [← HBP.out]; omega))
                go_wp2_with fail
                go_ret2
                exact ⟨.inr ⟨⟨0, rfl⟩, HNN.out HNO.out⟩, Below.refl _ _⟩
              · by_cases hd2 : 57 < cc
                · have HNO : Hid (NoNum false D) := Lib.hid (noNum_bad (List.getElem_mem hlt) (by unfold digB; rw [← HBP.out]; omega))
                  go_wp2_with fail
                  go_ret2
                  exact ⟨.inr ⟨⟨0, rfl⟩, HNN.out HNO.out⟩, Below.refl _ _⟩
                · have hV : (V : Int) < 1000000000000000000 := by omega
                  have hd3 : (48 : Int) ≤ (cc : Int) := by omega
                  have hd4 : (cc : Int) ≤ 57 := by omega
                  have hV0 : (0 : Int) ≤ (V : Int) := by omega
                  clear hvl
                  have HD1 := Lib.hid hd1
                  have HD2 := Lib.hid hd2
                  have hor : (decide ((cc : Int) < 48) || decide ((57 : Int) < (cc : Int))) = false := by rw [decide_eq_false (by omega), decide_eq_false (by omega)]; rfl
                  clear hd1 hd2 hc255
                  go_wp2_with fail
                  go_roundw
                  case rel =>
                    refine ⟨p + 1, by omega, by go_num, ?_, fun j h hj => ?_, trivial⟩
                    · rw [HST.out, ← HBP.out]; go_num
                    · by_cases hjp : j < p
                      · exact HDG.out j h hjp
                      · obtain rfl : j = p := by omega
                        unfold digB; rw [← HBP.out]; omega
                  case measure => simp [intOf]; omega
            · obtain rfl : p = D.length := by omega
              have hdall : ∀ c ∈ D, digB c := fun c hc => by
                obtain ⟨j, hj, rfl⟩ := List.mem_iff_getElem.1 hc
                exact HDG.out j hj hj
              rw [List.take_length]
              have hdv : Lib.decDigits (valD 0 D) = D := dec_val (D.length - 1) D (by have := HL1.out; omega) hdall (by
                by_cases h48 : D = [48]
                · exact .inr h48
                · left
                  intro e
                  apply HZ.out
                  cases D with
                  | nil => cases e
                  | cons c T => injection e with e; subst e; exact ⟨rfl, h48⟩)
              have HDV := Lib.hid hdv
              have hbig : valD 0 D < 10000000000000000000 := by
                have h1 := valD_lt D 0 hdall
                have h2 : 10 ^ D.length ≤ 10 ^ 19 := Nat.pow_le_pow_right (by omega) (by omega)
                have h3 : (10 : Nat) ^ 19 = 10000000000000000000 := by decide
                omega
              have HNO : Hid (9223372036854775807 < valD 0 D → NoNum false D) := Lib.hid fun h => noNum_big ⟨(fun h => by cases h), fun _ => h⟩
              clear hdall hdv
              generalize valD 0 D = V at *
              have hV0 : (0 : Int) ≤ (V : Int) := by omega
              have hV1 : (V : Int) < 10000000000000000000 := by omega
              by_cases hle : V ≤ 9223372036854775807
              · have hle2 : (V : Int) ≤ 9223372036854775807 := by omega
                have HYES : Hid (inI (V : Int) ∧ bs D = bs (Lib.itoa (V : Int))) := Lib.hid (by
                  refine ⟨by unfold inI; omega, ?_⟩
                  unfold Lib.itoa
                  rw [if_neg (by omega), show (V : Int).toNat = V by omega, HDV.out])
                go_wp2_with fail
                go_ret2
                exact ⟨.inl ⟨_, HYES.out.1, HYES.out.2, rfl⟩, Below.refl _ _⟩
              · have hle2 : ¬ (V : Int) ≤ 9223372036854775807 := by omega
                have HN2 := Lib.hid (HNO.out (by omega))
                go_wp2_with fail
                go_ret2
                exact ⟨.inr ⟨⟨_, rfl⟩, HNN.out HN2.out⟩, Below.refl _ _⟩
end Go.Proofs.YtenjllknianieaaDoor.Opr
