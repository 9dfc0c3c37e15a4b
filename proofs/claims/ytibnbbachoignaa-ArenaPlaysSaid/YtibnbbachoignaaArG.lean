/-
  The law ArenaKeeps answers true, for every size, all two addresses and every word.
-/
import Derived.Test.YtibnbbachoignaaArE
namespace Go.Proofs.Ytibnbbachoignaa.Arena
open Go.RowKit

theorem load_at {B G cap ld st : Nat} {ws : List Nat} (w : World) (h : ArIs w B G cap ws ld st) (hG : G < w.heap.size) (hld : ld < 1000000) (a : Int) (x : Nat) (y : Int) (hz : getR ws a = x) (hy : codeN ws.length a = y) :
    Calls Try.prog 11 #[.pointer (some ⟨B, 0, none⟩), .int .i64 a] w fun e w' => e = .returned (.tuple #[.int .u64 x, .int .i64 y]) ∧ ArIs w' B G cap ws (ld + oneN ws.length a) st ∧ Two B G w w' := by
  subst hz hy
  exact load_any w h hG hld a

/-- Words that have been counted up, as far as k. -/
def Up (ws : List Nat) (k : Nat) : Prop := ∀ j, j < k → wd ws j = j + 1
theorem Up.next {ws : List Nat} {k : Nat} (h : Up ws k) (hk : k < ws.length) : Up (putS ws ((k + 1 : Nat) : Int) (k + 1)) (k + 1) := by
  intro j hj
  have hz : codeN ws.length ((k + 1 : Nat) : Int) = 0 := by unfold codeN; rw [if_neg (by omega), if_neg (by omega)]
  have e1 : putS ws ((k + 1 : Nat) : Int) (k + 1) = ws.set k (k + 1) := by
    unfold putS
    rw [if_pos hz, Int.toNat_natCast]
    rfl
  rw [e1, wd_set]
  by_cases e : k = j
  · subst e; rw [if_pos ⟨rfl, hk⟩]
  · rw [if_neg (fun x => e x.1)]; exact h j (by omega)
theorem codeN_in {n : Nat} {a : Int} (h : 1 ≤ a) (h2 : a ≤ n) : codeN n a = 0 := by unfold codeN; rw [if_neg (by omega), if_neg (by omega)]
theorem codeN_out {n : Nat} {a : Int} (h : a < 1 ∨ (n : Int) < a) : codeN n a ≠ 0 := fun e => by have := codeN_zero e; omega
/-- What a load tells behind a store into counted words. -/
theorem keep_val {ws : List Nat} (h : Up ws ws.length) {a o : Int} (x : Nat) (h1 : 1 ≤ o) (h2 : o ≤ ws.length) : getR (putS ws a x) o = if codeN ws.length a = 0 ∧ o = a then x else o.toNat := by
  unfold getR
  rw [putS_length, if_pos (codeN_in h1 h2)]
  unfold putS
  by_cases hz : codeN ws.length a = 0
  · have ha := codeN_zero hz
    rw [if_pos hz, wd_set]
    by_cases e : o = a
    · subst e
      rw [if_pos ⟨rfl, by omega⟩, if_pos ⟨hz, rfl⟩]
    · rw [if_neg (by omega), if_neg (fun x => e x.2), h _ (by omega)]
      omega
  · rw [if_neg hz, if_neg (fun x => hz x.1), h _ (by omega)]
    omega

theorem below_drewN {N : Nat} {a b : World} (h : Below N a b) (n : Nat) : Below N a (b.drewN n) := ⟨h.os, h.tape, h.output, h.size, h.block⟩

set_option maxRecDepth 100000 in
set_option maxHeartbeats 4000000 in
theorem keeps_walk (s : Nat) (hs : s < 256) (a o : Int) (x : Nat) (w : World) :
    Calls Try.prog 5 #[.int .u8 s, .agg #[.int .i64 a, .int .i64 o], .int .u64 x] w fun e w' => e = .returned (.bool true) ∧ Below w.heap.size w w' := by
  go_enter Try.func5, Try.ntmps5
  go_wp2_with fail
  go_quiet (fail)
  go_wp2_with fail
  have hnI : (1 : Int) + (s : Int) % 60 = ((s % 60 + 1 : Nat) : Int) := by omega
  rw [hnI]
  have hn60 : s % 60 + 1 ≤ 60 := by omega
  have hn1 : 1 ≤ s % 60 + 1 := by omega
  clear hnI
  generalize s % 60 + 1 = n at *
  refine (new_lit n _ rfl _ (by omega) (by omega)).mono ?_
  rintro e w1 ⟨B, G, rfl, hs1, hB1, hG1, hB2, hG2, hb1⟩
  have hbw : Below w.heap.size w w1 := Below.trans (below_drewN ((Below.refl _ w).alloc (Nat.le_refl _) _) _) (hb1.mono (by simp))
  have hBw : w.heap.size ≤ B := Nat.le_trans (by simp) hB1
  have hGw : w.heap.size ≤ G := Nat.le_trans (by simp) hG1
  have HBW := Lib.hid hbw
  have hup : Up (List.replicate (n) 0) 0 := fun j hj => absurd hj (Nat.not_lt_zero _)
  have hws : ∃ ws : List Nat, ws.length = n ∧ Up ws 0 ∧ ArIs w1 B G (n) ws 0 0 := ⟨_, by simp, hup, hs1⟩
  have HW := Lib.hid hws
  clear hs1 hb1 hbw hB1 hG1 hup hws
  go_wp2_with fail
  go_loopw [12] (fun i wr => ∃ k : Nat, k ≤ n ∧ i = .int .i64 ((k + 1 : Nat) : Int) ∧ (∃ ws st, ws.length = n ∧ Up ws k ∧ ArIs wr B G n ws 0 st ∧ st ≤ k) ∧ Below w.heap.size w wr ∧ G < wr.heap.size) (fun i _ => n + 1 - (intOf i).toNat)
  case atStart =>
    obtain ⟨ws, h1, h2, h3⟩ := HW.out
    exact ⟨0, Nat.zero_le _, rfl, ⟨ws, 0, h1, h2, h3, Nat.le_refl _⟩, HBW.out, hG2⟩
  case round =>
    clear HW HBW hB2 hG2
    obtain ⟨k, hk, rfl, ⟨ws, st, hwl, hup, hs1, hst⟩, hbw, hG2⟩ := hrel
    have HS := Lib.hid hs1
    have HB := Lib.hid hbw
    have HU := Lib.hid hup
    have hszw := hbw.size
    clear hs1 hbw hup
    by_cases hlt : k < n
    · have hz : codeN ws.length ((k + 1 : Nat) : Int) = 0 := codeN_in (by omega) (by omega)
      have hR := store_at wr HS.out hG2 (by omega) ((k + 1 : Nat) : Int) (k + 1) ((k + 1 : Nat) : Int) 0 rfl hz
      have HR := Lib.hid hR
      have hle : ((k + 1 : Nat) : Int) ≤ (n : Int) := by omega
      clear hR hz
      go_wp2_with fail
      refine HR.out.mono ?_
      rintro e w3 ⟨rfl, ha3, ht3⟩
      have HA3 := Lib.hid ha3
      have HT3 := Lib.hid ht3
      clear ha3 ht3
      go_wp2_with fail
      go_roundw
      case rel => exact ⟨k + 1, by omega, by go_num, ⟨_, _, by rw [putS_length]; exact hwl, HU.out.next (by omega), HA3.out, by have := oneN_le ws.length ((k + 1 : Nat) : Int); omega⟩, HB.out.trans (HT3.out.below hBw hGw hszw), Nat.lt_of_lt_of_le hG2 HT3.out.size⟩
      case measure => simp [intOf]; omega
    · obtain hkn : k = n := by omega
      subst hkn
      have hle : ¬ (((k + 1 : Nat) : Int) ≤ (k : Int)) := by omega
      clear hlt hk
      by_cases ho : o < 1
      · skip
        have hoo : codeN k o ≠ 0 := codeN_out (Or.inl ho)
        obtain ⟨cd, hcd⟩ : ∃ c, codeN k a = c := ⟨_, rfl⟩
        have hR := store_at wr HS.out hG2 (by omega) a x (x : Int) cd rfl (by rw [hwl]; exact hcd)
        have HR := Lib.hid hR
        clear hR
        go_wp2_with fail
        refine HR.out.mono ?_
        rintro e w3 ⟨rfl, ha3, ht3⟩
        have hG3 : G < w3.heap.size := Nat.lt_of_lt_of_le hG2 ht3.size
        have HA3 := Lib.hid ha3
        have HT3 := Lib.hid ht3
        have HB3 := Lib.hid (HB.out.trans (ht3.below hBw hGw hszw))
        clear ha3 ht3 HR
        obtain ⟨gd, hgd⟩ : ∃ c, codeN k o = c := ⟨_, rfl⟩
        have hL := load_at w3 HA3.out hG3 (by omega) o 0 gd (by unfold getR; rw [if_neg (by rw [putS_length, hwl]; exact hoo)]) (by rw [putS_length, hwl]; exact hgd)
        have HL := Lib.hid hL
        have hg0 : (gd != 0) = true := by rw [← hgd]; simpa using hoo
        clear hL hcd hgd hoo
        go_wp2_with fail
        refine HL.out.mono ?_
        rintro e w4 ⟨rfl, ha4, ht4⟩
        have HB4 := Lib.hid (HB3.out.trans (ht4.below hBw hGw HB3.out.size))
        clear ha4 ht4 HL HB3 HT3
        go_wp2_with fail
        refine (awake_any _).mono ?_
        rintro e w10 ⟨rfl, hb10⟩
        have HB10 := Lib.hid hb10
        clear hb10
        go_wp2
        go_ret
        exact ⟨rfl, HB4.out.trans (HB10.out.mono HB4.out.size)⟩
      by_cases ho2 : (k : Int) < o
      · skip
        have hoo : codeN k o ≠ 0 := codeN_out (Or.inr ho2)
        obtain ⟨cd, hcd⟩ : ∃ c, codeN k a = c := ⟨_, rfl⟩
        have hR := store_at wr HS.out hG2 (by omega) a x (x : Int) cd rfl (by rw [hwl]; exact hcd)
        have HR := Lib.hid hR
        clear hR
        go_wp2_with fail
        refine HR.out.mono ?_
        rintro e w3 ⟨rfl, ha3, ht3⟩
        have hG3 : G < w3.heap.size := Nat.lt_of_lt_of_le hG2 ht3.size
        have HA3 := Lib.hid ha3
        have HT3 := Lib.hid ht3
        have HB3 := Lib.hid (HB.out.trans (ht3.below hBw hGw hszw))
        clear ha3 ht3 HR
        obtain ⟨gd, hgd⟩ : ∃ c, codeN k o = c := ⟨_, rfl⟩
        have hL := load_at w3 HA3.out hG3 (by omega) o 0 gd (by unfold getR; rw [if_neg (by rw [putS_length, hwl]; exact hoo)]) (by rw [putS_length, hwl]; exact hgd)
        have HL := Lib.hid hL
        have hg0 : (gd != 0) = true := by rw [← hgd]; simpa using hoo
        clear hL hcd hgd hoo
        go_wp2_with fail
        refine HL.out.mono ?_
        rintro e w4 ⟨rfl, ha4, ht4⟩
        have HB4 := Lib.hid (HB3.out.trans (ht4.below hBw hGw HB3.out.size))
        clear ha4 ht4 HL HB3 HT3
        go_wp2_with fail
        refine (awake_any _).mono ?_
        rintro e w10 ⟨rfl, hb10⟩
        have HB10 := Lib.hid hb10
        clear hb10
        go_wp2
        go_ret
        exact ⟨rfl, HB4.out.trans (HB10.out.mono HB4.out.size)⟩
      have ho3 : 1 ≤ o := by omega
      have ho4 : o ≤ k := by omega
      by_cases hz : codeN k a = 0
      · by_cases heq : o = a
        · subst heq
          have hR := store_at wr HS.out hG2 (by omega) o x (x : Int) 0 rfl (by rw [hwl]; exact hz)
          have HR := Lib.hid hR
          clear hR
          go_wp2_with fail
          refine HR.out.mono ?_
          rintro e w3 ⟨rfl, ha3, ht3⟩
          have hG3 : G < w3.heap.size := Nat.lt_of_lt_of_le hG2 ht3.size
          have HA3 := Lib.hid ha3
          have HT3 := Lib.hid ht3
          have HB3 := Lib.hid (HB.out.trans (ht3.below hBw hGw hszw))
          clear ha3 ht3 HR
          have hkv := keep_val (a := o) (o := o) (by rw [hwl]; exact HU.out) x (by omega) (by omega)
          rw [if_pos ⟨by rw [hwl]; exact hz, rfl⟩] at hkv
          have hL := load_at w3 HA3.out hG3 (by omega) o x 0 hkv (by rw [putS_length]; exact codeN_in (by omega) (by omega))
          have HL := Lib.hid hL
          clear hL hkv
          go_wp2_with fail
          refine HL.out.mono ?_
          rintro e w4 ⟨rfl, ha4, ht4⟩
          have HB4 := Lib.hid (HB3.out.trans (ht4.below hBw hGw HB3.out.size))
          clear ha4 ht4 HL HB3 HT3
          go_wp2_with fail
          refine (awake_any _).mono ?_
          rintro e w10 ⟨rfl, hb10⟩
          have HB10 := Lib.hid hb10
          clear hb10
          go_wp2
          go_ret
          exact ⟨rfl, HB4.out.trans (HB10.out.mono HB4.out.size)⟩
        · obtain ⟨q, rfl⟩ := Int.eq_ofNat_of_zero_le (show 0 ≤ o by omega)
          have hR := store_at wr HS.out hG2 (by omega) a x (x : Int) 0 rfl (by rw [hwl]; exact hz)
          have HR := Lib.hid hR
          clear hR
          go_wp2_with fail
          refine HR.out.mono ?_
          rintro e w3 ⟨rfl, ha3, ht3⟩
          have hG3 : G < w3.heap.size := Nat.lt_of_lt_of_le hG2 ht3.size
          have HA3 := Lib.hid ha3
          have HT3 := Lib.hid ht3
          have HB3 := Lib.hid (HB.out.trans (ht3.below hBw hGw hszw))
          clear ha3 ht3 HR
          have hkv := keep_val (a := a) (o := (q : Int)) (by rw [hwl]; exact HU.out) x (by omega) (by omega)
          rw [if_neg (fun e => heq e.2), Int.toNat_natCast] at hkv
          have hL := load_at w3 HA3.out hG3 (by omega) (q : Int) q 0 hkv (by rw [putS_length]; exact codeN_in (by omega) (by omega))
          have HL := Lib.hid hL
          clear hL hkv
          go_wp2_with fail
          refine HL.out.mono ?_
          rintro e w4 ⟨rfl, ha4, ht4⟩
          have HB4 := Lib.hid (HB3.out.trans (ht4.below hBw hGw HB3.out.size))
          clear ha4 ht4 HL HB3 HT3
          go_wp2_with fail
          refine (awake_any _).mono ?_
          rintro e w10 ⟨rfl, hb10⟩
          have HB10 := Lib.hid hb10
          clear hb10
          go_wp2
          go_ret
          exact ⟨rfl, HB4.out.trans (HB10.out.mono HB4.out.size)⟩
      · obtain ⟨q, rfl⟩ := Int.eq_ofNat_of_zero_le (show 0 ≤ o by omega)
        obtain ⟨cd, hcd⟩ : ∃ c, codeN k a = c := ⟨_, rfl⟩
        have hcb : (cd == 0) = false := by rw [← hcd]; simpa using hz
        have hR := store_at wr HS.out hG2 (by omega) a x (x : Int) cd rfl (by rw [hwl]; exact hcd)
        have HR := Lib.hid hR
        clear hR
        go_wp2_with fail
        refine HR.out.mono ?_
        rintro e w3 ⟨rfl, ha3, ht3⟩
        have hG3 : G < w3.heap.size := Nat.lt_of_lt_of_le hG2 ht3.size
        have HA3 := Lib.hid ha3
        have HT3 := Lib.hid ht3
        have HB3 := Lib.hid (HB.out.trans (ht3.below hBw hGw hszw))
        clear ha3 ht3 HR
        have hkv := keep_val (a := a) (o := (q : Int)) (by rw [hwl]; exact HU.out) x (by omega) (by omega)
        rw [if_neg (fun e => hz (by rw [← hwl]; exact e.1)), Int.toNat_natCast] at hkv
        have hL := load_at w3 HA3.out hG3 (by omega) (q : Int) q 0 hkv (by rw [putS_length]; exact codeN_in (by omega) (by omega))
        have HL := Lib.hid hL
        clear hL hkv
        go_wp2_with fail
        refine HL.out.mono ?_
        rintro e w4 ⟨rfl, ha4, ht4⟩
        have HB4 := Lib.hid (HB3.out.trans (ht4.below hBw hGw HB3.out.size))
        clear ha4 ht4 HL HB3 HT3
        go_wp2_with fail
        refine (awake_any _).mono ?_
        rintro e w10 ⟨rfl, hb10⟩
        have HB10 := Lib.hid hb10
        clear hb10
        go_wp2
        go_ret
        exact ⟨rfl, HB4.out.trans (HB10.out.mono HB4.out.size)⟩
end Go.Proofs.Ytibnbbachoignaa.Arena
