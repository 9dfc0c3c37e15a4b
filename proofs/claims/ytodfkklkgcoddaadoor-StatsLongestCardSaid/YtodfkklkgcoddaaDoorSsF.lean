/-
  StatsLongest answers true.
-/
import Derived.Test.YtodfkklkgcoddaaDoorSsE
import Derived.Deep.QuietTactic
namespace Go.Proofs.YtodfkklkgcoddaaDoor.Ss
open Go.RowKit
open Go.Proofs.YtodfkklkgcoddaaDoor.Row

set_option maxRecDepth 100000 in
set_option maxHeartbeats 4000000 in
theorem longest_walk (p : Option Addr) (cap : Nat) (l : List Cy) (W : World) (ht : LibTab W) (h : CyR W p l) (hll : l.length ≤ maxLen) (hi : ∀ c ∈ l, CyI c) :
    Calls Tryd.prog 4 #[.slice p l.length cap] W fun x w' => x = .returned (.bool true) ∧ Below W.heap.size W w' := by
  unfold maxLen at hll
  have HAW : Hid (∀ w, Below W.heap.size W w → Calls Tryd.prog 7 #[] w fun x w' => x = .returned (.bool true) ∧ Below w.heap.size w w') := Lib.hid fun w h => awake_any w (ht.later h)
  have HO := Lib.hid h
  have HI := Lib.hid hi
  clear h hi ht
  by_cases hbig : 100 < l.length
  · have g1 : (100 : Int) < (l.length : Int) := by omega
    go_enter Tryd.func4, Tryd.ntmps4
    go_wp2_with (go_at_call 7; refine (HAW.out _ (Below.refl _ _)).mono ?_; rintro e w1 ⟨rfl, hb1⟩; have HB1 := Lib.hid hb1; clear hb1)
    go_ret
    exact ⟨rfl, HB1.out⟩
  have h100 : l.length ≤ 100 := by omega
  have g1 : (l.length : Int) ≤ 100 := by omega
  go_enter Tryd.func4, Tryd.ntmps4
  go_wp2
  go_loopw [3, 4, 5] (fun nv ov iv wr => ∃ (i : Nat) (s : Int × Bool), i ≤ l.length ∧ nv = .int .i64 s.1 ∧ ov = .bool s.2 ∧ iv = .int .i64 i ∧ lgL s (l.drop i) = lgL (0, false) l ∧ (∀ c ∈ l.take i, Near c) ∧ Below W.heap.size W wr) (fun _ _ iv _ => l.length - (intOf iv).toNat)
  case atStart => exact ⟨0, (0, false), Nat.zero_le _, rfl, rfl, rfl, rfl, by simp, Below.refl _ _⟩
  case round =>
    obtain ⟨i, s, hil, rfl, rfl, rfl, hs, hnr, hb⟩ := hrel
    have HB := Lib.hid hb
    clear hb
    have HS := Lib.hid hs
    have HNR := Lib.hid hnr
    clear hs hnr
    have n0 : (0 : Int) ≤ (i : Int) := Int.natCast_nonneg _
    obtain ⟨sn, so⟩ := s
    by_cases hlt : i < l.length
    · have n1 : (i : Int) < (l.length : Int) := by omega
      obtain ⟨b, off, rfl, c0, c1, c2, c3, c4⟩ := (HO.out.later (l := l) HB.out) i hlt
      have HD := Lib.hid (dropC hlt)
      have hI := HI.out _ (cy_mem hlt)
      have HTK : Hid (Near (l.getD i cy0) → ∀ c ∈ l.take (i + 1), Near c) := Lib.hid fun hc c hm => by
        rw [List.take_add_one, List.mem_append] at hm
        rcases hm with hm | hm
        · exact HNR.out c hm
        · rw [List.getElem?_eq_getElem hlt] at hm
          simp only [Option.toList_some, List.mem_singleton] at hm
          rw [hm]
          rw [List.getD_eq_getElem?_getD, List.getElem?_eq_getElem hlt] at hc
          exact hc
      have j4 := hI.r
      have j5 := hI.s
      unfold inI at j4 j5
      clear hI
      generalize hx : l.getD i cy0 = x at *
      clear hx
      obtain ⟨xn, xs, xm, xr, xf⟩ := x
      simp only at c0 c1 c2 c3 c4 j4 j5
      by_cases f1 : 1152921504606846976 < xr
      · go_wp2_with (go_at_call 7; refine (HAW.out _ HB.out).mono ?_; rintro e w1 ⟨rfl, hb1⟩; have HB1 := Lib.hid hb1; clear hb1)
        go_ret
        exact ⟨rfl, HB.out.trans (HB1.out.mono HB.out.size)⟩
      by_cases f2 : 1152921504606846976 < xs
      · go_wp2_with (go_at_call 7; refine (HAW.out _ HB.out).mono ?_; rintro e w1 ⟨rfl, hb1⟩; have HB1 := Lib.hid hb1; clear hb1)
        go_ret
        exact ⟨rfl, HB.out.trans (HB1.out.mono HB.out.size)⟩
      by_cases f3 : xs < -1152921504606846976
      · go_wp2_with (go_at_call 7; refine (HAW.out _ HB.out).mono ?_; rintro e w1 ⟨rfl, hb1⟩; have HB1 := Lib.hid hb1; clear hb1)
        go_ret
        exact ⟨rfl, HB.out.trans (HB1.out.mono HB.out.size)⟩
      have HST : Hid (∀ s' (d : Nat), lgS (sn, so) ⟨xn, xs, xm, xr, xf⟩ = s' → ∀ nv ov iv : Value, nv = .int .i64 s'.1 → ov = Value.bool s'.2 → iv = .int .i64 ((i : Int) + 1) →
          ∃ (i : Nat) (s : Int × Bool), i ≤ l.length ∧ nv = .int .i64 s.1 ∧ ov = .bool s.2 ∧ iv = .int .i64 i ∧ lgL s (l.drop i) = lgL (0, false) l ∧ (∀ c ∈ l.take i, Near c) ∧ Below W.heap.size W (wr.drewN d)) :=
        Lib.hid fun s' d h1 nv ov iv h2 h3 h4 => ⟨i + 1, s', by omega, h2, h3, by rw [h4]; rfl, by rw [← HS.out, HD.out, lgL_cons, h1], HTK.out ⟨by show xr ≤ _; omega, by show xs ≤ _; omega, by show _ ≤ xs; omega⟩, below_drewN HB.out d⟩
      by_cases hr : 0 ≤ xr
      · have hw : IntKind.i64.wrap (xr - xs) = xr - xs := by rw [IntKind.wrap_i64]; omega
        cases so with
        | false =>
          go_wp2
          go_quiet (fail)
          go_wp2
          go_quiet (fail)
          go_wp2
          go_roundw
          case rel => exact HST.out (xr - xs, true) _ (by unfold lgS; rw [if_pos ⟨hr, .inl rfl⟩]) _ _ _ rfl rfl (by go_num)
          case measure => simp [intOf]; omega
        | true =>
          by_cases hg : sn < xr - xs
          · go_wp2
            go_quiet (fail)
            go_wp2
            go_quiet (fail)
            go_wp2
            go_roundw
            case rel => exact HST.out (xr - xs, true) _ (by unfold lgS; rw [if_pos ⟨hr, .inr hg⟩]) _ _ _ rfl rfl (by go_num)
            case measure => simp [intOf]; omega
          · have hgd : decide (sn < xr - xs) = false := decide_eq_false hg
            go_wp2
            go_quiet (fail)
            go_wp2
            go_roundw
            case rel => exact HST.out (sn, true) _ (by unfold lgS; rw [if_neg (fun h => h.2.elim (fun e => by cases e) (fun e => by simp only at e; omega))]) _ _ _ rfl rfl (by go_num)
            case measure => simp [intOf]; omega
      · have hrd : decide (0 ≤ xr) = false := decide_eq_false hr
        go_wp2
        go_quiet (fail)
        go_wp2
        go_roundw
        case rel => exact HST.out (sn, so) _ (by unfold lgS; rw [if_neg (fun h => by have := h.1; simp only at this; omega)]) _ _ _ rfl rfl (by go_num)
        case measure => simp [intOf]; omega
    · obtain rfl : i = l.length := by omega
      have HE : Hid ((sn, so) = lgL (0, false) l) := Lib.hid (by rw [← HS.out, List.drop_length]; rfl)
      have HLG := Lib.hid (longest_any p cap l wr (HO.out.later HB.out) (by omega) (fun c hc => HNR.out c (by rw [List.take_length]; exact hc)) HI.out)
      rw [← HE.out] at HLG
      clear HE
      have hsn : (sn == sn) = true := by simp
      have hso : (so == so) = true := by simp
      go_wp2_with (go_at_call 14; refine HLG.out.mono ?_; rintro e w2 ⟨rfl, hb2⟩; have HB2 := Lib.hid (HB.out.trans (hb2.mono HB.out.size)); clear hb2) 
      refine (HAW.out _ HB2.out).mono ?_
      rintro e w3 ⟨rfl, hb3⟩
      have HB3 := Lib.hid (HB2.out.trans (hb3.mono HB2.out.size))
      clear hb3
      go_wp2
      go_ret
      exact ⟨rfl, HB3.out⟩
end Go.Proofs.YtodfkklkgcoddaaDoor.Ss
