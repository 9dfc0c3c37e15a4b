/-
  Who is missing in a row's first window, and in each next one.
-/
import Derived.Test.YthofknjdmfpbeaaFaB
import Derived.Deep.RegionWith
namespace Go.Proofs.Ythofknjdmfpbeaa.Fa
open Go.RowKit
open Go.Proofs.Ythofknjdmfpbeaa.Row
section
variable {w : World} {b0 b1 b2 b3 b4 b5 n : Nat} {V : List Int} {last : Value}

/-- count, by the closure that lies in its box. -/
theorem Ct.same' {w' : World} (h : Ct w b0 b1 b2 b3 b4 b5 n V last) {v : Value} (hw : w' = w.setCell ⟨b5, 0, none⟩ v) : Ct w' b0 b1 b2 b3 b4 b5 n V v := by
  obtain ⟨e1, e2, e3, e4, e5⟩ := h.ad
  subst hw
  exact ⟨h.ad, h.n1, (other (by first | (simp; done) | (simp; omega))).trans h.c0, (other (by first | (simp; done) | (simp; omega))).trans h.c2, fun q hq => (other (by first | (simp; done) | (simp; omega))).trans (h.row q hq), fun q hq => (World.frozen?_setCell ..).trans (h.rf q hq), (other (by first | (simp; done) | (simp; omega))).trans h.c3,
    (World.frozen?_setCell ..).trans h.f3, (other (by first | (simp; done) | (simp; omega))).trans h.c4, same h.c5, (World.frozen?_setCell ..).trans h.f5⟩

set_option maxRecDepth 100000 in
set_option maxHeartbeats 2000000 in
theorem first_any (g off cap : Nat) (W : List Int) (hW : 1 ≤ W.length ∧ W.length ≤ 100000) (h : Ct w b0 b1 b2 b3 b4 b5 n [] (.slice none 0 0)) (hg : g < b0)
    (hrd : ∀ j, j < W.length → w.cell? ⟨g, off + j, none⟩ = some (.int .i64 (W.getD j 0))) :
    Calls Try.prog 25 #[.slice (some ⟨g, off, none⟩) W.length cap, .pointer (some ⟨b5, 0, none⟩), .pointer (some ⟨b4, 0, none⟩), .pointer (some ⟨b3, 0, none⟩)] w fun e w' =>
      e = .returned (.int .i64 (mis n W : Nat)) ∧ Ct w' b0 b1 b2 b3 b4 b5 n W (.slice (some ⟨g, off, none⟩) W.length cap) ∧ Chg (fun k => b0 ≤ k ∧ k ≤ b5) w w' := by
  have q22 : ∀ (w : World) (a : Option Addr) (n c n' c' : Nat), (binOp .neq 22 (.slice a n c) (.slice none n' c')).run Try.prog w = .ok (.bool (!a.isNone)) w := fun w a n c n' c' => run_neq_slice_nil_any w _ _ a n c n' c' Try.underlying22
  have c5 := h.c5
  have HA := Lib.hid h.ad
  have H := Lib.hid h
  have HRD := Lib.hid hrd
  clear h hrd
  go_enter Try.func25, Try.ntmps25
  go_wp2
  clear c5
  go_loopw [8, 24] (fun _ i wr => ∃ c : Nat, c ≤ W.length ∧ i = .int .i64 c ∧ Ct wr b0 b1 b2 b3 b4 b5 n (W.take c).reverse (.slice none 0 0) ∧ Chg (fun k => b0 ≤ k ∧ k ≤ b5) w wr) (fun _ i _ => W.length - (intOf i).toNat)
  case atStart => exact ⟨0, by omega, rfl, H.out, Chg.refl _ _⟩
  case round =>
    obtain ⟨c, hc, rfl, h1, h2⟩ := hrel
    by_cases hlt : c < W.length
    · have i0 : (0 : Int) ≤ (c : Int) := Int.natCast_nonneg _
      have i1 : (c : Int) < (W.length : Int) := by omega
      have c4 := h1.c4
      have hx : wr.cell? ⟨g, off + c, none⟩ = some (.int .i64 (W.getD c 0)) := (h2.cell (p := ⟨g, off + c, none⟩) (World.block_lt_of_cell? w _ (HRD.out c hlt)) (by have := HA.out; simp; omega)).trans (HRD.out c hlt)
      have hle : (W.take c).reverse.length < 4611686018427387904 := by simp; omega
      have HC := Lib.hid (count_add (W.getD c 0) h1 hle)
      have H2 := Lib.hid h2
      have HT : Hid (W.getD c 0 :: (W.take c).reverse = (W.take (c + 1)).reverse) := Lib.hid (by rw [List.take_add_one, List.reverse_append, List.getD_eq_getElem?_getD, List.getElem?_eq_getElem hlt]; rfl)
      clear h1 h2 hle
      generalize W.getD c 0 = x at *
      go_wp2_with (go_at_call 24; refine HC.out.mono ?_; rintro e w2 ⟨rfl, h3, h4⟩)
      go_roundw
      case rel => exact ⟨c + 1, by omega, by go_num, HT.out ▸ h3, H2.out.trans h4 (fun _ e => .inl e)⟩
      case measure => simp [intOf]; omega
    · have hcl : c = W.length := by omega
      subst hcl
      have h1' := h1.perm (V := W) (by rw [List.take_length]; exact List.reverse_perm W)
      have c3 := h1'.c3
      have c5 := h1'.c5
      have f5 := h1'.f5
      have hne : b5 ≠ b3 := by have := HA.out; omega
      have H1 := Lib.hid h1'
      have H2 := Lib.hid h2
      clear h1 h1' h2
      go_wp2
      go_ret
      exact ⟨rfl, H1.out.same' rfl, H2.out.set (.inl (by have := HA.out; simp; omega)) _⟩

set_option maxRecDepth 100000 in
set_option maxHeartbeats 2000000 in
theorem next_any (g off cap off' cap' k : Nat) (x y : Int) (T : List Int) (hk : k < 100000 ∧ k + 1 ≤ cap' ∧ cap' ≤ maxLen) (hT : T.length ≤ 100000) (h : Ct w b0 b1 b2 b3 b4 b5 n (x :: T) (.slice (some ⟨g, off, none⟩) (k + 1) cap)) (hg : g < b0)
    (hx : w.cell? ⟨g, off, none⟩ = some (.int .i64 x)) (hy : w.cell? ⟨g, off' + k, none⟩ = some (.int .i64 y)) :
    Calls Try.prog 25 #[.slice (some ⟨g, off', none⟩) (k + 1) cap', .pointer (some ⟨b5, 0, none⟩), .pointer (some ⟨b4, 0, none⟩), .pointer (some ⟨b3, 0, none⟩)] w fun e w' =>
      e = .returned (.int .i64 (mis n (y :: T) : Nat)) ∧ Ct w' b0 b1 b2 b3 b4 b5 n (y :: T) (.slice (some ⟨g, off', none⟩) (k + 1) cap') ∧ Chg (fun k => b0 ≤ k ∧ k ≤ b5) w w' := by
  have q22 : ∀ (w : World) (a : Option Addr) (n c n' c' : Nat), (binOp .neq 22 (.slice a n c) (.slice none n' c')).run Try.prog w = .ok (.bool (!a.isNone)) w := fun w a n c n' c' => run_neq_slice_nil_any w _ _ a n c n' c' Try.underlying22
  have c5 := h.c5
  have c4 := h.c4
  have HA := Lib.hid h.ad
  have hle : T.length < 4611686018427387904 := by omega
  have HC := Lib.hid (count_sub x (w := w.drew) (h.kept (w' := w.drew) fun _ _ _ => rfl) hle)
  have HY := Lib.hid (And.intro hy (World.block_lt_of_cell? w _ hy))
  have HTL := Lib.hid hle
  have i0 : (0 : Int) ≤ (k : Int) := Int.natCast_nonneg _
  have i1 : (k : Int) ≤ (k : Int) + 1 := by omega
  have i2 : (k : Int) + 1 ≤ (cap' : Int) := by omega
  clear h hy hle hT
  go_enter Try.func25, Try.ntmps25
  go_wp2_with fail
  go_region_with (go_at_call 24; refine HC.out.mono ?_; rintro e w2 ⟨rfl, h3, h4⟩)
  all_goals
    have H3 := Lib.hid h3
    have H4 := Lib.hid (show Chg (fun k => b0 ≤ k ∧ k ≤ b5) w w2 from ⟨h4.os, h4.tape, h4.output, h4.size, h4.block⟩)
    clear h3 h4 c5 c4 hx HC
    go_wp2_with fail
    go_loopw [8, 24] (fun _ i wr => ((i = .int .i64 0 ∧ Ct wr b0 b1 b2 b3 b4 b5 n T (.slice (some ⟨g, off, none⟩) (k + 1) cap)) ∨ (i = .int .i64 1 ∧ Ct wr b0 b1 b2 b3 b4 b5 n (y :: T) (.slice (some ⟨g, off, none⟩) (k + 1) cap))) ∧ Chg (fun k => b0 ≤ k ∧ k ≤ b5) w wr) (fun _ i _ => 1 - (intOf i).toNat)
    case atStart => exact ⟨.inl ⟨rfl, H3.out⟩, H4.out⟩
    case round =>
      obtain ⟨(⟨rfl, h1⟩ | ⟨rfl, h1⟩), h2⟩ := hrel
      · have c4 := h1.c4
        have hx : wr.cell? ⟨g, off' + k, none⟩ = some (.int .i64 y) := (h2.cell (p := ⟨g, off' + k, none⟩) HY.out.2 (by have := HA.out; simp; omega)).trans HY.out.1
        have HC := Lib.hid (count_add y h1 HTL.out)
        have H2 := Lib.hid h2
        clear h1 h2
        go_wp2_with (go_at_call 24; refine HC.out.mono ?_; rintro e w3 ⟨rfl, h3, h4⟩)
        go_roundw
        case rel => exact ⟨.inr ⟨rfl, h3⟩, H2.out.trans h4 (fun _ e => .inl e)⟩
        case measure => simp [intOf]
      · have c3 := h1.c3
        have c5 := h1.c5
        have f5 := h1.f5
        have hne : b5 ≠ b3 := by have := HA.out; omega
        have H1 := Lib.hid h1
        have H2 := Lib.hid h2
        clear h1 h2
        go_wp2
        go_ret
        exact ⟨rfl, H1.out.same' rfl, H2.out.set (.inl (by have := HA.out; simp; omega)) _⟩
end
end Go.Proofs.Ythofknjdmfpbeaa.Fa
