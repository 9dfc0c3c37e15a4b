/-
  Fair and Gap of any row; the document's example.
-/
import Derived.Test.YthofknjdmfpbeaaFaE
namespace Go.Proofs.Ythofknjdmfpbeaa.Fa
open Go.RowKit Go.Shelf
open Go.Proofs.Ythofknjdmfpbeaa.Row

/-- A row of picks reads so, from wherever it lies; its length and its room fit. -/
structure Pk (w : World) (p : Option Addr) (l : List Int) (cap : Nat) : Prop where
  rd : Rd0 w p l
  len : l.length ≤ 10000
  cap : l.length ≤ cap ∧ cap ≤ maxLen
theorem Pk.later {w w' : World} {p : Option Addr} {l : List Int} {cap : Nat} (h : Pk w p l cap) (hb : Below w.heap.size w w') : Pk w' p l cap := ⟨fun j hj => by
  obtain ⟨g, off, e, hc⟩ := h.rd j hj
  exact ⟨g, off, e, (hb.cell (p := ⟨g, off + j, none⟩) (World.block_lt_of_cell? w _ hc)).trans hc⟩, h.len, h.cap⟩
theorem Pk.all {w : World} {g off : Nat} {l : List Int} {cap : Nat} (h : Pk w (some ⟨g, off, none⟩) l cap) : ∀ j, j < l.length → w.cell? ⟨g, off + j, none⟩ = some (.int .i64 (l.getD j 0)) := fun j hj => by
  obtain ⟨g', off', e, hc⟩ := h.rd j hj
  cases e
  exact hc

theorem fair_any {p : Option Addr} {l : List Int} {cap : Nat} (n k : Int) (w : World) (h : Pk w p l cap) : Calls Try.prog 10 #[.slice p l.length cap, .int .i64 n, .int .i64 k] w fun e w' => e = .returned (.bool (fairI l n k)) ∧ Below w.heap.size w w' := by
  by_cases hn : n < 1
  · refine (fair_bad _ n k w (.inl hn)).mono ?_
    rintro e w' ⟨rfl, rfl⟩
    exact ⟨by simp [fairI, show ¬ 1 ≤ n by omega], Below.refl _ _⟩
  by_cases hk : k < 1
  · refine (fair_bad _ n k w (.inr hk)).mono ?_
    rintro e w' ⟨rfl, rfl⟩
    exact ⟨by simp [fairI, show ¬ 1 ≤ k by omega], Below.refl _ _⟩
  have f1 : fairI l n k = fair l n.toNat k.toNat := by simp [fairI, show 1 ≤ n by omega, show 1 ≤ k by omega]
  rw [f1]
  by_cases hl : (l.length : Int) < k
  · refine (fair_less p l.length cap n k w (by omega) (by omega) hl).mono ?_
    rintro e w' ⟨rfl, rfl⟩
    exact ⟨by rw [fair_long (by omega)], Below.refl _ _⟩
  by_cases hnk : k < n
  · refine (fair_many p l.length cap n k w (by omega) hl hnk).mono ?_
    rintro e w' ⟨rfl, rfl⟩
    exact ⟨by rw [fair_short (by omega) (by omega)], Below.refl _ _⟩
  obtain ⟨n, rfl⟩ : ∃ m : Nat, n = m := ⟨n.toNat, by omega⟩
  obtain ⟨k, rfl⟩ : ∃ m : Nat, k = m := ⟨k.toNat, by omega⟩
  obtain ⟨g, off, rfl, _⟩ := h.rd 0 (by omega)
  simp only [Int.toNat_natCast]
  exact fair_walk g off cap n k l w (by omega) (by omega) (by omega) h.len h.cap h.all

theorem gap1_any {p : Option Addr} {l : List Int} {cap b c : Nat} (n j : Int) (w : World) (h : Pk w p l cap) (hb : w.cell? ⟨b, 0, none⟩ = some (.slice p l.length cap)) (hc : w.cell? ⟨c, 0, none⟩ = some (.int .i64 n)) (hj : 0 ≤ j) (hj2 : j < 1000000) :
    Calls Try.prog 19 #[.int .i64 j, .pointer (some ⟨b, 0, none⟩), .pointer (some ⟨c, 0, none⟩)] w fun e w' => e = .returned (.bool (fairI l n (j + 1))) ∧ Below w.heap.size w w' := by
  have HF := Lib.hid (fair_any n (j + 1) w h)
  clear h
  go_enter Try.func19, Try.ntmps19
  go_wp2_with (go_at_call 10; refine HF.out.mono ?_; rintro e w' ⟨rfl, hb'⟩)
  go_ret
  exact ⟨rfl, hb'⟩

/-- sort.Search of a function that tells f, whatever it lays. -/
theorem search_any (N : Nat) (hN : N ≤ 1000000) (gf : Nat) (lb : Array Value) (f : Nat → Bool) (w : World) (hmono : ∀ i j, i ≤ j → f i = true → f j = true)
    (hf : ∀ (j : Nat) W, j < N → Below w.heap.size w W → Calls Try.prog gf (#[.int .i64 j] ++ lb) W fun e w' => e = .returned (.bool (f j)) ∧ Below W.heap.size W w') (eg : ∀ args w, (callFunc gf args).run Try.prog w = .ok (.enter gf args) w) :
    Calls Try.prog 18 #[.int .i64 N, .func (.func gf) #[] lb] w fun e w' => ∃ g : Nat, e = .returned (.int .i64 g) ∧ Least f N g ∧ Below w.heap.size w w' := by
  have HF := Lib.hid hf
  have HM := Lib.hid hmono
  clear hf hmono
  go_enter Try.func18, Try.ntmps18
  go_wp2
  go_loopw [5, 6, 7] (fun i j _ wr => ∃ a b : Nat, i = .int .i64 a ∧ j = .int .i64 b ∧ a ≤ b ∧ b ≤ N ∧ (∀ x, x < a → f x = false) ∧ (b < N → f b = true) ∧ Below w.heap.size w wr) (fun i j _ _ => (intOf j - intOf i).toNat)
  case atStart => exact ⟨0, N, rfl, rfl, by omega, Nat.le_refl _, fun x hx => by omega, fun h => by omega, Below.refl _ _⟩
  case round =>
    obtain ⟨a, b, rfl, rfl, hab, hb, h1, h2, h3⟩ := hrel
    by_cases hlt : a < b
    · have i0 : (a : Int) < (b : Int) := by omega
      obtain ⟨m, hm⟩ : ∃ m : Nat, ((a : Int) + (b : Int)) / 2 = m := ⟨(a + b) / 2, by omega⟩
      have HM1 := Lib.hid hm
      go_wp2_with fail
      have ham : a ≤ m := by have := HM1.out; omega
      have hmb : m < b := by have := HM1.out; omega
      refine (HF.out m _ (by omega) h3).mono ?_
      rintro e w2 ⟨rfl, hb2⟩
      have H3 := Lib.hid (h3.trans (hb2.mono h3.size))
      have H1 := Lib.hid h1
      have H2 := Lib.hid h2
      clear h1 h2 h3 hb2 HM1 hm
      cases hfm : f m with
      | false =>
        go_wp2_with fail
        go_roundw
        case rel =>
          refine ⟨m + 1, b, by go_num, rfl, by omega, hb, fun x hx => ?_, H2.out, H3.out⟩
          cases hfx : f x with
          | false => rfl
          | true => (rw [HM.out x m (by omega) hfx] at hfm; cases hfm)
        case measure => simp [intOf]; omega
      | true =>
        go_wp2_with fail
        go_roundw
        case rel => exact ⟨a, m, rfl, rfl, by omega, by omega, H1.out, fun _ => hfm, H3.out⟩
        case measure => simp [intOf]; omega
    · obtain rfl : a = b := by omega
      go_wp2
      go_ret
      exact ⟨a, rfl, ⟨hb, h1, h2⟩, h3⟩

/-- Who is missing by k is missing by less. -/
theorem gap_any {p : Option Addr} {l : List Int} {cap : Nat} (n : Int) (hn : 1 ≤ n) (w : World) (h : Pk w p l cap) :
    Calls Try.prog 11 #[.slice p l.length cap, .int .i64 n] w fun e w' => ∃ g : Nat, e = .returned (.int .i64 (1 + (g : Int))) ∧ Gap l n.toNat g ∧ Below w.heap.size w w' := by
  have hlen := h.len
  have hn1 : ¬ n < 1 := by omega
  have H := Lib.hid h
  clear h
  go_enter Try.func11, Try.ntmps11
  go_wp2_with fail
  have hbW : Below w.heap.size w ((w.alloc (.cells #[.slice p l.length cap] 22)).alloc (.cells #[.int .i64 n] 3)) := ((Below.refl _ _).alloc (Nat.le_refl _) _).alloc (by simp) _
  have hc0 : Boxed ((w.alloc (.cells #[.slice p l.length cap] 22)).alloc (.cells #[.int .i64 n] 3)) w.heap.size 22 (.slice p l.length cap) := (Boxed.new w _ _).alloc _
  have hc1 : Boxed ((w.alloc (.cells #[.slice p l.length cap] 22)).alloc (.cells #[.int .i64 n] 3)) (w.heap.size + 1) 3 (.int .i64 n) := boxed_new (by simp)
  generalize hW : World.alloc _ _ = W at *
  refine (search_any l.length (by omega) 19 #[.pointer (some ⟨w.heap.size, 0, none⟩), .pointer (some ⟨w.heap.size + 1, 0, none⟩)] (fun j => fair l n.toNat (j + 1)) W (fun i j hij hi => fair_more hi (by omega))
    (fun j W' hj hb => (gap1_any n j W' (H.out.later (hbW.trans (hb.mono hbW.size))) (Boxed.below hc0 hb hc0.lt).cell (Boxed.below hc1 hb hc1.lt).cell (by omega) (by omega)).mono (fun e w' h => by
      have e1 : fairI l n ((j : Int) + 1) = fair l n.toNat (j + 1) := by unfold fairI; rw [decide_eq_true hn, decide_eq_true (show (1 : Int) ≤ (j : Int) + 1 by omega), show ((j : Int) + 1).toNat = j + 1 by omega]; rfl
      exact ⟨by rw [h.1, e1], h.2⟩)) (enters_of Try.func19 (by kernel_rfl) rfl)).mono ?_
  rintro e w2 ⟨g, rfl, hg, hb2⟩
  have HG := Lib.hid hg
  have hgl := hg.le
  have HB := Lib.hid (hbW.trans (hb2.mono hbW.size))
  clear hg hb2 hW hbW hc0 hc1
  go_wp2
  go_ret
  exact ⟨g, rfl, HG.out, HB.out⟩
theorem gap_none (p : Option Addr) (len cap : Nat) (n : Int) (hn : n < 1) (w : World) : Calls Try.prog 11 #[.slice p len cap, .int .i64 n] w fun e w' => e = .returned (.int .i64 0) ∧ Below w.heap.size w w' := by
  go_enter Try.func11, Try.ntmps11
  go_wp2
  go_ret
  exact ⟨rfl, ((Below.refl _ _).alloc (Nat.le_refl _) _).alloc (by simp) _⟩
end Go.Proofs.Ythofknjdmfpbeaa.Fa
