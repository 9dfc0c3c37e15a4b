/-
  counter's boxes in memory; count, for one that comes and one that goes.
-/
import Derived.Test.YthofknjdmfpbeaaFaM
namespace Go.Proofs.Ythofknjdmfpbeaa.Fa
open Go.RowKit
open Go.Proofs.Ythofknjdmfpbeaa.Row

/-- counter's boxes: how many, their times' row, who is missing, count, the last window. -/
structure Ct (w : World) (b0 b1 b2 b3 b4 b5 n : Nat) (W : List Int) (last : Value) : Prop where
  ad : b1 = b0 + 1 ∧ b2 = b0 + 2 ∧ b3 = b0 + 3 ∧ b4 = b0 + 4 ∧ b5 = b0 + 5
  n1 : 1 ≤ n ∧ n ≤ 1048576
  c0 : w.cell? ⟨b0, 0, none⟩ = some (.int .i64 n)
  c2 : w.cell? ⟨b2, 0, none⟩ = some (.slice (some ⟨b1, 0, none⟩) n n)
  row : ∀ p : Nat, p < n → w.cell? ⟨b1, p, none⟩ = some (.int .i64 ((W.count (p : Int) : Nat) : Int))
  rf : ∀ p : Nat, p < n → w.frozen? ⟨b1, p, none⟩ = false
  c3 : w.cell? ⟨b3, 0, none⟩ = some (.int .i64 ((mis n W : Nat) : Int))
  f3 : w.frozen? ⟨b3, 0, none⟩ = false
  c4 : w.cell? ⟨b4, 0, none⟩ = some (.func (.func 24) #[] #[.pointer (some ⟨b0, 0, none⟩), .pointer (some ⟨b2, 0, none⟩), .pointer (some ⟨b3, 0, none⟩)])
  c5 : w.cell? ⟨b5, 0, none⟩ = some last
  f5 : w.frozen? ⟨b5, 0, none⟩ = false
section
variable {w w' : World} {b0 b1 b2 b3 b4 b5 n : Nat} {W V : List Int} {last : Value}
theorem Ct.lt (h : Ct w b0 b1 b2 b3 b4 b5 n W last) : b5 < w.heap.size := World.block_lt_of_cell? w _ h.c5
theorem Ct.kept (h : Ct w b0 b1 b2 b3 b4 b5 n W last) (hk : ∀ k, b0 ≤ k → k ≤ b5 → w'.heap[k]? = w.heap[k]?) : Ct w' b0 b1 b2 b3 b4 b5 n W last := by
  obtain ⟨e1, e2, e3, e4, e5⟩ := h.ad
  exact ⟨h.ad, h.n1, (cell_of_block (a := ⟨b0, 0, none⟩) (hk b0 (by omega) (by omega))).trans h.c0, (cell_of_block (a := ⟨b2, 0, none⟩) (hk b2 (by omega) (by omega))).trans h.c2,
    fun p hp => (cell_of_block (a := ⟨b1, p, none⟩) (hk b1 (by omega) (by omega))).trans (h.row p hp), fun p hp => (frozen_of_block (a := ⟨b1, p, none⟩) (hk b1 (by omega) (by omega))).trans (h.rf p hp),
    (cell_of_block (a := ⟨b3, 0, none⟩) (hk b3 (by omega) (by omega))).trans h.c3, (frozen_of_block (a := ⟨b3, 0, none⟩) (hk b3 (by omega) (by omega))).trans h.f3, (cell_of_block (a := ⟨b4, 0, none⟩) (hk b4 (by omega) (by omega))).trans h.c4,
    (cell_of_block (a := ⟨b5, 0, none⟩) (hk b5 (by omega) (by omega))).trans h.c5, (frozen_of_block (a := ⟨b5, 0, none⟩) (hk b5 (by omega) (by omega))).trans h.f5⟩
theorem Ct.later (h : Ct w b0 b1 b2 b3 b4 b5 n W last) (hb : Below w.heap.size w w') : Ct w' b0 b1 b2 b3 b4 b5 n W last := h.kept fun k _ h2 => hb.block k (by have := h.lt; omega)
theorem Ct.perm (h : Ct w b0 b1 b2 b3 b4 b5 n W last) (hp : W.Perm V) : Ct w b0 b1 b2 b3 b4 b5 n V last :=
  ⟨h.ad, h.n1, h.c0, h.c2, fun p hl => by rw [← hp.count_eq]; exact h.row p hl, h.rf, by rw [← mis_perm hp]; exact h.c3, h.f3, h.c4, h.c5, h.f5⟩
/-- One's times turned. -/
theorem Ct.put (h : Ct w b0 b1 b2 b3 b4 b5 n W last) {p : Nat} (hp : p < n) (hr : ∀ q : Nat, q ≠ p → V.count (q : Int) = W.count (q : Int)) (hm : mis n V = mis n W) {x : Int} (hx : x = (V.count (p : Int) : Nat)) :
    Ct (w.setCell ⟨b1, p, none⟩ (.int .i64 x)) b0 b1 b2 b3 b4 b5 n V last := by
  obtain ⟨e1, e2, e3, e4, e5⟩ := h.ad
  subst hx
  refine ⟨h.ad, h.n1, (other (by first | (simp; done) | (simp; omega))).trans h.c0, (other (by first | (simp; done) | (simp; omega))).trans h.c2, fun q hq => ?_, fun q hq => (World.frozen?_setCell ..).trans (h.rf q hq), by rw [hm]; exact (other (by first | (simp; done) | (simp; omega))).trans h.c3,
    (World.frozen?_setCell ..).trans h.f3, (other (by first | (simp; done) | (simp; omega))).trans h.c4, (other (by first | (simp; done) | (simp; omega))).trans h.c5, (World.frozen?_setCell ..).trans h.f5⟩
  by_cases e : q = p
  · subst e; exact same (h.row q hq)
  · rw [hr q e]; exact (other (by first | (simp; done) | (simp; omega))).trans (h.row q hq)
/-- And who is missing. -/
theorem Ct.put2 (h : Ct w b0 b1 b2 b3 b4 b5 n W last) {p : Nat} (hp : p < n) (hr : ∀ q : Nat, q ≠ p → V.count (q : Int) = W.count (q : Int)) {x y : Int} (hx : x = (V.count (p : Int) : Nat)) (hy : y = (mis n V : Nat)) :
    Ct ((w.setCell ⟨b1, p, none⟩ (.int .i64 x)).setCell ⟨b3, 0, none⟩ (.int .i64 y)) b0 b1 b2 b3 b4 b5 n V last := by
  obtain ⟨e1, e2, e3, e4, e5⟩ := h.ad
  subst hx hy
  refine ⟨h.ad, h.n1, (other (by first | (simp; done) | (simp; omega))).trans ((other (by first | (simp; done) | (simp; omega))).trans h.c0), (other (by first | (simp; done) | (simp; omega))).trans ((other (by first | (simp; done) | (simp; omega))).trans h.c2), fun q hq => (other (by first | (simp; done) | (simp; omega))).trans ?_,
    fun q hq => (World.frozen?_setCell ..).trans ((World.frozen?_setCell ..).trans (h.rf q hq)), same ((other (by first | (simp; done) | (simp; omega))).trans h.c3),
    (World.frozen?_setCell ..).trans ((World.frozen?_setCell ..).trans h.f3), (other (by first | (simp; done) | (simp; omega))).trans ((other (by first | (simp; done) | (simp; omega))).trans h.c4), (other (by first | (simp; done) | (simp; omega))).trans ((other (by first | (simp; done) | (simp; omega))).trans h.c5), (World.frozen?_setCell ..).trans ((World.frozen?_setCell ..).trans h.f5)⟩
  by_cases e : q = p
  · subst e; exact same (h.row q hq)
  · rw [hr q e]; exact (other (by first | (simp; done) | (simp; omega))).trans (h.row q hq)
theorem Ct.chg1 (h : Ct w b0 b1 b2 b3 b4 b5 n W last) (p : Addr) (hp : p.block = b1 ∨ p.block = b3) (v : Value) : Chg (fun k => b0 ≤ k ∧ k ≤ b5) w (w.setCell p v) := by
  obtain ⟨e1, e2, e3, e4, e5⟩ := h.ad
  exact (Chg.refl _ w).set (.inl (by omega)) v

theorem count_out (x y : Int) (h : Ct w b0 b1 b2 b3 b4 b5 n W last) (hx : x < 0 ∨ (n : Int) ≤ x) :
    Calls Try.prog 24 #[.int .i64 x, .int .i64 y, .pointer (some ⟨b0, 0, none⟩), .pointer (some ⟨b2, 0, none⟩), .pointer (some ⟨b3, 0, none⟩)] w fun e w' => e = .returned (.tuple #[]) ∧ w = w' := by
  have c0 := h.c0
  clear h
  rcases hx with hx | hx
  · go_enter Try.func24, Try.ntmps24
    go_wp2
    exact bodyPost_ret (results_none rfl _ _ _) rfl ⟨rfl, rfl⟩
  · have hx2 : ¬ x < 0 := by omega
    go_enter Try.func24, Try.ntmps24
    go_wp2
    exact bodyPost_ret (results_none rfl _ _ _) rfl ⟨rfl, rfl⟩

/-- count of one that comes. -/
theorem count_add (x : Int) (h : Ct w b0 b1 b2 b3 b4 b5 n W last) (hl : W.length < 4611686018427387904) :
    Calls Try.prog 24 #[.int .i64 x, .int .i64 1, .pointer (some ⟨b0, 0, none⟩), .pointer (some ⟨b2, 0, none⟩), .pointer (some ⟨b3, 0, none⟩)] w fun e w' => e = .returned (.tuple #[]) ∧
      Ct w' b0 b1 b2 b3 b4 b5 n (x :: W) last ∧ Chg (fun k => b0 ≤ k ∧ k ≤ b5) w w' := by
  by_cases hx : x < 0 ∨ (n : Int) ≤ x
  · refine (count_out x 1 h hx).mono ?_
    rintro e w' ⟨rfl, rfl⟩
    exact ⟨rfl, ⟨h.ad, h.n1, h.c0, h.c2, fun p hp => by rw [List.count_cons_of_ne (by omega)]; exact h.row p hp, h.rf, by rw [mis_out W hx]; exact h.c3, h.f3, h.c4, h.c5, h.f5⟩, Chg.refl _ _⟩
  · obtain ⟨p, rfl⟩ : ∃ p : Nat, x = p := ⟨x.toNat, by omega⟩
    have hp : p < n := by omega
    have i0 : (0 : Int) ≤ (p : Int) := Int.natCast_nonneg _
    have i1 : (p : Int) < (n : Int) := by omega
    have x0 : ¬ (p : Int) < 0 := by omega
    have x1 : ¬ (n : Int) ≤ (p : Int) := by omega
    have c0 := h.c0
    have c2 := h.c2
    have c3 := h.c3
    have f3 := h.f3
    have hr := h.row p hp
    have rf := h.rf p hp
    have hle : W.count (p : Int) ≤ W.length := List.count_le_length
    have hmi := mis_in (n := n) W hp
    have hml := mis_le n W
    have hn1 := h.n1
    have hne : b1 ≠ b3 := by have := h.ad; omega
    have hne2 : b1 ≠ b2 := by have := h.ad; omega
    have hcq : ∀ q : Nat, q ≠ p → ((p : Int) :: W).count (q : Int) = W.count (q : Int) := fun q hq => List.count_cons_of_ne (by omega)
    have hcp : ((p : Int) :: W).count (p : Int) = W.count (p : Int) + 1 := List.count_cons_self
    have H := Lib.hid h
    have HCQ := Lib.hid hcq
    clear h hcq
    by_cases hz : W.count (p : Int) = 0
    · rw [if_pos hz] at hmi
      have hz1 : ((W.count (p : Int) : Nat) : Int) = 0 := by omega
      rw [hz1] at hr
      generalize hM : mis n W = M at *
      go_enter Try.func24, Try.ntmps24
      go_wp2
      exact bodyPost_end (results_none rfl _ _ _) rfl ⟨rfl, H.out.put2 hp HCQ.out (by omega) (by omega), (H.out.chg1 _ (.inl rfl) _).set (.inl (by have := H.out.ad; simp; omega)) _⟩
    · rw [if_neg hz] at hmi
      generalize hC : W.count (p : Int) = C at *
      have hz1 : ¬ (C : Int) = 0 := by omega
      have hz2 : ¬ (C : Int) + 1 = 0 := by omega
      go_enter Try.func24, Try.ntmps24
      go_wp2
      exact bodyPost_end (results_none rfl _ _ _) rfl ⟨rfl, H.out.put hp HCQ.out (by omega) (by omega), H.out.chg1 _ (.inl rfl) _⟩

/-- count of one that goes. -/
theorem count_sub (x : Int) (h : Ct w b0 b1 b2 b3 b4 b5 n (x :: W) last) (hl : W.length < 4611686018427387904) :
    Calls Try.prog 24 #[.int .i64 x, .int .i64 (-1), .pointer (some ⟨b0, 0, none⟩), .pointer (some ⟨b2, 0, none⟩), .pointer (some ⟨b3, 0, none⟩)] w fun e w' => e = .returned (.tuple #[]) ∧
      Ct w' b0 b1 b2 b3 b4 b5 n W last ∧ Chg (fun k => b0 ≤ k ∧ k ≤ b5) w w' := by
  by_cases hx : x < 0 ∨ (n : Int) ≤ x
  · refine (count_out x (-1) h hx).mono ?_
    rintro e w' ⟨rfl, rfl⟩
    exact ⟨rfl, ⟨h.ad, h.n1, h.c0, h.c2, fun p hp => by rw [h.row p hp, List.count_cons_of_ne (by omega)], h.rf, by rw [h.c3, mis_out W hx], h.f3, h.c4, h.c5, h.f5⟩, Chg.refl _ _⟩
  · obtain ⟨p, rfl⟩ : ∃ p : Nat, x = p := ⟨x.toNat, by omega⟩
    have hp : p < n := by omega
    have i0 : (0 : Int) ≤ (p : Int) := Int.natCast_nonneg _
    have i1 : (p : Int) < (n : Int) := by omega
    have x0 : ¬ (p : Int) < 0 := by omega
    have x1 : ¬ (n : Int) ≤ (p : Int) := by omega
    have c0 := h.c0
    have c2 := h.c2
    have c3 := h.c3
    have f3 := h.f3
    have hr := h.row p hp
    have rf := h.rf p hp
    have hle : W.count (p : Int) ≤ W.length := List.count_le_length
    have hmi := mis_in (n := n) W hp
    have hml := mis_le n W
    have hn1 := h.n1
    have hne : b1 ≠ b3 := by have := h.ad; omega
    have hne2 : b1 ≠ b2 := by have := h.ad; omega
    have hcq : ∀ q : Nat, q ≠ p → W.count (q : Int) = ((p : Int) :: W).count (q : Int) := fun q hq => (List.count_cons_of_ne (by omega)).symm
    have hcp : ((p : Int) :: W).count (p : Int) = W.count (p : Int) + 1 := List.count_cons_self
    have H := Lib.hid h
    have HCQ := Lib.hid hcq
    rw [hcp] at hr
    clear h hcq
    generalize hM : mis n W = M at *
    generalize hM' : mis n ((p : Int) :: W) = M' at *
    generalize hC : W.count (p : Int) = C at *
    have hz1 : ¬ (C : Int) + 1 = 0 := by omega
    have hr' : w.cell? ⟨b1, p, none⟩ = some (.int .i64 ((C : Int) + 1)) := by rw [hr]; rfl
    have hs : (C : Int) + 1 + -1 = C := by omega
    clear hr
    by_cases hz : C = 0
    · rw [if_pos hz] at hmi
      subst hz
      go_enter Try.func24, Try.ntmps24
      go_wp2
      exact bodyPost_end (results_none rfl _ _ _) rfl ⟨rfl, H.out.put2 hp HCQ.out (by omega) (by omega), (H.out.chg1 _ (.inl rfl) _).set (.inl (by have := H.out.ad; simp; omega)) _⟩
    · rw [if_neg hz] at hmi
      have hz2 : ¬ (C : Int) = 0 := by omega
      go_enter Try.func24, Try.ntmps24
      go_wp2
      exact bodyPost_end (results_none rfl _ _ _) rfl ⟨rfl, H.out.put hp HCQ.out (by omega) (by omega), H.out.chg1 _ (.inl rfl) _⟩
end
end Go.Proofs.Ythofknjdmfpbeaa.Fa
