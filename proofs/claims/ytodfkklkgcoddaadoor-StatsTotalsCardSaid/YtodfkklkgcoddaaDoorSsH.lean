/-
  Codes: how many ended with each code.
-/
import Derived.Test.YtodfkklkgcoddaaDoorSsG
namespace Go.Proofs.YtodfkklkgcoddaaDoor.Ss
open Go.RowKit
open Go.Proofs.YtodfkklkgcoddaaDoor.Row

/-- Cells of a block, one behind the other. -/
def setN (w : World) (g : Nat) : Nat → List Value → World
  | _, [] => w
  | o, v :: r => setN (w.setCell ⟨g, o, none⟩ v) g (o + 1) r
theorem setN_low {g j : Nat} {v : Value} : ∀ (vs : List Value) (o : Nat) (w : World), j < o → w.cell? ⟨g, j, none⟩ = some v → (setN w g o vs).cell? ⟨g, j, none⟩ = some v
  | [], _, _, _, h => h
  | u :: r, o, w, hj, h => setN_low r (o + 1) (w.setCell ⟨g, o, none⟩ u) (by omega) (cell_set h (ne_off (by omega)))
theorem setN_cell {g : Nat} : ∀ (vs : List Value) (o : Nat) (w : World), (∀ j, j < vs.length → ∃ u, w.cell? ⟨g, o + j, none⟩ = some u) → ∀ j, j < vs.length → (setN w g o vs).cell? ⟨g, o + j, none⟩ = vs[j]?
  | [], _, _, _, j, hj => absurd hj (by simp)
  | v :: r, o, w, h, 0, _ => by
    obtain ⟨u, hu⟩ := h 0 (by simp)
    exact setN_low r (o + 1) _ (by omega) (same hu)
  | v :: r, o, w, h, j + 1, hj => by
    have := setN_cell (g := g) r (o + 1) (w.setCell ⟨g, o, none⟩ v) (fun i hi => by
      obtain ⟨u, hu⟩ := h (i + 1) (by simp only [List.length_cons]; omega)
      exact ⟨u, by rw [show o + 1 + i = o + (i + 1) by omega]; exact cell_set hu (ne_off (by omega))⟩) j (by simp only [List.length_cons] at hj; omega)
    rw [show o + (j + 1) = o + 1 + j by omega]
    exact this
theorem setN_below {W : World} {g : Nat} (hg : W.heap.size ≤ g) : ∀ (vs : List Value) (o : Nat) (w : World), Below W.heap.size W w → Below W.heap.size W (setN w g o vs)
  | [], _, _, h => h
  | _ :: r, o, _, h => setN_below hg r (o + 1) _ (h.setCell hg _)

/-- A block of so many counts. -/
structure CtAt (w : World) (g : Nat) (f : Nat → Nat) : Prop where
  c : ∀ j, j < 15 → w.cell? ⟨g, j, none⟩ = some (.int .i64 (f j))
  z : ∀ j, w.frozen? ⟨g, j, none⟩ = false
theorem CtAt.lt {w : World} {g : Nat} {f : Nat → Nat} (h : CtAt w g f) : g < w.heap.size := lt_of_cell (h.c 0 (by decide))
theorem CtAt.later {w w' : World} {g : Nat} {f : Nat → Nat} (h : CtAt w g f) (hb : Below w.heap.size w w') : CtAt w' g f :=
  ⟨fun j hj => (hb.cell (p := ⟨g, _, none⟩) h.lt).trans (h.c j hj), fun j => (hb.frozen (p := ⟨g, _, none⟩) h.lt).trans (h.z j)⟩
theorem CtAt.bump {w : World} {g : Nat} {f : Nat → Nat} (h : CtAt w g f) {k : Nat} (hk : k < 15) : CtAt (w.setCell ⟨g, k, none⟩ (.int .i64 ((f k : Int) + 1))) g (fun j => f j + if j = k then 1 else 0) := by
  refine ⟨fun j hj => ?_, fun j => (World.frozen?_setCell ..).trans (h.z j)⟩
  by_cases e : j = k
  · subst e
    rw [same (h.c j hj), if_pos rfl]; rfl
  · rw [other (ne_off (Ne.symm e)), h.c j hj, if_neg e]; rfl
theorem CtAt.ext {w : World} {g : Nat} {f f' : Nat → Nat} (h : CtAt w g f) (hf : ∀ j, j < 15 → f j = f' j) : CtAt w g f' := ⟨fun j hj => by rw [← hf j hj]; exact h.c j hj, h.z⟩
theorem CtAt.aside {w : World} {g g' k : Nat} {f : Nat → Nat} {v : Value} (h : CtAt w g f) (hn : g' ≠ g) : CtAt (w.setCell ⟨g', k, none⟩ v) g f :=
  ⟨fun j hj => (other (ne_blk hn)).trans (h.c j hj), fun j => (World.frozen?_setCell ..).trans (h.z j)⟩
def zero15 : Array Value := #[.int .i64 0, .int .i64 0, .int .i64 0, .int .i64 0, .int .i64 0, .int .i64 0, .int .i64 0, .int .i64 0, .int .i64 0, .int .i64 0, .int .i64 0, .int .i64 0, .int .i64 0, .int .i64 0, .int .i64 0]
theorem CtAt.new (w : World) (t : TypeId) : CtAt (w.alloc (.cells zero15 t)) w.heap.size (fun _ => 0) := by
  refine ⟨fun j hj => ?_, fun j => ?_⟩
  · rw [World.cell?_alloc_new]
    match j, hj with
    | 0, _ => rfl
    | 1, _ => rfl
    | 2, _ => rfl
    | 3, _ => rfl
    | 4, _ => rfl
    | 5, _ => rfl
    | 6, _ => rfl
    | 7, _ => rfl
    | 8, _ => rfl
    | 9, _ => rfl
    | 10, _ => rfl
    | 11, _ => rfl
    | 12, _ => rfl
    | 13, _ => rfl
    | 14, _ => rfl
  · rw [frozen?_alloc_cells]; exact frozen_beyond (Nat.le_refl _)
/-- Fifteen counts as one value. -/
def ctV (f : Nat → Nat) : Value := .agg #[.int .i64 (f 0), .int .i64 (f 1), .int .i64 (f 2), .int .i64 (f 3), .int .i64 (f 4), .int .i64 (f 5), .int .i64 (f 6), .int .i64 (f 7), .int .i64 (f 8), .int .i64 (f 9), .int .i64 (f 10), .int .i64 (f 11), .int .i64 (f 12), .int .i64 (f 13), .int .i64 (f 14)]
def ctL (f : Nat → Nat) : List Value := [.int .i64 (f 0), .int .i64 (f 1), .int .i64 (f 2), .int .i64 (f 3), .int .i64 (f 4), .int .i64 (f 5), .int .i64 (f 6), .int .i64 (f 7), .int .i64 (f 8), .int .i64 (f 9), .int .i64 (f 10), .int .i64 (f 11), .int .i64 (f 12), .int .i64 (f 13), .int .i64 (f 14)]
theorem ck_did {k : Nat} {l : List Ev} {x : Ev} (h1 : x.kind = 1) (hk : x.code = (k : Int)) (j : Nat) : cK j (l ++ [x]) = cK j l + if j = k then 1 else 0 := by
  unfold cK
  rw [countP_one]
  congr 1
  have : isDid x = true := by simp [isDid, h1]
  rw [this, hk]
  by_cases e : j = k
  · subst e; simp
  · rw [if_neg e, if_neg]
    simp; omega
theorem ck_not {l : List Ev} {x : Ev} (j : Nat) (h : (isDid x && x.code == (j : Int)) = false) : cK j (l ++ [x]) = cK j l := by
  unfold cK
  rw [countP_one, h]; simp

set_option maxRecDepth 100000 in
set_option maxHeartbeats 4000000 in
theorem codes_any (p : Option Addr) (cap : Nat) (l : List Ev) (W : World) (h : EvAt W p l) (hl : l.length ≤ 100000) :
    Calls Tryd.prog 16 #[.slice p l.length cap] W fun x w' => x = .returned (ctV fun j => cK j l) ∧ Below W.heap.size W w' := by
  have HO := Lib.hid h
  clear h
  obtain ⟨w1, hw1⟩ : ∃ w1, (W.alloc (.cells zero15 41)).alloc (.cells zero15 41) = w1 := ⟨_, rfl⟩
  have HR1 : Hid (CtAt w1 W.heap.size (fun _ => 0)) := Lib.hid (by rw [← hw1]; exact (CtAt.new W _).later ((Below.refl _ _).alloc (Nat.le_refl _) _))
  have HC1 : Hid (CtAt w1 (W.heap.size + 1) (fun _ => 0)) := Lib.hid (by rw [← hw1]; have := CtAt.new (W.alloc (.cells zero15 41)) 41; rw [show (W.alloc (.cells zero15 41)).heap.size = W.heap.size + 1 by simp] at this; exact this)
  have HB1 : Hid (Below W.heap.size W w1) := Lib.hid (by rw [← hw1]; exact ((Below.refl _ _).alloc (Nat.le_refl _) _).alloc (by simp) _)
  unfold zero15 at hw1
  go_enter Tryd.func16, Tryd.ntmps16
  go_wp2
  go_loopw [8] (fun iv wr => ∃ i : Nat, i ≤ l.length ∧ iv = .int .i64 i ∧ CtAt wr W.heap.size (fun _ => 0) ∧ CtAt wr (W.heap.size + 1) (fun j => cK j (l.take i)) ∧ Below W.heap.size W wr) (fun iv _ => l.length - (intOf iv).toNat)
  case atStart => exact ⟨0, Nat.zero_le _, rfl, HR1.out, HC1.out, HB1.out⟩
  case round =>
    clear HR1 HC1 HB1
    obtain ⟨i, hil, rfl, hr, hc, hb⟩ := hrel
    have HR := Lib.hid hr
    have HC := Lib.hid hc
    have HB := Lib.hid hb
    clear hr hc hb
    have n0 : (0 : Int) ≤ (i : Int) := Int.natCast_nonneg _
    by_cases hlt : i < l.length
    · have n1 : (i : Int) < (l.length : Int) := by omega
      obtain ⟨b, off, rfl, c0, c1, c2, c3, c4, c5⟩ := (HO.out.later (l := l) HB.out) i hlt
      have HT := Lib.hid (take_at hlt)
      generalize hx : l.getD i ev0 = x at *
      clear hx
      obtain ⟨xp, xw, xk, xo, xc, xv⟩ := x
      simp only at c0 c1 c2 c3 c4 c5
      obtain ⟨w2, hw2⟩ : ∃ w2, wr.alloc (.cells #[.int .i64 xp, .int .i64 xw, .int .i64 xk, .int .i64 xo, .int .i64 xc, .int .i64 xv] 44) = w2 := ⟨_, rfl⟩
      have hb2 : Below wr.heap.size wr w2 := by rw [← hw2]; exact (Below.refl _ _).alloc (Nat.le_refl _) _
      have q2 : w2.cell? ⟨wr.heap.size, 2, none⟩ = some (.int .i64 xk) := by rw [← hw2, World.cell?_alloc_new]; rfl
      have q4 : w2.cell? ⟨wr.heap.size, 4, none⟩ = some (.int .i64 xc) := by rw [← hw2, World.cell?_alloc_new]; rfl
      have HB2 := Lib.hid (HB.out.trans (hb2.mono HB.out.size))
      have HR2 := Lib.hid (HR.out.later hb2)
      have HC2 := Lib.hid (HC.out.later hb2)
      clear hb2
      by_cases k1 : xk = 1
      · subst k1
        have hy := Lib.hid (hasI_any (some ⟨W.heap.size + 1, 0, none⟩) 15 15 xc)
        by_cases hk : okI xc 15 = true
        · rw [hk] at hy
          obtain ⟨j0, j1⟩ := okI_iff.1 hk
          obtain ⟨k, rfl⟩ : ∃ k : Nat, xc = k := ⟨xc.toNat, by omega⟩
          have hk15 : k < 15 := by omega
          have j2 : (k : Int) < 15 := by omega
          have g1 := HC2.out.c k hk15
          have g2 := HC2.out.z k
          have g3 : ((cK k (l.take i) : Nat) : Int) + 1 ≤ 9223372036854775807 := by have h1 := ck_le k (l.take i); rw [List.length_take] at h1; omega
          have HBU : Hid (∀ n, CtAt ((w2.drewN n).setCell ⟨W.heap.size + 1, k, none⟩ (.int .i64 ((cK k (l.take i) : Int) + 1))) (W.heap.size + 1) fun j => cK j (l.take (i + 1))) := Lib.hid fun n =>
            ((HC2.out.later (below_drewN (Below.refl _ _) n)).bump hk15).ext fun j _ => by rw [HT.out, ck_did rfl rfl]
          have HRU : Hid (∀ n v, CtAt ((w2.drewN n).setCell ⟨W.heap.size + 1, k, none⟩ v) W.heap.size fun _ => 0) := Lib.hid fun n v => (HR2.out.later (below_drewN (Below.refl _ _) n)).aside (by omega)
          generalize hv : cK k (l.take i) = v at *
          have HV := Lib.hid hv
          clear hv hk
          go_wp2
          go_quiet ((go_at_call 23; exact Calls.quiet_of_same (hy.out _)))
          go_wp2
          go_roundw
          case rel => exact ⟨i + 1, by omega, by go_num, HRU.out _ _, HBU.out _, (below_drewN HB2.out _).setCell (by show W.heap.size ≤ W.heap.size + 1; omega) _⟩
          case measure => simp [intOf]; omega
        · have hk2 : okI xc 15 = false := by simpa using hk
          rw [hk2] at hy
          have HN : Hid (∀ j, j < 15 → cK j (l.take i) = cK j (l.take (i + 1))) := Lib.hid fun j hj => by
            rw [HT.out, ck_not]
            simp only [Bool.and_eq_false_iff, beq_eq_false_iff_ne]
            right
            intro e
            apply hk
            rw [okI_iff]; omega
          clear hk hk2
          go_wp2
          go_quiet ((go_at_call 23; exact Calls.quiet_of_same (hy.out _)))
          go_wp2
          go_roundw
          case rel => exact ⟨i + 1, by omega, by go_num, HR2.out.later (below_drewN (Below.refl _ _) _), (HC2.out.ext HN.out).later (below_drewN (Below.refl _ _) _), below_drewN HB2.out _⟩
          case measure => simp [intOf]; omega
      · have k1b : (xk == 1) = false := by simpa using k1
        have HN : Hid (∀ j, j < 15 → cK j (l.take i) = cK j (l.take (i + 1))) := Lib.hid fun j hj => by
          rw [HT.out, ck_not]
          simp only [Bool.and_eq_false_iff, beq_eq_false_iff_ne]
          left
          exact k1b
        go_wp2
        go_quiet (fail)
        go_wp2
        go_roundw
        case rel => exact ⟨i + 1, by omega, by go_num, HR2.out.later (below_drewN (Below.refl _ _) _), (HC2.out.ext HN.out).later (below_drewN (Below.refl _ _) _), below_drewN HB2.out _⟩
        case measure => simp [intOf]; omega
    · obtain rfl : i = l.length := by omega
      have HCL : Hid (CtAt wr (W.heap.size + 1) fun j => cK j l) := Lib.hid (by have := HC.out; rw [List.take_length] at this; exact this)
      clear HC
      generalize hF : (fun j => cK j l) = F at *
      have HF := Lib.hid hF
      clear hF
      have a0 := HCL.out.c 0 (by decide)
      have b0 := HR.out.c 0 (by decide)
      have z0 := HR.out.z 0
      have a1 := HCL.out.c 1 (by decide)
      have b1 := HR.out.c 1 (by decide)
      have z1 := HR.out.z 1
      have a2 := HCL.out.c 2 (by decide)
      have b2 := HR.out.c 2 (by decide)
      have z2 := HR.out.z 2
      have a3 := HCL.out.c 3 (by decide)
      have b3 := HR.out.c 3 (by decide)
      have z3 := HR.out.z 3
      have a4 := HCL.out.c 4 (by decide)
      have b4 := HR.out.c 4 (by decide)
      have z4 := HR.out.z 4
      have a5 := HCL.out.c 5 (by decide)
      have b5 := HR.out.c 5 (by decide)
      have z5 := HR.out.z 5
      have a6 := HCL.out.c 6 (by decide)
      have b6 := HR.out.c 6 (by decide)
      have z6 := HR.out.z 6
      have a7 := HCL.out.c 7 (by decide)
      have b7 := HR.out.c 7 (by decide)
      have z7 := HR.out.z 7
      have a8 := HCL.out.c 8 (by decide)
      have b8 := HR.out.c 8 (by decide)
      have z8 := HR.out.z 8
      have a9 := HCL.out.c 9 (by decide)
      have b9 := HR.out.c 9 (by decide)
      have z9 := HR.out.z 9
      have a10 := HCL.out.c 10 (by decide)
      have b10 := HR.out.c 10 (by decide)
      have z10 := HR.out.z 10
      have a11 := HCL.out.c 11 (by decide)
      have b11 := HR.out.c 11 (by decide)
      have z11 := HR.out.z 11
      have a12 := HCL.out.c 12 (by decide)
      have b12 := HR.out.c 12 (by decide)
      have z12 := HR.out.z 12
      have a13 := HCL.out.c 13 (by decide)
      have b13 := HR.out.c 13 (by decide)
      have z13 := HR.out.z 13
      have a14 := HCL.out.c 14 (by decide)
      have b14 := HR.out.c 14 (by decide)
      have z14 := HR.out.z 14
      have hsn := setN_cell (g := W.heap.size) (ctL F) 0 wr (fun j hj => ⟨_, by rw [Nat.zero_add]; exact HR.out.c j hj⟩)
      have hsb := setN_below (W := W) (g := W.heap.size) (Nat.le_refl _) (ctL F) 0 wr HB.out
      obtain ⟨w9, hw9⟩ : ∃ w9, setN wr W.heap.size 0 (ctL F) = w9 := ⟨_, rfl⟩
      rw [hw9] at hsn hsb
      unfold ctL at hw9
      simp only [setN] at hw9
      go_wp2
      have y0 := hsn 0 (by show 0 < 15; decide)
      have y1 := hsn 1 (by show 1 < 15; decide)
      have y2 := hsn 2 (by show 2 < 15; decide)
      have y3 := hsn 3 (by show 3 < 15; decide)
      have y4 := hsn 4 (by show 4 < 15; decide)
      have y5 := hsn 5 (by show 5 < 15; decide)
      have y6 := hsn 6 (by show 6 < 15; decide)
      have y7 := hsn 7 (by show 7 < 15; decide)
      have y8 := hsn 8 (by show 8 < 15; decide)
      have y9 := hsn 9 (by show 9 < 15; decide)
      have y10 := hsn 10 (by show 10 < 15; decide)
      have y11 := hsn 11 (by show 11 < 15; decide)
      have y12 := hsn 12 (by show 12 < 15; decide)
      have y13 := hsn 13 (by show 13 < 15; decide)
      have y14 := hsn 14 (by show 14 < 15; decide)
      simp only [ctL, Nat.zero_add, List.getElem?_cons_zero, List.getElem?_cons_succ] at y0 y1 y2 y3 y4 y5 y6 y7 y8 y9 y10 y11 y12 y13 y14
      exact bodyPost_ret (v := ctV F) (by simp [results, Tryd.results16, go_sem, ctV, y0, y1, y2, y3, y4, y5, y6, y7, y8, y9, y10, y11, y12, y13, y14]) rfl ⟨by rw [HF.out], hsb⟩
end Go.Proofs.YtodfkklkgcoddaaDoor.Ss
