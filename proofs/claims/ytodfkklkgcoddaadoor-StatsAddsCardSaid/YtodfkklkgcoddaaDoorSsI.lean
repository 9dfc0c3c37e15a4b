/-
  Total: what there was in all.
-/
import Derived.Test.YtodfkklkgcoddaaDoorSsH
namespace Go.Proofs.YtodfkklkgcoddaaDoor.Ss
open Go.RowKit
open Go.Proofs.YtodfkklkgcoddaaDoor.Row

/-- A block of six counts. -/
structure SmAt (w : World) (g : Nat) (f : Nat → Nat) : Prop where
  c : ∀ j, j < 6 → w.cell? ⟨g, j, none⟩ = some (.int .i64 (f j))
  z : ∀ j, w.frozen? ⟨g, j, none⟩ = false
theorem SmAt.lt {w : World} {g : Nat} {f : Nat → Nat} (h : SmAt w g f) : g < w.heap.size := lt_of_cell (h.c 0 (by decide))
theorem SmAt.later {w w' : World} {g : Nat} {f : Nat → Nat} (h : SmAt w g f) (hb : Below w.heap.size w w') : SmAt w' g f :=
  ⟨fun j hj => (hb.cell (p := ⟨g, _, none⟩) h.lt).trans (h.c j hj), fun j => (hb.frozen (p := ⟨g, _, none⟩) h.lt).trans (h.z j)⟩
theorem SmAt.put {w : World} {g : Nat} {f : Nat → Nat} (h : SmAt w g f) {k : Nat} (v : Nat) : SmAt (w.setCell ⟨g, k, none⟩ (.int .i64 (v : Int))) g (fun j => if j = k then v else f j) := by
  refine ⟨fun j hj => ?_, fun j => (World.frozen?_setCell ..).trans (h.z j)⟩
  by_cases e : j = k
  · subst e
    rw [same (h.c j hj), if_pos rfl]
  · rw [other (ne_off (Ne.symm e)), h.c j hj, if_neg e]
theorem SmAt.aside {w : World} {g g' k : Nat} {f : Nat → Nat} {v : Value} (h : SmAt w g f) (hn : g' ≠ g) : SmAt (w.setCell ⟨g', k, none⟩ v) g f :=
  ⟨fun j hj => (other (ne_blk hn)).trans (h.c j hj), fun j => (World.frozen?_setCell ..).trans (h.z j)⟩
theorem SmAt.ext {w : World} {g : Nat} {f f' : Nat → Nat} (h : SmAt w g f) (hf : ∀ j, j < 6 → f j = f' j) : SmAt w g f' := ⟨fun j hj => by rw [← hf j hj]; exact h.c j hj, h.z⟩
theorem SmAt.new (w : World) (t : TypeId) (f : Nat → Nat) : SmAt (w.alloc (.cells #[.int .i64 (f 0), .int .i64 (f 1), .int .i64 (f 2), .int .i64 (f 3), .int .i64 (f 4), .int .i64 (f 5)] t)) w.heap.size f := by
  refine ⟨fun j hj => ?_, fun j => ?_⟩
  · rw [World.cell?_alloc_new]
    match j, hj with
    | 0, _ => rfl
    | 1, _ => rfl
    | 2, _ => rfl
    | 3, _ => rfl
    | 4, _ => rfl
    | 5, _ => rfl
  · rw [frozen?_alloc_cells]; exact frozen_beyond (Nat.le_refl _)
theorem CtAt.of (w : World) (t : TypeId) (f : Nat → Nat) : CtAt (w.alloc (.cells #[.int .i64 (f 0), .int .i64 (f 1), .int .i64 (f 2), .int .i64 (f 3), .int .i64 (f 4), .int .i64 (f 5), .int .i64 (f 6), .int .i64 (f 7), .int .i64 (f 8), .int .i64 (f 9), .int .i64 (f 10), .int .i64 (f 11), .int .i64 (f 12), .int .i64 (f 13), .int .i64 (f 14)] t)) w.heap.size f := by
  refine ⟨fun j hj => ?_, fun j => ?_⟩
  · rw [World.cell?_alloc_new]
    match j, hj with
    | 0, _ => rfl
    | 1, _ => rfl
    | 2, _ => rfl
    | 3, _ => rfl
    | 4, _ => rfl
    | 5, _ => rfl
    | 6, _ => rfl
    | 7, _ => rfl
    | 8, _ => rfl
    | 9, _ => rfl
    | 10, _ => rfl
    | 11, _ => rfl
    | 12, _ => rfl
    | 13, _ => rfl
    | 14, _ => rfl
  · rw [frozen?_alloc_cells]; exact frozen_beyond (Nat.le_refl _)

/-- What there was in all, so far; e errors, u full ones. -/
def fT (L : List (List Int)) (l : List Ev) (e u : Nat) : Nat → Nat
  | 0 => cOps l
  | 1 => e
  | 2 => cAl L l
  | 3 => cFr l
  | 4 => cCy l
  | 5 => u
  | _ => 0
theorem ft_next (L : List (List Int)) (l : List Ev) (x : Ev) (e u : Nat) (j : Nat) (hj : j < 6) : fT L (l ++ [x]) e u j =
    if j = 0 then cOps l + (if isDid x then 1 else 0) else if j = 2 then cAl L l + (if isDid x && isAl L x then 1 else 0) else if j = 3 then cFr l + (if x.kind == 5 then 1 else 0) else if j = 4 then cCy l + (if x.kind == 2 then 1 else 0) else fT L l e u j := by
  match j, hj with
  | 0, _ => simp only [fT, cOps, countP_one]; rfl
  | 1, _ => rfl
  | 2, _ => simp only [fT, cAl, countP_one]; rfl
  | 3, _ => simp only [fT, cFr, countP_one]; rfl
  | 4, _ => simp only [fT, cCy, countP_one]; rfl
  | 5, _ => rfl
theorem isDid_1 {p w o c v : Int} : isDid ⟨p, w, 1, o, c, v⟩ = true := rfl
theorem isDid_no {p w k o c v : Int} (h : k ≠ 1) : isDid ⟨p, w, k, o, c, v⟩ = false := by simp [isDid, h]
/-- The sum as a value. -/
def smV (f : Nat → Nat) : Value := .agg #[.int .i64 (f 0), .int .i64 (f 1), .int .i64 (f 2), .int .i64 (f 3), .int .i64 (f 4), .int .i64 (f 5)]
def smL (f : Nat → Nat) : List Value := [.int .i64 (f 0), .int .i64 (f 1), .int .i64 (f 2), .int .i64 (f 3), .int .i64 (f 4), .int .i64 (f 5)]

set_option maxRecDepth 100000 in
set_option maxHeartbeats 8000000 in
theorem total_any (pp : Option Addr) (cp : Nat) (L : List (List Int)) (p : Option Addr) (cap : Nat) (l : List Ev) (W : World) (hp : PrAt W pp L) (h : EvAt W p l) (hl : l.length ≤ 100000) :
    Calls Tryd.prog 15 #[.slice pp L.length cp, .slice p l.length cap] W fun x w' => x = .returned (smV (fT L l (cErr l) (cK 10 l))) ∧ Below W.heap.size W w' := by
  have HO := Lib.hid h
  have HP := Lib.hid hp
  clear h hp
  obtain ⟨w0, hw0⟩ : ∃ w0, W.alloc (.cells #[.int .i64 0, .int .i64 0, .int .i64 0, .int .i64 0, .int .i64 0, .int .i64 0] 40) = w0 := ⟨_, rfl⟩
  have HB0 : Hid (Below W.heap.size W w0) := Lib.hid (by rw [← hw0]; exact (Below.refl _ _).alloc (Nat.le_refl _) _)
  have HR0 : Hid (SmAt w0 W.heap.size (fun _ => 0)) := Lib.hid (by rw [← hw0]; exact SmAt.new W _ (fun _ => 0))
  have HCO := Lib.hid (codes_any p cap l w0 (HO.out.later HB0.out) hl)
  unfold ctV at HCO
  go_enter Tryd.func15, Tryd.ntmps15
  go_wp2_with (go_at_call 16; fail)
  refine HCO.out.mono ?_
  rintro e w1 ⟨rfl, hb1⟩
  have hb1' := HB0.out.trans (hb1.mono HB0.out.size)
  have HB1 := Lib.hid hb1'
  have HR1 := Lib.hid (HR0.out.later hb1)
  have hs1 : W.heap.size < w1.heap.size := HR1.out.lt
  have HS1 := Lib.hid hs1
  clear hb1 hb1' HB0 HR0 HCO hw0
  obtain ⟨F, hF⟩ : ∃ F : Nat → Nat, (fun j => cK j l) = F := ⟨_, rfl⟩
  have HF := Lib.hid hF
  have hFj : ∀ j, cK j l = F j := fun j => congrFun hF j
  simp only [hFj]
  clear hF hFj
  obtain ⟨w2, hw2⟩ : ∃ w2, w1.alloc (.cells #[.int .i64 (F 0), .int .i64 (F 1), .int .i64 (F 2), .int .i64 (F 3), .int .i64 (F 4), .int .i64 (F 5), .int .i64 (F 6), .int .i64 (F 7), .int .i64 (F 8), .int .i64 (F 9), .int .i64 (F 10), .int .i64 (F 11), .int .i64 (F 12), .int .i64 (F 13), .int .i64 (F 14)] 41) = w2 := ⟨_, rfl⟩
  have hb2 : Below w1.heap.size w1 w2 := by rw [← hw2]; exact (Below.refl _ _).alloc (Nat.le_refl _) _
  have hC2 : CtAt w2 w1.heap.size F := by rw [← hw2]; exact CtAt.of w1 _ F
  have hs2 : w2.heap.size = w1.heap.size + 1 := by rw [← hw2]; simp
  have g10 := hC2.c 10 (by decide)
  obtain ⟨w3, hw3⟩ : ∃ w3, w2.alloc (.cells #[.int .i64 0, .int .i64 0, .int .i64 0, .int .i64 0, .int .i64 0, .int .i64 (F 10)] 40) = w3 := ⟨_, rfl⟩
  have hb3 : Below w2.heap.size w2 w3 := by rw [← hw3]; exact (Below.refl _ _).alloc (Nat.le_refl _) _
  have HC3 := Lib.hid (hC2.later hb3)
  have HS3 : Hid (SmAt w3 (w1.heap.size + 1) (fT L (l.take 0) 0 (F 10))) := Lib.hid (by rw [← hw3, ← hs2]; exact SmAt.new w2 _ (fT L (l.take 0) 0 (F 10)))
  have HR3 := Lib.hid ((HR1.out.later hb2).later hb3)
  have HB3 := Lib.hid ((HB1.out.trans (hb2.mono HB1.out.size)).trans (hb3.mono (Nat.le_trans HB1.out.size hb2.size)))
  obtain ⟨g5, hg5⟩ : ∃ g5, w1.heap.size = g5 := ⟨_, rfl⟩
  have HSZ : Hid (w2.heap.size = g5 + 1) := Lib.hid (by rw [hs2, hg5])
  have HG5 := Lib.hid hg5
  rw [hg5] at HC3 HS3 g10 HS1
  clear hb2 hC2 hb3 hs2 HB1 HR1 hs1
  go_wp2
  try rw [HSZ.out]
  clear hg5 hw2 hw3 g10
  go_loopw [16] (fun iv wr => ∃ i : Nat, i ≤ l.length ∧ iv = .int .i64 i ∧ SmAt wr W.heap.size (fun _ => 0) ∧ CtAt wr g5 F ∧ SmAt wr (g5 + 1) (fT L (l.take i) 0 (F 10)) ∧ Below W.heap.size W wr) (fun iv _ => l.length - (intOf iv).toNat)
  case atStart => exact ⟨0, Nat.zero_le _, rfl, HR3.out, HC3.out, HS3.out, HB3.out⟩
  case round =>
    clear HR3 HC3 HS3 HB3
    obtain ⟨i, hil, rfl, hr, hc, hs, hb⟩ := hrel
    have HR := Lib.hid hr
    have HC := Lib.hid hc
    have HS := Lib.hid hs
    have HB := Lib.hid hb
    clear hr hc hs hb
    have n0 : (0 : Int) ≤ (i : Int) := Int.natCast_nonneg _
    by_cases hlt : i < l.length
    · have n1 : (i : Int) < (l.length : Int) := by omega
      obtain ⟨b, off, rfl, c0, c1, c2, c3, c4, c5⟩ := (HO.out.later (l := l) HB.out) i hlt
      have HT := Lib.hid (take_at hlt)
      generalize hx : l.getD i ev0 = x at *
      clear hx
      obtain ⟨xp, xw, xk, xo, xc, xv⟩ := x
      simp only at c0 c1 c2 c3 c4 c5
      obtain ⟨w4, hw4⟩ : ∃ w4, wr.alloc (.cells #[.int .i64 xp, .int .i64 xw, .int .i64 xk, .int .i64 xo, .int .i64 xc, .int .i64 xv] 44) = w4 := ⟨_, rfl⟩
      have hb4 : Below wr.heap.size wr w4 := by rw [← hw4]; exact (Below.refl _ _).alloc (Nat.le_refl _) _
      have q0 : w4.cell? ⟨wr.heap.size, 0, none⟩ = some (.int .i64 xp) := by rw [← hw4, World.cell?_alloc_new]; rfl
      have q1 : w4.cell? ⟨wr.heap.size, 1, none⟩ = some (.int .i64 xw) := by rw [← hw4, World.cell?_alloc_new]; rfl
      have q2 : w4.cell? ⟨wr.heap.size, 2, none⟩ = some (.int .i64 xk) := by rw [← hw4, World.cell?_alloc_new]; rfl
      have q3 : w4.cell? ⟨wr.heap.size, 3, none⟩ = some (.int .i64 xo) := by rw [← hw4, World.cell?_alloc_new]; rfl
      have q4 : w4.cell? ⟨wr.heap.size, 4, none⟩ = some (.int .i64 xc) := by rw [← hw4, World.cell?_alloc_new]; rfl
      have q5 : w4.cell? ⟨wr.heap.size, 5, none⟩ = some (.int .i64 xv) := by rw [← hw4, World.cell?_alloc_new]; rfl
      have HB4 := Lib.hid (HB.out.trans (hb4.mono HB.out.size))
      have HR4 := Lib.hid (HR.out.later hb4)
      have HC4 := Lib.hid (HC.out.later hb4)
      have HS4 := Lib.hid (HS.out.later hb4)
      have hlg : g5 + 1 < wr.heap.size := HS.out.lt
      have HLG := Lib.hid hlg
      clear hb4 hlg
      have u0 : (0 : Nat) < 6 := by decide
      have s0 := HS4.out.c 0 (by decide)
      have s2 := HS4.out.c 2 (by decide)
      have s3 := HS4.out.c 3 (by decide)
      have s4 := HS4.out.c 4 (by decide)
      have z0 := HS4.out.z 0
      have z2 := HS4.out.z 2
      have z3 := HS4.out.z 3
      have z4 := HS4.out.z 4
      simp only [fT] at s0 s2 s3 s4
      have m0 : ((cOps (l.take i) : Nat) : Int) + 1 ≤ 9223372036854775807 := by have := cops_le (l.take i); rw [List.length_take] at this; omega
      have m2 : ((cAl L (l.take i) : Nat) : Int) + 1 ≤ 9223372036854775807 := by have := cal_le L (l.take i); rw [List.length_take] at this; omega
      have m3 : ((cFr (l.take i) : Nat) : Int) + 1 ≤ 9223372036854775807 := by have := cfr_le (l.take i); rw [List.length_take] at this; omega
      have m4 : ((cCy (l.take i) : Nat) : Int) + 1 ≤ 9223372036854775807 := by have := ccy_le (l.take i); rw [List.length_take] at this; omega
      have HNX : Hid (∀ j, j < 6 → fT L (l.take (i + 1)) 0 (F 10) j = if j = 0 then cOps (l.take i) + (if isDid ⟨xp, xw, xk, xo, xc, xv⟩ then 1 else 0) else if j = 2 then cAl L (l.take i) + (if isDid ⟨xp, xw, xk, xo, xc, xv⟩ && isAl L ⟨xp, xw, xk, xo, xc, xv⟩ then 1 else 0) else if j = 3 then cFr (l.take i) + (if xk == 5 then 1 else 0) else if j = 4 then cCy (l.take i) + (if xk == 2 then 1 else 0) else fT L (l.take i) 0 (F 10) j) :=
        Lib.hid (fun j hj => by rw [HT.out]; exact ft_next L (l.take i) ⟨xp, xw, xk, xo, xc, xv⟩ 0 (F 10) j hj)
      have HF0 : Hid (fT L (l.take i) 0 (F 10) 0 = cOps (l.take i) ∧ fT L (l.take i) 0 (F 10) 2 = cAl L (l.take i) ∧ fT L (l.take i) 0 (F 10) 3 = cFr (l.take i) ∧ fT L (l.take i) 0 (F 10) 4 = cCy (l.take i)) := Lib.hid ⟨rfl, rfl, rfl, rfl⟩
      generalize cOps (l.take i) = vO at *
      generalize cAl L (l.take i) = vA at *
      generalize cFr (l.take i) = vF at *
      generalize cCy (l.take i) = vC at *
      by_cases k1 : xk = 1
      · subst k1
        have HIA : Hid (∀ w, Below W.heap.size W w → Calls Tryd.prog 22 #[.slice pp L.length cp, .agg #[.int .i64 xp, .int .i64 xw, .int .i64 1, .int .i64 xo, .int .i64 xc, .int .i64 xv]] w fun x w' => x = .returned (.bool (isAl L ⟨xp, xw, 1, xo, xc, xv⟩)) ∧ Below w.heap.size w w') :=
          Lib.hid (fun w h => isalloc_any pp cp L ⟨xp, xw, 1, xo, xc, xv⟩ w (HP.out.later h))
        obtain ⟨w5, hw5⟩ : ∃ w5, w4.setCell ⟨g5 + 1, 0, none⟩ (.int .i64 ((vO : Int) + 1)) = w5 := ⟨_, rfl⟩
        have hne : g5 + 1 ≠ wr.heap.size := by have := HLG.out; omega
        have t0 : w5.cell? ⟨wr.heap.size, 0, none⟩ = some (.int .i64 xp) := by rw [← hw5]; exact cell_set q0 (ne_blk hne)
        have t1 : w5.cell? ⟨wr.heap.size, 1, none⟩ = some (.int .i64 xw) := by rw [← hw5]; exact cell_set q1 (ne_blk hne)
        have t2 : w5.cell? ⟨wr.heap.size, 2, none⟩ = some (.int .i64 1) := by rw [← hw5]; exact cell_set q2 (ne_blk hne)
        have t3 : w5.cell? ⟨wr.heap.size, 3, none⟩ = some (.int .i64 xo) := by rw [← hw5]; exact cell_set q3 (ne_blk hne)
        have t4 : w5.cell? ⟨wr.heap.size, 4, none⟩ = some (.int .i64 xc) := by rw [← hw5]; exact cell_set q4 (ne_blk hne)
        have t5 : w5.cell? ⟨wr.heap.size, 5, none⟩ = some (.int .i64 xv) := by rw [← hw5]; exact cell_set q5 (ne_blk hne)
        have HB5 : Hid (Below W.heap.size W w5) := Lib.hid (by rw [← hw5]; exact HB4.out.setCell (by have := HS1.out; show W.heap.size ≤ g5 + 1; omega) _)
        have HR5 : Hid (SmAt w5 W.heap.size fun _ => 0) := Lib.hid (by rw [← hw5]; exact HR4.out.aside (by have := HS1.out; omega))
        have HC5 : Hid (CtAt w5 g5 F) := Lib.hid (by rw [← hw5]; exact HC4.out.aside (by omega))
        have HS5 : Hid (SmAt w5 (g5 + 1) fun j => if j = 0 then vO + 1 else fT L (l.take i) 0 (F 10) j) := Lib.hid (by rw [← hw5]; exact HS4.out.put (vO + 1))
        clear hne
        go_wp2_with (go_at_call 22; fail)
        refine (HIA.out _ HB5.out).mono ?_
        rintro e w6 ⟨rfl, hb6⟩
        have HB6 := Lib.hid (HB5.out.trans (hb6.mono HB5.out.size))
        have HR6 := Lib.hid (HR5.out.later hb6)
        have HC6 := Lib.hid (HC5.out.later hb6)
        have HS6 := Lib.hid (HS5.out.later hb6)
        clear hb6 HB5 HR5 HC5 HS5 hw5 t0 t1 t2 t3 t4 t5 s0 s2 s3 s4 z0 z2 z3 z4
        cases hal : isAl L ⟨xp, xw, 1, xo, xc, xv⟩ with
        | false =>
          rw [hal] at HNX
          have HSN : Hid (SmAt w6 (g5 + 1) (fT L (l.take (i + 1)) 0 (F 10))) := Lib.hid (HS6.out.ext fun j hj => by
            rw [HNX.out j hj]
            obtain ⟨e0, e2, e3, e4⟩ := HF0.out
            match j, hj with
            | 0, _ => rfl
            | 1, _ => rfl
            | 2, _ => exact e2
            | 3, _ => exact e3
            | 4, _ => exact e4
            | 5, _ => rfl)
          clear HS6 HNX hal
          go_wp2
          go_roundw
          case rel => exact ⟨i + 1, by omega, by go_num, HR6.out, HC6.out, HSN.out, HB6.out⟩
          case measure => simp [intOf]; omega
        | true =>
          rw [hal] at HNX
          have r2 : w6.cell? ⟨g5 + 1, 2, none⟩ = some (.int .i64 (vA : Int)) := by have := HS6.out.c 2 (by decide); rw [if_neg (by decide), HF0.out.2.1] at this; exact this
          have y2 := HS6.out.z 2
          have HSN : Hid (SmAt (w6.setCell ⟨g5 + 1, 2, none⟩ (.int .i64 ((vA : Int) + 1))) (g5 + 1) (fT L (l.take (i + 1)) 0 (F 10))) := Lib.hid ((HS6.out.put (k := 2) (vA + 1)).ext fun j hj => by
            rw [HNX.out j hj]
            obtain ⟨e0, e2, e3, e4⟩ := HF0.out
            match j, hj with
            | 0, _ => rfl
            | 1, _ => rfl
            | 2, _ => rfl
            | 3, _ => exact e3
            | 4, _ => exact e4
            | 5, _ => rfl)
          have HRN : Hid (∀ v, SmAt (w6.setCell ⟨g5 + 1, 2, none⟩ v) W.heap.size fun _ => 0) := Lib.hid fun v => HR6.out.aside (by have := HS1.out; omega)
          have HCN : Hid (∀ v, CtAt (w6.setCell ⟨g5 + 1, 2, none⟩ v) g5 F) := Lib.hid fun v => HC6.out.aside (by omega)
          have HBN : Hid (∀ v, Below W.heap.size W (w6.setCell ⟨g5 + 1, 2, none⟩ v)) := Lib.hid fun v => HB6.out.setCell (by have := HS1.out; show W.heap.size ≤ g5 + 1; omega) _
          clear HS6 HNX hal
          go_wp2
          go_roundw
          case rel => exact ⟨i + 1, by omega, by go_num, HRN.out _, HCN.out _, HSN.out, HBN.out _⟩
          case measure => simp [intOf]; omega
      · have k1b : (xk == 1) = false := by simpa using k1
        have HID := Lib.hid (isDid_no (p := xp) (w := xw) (o := xo) (c := xc) (v := xv) k1)
        rw [HID.out] at HNX
        by_cases k5 : xk = 5
        · subst k5
          have HSN : Hid (SmAt (w4.setCell ⟨g5 + 1, 3, none⟩ (.int .i64 ((vF : Int) + 1))) (g5 + 1) (fT L (l.take (i + 1)) 0 (F 10))) := Lib.hid ((HS4.out.put (k := 3) (vF + 1)).ext fun j hj => by
            rw [HNX.out j hj]
            obtain ⟨e0, e2, e3, e4⟩ := HF0.out
            match j, hj with
            | 0, _ => exact e0
            | 1, _ => rfl
            | 2, _ => exact e2
            | 3, _ => rfl
            | 4, _ => exact e4
            | 5, _ => rfl)
          have HRN : Hid (∀ v, SmAt (w4.setCell ⟨g5 + 1, 3, none⟩ v) W.heap.size fun _ => 0) := Lib.hid fun v => HR4.out.aside (by have := HS1.out; omega)
          have HCN : Hid (∀ v, CtAt (w4.setCell ⟨g5 + 1, 3, none⟩ v) g5 F) := Lib.hid fun v => HC4.out.aside (by omega)
          have HBN : Hid (∀ v, Below W.heap.size W (w4.setCell ⟨g5 + 1, 3, none⟩ v)) := Lib.hid fun v => HB4.out.setCell (by have := HS1.out; show W.heap.size ≤ g5 + 1; omega) _
          clear HNX
          go_wp2
          go_roundw
          case rel => exact ⟨i + 1, by omega, by go_num, HRN.out _, HCN.out _, HSN.out, HBN.out _⟩
          case measure => simp [intOf]; omega
        have k5b : (xk == 5) = false := by simpa using k5
        by_cases k2 : xk = 2
        · subst k2
          have HSN : Hid (SmAt (w4.setCell ⟨g5 + 1, 4, none⟩ (.int .i64 ((vC : Int) + 1))) (g5 + 1) (fT L (l.take (i + 1)) 0 (F 10))) := Lib.hid ((HS4.out.put (k := 4) (vC + 1)).ext fun j hj => by
            rw [HNX.out j hj]
            obtain ⟨e0, e2, e3, e4⟩ := HF0.out
            match j, hj with
            | 0, _ => exact e0
            | 1, _ => rfl
            | 2, _ => exact e2
            | 3, _ => exact e3
            | 4, _ => rfl
            | 5, _ => rfl)
          have HRN : Hid (∀ v, SmAt (w4.setCell ⟨g5 + 1, 4, none⟩ v) W.heap.size fun _ => 0) := Lib.hid fun v => HR4.out.aside (by have := HS1.out; omega)
          have HCN : Hid (∀ v, CtAt (w4.setCell ⟨g5 + 1, 4, none⟩ v) g5 F) := Lib.hid fun v => HC4.out.aside (by omega)
          have HBN : Hid (∀ v, Below W.heap.size W (w4.setCell ⟨g5 + 1, 4, none⟩ v)) := Lib.hid fun v => HB4.out.setCell (by have := HS1.out; show W.heap.size ≤ g5 + 1; omega) _
          clear HNX
          go_wp2
          go_roundw
          case rel => exact ⟨i + 1, by omega, by go_num, HRN.out _, HCN.out _, HSN.out, HBN.out _⟩
          case measure => simp [intOf]; omega
        have k2b : (xk == 2) = false := by simpa using k2
        have HSN : Hid (SmAt w4 (g5 + 1) (fT L (l.take (i + 1)) 0 (F 10))) := Lib.hid (HS4.out.ext fun j hj => by
          rw [HNX.out j hj, k5b, k2b]
          obtain ⟨e0, e2, e3, e4⟩ := HF0.out
          match j, hj with
          | 0, _ => exact e0
          | 1, _ => rfl
          | 2, _ => exact e2
          | 3, _ => exact e3
          | 4, _ => exact e4
          | 5, _ => rfl)
        clear HNX
        go_wp2
        go_roundw
        case rel => exact ⟨i + 1, by omega, by go_num, HR4.out, HC4.out, HSN.out, HB4.out⟩
        case measure => simp [intOf]; omega
    · obtain rfl : i = l.length := by omega
      have hsl : SmAt wr (g5 + 1) (fT L l 0 (F 10)) := by have := HS.out; rw [List.take_length] at this; exact this
      have hsub : ((cOps l : Nat) : Int) - ((F 0 : Nat) : Int) = ((cErr l : Nat) : Int) := by have h1 := err_ops l; have h2 : cK 0 l = F 0 := congrFun HF.out 0; omega
      have o0 : wr.cell? ⟨g5 + 1, 0, none⟩ = some (.int .i64 ((cOps l : Nat) : Int)) := hsl.c 0 (by decide)
      have o1 : wr.cell? ⟨g5 + 1, 1, none⟩ = some (.int .i64 0) := hsl.c 1 (by decide)
      have p1 := hsl.z 1
      have a0 := HC.out.c 0 (by decide)
      have HS5 : Hid (SmAt (wr.setCell ⟨g5 + 1, 1, none⟩ (.int .i64 ((cErr l : Nat) : Int))) (g5 + 1) (fT L l (cErr l) (F 10))) := Lib.hid ((hsl.put (k := 1) (cErr l)).ext fun j hj => by
        match j, hj with
        | 0, _ => rfl
        | 1, _ => rfl
        | 2, _ => rfl
        | 3, _ => rfl
        | 4, _ => rfl
        | 5, _ => rfl)
      have HR5 : Hid (SmAt (wr.setCell ⟨g5 + 1, 1, none⟩ (.int .i64 ((cErr l : Nat) : Int))) W.heap.size fun _ => 0) := Lib.hid (HR.out.aside (by have := HS1.out; omega))
      have HB5 : Hid (Below W.heap.size W (wr.setCell ⟨g5 + 1, 1, none⟩ (.int .i64 ((cErr l : Nat) : Int)))) := Lib.hid (HB.out.setCell (by have := HS1.out; show W.heap.size ≤ g5 + 1; omega) _)
      have HFT : Hid (fT L l (cErr l) (F 10) 0 = cOps l) := Lib.hid rfl
      have hi0 : ((cOps l : Nat) : Int) ≤ 100000 := by have := cops_le l; omega
      have hi1 : ((F 0 : Nat) : Int) ≤ 100000 := by have := ck_le 0 l; have h2 : cK 0 l = F 0 := congrFun HF.out 0; omega
      clear hsl
      obtain ⟨w5, hw5⟩ : ∃ w5, wr.setCell ⟨g5 + 1, 1, none⟩ (.int .i64 ((cErr l : Nat) : Int)) = w5 := ⟨_, rfl⟩
      rw [hw5] at HS5 HR5 HB5
      obtain ⟨S, hS⟩ : ∃ S, fT L l (cErr l) (F 10) = S := ⟨_, rfl⟩
      have HSE : Hid (fT L l (cErr l) (cK 10 l) = S) := Lib.hid (by rw [show cK 10 l = F 10 from congrFun HF.out 10]; exact hS)
      rw [hS] at HS5
      clear hS
      have s0 := HS5.out.c 0 (by decide)
      have b0 := HR5.out.c 0 (by decide)
      have z0 := HR5.out.z 0
      have s1 := HS5.out.c 1 (by decide)
      have b1 := HR5.out.c 1 (by decide)
      have z1 := HR5.out.z 1
      have s2 := HS5.out.c 2 (by decide)
      have b2 := HR5.out.c 2 (by decide)
      have z2 := HR5.out.z 2
      have s3 := HS5.out.c 3 (by decide)
      have b3 := HR5.out.c 3 (by decide)
      have z3 := HR5.out.z 3
      have s4 := HS5.out.c 4 (by decide)
      have b4 := HR5.out.c 4 (by decide)
      have z4 := HR5.out.z 4
      have s5 := HS5.out.c 5 (by decide)
      have b5 := HR5.out.c 5 (by decide)
      have z5 := HR5.out.z 5
      have hsn := setN_cell (g := W.heap.size) (smL S) 0 w5 (fun j hj => ⟨_, by rw [Nat.zero_add]; exact HR5.out.c j hj⟩)
      have hsb := setN_below (W := W) (g := W.heap.size) (Nat.le_refl _) (smL S) 0 w5 HB5.out
      obtain ⟨w9, hw9⟩ : ∃ w9, setN w5 W.heap.size 0 (smL S) = w9 := ⟨_, rfl⟩
      rw [hw9] at hsn hsb
      unfold smL at hw9
      simp only [setN] at hw9
      go_wp2
      have y0 := hsn 0 (by show 0 < 6; decide)
      have y1 := hsn 1 (by show 1 < 6; decide)
      have y2 := hsn 2 (by show 2 < 6; decide)
      have y3 := hsn 3 (by show 3 < 6; decide)
      have y4 := hsn 4 (by show 4 < 6; decide)
      have y5 := hsn 5 (by show 5 < 6; decide)
      simp only [smL, Nat.zero_add, List.getElem?_cons_zero, List.getElem?_cons_succ] at y0 y1 y2 y3 y4 y5
      rw [HSE.out]
      exact bodyPost_ret (v := smV S) (by simp [results, Tryd.results15, go_sem, smV, y0, y1, y2, y3, y4, y5]) rfl ⟨rfl, hsb⟩
end Go.Proofs.YtodfkklkgcoddaaDoor.Ss
