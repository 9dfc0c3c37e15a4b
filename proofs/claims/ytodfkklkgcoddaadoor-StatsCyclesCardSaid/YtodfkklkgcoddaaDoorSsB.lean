/-
  begun: the cycle that an event begins.
-/
import Derived.Test.YtodfkklkgcoddaaDoorSsA
namespace Go.Proofs.YtodfkklkgcoddaaDoor.Ss
open Go.RowKit
open Go.Proofs.YtodfkklkgcoddaaDoor.Row

/-- While a cycle is told: its record, and the result's. -/
structure Bg (W w : World) (num start : Int) (s : Bs) : Prop where
  c : CyAt w (W.heap.size + 1 + 1) num start s
  f : ∀ o, w.frozen? ⟨W.heap.size + 1 + 1, o, none⟩ = false
  z : ∀ o, o < 5 → w.cell? ⟨W.heap.size + 1, o, none⟩ = some (.int .i64 0)
  fz : ∀ o, w.frozen? ⟨W.heap.size + 1, o, none⟩ = false
  b : Below W.heap.size W w
theorem Bg.lt {W w : World} {num start : Int} {s : Bs} (h : Bg W w num start s) : W.heap.size + 1 + 1 < w.heap.size := lt_of_cell h.c.c0
theorem Bg.later {W w w' : World} {num start : Int} {s : Bs} (h : Bg W w num start s) (hb : Below w.heap.size w w') : Bg W w' num start s :=
  have hl := h.lt
  ⟨⟨(hb.cell (p := ⟨_, _, none⟩) hl).trans h.c.c0, (hb.cell (p := ⟨_, _, none⟩) hl).trans h.c.c1, (hb.cell (p := ⟨_, _, none⟩) hl).trans h.c.c2, (hb.cell (p := ⟨_, _, none⟩) hl).trans h.c.c3, (hb.cell (p := ⟨_, _, none⟩) hl).trans h.c.c4⟩,
    fun o => (hb.frozen (p := ⟨_, _, none⟩) hl).trans (h.f o), fun o ho => (hb.cell (p := ⟨_, _, none⟩) (by show W.heap.size + 1 < _; omega)).trans (h.z o ho), fun o => (hb.frozen (p := ⟨_, _, none⟩) (by show W.heap.size + 1 < _; omega)).trans (h.fz o), h.b.trans (hb.mono h.b.size)⟩
theorem ne_off {g a b : Nat} (h : a ≠ b) : (⟨g, a, none⟩ : Addr) ≠ ⟨g, b, none⟩ := fun e => h (by injection e)
theorem ne_blk {g g' a b : Nat} (h : g ≠ g') : (⟨g, a, none⟩ : Addr) ≠ ⟨g', b, none⟩ := fun e => h (by injection e)
theorem Bg.setM {W w : World} {num start : Int} {s : Bs} (h : Bg W w num start s) (v : Int) : Bg W (w.setCell ⟨W.heap.size + 1 + 1, 2, none⟩ (.int .i64 v)) num start { s with m := v, hm := true } :=
  ⟨⟨(other (ne_off (by decide))).trans h.c.c0, (other (ne_off (by decide))).trans h.c.c1, same h.c.c2, (other (ne_off (by decide))).trans h.c.c3, (other (ne_off (by decide))).trans h.c.c4⟩,
    fun o => (World.frozen?_setCell ..).trans (h.f o), fun o ho => (other (ne_blk (by omega))).trans (h.z o ho), fun o => (World.frozen?_setCell ..).trans (h.fz o), h.b.setCell (by show W.heap.size ≤ W.heap.size + 1 + 1; omega) _⟩
theorem Bg.setR {W w : World} {num start : Int} {s : Bs} (h : Bg W w num start s) (v : Int) : Bg W (w.setCell ⟨W.heap.size + 1 + 1, 3, none⟩ (.int .i64 v)) num start { s with r := v, hr := true } :=
  ⟨⟨(other (ne_off (by decide))).trans h.c.c0, (other (ne_off (by decide))).trans h.c.c1, (other (ne_off (by decide))).trans h.c.c2, same h.c.c3, (other (ne_off (by decide))).trans h.c.c4⟩,
    fun o => (World.frozen?_setCell ..).trans (h.f o), fun o ho => (other (ne_blk (by omega))).trans (h.z o ho), fun o => (World.frozen?_setCell ..).trans (h.fz o), h.b.setCell (by show W.heap.size ≤ W.heap.size + 1 + 1; omega) _⟩
theorem Bg.setF {W w : World} {num start : Int} {s : Bs} (h : Bg W w num start s) : Bg W (w.setCell ⟨W.heap.size + 1 + 1, 4, none⟩ (.int .i64 ((s.f : Int) + 1))) num start { s with f := s.f + 1 } :=
  ⟨⟨(other (ne_off (by decide))).trans h.c.c0, (other (ne_off (by decide))).trans h.c.c1, (other (ne_off (by decide))).trans h.c.c2, (other (ne_off (by decide))).trans h.c.c3, same h.c.c4⟩,
    fun o => (World.frozen?_setCell ..).trans (h.f o), fun o ho => (other (ne_blk (by omega))).trans (h.z o ho), fun o => (World.frozen?_setCell ..).trans (h.fz o), h.b.setCell (by show W.heap.size ≤ W.heap.size + 1 + 1; omega) _⟩
theorem frozen_beyond {w : World} {a : Addr} (h : w.heap.size ≤ a.block) : w.frozen? a = false := by
  unfold World.frozen?; rw [Array.getElem?_eq_none h]
theorem Bg.start (W : World) (c : Array Value) (t : TypeId) (num st : Int) : Bg W (((W.alloc (.cells c t)).alloc (.cells #[.int .i64 0, .int .i64 0, .int .i64 0, .int .i64 0, .int .i64 0] 32)).alloc (.cells #[.int .i64 num, .int .i64 st, .int .i64 (-1), .int .i64 (-1), .int .i64 0] 32)) num st bs0 := by
  have hs : W.heap.size + 1 + 1 = ((W.alloc (.cells c t)).alloc (.cells #[.int .i64 0, .int .i64 0, .int .i64 0, .int .i64 0, .int .i64 0] 32)).heap.size := by simp
  have hs1 : W.heap.size + 1 = (W.alloc (.cells c t)).heap.size := by simp
  refine ⟨⟨?_, ?_, ?_, ?_, ?_⟩, fun x => ?_, fun x hx => ?_, fun x => ?_, (((Below.refl _ _).alloc (Nat.le_refl _) _).alloc (by simp) _).alloc (by simp; omega) _⟩
  · rw [hs, World.cell?_alloc_new]; rfl
  · rw [hs, World.cell?_alloc_new]; rfl
  · rw [hs, World.cell?_alloc_new]; rfl
  · rw [hs, World.cell?_alloc_new]; rfl
  · rw [hs, World.cell?_alloc_new]; rfl
  · rw [frozen?_alloc_cells, frozen?_alloc_cells, frozen?_alloc_cells]; exact frozen_beyond (by show W.heap.size ≤ W.heap.size + 1 + 1; omega)
  · rw [World.cell?_alloc_old (h := by simp), hs1, World.cell?_alloc_new]
    match x, hx with
    | 0, _ => rfl
    | 1, _ => rfl
    | 2, _ => rfl
    | 3, _ => rfl
    | 4, _ => rfl
  · rw [frozen?_alloc_cells, frozen?_alloc_cells, frozen?_alloc_cells]; exact frozen_beyond (by show W.heap.size ≤ W.heap.size + 1; omega)

/-- The result's record, behind its store. -/
def finW (w : World) (g : Nat) (n st m r f : Int) : World := ((((w.setCell ⟨g, 0, none⟩ (.int .i64 n)).setCell ⟨g, 1, none⟩ (.int .i64 st)).setCell ⟨g, 2, none⟩ (.int .i64 m)).setCell ⟨g, 3, none⟩ (.int .i64 r)).setCell ⟨g, 4, none⟩ (.int .i64 f)
theorem cell_set {w : World} {a b : Addr} {u v : Value} (h : w.cell? b = some v) (hn : a ≠ b) : (w.setCell a u).cell? b = some v := (other hn).trans h
theorem fin_cells {w : World} {g : Nat} {n st m r f : Int} (h : ∀ o, o < 5 → w.cell? ⟨g, o, none⟩ = some (.int .i64 0)) : let w9 := finW w g n st m r f
    w9.cell? ⟨g, 0, none⟩ = some (.int .i64 n) ∧ w9.cell? ⟨g, 1, none⟩ = some (.int .i64 st) ∧ w9.cell? ⟨g, 2, none⟩ = some (.int .i64 m) ∧ w9.cell? ⟨g, 3, none⟩ = some (.int .i64 r) ∧ w9.cell? ⟨g, 4, none⟩ = some (.int .i64 f) := by
  intro w9
  have n01 : (⟨g, 1, none⟩ : Addr) ≠ ⟨g, 0, none⟩ := ne_off (by decide)
  have n02 : (⟨g, 2, none⟩ : Addr) ≠ ⟨g, 0, none⟩ := ne_off (by decide)
  have n03 : (⟨g, 3, none⟩ : Addr) ≠ ⟨g, 0, none⟩ := ne_off (by decide)
  have n04 : (⟨g, 4, none⟩ : Addr) ≠ ⟨g, 0, none⟩ := ne_off (by decide)
  have n12 : (⟨g, 2, none⟩ : Addr) ≠ ⟨g, 1, none⟩ := ne_off (by decide)
  have n13 : (⟨g, 3, none⟩ : Addr) ≠ ⟨g, 1, none⟩ := ne_off (by decide)
  have n14 : (⟨g, 4, none⟩ : Addr) ≠ ⟨g, 1, none⟩ := ne_off (by decide)
  have n23 : (⟨g, 3, none⟩ : Addr) ≠ ⟨g, 2, none⟩ := ne_off (by decide)
  have n24 : (⟨g, 4, none⟩ : Addr) ≠ ⟨g, 2, none⟩ := ne_off (by decide)
  have n34 : (⟨g, 4, none⟩ : Addr) ≠ ⟨g, 3, none⟩ := ne_off (by decide)
  refine ⟨cell_set (cell_set (cell_set (cell_set (same (h 0 (by decide))) n01) n02) n03) n04, cell_set (cell_set (cell_set (same (cell_set (h 1 (by decide)) n01.symm)) n12) n13) n14, cell_set (cell_set (same (cell_set (cell_set (h 2 (by decide)) n02.symm) n12.symm)) n23) n24,
    cell_set (same (cell_set (cell_set (cell_set (h 3 (by decide)) n03.symm) n13.symm) n23.symm)) n34, same (cell_set (cell_set (cell_set (cell_set (h 4 (by decide)) n04.symm) n14.symm) n24.symm) n34.symm)⟩
theorem fin_below {W w : World} {g : Nat} {n st m r f : Int} (h : Below W.heap.size W w) (hg : W.heap.size ≤ g) : Below W.heap.size W (finW w g n st m r f) := ((((h.setCell hg _).setCell hg _).setCell hg _).setCell hg _).setCell hg _

set_option maxRecDepth 100000 in
set_option maxHeartbeats 4000000 in
theorem begun_any (e : Ev) (p : Option Addr) (cap : Nat) (l : List Ev) (W : World) (h : EvAt W p l) (hl : l.length ≤ maxLen) :
    Calls Tryd.prog 17 #[e.agg, .slice p l.length cap] W fun x w' => x = .returned (cyc e l).agg ∧ Below W.heap.size W w' := by
  unfold maxLen at hl
  have HO := Lib.hid h
  clear h
  unfold Ev.agg
  have HG := Lib.hid (Bg.start W #[.int .i64 e.pick, .int .i64 e.who, .int .i64 e.kind, .int .i64 e.op, .int .i64 e.code, .int .i64 e.value] 44 e.value e.pick)
  go_enter Tryd.func17, Tryd.ntmps17
  go_wp2
  go_step3
  go_wp2
  go_step3
  go_wp2
  generalize World.alloc _ _ = w1 at *
  go_loopg [6, 7, 17] l.length (fun k mv rv iv wr => ∃ (i : Nat) (s : Bs), i + k = l.length ∧ mv = .bool s.hm ∧ rv = .bool s.hr ∧ iv = .int .i64 i ∧ s.f ≤ i ∧ beh s (l.drop i) = beh bs0 l ∧ Bg W wr e.value e.pick s)
  case atStart => exact ⟨0, bs0, by omega, rfl, rfl, rfl, Nat.le_refl _, rfl, HG.out⟩
  case round =>
    clear HG
    obtain ⟨i, s, hi, rfl, rfl, rfl, hf, hbe, hg⟩ := hrel
    have HB := Lib.hid hbe
    have HG := Lib.hid hg
    clear hbe hg
    have i0 : (0 : Int) ≤ (i : Int) := Int.natCast_nonneg _
    by_cases hlt : i < l.length
    · have i1 : (i : Int) < (l.length : Int) := by omega
      obtain ⟨b, off, rfl, c0, c1, c2, c3, c4, c5⟩ := (HO.out.later (l := l) HG.out.b) i hlt
      have HD := Lib.hid (drop_at hlt)
      generalize l.getD i ev0 = x at *
      obtain ⟨xp, xw, xk, xo, xc, xv⟩ := x
      simp only at c0 c1 c2 c3 c4 c5
      obtain ⟨w2, hw2⟩ : ∃ w2, wr.alloc (.cells #[.int .i64 xp, .int .i64 xw, .int .i64 xk, .int .i64 xo, .int .i64 xc, .int .i64 xv] 44) = w2 := ⟨_, rfl⟩
      have hb2 : Below wr.heap.size wr w2 := by rw [← hw2]; exact (Below.refl _ _).alloc (Nat.le_refl _) _
      have HG2 := Lib.hid (HG.out.later hb2)
      have q2 : w2.cell? ⟨wr.heap.size, 2, none⟩ = some (.int .i64 xk) := by rw [← hw2, World.cell?_alloc_new]; rfl
      have q0 : w2.cell? ⟨wr.heap.size, 0, none⟩ = some (.int .i64 xp) := by rw [← hw2, World.cell?_alloc_new]; rfl
      clear hb2
      have g2 := HG2.out.c.c2
      have g3 := HG2.out.c.c3
      have g4 := HG2.out.c.c4
      have z2 := HG2.out.f 2
      have z3 := HG2.out.f 3
      have z4 := HG2.out.f 4
      by_cases k2 : xk = 2
      · subst k2
        have g0 := HG2.out.c.c0
        have g1 := HG2.out.c.c1
        have r0 := HG2.out.z 0 (by decide)
        have r1 := HG2.out.z 1 (by decide)
        have r2 := HG2.out.z 2 (by decide)
        have r3 := HG2.out.z 3 (by decide)
        have r4 := HG2.out.z 4 (by decide)
        have y0 := HG2.out.fz 0
        have y1 := HG2.out.fz 1
        have y2 := HG2.out.fz 2
        have y3 := HG2.out.fz 3
        have y4 := HG2.out.fz 4
        go_wp2
        rw [Exit.noGoto_ret]
        have hfin := fin_cells (n := e.value) (st := e.pick) (m := s.m) (r := s.r) (f := s.f) HG2.out.z
        have hbel := fin_below (g := W.heap.size + 1) (n := e.value) (st := e.pick) (m := s.m) (r := s.r) (f := s.f) HG2.out.b (by omega)
        obtain ⟨w9, hw9⟩ : ∃ w9, finW w2 (W.heap.size + 1) e.value e.pick s.m s.r s.f = w9 := ⟨_, rfl⟩
        rw [hw9] at hfin hbel
        unfold finW at hw9
        rw [hw9]
        have hv : (cyOf e s).agg = (cyc e l).agg := by unfold cyc; rw [← HB.out, HD.out, beh_cons, if_pos rfl]
        obtain ⟨j0, j1, j2, j3, j4⟩ := hfin
        exact bodyPost_ret (v := (cyOf e s).agg) (by simp [results, Tryd.results17, go_sem, j0, j1, j2, j3, j4, cyOf, Cy.agg]) rfl ⟨congrArg Ending.returned hv, hbel⟩
      · have k2b : (xk == 2) = false := by simpa using k2
        have HK : Hid (beh s (List.drop i l) = beh (s.step ⟨xp, xw, xk, xo, xc, xv⟩) (List.drop (i + 1) l)) := Lib.hid (by rw [HD.out, beh_cons, if_neg (show ¬ xk = 2 from k2)])
        obtain ⟨m, r, f, hm, hr⟩ := s
        simp only at g2 g3 g4 hf
        have f1 : (f : Int) + 1 ≤ 9223372036854775807 := by omega
        have HST : Hid (∀ s' w', Bs.step ⟨m, r, f, hm, hr⟩ ⟨xp, xw, xk, xo, xc, xv⟩ = s' → s'.f ≤ i + 1 → Bg W w' e.value e.pick s' → ∀ mv rv iv : Value, mv = .bool s'.hm → rv = .bool s'.hr → iv = .int .i64 ((i : Int) + 1) →
            ∃ (i : Nat) (s : Bs), i + (gk - 1) = l.length ∧ mv = .bool s.hm ∧ rv = .bool s.hr ∧ iv = .int .i64 i ∧ s.f ≤ i ∧ beh s (l.drop i) = beh bs0 l ∧ Bg W w' e.value e.pick s) :=
          Lib.hid fun s' w' h1 h2 h3 mv rv iv h4 h5 h6 => ⟨i + 1, s', by omega, h4, h5, by rw [h6]; rfl, h2, by rw [← HB.out, HK.out, h1], h3⟩
        by_cases k3 : xk = 3
        · subst k3
          cases hm with
          | false =>
            go_wp2
            go_roundg (gk - 1)
            case rel => exact HST.out ⟨xp, r, f, true, hr⟩ _ (by simp [Bs.step]) (by simp only; omega) (HG2.out.setM xp) _ _ _ rfl rfl (by go_num)
            case measure => omega
          | true =>
            go_wp2
            go_roundg (gk - 1)
            case rel => exact HST.out ⟨m, r, f, true, hr⟩ _ (by simp [Bs.step]) (by simp only; omega) (HG2.out) _ _ _ rfl rfl (by go_num)
            case measure => omega
        have k3b : (xk == 3) = false := by simpa using k3
        by_cases k4 : xk = 4
        · subst k4
          cases hr with
          | false =>
            go_wp2
            go_roundg (gk - 1)
            case rel => exact HST.out ⟨m, xp, f, hm, true⟩ _ (by simp [Bs.step]) (by simp only; omega) (HG2.out.setR xp) _ _ _ rfl rfl (by go_num)
            case measure => omega
          | true =>
            go_wp2
            go_roundg (gk - 1)
            case rel => exact HST.out ⟨m, r, f, hm, true⟩ _ (by simp [Bs.step]) (by simp only; omega) (HG2.out) _ _ _ rfl rfl (by go_num)
            case measure => omega
        have k4b : (xk == 4) = false := by simpa using k4
        by_cases k5 : xk = 5
        · subst k5
          cases hr with
          | false =>
            go_wp2
            go_roundg (gk - 1)
            case rel => exact HST.out ⟨m, r, f + 1, hm, false⟩ _ (by simp [Bs.step]) (by simp only; omega) (HG2.out.setF) _ _ _ rfl rfl (by go_num)
            case measure => omega
          | true =>
            go_wp2
            go_roundg (gk - 1)
            case rel => exact HST.out ⟨m, r, f, hm, true⟩ _ (by simp [Bs.step]) (by simp only; omega) (HG2.out) _ _ _ rfl rfl (by go_num)
            case measure => omega
        have k5b : (xk == 5) = false := by simpa using k5
        go_wp2
        go_roundg (gk - 1)
        case rel => exact HST.out ⟨m, r, f, hm, hr⟩ _ (by simp [Bs.step, k3, k4, k5]) (by simp only; omega) (HG2.out) _ _ _ rfl rfl (by go_num)
        case measure => omega
    · obtain rfl : i = l.length := by omega
      have g0 := HG.out.c.c0
      have g1 := HG.out.c.c1
      have g2 := HG.out.c.c2
      have g3 := HG.out.c.c3
      have g4 := HG.out.c.c4
      have r0 := HG.out.z 0 (by decide)
      have r1 := HG.out.z 1 (by decide)
      have r2 := HG.out.z 2 (by decide)
      have r3 := HG.out.z 3 (by decide)
      have r4 := HG.out.z 4 (by decide)
      have y0 := HG.out.fz 0
      have y1 := HG.out.fz 1
      have y2 := HG.out.fz 2
      have y3 := HG.out.fz 3
      have y4 := HG.out.fz 4
      go_wp2
      rw [Exit.noGoto_ret]
      have hfin := fin_cells (n := e.value) (st := e.pick) (m := s.m) (r := s.r) (f := s.f) HG.out.z
      have hbel := fin_below (g := W.heap.size + 1) (n := e.value) (st := e.pick) (m := s.m) (r := s.r) (f := s.f) HG.out.b (by omega)
      obtain ⟨w9, hw9⟩ : ∃ w9, finW wr (W.heap.size + 1) e.value e.pick s.m s.r s.f = w9 := ⟨_, rfl⟩
      rw [hw9] at hfin hbel
      unfold finW at hw9
      rw [hw9]
      have hv : (cyOf e s).agg = (cyc e l).agg := by unfold cyc; rw [← HB.out, List.drop_length, show beh s [] = s from rfl]
      obtain ⟨j0, j1, j2, j3, j4⟩ := hfin
      exact bodyPost_ret (v := (cyOf e s).agg) (by simp [results, Tryd.results17, go_sem, j0, j1, j2, j3, j4, cyOf, Cy.agg]) rfl ⟨congrArg Ending.returned hv, hbel⟩
end Go.Proofs.YtodfkklkgcoddaaDoor.Ss
