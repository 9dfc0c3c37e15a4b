/-
  The collector's requests: await, ask, tell, begin.
-/
import Derived.Test.YthpgnlcmpoldfaaGreatDoorMuH
import Derived.Test.YthpgnlcmpoldfaaGreatDoorBrdB
namespace Go.Proofs.YthpgnlcmpoldfaaGreatDoor.Mu
open Go.RowKit
open Brd (BdIs allB)
open Go.Proofs.YthpgnlcmpoldfaaGreatDoor.Row (Chg rowB rowB_none other same owns_chg)
open Class (quiet_left)

/-- The closure that awaits: of a collector, a mutator, what comes then. -/
def AwV (w : World) (base K : Nat) (m : Int) (t v : Value) : Prop := ∃ a b c, v = .func (.func 175) #[] #[.pointer (some ⟨a, 0, none⟩), .pointer (some ⟨b, 0, none⟩), .pointer (some ⟨c, 0, none⟩)] ∧ base ≤ a ∧ base ≤ b ∧ base ≤ c ∧
  w.cell? ⟨a, 0, none⟩ = some (.pointer (some ⟨K, 0, none⟩)) ∧ w.cell? ⟨b, 0, none⟩ = some (.int .i64 m) ∧ w.cell? ⟨c, 0, none⟩ = some t
theorem AwV.isF {w : World} {base K : Nat} {m : Int} {t v : Value} (h : AwV w base K m t v) : isF v := by
  obtain ⟨a, b, c, rfl, _⟩ := h
  exact ⟨_, _, rfl⟩
theorem AwV.chg {S : Nat → Prop} {w w' : World} {base K : Nat} {m : Int} {t v : Value} (h : AwV w base K m t v) (hc : Chg S w w') (hS : ∀ k, S k → k < base) : AwV w' base K m t v := by
  obtain ⟨a, b, c, e, ha, hb, hd, c1, c2, c3⟩ := h
  exact ⟨a, b, c, e, ha, hb, hd, (hc.cell (p := ⟨a, 0, none⟩) (lt_of_cell c1) (fun e => by have := hS _ e; simp only at this; omega)).trans c1, (hc.cell (p := ⟨b, 0, none⟩) (lt_of_cell c2) (fun e => by have := hS _ e; simp only at this; omega)).trans c2, (hc.cell (p := ⟨c, 0, none⟩) (lt_of_cell c3) (fun e => by have := hS _ e; simp only at this; omega)).trans c3⟩
theorem await_any (K : Nat) (m : Int) (f : Fn) (pre cap : Array Value) (w : World) : Calls Tryz.prog 133 #[.pointer (some ⟨K, 0, none⟩), .int .i64 m, .func f pre cap] w fun e w' => ∃ v, e = .returned v ∧ AwV w' w.heap.size K m (.func f pre cap) v ∧ Below w.heap.size w w' := by
  go_enter Tryz.func133, Tryz.ntmps133
  go_wp2_with fail
  go_ret
  obtain ⟨w1, hw1⟩ : ∃ w1, w.alloc (.cells #[.pointer (some ⟨K, 0, none⟩)] 61) = w1 := ⟨_, rfl⟩
  have z1 : w1.heap.size = w.heap.size + 1 := by rw [← hw1, World.size_alloc]
  have k1 : w1.cell? ⟨w.heap.size, 0, none⟩ = some (.pointer (some ⟨K, 0, none⟩)) := by rw [← hw1, World.cell?_alloc_new]; rfl
  have B1 : Below w.heap.size w w1 := by rw [← hw1]; exact (Below.refl _ _).alloc (Nat.le_refl _) _
  rw [hw1]
  obtain ⟨w2, hw2⟩ : ∃ w2, w1.alloc (.cells #[.int .i64 m] 3) = w2 := ⟨_, rfl⟩
  have z2 : w2.heap.size = w1.heap.size + 1 := by rw [← hw2, World.size_alloc]
  have k2 : w2.cell? ⟨w1.heap.size, 0, none⟩ = some (.int .i64 m) := by rw [← hw2, World.cell?_alloc_new]; rfl
  have B2 : Below w1.heap.size w1 w2 := by rw [← hw2]; exact (Below.refl _ _).alloc (Nat.le_refl _) _
  rw [hw2]
  obtain ⟨w3, hw3⟩ : ∃ w3, w2.alloc (.cells #[.func f pre cap] 104) = w3 := ⟨_, rfl⟩
  have k3 : w3.cell? ⟨w2.heap.size, 0, none⟩ = some (.func f pre cap) := by rw [← hw3, World.cell?_alloc_new]; rfl
  have B3 : Below w2.heap.size w2 w3 := by rw [← hw3]; exact (Below.refl _ _).alloc (Nat.le_refl _) _
  rw [hw3]
  have B13 : Below w1.heap.size w1 w3 := B2.trans (B3.mono B2.size)
  refine ⟨_, rfl, ⟨w.heap.size, w.heap.size + 1, w.heap.size + 1 + 1, rfl, by omega, by omega, by omega, (B13.cell (p := ⟨w.heap.size, 0, none⟩) (lt_of_cell k1)).trans k1, ?_, ?_⟩, B1.trans (B13.mono B1.size)⟩
  · rw [← z1]
    exact (B3.cell (p := ⟨w1.heap.size, 0, none⟩) (lt_of_cell k2)).trans k2
  · rw [← z1, ← z2]
    exact k3
theorem tell_any {y : Sy} {T : Nat → Prop} {s : Sd} {n nb K G M : Nat} {x : Cd} (kind value : Int) (w : World) (hs : ShIs w y T s n nb) (hm : s.s.c.m = (M : Int)) (h : CoIs w K y.S G x) : Calls Tryz.prog 99 #[.pointer (some ⟨K, 0, none⟩), .int .i64 kind, .int .i64 value] w fun e w' => e = .returned (.tuple #[]) ∧ CoIs w' K y.S G { x with ev := fun i => if i = 1 then (M : Int) else if i = 2 then kind else if i = 5 then value else 0 } ∧ Chg (fun k => k = K) w w' := by
  have HCF := Lib.hid (Hp.config_any w hs.hp)
  rw [hm] at HCF
  have H := Lib.hid h
  have hfB := fieldB_cfg
  have c0 := h.c0
  have s0 := hs.c0
  have hl := h.lt
  have hl2 := hs.ltS
  clear hs hm h
  go_enter Tryz.func99, Tryz.ntmps99
  go_wp2_with (go_at_call 58; refine HCF.out.mono ?_; rintro e w2 ⟨rfl, hb2⟩; have hc2 : CoIs w2 K y.S G x := H.out.later hb2; have HC2 := Lib.hid hc2; have HB2 := Lib.hid hb2; have hl2 := hc2.lt; have e0 := hc2.ce 0 (by omega); have e1 := hc2.ce 1 (by omega); have e2 := hc2.ce 2 (by omega); have e3 := hc2.ce 3 (by omega); have e4 := hc2.ce 4 (by omega); have e5 := hc2.ce 5 (by omega); have f0 := hc2.fz 7; have f1 := hc2.fz 8; have f2 := hc2.fz 9; have f3 := hc2.fz 10; have f4 := hc2.fz 11; have f5 := hc2.fz 12; clear hb2 hc2)
  have HF : Hid (CoIs ((((((w2.setCell ⟨K, 7, none⟩ (.int .i64 0)).setCell ⟨K, 8, none⟩ (.int .i64 M)).setCell ⟨K, 9, none⟩ (.int .i64 kind)).setCell ⟨K, 10, none⟩ (.int .i64 0)).setCell ⟨K, 11, none⟩ (.int .i64 0)).setCell ⟨K, 12, none⟩ (.int .i64 value)) K y.S G { x with ev := fun i => if i = 1 then (M : Int) else if i = 2 then kind else if i = 5 then value else 0 }) :=
    Lib.hid (CoIs.of (((((((HC2.out.cells.set 7 _).set 8 _).set 9 _).set 10 _).set 11 _).set 12 _)) rfl (fun o => by simp only [World.frozen?_setCell]; exact HC2.out.fz o))
  have hbc : Chg (fun k => k = K) w w2 := Chg.mono (Chg.of_below (S := fun _ => False) HB2.out) (fun _ e => e.elim)
  exact bodyPost_end (results_none rfl _ _ _) rfl ⟨rfl, HF.out, ((((((hbc.set (p := ⟨K, 7, none⟩) (.inl rfl) _).set (p := ⟨K, 8, none⟩) (.inl rfl) _).set (p := ⟨K, 9, none⟩) (.inl rfl) _).set (p := ⟨K, 10, none⟩) (.inl rfl) _).set (p := ⟨K, 11, none⟩) (.inl rfl) _).set (p := ⟨K, 12, none⟩) (.inl rfl) _)⟩
/-- The board turned. -/
theorem ShIs.board {w w' : World} {y : Sy} {T : Nat → Prop} {x : Sd} {n nb : Nat} (h : ShIs w y T x n nb) (hc : Chg (fun k => k = y.B) w w') {kind count : Int} {ow : Nat → Bool} (hb : BdIs w' y.B y.B n kind count ow) : ShIs w' y T { x with kind := kind, count := count, ow := ow } n nb :=
  have hB : ownS y nb y.B := .inr (.inl rfl)
  have hS : y.S ≠ y.B := fun e => h.nS (e ▸ hB)
  { h with
    c0 := (hc.cell (p := ⟨y.S, 0, none⟩) h.ltS hS).trans h.c0
    c1 := (hc.cell (p := ⟨y.S, 1, none⟩) h.ltS hS).trans h.c1
    c2 := (hc.cell (p := ⟨y.S, 2, none⟩) h.ltS hS).trans h.c2
    c3 := (hc.cell (p := ⟨y.S, 3, none⟩) h.ltS hS).trans h.c3
    c4 := (hc.cell (p := ⟨y.S, 4, none⟩) h.ltS hS).trans h.c4
    hp := h.hp.chg hc (fun k hk e => h.dHB (e ▸ hk))
    bd := hb
    qu := h.qu.chg hc (fun k hk e => (h.dHQ k hk).2.1 e)
    fl := (hc.cell (p := ⟨y.F, 0, none⟩) (show y.F < _ from lt_of_cell h.fl) h.dF.2).trans h.fl
    ff := (hc.frozen (p := ⟨y.F, 0, none⟩) (show y.F < _ from lt_of_cell h.fl) h.dF.2).trans h.ff
    bx := fun i hi => (h.bx i hi).chg hc (fun k hk => hk ▸ h.hT _ hB) (h.dX i hi).2.1
    pr := fun i hi => by
      obtain ⟨b, off, e, hcl⟩ := h.pr i hi
      exact ⟨b, off, e, (hc.cell (p := ⟨b, off + i, none⟩) (show b < _ from lt_of_cell hcl) (fun e2 => h.nP b (by rw [e]; rfl) (by rw [show b = y.B from e2]; exact hB))).trans hcl⟩
    tl := fun k hk => Nat.lt_of_lt_of_le (h.tl k hk) hc.size }
/-- Blocks of a collector, beside what is shared. -/
def Ap (y : Sy) (T : Nat → Prop) (nb K : Nat) : Prop := T K ∧ ¬ ownS y nb K ∧ K ≠ y.S ∧ ¬ rowB y.px K
/-- A request, and the step that awaits its answers. -/
theorem ask_any {y : Sy} {T : Nat → Prop} {s : Sd} {n nb K G : Nat} {x : Cd} (p : Int) (f : Fn) (pre cap : Array Value) (w : World) (hs : ShIs w y T s n nb) (h : CoIs w K y.S G x) (hK : Ap y T nb K) (hall : allB n s.ow = true) (hc0 : 0 ≤ s.count) (hc1 : s.count ≤ 1000000) :
    Calls Tryz.prog 100 #[.pointer (some ⟨K, 0, none⟩), .int .i64 p, .func f pre cap] w fun e w' => ∃ v, e = .returned v ∧ AwV w' w.heap.size K 0 (.func f pre cap) v ∧ ShIs w' y T { s with kind := p, count := s.count + 1, ow := fun m => decide (m < n) || s.ow m } n nb ∧ CoIs w' K y.S G { x with ph := p } ∧ Chg (fun k => k = K ∨ k = y.B) w w' := by
  have hKB : K ≠ y.B := fun e => hK.2.1 (.inr (.inl e))
  have hch : Chg (fun k => k = K) w (w.setCell ⟨K, 1, none⟩ (.int .i64 p)) := (Chg.refl (fun k => k = K) w).set (p := ⟨K, 1, none⟩) (.inl rfl) _
  have hs1 := hs.chg hch (fun k hk => hk ▸ hK.1) (fun k hk => hk ▸ hK.2)
  have h1 : CoIs (w.setCell ⟨K, 1, none⟩ (.int .i64 p)) K y.S G { x with ph := p } := CoIs.of (h.cells.set 1 _) rfl (fun o => by rw [World.frozen?_setCell]; exact h.fz o)
  have HA := Lib.hid (Brd.ask_yes p _ hs1.bd hall hc0 hc1)
  have HS1 := Lib.hid hs1
  have H1 := Lib.hid h1
  have HCH := Lib.hid hch
  have HKB := Lib.hid hKB
  have hz : (w.setCell ⟨K, 1, none⟩ (.int .i64 p)).heap.size = w.heap.size := by simp
  have HZ := Lib.hid hz
  have c0 := h.c0
  have c1 := h.c1
  have f1 := h.fz 1
  have s1 := hs.c1
  have hl := h.lt
  have hl2 := hs.ltS
  have hne := hK.2.2.1
  have HAW := Lib.hid (fun V => await_any K 0 f pre cap V)
  clear hs h hK hall hc0 hc1 hKB hch hs1 h1 hz
  go_enter Tryz.func100, Tryz.ntmps100
  go_wp2_with (go_at_call 132; fail)
  refine HA.out.mono ?_
  rintro e w2 ⟨rfl, hb2, hc2⟩
  have HB2 := Lib.hid hb2
  have HC2 := Lib.hid hc2
  clear hb2 hc2 HA c0 c1 f1 s1 hl hl2 hne
  go_wp2_with (go_at_call 133; fail)
  refine (HAW.out w2).mono ?_
  rintro e w3 ⟨v, rfl, hv, hb3⟩
  have HV := Lib.hid hv
  have HB3 := Lib.hid hb3
  clear hv hb3 HAW
  go_wp2_with fail
  go_ret
  have hz2 : w.heap.size ≤ w2.heap.size := by have := HC2.out.size; rw [HZ.out] at this; exact this
  refine ⟨v, rfl, ?_, (HS1.out.board HC2.out HB2.out).later HB3.out, (H1.out.chg HC2.out HKB.out).later HB3.out, ?_⟩
  · obtain ⟨a, b, c, e, h1, h2, h3, h4⟩ := HV.out
    exact ⟨a, b, c, e, by omega, by omega, by omega, h4⟩
  · have h2 := (HCH.out.mono (T := fun k => k = K ∨ k = y.B) (fun k hk => .inl hk)).trans HC2.out (fun k hk => .inl (.inr hk))
    exact h2.trans (Chg.of_below (S := fun _ => False) HB3.out) (fun k e => e.elim)
/-- What a collector holds once a cycle has begun. -/
def cdB (x : Cd) (M : Nat) : Cd := { x with wi := false, cy := x.cy + 1, co := 1 - x.co, ph := 1, ev := fun i => if i = 1 then (M : Int) else if i = 2 then 2 else if i = 5 then x.cy + 1 else 0 }
/-- begin: a cycle begins. -/
theorem begin_any {y : Sy} {T : Nat → Prop} {s : Sd} {n nb K G M : Nat} {x : Cd} (w : World) (hs : ShIs w y T s n nb) (h : CoIs w K y.S G x) (hK : Ap y T nb K) (hm : s.s.c.m = (M : Int)) (hall : allB n s.ow = true) (hc0 : 0 ≤ s.count) (hc1 : s.count ≤ 1000000) (hy0 : 0 ≤ x.cy) (hy1 : x.cy ≤ 1000000) (hco : x.co = 0 ∨ x.co = 1) :
    Calls Tryz.prog 71 #[.pointer (some ⟨K, 0, none⟩)] w fun e w' => ∃ v, e = .returned v ∧ AwV w' w.heap.size K 0 (.func (.func 101) #[.pointer (some ⟨K, 0, none⟩)] #[]) v ∧ ShIs w' y T { s with kind := 1, count := s.count + 1, ow := fun m => decide (m < n) || s.ow m } n nb ∧ CoIs w' K y.S G (cdB x M) ∧ Chg (fun k => k = K ∨ k = y.B) w w' := by
  have hch : Chg (fun k => k = K) w (((w.setCell ⟨K, 4, none⟩ (.bool false)).setCell ⟨K, 3, none⟩ (.int .i64 (x.cy + 1))).setCell ⟨K, 2, none⟩ (.int .i64 (1 - x.co))) := ((((Chg.refl (fun k => k = K) w).set (p := ⟨K, 4, none⟩) (.inl rfl) _).set (p := ⟨K, 3, none⟩) (.inl rfl) _).set (p := ⟨K, 2, none⟩) (.inl rfl) _)
  have hs1 : ShIs (((w.setCell ⟨K, 4, none⟩ (.bool false)).setCell ⟨K, 3, none⟩ (.int .i64 (x.cy + 1))).setCell ⟨K, 2, none⟩ (.int .i64 (1 - x.co))) y T s n nb := hs.chg hch (fun k hk => hk ▸ hK.1) (fun k hk => hk ▸ hK.2)
  have h1 : CoIs (((w.setCell ⟨K, 4, none⟩ (.bool false)).setCell ⟨K, 3, none⟩ (.int .i64 (x.cy + 1))).setCell ⟨K, 2, none⟩ (.int .i64 (1 - x.co))) K y.S G { x with wi := false, cy := x.cy + 1, co := 1 - x.co } := CoIs.of (((h.cells.set 4 _).set 3 _).set 2 _) rfl (fun o => by simp only [World.frozen?_setCell]; exact h.fz o)
  have HT := Lib.hid (tell_any 2 (x.cy + 1) _ hs1 hm h1)
  have HS1 := Lib.hid hs1
  have HCH := Lib.hid hch
  have HK := Lib.hid hK
  have HZ : Hid ((((w.setCell ⟨K, 4, none⟩ (.bool false)).setCell ⟨K, 3, none⟩ (.int .i64 (x.cy + 1))).setCell ⟨K, 2, none⟩ (.int .i64 (1 - x.co))).heap.size = w.heap.size) := Lib.hid (by simp)
  have HA := Lib.hid (fun (V : World) (x' : Cd) (f : Fn) (pre cap : Array Value) (a : ShIs V y T s n nb) (b : CoIs V K y.S G x') => ask_any 1 f pre cap V a b hK hall hc0 hc1)
  have c2 := h.c2
  have c3 := h.c3
  have c4 := h.c4
  have f2 := h.fz 2
  have f3 := h.fz 3
  have f4 := h.fz 4
  have hl := h.lt
  have o0 : 0 ≤ 1 - x.co := by omega
  have o1 : 1 - x.co ≤ 1 := by omega
  clear hs h hK hm hall hc0 hc1 hch hs1 h1 hco
  go_enter Tryz.func71, Tryz.ntmps71
  go_wp2_with (go_at_call 99; fail)
  refine HT.out.mono ?_
  rintro e w2 ⟨rfl, h2, hc2⟩
  have H2 := Lib.hid h2
  have HC2 := Lib.hid hc2
  have HS2 := Lib.hid (HS1.out.chg hc2 (fun k hk => hk ▸ HK.out.1) (fun k hk => hk ▸ HK.out.2))
  clear h2 hc2 HT c2 c3 c4 f2 f3 f4 hl o0 o1
  go_wp2_with (go_at_call 100; fail)
  refine (HA.out w2 _ _ _ _ HS2.out H2.out).mono ?_
  rintro e w3 ⟨v, rfl, hv, hs3, h3, hc3⟩
  have HV := Lib.hid hv
  have HS3 := Lib.hid hs3
  have H3 := Lib.hid h3
  have HC3 := Lib.hid hc3
  clear hv hs3 h3 hc3 HA
  go_wp2_with fail
  go_ret
  have hz2 : w.heap.size ≤ w2.heap.size := by have := HC2.out.size; rw [HZ.out] at this; exact this
  have h12 : Chg (fun k => k = K) w w2 := HCH.out.trans HC2.out (fun k e => .inl e)
  refine ⟨v, rfl, ?_, HS3.out, H3.out, (h12.mono (T := fun k => k = K ∨ k = y.B) (fun k hk => .inl hk)).trans HC3.out (fun k hk => .inl hk)⟩
  obtain ⟨a, b, c, e, h1, h2, h3, h4⟩ := HV.out
  exact ⟨a, b, c, e, by omega, by omega, by omega, h4⟩
end Go.Proofs.YthpgnlcmpoldfaaGreatDoor.Mu
