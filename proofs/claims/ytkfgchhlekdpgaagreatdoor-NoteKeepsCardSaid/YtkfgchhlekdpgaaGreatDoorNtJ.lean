/-
  The law's parts of a case.
-/
import Derived.Test.YtkfgchhlekdpgaaGreatDoorNtI
import Derived.Deep.RegionHeld3
namespace Go.Proofs.YtkfgchhlekdpgaaGreatDoor.Nt
open Go.RowKit
open Hp (Ids St Is To Mine bnI coE coV colB objL st0)
open Lg (BfIs BxIs)
open Blk (Cfg little little_any little_right BytesP)
open Sw (ThingsP madeS MadeP Mad)
open Go.Proofs.YtkfgchhlekdpgaaGreatDoor.Row (Chg rowB Rd Rd0 cellsZ owns_lt owns_chg)
open Go.Proofs.YtkfgchhlekdpgaaGreatDoor.Addr (Tabs)

/-- A case that came in. -/
structure Cs where
  c : Cfg
  pt : Option Addr
  ct : Nat
  l : List (Nat × Nat × Bool)
  pb : Option Addr
  cb : Nat
  bl : List Nat
  px : Option Addr
  cx : Nat
  xl : List Nat
  room : Nat
  up : Bool
/-- It lies below S. -/
structure CsP (S : Nat) (w : World) (q : Cs) : Prop where
  l : ThingsP S w q.pt q.l
  ll : q.l.length ≤ maxLen
  b : BytesP S w q.pb q.bl
  bll : q.bl.length ≤ maxLen
  x : BytesP S w q.px q.xl
  xll : q.xl.length ≤ maxLen
  r : q.room < 256
theorem CsP.below {S : Nat} {w w' : World} {q : Cs} (h : CsP S w q) (hb : Below S w w') : CsP S w' q := ⟨h.l.below hb, h.ll, h.b.below hb, h.bll, h.x.below hb, h.xll, h.r⟩
def gB (q : Cs) : Bool := decide (30 < q.l.length) || (decide (40 < q.bl.length) || decide (40 < q.xl.length))
set_option maxRecDepth 100000 in
set_option maxHeartbeats 2000000 in
theorem great_any (q : Cs) (w : World) : Calls Tryz.prog 11 #[(.agg #[.int .i64 q.c.b, .int .i64 q.c.wd, .int .i64 q.c.m, .int .i64 q.c.r, .int .i64 q.c.ce, .int .i64 q.c.lg, .int .i64 q.c.st, .slice q.pt q.l.length q.ct, .slice q.pb q.bl.length q.cb, .slice q.px q.xl.length q.cx, .int .u8 q.room, .bool q.up])] w fun e w' => e = .returned (.bool (gB q)) ∧ Below w.heap.size w w' := by
  have hA : Below w.heap.size w (w.alloc (.cells #[.int .i64 q.c.b, .int .i64 q.c.wd, .int .i64 q.c.m, .int .i64 q.c.r, .int .i64 q.c.ce, .int .i64 q.c.lg, .int .i64 q.c.st, .slice q.pt q.l.length q.ct, .slice q.pb q.bl.length q.cb, .slice q.px q.xl.length q.cx, .int .u8 q.room, .bool q.up] 27)) := (Below.refl _ _).alloc (Nat.le_refl _) _
  have HA := Lib.hid hA
  clear hA
  unfold gB
  by_cases h1 : 30 < q.l.length
  · have a1 : (30 : Int) < (q.l.length : Int) := by omega
    have e : (decide (30 < q.l.length) || (decide (40 < q.bl.length) || decide (40 < q.xl.length))) = true := by simp [h1]
    rw [e]
    clear e h1
    generalize q.l.length = n1 at *
    go_enter Tryz.func11, Tryz.ntmps11
    go_wp2_with fail
    go_ret
    exact ⟨rfl, HA.out⟩
  · have a1 : decide ((30 : Int) < (q.l.length : Int)) = false := decide_eq_false (by omega)
    by_cases h2 : 40 < q.bl.length
    · have a2 : (40 : Int) < (q.bl.length : Int) := by omega
      have e : (decide (30 < q.l.length) || (decide (40 < q.bl.length) || decide (40 < q.xl.length))) = true := by simp [h2]
      rw [e]
      clear e h1 h2
      generalize q.l.length = n1 at *
      generalize q.bl.length = n2 at *
      go_enter Tryz.func11, Tryz.ntmps11
      go_wp2_with fail
      go_ret
      exact ⟨rfl, HA.out⟩
    · have a2 : decide ((40 : Int) < (q.bl.length : Int)) = false := decide_eq_false (by omega)
      by_cases h3 : 40 < q.xl.length
      · have a3 : decide ((40 : Int) < (q.xl.length : Int)) = true := decide_eq_true (by omega)
        have e : (decide (30 < q.l.length) || (decide (40 < q.bl.length) || decide (40 < q.xl.length))) = true := by simp [h3]
        rw [e]
        clear e h1 h2 h3
        generalize q.l.length = n1 at *
        generalize q.bl.length = n2 at *
        generalize q.xl.length = n3 at *
        go_enter Tryz.func11, Tryz.ntmps11
        go_wp2_with fail
        go_ret
        exact ⟨rfl, HA.out⟩
      · have a3 : decide ((40 : Int) < (q.xl.length : Int)) = false := decide_eq_false (by omega)
        have e : (decide (30 < q.l.length) || (decide (40 < q.bl.length) || decide (40 < q.xl.length))) = false := by simp [h1, h2, h3]
        rw [e]
        clear e h1 h2 h3
        generalize q.l.length = n1 at *
        generalize q.bl.length = n2 at *
        generalize q.xl.length = n3 at *
        go_enter Tryz.func11, Tryz.ntmps11
        go_wp2_with fail
        go_ret
        exact ⟨rfl, HA.out⟩
/-- What is added, as far as there is room. -/
def addL (room : Nat) (acc : List Int) (v : Int) : List Int := if acc.length < room then acc ++ [v] else acc
def pkV (al : List Int) (z : Nat) : Int := al.getD (z % al.length) 0
def addsL (room : Nat) (al : List Int) (zs : List Nat) : List Int := if al = [] then [] else zs.foldl (fun acc z => addL room acc (pkV al z)) []
theorem addL_le {room : Nat} {acc : List Int} {v : Int} (h : acc.length ≤ room) : (addL room acc v).length ≤ room := by
  unfold addL
  split
  · simp; omega
  · exact h
/-- Two buffers and a box beside a heap. -/
structure Pq (V0 wr : World) (T : Nat → Prop) (H : Nat) (d : Ids) (s : St) (m B O X room : Nat) (xs os ys : List Int) : Prop where
  is : Is wr H d s m
  b : BfIs T wr B room xs
  o : BfIs T wr O 256 os
  x : BxIs T wr X ys
  tl : ∀ k, T k → k < wr.heap.size
  tm : ∀ k, Mine H d k → T k
  ne : X ≠ B ∧ O ≠ B ∧ O ≠ X
  nm : ¬ Mine H d B ∧ ¬ Mine H d X ∧ ¬ Mine H d O
  bel : Below V0.heap.size V0 wr
  ge : (∀ k, Mine H d k → V0.heap.size ≤ k) ∧ V0.heap.size ≤ B ∧ V0.heap.size ≤ X ∧ V0.heap.size ≤ O
section
variable {V0 wr w' : World} {T : Nat → Prop} {H : Nat} {d : Ids} {s : St} {m B O X room : Nat} {xs os ys : List Int}
theorem Pq.later (h : Pq V0 wr T H d s m B O X room xs os ys) (hb : Below wr.heap.size wr w') : Pq V0 w' T H d s m B O X room xs os ys :=
  ⟨h.is.later hb, h.b.later hb, h.o.later hb, h.x.later hb, fun k hk => Nat.lt_of_lt_of_le (h.tl k hk) hb.size, h.tm, h.ne, h.nm, h.bel.trans (hb.mono h.bel.size), h.ge⟩
theorem add_two (v : Int) {room : Nat} {xs : List Int} (h : BfIs T wr B room xs) (tl : ∀ k, T k → k < wr.heap.size) : Calls Tryz.prog 69 #[.pointer (some ⟨B, 0, none⟩), .int .i64 v] wr fun e w' => ∃ bo, e = .returned (.bool bo) ∧ BfIs T w' B room (addL room xs v) ∧ Chg (fun k => k = B) wr w' := by
  rcases Nat.lt_or_eq_of_le h.len with hl | hl
  · refine (Lg.add_good v wr h tl hl).mono ?_
    rintro e w' ⟨rfl, h1, h2⟩
    exact ⟨_, rfl, by unfold addL; rw [if_pos hl]; exact h1, h2⟩
  · refine (Lg.add_full v wr h hl).mono ?_
    rintro e w' ⟨rfl, q, rfl⟩
    exact ⟨_, rfl, by unfold addL; rw [if_neg (by omega)]; exact h.later (below_drewN (Below.refl _ _) q), (Chg.refl _ wr).drewN q⟩
theorem Pq.addB (h : Pq V0 wr T H d s m B O X room xs os ys) (v : Int) : Calls Tryz.prog 69 #[.pointer (some ⟨B, 0, none⟩), .int .i64 v] wr fun e w' => ∃ bo, e = .returned (.bool bo) ∧ Pq V0 w' T H d s m B O X room (addL room xs v) os ys ∧ Chg (fun k => k = B) wr w' := by
  refine (add_two v h.b h.tl).mono ?_
  rintro e w' ⟨bo, rfl, h1, h2⟩
  exact ⟨bo, rfl, ⟨h.is.chg h2 (fun k hk e => by subst e; exact h.nm.1 hk), h1, h.o.chg h2 (fun k hk => by subst hk; exact h.b.tb) h.ne.2.1, h.x.chg h2 (fun k hk => by subst hk; exact h.b.tb) h.ne.1, fun k hk => Nat.lt_of_lt_of_le (h.tl k hk) h2.size, h.tm, h.ne, h.nm, h.bel.trans (h2.below (fun k hk => by subst hk; exact h.ge.2.1) h.bel.size), h.ge⟩, h2⟩
theorem Pq.addO (h : Pq V0 wr T H d s m B O X room xs os ys) (v : Int) : Calls Tryz.prog 69 #[.pointer (some ⟨O, 0, none⟩), .int .i64 v] wr fun e w' => ∃ bo, e = .returned (.bool bo) ∧ Pq V0 w' T H d s m B O X room xs (addL 256 os v) ys ∧ Chg (fun k => k = O) wr w' := by
  refine (add_two v h.o h.tl).mono ?_
  rintro e w' ⟨bo, rfl, h1, h2⟩
  exact ⟨bo, rfl, ⟨h.is.chg h2 (fun k hk e => by subst e; exact h.nm.2.2 hk), h.b.chg h2 (fun k hk => by subst hk; exact h.o.tb) (fun e => h.ne.2.1 e.symm), h1, h.x.chg h2 (fun k hk => by subst hk; exact h.o.tb) (fun e => h.ne.2.2 e.symm), fun k hk => Nat.lt_of_lt_of_le (h.tl k hk) h2.size, h.tm, h.ne, h.nm, h.bel.trans (h2.below (fun k hk => by subst hk; exact h.ge.2.2.2) h.bel.size), h.ge⟩, h2⟩
theorem Pq.hand (h : Pq V0 wr T H d s m B O X room xs os []) : Calls Tryz.prog 70 #[.pointer (some ⟨X, 0, none⟩), .pointer (some ⟨O, 0, none⟩)] wr fun e w' => e = .returned (.bool true) ∧ Pq V0 w' T H d s m B O X room xs [] os := by
  refine (Lg.hand_good wr h.x h.o (fun e => h.ne.2.2 e.symm)).mono ?_
  rintro e w' ⟨rfl, h1, h2, h3⟩
  have hX : T X := by obtain ⟨p, cap, hr⟩ := h.x; exact hr.tb
  exact ⟨rfl, h.is.chg h3 (fun k hk e => by rcases e with rfl | rfl; exact h.nm.2.2 hk; exact h.nm.2.1 hk), h.b.chg h3 (fun k hk => by rcases hk with rfl | rfl; exact h.o.tb; exact hX) (fun e => e.elim (fun e => h.ne.2.1 e.symm) (fun e => h.ne.1 e.symm)), h2, h1, fun k hk => Nat.lt_of_lt_of_le (h.tl k hk) h3.size, h.tm, h.ne, h.nm, h.bel.trans (h3.below (fun k hk => by rcases hk with rfl | rfl; exact h.ge.2.2.2; exact h.ge.2.2.1) h.bel.size), h.ge⟩
end
end Go.Proofs.YtkfgchhlekdpgaaGreatDoor.Nt
