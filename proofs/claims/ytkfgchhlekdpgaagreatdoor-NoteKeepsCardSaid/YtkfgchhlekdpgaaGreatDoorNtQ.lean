/-
  NoteNotes, what is known ahead.
-/
import Derived.Test.YtkfgchhlekdpgaaGreatDoorNtP
import Derived.Deep.RegionHeld3
namespace Go.Proofs.YtkfgchhlekdpgaaGreatDoor.Nt
open Go.RowKit
open Class (below_drewN)
open Hp (Ids St Is To Mine bnI bn coE coV colB objL st0)
open Lg (BfIs BxIs)
open Blk (Cfg little BytesP)
open Sw (ThingsP madeS Sm)
open Go.Proofs.YtkfgchhlekdpgaaGreatDoor.Row (Chg rowB Rd Rd0 cellsZ)
open Go.Proofs.YtkfgchhlekdpgaaGreatDoor.Addr (Tabs)

def qX (q : Cs) (n nc : Nat) : List Int := addsL (1 + q.room % 6) (objL (sQ q n nc)) q.bl
def qY (q : Cs) (n nc : Nat) : List Int := addsL 256 (objL (sQ q n nc)) q.xl
/-- The box of a case, as it lies. -/
def CaseAt (q : Cs) (U : World) (b : Nat) : Prop := U.cell? ⟨b, 0, none⟩ = some (.int .i64 q.c.b) ∧ U.cell? ⟨b, 1, none⟩ = some (.int .i64 q.c.wd) ∧ U.cell? ⟨b, 2, none⟩ = some (.int .i64 q.c.m) ∧ U.cell? ⟨b, 3, none⟩ = some (.int .i64 q.c.r) ∧ U.cell? ⟨b, 4, none⟩ = some (.int .i64 q.c.ce) ∧ U.cell? ⟨b, 5, none⟩ = some (.int .i64 q.c.lg) ∧ U.cell? ⟨b, 6, none⟩ = some (.int .i64 q.c.st) ∧ U.cell? ⟨b, 7, none⟩ = some (.slice q.pt q.l.length q.ct) ∧ U.cell? ⟨b, 8, none⟩ = some (.slice q.pb q.bl.length q.cb) ∧ U.cell? ⟨b, 9, none⟩ = some (.slice q.px q.xl.length q.cx) ∧ U.cell? ⟨b, 10, none⟩ = some (.int .u8 q.room) ∧ U.cell? ⟨b, 11, none⟩ = some (.bool q.up)
theorem CaseAt.new (q : Cs) (V : World) : CaseAt q (V.alloc (.cells #[.int .i64 q.c.b, .int .i64 q.c.wd, .int .i64 q.c.m, .int .i64 q.c.r, .int .i64 q.c.ce, .int .i64 q.c.lg, .int .i64 q.c.st, .slice q.pt q.l.length q.ct, .slice q.pb q.bl.length q.cb, .slice q.px q.xl.length q.cx, .int .u8 q.room, .bool q.up] 27)) V.heap.size := by
  have hk : ∀ j v, (#[.int .i64 q.c.b, .int .i64 q.c.wd, .int .i64 q.c.m, .int .i64 q.c.r, .int .i64 q.c.ce, .int .i64 q.c.lg, .int .i64 q.c.st, .slice q.pt q.l.length q.ct, .slice q.pb q.bl.length q.cb, .slice q.px q.xl.length q.cx, .int .u8 q.room, .bool q.up] : Array Value)[j]? = some v → (V.alloc (.cells #[.int .i64 q.c.b, .int .i64 q.c.wd, .int .i64 q.c.m, .int .i64 q.c.r, .int .i64 q.c.ce, .int .i64 q.c.lg, .int .i64 q.c.st, .slice q.pt q.l.length q.ct, .slice q.pb q.bl.length q.cb, .slice q.px q.xl.length q.cx, .int .u8 q.room, .bool q.up] 27)).cell? ⟨V.heap.size, j, none⟩ = some v := fun j v hv => by
    rw [World.cell?_alloc_new]; exact hv
  exact ⟨hk 0 _ rfl, hk 1 _ rfl, hk 2 _ rfl, hk 3 _ rfl, hk 4 _ rfl, hk 5 _ rfl, hk 6 _ rfl, hk 7 _ rfl, hk 8 _ rfl, hk 9 _ rfl, hk 10 _ rfl, hk 11 _ rfl⟩
theorem CaseAt.chg {S : Nat → Prop} {q : Cs} {U W : World} {b : Nat} (h : CaseAt q U b) (hc : Chg S U W) (hb : ¬ S b) : CaseAt q W b := by
  have hz : ∀ j v, U.cell? ⟨b, j, none⟩ = some v → W.cell? ⟨b, j, none⟩ = some v := fun j v e => (hc.cell (p := ⟨b, j, none⟩) (lt_of_cell e) hb).trans e
  obtain ⟨k0, k1, k2, k3, k4, k5, k6, k7, k8, k9, k10, k11⟩ := h
  exact ⟨hz _ _ k0, hz _ _ k1, hz _ _ k2, hz _ _ k3, hz _ _ k4, hz _ _ k5, hz _ _ k6, hz _ _ k7, hz _ _ k8, hz _ _ k9, hz _ _ k10, hz _ _ k11⟩
theorem CaseAt.later {q : Cs} {U W : World} {b : Nat} (h : CaseAt q U b) (hb : Below U.heap.size U W) : CaseAt q W b := h.chg (Chg.of_below (S := fun _ => False) hb) (fun e => e)
theorem CaseAt.lt {q : Cs} {U : World} {b : Nat} (h : CaseAt q U b) : b < U.heap.size := lt_of_cell h.1
theorem coE_in {s : St} {v : Int} (h : bnI s v = true) : coE s v = 0 := by unfold coE; rw [if_pos h]
theorem coE_out {s : St} {v : Int} (h : ¬ bnI s v = true) : coE s v ≠ 0 := by unfold coE; rw [if_neg h]; decide
/-- What a law of this layer has ahead of the noter. -/
structure Pre (q : Cs) (n nc S : Nat) (V : World) : Prop where
  hn : (little q.c).b * (little q.c).wd = (n : Int)
  hnc : (little q.c).ce = (nc : Int)
  h64 : nc ≤ 64
  ht : Tabs V
  hS : S ≤ V.heap.size
  hq : CsP S V q
theorem Pre.later {q : Cs} {n nc S : Nat} {V W : World} (h : Pre q n nc S V) (hb : Below V.heap.size V W) : Pre q n nc S W :=
  ⟨h.hn, h.hnc, h.h64, h.ht.later hb, Nat.le_trans h.hS hb.size, h.hq.below (hb.mono h.hS)⟩
theorem Pre.parts {q : Cs} {n nc S : Nat} {V : World} (h : Pre q n nc S V) : Calls Tryz.prog 13 #[(.agg #[.int .i64 q.c.b, .int .i64 q.c.wd, .int .i64 q.c.m, .int .i64 q.c.r, .int .i64 q.c.ce, .int .i64 q.c.lg, .int .i64 q.c.st, .slice q.pt q.l.length q.ct, .slice q.pb q.bl.length q.cb, .slice q.px q.xl.length q.cx, .int .u8 q.room, .bool q.up])] V (PartsP q n nc V) :=
  parts_any q n nc S h.hn h.hnc h.h64 V h.ht h.hS h.hq
theorem poK_le (cf : Int → Int) (c : Int) (xs : List Int) (n : Nat) : poK cf c xs n ≤ xs.length + 2 := by
  unfold poK
  split
  · omega
  · split
    · omega
    · split <;> omega
theorem poR_le (cf : Int → Int) (c : Int) (xs : List Int) (n : Nat) : (poR cf c xs n).length ≤ xs.length := by
  unfold poR
  split
  · simp
  · split
    · simp
    · exact frL_len cf c xs
theorem one_rd0 (w : World) (v : Int) : Rd0 (w.alloc (.cells #[.int .i64 v] 3)) (some ⟨w.heap.size, 0, none⟩) [v] := fun j hj => by
  obtain rfl : j = 0 := by simp at hj; omega
  exact ⟨w.heap.size, 0, rfl, by simp⟩
theorem rd0_later {w w' : World} {p : Option Addr} {l : List Int} (h : Rd0 w p l) (hb : Below w.heap.size w w') : Rd0 w' p l := fun j hj => by
  obtain ⟨g, off, e, hc⟩ := h j hj
  exact ⟨g, off, e, (hb.cell (p := ⟨g, off + j, none⟩) (lt_of_cell hc)).trans hc⟩
theorem nil_owns (w : World) : (w.alloc (.cells #[] 3)).ownsRow w.heap.size 3 1 (.slice (some ⟨w.heap.size, 0, none⟩) ([] : List Int).length 0) ([] : List Int).length (cellsZ []) :=
  ⟨by simp [cellsZ], .inr ⟨w.heap.size, 0, #[], rfl, Nat.le_refl _, by show (w.heap.push _)[w.heap.size]? = _; simp, by simp, by simp [maxLen], rfl, rfl⟩⟩
theorem sum6 (z : Nat) (h : z < 256) : IntKind.i64.wrap (1 + IntKind.i64.wrap ((z : Int).tmod 6)) = ((1 + z % 6 : Nat) : Int) := by
  rw [Int.tmod_eq_emod_of_nonneg (by omega), IntKind.wrap_i64, IntKind.wrap_i64]
  omega
/-- The law's rows and the case's box. -/
structure Lc (w : World) (q : Cs) (b : Nat) (p1 p2 p3 : Option Addr) (al cl xs : List Int) : Prop where
  r1 : Rd w p1 al
  r2 : Rd w p2 cl
  r3 : Rd w p3 xs
  cs : CaseAt q w b
theorem Lc.chg {S : Nat → Prop} {w w' : World} {q : Cs} {b : Nat} {p1 p2 p3 : Option Addr} {al cl xs : List Int} (h : Lc w q b p1 p2 p3 al cl xs) (hc : Chg S w w') (hb : ¬ S b) (hg : ∀ g, (rowB p1 g ∨ rowB p2 g ∨ rowB p3 g) → ¬ S g) : Lc w' q b p1 p2 p3 al cl xs :=
  ⟨h.r1.chg hc (fun g e => hg g (.inl e)), h.r2.chg hc (fun g e => hg g (.inr (.inl e))), h.r3.chg hc (fun g e => hg g (.inr (.inr e))), h.cs.chg hc hb⟩
theorem Lc.later {w w' : World} {q : Cs} {b : Nat} {p1 p2 p3 : Option Addr} {al cl xs : List Int} (h : Lc w q b p1 p2 p3 al cl xs) (hb : Below w.heap.size w w') : Lc w' q b p1 p2 p3 al cl xs :=
  h.chg (Chg.of_below (S := fun _ => False) hb) (fun e => e) (fun _ _ e => e)
theorem pre_of {q : Cs} {V : World} (ht : Tabs V) (hq : CsP V.heap.size V q) : ∃ n nc, Pre q n nc V.heap.size V := by
  obtain ⟨nc, hnc, hnc3⟩ := Sw.little_ce' q.c
  obtain ⟨n, hn, hn2⟩ := Sw.little_n' q.c
  exact ⟨n, nc, hn, hnc, by omega, ht, Nat.le_refl _, hq⟩
end Go.Proofs.YtkfgchhlekdpgaaGreatDoor.Nt
