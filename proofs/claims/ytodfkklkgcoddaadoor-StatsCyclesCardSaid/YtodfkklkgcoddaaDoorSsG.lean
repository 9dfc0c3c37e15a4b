/-
  What is counted, plain; has; the programs as they lie; isAlloc.
-/
import Derived.Test.YtodfkklkgcoddaaDoorSsD
import Derived.Deep.QuietTactic
namespace Go.Proofs.YtodfkklkgcoddaaDoor.Ss
open Go.RowKit
open Go.Proofs.YtodfkklkgcoddaaDoor.Row

def isDid (e : Ev) : Bool := e.kind == 1
/-- Is a place one of so many? -/
def okI (n : Int) (len : Nat) : Bool := decide (0 ≤ n) && decide (n < (len : Int))
theorem okI_yes {n : Int} {len : Nat} (h0 : 0 ≤ n) (h1 : n < len) : okI n len = true := by simp [okI, h0, h1]
theorem okI_neg {n : Int} {len : Nat} (h0 : n < 0) : okI n len = false := by simp [okI]; omega
theorem okI_big {n : Int} {len : Nat} (h1 : (len : Int) ≤ n) : okI n len = false := by simp [okI]; omega
theorem okI_iff {n : Int} {len : Nat} : okI n len = true ↔ 0 ≤ n ∧ n < len := by simp [okI]
/-- Is an event of an alloc of a program (of which the kinds are known) that ended well? -/
def isAl (L : List (List Int)) (e : Ev) : Bool := e.code == 0 && (okI e.who L.length && (okI e.op (L.getD e.who.toNat []).length && (L.getD e.who.toNat []).getD e.op.toNat 0 == 1))
def cOps (l : List Ev) : Nat := l.countP isDid
def cErr (l : List Ev) : Nat := l.countP fun e => isDid e && !(e.code == 0)
def cAl (L : List (List Int)) (l : List Ev) : Nat := l.countP fun e => isDid e && isAl L e
def cFr (l : List Ev) : Nat := l.countP fun e => e.kind == 5
def cCy (l : List Ev) : Nat := l.countP fun e => e.kind == 2
def cK (j : Nat) (l : List Ev) : Nat := l.countP fun e => isDid e && e.code == (j : Int)
theorem take_at {l : List Ev} {i : Nat} (h : i < l.length) : l.take (i + 1) = l.take i ++ [l.getD i ev0] := by
  rw [List.take_add_one, List.getD_eq_getElem?_getD, List.getElem?_eq_getElem h]; rfl
theorem countP_one {p : Ev → Bool} {l : List Ev} {x : Ev} : (l ++ [x]).countP p = l.countP p + if p x then 1 else 0 := by
  rw [List.countP_append, List.countP_singleton]
theorem err_ops (l : List Ev) : cErr l + cK 0 l = cOps l := by
  unfold cErr cK cOps
  induction l with
  | nil => rfl
  | cons e r ih =>
    simp only [List.countP_cons]
    cases h1 : isDid e <;> cases h2 : (e.code == 0) <;> simp at ih ⊢ <;> omega
theorem cops_le (l : List Ev) : cOps l ≤ l.length := List.countP_le_length
theorem cerr_le (l : List Ev) : cErr l ≤ l.length := List.countP_le_length
theorem cal_le (L : List (List Int)) (l : List Ev) : cAl L l ≤ l.length := List.countP_le_length
theorem cfr_le (l : List Ev) : cFr l ≤ l.length := List.countP_le_length
theorem ccy_le (l : List Ev) : cCy l ≤ l.length := List.countP_le_length
theorem ck_le (j : Nat) (l : List Ev) : cK j l ≤ l.length := List.countP_le_length

/-- Kinds of operations that lie. -/
def KdAt (W : World) (p : Option Addr) (l : List Int) : Prop := ∀ i, i < l.length → ∃ b off, p = some ⟨b, off, none⟩ ∧ W.cell? ⟨b, off + i * 4, none⟩ = some (.int .i64 (l.getD i 0))
theorem KdAt.later {W W' : World} {p : Option Addr} {l : List Int} (h : KdAt W p l) (hb : Below W.heap.size W W') : KdAt W' p l := fun i hi => by
  obtain ⟨b, off, e, c⟩ := h i hi
  exact ⟨b, off, e, (hb.cell (p := ⟨b, _, none⟩) (lt_of_cell c)).trans c⟩
/-- Programs that lie. -/
def PrAt (W : World) (p : Option Addr) (L : List (List Int)) : Prop := ∀ i, i < L.length → ∃ b off q c, p = some ⟨b, off, none⟩ ∧ W.cell? ⟨b, off + i, none⟩ = some (.slice q (L.getD i []).length c) ∧ KdAt W q (L.getD i [])
theorem PrAt.later {W W' : World} {p : Option Addr} {L : List (List Int)} (h : PrAt W p L) (hb : Below W.heap.size W W') : PrAt W' p L := fun i hi => by
  obtain ⟨b, off, q, c, e, h1, h2⟩ := h i hi
  exact ⟨b, off, q, c, e, (hb.cell (p := ⟨b, _, none⟩) (lt_of_cell h1)).trans h1, h2.later hb⟩

theorem hasI_any (p : Option Addr) (len cap : Nat) (n : Int) (w : World) : Calls Tryd.prog 23 #[.slice p len cap, .int .i64 n] w fun e w' => e = .returned (.bool (okI n len)) ∧ w' = w := by
  go_enter Tryd.func23, Tryd.ntmps23
  by_cases h0 : 0 ≤ n
  · by_cases h1 : n < (len : Int)
    · rw [okI_yes h0 h1]
      go_wp2
      go_ret
      exact ⟨rfl, rfl⟩
    · rw [okI_big (by omega)]
      go_wp2
      go_ret
      exact ⟨rfl, rfl⟩
  · rw [okI_neg (by omega)]
    go_wp2
    go_ret
    exact ⟨rfl, rfl⟩
theorem hasP_any (p : Option Addr) (len cap : Nat) (n : Int) (w : World) : Calls Tryd.prog 29 #[.slice p len cap, .int .i64 n] w fun e w' => e = .returned (.bool (okI n len)) ∧ w' = w := by
  go_enter Tryd.func29, Tryd.ntmps29
  by_cases h0 : 0 ≤ n
  · by_cases h1 : n < (len : Int)
    · rw [okI_yes h0 h1]
      go_wp2
      go_ret
      exact ⟨rfl, rfl⟩
    · rw [okI_big (by omega)]
      go_wp2
      go_ret
      exact ⟨rfl, rfl⟩
  · rw [okI_neg (by omega)]
    go_wp2
    go_ret
    exact ⟨rfl, rfl⟩
theorem hasO_any (p : Option Addr) (len cap : Nat) (n : Int) (w : World) : Calls Tryd.prog 30 #[.slice p len cap, .int .i64 n] w fun e w' => e = .returned (.bool (okI n len)) ∧ w' = w := by
  go_enter Tryd.func30, Tryd.ntmps30
  by_cases h0 : 0 ≤ n
  · by_cases h1 : n < (len : Int)
    · rw [okI_yes h0 h1]
      go_wp2
      go_ret
      exact ⟨rfl, rfl⟩
    · rw [okI_big (by omega)]
      go_wp2
      go_ret
      exact ⟨rfl, rfl⟩
  · rw [okI_neg (by omega)]
    go_wp2
    go_ret
    exact ⟨rfl, rfl⟩

set_option maxRecDepth 100000 in
set_option maxHeartbeats 4000000 in
theorem isalloc_any (p : Option Addr) (cap : Nat) (L : List (List Int)) (e : Ev) (W : World) (h : PrAt W p L) :
    Calls Tryd.prog 22 #[.slice p L.length cap, e.agg] W fun x w' => x = .returned (.bool (isAl L e)) ∧ Below W.heap.size W w' := by
  obtain ⟨pk, wh, kd, op, co, va⟩ := e
  obtain ⟨w1, hw1⟩ : ∃ w1, W.alloc (.cells #[.int .i64 pk, .int .i64 wh, .int .i64 kd, .int .i64 op, .int .i64 co, .int .i64 va] 44) = w1 := ⟨_, rfl⟩
  have hb : Below W.heap.size W w1 := by rw [← hw1]; exact (Below.refl _ _).alloc (Nat.le_refl _) _
  have HB := Lib.hid hb
  have HP := Lib.hid (h.later hb)
  have q1 : w1.cell? ⟨W.heap.size, 1, none⟩ = some (.int .i64 wh) := by rw [← hw1, World.cell?_alloc_new]; rfl
  have q3 : w1.cell? ⟨W.heap.size, 3, none⟩ = some (.int .i64 op) := by rw [← hw1, World.cell?_alloc_new]; rfl
  have q4 : w1.cell? ⟨W.heap.size, 4, none⟩ = some (.int .i64 co) := by rw [← hw1, World.cell?_alloc_new]; rfl
  clear hb h
  unfold Ev.agg isAl
  by_cases hc : co = 0
  · subst hc
    by_cases hk : okI wh L.length = true
    · have hy := Lib.hid (hasP_any p L.length cap wh)
      rw [hk] at hy
      obtain ⟨k0, k1⟩ := okI_iff.1 hk
      obtain ⟨m, rfl⟩ : ∃ m : Nat, wh = m := ⟨wh.toNat, by omega⟩
      obtain ⟨b, off, q, c, rfl, r0, r1⟩ := HP.out m (by omega)
      simp only [Int.toNat_natCast]
      have HR := Lib.hid r1
      clear r1
      generalize L.getD m [] = P at *
      by_cases ho : okI op P.length = true
      · have hz := Lib.hid (hasO_any q P.length c op)
        rw [ho] at hz
        obtain ⟨j0, j1⟩ := okI_iff.1 ho
        obtain ⟨n, rfl⟩ : ∃ n : Nat, op = n := ⟨op.toNat, by omega⟩
        obtain ⟨b2, off2, rfl, r2⟩ := HR.out n (by omega)
        simp only [Int.toNat_natCast]
        generalize P.getD n 0 = v at *
        go_enter Tryd.func22, Tryd.ntmps22
        go_wp2
        go_quiet (first
          | (go_at_call 29; exact Calls.quiet_of_same (hy.out _))
          | (go_at_call 30; exact Calls.quiet_of_same (hz.out _)))
        go_wp2
        go_ret
        refine ⟨?_, below_drewN HB.out _⟩
        rw [hk, ho]
        rfl
      · have hz := Lib.hid (hasO_any q P.length c op)
        have ho2 : okI op P.length = false := by simpa using ho
        rw [ho2] at hz
        go_enter Tryd.func22, Tryd.ntmps22
        go_wp2
        go_quiet (first
          | (go_at_call 29; exact Calls.quiet_of_same (hy.out _))
          | (go_at_call 30; exact Calls.quiet_of_same (hz.out _)))
        go_wp2
        go_ret
        refine ⟨?_, below_drewN HB.out _⟩
        rw [hk, ho2]
        rfl
    · have hy := Lib.hid (hasP_any p L.length cap wh)
      have hk2 : okI wh L.length = false := by simpa using hk
      rw [hk2] at hy
      go_enter Tryd.func22, Tryd.ntmps22
      go_wp2
      go_quiet ((go_at_call 29; exact Calls.quiet_of_same (hy.out _)))
      go_wp2
      go_ret
      refine ⟨?_, below_drewN HB.out _⟩
      rw [hk2]
      rfl
  · have hcb : (co == 0) = false := by simpa using hc
    go_enter Tryd.func22, Tryd.ntmps22
    go_wp2
    go_quiet (fail)
    go_wp2
    go_ret
    refine ⟨?_, below_drewN HB.out _⟩
    show Ending.returned (Value.bool false) = Ending.returned (Value.bool ((co == 0) && _))
    rw [hcb]; rfl
end Go.Proofs.YtodfkklkgcoddaaDoor.Ss
