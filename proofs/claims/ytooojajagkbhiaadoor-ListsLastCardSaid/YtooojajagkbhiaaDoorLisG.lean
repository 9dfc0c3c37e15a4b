/-
  Lists that are there, with what each has: what Put and Take tell, and what there is then.
-/
import Derived.Test.YtooojajagkbhiaaDoorLisP
import Derived.Test.YtooojajagkbhiaaDoorLisD
import Derived.Test.YtooojajagkbhiaaDoorLisF
namespace Go.Proofs.YtooojajagkbhiaaDoor.Lis
open Go.RowKit
open Class (isB isB_true isB_false is_any)
open Blk (Cfg TbIs ownB ownB_true blk kAt)
open Go.Proofs.YtooojajagkbhiaaDoor.Row (Chg)
open Go.Proofs.YtooojajagkbhiaaDoor.Addr (Tabs adrB_true)

theorem lastN_rev (l : List Nat) : lastN l.reverse = l.headD 0 := by cases l <;> simp [lastN]
theorem rev_upd (hv : Nat → List Nat) (k : Nat) (l : List Nat) : upd (fun j => (hv j).reverse) k l.reverse = fun j => (upd hv k l j).reverse := by
  funext j
  by_cases e : j = k
  · subst e; rw [upd_same, upd_same]
  · rw [upd_other _ _ e, upd_other _ _ e]
/-- Lists, with what each has; m: how often there was put and taken at most. -/
def HasL (w : World) (L A G T I J n base : Nat) (ps : Nat → Option Addr) (hv : Nat → List Nat) (m : Nat) : Prop :=
  ∃ (cap capS : Nat) (cs : Nat → Nat) (ws sw : List Nat) (ld st : Nat), Sit w L A G T I J cap capS base ps cs (fun k => (hv k).reverse) ws sw ld st ∧ Held ws sw hv ∧ ws.length = n ∧ n ≤ 1048576 ∧ ld ≤ m ∧ st ≤ m ∧ ∀ k, k < 4 → (hv k).length ≤ m
section
variable {w w' : World} {L A G T I J n base m : Nat} {ps : Nat → Option Addr} {hv : Nat → List Nat}
theorem HasL.kept (h : HasL w L A G T I J n base ps hv m) (hk : ∀ k, Own L A G I J ps k → w'.heap[k]? = w.heap[k]?) (hs : w.heap.size ≤ w'.heap.size) : HasL w' L A G T I J n base ps hv m := by
  obtain ⟨cap, capS, cs, ws, sw, ld, st, h1, h2⟩ := h
  exact ⟨cap, capS, cs, ws, sw, ld, st, h1.kept hk hs, h2⟩
theorem HasL.lt (h : HasL w L A G T I J n base ps hv m) {k : Nat} (hk : Own L A G I J ps k) : k < w.heap.size := by
  obtain ⟨cap, capS, cs, ws, sw, ld, st, h1, h2⟩ := h
  exact h1.ltO hk
theorem HasL.later (h : HasL w L A G T I J n base ps hv m) (hb : Below w.heap.size w w') : HasL w' L A G T I J n base ps hv m := h.kept (fun k hk => hb.block k (h.lt hk)) hb.size
theorem HasL.chg {S : Nat → Prop} (h : HasL w L A G T I J n base ps hv m) (hc : Chg S w w') (hS : ∀ k, Own L A G I J ps k → ¬ S k) : HasL w' L A G T I J n base ps hv m := h.kept (fun k hk => hc.block k (h.lt hk) (hS k hk)) hc.size
theorem HasL.drewN (h : HasL w L A G T I J n base ps hv m) (q : Nat) : HasL (w.drewN q) L A G T I J n base ps hv m := h.kept (fun _ _ => rfl) (Nat.le_refl _)
end

/-- A slot put into its list. -/
theorem put_held {L A G T I J n m baseL base capT : Nat} {ps : Nat → Option Addr} {hv : Nat → List Nat} {c : Cfg} {ks : List Nat} {pt : Option Addr} (w : World) (h : HasL w L A G T I J n baseL ps hv m) (hm : m < 100000) (ht : TbIs w T base c ks pt capT) (htt : Tabs w) (hR : rightB c.b c.wd c.m c.r c.ce c.lg c.st = true)
    (a : Nat) (ho : ownB c ks a = true) (hn : c.b * c.wd = (n : Int)) (hno : ∀ k, k < 4 → a ∉ hv k) :
    Calls Tryd.prog 12 #[.pointer (some ⟨L, 0, none⟩), .int .i64 a] w fun e w' => e = .returned (.int .i64 0) ∧
      ∃ ps', HasL w' L A G T I J n baseL ps' (upd hv (kAt ks (blk c a)) (a :: hv (kAt ks (blk c a)))) (m + 1) ∧ Chg (Own L A G I J ps) w w' ∧ ∀ j, Own L A G I J ps' j → Own L A G I J ps j ∨ w.heap.size ≤ j := by
  obtain ⟨cap, capS, cs, ws, sw, ld, st, h1, h2, h3, h4, h5, h6, h7⟩ := h
  obtain ⟨_, ha1, ha2⟩ := adrB_true.1 (ownB_true.1 ho).1
  have hk := ht.kLt (blk c a)
  have hal : a ≤ ws.length := by omega
  have hin : hasB sw a = false := by
    cases e : hasB sw a with
    | false => rfl
    | true =>
      obtain ⟨k, hk, hmem⟩ := (h2.isIn a hal).1 e
      exact absurd hmem (hno k hk)
  refine (put_new w h1 ht htt hR a ho hal (by omega) (by omega) (fun j hj => by rw [lastN_rev]; have := h2.head_le hj; omega) (fun j hj => by have := h7 j hj; simp; omega) hin).mono ?_
  rintro e w' ⟨rfl, p', c', hS, hC, hO⟩
  rw [lastN_rev, ← List.reverse_cons, rev_upd] at hS
  refine ⟨rfl, _, ⟨cap, capS, _, _, _, ld, st + 1, hS, h2.put h1.si.row hk (by omega) hal (by have := h2.head_le hk; omega) hin, by rw [List.length_set]; exact h3, h4, by omega, by omega, fun j hj => ?_⟩, hC, hO⟩
  by_cases e : j = kAt ks (blk c a)
  · subst e; rw [upd_same, List.length_cons]; have := h7 _ hj; omega
  · rw [upd_other _ _ e]; have := h7 j hj; omega
/-- A slot that is in its list. -/
theorem put_twice {L A G T I J n m baseL base capT : Nat} {ps : Nat → Option Addr} {hv : Nat → List Nat} {c : Cfg} {ks : List Nat} {pt : Option Addr} (w : World) (h : HasL w L A G T I J n baseL ps hv m) (ht : TbIs w T base c ks pt capT) (htt : Tabs w) (hR : rightB c.b c.wd c.m c.r c.ce c.lg c.st = true)
    (a : Nat) (ho : ownB c ks a = true) (hn : c.b * c.wd = (n : Int)) {k : Nat} (hk : k < 4) (hm : a ∈ hv k) :
    Calls Tryd.prog 12 #[.pointer (some ⟨L, 0, none⟩), .int .i64 a] w fun e w' => e = .returned (.int .i64 11) ∧ Below w.heap.size w w' := by
  obtain ⟨cap, capS, cs, ws, sw, ld, st, h1, h2, h3, h4, h5, h6, h7⟩ := h
  obtain ⟨_, ha1, ha2⟩ := adrB_true.1 (ownB_true.1 ho).1
  have hal : a ≤ ws.length := by omega
  exact put_have w h1 ht htt hR a ho hal ((h2.isIn a hal).2 ⟨k, hk, hm⟩)
/-- No slot. -/
theorem put_no {L A G T I J n m baseL base capT : Nat} {ps : Nat → Option Addr} {hv : Nat → List Nat} {c : Cfg} {ks : List Nat} {pt : Option Addr} (w : World) (h : HasL w L A G T I J n baseL ps hv m) (ht : TbIs w T base c ks pt capT) (htt : Tabs w) (hR : rightB c.b c.wd c.m c.r c.ce c.lg c.st = true)
    (a : Int) (ho : ownB c ks a = false) :
    Calls Tryd.prog 12 #[.pointer (some ⟨L, 0, none⟩), .int .i64 a] w fun e w' => e = .returned (.int .i64 1) ∧ Below w.heap.size w w' := by
  obtain ⟨cap, capS, cs, ws, sw, ld, st, h1, h2⟩ := h
  exact put_odd w h1 ht htt hR a ho
/-- Nothing to take. -/
theorem take_nothing {L A G T I J n m baseL : Nat} {ps : Nat → Option Addr} {hv : Nat → List Nat} (w : World) (h : HasL w L A G T I J n baseL ps hv m) (k : Nat) (hk : k < 4) (he : hv k = []) :
    Calls Tryd.prog 9 #[.pointer (some ⟨L, 0, none⟩), .int .i64 k] w fun e w' => e = .returned (.tuple #[.int .i64 0, .int .i64 12]) ∧ Below w.heap.size w w' := by
  obtain ⟨cap, capS, cs, ws, sw, ld, st, h1, h2, h3, h4, h5, h6, h7⟩ := h
  exact take_none w h1 k hk (by simp [he])
/-- A list's first slot taken. -/
theorem take_held {L A G T I J n m baseL : Nat} {ps : Nat → Option Addr} {hv : Nat → List Nat} (w : World) (h : HasL w L A G T I J n baseL ps hv m) (k a : Nat) (l : List Nat) (hk : k < 4) (he : hv k = a :: l) :
    Calls Tryd.prog 9 #[.pointer (some ⟨L, 0, none⟩), .int .i64 k] w fun e w' => e = .returned (.tuple #[.int .i64 a, .int .i64 0]) ∧
      ∃ ps', HasL w' L A G T I J n baseL ps' (upd hv k l) m ∧ Chg (Own L A G I J ps) w w' ∧ ∀ j, Own L A G I J ps' j → Own L A G I J ps j ∨ w.heap.size ≤ j := by
  obtain ⟨cap, capS, cs, ws, sw, ld, st, h1, h2, h3, h4, h5, h6, h7⟩ := h
  obtain ⟨c2, c3, c5, c6⟩ := h2.take h1.si.row hk he
  refine (take_good w h1 k a hk (l := l.reverse) (by simp [he]) c3 c5).mono ?_
  rintro e w' ⟨rfl, p', c', hS, hC, hO⟩
  rw [rev_upd] at hS
  refine ⟨rfl, _, ⟨cap, capS, _, ws, _, ld, st, hS, c6, h3, h4, by omega, by omega, fun j hj => ?_⟩, hC, hO⟩
  by_cases e : j = k
  · subst e; rw [upd_same]; have := h7 _ hj; rw [he, List.length_cons] at this; omega
  · rw [upd_other _ _ e]; have := h7 j hj; omega
/-- How many a list has; where it begins; what is in it. -/
theorem len_held {L A G T I J n m baseL : Nat} {ps : Nat → Option Addr} {hv : Nat → List Nat} (w : World) (h : HasL w L A G T I J n baseL ps hv m) (k : Nat) (hk : k < 4) :
    Calls Tryd.prog 17 #[.pointer (some ⟨L, 0, none⟩), .int .i64 k] w fun e w' => e = .returned (.int .i64 (((hv k).length : Nat) : Int)) ∧ Below w.heap.size w w' := by
  obtain ⟨cap, capS, cs, ws, sw, ld, st, h1, h2, h3, h4, h5, h6, h7⟩ := h
  have := len_good w h1.ls k hk
  rw [List.length_reverse] at this
  exact this
theorem first_held {L A G T I J n m baseL : Nat} {ps : Nat → Option Addr} {hv : Nat → List Nat} (w : World) (h : HasL w L A G T I J n baseL ps hv m) (k : Nat) (hk : k < 4) :
    Calls Tryd.prog 20 #[.pointer (some ⟨L, 0, none⟩), .int .i64 k] w fun e w' => e = .returned (.int .i64 (((hv k).headD 0 : Nat) : Int)) ∧ Below w.heap.size w w' := by
  obtain ⟨cap, capS, cs, ws, sw, ld, st, h1, h2, h3, h4, h5, h6, h7⟩ := h
  have := first_good w h1.ls k hk
  rw [lastN_rev] at this
  exact this
theorem has_held {L A G T I J n m baseL : Nat} {ps : Nat → Option Addr} {hv : Nat → List Nat} (w : World) (h : HasL w L A G T I J n baseL ps hv m) (a : Nat) (ha : a ≤ n) (b : Bool) (hb : b = true ↔ ∃ k, k < 4 ∧ a ∈ hv k) :
    Calls Tryd.prog 10 #[.pointer (some ⟨L, 0, none⟩), .int .i64 a] w fun e w' => e = .returned (.bool b) ∧ ∃ q, w' = w.drewN q := by
  obtain ⟨cap, capS, cs, ws, sw, ld, st, h1, h2, h3, h4, h5, h6, h7⟩ := h
  refine (has_any (a : Int) w h1.ls h1.si).mono ?_
  rintro e w' ⟨rfl, hw⟩
  have hm : Bits.mayB (a : Int) (ws.length + 1 : Nat) = true := by simp [Bits.mayB]; omega
  refine ⟨?_, hw⟩
  rw [hm, Int.toNat_natCast, Bool.true_and]
  have := h2.isIn a (by omega)
  rw [← hb] at this
  rw [Bool.eq_iff_iff.2 this]
theorem has_no {L A G T I J n m baseL : Nat} {ps : Nat → Option Addr} {hv : Nat → List Nat} (w : World) (h : HasL w L A G T I J n baseL ps hv m) (a : Int) (ha : a < 0 ∨ (n : Int) < a) :
    Calls Tryd.prog 10 #[.pointer (some ⟨L, 0, none⟩), .int .i64 a] w fun e w' => e = .returned (.bool false) ∧ ∃ q, w' = w.drewN q := by
  obtain ⟨cap, capS, cs, ws, sw, ld, st, h1, h2, h3, h4, h5, h6, h7⟩ := h
  refine (has_any a w h1.ls h1.si).mono ?_
  rintro e w' ⟨rfl, hw⟩
  have hm : Bits.mayB a (ws.length + 1 : Nat) = false := by
    cases e : Bits.mayB a (ws.length + 1 : Nat) with
    | false => rfl
    | true => simp [Bits.mayB] at e; omega
  exact ⟨by rw [hm]; rfl, hw⟩
end Go.Proofs.YtooojajagkbhiaaDoor.Lis
