/-
  Base texts, one behind the other: Law ClassA ClassB ClassC ClassD ClassE.
-/
import Derived.Test.YthpgnlcmpoldfaaGreatDoorRows
import Derived.WalkKit
import Derived.ProofKit
import Derived.OpenShut
import Derived.Deep.DeepHandedRow
import Derived.WalkSpells
import Derived.WalkLawsBesides
import Derived.Deep.QuietTactic
import Derived.BigQuiet
import Derived.Deep.RegionHeld3
import Derived.Lib.Hide
import Derived.IntWalk
import Derived.RangeFuncNested
import Derived.RangeFuncBound
import Derived.RangeFuncCalls
import Derived.RangeFuncLeaves
import Derived.Shelf.Abstract
import Derived.Shelf.RegionOpen
import Derived.OwnWalkIn
import Derived.TacticsInMore
import Derived.LoopNIn
import Derived.LoopIn
namespace Go.Proofs.YthpgnlcmpoldfaaGreatDoor
open Go.ChangeShapes Go.WideShapes Go.ChangeAt Go.RowKit

section
variable {H : Type} {enc : TypeId × Value → H} {P : Program}

/-- What lay below reads behind the call as it read before it, argument by argument. -/
theorem trodAll_later (hl : laidOutB P = true) {W W' : World} (hb : Below W.heap.size W W') : ∀ (ts : List TypeId) (vs : List Value) (ds : List (DataW H)) (ps : List MemPlace),
    (∀ t ∈ ts, P.readableRec t = true ∧ t < P.types.size) → DataW.TrodAll enc P W 0 (fun _ => true) true ts vs ds ps → (∀ x ∈ ps, x.block < W.heap.size) →
    DataW.TrodAll enc P W' 0 (fun b => decide (b < W.heap.size)) true ts vs ds ps
  | [], vs, ds, ps, _, h, _ => by
    obtain ⟨rfl, rfl, rfl⟩ := trodAll_nil h
    exact trodAll_mk0
  | t :: ts, vs, ds, ps, hr, h, hlt => by
    obtain ⟨v, vs', d, ds', p, q, rfl, rfl, rfl, h0, h1⟩ := trodAll_cons h
    obtain ⟨ha, hz⟩ := hr t (by simp)
    exact trodAll_cons_mk (Below.trod hl ha hz h0 hb (fun x hx => hlt x (by simp [hx]))) (trodAll_later hl hb ts vs' ds' q (fun u hu => hr u (by simp [hu])) h1 (fun x hx => hlt x (by simp [hx])))

theorem law_post {f : Func} {s : ChangeSpec} {tb : TypeId} {W W' : World} {args : Array Value} {ds : List (DataW H)} {before : List MemPlace} (hl : laidOutB P = true)
    (hW : DataW.Whole enc P f.params.toList s.vars false W args.toList ds [] before) (hvars : s.vars = []) (hres : f.resultTypes = #[tb]) (htb : P.underlying tb = some .bool)
    (hfn : s.fn H (ds ++ []) = { results := [.lit (.bool true)], args := ds }) (hr : ∀ t ∈ f.params.toList, P.readableRec t = true ∧ t < P.types.size) (hb : Below W.heap.size W W') :
    s.post enc P f false true false false W args (.bool true) W' := by
  have hlt : ∀ p ∈ before, p.block < W.heap.size := fun p hp => hW.lt p hp
  have hW' := hW
  obtain ⟨p, q, hA, hV, rfl, _, _⟩ := hW
  have hq : q = [] := by rw [hvars] at hV; exact hV
  subst hq
  refine ⟨ds, [], p ++ [], [], p, [], hW', ?_, ?_, ?_, hb.frame _, fun h => by cases h⟩
  · rw [hfn, hres]
    exact trodAll_cons_mk (shut_bool htb _) trodAll_mk0
  · rw [hfn]
    exact trodAll_later hl hb _ _ _ _ hr hA (fun x hx => hlt x (by simp [hx]))
  · rw [hfn, hvars]
    rfl
end
theorem ownKn : ownKnob Tryz.prog.godebug = none := by kernel_rfl
theorem laidO : laidOutB Tryz.prog = true := by kernel_rfl
end Go.Proofs.YthpgnlcmpoldfaaGreatDoor

namespace Go.Proofs.YthpgnlcmpoldfaaGreatDoor.Class
open Go.RowKit

theorem ret_int {k : IntKind} {a b : Int} (h : a = b) : Ending.returned (.int k a) = .returned (.int k b) := by rw [h]
theorem ret_bool {a b : Bool} (h : a = b) : Ending.returned (.bool a) = .returned (.bool b) := by rw [h]

/-- The table of sizes, cell by cell. -/
structure SizTab (w : World) : Prop where
  s0 : w.cell? ⟨2, 0, none⟩ = some (.int .i64 2)
  s1 : w.cell? ⟨2, 1, none⟩ = some (.int .i64 4)
  s2 : w.cell? ⟨2, 2, none⟩ = some (.int .i64 8)
  s3 : w.cell? ⟨2, 3, none⟩ = some (.int .i64 16)
  blk : 2 < w.heap.size

theorem SizTab.below {n : Nat} {w w' : World} (h : SizTab w) (hb : Below n w w') (hn : 2 < n) : SizTab w' :=
  ⟨(hb.cell (p := ⟨_, 0, none⟩) hn).trans h.s0, (hb.cell (p := ⟨_, 1, none⟩) hn).trans h.s1, (hb.cell (p := ⟨_, 2, none⟩) hn).trans h.s2, (hb.cell (p := ⟨_, 3, none⟩) hn).trans h.s3, Nat.lt_of_lt_of_le h.blk hb.size⟩
theorem SizTab.alloc {w : World} (h : SizTab w) (o : Obj) : SizTab (w.alloc o) := h.below ((Below.refl _ _).alloc (Nat.le_refl _) _) h.blk
theorem SizTab.drew {w : World} (h : SizTab w) : SizTab w.drew := ⟨h.s0, h.s1, h.s2, h.s3, h.blk⟩
theorem SizTab.drewN {w : World} (h : SizTab w) (k : Nat) : SizTab (w.drewN k) := ⟨h.s0, h.s1, h.s2, h.s3, h.blk⟩
theorem SizTab.later {w w' : World} (h : SizTab w) (hb : Below w.heap.size w w') : SizTab w' := h.below hb h.blk

/-- Is a number a class? -/
def isB (k : Int) : Bool := decide (0 ≤ k) && decide (k < 4)
theorem isB_true {k : Int} : isB k = true ↔ 0 ≤ k ∧ k < 4 := by simp [isB]
theorem isB_false {k : Int} : isB k = false ↔ k < 0 ∨ 4 ≤ k := by
  rw [← Bool.not_eq_true, isB_true]; omega

/-- How many words a class's slots have; 0 of none. -/
def sizI (k : Int) : Int := if k = 0 then 2 else if k = 1 then 4 else if k = 2 then 8 else if k = 3 then 16 else 0
theorem sizI_no {k : Int} (h : isB k = false) : sizI k = 0 := by
  rw [isB_false] at h; unfold sizI; (repeat' split) <;> omega
theorem sizI_bd {k : Int} (h : isB k = true) : 2 ≤ sizI k ∧ sizI k ≤ 16 := by
  rw [isB_true] at h; unfold sizI; (repeat' split) <;> omega

theorem SizTab.at {w : World} (h : SizTab w) {k : Int} (hk : isB k = true) : w.cell? ⟨2, k.toNat, none⟩ = some (.int .i64 (sizI k)) := by
  rw [isB_true] at hk
  have : k = 0 ∨ k = 1 ∨ k = 2 ∨ k = 3 := by omega
  rcases this with rfl | rfl | rfl | rfl
  · exact h.s0
  · exact h.s1
  · exact h.s2
  · exact h.s3

set_option maxHeartbeats 400000 in
theorem is_any (k : Int) (w : World) : Calls Tryz.prog 215 #[.int .i64 k] w fun e w' => e = .returned (.bool (isB k)) ∧ w = w' := by
  by_cases h0 : 0 ≤ k
  · by_cases h4 : k < 4
    · rw [show isB k = true from isB_true.2 ⟨h0, h4⟩]
      go_enter Tryz.func215, Tryz.ntmps215
      go_wp2
      go_ret
      exact ⟨rfl, rfl⟩
    · rw [show isB k = false from isB_false.2 (by omega)]
      go_enter Tryz.func215, Tryz.ntmps215
      go_wp2
      go_ret
      exact ⟨rfl, rfl⟩
  · rw [show isB k = false from isB_false.2 (by omega)]
    go_enter Tryz.func215, Tryz.ntmps215
    go_wp2
    go_ret
    exact ⟨rfl, rfl⟩

set_option maxHeartbeats 400000 in
theorem size_any (k : Int) (w : World) (ht : SizTab w) : Calls Tryz.prog 213 #[.int .i64 k] w fun e w' => e = .returned (.int .i64 (sizI k)) ∧ w = w' := by
  by_cases hk : isB k = true
  · have hc := ht.at hk
    have hb := isB_true.1 hk
    obtain ⟨hb0, hb4⟩ := hb
    clear ht
    go_enter Tryz.func213, Tryz.ntmps213
    go_wp2_with (go_at_call 215; refine (is_any _ _).mono ?_; rintro e w' ⟨rfl, rfl⟩; rw [hk])
    go_ret
    exact ⟨rfl, rfl⟩
  · have hk : isB k = false := by simpa using hk
    rw [sizI_no hk]
    clear ht
    go_enter Tryz.func213, Tryz.ntmps213
    go_wp2_with (go_at_call 215; refine (is_any _ _).mono ?_; rintro e w' ⟨rfl, rfl⟩; rw [hk])
    go_ret
    exact ⟨rfl, rfl⟩

/-- How many fields a class's slots have; 0 of none. -/
def roomI (k : Int) : Int := if isB k = true then sizI k - 1 else 0
theorem roomI_yes {k : Int} (h : isB k = true) : roomI k = sizI k - 1 := if_pos h
theorem roomI_no {k : Int} (h : isB k = false) : roomI k = 0 := if_neg (by simp [h])

set_option maxHeartbeats 400000 in
theorem room_any (k : Int) (w : World) (ht : SizTab w) : Calls Tryz.prog 159 #[.int .i64 k] w fun e w' => e = .returned (.int .i64 (roomI k)) ∧ w = w' := by
  by_cases hk : isB k = true
  · have hc := ht.at hk
    obtain ⟨hb0, hb4⟩ := isB_true.1 hk
    obtain ⟨hs0, hs1⟩ := sizI_bd hk
    rw [roomI_yes hk]
    clear ht
    go_enter Tryz.func159, Tryz.ntmps159
    go_wp2_with (go_at_call 215; refine (is_any _ _).mono ?_; rintro e w' ⟨rfl, rfl⟩; rw [hk])
    go_ret
    exact ⟨rfl, rfl⟩
  · have hk : isB k = false := by simpa using hk
    rw [roomI_no hk]
    clear ht
    go_enter Tryz.func159, Tryz.ntmps159
    go_wp2_with (go_at_call 215; refine (is_any _ _).mono ?_; rintro e w' ⟨rfl, rfl⟩; rw [hk])
    go_ret
    exact ⟨rfl, rfl⟩

/-- May a block have so many words? -/
def wordsB (n : Int) : Bool := decide (16 ≤ n) && decide (n ≤ 256)
theorem wordsB_true {n : Int} : wordsB n = true ↔ 16 ≤ n ∧ n ≤ 256 := by simp [wordsB]
theorem wordsB_false {n : Int} : wordsB n = false ↔ n < 16 ∨ 256 < n := by
  rw [← Bool.not_eq_true, wordsB_true]; omega

/-- How many slots a block has. -/
def perI (n k : Int) : Int := if isB k = true ∧ wordsB n = true then n / sizI k else 0
theorem perI_yes {n k : Int} (h : isB k = true) (h2 : wordsB n = true) : perI n k = n / sizI k := if_pos ⟨h, h2⟩
theorem perI_noC {n k : Int} (h : isB k = false) : perI n k = 0 := if_neg (by simp [h])
theorem perI_noW {n k : Int} (h : wordsB n = false) : perI n k = 0 := if_neg (by simp [h])

set_option maxHeartbeats 400000 in
theorem per_any (n k : Int) (w : World) (ht : SizTab w) : Calls Tryz.prog 212 #[.int .i64 n, .int .i64 k] w fun e w' => e = .returned (.int .i64 (perI n k)) ∧ w = w' := by
  by_cases hk : isB k = true
  · by_cases hn : wordsB n = true
    · have hc := ht.at hk
      obtain ⟨hb0, hb4⟩ := isB_true.1 hk
      obtain ⟨hs0, hs1⟩ := sizI_bd hk
      obtain ⟨hn0, hn1⟩ := wordsB_true.1 hn
      rw [perI_yes hk hn]
      clear ht
      go_enter Tryz.func212, Tryz.ntmps212
      go_wp2_with (go_at_call 215; refine (is_any _ _).mono ?_; rintro e w' ⟨rfl, rfl⟩; rw [hk])
      go_ret
      exact ⟨rfl, rfl⟩
    · have hn : wordsB n = false := by simpa using hn
      rw [perI_noW hn]
      rcases wordsB_false.1 hn with h | h
      · clear ht
        go_enter Tryz.func212, Tryz.ntmps212
        go_wp2_with (go_at_call 215; refine (is_any _ _).mono ?_; rintro e w' ⟨rfl, rfl⟩; rw [hk])
        go_ret
        exact ⟨rfl, rfl⟩
      · have h' : 16 ≤ n := by omega
        clear ht
        go_enter Tryz.func212, Tryz.ntmps212
        go_wp2_with (go_at_call 215; refine (is_any _ _).mono ?_; rintro e w' ⟨rfl, rfl⟩; rw [hk])
        go_ret
        exact ⟨rfl, rfl⟩
  · have hk : isB k = false := by simpa using hk
    rw [perI_noC hk]
    clear ht
    go_enter Tryz.func212, Tryz.ntmps212
    go_wp2_with (go_at_call 215; refine (is_any _ _).mono ?_; rintro e w' ⟨rfl, rfl⟩; rw [hk])
    go_ret
    exact ⟨rfl, rfl⟩
end Go.Proofs.YthpgnlcmpoldfaaGreatDoor.Class

namespace Go.Proofs.YthpgnlcmpoldfaaGreatDoor.Class
open Go.RowKit

/-- The class of an object. -/
def clsI (f : Int) : Int := if f ≤ 1 then 0 else if f ≤ 3 then 1 else if f ≤ 7 then 2 else 3
theorem isB_nat {c : Nat} (h : c ≤ 3) : isB (c : Int) = true := isB_true.2 ⟨by omega, by omega⟩
theorem room_nat {c : Nat} (h : c ≤ 3) : roomI (c : Int) = if c = 0 then 1 else if c = 1 then 3 else if c = 2 then 7 else 15 := by
  rw [roomI_yes (isB_nat h)]
  have : c = 0 ∨ c = 1 ∨ c = 2 ∨ c = 3 := by omega
  rcases this with rfl | rfl | rfl | rfl <;> rfl

set_option maxHeartbeats 400000 in
theorem of_no (f : Int) (w : World) (h : f < 0 ∨ 15 < f) : Calls Tryz.prog 119 #[.int .i64 f] w fun e w' => e = .returned (.tuple #[.int .i64 0, .bool false]) ∧ w = w' := by
  rcases h with h | h
  · go_enter Tryz.func119, Tryz.ntmps119
    go_wp2
    go_ret2
    exact ⟨rfl, rfl⟩
  · have h' : 0 ≤ f := by omega
    go_enter Tryz.func119, Tryz.ntmps119
    go_wp2
    go_ret2
    exact ⟨rfl, rfl⟩

set_option maxHeartbeats 1000000 in
theorem of_yes (f : Int) (w : World) (ht : SizTab w) (h0 : 0 ≤ f) (h1 : f ≤ 15) : Calls Tryz.prog 119 #[.int .i64 f] w fun e w' => e = .returned (.tuple #[.int .i64 (clsI f), .bool true]) ∧ w = w' := by
  have HT := Lib.hid ht
  clear ht
  go_enter Tryz.func119, Tryz.ntmps119
  go_wp2
  go_loop [11] (fun i => ∃ c : Nat, c ≤ 3 ∧ i = .int .i64 c ∧ (c = 0 ∨ (c = 1 ∧ 1 < f) ∨ (c = 2 ∧ 3 < f) ∨ (c = 3 ∧ 7 < f))) (fun i => 4 - (intOf i).toNat)
  case atStart => exact ⟨0, by omega, rfl, .inl rfl⟩
  case round =>
    obtain ⟨c, hc, rfl, hr⟩ := hrel
    have hrm := room_nat hc
    by_cases hf : f ≤ roomI c
    · have HF := Lib.hid hf
      have HR := Lib.hid hr
      have HM := Lib.hid hrm
      clear hr hrm
      go_wp2_with (go_at_call 159; refine (room_any _ _ HT.out).mono ?_; rintro e w' ⟨rfl, rfl⟩)
      go_ret2
      have hr := HR.out
      have hm := HM.out
      have hf := HF.out
      refine ⟨?_, rfl⟩
      rw [hm] at hf
      have : (c : Int) = clsI f := by
        unfold clsI
        (repeat' split at hf) <;> (repeat' split) <;> omega
      rw [this]
      rfl
    · have HR := Lib.hid hr
      have HM := Lib.hid hrm
      have HF := Lib.hid hf
      have hf' : roomI c < f := by omega
      clear hr hrm hf
      go_wp2_with (go_at_call 159; refine (room_any _ _ HT.out).mono ?_; rintro e w' ⟨rfl, rfl⟩)
      go_round
      case rel =>
        have hr := HR.out
        have hm := HM.out
        rw [hm] at hf'
        refine ⟨c + 1, ?_, by go_num, ?_⟩
        · (repeat' split at hf') <;> omega
        · (repeat' split at hf') <;> omega
      case measure => simp [intOf]; omega

/-- A size, by doubling. -/
def dbl (i : Nat) : Int := if i = 0 then 2 else if i = 1 then 4 else if i = 2 then 8 else 16
theorem dbl_siz {k : Nat} (h : k ≤ 3) : dbl k = sizI k := by
  have : k = 0 ∨ k = 1 ∨ k = 2 ∨ k = 3 := by omega
  rcases this with rfl | rfl | rfl | rfl <;> rfl

theorem siz_nat {c : Nat} (h : c ≤ 3) : sizI (c : Int) = if c = 0 then 2 else if c = 1 then 4 else if c = 2 then 8 else 16 := (dbl_siz h).symm

theorem per_step {n k : Int} (hk : isB k = true) (_hn : wordsB n = true) {c : Nat} (hc : ((c : Int) + 1) * sizI k ≤ n) : ((c + 1 : Nat) : Int) ≤ n / sizI k := by
  obtain ⟨hs0, hs1⟩ := sizI_bd hk
  rw [Int.le_ediv_iff_mul_le (by omega)]
  exact hc
theorem per_end {n k : Int} (hk : isB k = true) (_hn : wordsB n = true) {c : Nat} (h0 : (c : Int) ≤ n / sizI k) (hc : n < ((c : Int) + 1) * sizI k) : (c : Int) = n / sizI k := by
  obtain ⟨hs0, hs1⟩ := sizI_bd hk
  have := Int.ediv_lt_of_lt_mul (show 0 < sizI k by omega) hc
  omega
theorem per_mul {n k : Int} (hk : isB k = true) (hn : wordsB n = true) {c : Nat} (h0 : (c : Int) ≤ n / sizI k) : 0 ≤ ((c : Int) + 1) * sizI k ∧ ((c : Int) + 1) * sizI k ≤ 100000 := by
  obtain ⟨hs0, hs1⟩ := sizI_bd hk
  obtain ⟨hn0, hn1⟩ := wordsB_true.1 hn
  have h1 : n / sizI k ≤ 256 := Int.le_trans (Int.ediv_le_self _ (by omega)) hn1
  refine ⟨Int.mul_nonneg (by omega) (by omega), Int.le_trans (Int.mul_le_mul (show (c : Int) + 1 ≤ 257 by omega) hs1 (by omega) (by omega)) (by decide)⟩

end Go.Proofs.YthpgnlcmpoldfaaGreatDoor.Class

namespace Go.Proofs.YthpgnlcmpoldfaaGreatDoor.Class
open Go.RowKit

theorem quiet_left {P : Program} {f : FuncId} {args : Array Value} {w : World} {n : Nat} {v : Value}
    (h : Calls P f args (w.drewN n) fun e w' => e = .returned v ∧ w.drewN n = w') : Calls P f args (w.drewN n) fun e w'' => e = .returned v ∧ ∃ m, w'' = w.drewN m :=
  h.mono fun _ _ ⟨he, hm⟩ => ⟨he, n, hm.symm⟩
theorem quiet_add_left {P : Program} {f : FuncId} {args : Array Value} {w : World} {a n : Nat} {v : Value}
    (h : Calls P f args (w.drewN (a + n)) fun e w' => e = .returned v ∧ w.drewN (a + n) = w') :
    Calls P f args (w.drewN (a + n)) fun e w'' => e = .returned v ∧ ∃ m, w'' = w.drewN (a + m) :=
  h.mono fun _ _ ⟨he, hm⟩ => ⟨he, n, hm.symm⟩
theorem below_drewN {B : Nat} {a w : World} (h : Below B a w) (n : Nat) : Below B a (w.drewN n) := ⟨h.os, h.tape, h.output, h.size, h.block⟩

theorem per20_0 : (perI 20 0 == 10) = true := by decide
theorem per20_2 : (perI 20 2 == 2) = true := by decide

theorem clsI_bd (f : Int) : 0 ≤ clsI f ∧ clsI f ≤ 3 := by unfold clsI; (repeat' split) <;> omega
/-- A class's room, by its size. -/
theorem room_facts (k : Int) : (2 ≤ sizI k ∧ sizI k ≤ 16 ∧ roomI k = sizI k - 1) ∨ (sizI k = 0 ∧ roomI k = 0) := by
  by_cases h : isB k = true
  · exact .inl ⟨(sizI_bd h).1, (sizI_bd h).2, roomI_yes h⟩
  · have h : isB k = false := by simpa using h
    exact .inr ⟨sizI_no h, roomI_no h⟩

/-- What ClassLeast asks of a class that there is. -/
theorem least_facts {f : Int} (_ : 0 ≤ f) (h1 : f ≤ 15) : isB (clsI f) = true ∧ f ≤ roomI (clsI f) ∧ (0 < clsI f → roomI (clsI f - 1) < f) := by
  have hb := clsI_bd f
  refine ⟨isB_true.2 ⟨by omega, by omega⟩, ?_, fun h => ?_⟩
  · rw [roomI_yes (isB_true.2 ⟨by omega, by omega⟩)]
    unfold clsI; (repeat' split) <;> simp [sizI] <;> omega
  · rw [roomI_yes (isB_true.2 ⟨by omega, by omega⟩)]
    unfold clsI at h ⊢; (repeat' split) <;> simp_all [sizI] <;> omega
theorem least_per {f n : Int} (h0 : 0 ≤ f) (h1 : f ≤ 15) (n0 : 16 ≤ n) (n1 : n ≤ 256) : 1 ≤ perI n (clsI f) ∧ perI n (clsI f) ≤ 256 ∧ 0 ≤ perI n (clsI f) * sizI (clsI f) ∧ perI n (clsI f) * sizI (clsI f) ≤ n ∧ n < (perI n (clsI f) + 1) * sizI (clsI f) ∧ (perI n (clsI f) + 1) * sizI (clsI f) ≤ 100000 := by
  have hk := (least_facts h0 h1).1
  obtain ⟨s0, s1⟩ := sizI_bd hk
  rw [perI_yes hk (wordsB_true.2 ⟨n0, n1⟩)]
  have hp : sizI (clsI f) = 2 ∨ sizI (clsI f) = 4 ∨ sizI (clsI f) = 8 ∨ sizI (clsI f) = 16 := by
    unfold clsI; (repeat' split) <;> simp [sizI]
  rcases hp with h | h | h | h <;> rw [h] <;> omega

end Go.Proofs.YthpgnlcmpoldfaaGreatDoor.Class

namespace Go.Proofs.YthpgnlcmpoldfaaGreatDoor.Class
open Go.RowKit

theorem per_mono {x y c : Int} (hc : isB c = true) (x0 : 16 ≤ x) (hxy : x ≤ y) (y1 : y ≤ 256) : perI x c ≤ perI y c := by
  obtain ⟨s0, s1⟩ := sizI_bd hc
  rw [perI_yes hc (wordsB_true.2 ⟨x0, by omega⟩), perI_yes hc (wordsB_true.2 ⟨by omega, y1⟩)]
  exact Int.ediv_le_ediv (by omega) hxy
theorem per_down {x c : Int} (hc : isB c = true) (hd : isB (c + 1) = true) (x0 : 16 ≤ x) (x1 : x ≤ 256) : perI x (c + 1) ≤ perI x c := by
  rw [perI_yes hc (wordsB_true.2 ⟨x0, x1⟩), perI_yes hd (wordsB_true.2 ⟨x0, x1⟩)]
  rw [isB_true] at hc hd
  have : c = 0 ∨ c = 1 ∨ c = 2 := by omega
  rcases this with rfl | rfl | rfl <;> simp [sizI] <;> omega

end Go.Proofs.YthpgnlcmpoldfaaGreatDoor.Class

namespace Go.Proofs.YthpgnlcmpoldfaaGreatDoor.Class
open Go.RowKit Go.Shelf

attribute [local go_sem] Oper.semAt_some

/-- What the body of a round keeps: whatever lay below n₀, and the cell of a box. -/
def KpF (n₀ Bs : Nat) (W W' : World) : Prop := Below n₀ W W' ∧ ∀ v, W.cell? ⟨Bs, 0, none⟩ = some v → W'.cell? ⟨Bs, 0, none⟩ = some v
theorem kpF_t {n₀ Bs : Nat} {A B C : World} (h : KpF n₀ Bs A B) (k : KpF n₀ Bs B C) : KpF n₀ Bs A C := ⟨h.1.trans k.1, fun v hv => k.2 v (h.2 v hv)⟩
theorem kpF_b {n₀ Bs : Nat} {w : World} (hn : n₀ ≤ w.heap.size) (W : World) (l : Nat) (o o' : Obj) (hl : w.heap.size ≤ l) (h : W.heap[l]? = some o) (hc : o.isCells = false) (hw : o.isWalk = false) : KpF n₀ Bs W (W.putObj l o') :=
  ⟨belowK_b hn W l o o' hl h hc hw, fun _ hv => cell_kept hv (grownBy_putObj' W l o') (fun r e => by cases e; exact ⟨o, h, hc⟩)⟩
theorem boxed_keep {W W' : World} {row : Option Nat} {B : Nat} {t : TypeId} {v : Value} (h : Boxed W B t v) (hg : W.grownBy W' row) (hr : ∀ r, row = some r → ∃ o : Obj, W.heap[r]? = some o ∧ o.isCells = false) : Boxed W' B t v :=
  h.kept hg (fun e => by obtain ⟨o, ho, hc⟩ := hr B e.symm; rw [show W.heap[B]? = _ from h] at ho; cases ho; cases hc)

/-- What a block's slots are told as: the number, and the first word. -/
def encS (k : Int) (i : Nat) : Array Value := #[.int .i64 (i : Int), .int .i64 ((i : Int) * sizI k)]

theorem per_bd (n k : Int) : 0 ≤ perI n k ∧ perI n k ≤ 128 := by
  by_cases h : isB k = true
  · by_cases h2 : wordsB n = true
    · obtain ⟨s0, s1⟩ := sizI_bd h
      obtain ⟨n0, n1⟩ := wordsB_true.1 h2
      rw [perI_yes h h2]
      refine ⟨Int.ediv_nonneg (by omega) (by omega), ?_⟩
      have : n / sizI k < 129 := Int.ediv_lt_of_lt_mul (by omega) (by have := Int.mul_le_mul (show (129:Int) ≤ 129 by omega) s0 (by omega) (by omega); omega)
      omega
    · rw [perI_noW (by simpa using h2)]; omega
  · rw [perI_noC (by simpa using h)]; omega
theorem siz_bd0 (k : Int) : 0 ≤ sizI k ∧ sizI k ≤ 16 := by unfold sizI; (repeat' split) <;> omega
theorem mul_bd (k : Int) {i : Nat} (hi : i ≤ 128) : 0 ≤ (i : Int) * sizI k ∧ (i : Int) * sizI k ≤ 100000 := by
  obtain ⟨s0, s1⟩ := siz_bd0 k
  exact ⟨Int.mul_nonneg (by omega) s0, Int.le_trans (Int.mul_le_mul (show (i : Int) ≤ 128 by omega) s1 s0 (by omega)) (by decide)⟩

set_option maxRecDepth 100000 in
set_option maxHeartbeats 2000000 in
theorem starts1_in (n : Nat) (hn : 1 ≤ n) (l Bw Bk n₀ : Nat) (words k : Int) (hg : 2 < n₀) (N : Nat) (hN : perI words k = (N : Int)) (J Jx : List Nat → World → Prop)
    (hY : ∀ pre x W, J pre W → pre.length < N → YieldAt Fence.wide (n - 1) Tryz.prog l (encS k x) W fun e W' =>
      (e = .returned (.bool true) ∧ J (pre ++ [x]) W' ∧ KpF n₀ Bk W W') ∨ (e = .returned (.bool false) ∧ Jx (pre ++ [x]) W'))
    (W : World) (hBw : W.cell? ⟨Bw, 0, none⟩ = some (.int .i64 words)) (hBk : W.cell? ⟨Bk, 0, none⟩ = some (.int .i64 k)) (ht : SizTab W) (h0 : J [] W) :
    CallsIn Fence.wide n Tryz.prog 214 #[.func (.yield l) #[] #[], .pointer (some ⟨Bw, 0, none⟩), .pointer (some ⟨Bk, 0, none⟩)] W fun e W' => (∃ v, e = .returned v) ∧
      ((∃ ys, ys = List.range N ∧ J ys W') ∨ (∃ pre, (∃ m, m ≤ N ∧ pre = List.range m) ∧ Jx pre W')) := by
  have HT := Lib.hid ht
  have HN := Lib.hid hN
  have hb := per_bd words k
  rw [hN] at hb
  clear ht hN
  refine callsIn_of_wp Tryz.func214 rfl trivial ?_ rfl
  simp only [Tryz.ntmps214, List.size_toArray, List.length_cons, List.length_nil, Nat.reduceAdd, Nat.reduceSub, Array.replicate_succ, Array.replicate_zero, List.push_toArray, List.append_toArray, List.nil_append, List.cons_append]
  gi_wp2_with (refine ⟨trivial, ?_⟩; gi_at_call 212; refine (callsIn_wide.2 (per_any _ _ _ HT.out)).mono ?_; rintro e w' ⟨rfl, rfl⟩; rw [HN.out])
  clear hBw
  gi_loopw [8] (fun i wr => ∃ m : Nat, m ≤ N ∧ i = .int .i64 (m : Int) ∧ J (List.range m) wr ∧ KpF n₀ Bk W wr)
    (fun i _ => N - (intOf i).toNat)
  case atStart => exact ⟨0, Nat.zero_le _, by simp, h0, Below.refl _ _, fun _ h => h⟩
  case round =>
    obtain ⟨m, hm, rfl, hJs, hnx⟩ := hrel
    have hBk' := hnx.2 _ hBk
    have HT' := Lib.hid (HT.out.below hnx.1 hg)
    by_cases hlt : m < N
    · obtain ⟨fn, tmps, assign, body, hy, hR⟩ := hY _ m wr hJs (by rw [List.length_range]; omega)
      unfold encS at hy
      obtain ⟨m0, m1⟩ := mul_bd k (i := m) (by omega)
      gi_wp2_with (refine ⟨trivial, ?_⟩; gi_at_call 213; refine (callsIn_wide.2 (size_any _ _ HT'.out)).mono ?_; rintro e w' ⟨rfl, rfl⟩)
      refine hR.mono ?_
      rintro e W3 (⟨rfl, hJ3, hk3⟩ | ⟨rfl, hJx3⟩)
      · gi_wp2
        go_roundw
        case rel => exact ⟨m + 1, by omega, by go_num, by rw [List.range_succ]; exact hJ3, kpF_t hnx hk3⟩
        case measure => simp [intOf]; omega
      · gi_wp2
        refine bodyPost_ret (results_none rfl _ _ _) rfl ?_
        exact ⟨⟨_, rfl⟩, .inr ⟨_, ⟨m + 1, by omega, List.range_succ.symm⟩, hJx3⟩⟩
    · gi_wp2
      go_end0
      exact ⟨⟨_, rfl⟩, .inl ⟨_, rfl, by rw [show N = m from by omega]; exact hJs⟩⟩

/-- A block's slots, as whatever loop takes them. -/
theorem starts_stops (n : Nat) (hn : 1 ≤ n) (Bw Bk n₀ : Nat) (words k : Int) (hg : 2 < n₀) (N : Nat) (hN : perI words k = (N : Int)) (w : World) (_ : n₀ ≤ w.heap.size)
    (hBw : w.cell? ⟨Bw, 0, none⟩ = some (.int .i64 words)) (hBk : w.cell? ⟨Bk, 0, none⟩ = some (.int .i64 k)) (hBwl : Bw < w.heap.size) (hBkl : Bk < w.heap.size) (ht : SizTab w) :
    SeqStopsK Fence.wide n Tryz.prog 214 #[.pointer (some ⟨Bw, 0, none⟩), .pointer (some ⟨Bk, 0, none⟩)] (encS k) (KpF n₀ Bk) (fun ys => ys = List.range N)
      (fun pre => ∃ m, m ≤ N ∧ pre = List.range m) N w := fun l J Jx W hW _ _ hY h0 =>
  starts1_in n hn l Bw Bk n₀ words k hg N hN J Jx hY W ((hW.cell (p := ⟨Bw, 0, none⟩) hBwl).trans hBw) ((hW.cell (p := ⟨Bk, 0, none⟩) hBkl).trans hBk) (ht.later hW) h0

/-- class.Starts: two boxes are laid; the function value captures them. -/
theorem starts_any (words k : Int) (w : World) :
    Calls Tryz.prog 157 #[.int .i64 words, .int .i64 k] w fun e w' => e = .returned (.func (.func 214) #[] #[.pointer (some ⟨w.heap.size, 0, none⟩), .pointer (some ⟨w.heap.size + 1, 0, none⟩)])
      ∧ (w.alloc (.cells #[.int .i64 words] 3)).alloc (.cells #[.int .i64 k] 3) = w' := by
  go_enter Tryz.func157, Tryz.ntmps157
  go_wp2
  go_ret
  exact ⟨rfl, rfl⟩
end Go.Proofs.YthpgnlcmpoldfaaGreatDoor.Class
