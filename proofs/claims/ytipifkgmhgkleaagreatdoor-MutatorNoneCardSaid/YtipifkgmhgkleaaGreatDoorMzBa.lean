/-
  Texts one behind the other: Bas Cfg Row Hdr (theorems that nobody names are left out).
-/
import Derived.Test.YtipifkgmhgkleaaGreatDoorRows
import Derived.WalkKit
import Derived.ProofKit
import Derived.OpenShut
import Derived.Deep.DeepHandedRow
import Derived.WalkSpells
import Derived.WalkLawsBesides
import Derived.Deep.QuietTactic
import Derived.BigQuiet
import Derived.Deep.RegionHeld3
import Derived.Lib.Hide
import Derived.IntWalk
import Derived.RangeFuncNested
import Derived.RangeFuncBound
import Derived.RangeFuncCalls
import Derived.RangeFuncLeaves
import Derived.Shelf.Abstract
import Derived.Shelf.RegionOpen
import Derived.OwnWalkIn
import Derived.TacticsInMore
import Derived.LoopNIn
import Derived.LoopIn
import Derived.Deep.RegionWith
import Derived.Lib.Walk
import Derived.Lib.SliceRun
import Derived.Maps.OwnIn
import Derived.Maps.AppendAt
import Derived.Deep.RegionLaw
import Derived.Laws.BitsAllLaws
namespace Go.Proofs.YtipifkgmhgkleaaGreatDoor
open Go.ChangeShapes Go.WideShapes Go.ChangeAt Go.RowKit

section
variable {H : Type} {enc : TypeId × Value → H} {P : Program}

/-- What lay below reads behind the call as it read before it, argument by argument. -/
theorem trodAll_later (hl : laidOutB P = true) {W W' : World} (hb : Below W.heap.size W W') : ∀ (ts : List TypeId) (vs : List Value) (ds : List (DataW H)) (ps : List MemPlace),
    (∀ t ∈ ts, P.readableRec t = true ∧ t < P.types.size) → DataW.TrodAll enc P W 0 (fun _ => true) true ts vs ds ps → (∀ x ∈ ps, x.block < W.heap.size) →
    DataW.TrodAll enc P W' 0 (fun b => decide (b < W.heap.size)) true ts vs ds ps
  | [], vs, ds, ps, _, h, _ => by
    obtain ⟨rfl, rfl, rfl⟩ := trodAll_nil h
    exact trodAll_mk0
  | t :: ts, vs, ds, ps, hr, h, hlt => by
    obtain ⟨v, vs', d, ds', p, q, rfl, rfl, rfl, h0, h1⟩ := trodAll_cons h
    obtain ⟨ha, hz⟩ := hr t (by simp)
    exact trodAll_cons_mk (Below.trod hl ha hz h0 hb (fun x hx => hlt x (by simp [hx]))) (trodAll_later hl hb ts vs' ds' q (fun u hu => hr u (by simp [hu])) h1 (fun x hx => hlt x (by simp [hx])))

theorem law_post {f : Func} {s : ChangeSpec} {tb : TypeId} {W W' : World} {args : Array Value} {ds : List (DataW H)} {before : List MemPlace} (hl : laidOutB P = true)
    (hW : DataW.Whole enc P f.params.toList s.vars false W args.toList ds [] before) (hvars : s.vars = []) (hres : f.resultTypes = #[tb]) (htb : P.underlying tb = some .bool)
    (hfn : s.fn H (ds ++ []) = { results := [.lit (.bool true)], args := ds }) (hr : ∀ t ∈ f.params.toList, P.readableRec t = true ∧ t < P.types.size) (hb : Below W.heap.size W W') :
    s.post enc P f false true false false W args (.bool true) W' := by
  have hlt : ∀ p ∈ before, p.block < W.heap.size := fun p hp => hW.lt p hp
  have hW' := hW
  obtain ⟨p, q, hA, hV, rfl, _, _⟩ := hW
  have hq : q = [] := by rw [hvars] at hV; exact hV
  subst hq
  refine ⟨ds, [], p ++ [], [], p, [], hW', ?_, ?_, ?_, hb.frame _, fun h => by cases h⟩
  · rw [hfn, hres]
    exact trodAll_cons_mk (shut_bool htb _) trodAll_mk0
  · rw [hfn]
    exact trodAll_later hl hb _ _ _ _ hr hA (fun x hx => hlt x (by simp [hx]))
  · rw [hfn, hvars]
    rfl
end
theorem ownKn : ownKnob Tryz.prog.godebug = none := by kernel_rfl
theorem laidO : laidOutB Tryz.prog = true := by kernel_rfl
end Go.Proofs.YtipifkgmhgkleaaGreatDoor

namespace Go.Proofs.YtipifkgmhgkleaaGreatDoor.Class
open Go.RowKit

theorem ret_int {k : IntKind} {a b : Int} (h : a = b) : Ending.returned (.int k a) = .returned (.int k b) := by rw [h]
theorem ret_bool {a b : Bool} (h : a = b) : Ending.returned (.bool a) = .returned (.bool b) := by rw [h]

/-- The table of sizes, cell by cell. -/
structure SizTab (w : World) : Prop where
  s0 : w.cell? ⟨9, 0, none⟩ = some (.int .i64 2)
  s1 : w.cell? ⟨9, 1, none⟩ = some (.int .i64 4)
  s2 : w.cell? ⟨9, 2, none⟩ = some (.int .i64 8)
  s3 : w.cell? ⟨9, 3, none⟩ = some (.int .i64 16)
  blk : 9 < w.heap.size

theorem SizTab.below {n : Nat} {w w' : World} (h : SizTab w) (hb : Below n w w') (hn : 9 < n) : SizTab w' :=
  ⟨(hb.cell (p := ⟨_, 0, none⟩) hn).trans h.s0, (hb.cell (p := ⟨_, 1, none⟩) hn).trans h.s1, (hb.cell (p := ⟨_, 2, none⟩) hn).trans h.s2, (hb.cell (p := ⟨_, 3, none⟩) hn).trans h.s3, Nat.lt_of_lt_of_le h.blk hb.size⟩
theorem SizTab.alloc {w : World} (h : SizTab w) (o : Obj) : SizTab (w.alloc o) := h.below ((Below.refl _ _).alloc (Nat.le_refl _) _) h.blk
theorem SizTab.drew {w : World} (h : SizTab w) : SizTab w.drew := ⟨h.s0, h.s1, h.s2, h.s3, h.blk⟩
theorem SizTab.drewN {w : World} (h : SizTab w) (k : Nat) : SizTab (w.drewN k) := ⟨h.s0, h.s1, h.s2, h.s3, h.blk⟩
theorem SizTab.later {w w' : World} (h : SizTab w) (hb : Below w.heap.size w w') : SizTab w' := h.below hb h.blk

/-- Is a number a class? -/
def isB (k : Int) : Bool := decide (0 ≤ k) && decide (k < 4)
theorem isB_true {k : Int} : isB k = true ↔ 0 ≤ k ∧ k < 4 := by simp [isB]
theorem isB_false {k : Int} : isB k = false ↔ k < 0 ∨ 4 ≤ k := by
  rw [← Bool.not_eq_true, isB_true]; omega

/-- How many words a class's slots have; 0 of none. -/
def sizI (k : Int) : Int := if k = 0 then 2 else if k = 1 then 4 else if k = 2 then 8 else if k = 3 then 16 else 0
theorem sizI_no {k : Int} (h : isB k = false) : sizI k = 0 := by
  rw [isB_false] at h; unfold sizI; (repeat' split) <;> omega
theorem sizI_bd {k : Int} (h : isB k = true) : 2 ≤ sizI k ∧ sizI k ≤ 16 := by
  rw [isB_true] at h; unfold sizI; (repeat' split) <;> omega

theorem SizTab.at {w : World} (h : SizTab w) {k : Int} (hk : isB k = true) : w.cell? ⟨9, k.toNat, none⟩ = some (.int .i64 (sizI k)) := by
  rw [isB_true] at hk
  have : k = 0 ∨ k = 1 ∨ k = 2 ∨ k = 3 := by omega
  rcases this with rfl | rfl | rfl | rfl
  · exact h.s0
  · exact h.s1
  · exact h.s2
  · exact h.s3

set_option maxHeartbeats 400000 in
theorem is_any (k : Int) (w : World) : Calls Tryz.prog 283 #[.int .i64 k] w fun e w' => e = .returned (.bool (isB k)) ∧ w = w' := by
  by_cases h0 : 0 ≤ k
  · by_cases h4 : k < 4
    · rw [show isB k = true from isB_true.2 ⟨h0, h4⟩]
      go_enter Tryz.func283, Tryz.ntmps283
      go_wp2
      go_ret
      exact ⟨rfl, rfl⟩
    · rw [show isB k = false from isB_false.2 (by omega)]
      go_enter Tryz.func283, Tryz.ntmps283
      go_wp2
      go_ret
      exact ⟨rfl, rfl⟩
  · rw [show isB k = false from isB_false.2 (by omega)]
    go_enter Tryz.func283, Tryz.ntmps283
    go_wp2
    go_ret
    exact ⟨rfl, rfl⟩

set_option maxHeartbeats 400000 in
theorem size_any (k : Int) (w : World) (ht : SizTab w) : Calls Tryz.prog 343 #[.int .i64 k] w fun e w' => e = .returned (.int .i64 (sizI k)) ∧ w = w' := by
  by_cases hk : isB k = true
  · have hc := ht.at hk
    have hb := isB_true.1 hk
    obtain ⟨hb0, hb4⟩ := hb
    clear ht
    go_enter Tryz.func343, Tryz.ntmps343
    go_wp2_with (go_at_call 283; refine (is_any _ _).mono ?_; rintro e w' ⟨rfl, rfl⟩; rw [hk])
    go_ret
    exact ⟨rfl, rfl⟩
  · have hk : isB k = false := by simpa using hk
    rw [sizI_no hk]
    clear ht
    go_enter Tryz.func343, Tryz.ntmps343
    go_wp2_with (go_at_call 283; refine (is_any _ _).mono ?_; rintro e w' ⟨rfl, rfl⟩; rw [hk])
    go_ret
    exact ⟨rfl, rfl⟩

/-- How many fields a class's slots have; 0 of none. -/
def roomI (k : Int) : Int := if isB k = true then sizI k - 1 else 0
theorem roomI_yes {k : Int} (h : isB k = true) : roomI k = sizI k - 1 := if_pos h
theorem roomI_no {k : Int} (h : isB k = false) : roomI k = 0 := if_neg (by simp [h])

set_option maxHeartbeats 400000 in
theorem room_any (k : Int) (w : World) (ht : SizTab w) : Calls Tryz.prog 240 #[.int .i64 k] w fun e w' => e = .returned (.int .i64 (roomI k)) ∧ w = w' := by
  by_cases hk : isB k = true
  · have hc := ht.at hk
    obtain ⟨hb0, hb4⟩ := isB_true.1 hk
    obtain ⟨hs0, hs1⟩ := sizI_bd hk
    rw [roomI_yes hk]
    clear ht
    go_enter Tryz.func240, Tryz.ntmps240
    go_wp2_with (go_at_call 283; refine (is_any _ _).mono ?_; rintro e w' ⟨rfl, rfl⟩; rw [hk])
    go_ret
    exact ⟨rfl, rfl⟩
  · have hk : isB k = false := by simpa using hk
    rw [roomI_no hk]
    clear ht
    go_enter Tryz.func240, Tryz.ntmps240
    go_wp2_with (go_at_call 283; refine (is_any _ _).mono ?_; rintro e w' ⟨rfl, rfl⟩; rw [hk])
    go_ret
    exact ⟨rfl, rfl⟩

/-- May a block have so many words? -/
def wordsB (n : Int) : Bool := decide (16 ≤ n) && decide (n ≤ 256)
theorem wordsB_true {n : Int} : wordsB n = true ↔ 16 ≤ n ∧ n ≤ 256 := by simp [wordsB]
theorem wordsB_false {n : Int} : wordsB n = false ↔ n < 16 ∨ 256 < n := by
  rw [← Bool.not_eq_true, wordsB_true]; omega

/-- How many slots a block has. -/
def perI (n k : Int) : Int := if isB k = true ∧ wordsB n = true then n / sizI k else 0
theorem perI_yes {n k : Int} (h : isB k = true) (h2 : wordsB n = true) : perI n k = n / sizI k := if_pos ⟨h, h2⟩
theorem perI_noC {n k : Int} (h : isB k = false) : perI n k = 0 := if_neg (by simp [h])
theorem perI_noW {n k : Int} (h : wordsB n = false) : perI n k = 0 := if_neg (by simp [h])

set_option maxHeartbeats 400000 in
theorem per_any (n k : Int) (w : World) (ht : SizTab w) : Calls Tryz.prog 342 #[.int .i64 n, .int .i64 k] w fun e w' => e = .returned (.int .i64 (perI n k)) ∧ w = w' := by
  by_cases hk : isB k = true
  · by_cases hn : wordsB n = true
    · have hc := ht.at hk
      obtain ⟨hb0, hb4⟩ := isB_true.1 hk
      obtain ⟨hs0, hs1⟩ := sizI_bd hk
      obtain ⟨hn0, hn1⟩ := wordsB_true.1 hn
      rw [perI_yes hk hn]
      clear ht
      go_enter Tryz.func342, Tryz.ntmps342
      go_wp2_with (go_at_call 283; refine (is_any _ _).mono ?_; rintro e w' ⟨rfl, rfl⟩; rw [hk])
      go_ret
      exact ⟨rfl, rfl⟩
    · have hn : wordsB n = false := by simpa using hn
      rw [perI_noW hn]
      rcases wordsB_false.1 hn with h | h
      · clear ht
        go_enter Tryz.func342, Tryz.ntmps342
        go_wp2_with (go_at_call 283; refine (is_any _ _).mono ?_; rintro e w' ⟨rfl, rfl⟩; rw [hk])
        go_ret
        exact ⟨rfl, rfl⟩
      · have h' : 16 ≤ n := by omega
        clear ht
        go_enter Tryz.func342, Tryz.ntmps342
        go_wp2_with (go_at_call 283; refine (is_any _ _).mono ?_; rintro e w' ⟨rfl, rfl⟩; rw [hk])
        go_ret
        exact ⟨rfl, rfl⟩
  · have hk : isB k = false := by simpa using hk
    rw [perI_noC hk]
    clear ht
    go_enter Tryz.func342, Tryz.ntmps342
    go_wp2_with (go_at_call 283; refine (is_any _ _).mono ?_; rintro e w' ⟨rfl, rfl⟩; rw [hk])
    go_ret
    exact ⟨rfl, rfl⟩
end Go.Proofs.YtipifkgmhgkleaaGreatDoor.Class

namespace Go.Proofs.YtipifkgmhgkleaaGreatDoor.Class
open Go.RowKit

/-- The class of an object. -/
def clsI (f : Int) : Int := if f ≤ 1 then 0 else if f ≤ 3 then 1 else if f ≤ 7 then 2 else 3
theorem isB_nat {c : Nat} (h : c ≤ 3) : isB (c : Int) = true := isB_true.2 ⟨by omega, by omega⟩
theorem room_nat {c : Nat} (h : c ≤ 3) : roomI (c : Int) = if c = 0 then 1 else if c = 1 then 3 else if c = 2 then 7 else 15 := by
  rw [roomI_yes (isB_nat h)]
  have : c = 0 ∨ c = 1 ∨ c = 2 ∨ c = 3 := by omega
  rcases this with rfl | rfl | rfl | rfl <;> rfl

set_option maxHeartbeats 1000000 in
theorem of_yes (f : Int) (w : World) (ht : SizTab w) (h0 : 0 ≤ f) (h1 : f ≤ 15) : Calls Tryz.prog 189 #[.int .i64 f] w fun e w' => e = .returned (.tuple #[.int .i64 (clsI f), .bool true]) ∧ w = w' := by
  have HT := Lib.hid ht
  clear ht
  go_enter Tryz.func189, Tryz.ntmps189
  go_wp2
  go_loop [11] (fun i => ∃ c : Nat, c ≤ 3 ∧ i = .int .i64 c ∧ (c = 0 ∨ (c = 1 ∧ 1 < f) ∨ (c = 2 ∧ 3 < f) ∨ (c = 3 ∧ 7 < f))) (fun i => 4 - (intOf i).toNat)
  case atStart => exact ⟨0, by omega, rfl, .inl rfl⟩
  case round =>
    obtain ⟨c, hc, rfl, hr⟩ := hrel
    have hrm := room_nat hc
    by_cases hf : f ≤ roomI c
    · have HF := Lib.hid hf
      have HR := Lib.hid hr
      have HM := Lib.hid hrm
      clear hr hrm
      go_wp2_with (go_at_call 240; refine (room_any _ _ HT.out).mono ?_; rintro e w' ⟨rfl, rfl⟩)
      go_ret2
      have hr := HR.out
      have hm := HM.out
      have hf := HF.out
      refine ⟨?_, rfl⟩
      rw [hm] at hf
      have : (c : Int) = clsI f := by
        unfold clsI
        (repeat' split at hf) <;> (repeat' split) <;> omega
      rw [this]
      rfl
    · have HR := Lib.hid hr
      have HM := Lib.hid hrm
      have HF := Lib.hid hf
      have hf' : roomI c < f := by omega
      clear hr hrm hf
      go_wp2_with (go_at_call 240; refine (room_any _ _ HT.out).mono ?_; rintro e w' ⟨rfl, rfl⟩)
      go_round
      case rel =>
        have hr := HR.out
        have hm := HM.out
        rw [hm] at hf'
        refine ⟨c + 1, ?_, by go_num, ?_⟩
        · (repeat' split at hf') <;> omega
        · (repeat' split at hf') <;> omega
      case measure => simp [intOf]; omega

/-- A size, by doubling. -/
def dbl (i : Nat) : Int := if i = 0 then 2 else if i = 1 then 4 else if i = 2 then 8 else 16

end Go.Proofs.YtipifkgmhgkleaaGreatDoor.Class

namespace Go.Proofs.YtipifkgmhgkleaaGreatDoor.Class
open Go.RowKit

theorem quiet_left {P : Program} {f : FuncId} {args : Array Value} {w : World} {n : Nat} {v : Value}
    (h : Calls P f args (w.drewN n) fun e w' => e = .returned v ∧ w.drewN n = w') : Calls P f args (w.drewN n) fun e w'' => e = .returned v ∧ ∃ m, w'' = w.drewN m :=
  h.mono fun _ _ ⟨he, hm⟩ => ⟨he, n, hm.symm⟩
theorem quiet_add_left {P : Program} {f : FuncId} {args : Array Value} {w : World} {a n : Nat} {v : Value}
    (h : Calls P f args (w.drewN (a + n)) fun e w' => e = .returned v ∧ w.drewN (a + n) = w') :
    Calls P f args (w.drewN (a + n)) fun e w'' => e = .returned v ∧ ∃ m, w'' = w.drewN (a + m) :=
  h.mono fun _ _ ⟨he, hm⟩ => ⟨he, n, hm.symm⟩
theorem below_drewN {B : Nat} {a w : World} (h : Below B a w) (n : Nat) : Below B a (w.drewN n) := ⟨h.os, h.tape, h.output, h.size, h.block⟩

theorem clsI_bd (f : Int) : 0 ≤ clsI f ∧ clsI f ≤ 3 := by unfold clsI; (repeat' split) <;> omega

end Go.Proofs.YtipifkgmhgkleaaGreatDoor.Class

namespace Go.Proofs.YtipifkgmhgkleaaGreatDoor.Class
open Go.RowKit

end Go.Proofs.YtipifkgmhgkleaaGreatDoor.Class

namespace Go.Proofs.YtipifkgmhgkleaaGreatDoor.Class
open Go.RowKit Go.Shelf

attribute [local go_sem] Oper.semAt_some

/-- What the body of a round keeps: whatever lay below n₀, and the cell of a box. -/
def KpF (n₀ Bs : Nat) (W W' : World) : Prop := Below n₀ W W' ∧ ∀ v, W.cell? ⟨Bs, 0, none⟩ = some v → W'.cell? ⟨Bs, 0, none⟩ = some v

/-- What a block's slots are told as: the number, and the first word. -/
def encS (k : Int) (i : Nat) : Array Value := #[.int .i64 (i : Int), .int .i64 ((i : Int) * sizI k)]

theorem per_bd (n k : Int) : 0 ≤ perI n k ∧ perI n k ≤ 128 := by
  by_cases h : isB k = true
  · by_cases h2 : wordsB n = true
    · obtain ⟨s0, s1⟩ := sizI_bd h
      obtain ⟨n0, n1⟩ := wordsB_true.1 h2
      rw [perI_yes h h2]
      refine ⟨Int.ediv_nonneg (by omega) (by omega), ?_⟩
      have : n / sizI k < 129 := Int.ediv_lt_of_lt_mul (by omega) (by have := Int.mul_le_mul (show (129:Int) ≤ 129 by omega) s0 (by omega) (by omega); omega)
      omega
    · rw [perI_noW (by simpa using h2)]; omega
  · rw [perI_noC (by simpa using h)]; omega
theorem siz_bd0 (k : Int) : 0 ≤ sizI k ∧ sizI k ≤ 16 := by unfold sizI; (repeat' split) <;> omega
theorem mul_bd (k : Int) {i : Nat} (hi : i ≤ 128) : 0 ≤ (i : Int) * sizI k ∧ (i : Int) * sizI k ≤ 100000 := by
  obtain ⟨s0, s1⟩ := siz_bd0 k
  exact ⟨Int.mul_nonneg (by omega) s0, Int.le_trans (Int.mul_le_mul (show (i : Int) ≤ 128 by omega) s1 s0 (by omega)) (by decide)⟩

/-- class.Starts: two boxes are laid; the function value captures them. -/
theorem starts_any (words k : Int) (w : World) :
    Calls Tryz.prog 334 #[.int .i64 words, .int .i64 k] w fun e w' => e = .returned (.func (.func 344) #[] #[.pointer (some ⟨w.heap.size, 0, none⟩), .pointer (some ⟨w.heap.size + 1, 0, none⟩)])
      ∧ (w.alloc (.cells #[.int .i64 words] 3)).alloc (.cells #[.int .i64 k] 3) = w' := by
  go_enter Tryz.func334, Tryz.ntmps334
  go_wp2
  go_ret
  exact ⟨rfl, rfl⟩
end Go.Proofs.YtipifkgmhgkleaaGreatDoor.Class

namespace Go.Proofs.YtipifkgmhgkleaaGreatDoor
open Go.RowKit

theorem below_drewN {B : Nat} {a w : World} (h : Below B a w) (n : Nat) : Below B a (w.drewN n) := ⟨h.os, h.tape, h.output, h.size, h.block⟩

/-- A number brought to the nearest that may be. -/
def nearI (n lo hi : Int) : Int := if hi < (if n < lo then lo else n) then hi else (if n < lo then lo else n)

theorem ret_int {k : IntKind} {a b : Int} (h : a = b) : Ending.returned (.int k a) = .returned (.int k b) := by rw [h]

/-- The table of limits, cell by cell. -/
structure LimTab (w : World) : Prop where
  l0 : w.cell? ⟨2, 0, none⟩ = some (.int .i64 1)
  h0 : w.cell? ⟨2, 1, none⟩ = some (.int .i64 4096)
  l1 : w.cell? ⟨2, 2, none⟩ = some (.int .i64 16)
  h1 : w.cell? ⟨2, 3, none⟩ = some (.int .i64 256)
  l2 : w.cell? ⟨2, 4, none⟩ = some (.int .i64 1)
  h2 : w.cell? ⟨2, 5, none⟩ = some (.int .i64 8)
  l3 : w.cell? ⟨2, 6, none⟩ = some (.int .i64 1)
  h3 : w.cell? ⟨2, 7, none⟩ = some (.int .i64 64)
  l4 : w.cell? ⟨2, 8, none⟩ = some (.int .i64 0)
  h4 : w.cell? ⟨2, 9, none⟩ = some (.int .i64 64)
  l5 : w.cell? ⟨2, 10, none⟩ = some (.int .i64 1)
  h5 : w.cell? ⟨2, 11, none⟩ = some (.int .i64 256)
  l6 : w.cell? ⟨2, 12, none⟩ = some (.int .i64 1)
  h6 : w.cell? ⟨2, 13, none⟩ = some (.int .i64 4096)
  blk : 2 < w.heap.size

theorem LimTab.below {n : Nat} {w w' : World} (h : LimTab w) (hb : Below n w w') (hn : 2 < n) : LimTab w' :=
  ⟨(hb.cell (p := ⟨_, 0, none⟩) hn).trans h.l0, (hb.cell (p := ⟨_, 1, none⟩) hn).trans h.h0, (hb.cell (p := ⟨_, 2, none⟩) hn).trans h.l1, (hb.cell (p := ⟨_, 3, none⟩) hn).trans h.h1,
   (hb.cell (p := ⟨_, 4, none⟩) hn).trans h.l2, (hb.cell (p := ⟨_, 5, none⟩) hn).trans h.h2, (hb.cell (p := ⟨_, 6, none⟩) hn).trans h.l3, (hb.cell (p := ⟨_, 7, none⟩) hn).trans h.h3,
   (hb.cell (p := ⟨_, 8, none⟩) hn).trans h.l4, (hb.cell (p := ⟨_, 9, none⟩) hn).trans h.h4, (hb.cell (p := ⟨_, 10, none⟩) hn).trans h.l5, (hb.cell (p := ⟨_, 11, none⟩) hn).trans h.h5,
   (hb.cell (p := ⟨_, 12, none⟩) hn).trans h.l6, (hb.cell (p := ⟨_, 13, none⟩) hn).trans h.h6, Nat.lt_of_lt_of_le h.blk hb.size⟩

set_option maxHeartbeats 400000 in
theorem clamp1_any (p : Nat) (n : Int) (lo hi : Int) (w : World) (hp : p < 7)
    (h1 : w.cell? ⟨2, p * 2, none⟩ = some (.int .i64 lo)) (h2 : w.cell? ⟨2, p * 2 + 1, none⟩ = some (.int .i64 hi)) :
    Calls Tryz.prog 137 #[.int .i64 p, .int .i64 n] w fun e w' => e = .returned (.int .i64 (nearI n lo hi)) ∧ ∃ k, w' = w.drewN k := by
  go_enter Tryz.func137, Tryz.ntmps137
  go_wp2
  go_quiet (fail)
  go_wp2
  all_goals go_ret
  all_goals (refine ⟨ret_int ?_, _, rfl⟩; unfold nearI; (repeat' split) <;> omega)

theorem LimTab.alloc {w : World} (h : LimTab w) (o : Obj) : LimTab (w.alloc o) := h.below ((Below.refl _ _).alloc (Nat.le_refl _) _) h.blk
theorem LimTab.drew {w : World} (h : LimTab w) : LimTab w.drew := ⟨h.l0, h.h0, h.l1, h.h1, h.l2, h.h2, h.l3, h.h3, h.l4, h.h4, h.l5, h.h5, h.l6, h.h6, h.blk⟩
theorem LimTab.drewN {w : World} (h : LimTab w) (k : Nat) : LimTab (w.drewN k) := ⟨h.l0, h.h0, h.l1, h.h1, h.l2, h.h2, h.l3, h.h3, h.l4, h.h4, h.l5, h.h5, h.l6, h.h6, h.blk⟩
/-- A number of a place, brought to the nearest that may be. -/
def clampAt (p n : Int) : Int := if p = 0 then nearI n 1 4096 else if p = 1 then nearI n 16 256 else if p = 2 then nearI n 1 8 else if p = 3 then nearI n 1 64 else if p = 4 then nearI n 0 64 else if p = 5 then nearI n 1 256 else nearI n 1 4096
theorem clamp1_all (p n : Int) (h0 : 0 ≤ p) (h7 : p < 7) (w : World) (ht : LimTab w) :
    Calls Tryz.prog 137 #[.int .i64 p, .int .i64 n] w fun e w' => e = .returned (.int .i64 (clampAt p n)) ∧ ∃ k, w' = w.drewN k := by
  have hp : p = 0 ∨ p = 1 ∨ p = 2 ∨ p = 3 ∨ p = 4 ∨ p = 5 ∨ p = 6 := by omega
  rcases hp with rfl | rfl | rfl | rfl | rfl | rfl | rfl
  · exact clamp1_any 0 n 1 4096 w (by decide) ht.l0 ht.h0
  · exact clamp1_any 1 n 16 256 w (by decide) ht.l1 ht.h1
  · exact clamp1_any 2 n 1 8 w (by decide) ht.l2 ht.h2
  · exact clamp1_any 3 n 1 64 w (by decide) ht.l3 ht.h3
  · exact clamp1_any 4 n 0 64 w (by decide) ht.l4 ht.h4
  · exact clamp1_any 5 n 1 256 w (by decide) ht.l5 ht.h5
  · exact clamp1_any 6 n 1 4096 w (by decide) ht.l6 ht.h6

/-- What is clamped. -/
def clampV (b wd m r ce lg st : Int) : Value := .agg #[.int .i64 (clampAt 0 b), .int .i64 (clampAt 1 wd), .int .i64 (clampAt 2 m), .int .i64 (clampAt 3 r), .int .i64 (clampAt 4 ce), .int .i64 (clampAt 5 lg), .int .i64 (clampAt 6 st)]

set_option maxHeartbeats 1000000 in
theorem each_any (b wd m r ce lg st : Int) (w : World) (ht : LimTab w) :
    Calls Tryz.prog 136 #[.agg #[.int .i64 b, .int .i64 wd, .int .i64 m, .int .i64 r, .int .i64 ce, .int .i64 lg, .int .i64 st], .func (.func 137) #[] #[]] w
      fun e w' => e = .returned (clampV b wd m r ce lg st) ∧ Below w.heap.size w w' := by
  go_enter Tryz.func136, Tryz.ntmps136
  go_wp2
  go_region_held3 (fun w' => w'.cell? ⟨w.heap.size, 0, none⟩ = some (.int .i64 b) ∧ w'.cell? ⟨w.heap.size, 1, none⟩ = some (.int .i64 wd) ∧ w'.cell? ⟨w.heap.size, 2, none⟩ = some (.int .i64 m)
     ∧ w'.cell? ⟨w.heap.size, 3, none⟩ = some (.int .i64 r) ∧ w'.cell? ⟨w.heap.size, 4, none⟩ = some (.int .i64 ce) ∧ w'.cell? ⟨w.heap.size, 5, none⟩ = some (.int .i64 lg) ∧ w'.cell? ⟨w.heap.size, 6, none⟩ = some (.int .i64 st)) (go_keep)
    (first
      | (go_at_call 137; refine (clamp1_all _ _ (by decide) (by decide) _ (by repeat (first | exact ht | apply LimTab.drewN | apply LimTab.drew | apply LimTab.alloc))).mono ?_; rintro e w' ⟨rfl, kd, rfl⟩))
  rename_i hheld
  clear hheld
  generalize 1 + _ + _ + _ + _ + _ + _ + _ = kk
  go_wp2
  refine bodyPost_ret (v := clampV b wd m r ce lg st) (by simp [results, Tryz.results136, go_sem, clampV]) rfl ⟨rfl, ?_⟩
  exact (((((((below_drewN (((Below.refl _ _).alloc (Nat.le_refl _) _).alloc (by simp) _) kk).setCell (by simp) _).setCell (by simp) _).setCell (by simp) _).setCell (by simp) _).setCell (by simp) _).setCell (by simp) _).setCell (by simp) _
end Go.Proofs.YtipifkgmhgkleaaGreatDoor

namespace Go.Proofs.YtipifkgmhgkleaaGreatDoor
open Go.RowKit

theorem bcell {W w1 : World} (hb : Below W.heap.size W w1) : (∀ b o, b < W.heap.size → w1.cell? ⟨b, o, none⟩ = W.cell? ⟨b, o, none⟩) ∧ (∀ b o, b < W.heap.size → w1.frozen? ⟨b, o, none⟩ = W.frozen? ⟨b, o, none⟩) :=
  ⟨fun b o h => hb.cell (p := ⟨b, o, none⟩) h, fun b o h => hb.frozen (p := ⟨b, o, none⟩) h⟩

set_option maxHeartbeats 1000000 in
theorem clamp_any (b wd m r ce lg st : Int) (w : World) (ht : LimTab w) :
    Calls Tryz.prog 104 #[.agg #[.int .i64 b, .int .i64 wd, .int .i64 m, .int .i64 r, .int .i64 ce, .int .i64 lg, .int .i64 st]] w
      fun e w' => e = .returned (clampV b wd m r ce lg st) ∧ Below w.heap.size w w' := by
  go_enter Tryz.func104, Tryz.ntmps104
  go_wp2_with (go_at_call 136; refine (each_any _ _ _ _ _ _ _ _ ((ht.alloc _).alloc _)).mono ?_; rintro e w' ⟨rfl, hb⟩; simp only [clampV]; obtain ⟨hc, hf⟩ := bcell hb)
  have b1 : Below w.heap.size w w' := (((Below.refl _ _).alloc (Nat.le_refl _) _).alloc (by simp) _).trans (hb.mono (by simp; omega))
  clear hb hf
  refine bodyPost_ret (v := clampV b wd m r ce lg st) (by simp [results, Tryz.results104, go_sem, clampV, hc]) rfl ⟨rfl, ?_⟩
  exact ((((((b1.setCell (by simp) _).setCell (by simp) _).setCell (by simp) _).setCell (by simp) _).setCell (by simp) _).setCell (by simp) _).setCell (by simp) _

theorem below_drew {B : Nat} {a w : World} (h : Below B a w) : Below B a w.drew := ⟨h.os, h.tape, h.output, h.size, h.block⟩

/-- Is a config right, by its seven numbers? -/
def rightB (b wd m r ce lg st : Int) : Bool := b == clampAt 0 b && (wd == clampAt 1 wd && (m == clampAt 2 m && (r == clampAt 3 r && (ce == clampAt 4 ce && (lg == clampAt 5 lg && st == clampAt 6 st)))))

theorem run_eq_cfg (b wd m r ce lg st b' wd' m' r' ce' lg' st' : Int) (w : World) :
    (binOp .eql 23 (.agg #[.int .i64 b, .int .i64 wd, .int .i64 m, .int .i64 r, .int .i64 ce, .int .i64 lg, .int .i64 st]) (.agg #[.int .i64 b', .int .i64 wd', .int .i64 m', .int .i64 r', .int .i64 ce', .int .i64 lg', .int .i64 st'])).run Tryz.prog w
      = .ok (.bool (b == b' && (wd == wd' && (m == m' && (r == r' && (ce == ce' && (lg == lg' && st == st'))))))) w := by
  have hp : Tryz.prog.stoodInHeld 23 = false := by kernel_rfl
  have hu := Tryz.underlying23
  have h3 := Tryz.underlying3
  have c3 : Tryz.prog.cellsOf 3 = 1 := by kernel_rfl
  rw [run_eql_struct, run_equalIn_agg _ _ _ _ _ (by unfold Program.fieldsOf; rw [hu]) hp]
  unfold Program.fieldsOf
  rw [hu]
  simp only [Op.eqFields]
  simp [go_sem, h3, part]
  (repeat' split) <;> simp [*]

theorem run_eq_right (b wd m r ce lg st : Int) (w : World) :
    (binOp .eql 23 (.agg #[.int .i64 b, .int .i64 wd, .int .i64 m, .int .i64 r, .int .i64 ce, .int .i64 lg, .int .i64 st]) (.agg #[.int .i64 (clampAt 0 b), .int .i64 (clampAt 1 wd), .int .i64 (clampAt 2 m), .int .i64 (clampAt 3 r), .int .i64 (clampAt 4 ce), .int .i64 (clampAt 5 lg), .int .i64 (clampAt 6 st)])).run Tryz.prog w
      = .ok (.bool (rightB b wd m r ce lg st)) w := run_eq_cfg _ _ _ _ _ _ _ _ _ _ _ _ _ _ w
theorem guardCfg : Tryz.prog.eqGuardType Tryz.prog.depth 23 = false := by kernel_rfl

set_option maxHeartbeats 1000000 in
theorem right_any (b wd m r ce lg st : Int) (w : World) (ht : LimTab w) :
    Calls Tryz.prog 76 #[.agg #[.int .i64 b, .int .i64 wd, .int .i64 m, .int .i64 r, .int .i64 ce, .int .i64 lg, .int .i64 st]] w
      fun e w' => e = .returned (.bool (rightB b wd m r ce lg st)) ∧ Below w.heap.size w w' := by
  have hq := fun w => run_eq_right b wd m r ce lg st w
  have hgd := guardCfg
  go_enter Tryz.func76, Tryz.ntmps76
  go_wp2
  go_region_held3 (fun w' => w'.cell? ⟨w.heap.size, 0, none⟩ = some (.int .i64 b) ∧ w'.cell? ⟨w.heap.size, 1, none⟩ = some (.int .i64 wd) ∧ w'.cell? ⟨w.heap.size, 2, none⟩ = some (.int .i64 m)
     ∧ w'.cell? ⟨w.heap.size, 3, none⟩ = some (.int .i64 r) ∧ w'.cell? ⟨w.heap.size, 4, none⟩ = some (.int .i64 ce) ∧ w'.cell? ⟨w.heap.size, 5, none⟩ = some (.int .i64 lg) ∧ w'.cell? ⟨w.heap.size, 6, none⟩ = some (.int .i64 st)) (go_keep)
    (first
      | (go_at_call 104; refine (clamp_any _ _ _ _ _ _ _ _ (by repeat (first | exact ht | apply LimTab.drewN | apply LimTab.drew | apply LimTab.alloc))).mono ?_; rintro e w' ⟨rfl, hb⟩; simp only [clampV]; obtain ⟨hc, hf⟩ := bcell hb))
  rename_i hheld
  clear hheld hq hgd hc hf
  go_wp2
  go_ret
  exact ⟨rfl, ((below_drew ((Below.refl _ _).alloc (Nat.le_refl _) _)).trans (hb.mono (by simp)))⟩

end Go.Proofs.YtipifkgmhgkleaaGreatDoor

namespace Go.Proofs.YtipifkgmhgkleaaGreatDoor
def slotsI (b wd : Int) : Int := b * (wd / 2)
def opI (lg wd : Int) : Int := 64 + 4 * lg + wd
def ansI (r lg : Int) : Int := 16 + r * (lg + 8) + 4 * lg
def restI (b wd m r lg : Int) : Int := 2 * b * (wd + 8) + 3 * opI lg wd + 2 * ansI r lg + 4 * m + 60
def looksI (n m ce lg : Int) : Int := 40 * n + 2 * m * (lg + 4) + 2 * ce
def markI (b wd m r ce lg : Int) : Int := (2 * slotsI b wd + 6) * (looksI (slotsI b wd) m ce lg + opI lg wd + ansI r lg + 40)

/-- The greatest number of picks there is. -/
def topI : Int := 4611686018427387904
/-- A product, at most topI; 0 of what is below 1. -/
def timesI (k n : Int) : Int := if k < 1 then 0 else if n < 1 then 0 else if topI / n < k then topI else k * n

structure RightC (b wd m r ce lg st : Int) : Prop where
  b0 : 1 ≤ b
  b1 : b ≤ 4096
  wd0 : 16 ≤ wd
  wd1 : wd ≤ 256
  m0 : 1 ≤ m
  m1 : m ≤ 8
  r0 : 1 ≤ r
  r1 : r ≤ 64
  ce0 : 0 ≤ ce
  ce1 : ce ≤ 64
  lg0 : 1 ≤ lg
  lg1 : lg ≤ 256
  st0 : 1 ≤ st
  st1 : st ≤ 4096

theorem mul_bd {a c A C : Int} (a0 : 0 ≤ a) (a1 : a ≤ A) (c0 : 0 ≤ c) (c1 : c ≤ C) : 0 ≤ a * c ∧ a * c ≤ A * C :=
  ⟨Int.mul_nonneg a0 c0, Int.mul_le_mul a1 c1 c0 (Int.le_trans a0 a1)⟩

/-- Is a number from a least one to a greatest one? -/
def withinB (n lo hi : Int) : Bool := decide (lo ≤ n) && decide (n ≤ hi)
def refRightB (b wd m r ce lg st : Int) : Bool := withinB b 1 4096 && (withinB wd 16 256 && (withinB m 1 8 && (withinB r 1 64 && (withinB ce 0 64 && (withinB lg 1 256 && withinB st 1 4096)))))
theorem refRightB_true {b wd m r ce lg st : Int} : refRightB b wd m r ce lg st = true ↔ RightC b wd m r ce lg st := by
  simp only [refRightB, withinB, Bool.and_eq_true, decide_eq_true_eq]
  exact ⟨fun ⟨⟨a, b⟩, ⟨c, d⟩, ⟨e, f⟩, ⟨g, h⟩, ⟨i, j⟩, ⟨k, l⟩, ⟨m, n⟩⟩ => ⟨a, b, c, d, e, f, g, h, i, j, k, l, m, n⟩,
    fun ⟨a, b, c, d, e, f, g, h, i, j, k, l, m, n⟩ => ⟨⟨a, b⟩, ⟨c, d⟩, ⟨e, f⟩, ⟨g, h⟩, ⟨i, j⟩, ⟨k, l⟩, ⟨m, n⟩⟩⟩

namespace RightC
variable {b wd m r ce lg st : Int}
theorem words (h : RightC b wd m r ce lg st) : 0 ≤ b * wd ∧ b * wd ≤ 1048576 := by
  obtain ⟨b0, b1, wd0, wd1, m0, m1, r0, r1, ce0, ce1, lg0, lg1, st0, st1⟩ := h
  have := mul_bd (a := b) (c := wd) (A := 4096) (C := 256) (by omega) (by omega) (by omega) (by omega)
  omega
theorem slots (h : RightC b wd m r ce lg st) : 0 ≤ b * (wd / 2) ∧ b * (wd / 2) ≤ 524288 := by
  obtain ⟨b0, b1, wd0, wd1, m0, m1, r0, r1, ce0, ce1, lg0, lg1, st0, st1⟩ := h
  have := mul_bd (a := b) (c := wd / 2) (A := 4096) (C := 128) (by omega) (by omega) (by omega) (by omega)
  omega
theorem slots1 (h : RightC b wd m r ce lg st) : 8 ≤ slotsI b wd ∧ slotsI b wd ≤ 524288 := by
  have h1 := h.slots
  obtain ⟨b0, b1, wd0, wd1, m0, m1, r0, r1, ce0, ce1, lg0, lg1, st0, st1⟩ := h
  have := Int.mul_le_mul (a := 1) (b := 8) (c := b) (d := wd / 2) b0 (by omega) (by omega) (by omega)
  unfold slotsI
  omega
theorem regs (h : RightC b wd m r ce lg st) : 0 ≤ r * (lg + 8) ∧ r * (lg + 8) ≤ 16896 := by
  obtain ⟨b0, b1, wd0, wd1, m0, m1, r0, r1, ce0, ce1, lg0, lg1, st0, st1⟩ := h
  have := mul_bd (a := r) (c := lg + 8) (A := 64) (C := 264) (by omega) (by omega) (by omega) (by omega)
  omega
theorem rest (h : RightC b wd m r ce lg st) : 0 ≤ 2 * b * (wd + 8) ∧ 2 * b * (wd + 8) ≤ 2162688 := by
  obtain ⟨b0, b1, wd0, wd1, m0, m1, r0, r1, ce0, ce1, lg0, lg1, st0, st1⟩ := h
  have := mul_bd (a := 2 * b) (c := wd + 8) (A := 8192) (C := 264) (by omega) (by omega) (by omega) (by omega)
  omega
theorem muts (h : RightC b wd m r ce lg st) : 0 ≤ 2 * m * (lg + 4) ∧ 2 * m * (lg + 4) ≤ 4160 := by
  obtain ⟨b0, b1, wd0, wd1, m0, m1, r0, r1, ce0, ce1, lg0, lg1, st0, st1⟩ := h
  have := mul_bd (a := 2 * m) (c := lg + 4) (A := 16) (C := 260) (by omega) (by omega) (by omega) (by omega)
  omega
theorem op (h : RightC b wd m r ce lg st) : 84 ≤ opI lg wd ∧ opI lg wd ≤ 1344 := by
  obtain ⟨b0, b1, wd0, wd1, m0, m1, r0, r1, ce0, ce1, lg0, lg1, st0, st1⟩ := h
  unfold opI; omega
theorem ans (h : RightC b wd m r ce lg st) : 20 ≤ ansI r lg ∧ ansI r lg ≤ 17936 := by
  have h1 := h.regs
  obtain ⟨b0, b1, wd0, wd1, m0, m1, r0, r1, ce0, ce1, lg0, lg1, st0, st1⟩ := h
  unfold ansI; omega
theorem looks (h : RightC b wd m r ce lg st) : 0 ≤ looksI (slotsI b wd) m ce lg ∧ looksI (slotsI b wd) m ce lg ≤ 20975808 := by
  have h1 := h.muts
  have h2 := h.slots1
  obtain ⟨b0, b1, wd0, wd1, m0, m1, r0, r1, ce0, ce1, lg0, lg1, st0, st1⟩ := h
  unfold looksI; omega
theorem mark (h : RightC b wd m r ce lg st) : 22 ≤ markI b wd m r ce lg ∧ markI b wd m r ce lg ≤ 30000000000000 := by
  have h1 := h.looks
  have h2 := h.slots1
  have h3 := h.op
  have h4 := h.ans
  have := mul_bd (a := 2 * slotsI b wd + 6) (c := looksI (slotsI b wd) m ce lg + opI lg wd + ansI r lg + 40) (A := 1048582) (C := 20995128) (by omega) (by omega) (by omega) (by omega)
  have := Int.mul_le_mul (a := 22) (b := 1) (c := 2 * slotsI b wd + 6) (d := looksI (slotsI b wd) m ce lg + opI lg wd + ansI r lg + 40) (by omega) (by omega) (by omega) (by omega)
  unfold markI
  omega
theorem restB (h : RightC b wd m r ce lg st) : 1 ≤ restI b wd m r lg ∧ restI b wd m r lg ≤ 3000000 := by
  have h1 := h.rest
  have h3 := h.op
  have h4 := h.ans
  obtain ⟨b0, b1, wd0, wd1, m0, m1, r0, r1, ce0, ce1, lg0, lg1, st0, st1⟩ := h
  unfold restI; omega
end RightC

/-- A number, at most topI. -/
def capI (x : Int) : Int := if topI < x then topI else x
end Go.Proofs.YtipifkgmhgkleaaGreatDoor

namespace Go.Proofs.YtipifkgmhgkleaaGreatDoor
open Go.RowKit

/-- A world later than one with the table has the table. -/
theorem LimTab.later {w w' : World} (h : LimTab w) (hb : Below w.heap.size w w') : LimTab w' := h.below hb h.blk

set_option maxHeartbeats 400000 in
theorem words_no (b wd m r ce lg st : Int) (w : World) (ht : LimTab w) (hr : rightB b wd m r ce lg st = false) :
    Calls Tryz.prog 77 #[.agg #[.int .i64 b, .int .i64 wd, .int .i64 m, .int .i64 r, .int .i64 ce, .int .i64 lg, .int .i64 st]] w
      fun e w' => e = .returned (.int .i64 0) ∧ Below w.heap.size w w' := by
  go_enter Tryz.func77, Tryz.ntmps77
  go_wp2_with (first | (go_at_call 105; go_in) | (go_at_call 76; refine (right_any _ _ _ _ _ _ _ _ (by repeat (first | exact ht | apply LimTab.drewN | apply LimTab.drew | apply LimTab.alloc | (refine LimTab.later ?_ (by assumption))))).mono ?_; rintro e w' ⟨rfl, hb⟩; rw [hr]))
  go_ret
  exact ⟨rfl, (((Below.refl _ _).alloc (Nat.le_refl _) _).alloc (by simp) _).trans (hb.mono (by simp; omega))⟩

set_option maxHeartbeats 400000 in
theorem words_yes (b wd m r ce lg st : Int) (w : World) (ht : LimTab w) (hR : RightC b wd m r ce lg st) (hr : rightB b wd m r ce lg st = true) :
    Calls Tryz.prog 77 #[.agg #[.int .i64 b, .int .i64 wd, .int .i64 m, .int .i64 r, .int .i64 ce, .int .i64 lg, .int .i64 st]] w
      fun e w' => e = .returned (.int .i64 (b * wd)) ∧ Below w.heap.size w w' := by
  obtain ⟨p0, p1⟩ := hR.words
  obtain ⟨b0, b1, wd0, wd1, m0, m1, r0, r1, ce0, ce1, lg0, lg1, st0, st1⟩ := hR
  go_enter Tryz.func77, Tryz.ntmps77
  go_wp2_with (first | (go_at_call 105; go_in) | (go_at_call 106; go_in) | (go_at_call 76; refine (right_any _ _ _ _ _ _ _ _ (by repeat (first | exact ht | apply LimTab.drewN | apply LimTab.drew | apply LimTab.alloc | (refine LimTab.later ?_ (by assumption))))).mono ?_; rintro e w' ⟨rfl, hb⟩; rw [hr]; obtain ⟨hc, hf⟩ := bcell hb))
  go_ret
  exact ⟨ret_int (by first | rfl | (simp only [slotsI, opI, ansI]; done) | (simp only [slotsI, opI, ansI]; omega)), (((Below.refl _ _).alloc (Nat.le_refl _) _).alloc (by simp) _).trans (hb.mono (by simp; omega))⟩

end Go.Proofs.YtipifkgmhgkleaaGreatDoor

namespace Go.Proofs.YtipifkgmhgkleaaGreatDoor
open Go.RowKit

theorem rightB_ref (b wd m r ce lg st : Int) : rightB b wd m r ce lg st = refRightB b wd m r ce lg st := by
  have h : ∀ n lo hi : Int, lo ≤ hi → (n == nearI n lo hi) = withinB n lo hi := fun n lo hi hl => by
    unfold nearI withinB
    rw [Bool.eq_iff_iff]
    simp only [beq_iff_eq, Bool.and_eq_true, decide_eq_true_eq]
    (repeat' split) <;> omega
  simp only [rightB, refRightB, clampAt]
  simp only [h _ _ _ (show (1 : Int) ≤ 4096 by decide), h _ _ _ (show (16 : Int) ≤ 256 by decide), h _ _ _ (show (1 : Int) ≤ 8 by decide), h _ _ _ (show (1 : Int) ≤ 64 by decide), h _ _ _ (show (0 : Int) ≤ 64 by decide), h _ _ _ (show (1 : Int) ≤ 256 by decide), if_true, show ¬ (1 : Int) = 0 by decide, show ¬ (2 : Int) = 0 by decide, show ¬ (2 : Int) = 1 by decide, show ¬ (3 : Int) = 0 by decide, show ¬ (3 : Int) = 1 by decide, show ¬ (3 : Int) = 2 by decide, show ¬ (4 : Int) = 0 by decide, show ¬ (4 : Int) = 1 by decide, show ¬ (4 : Int) = 2 by decide, show ¬ (4 : Int) = 3 by decide, show ¬ (5 : Int) = 0 by decide, show ¬ (5 : Int) = 1 by decide, show ¬ (5 : Int) = 2 by decide, show ¬ (5 : Int) = 3 by decide, show ¬ (5 : Int) = 4 by decide, show ¬ (6 : Int) = 0 by decide, show ¬ (6 : Int) = 1 by decide, show ¬ (6 : Int) = 2 by decide, show ¬ (6 : Int) = 3 by decide, show ¬ (6 : Int) = 4 by decide, show ¬ (6 : Int) = 5 by decide, if_false]

theorem ret_bool {a b : Bool} (h : a = b) : Ending.returned (.bool a) = .returned (.bool b) := by rw [h]

set_option maxHeartbeats 400000 in
theorem within_any (n lo hi : Int) (w : World) :
    Calls Tryz.prog 42 #[.int .i64 n, .int .i64 lo, .int .i64 hi] w fun e w' => e = .returned (.bool (withinB n lo hi)) ∧ w' = w := by
  by_cases h1 : lo ≤ n
  · by_cases h2 : n ≤ hi
    · have e : withinB n lo hi = true := by simp [withinB, h1, h2]
      rw [e]
      clear e
      go_enter Tryz.func42, Tryz.ntmps42
      go_wp2
      go_ret
      exact ⟨rfl, rfl⟩
    · have e : withinB n lo hi = false := by simp [withinB, h2]
      rw [e]
      clear e
      go_enter Tryz.func42, Tryz.ntmps42
      go_wp2
      go_ret
      exact ⟨rfl, rfl⟩
  · have e : withinB n lo hi = false := by simp [withinB, h1]
    rw [e]
    clear e
    go_enter Tryz.func42, Tryz.ntmps42
    go_wp2
    go_ret
    exact ⟨rfl, rfl⟩

set_option maxHeartbeats 2000000 in
theorem refright_any (b wd m r ce lg st : Int) (w : World) :
    Calls Tryz.prog 10 #[.agg #[.int .i64 b, .int .i64 wd, .int .i64 m, .int .i64 r, .int .i64 ce, .int .i64 lg, .int .i64 st]] w fun e w' => e = .returned (.bool (refRightB b wd m r ce lg st)) ∧ Below w.heap.size w w' := by
  go_enter Tryz.func10, Tryz.ntmps10
  go_wp2_with (go_at_call 42; refine (within_any _ _ _ _).mono ?_; rintro e w' ⟨rfl, hw⟩; rw [hw]; clear hw)
  all_goals go_ret
  all_goals exact ⟨ret_bool (by simp [refRightB, *]), (Below.refl _ _).alloc (Nat.le_refl _) _⟩

end Go.Proofs.YtipifkgmhgkleaaGreatDoor

namespace Go.Proofs.YtipifkgmhgkleaaGreatDoor.Row
open Go.RowKit

theorem ret_int {k : IntKind} {a b : Int} (h : a = b) : Ending.returned (.int k a) = .returned (.int k b) := by rw [h]
theorem ret_bool {a b : Bool} (h : a = b) : Ending.returned (.bool a) = .returned (.bool b) := by rw [h]
theorem other {W : World} {a b : Addr} {v : Value} (h : a ≠ b) : (W.setCell a v).cell? b = W.cell? b := World.cell?_setCell_other (h := h) ..
theorem same {W : World} {a : Addr} {u v : Value} (h : W.cell? a = some u) : (W.setCell a v).cell? a = some v := World.cell?_setCell_same (h := h) ..
theorem size_setCell (w : World) (p : Addr) (u : Value) : (w.setCell p u).heap.size = w.heap.size := by simp [World.setCell]
theorem cell_of_block {w w' : World} {a : Addr} (h : w'.heap[a.block]? = w.heap[a.block]?) : w'.cell? a = w.cell? a := World.cell?_of_block h
theorem frozen_of_block {w w' : World} {a : Addr} (h : w'.heap[a.block]? = w.heap[a.block]?) : w'.frozen? a = w.frozen? a := by unfold World.frozen?; rw [h]

/-- Numbers of a row, as cells. -/
def cellsZ (l : List Int) : List Value := l.map fun z => .int .i64 z
theorem cellsZ_snoc (l : List Int) (x : Int) : cellsZ (l ++ [x]) = cellsZ l ++ [.int .i64 x] := by simp [cellsZ]
theorem cellsZ_length (l : List Int) : (cellsZ l).length = l.length := by simp [cellsZ]
theorem cellsZ_at (l : List Int) {j : Nat} (h : j < l.length) : (cellsZ l)[j]? = some (.int .i64 (l.getD j 0)) := by simp [cellsZ, List.getD_eq_getElem?_getD, h]
theorem one_at {w : World} {a : Nat} {v : Value} {t : TypeId} (h : a = w.heap.size) : ∀ (j : Nat) (u : Value), [v][j]? = some u → (w.alloc (.cells #[v] t)).cell? ((⟨a, 0, none⟩ : Addr).add j) = some u := by
  subst h
  intro j u hu
  cases j with
  | zero => simp at hu; subst hu; simp [Addr.add]
  | succ j => simp at hu

/-- The block that a row lies in. -/
def rowB (p : Option Addr) (k : Nat) : Prop := p.map (·.block) = some k
theorem rowB_none (k : Nat) : ¬ rowB none k := by simp [rowB]
theorem ownBlock_slice (p : Option Addr) (n cap k : Nat) : (Value.slice p n cap).ownBlock = some k ↔ rowB p k := by
  cases p <;> simp [Value.ownBlock, rowB]

theorem owns_block {w w' : World} {base : Nat} {e : TypeId} {size k cap n : Nat} {p : Option Addr} {xs : List Value} (h : w.ownsRow base e size (.slice p n cap) k xs) (hg : ∀ g, rowB p g → w'.heap[g]? = w.heap[g]?) :
    w'.ownsRow base e size (.slice p n cap) k xs :=
  ⟨h.1, h.2.imp id fun ⟨g, c, cur, e1, e2, e3, r⟩ => ⟨g, c, cur, e1, e2, by cases e1; rw [hg g rfl]; exact e3, r⟩⟩
theorem owns_lt {w : World} {base : Nat} {e : TypeId} {size k cap n : Nat} {p : Option Addr} {xs : List Value} (h : w.ownsRow base e size (.slice p n cap) k xs) {g : Nat} (hg : rowB p g) : base ≤ g ∧ g < w.heap.size := by
  obtain ⟨_, ⟨h2, _⟩ | ⟨g', c, cur, e1, e2, e3, r⟩⟩ := h
  · cases h2; cases hg
  · cases e1
    cases hg
    exact ⟨e2, (Array.getElem?_eq_some_iff.1 e3).1⟩
theorem owns_slice {w : World} {base : Nat} {e : TypeId} {size k : Nat} {v : Value} {xs : List Value} (h : w.ownsRow base e size v k xs) : ∃ p cap, v = .slice p k cap := by
  obtain ⟨_, ⟨h2, h3⟩ | ⟨g, c, cur, e1, r⟩⟩ := h
  · exact ⟨none, 0, by rw [h2, h3]⟩
  · exact ⟨_, _, e1⟩
theorem owns_cap {w : World} {base : Nat} {e : TypeId} {size k n cap : Nat} {p : Option Addr} {xs : List Value} (h : w.ownsRow base e size (.slice p n cap) k xs) : k ≤ cap ∧ cap ≤ maxLen := by
  obtain ⟨_, ⟨h2, h3⟩ | ⟨g, c, cur, e1, _, _, e2, e3, r⟩⟩ := h
  · cases h2; omega
  · cases e1; exact ⟨e2, e3⟩
theorem owns_cell {w : World} {base cap k g n : Nat} {e : TypeId} {xs : List Value} (h : w.ownsRow base e 1 (.slice (some ⟨g, 0, none⟩) n cap) k xs) : ∀ (j : Nat) (u : Value), xs[j]? = some u → w.cell? ⟨g, j, none⟩ = some u := fun j u hu => by
  obtain ⟨h1, ⟨h2, _⟩ | ⟨g', c, cur, e1, e2, e3, e4, e5, e6, e7⟩⟩ := h
  · cases h2
  · cases e1
    have hj : j < k := by have := (List.getElem?_eq_some_iff.1 hu).1; omega
    have e : cur[j]? = some u := by
      have h3 := congrArg (fun l => l[j]?) e7
      simp only [Nat.mul_one, List.getElem?_take, hj, if_true, Array.getElem?_toList] at h3
      rw [h3, hu]
    simp [World.cell?, e3, e]
theorem owns_base {w : World} {b b' : Nat} {e : TypeId} {size k : Nat} {v : Value} {xs : List Value} (hb : b' ≤ b) (h : w.ownsRow b e size v k xs) : w.ownsRow b' e size v k xs :=
  ⟨h.1, h.2.imp id fun ⟨g, c, cur, e1, e2, r⟩ => ⟨g, c, cur, e1, Nat.le_trans hb e2, r⟩⟩
/-- A row without its last ones. -/
theorem owns_less {w : World} {base cap n m : Nat} {e : TypeId} {g : Addr} {l : List Value} (h : w.ownsRow base e 1 (.slice (some g) n cap) n l) (hm : m ≤ n) :
    w.ownsRow base e 1 (.slice (some g) m cap) m (l.take m) := by
  obtain ⟨h1, ⟨h2, _⟩ | ⟨g', c, cur, e1, e2, e3, e4, e5, e6, e7⟩⟩ := h
  · cases h2
  · cases e1
    refine ⟨by rw [List.length_take, h1]; omega, .inr ⟨g', _, cur, rfl, e2, e3, by omega, e5, e6, ?_⟩⟩
    rw [← e7, List.take_take]
    simp only [Nat.mul_one]
    rw [Nat.min_eq_left hm]

/-- What has some blocks turned, and new ones. -/
structure Chg (S : Nat → Prop) (w w' : World) : Prop where
  os : w'.os = w.os
  tape : w'.tape = w.tape
  output : w'.output = w.output
  size : w.heap.size ≤ w'.heap.size
  block : ∀ k, k < w.heap.size → ¬ S k → w'.heap[k]? = w.heap[k]?
theorem Chg.refl (S : Nat → Prop) (w : World) : Chg S w w := ⟨rfl, rfl, rfl, Nat.le_refl _, fun _ _ _ => rfl⟩
theorem Chg.of_below {S : Nat → Prop} {a b : World} (h : Below a.heap.size a b) : Chg S a b := ⟨h.os, h.tape, h.output, h.size, fun i hi _ => h.block i hi⟩
theorem Chg.below {S : Nat → Prop} {N : Nat} {a b : World} (h : Chg S a b) (hS : ∀ k, S k → N ≤ k) (hN : N ≤ a.heap.size) : Below N a b :=
  ⟨h.os, h.tape, h.output, h.size, fun i hi => h.block i (by omega) (fun hs => by have := hS i hs; omega)⟩
theorem Chg.drewN {S : Nat → Prop} {a b : World} (h : Chg S a b) (n : Nat) : Chg S a (b.drewN n) := ⟨h.os, h.tape, h.output, h.size, h.block⟩
theorem Chg.trans {S T : Nat → Prop} {a b d : World} (h : Chg S a b) (k : Chg T b d) (hT : ∀ i, T i → S i ∨ a.heap.size ≤ i) : Chg S a d :=
  ⟨k.os.trans h.os, k.tape.trans h.tape, k.output.trans h.output, Nat.le_trans h.size k.size, fun i hi h1 => (k.block i (Nat.lt_of_lt_of_le hi h.size) (fun e => (hT i e).elim h1 (by omega))).trans (h.block i hi h1)⟩
theorem Chg.mono {S T : Nat → Prop} {a b : World} (h : Chg S a b) (hT : ∀ i, S i → T i) : Chg T a b := ⟨h.os, h.tape, h.output, h.size, fun i hi h1 => h.block i hi (fun e => h1 (hT i e))⟩
theorem Chg.alloc {S : Nat → Prop} {a b : World} (h : Chg S a b) (o) : Chg S a (b.alloc o) := h.trans (Chg.of_below ((Below.refl _ b).alloc (Nat.le_refl _) o)) (fun _ e => .inl e)
theorem Chg.set {S : Nat → Prop} {a b : World} (h : Chg S a b) {p : Addr} (hp : S p.block ∨ a.heap.size ≤ p.block) (u : Value) : Chg S a (b.setCell p u) :=
  ⟨h.os, h.tape, h.output, by simpa [World.setCell] using h.size, fun i hi h1 => (Below.heap_setCell b p u i (by
    rintro rfl
    rcases hp with hp | hp
    · exact h1 hp
    · omega)).trans (h.block i hi h1)⟩
theorem Chg.cell {S : Nat → Prop} {a b : World} (h : Chg S a b) {p : Addr} (hl : p.block < a.heap.size) (h1 : ¬ S p.block) : b.cell? p = a.cell? p := cell_of_block (h.block p.block hl h1)
theorem Chg.frozen {S : Nat → Prop} {a b : World} (h : Chg S a b) {p : Addr} (hl : p.block < a.heap.size) (h1 : ¬ S p.block) : b.frozen? p = a.frozen? p := frozen_of_block (h.block p.block hl h1)
theorem owns_chg {S : Nat → Prop} {w w' : World} {base : Nat} {e : TypeId} {size k cap n : Nat} {p : Option Addr} {xs : List Value} (h : w.ownsRow base e size (.slice p n cap) k xs) (hc : Chg S w w') (hS : ∀ g, rowB p g → ¬ S g) : w'.ownsRow base e size (.slice p n cap) k xs :=
  owns_block h (fun g hg => hc.block g (owns_lt h hg).2 (hS g hg))

/-- What an append leaves, wherever the row lies. -/
theorem push_row {Y Y0 w3 : World} {base n m cap : Nat} {e : TypeId} {p : Option Addr} {v' : Value} {ys : List Value} (hb : Below Y.heap.size Y Y0)
    (hown : w3.ownsRow base e 1 v' (n + m) ys) (hg : Y0.grownBy w3 (Value.slice p n cap).ownBlock) (hat : v'.ownBlock = (Value.slice p n cap).ownBlock ∨ v'.ownBlock = some Y0.heap.size) :
    ∃ p' cap', v' = .slice p' (n + m) cap' ∧ Chg (rowB p) Y w3 ∧ ∀ k, rowB p' k → rowB p k ∨ Y.heap.size ≤ k := by
  obtain ⟨p', cap', rfl⟩ := owns_slice hown
  refine ⟨p', cap', rfl, ⟨hg.os.trans hb.os, hg.tape.trans hb.tape, hg.output.trans hb.output, Nat.le_trans hb.size hg.size, fun k hk hn => ?_⟩, fun k hk => ?_⟩
  · exact (hg.block k (Nat.lt_of_lt_of_le hk hb.size) (fun e => hn ((ownBlock_slice p n cap k).1 e.symm))).trans (hb.block k hk)
  · rcases hat with h | h
    · exact .inl ((ownBlock_slice p n cap k).1 (h ▸ (ownBlock_slice p' (n + m) cap' k).2 hk))
    · right
      have := (ownBlock_slice p' (n + m) cap' k).2 hk
      rw [h] at this
      have := Option.some.inj this
      have := hb.size
      omega

theorem infoInt : (Tryz.prog.info? 3).map (fun i => (i.zero, i.size, i.bytes)) = some (some (.int .i64 0), 1, 8) := by kernel_rfl
theorem info_parts {P : Program} {t : TypeId} {z : Value} {a c : Nat} (h : (P.info? t).map (fun i => (i.zero, i.size, i.bytes)) = some (some z, a, c)) : ∃ i, P.info? t = some i ∧ i.zero = some z ∧ i.size = a ∧ i.bytes = c := by
  obtain ⟨i, hi, h2⟩ := Option.map_eq_some_iff.1 h
  simp only [Prod.mk.injEq] at h2
  exact ⟨i, hi, h2.1, h2.2.1, h2.2.2⟩

/-- append to a row that is owned, as one step of a region that draws. -/
theorem step_append_own {P : Program} {ops : Array Oper} {o : Oper} {a : Act} {w : World} {K : Act → World → Prop} {Q : Exit → Act → World → Prop} {E : Prop}
    (hg : o.guard = none) (s x : Operand) (t : TypeId) (hop : o.op = Op.call { callee := Callee.builtin Builtin.append, args := #[s, x], argTypes := #[t, t] })
    (base : Nat) (e : TypeId) (i : TypeInfo) (z : Value) (size bytes : Nat) (ht : P.underlying t = some (.slice e)) (hi : P.info? e = some i) (hz : i.zero = some z)
    (hsize : i.size = size) (hby : i.bytes = bytes) (hzs : z.cells.size = size) (hsz : 0 < size)
    (v : Value) (n : Nat) (xs : List Value) (hs : a.eval s = v) (hown : w.ownsRow base e size v n xs)
    (ad : Addr) (m c : Nat) (news : List Value) (hx : a.eval x = .slice (some ad) m c) (hl : news.length = m * size) (hnews : ∀ j u, news[j]? = some u → w.cell? (ad.add j) = some u) (h1 : ∀ u ∈ news, u.oneCell' = true)
    (h63 : n + m ≤ maxLen) (hbytes : (n + m) * bytes ≤ 140737488355328) (hbase : base ≤ w.heap.size)
    (hK : ∀ v' w', w'.ownsRow base e size v' (n + m) (xs ++ news) → w.grownBy w' v.ownBlock → (v'.ownBlock = v.ownBlock ∨ v'.ownBlock = some w.heap.size) → K (a.put o.dst v') w') :
    if Region.wanted o (yielded ops a.tmps) = true then Oper.wp P o a w K Q else E := by
  have hw : Region.wanted o (yielded ops a.tmps) = true := by simp [Region.wanted, hg]
  rw [if_pos hw]
  obtain ⟨v', w', hr, h2, h3, h4, h5⟩ := run_append_own_at (P := P) w base t o.type e i z size bytes ht hi hz hsize hby hzs hsz v n xs hown ad m c news hl hnews h1 h63 hbytes hbase
  unfold Oper.wp execOp
  simp only [hop, resolve, invoke, builtin, Sem.run_bind, Sem.run_pure, Result.andThen_ok, List.map_toArray, List.map_cons, List.map_nil, hs, hx, hr]
  exact hK _ _ h2 h3 h5
end Go.Proofs.YtipifkgmhgkleaaGreatDoor.Row

namespace Go.Proofs.YtipifkgmhgkleaaGreatDoor.Row
open Go.RowKit
attribute [local go_sem] Oper.semAt_some

/-- A row of numbers reads so. -/
def Rd (w : World) (p : Option Addr) (l : List Int) : Prop := (p = none ∧ l = []) ∨ ∃ g off, p = some ⟨g, off, none⟩ ∧ ∀ j, j < l.length → w.cell? ⟨g, off + j, none⟩ = some (.int .i64 (l.getD j 0))
theorem Rd.nil (w : World) : Rd w none [] := .inl ⟨rfl, rfl⟩
theorem Rd.kept {w w' : World} {p : Option Addr} {l : List Int} (h : Rd w p l) (hg : ∀ g, rowB p g → 0 < l.length → w'.heap[g]? = w.heap[g]?) : Rd w' p l :=
  h.imp id fun ⟨g, off, e, hc⟩ => ⟨g, off, e, fun j hj => (cell_of_block (a := ⟨g, off + j, none⟩) (hg g (by rw [e]; rfl) (by omega))).trans (hc j hj)⟩
theorem Rd.lt {w : World} {p : Option Addr} {l : List Int} (h : Rd w p l) {g : Nat} (hg : rowB p g) (hl : 0 < l.length) : g < w.heap.size := by
  rcases h with ⟨_, rfl⟩ | ⟨g', off, rfl, hc⟩
  · simp at hl
  · cases hg
    exact World.block_lt_of_cell? w _ (hc 0 hl)
theorem Rd.later {w w' : World} {p : Option Addr} {l : List Int} (h : Rd w p l) (hb : Below w.heap.size w w') : Rd w' p l := h.kept fun g hg hl => hb.block g (h.lt hg hl)
theorem Rd.chg {S : Nat → Prop} {w w' : World} {p : Option Addr} {l : List Int} (h : Rd w p l) (hc : Chg S w w') (hS : ∀ g, rowB p g → ¬ S g) : Rd w' p l := h.kept fun g hg hl => hc.block g (h.lt hg hl) (hS g hg)
theorem Rd.drewN {w : World} {p : Option Addr} {l : List Int} (h : Rd w p l) (n : Nat) : Rd (w.drewN n) p l := h.kept fun _ _ _ => rfl
theorem Rd.of_owns {w : World} {base cap : Nat} {p : Option Addr} {l : List Int} (h : w.ownsRow base 3 1 (.slice p l.length cap) l.length (cellsZ l)) : Rd w p l := by
  have h' := h
  obtain ⟨_, ⟨h2, h3⟩ | ⟨g, c, cur, e1, r⟩⟩ := h
  · obtain rfl := List.eq_nil_of_length_eq_zero h3
    cases h2
    exact .inl ⟨rfl, rfl⟩
  · cases e1
    exact .inr ⟨g, 0, rfl, fun j hj => by rw [Nat.zero_add]; exact owns_cell h' j _ (cellsZ_at l hj)⟩
theorem Rd.at {w : World} {p : Option Addr} {l : List Int} (h : Rd w p l) {j : Nat} (hj : j < l.length) : ∃ g off, p = some ⟨g, off, none⟩ ∧ w.cell? ⟨g, off + j, none⟩ = some (.int .i64 (l.getD j 0)) := by
  rcases h with ⟨_, rfl⟩ | ⟨g, off, e, hc⟩
  · simp at hj
  · exact ⟨g, off, e, hc j hj⟩

theorem clone_nil (w : World) : Calls Tryz.prog 50 #[.slice none 0 0] w fun e w' => e = .returned (.slice none 0 0) ∧ w = w' := by
  have q22 : ∀ (w : World) (a : Option Addr) (n c n' c' : Nat), (binOp .eql 40 (.slice a n c) (.slice none n' c')).run Tryz.prog w = .ok (.bool a.isNone) w := fun w a n c n' c' => Lib.run_eql_slice_nil w _ _ a n c n' c' Tryz.underlying40
  go_enter Tryz.func50, Tryz.ntmps50
  go_wp2
  go_ret
  exact ⟨rfl, rfl⟩

set_option maxHeartbeats 2000000 in
set_option maxRecDepth 100000 in
theorem clone_some (g off cap : Nat) (l : List Int) (w : World) (hlen : l.length ≤ 2097152) (hc : ∀ j, j < l.length → w.cell? ⟨g, off + j, none⟩ = some (.int .i64 (l.getD j 0))) :
    Calls Tryz.prog 50 #[.slice (some ⟨g, off, none⟩) l.length cap] w fun e w' => ∃ p' cap', e = .returned (.slice p' l.length cap') ∧ w'.ownsRow w.heap.size 3 1 (.slice p' l.length cap') l.length (cellsZ l) ∧ Below w.heap.size w w' := by
  obtain ⟨i0, hi, hz0, hz1, hz2⟩ := info_parts infoInt
  have q22 : ∀ (w : World) (a : Option Addr) (n c n' c' : Nat), (binOp .eql 40 (.slice a n c) (.slice none n' c')).run Tryz.prog w = .ok (.bool a.isNone) w := fun w a n c n' c' => Lib.run_eql_slice_nil w _ _ a n c n' c' Tryz.underlying40
  have A := Lib.hid hc
  clear hc
  go_enter Tryz.func50, Tryz.ntmps50
  go_wp2_with (at_builtin; refine wpList_append_own _ rfl _ _ 40 rfl w.heap.size 3 i0 (.int .i64 0) 1 8 Tryz.underlying40 hi hz0 hz1 hz2 rfl (by decide) _ _ _ rfl (World.ownsRow_made w #[] 0 (Nat.le_refl _) (Nat.zero_le _) rfl) ⟨g, off, none⟩ l.length cap (cellsZ l) rfl ?qc1 ?qc2 ?qc3 ?qc4 ?qc5 ?qc6 ?_)
  case qc1 => simp [cellsZ]
  case qc2 =>
    intro j u hj
    have hjl : j < l.length := by have := (List.getElem?_eq_some_iff.1 hj).1; rwa [cellsZ_length] at this
    rw [cellsZ_at l hjl] at hj
    cases hj
    rw [Addr.add_lit]
    exact Lib.cell?_alloc_some _ (A.out j hjl)
  case qc3 => intro u hu; obtain ⟨x, _, rfl⟩ := List.mem_map.1 hu; rfl
  case qc4 => unfold maxLen; omega
  case qc5 => omega
  case qc6 => simp
  intro v' w1 hown hgrow _
  have hown : w1.ownsRow w.heap.size 3 1 v' l.length (cellsZ l) := by simpa using hown
  obtain ⟨p', cap', rfl⟩ := owns_slice hown
  go_wp2
  go_ret
  refine ⟨p', cap', rfl, hown, ?_⟩
  exact ((Below.refl _ w).alloc (Nat.le_refl _) _).grown hgrow (by simp) (by intro k hk; simp [Value.ownBlock] at hk; omega)

theorem clone_any {cap : Nat} (p : Option Addr) (l : List Int) (w : World) (hlen : l.length ≤ 2097152) (hp : p = none → cap = 0) (h : Rd w p l) :
    Calls Tryz.prog 50 #[.slice p l.length cap] w fun e w' => ∃ p' cap', e = .returned (.slice p' l.length cap') ∧ w'.ownsRow w.heap.size 3 1 (.slice p' l.length cap') l.length (cellsZ l) ∧ Below w.heap.size w w' := by
  rcases h with ⟨rfl, rfl⟩ | ⟨g, off, rfl, hc⟩
  · rw [hp rfl]
    exact (clone_nil w).mono fun e w' ⟨he, hw⟩ => ⟨none, 0, he, by subst hw; exact ⟨rfl, .inl ⟨rfl, rfl⟩⟩, hw ▸ Below.refl _ _⟩
  · exact clone_some g off cap l w hlen hc

/-- Each number of a row reads so. -/
def Rd0 (w : World) (p : Option Addr) (l : List Int) : Prop := ∀ j, j < l.length → ∃ g off, p = some ⟨g, off, none⟩ ∧ w.cell? ⟨g, off + j, none⟩ = some (.int .i64 (l.getD j 0))
theorem Rd.rd0 {w : World} {p : Option Addr} {l : List Int} (h : Rd w p l) : Rd0 w p l := fun _ hj => h.at hj
set_option maxHeartbeats 1000000 in
theorem same_ints (p q : Option Addr) (cp cq : Nat) (l : List Int) (w : World) (hp : Rd0 w p l) (hq : Rd0 w q l) (hl : l.length ≤ 1048576) :
    Calls Tryz.prog 66 #[.slice p l.length cp, .slice q l.length cq] w fun e w' => e = .returned (.bool true) ∧ ∃ n, w' = w.drewN n := by
  have HP := Lib.hid hp
  have HQ := Lib.hid hq
  clear hp hq
  go_enter Tryz.func66, Tryz.ntmps66
  go_wp2
  go_loopw [5] (fun i wr => ∃ c : Nat, c ≤ l.length ∧ i = .int .i64 c ∧ ∃ n, wr = w.drewN n) (fun i _ => l.length - (intOf i).toNat)
  case atStart => exact ⟨0, by omega, rfl, 0, rfl⟩
  case round =>
    obtain ⟨c, hc, rfl, n, rfl⟩ := hrel
    by_cases hlt : c < l.length
    · obtain ⟨b, off, rfl, h1⟩ := HP.out c hlt
      obtain ⟨b', off', rfl, h1'⟩ := HQ.out c hlt
      have i0 : (0 : Int) ≤ (c : Int) := Int.natCast_nonneg _
      have i1 : (c : Int) < (l.length : Int) := by omega
      go_wp2
      go_quiet (fail)
      go_wp2
      go_roundw
      case rel => exact ⟨c + 1, by omega, by go_num, _, rfl⟩
      case measure => simp [intOf]; omega
    · go_wp2
      go_ret
      exact ⟨rfl, _, rfl⟩
theorem same_any (p q : Option Addr) (cp cq : Nat) (l : List Int) (w : World) (hp : Rd w p l) (hq : Rd w q l) (hl : l.length ≤ 1048576) :
    Calls Tryz.prog 66 #[.slice p l.length cp, .slice q l.length cq] w fun e w' => e = .returned (.bool true) ∧ ∃ n, w' = w.drewN n := same_ints p q cp cq l w hp.rd0 hq.rd0 hl
end Go.Proofs.YtipifkgmhgkleaaGreatDoor.Row

namespace Go.Proofs.YtipifkgmhgkleaaGreatDoor.Hdr
open Go.RowKit

theorem ret_int {k : IntKind} {a b : Int} (h : a = b) : Ending.returned (.int k a) = .returned (.int k b) := by rw [h]
/-- A link's word. -/
def lk (a : Nat) : Nat := 9223372036854775808 + a
theorem or_lk {a : Nat} (h : a ≤ 1048576) : (9223372036854775808 ||| a : Nat) = lk a := by
  unfold lk
  have := Nat.two_pow_add_eq_or_of_lt (i := 63) (b := a) (show a < 2 ^ 63 by omega) 1
  simpa using this.symm
theorem and_mask (w : Nat) : (w &&& 4611686018427387903 : Nat) = w % 4611686018427387904 := by
  rw [show (4611686018427387903 : Nat) = 2 ^ 62 - 1 from rfl, Nat.and_two_pow_sub_one_eq_mod]
theorem lk_mod {a : Nat} (h : a ≤ 1048576) : lk a % 4611686018427387904 = a := by unfold lk; omega
theorem lk_lt {a : Nat} (h : a ≤ 1048576) : lk a < 18446744073709551616 := by unfold lk; omega

set_option maxHeartbeats 400000 in
theorem said_any (w : Nat) (W : World) (hw : w < 18446744073709551616) : Calls Tryz.prog 340 #[.int .u64 w] W fun e W' => e = .returned (.int .i64 (w % 4611686018427387904 : Nat)) ∧ W = W' := by
  have ha : bits BinOp.and IntKind.u64 (w : Int) 4611686018427387903 = ((w % 4611686018427387904 : Nat) : Int) := by
    have := u64_and_nat w 4611686018427387903 hw (by decide)
    rw [and_mask] at this
    exact this
  have hm : w % 4611686018427387904 < 4611686018427387904 := Nat.mod_lt _ (by decide)
  have hc : IntKind.i64.wrap ((w % 4611686018427387904 : Nat) : Int) = ((w % 4611686018427387904 : Nat) : Int) := IntWalk.i64_in _ (by omega)
  generalize w % 4611686018427387904 = r at *
  go_enter Tryz.func340, Tryz.ntmps340
  go_wp2
  go_ret
  exact ⟨rfl, rfl⟩

set_option maxHeartbeats 400000 in
theorem word_any (a : Nat) (W : World) (h : a ≤ 1048576) : Calls Tryz.prog 328 #[.int .i64 2, .int .i64 a] W fun e W' => e = .returned (.int .u64 (lk a)) ∧ W = W' := by
  have ho : bits BinOp.or IntKind.u64 9223372036854775808 (a : Int) = ((lk a : Nat) : Int) := by
    have := u64_or_nat 9223372036854775808 a (by decide) (by omega)
    rw [or_lk h] at this
    exact this
  have hc : IntKind.u64.wrap (a : Int) = (a : Int) := by rw [IntKind.wrap_u64]; omega
  go_enter Tryz.func328, Tryz.ntmps328
  go_wp2
  go_ret
  exact ⟨rfl, rfl⟩

set_option maxHeartbeats 400000 in
theorem link_yes (a : Nat) (W : World) (h : a ≤ 1048576) : Calls Tryz.prog 347 #[.int .i64 a] W fun e W' => e = .returned (.tuple #[.int .u64 (lk a), .bool true]) ∧ W = W' := by
  have h1 : ¬ (a : Int) < 0 := by omega
  have h2 : ¬ (1048576 : Int) < (a : Int) := by omega
  go_enter Tryz.func347, Tryz.ntmps347
  go_wp2_with (go_at_call 328; refine (word_any _ _ h).mono ?_; rintro e W' ⟨rfl, rfl⟩)
  go_ret2
  exact ⟨rfl, rfl⟩

/-- To what a word links. -/
def isLk (w : Nat) : Bool := decide (w % 4611686018427387904 ≤ 1048576) && (lk (w % 4611686018427387904) == w)
def nx (w : Nat) : Nat := if isLk w = true then w % 4611686018427387904 else 0
theorem isLk_lk {a : Nat} (h : a ≤ 1048576) : isLk (lk a) = true ∧ nx (lk a) = a := by
  have hi : isLk (lk a) = true := by simp [isLk, lk_mod h, h]
  exact ⟨hi, by rw [nx, if_pos hi, lk_mod h]⟩

end Go.Proofs.YtipifkgmhgkleaaGreatDoor.Hdr
