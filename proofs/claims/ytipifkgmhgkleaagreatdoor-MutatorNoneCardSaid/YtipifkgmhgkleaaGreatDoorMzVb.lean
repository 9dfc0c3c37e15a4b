/-
  Texts one behind the other: MvF MvG (theorems that nobody names are left out).
-/
import Derived.Test.YtipifkgmhgkleaaGreatDoorMzVa
import Derived.Test.YtipifkgmhgkleaaGreatDoorMzLa
namespace Go.Proofs.YtipifkgmhgkleaaGreatDoor.Mv
open Go.RowKit
open Hp (Ids St Is To Mine)
open Lg (BfIs BxIs)
open Brd (BdIs)
open Qu (QuIs)
open Mu (Sy Sd ownS ShIs Ml Md ownM MIs lt_of_cell O4 CellsL mutA OpsR)
open Go.Proofs.YtipifkgmhgkleaaGreatDoor.Row (Chg rowB Rd cellsZ owns_chg)
open Go.Proofs.YtipifkgmhgkleaaGreatDoor.Addr (Tabs)

def updY (ys : Nat → List Int) (i : Nat) (l : List Int) : Nat → List Int := fun j => if j = i then l else ys j
section
variable {P : Nat → Prop} {O O' : Nat → Nat} {w w' : World} {y : Sy} {n nb : Nat} {x : Sd} {d : Ids} {ps ps' : Nat → Option Addr} {cs cs' : Nat → Nat}
/-- The queue goes on. -/
theorem Sx.queue {rv : Nat → List Int} {op : Nat} (h : Sx O y n nb w x d ps cs) (hk : Okw O w) (hq : QuIs w' y.Q y.Q ps' cs' rv op) (hc : Chg (Qu.Own y.Q ps) w w') (hR : ∀ g, Qu.Own y.Q ps' g → Qu.Own y.Q ps g ∨ w.heap.size ≤ g) : ∃ O', Mv (fun o => o = 1) O O' w w' ∧ Sx O' y n nb w' { x with rv := rv, op := op } d ps' cs' := by
  classical
  have hs := h.sh
  have hold : ∀ k, ownS (dyn y d ps cs) nb k → k < w.heap.size := fun k hk => hs.tl k (hs.hT k hk)
  have hown : ∀ k, Qu.Own y.Q ps k → O k = 1 := fun k hk => h.own k (.inr (.inr (.inl hk)))
  let O' : Nat → Nat := fun k => if k < w.heap.size then O k else if Qu.Own y.Q ps' k then 1 else 0
  have eO : ∀ k, k < w.heap.size → O' k = O k := fun k hk => if_pos hk
  have eN : ∀ k, ¬ k < w.heap.size → O' k ≠ 0 → Qu.Own y.Q ps' k := fun k hk hn => by
    by_cases e : Qu.Own y.Q ps' k
    · exact e
    · exact absurd (show O' k = 0 by show (if _ then _ else _) = _; rw [if_neg hk, if_neg e]) hn
  have eM : ∀ k, Qu.Own y.Q ps' k → O' k = 1 := fun k hk2 => by
    by_cases hl : k < w.heap.size
    · rw [eO k hl]; exact hown k ((hR k hk2).resolve_right (by omega))
    · show (if _ then _ else _) = _; rw [if_neg hl, if_pos hk2]
  have nm : ∀ k, k < w.heap.size → ¬ Qu.Own y.Q ps k → ¬ Qu.Own y.Q ps' k := fun k hk hn e => (hR k e).elim hn (fun e => by omega)
  have hm : Mv (fun o => o = 1) O O' w w' := ⟨Chg.mono' hc fun k hk => hown k hk, eO, fun k hk2 => by
    by_cases hl : k < w.heap.size
    · exact Nat.lt_of_lt_of_le hl hc.size
    · exact (hq.ltO (eN k hl hk2)).2⟩
  have c : ∀ {b o v}, w.cell? ⟨b, o, none⟩ = some v → O b ≠ 1 → w'.cell? ⟨b, o, none⟩ = some v := fun {b o v} e hn => (hc.cell (p := ⟨b, o, none⟩) (lt_of_cell e) (fun e2 => hn (hown _ e2))).trans e
  have cS : ∀ {o v}, w.cell? ⟨y.S, o, none⟩ = some v → w'.cell? ⟨y.S, o, none⟩ = some v := fun {o v} e => c e (by rw [h.oS]; omega)
  have hlB : y.B < w.heap.size := hold _ (.inr (.inl rfl))
  have hlF : y.F < w.heap.size := hold _ (.inr (.inr (.inr (.inl rfl))))
  have hlX : ∀ i, i < nb → y.X i < w.heap.size := fun i hi => hold _ (.inr (.inr (.inr (.inr ⟨i, hi, rfl⟩))))
  have nQ : ∀ k, Mine y.H d k → ¬ Qu.Own y.Q ps k := fun k hk2 e => (hs.dHQ k e).1 hk2
  have nF : ¬ Qu.Own y.Q ps y.F := fun e => (hs.dHQ _ e).2.2 rfl
  have nB : ¬ Qu.Own y.Q ps y.B := fun e => (hs.dHQ _ e).2.1 rfl
  have hO' : ∀ k, ownS (dyn y d ps' cs') nb k → O' k = 1 := fun k hk2 => by
    have g : ∀ k, ownS (dyn y d ps cs) nb k → O' k = 1 := fun k h9 => by rw [eO k (hold k h9)]; exact h.own k h9
    rcases hk2 with e | e | e | e
    · exact g k (.inl e)
    · exact g k (.inr (.inl e))
    · exact eM k e
    · exact g k (.inr (.inr (.inr e)))
  have tT : ∀ k, O' k ≠ 0 → O k ≠ 0 ∨ w.heap.size ≤ k := fun k hk2 => by
    by_cases hl : k < w.heap.size
    · rw [eO k hl] at hk2; exact .inl hk2
    · exact .inr (by omega)
  refine ⟨O', hm, ⟨⟨cS hs.c0, cS hs.c1, cS hs.c2, cS hs.c3, cS hs.c4, hs.hp.chg hc nQ, hs.bd.chg hc nB, hq, (hc.cell (p := ⟨y.F, 0, none⟩) hlF nF).trans hs.fl, (hc.frozen (p := ⟨y.F, 0, none⟩) hlF nF).trans hs.ff, fun i hi => ?_, fun i hi => ?_, fun k hk2 => by rw [hO' k hk2]; omega, hm.new, fun e => ?_, fun g hg e => ?_, hs.dHB, fun k hk2 => ?_, hs.dF, fun i hi => ⟨(hs.dX i hi).1, (hs.dX i hi).2.1, nm _ (hlX i hi) (hs.dX i hi).2.2.1, (hs.dX i hi).2.2.2⟩, hs.dXX⟩, hO', ?_, fun g hg => ?_, h.sz.mv hm (by omega)⟩⟩
  · exact bx_move (hs.bx i hi) hc (fun k hk2 => by rw [hown k hk2]; omega) (hs.dX i hi).2.2.1 tT (by rw [hO' _ (.inr (.inr (.inr (.inr ⟨i, hi, rfl⟩))))]; omega)
  · obtain ⟨b, off, e, hcl⟩ := hs.pr i hi
    exact ⟨b, off, e, c hcl (by rw [h.oP b (by rw [show y.px = _ from e]; rfl)]; omega)⟩
  · have h9 : O' y.S = 1 := hO' _ e
    rw [eO y.S hs.ltS, h.oS] at h9; omega
  · have h8 := h.oP g hg
    have h9 := hO' _ e
    rw [eO _ (hk.lt g (by rw [h8]; omega)), h8] at h9; omega
  · rcases hR k hk2 with e | e
    · exact hs.dHQ k e
    · refine ⟨fun e2 => ?_, fun e2 => ?_, fun e2 => ?_⟩
      · have := hs.hp.lt e2; omega
      · have : k = y.B := e2; omega
      · have : k = y.F := e2; omega
  · rw [eO y.S hs.ltS]; exact h.oS
  · have h8 := h.oP g hg
    rw [eO _ (hk.lt g (by rw [h8]; omega))]; exact h8
end
section
variable {b : Ba} {R R' : Rs} {w w' : World} {x x' : Sd} {L : List (Nat × Nat × Value)} {Q : List (K × Value)} {O O' : Nat → Nat} {d d' : Ids} {ps ps' : Nat → Option Addr} {cs cs' : Nat → Nat}
/-- A part of what is shared turns. -/
theorem CxO.part {S : Nat → Prop} (h : CxO b R w x L Q O d ps cs) (hc : Chg S w w') (hS : ∀ k, S k → O k = 1) (hs : ShIs w' (dyn b.y d ps cs) (fun k => O k ≠ 0) x' b.n b.nb) : CxO b R w' x' L Q O d ps cs := by
  have hm : Mv (fun o => o = 1) O O w w' := Mv.own h.ok hc hS
  exact h.move hm (fun _ e => e ▸ b.p1) ⟨hs, h.sx.own, h.sx.oS, h.sx.oP, h.sx.sz.mv hm (by omega)⟩ (R.st hm h.r)
theorem CxO.queue {rv : Nat → List Int} {op : Nat} (h : CxO b R w x L Q O d ps cs) (hq : QuIs w' b.y.Q b.y.Q ps' cs' rv op) (hc : Chg (Qu.Own b.y.Q ps) w w') (hR : ∀ g, Qu.Own b.y.Q ps' g → Qu.Own b.y.Q ps g ∨ w.heap.size ≤ g) : Cx b R w' { x with rv := rv, op := op } L Q := by
  obtain ⟨O', hm, hs⟩ := h.sx.queue h.ok hq hc hR
  exact ⟨O', d, ps', cs', h.move hm (fun _ e => e ▸ b.p1) hs (R.st hm h.r)⟩
end
section
variable {b : Ba} {z : Ml} {m : Md} {w : World} {x : Sd} {L : List (Nat × Nat × Value)} {Q : List (K × Value)}
end
end Go.Proofs.YtipifkgmhgkleaaGreatDoor.Mv

namespace Go.Proofs.YtipifkgmhgkleaaGreatDoor.Mv
open Go.RowKit
open Hp (Ids St Is To Mine)
open Mu (Sy Sd Ml Md lt_of_cell O4)
open Go.Proofs.YtipifkgmhgkleaaGreatDoor.Row (Chg rowB Rd)

/-- A function's value. -/
def isFn (v : Value) : Prop := ∃ f cap, v = fn f cap
section
variable {O : Nat → Nat} {w : World} {a N : Nat}
theorem Rkv.isFn {t : Rk} {v : Value} (h : Rkv O w a t v) : isFn v := by
  cases t with
  | ldC x o => obtain ⟨b0, b1, b2, e, _⟩ := h; exact ⟨_, _, e⟩
  | ldB x o => obtain ⟨b0, b1, b2, e, _⟩ := h; exact ⟨_, _, e⟩
  | get o => obtain ⟨b0, b1, e, _⟩ := h; exact ⟨_, _, e⟩
  | set o => obtain ⟨b0, b1, e, _⟩ := h; exact ⟨_, _, e⟩
  | drop => exact ⟨_, _, h⟩
  | move o => obtain ⟨b0, b1, e, _⟩ := h; exact ⟨_, _, e⟩
  | born x => obtain ⟨b0, b1, e, _⟩ := h; exact ⟨_, _, e⟩
end
section
variable {b : Ba} {R : Rs} {w : World} {x : Sd} {L : List (Nat × Nat × Value)} {Q : List (K × Value)}
theorem Cx.q (h : Cx b R w x L Q) {q : K} {v : Value} (hm : (q, v) ∈ Q) {C : Prop} (hC : ∀ O, Ls O w b.a b.N q v → C) : C := by
  obtain ⟨O, d, ps, cs, h⟩ := h
  exact hC O (h.Q _ hm)
set_option maxRecDepth 100000 in
/-- take. -/
theorem mk_take (r : Int) (rd : Rk) {f : FuncId} {cap : Array Value} (h : Cx b R w x L Q) (hr : (K.rk rd, fn f cap) ∈ Q) :
    Calls Tryz.prog 197 #[.pointer (some ⟨b.a, 0, none⟩), .int .i64 r, .func (.func f) #[] cap] w fun e w' => ∃ g c2, e = .returned (.func (.func g) #[] c2) ∧ Cx b R w' x L ((.take r rd, fn g c2) :: Q) := by
  have H := Lib.hid (h.allocs [([pt b.a], 30), ([.int .i64 r], 3), ([fn f cap], 298)])
  have HR := Lib.hid hr
  clear h hr
  go_enter Tryz.func197, Tryz.ntmps197
  go_wp2_with fail
  go_ret
  refine ⟨_, _, rfl, (H.out.push (q := .take r rd) (v := fn 255 #[pt (w.heap.size + 1 + 1), pt w.heap.size, pt (w.heap.size + 1)]) fun O hL hQ => ?_).less (fun p hp => List.mem_append_right _ hp) (fun p hp => hp)⟩
  exact ⟨_, _, _, _, rfl, hL (_, 0, _) (by simp [bxs, cellsOf, pt, fn]), hL (_, 0, _) (by simp [bxs, cellsOf, pt, fn]), hL (_, 0, _) (by simp [bxs, cellsOf, pt, fn]), hQ (.rk rd, fn f cap) HR.out⟩
set_option maxRecDepth 100000 in
/-- object. -/
theorem mk_object (r k : Int) (t : Th) {f : FuncId} {cap : Array Value} (h : Cx b R w x L Q) (hr : (K.th t, fn f cap) ∈ Q) :
    Calls Tryz.prog 195 #[.pointer (some ⟨b.a, 0, none⟩), .int .i64 r, .int .i64 k, .func (.func f) #[] cap] w fun e w' => ∃ g c2, e = .returned (.func (.func g) #[] c2) ∧ Cx b R w' x L ((.object r k t, fn g c2) :: Q) := by
  have H := Lib.hid (h.allocs [([pt b.a], 30), ([.int .i64 r], 3), ([.int .i64 k], 3), ([fn f cap], 174)])
  have HR := Lib.hid hr
  clear h hr
  go_enter Tryz.func195, Tryz.ntmps195
  go_wp2_with fail
  go_ret
  refine ⟨_, _, rfl, (H.out.push (q := .object r k t) (v := fn 253 #[pt w.heap.size, pt (w.heap.size + 1), pt (w.heap.size + 1 + 1), pt (w.heap.size + 1 + 1 + 1)]) fun O hL hQ => ?_).less (fun p hp => List.mem_append_right _ hp) (fun p hp => hp)⟩
  exact ⟨_, _, _, _, _, rfl, hL (_, 0, _) (by simp [bxs, cellsOf, pt, fn]), hL (_, 0, _) (by simp [bxs, cellsOf, pt, fn]), hL (_, 0, _) (by simp [bxs, cellsOf, pt, fn]), hL (_, 0, _) (by simp [bxs, cellsOf, pt, fn]), hQ (.th t, fn f cap) HR.out⟩
set_option maxRecDepth 100000 in
/-- slot, ahead of a refusal. -/
theorem mk_slotR (k : Nat) (o : O4) {f : FuncId} {cap : Array Value} (h : Cx b R w x L Q) (hr : (K.ref o, fn f cap) ∈ Q) :
    Calls Tryz.prog 191 #[.pointer (some ⟨b.a, 0, none⟩), .int .i64 k, .agg #[.int .i64 o.1, .int .i64 o.2.1, .int .i64 o.2.2.1, .int .i64 o.2.2.2], .func (.func f) #[] cap] w fun e w' => ∃ g c2, e = .returned (.func (.func g) #[] c2) ∧ Cx b R w' x L ((.slotR k o, fn g c2) :: Q) := by
  have H := Lib.hid (h.allocs [([pt b.a], 30), ([.int .i64 k], 3), ([.int .i64 o.1, .int .i64 o.2.1, .int .i64 o.2.2.1, .int .i64 o.2.2.2], 72), ([fn f cap], 103)])
  have HR := Lib.hid hr
  clear h hr
  go_enter Tryz.func191, Tryz.ntmps191
  go_wp2_with fail
  go_ret
  refine ⟨_, _, rfl, (H.out.push (q := .slotR k o) (v := fn 241 #[pt w.heap.size, pt (w.heap.size + 1), pt (w.heap.size + 1 + 1 + 1), pt (w.heap.size + 1 + 1)]) fun O hL hQ => ?_).less (fun p hp => List.mem_append_right _ hp) (fun p hp => hp)⟩
  exact ⟨_, _, _, _, (hQ (.ref o, fn f cap) HR.out).choose, rfl, hL (_, 0, _) (by simp [bxs, cellsOf, pt, fn]), hL (_, 0, _) (by simp [bxs, cellsOf, pt, fn]), (hQ (.ref o, fn f cap) HR.out).choose_spec.1 ▸ hL (_, 0, _) (by simp [bxs, cellsOf, pt, fn]), ⟨hL (_, 0, _) (by simp [bxs, cellsOf, pt, fn]), hL (_, 1, _) (by simp [bxs, cellsOf, pt, fn]), hL (_, 2, _) (by simp [bxs, cellsOf, pt, fn]), hL (_, 3, _) (by simp [bxs, cellsOf, pt, fn])⟩, (hQ (.ref o, fn f cap) HR.out).choose_spec.2⟩
set_option maxRecDepth 100000 in
/-- late. -/
theorem mk_late (k : Nat) (o : O4) {f : FuncId} {cap : Array Value} (h : Cx b R w x L Q) (hr : (K.slotR k o, fn f cap) ∈ Q) :
    Calls Tryz.prog 192 #[.pointer (some ⟨b.a, 0, none⟩), .int .i64 k, .func (.func f) #[] cap] w fun e w' => ∃ g c2, e = .returned (.func (.func g) #[] c2) ∧ Cx b R w' x L ((.late k o, fn g c2) :: Q) := by
  have H := Lib.hid (h.allocs [([pt b.a], 30), ([.int .i64 k], 3), ([fn f cap], 104)])
  have HR := Lib.hid hr
  clear h hr
  go_enter Tryz.func192, Tryz.ntmps192
  go_wp2_with fail
  go_ret
  refine ⟨_, _, rfl, (H.out.push (q := .late k o) (v := fn 244 #[pt w.heap.size, pt (w.heap.size + 1), pt (w.heap.size + 1 + 1)]) fun O hL hQ => ?_).less (fun p hp => List.mem_append_right _ hp) (fun p hp => hp)⟩
  exact ⟨_, _, _, _, rfl, hL (_, 0, _) (by simp [bxs, cellsOf, pt, fn]), hL (_, 0, _) (by simp [bxs, cellsOf, pt, fn]), hL (_, 0, _) (by simp [bxs, cellsOf, pt, fn]), hQ (.slotR k o, fn f cap) HR.out⟩
set_option maxRecDepth 100000 in
/-- assign. -/
theorem mk_assign (k : Nat) (o : O4) {f : FuncId} {cap : Array Value} (h : Cx b R w x L Q) (hr : (K.late k o, fn f cap) ∈ Q) :
    Calls Tryz.prog 194 #[.pointer (some ⟨b.a, 0, none⟩), .int .i64 k, .agg #[.int .i64 o.1, .int .i64 o.2.1, .int .i64 o.2.2.1, .int .i64 o.2.2.2], .func (.func f) #[] cap] w fun e w' => ∃ g c2, e = .returned (.func (.func g) #[] c2) ∧ Cx b R w' x L ((.assign k o, fn g c2) :: Q) := by
  have H := Lib.hid (h.allocs [([pt b.a], 30), ([.int .i64 k], 3), ([.int .i64 o.1, .int .i64 o.2.1, .int .i64 o.2.2.1, .int .i64 o.2.2.2], 72), ([fn f cap], 104)])
  have HR := Lib.hid hr
  clear h hr
  go_enter Tryz.func194, Tryz.ntmps194
  go_wp2_with fail
  go_ret
  refine ⟨_, _, rfl, (H.out.push (q := .assign k o) (v := fn 250 #[pt w.heap.size, pt (w.heap.size + 1), pt (w.heap.size + 1 + 1 + 1), pt (w.heap.size + 1 + 1)]) fun O hL hQ => ?_).less (fun p hp => List.mem_append_right _ hp) (fun p hp => hp)⟩
  exact ⟨_, _, _, _, _, rfl, hL (_, 0, _) (by simp [bxs, cellsOf, pt, fn]), hL (_, 0, _) (by simp [bxs, cellsOf, pt, fn]), hL (_, 0, _) (by simp [bxs, cellsOf, pt, fn]), ⟨hL (_, 0, _) (by simp [bxs, cellsOf, pt, fn]), hL (_, 1, _) (by simp [bxs, cellsOf, pt, fn]), hL (_, 2, _) (by simp [bxs, cellsOf, pt, fn]), hL (_, 3, _) (by simp [bxs, cellsOf, pt, fn])⟩, hQ (.late k o, fn f cap) HR.out⟩
set_option maxRecDepth 100000 in
/-- begin. -/
theorem mk_begin (y : Int) (o : O4) (h : Cx b R w x L Q) :
    Calls Tryz.prog 243 #[.pointer (some ⟨b.a, 0, none⟩), .int .i64 y, .agg #[.int .i64 o.1, .int .i64 o.2.1, .int .i64 o.2.2.1, .int .i64 o.2.2.2]] w fun e w' => ∃ g c2, e = .returned (.func (.func g) #[] c2) ∧ Cx b R w' x L ((.begin y o, fn g c2) :: Q) := by
  have H := Lib.hid (h.allocs [([pt b.a], 30), ([.int .i64 y], 3), ([.int .i64 o.1, .int .i64 o.2.1, .int .i64 o.2.2.1, .int .i64 o.2.2.2], 72)])
  clear h 
  go_enter Tryz.func243, Tryz.ntmps243
  go_wp2_with fail
  go_ret
  refine ⟨_, _, rfl, (H.out.push (q := .begin y o) (v := fn 285 #[pt w.heap.size, pt (w.heap.size + 1), pt (w.heap.size + 1 + 1)]) fun O hL hQ => ?_).less (fun p hp => List.mem_append_right _ hp) (fun p hp => hp)⟩
  exact ⟨_, _, _, rfl, hL (_, 0, _) (by simp [bxs, cellsOf, pt]), hL (_, 0, _) (by simp [bxs, cellsOf, pt]), ⟨hL (_, 0, _) (by simp [bxs, cellsOf, pt]), hL (_, 1, _) (by simp [bxs, cellsOf, pt]), hL (_, 2, _) (by simp [bxs, cellsOf, pt]), hL (_, 3, _) (by simp [bxs, cellsOf, pt])⟩⟩
set_option maxRecDepth 100000 in
set_option maxHeartbeats 1000000 in
/-- blank, a field. -/
theorem mk_blank_no (y : Int) (f : Nat) (o : O4) (h : Cx b (R) w x L Q) (hne : (f : Int) ≠ o.2.2.1) :
    Calls Tryz.prog 287 #[.pointer (some ⟨b.a, 0, none⟩), .int .i64 y, .int .i64 f, .agg #[.int .i64 o.1, .int .i64 o.2.1, .int .i64 o.2.2.1, .int .i64 o.2.2.2]] w fun e w' => ∃ g c2, e = .returned (.func (.func g) #[] c2) ∧ Cx b R w' x L ((.blank y f o, fn g c2) :: Q) := by
  obtain ⟨W1, hW1⟩ : ∃ W1, ((((w.alloc (.cells #[pt b.a] 30)).alloc (.cells #[.int .i64 y] 3)).alloc (.cells #[.int .i64 f] 3)).alloc (.cells #[.int .i64 o.1, .int .i64 o.2.1, .int .i64 o.2.2.1, .int .i64 o.2.2.2] 72)) = W1 := ⟨_, rfl⟩
  obtain ⟨LL, hLL⟩ : ∃ LL, bxs w.heap.size [([pt b.a], 30), ([.int .i64 y], 3), ([.int .i64 f], 3), ([.int .i64 o.1, .int .i64 o.2.1, .int .i64 o.2.2.1, .int .i64 o.2.2.2], 72)] ++ L = LL := ⟨_, rfl⟩
  have H : Cx b (R) W1 x LL Q := by rw [← hW1, ← hLL]; exact h.allocs [([pt b.a], 30), ([.int .i64 y], 3), ([.int .i64 f], 3), ([.int .i64 o.1, .int .i64 o.2.1, .int .i64 o.2.2.1, .int .i64 o.2.2.2], 72)]
  have A0_0 : (w.heap.size, 0, pt b.a) ∈ LL := by rw [← hLL]; simp [bxs, cellsOf]
  have A1_0 : (w.heap.size + 1, 0, .int .i64 y) ∈ LL := by rw [← hLL]; simp [bxs, cellsOf]
  have A2_0 : (w.heap.size + 1 + 1, 0, .int .i64 f) ∈ LL := by rw [← hLL]; simp [bxs, cellsOf]
  have A3_0 : (w.heap.size + 1 + 1 + 1, 0, .int .i64 o.1) ∈ LL := by rw [← hLL]; simp [bxs, cellsOf]
  have A3_1 : (w.heap.size + 1 + 1 + 1, 1, .int .i64 o.2.1) ∈ LL := by rw [← hLL]; simp [bxs, cellsOf]
  have A3_2 : (w.heap.size + 1 + 1 + 1, 2, .int .i64 o.2.2.1) ∈ LL := by rw [← hLL]; simp [bxs, cellsOf]
  have A3_3 : (w.heap.size + 1 + 1 + 1, 3, .int .i64 o.2.2.2) ∈ LL := by rw [← hLL]; simp [bxs, cellsOf]
  have hsub : ∀ p ∈ L, p ∈ LL := fun p hp => by rw [← hLL]; exact List.mem_append_right _ hp
  have e2_0 := H.at A2_0
  have e3_2 := H.at A3_2
  have HH := Lib.hid H
  have hb : ((f : Int) == o.2.2.1) = false := by rw [beq_eq_false_iff_ne]; exact hne
  have HA0_0 := Lib.hid A0_0
  have HA1_0 := Lib.hid A1_0
  have HA2_0 := Lib.hid A2_0
  have HA3_0 := Lib.hid A3_0
  have HA3_1 := Lib.hid A3_1
  have HA3_2 := Lib.hid A3_2
  have HA3_3 := Lib.hid A3_3
  have HS := Lib.hid hsub
  clear h H hLL hsub hne A0_0 A1_0 A2_0 A3_0 A3_1 A3_2 A3_3
  go_enter Tryz.func287, Tryz.ntmps287
  go_wp2_with fail
  go_ret
  refine ⟨_, _, rfl, (HH.out.push (q := .blank y f o) (v := fn 318 #[pt w.heap.size, pt (w.heap.size + 1), pt (w.heap.size + 1 + 1), pt (w.heap.size + 1 + 1 + 1)]) fun O hL hQ => ?_).less HS.out (fun p hp => hp)⟩
  exact ⟨_, _, _, _, rfl, hL _ HA0_0.out, hL _ HA1_0.out, hL _ HA2_0.out, hL _ HA3_0.out, hL _ HA3_1.out, hL _ HA3_2.out, hL _ HA3_3.out⟩
set_option maxRecDepth 100000 in
set_option maxHeartbeats 1000000 in
/-- blank, behind the last field. -/
theorem mk_blank_yes (y : Int) (f : Nat) (o : O4) (h : Cx b (R) w x L Q) (hne : (f : Int) = o.2.2.1) :
    Calls Tryz.prog 287 #[.pointer (some ⟨b.a, 0, none⟩), .int .i64 y, .int .i64 f, .agg #[.int .i64 o.1, .int .i64 o.2.1, .int .i64 o.2.2.1, .int .i64 o.2.2.2]] w fun e w' => ∃ g c2, e = .returned (.func (.func g) #[] c2) ∧ Cx b R w' x L ((.take o.2.1 (.born y), fn g c2) :: Q) := by
  obtain ⟨W1, hW1⟩ : ∃ W1, ((((w.alloc (.cells #[pt b.a] 30)).alloc (.cells #[.int .i64 y] 3)).alloc (.cells #[.int .i64 f] 3)).alloc (.cells #[.int .i64 o.1, .int .i64 o.2.1, .int .i64 o.2.2.1, .int .i64 o.2.2.2] 72)) = W1 := ⟨_, rfl⟩
  obtain ⟨LL, hLL⟩ : ∃ LL, bxs w.heap.size [([pt b.a], 30), ([.int .i64 y], 3), ([.int .i64 f], 3), ([.int .i64 o.1, .int .i64 o.2.1, .int .i64 o.2.2.1, .int .i64 o.2.2.2], 72)] ++ L = LL := ⟨_, rfl⟩
  have H : Cx b (R) W1 x LL Q := by rw [← hW1, ← hLL]; exact h.allocs [([pt b.a], 30), ([.int .i64 y], 3), ([.int .i64 f], 3), ([.int .i64 o.1, .int .i64 o.2.1, .int .i64 o.2.2.1, .int .i64 o.2.2.2], 72)]
  have A0_0 : (w.heap.size, 0, pt b.a) ∈ LL := by rw [← hLL]; simp [bxs, cellsOf]
  have A1_0 : (w.heap.size + 1, 0, .int .i64 y) ∈ LL := by rw [← hLL]; simp [bxs, cellsOf]
  have A2_0 : (w.heap.size + 1 + 1, 0, .int .i64 f) ∈ LL := by rw [← hLL]; simp [bxs, cellsOf]
  have A3_0 : (w.heap.size + 1 + 1 + 1, 0, .int .i64 o.1) ∈ LL := by rw [← hLL]; simp [bxs, cellsOf]
  have A3_1 : (w.heap.size + 1 + 1 + 1, 1, .int .i64 o.2.1) ∈ LL := by rw [← hLL]; simp [bxs, cellsOf]
  have A3_2 : (w.heap.size + 1 + 1 + 1, 2, .int .i64 o.2.2.1) ∈ LL := by rw [← hLL]; simp [bxs, cellsOf]
  have A3_3 : (w.heap.size + 1 + 1 + 1, 3, .int .i64 o.2.2.2) ∈ LL := by rw [← hLL]; simp [bxs, cellsOf]
  have hsub : ∀ p ∈ L, p ∈ LL := fun p hp => by rw [← hLL]; exact List.mem_append_right _ hp
  have e0_0 := H.at A0_0
  have e2_0 := H.at A2_0
  have e3_1 := H.at A3_1
  have e3_2 := H.at A3_2
  have HH := Lib.hid H
  have hb : ((f : Int) == o.2.2.1) = true := by rw [beq_iff_eq]; exact hne
  have HT := Lib.hid (mk_take (f := 316) (cap := #[pt (w.heap.size + 1), pt w.heap.size]) o.2.1 (.born y) (H.push (q := .rk (.born y)) (v := fn 316 #[pt (w.heap.size + 1), pt w.heap.size]) fun O hL hQ => ⟨_, _, rfl, hL _ A1_0, hL _ A0_0⟩) (List.mem_cons_self ..))
  have HS := Lib.hid hsub
  clear h H hLL hsub hne A0_0 A1_0 A2_0 A3_0 A3_1 A3_2 A3_3
  go_enter Tryz.func287, Tryz.ntmps287
  go_wp2_with (go_at_call 197; fail)
  refine HT.out.mono ?_
  rintro e w2 ⟨g, c2, rfl, h2⟩
  have H2 := Lib.hid h2
  clear h2
  go_wp2_with fail
  go_ret
  refine ⟨_, _, rfl, H2.out.less HS.out (fun p hp => ?_)⟩
  rcases List.mem_cons.1 hp with rfl | hp
  · exact List.mem_cons_self ..
  · exact List.mem_cons_of_mem _ (List.mem_cons_of_mem _ hp)
set_option maxRecDepth 100000 in
/-- slot, ahead of assigning. -/
theorem mk_slotA (k : Nat) (o : O4) {f : FuncId} {cap : Array Value} (h : Cx b R w x L Q) (hr : (K.asg k o, fn f cap) ∈ Q) :
    Calls Tryz.prog 191 #[.pointer (some ⟨b.a, 0, none⟩), .int .i64 k, .agg #[.int .i64 o.1, .int .i64 o.2.1, .int .i64 o.2.2.1, .int .i64 o.2.2.2], .func (.func f) #[] cap] w fun e w' => ∃ g c2, e = .returned (.func (.func g) #[] c2) ∧ Cx b R w' x L ((.slotA k o, fn g c2) :: Q) := by
  have H := Lib.hid (h.allocs [([pt b.a], 30), ([.int .i64 k], 3), ([.int .i64 o.1, .int .i64 o.2.1, .int .i64 o.2.2.1, .int .i64 o.2.2.2], 72), ([fn f cap], 103)])
  have HR := Lib.hid hr
  clear h hr
  go_enter Tryz.func191, Tryz.ntmps191
  go_wp2_with fail
  go_ret
  refine ⟨_, _, rfl, (H.out.push (q := .slotA k o) (v := fn 241 #[pt w.heap.size, pt (w.heap.size + 1), pt (w.heap.size + 1 + 1 + 1), pt (w.heap.size + 1 + 1)]) fun O hL hQ => ?_).less (fun p hp => List.mem_append_right _ hp) (fun p hp => hp)⟩
  obtain ⟨c0, c1, c2, c3, tv, e, h1, h2, h3, h4, h5⟩ := hQ (.asg k o, fn f cap) HR.out
  exact ⟨_, _, _, _, c0, c1, c2, c3, tv, rfl, hL (_, 0, _) (by simp [bxs, cellsOf, pt, fn]), hL (_, 0, _) (by simp [bxs, cellsOf, pt, fn]), e ▸ hL (_, 0, fn f cap) (by simp [bxs, cellsOf, pt, fn]), ⟨hL (_, 0, _) (by simp [bxs, cellsOf, pt, fn]), hL (_, 1, _) (by simp [bxs, cellsOf, pt, fn]), hL (_, 2, _) (by simp [bxs, cellsOf, pt, fn]), hL (_, 3, _) (by simp [bxs, cellsOf, pt, fn])⟩, h1, h2, h3, h4, h5⟩
set_option maxRecDepth 100000 in
set_option maxHeartbeats 1000000 in
/-- put, of none. -/
theorem mk_put_nil {p : Option Addr} {cp : Nat} {f : FuncId} {cap : Array Value} (h : Cx b (R) w x L Q) :
    Calls Tryz.prog 252 #[.pointer (some ⟨b.a, 0, none⟩), .slice p 0 cp, .func (.func f) #[] cap] w fun e w' => e = .returned (.func (.func f) #[] cap) ∧ Cx b R w' x L Q := by
  obtain ⟨W1, hW1⟩ : ∃ W1, (((w.alloc (.cells #[pt b.a] 30)).alloc (.cells #[.slice p 0 cp] 40)).alloc (.cells #[fn f cap] 104)) = W1 := ⟨_, rfl⟩
  obtain ⟨LL, hLL⟩ : ∃ LL, bxs w.heap.size [([pt b.a], 30), ([.slice p 0 cp], 40), ([fn f cap], 104)] ++ L = LL := ⟨_, rfl⟩
  have H : Cx b (R) W1 x LL Q := by rw [← hW1, ← hLL]; exact h.allocs [([pt b.a], 30), ([.slice p 0 cp], 40), ([fn f cap], 104)]
  have A0_0 : (w.heap.size, 0, pt b.a) ∈ LL := by rw [← hLL]; simp [bxs, cellsOf]
  have A1_0 : (w.heap.size + 1, 0, .slice p 0 cp) ∈ LL := by rw [← hLL]; simp [bxs, cellsOf]
  have A2_0 : (w.heap.size + 1 + 1, 0, fn f cap) ∈ LL := by rw [← hLL]; simp [bxs, cellsOf]
  have hsub : ∀ p ∈ L, p ∈ LL := fun p hp => by rw [← hLL]; exact List.mem_append_right _ hp
  have e1_0 := H.at A1_0
  have e2_0 := H.at A2_0
  have HH := Lib.hid H
  have HS := Lib.hid hsub
  clear h H hLL hsub A0_0 A1_0 A2_0
  go_enter Tryz.func252, Tryz.ntmps252
  go_wp2_with fail
  go_ret
  exact ⟨rfl, HH.out.less HS.out (fun p hp => hp)⟩
set_option maxRecDepth 100000 in
set_option maxHeartbeats 1000000 in
/-- put. -/
theorem mk_put {p : Option Addr} {cp : Nat} (sl : List Int) (y : Int) (o : O4) {f : FuncId} {cap : Array Value} (h : Cx b (R) w x L Q) (hs : (K.row sl, .slice p sl.length cp) ∈ Q) (hr : (K.begin y o, fn f cap) ∈ Q) (hl : 0 < sl.length) (hl2 : sl.length ≤ 100000) :
    Calls Tryz.prog 252 #[.pointer (some ⟨b.a, 0, none⟩), .slice p sl.length cp, .func (.func f) #[] cap] w fun e w' => ∃ g c2, e = .returned (.func (.func g) #[] c2) ∧ Cx b R w' x L ((.put sl y o, fn g c2) :: Q) := by
  obtain ⟨W1, hW1⟩ : ∃ W1, ((((w.alloc (.cells #[pt b.a] 30)).alloc (.cells #[.slice p sl.length cp] 40)).alloc (.cells #[fn f cap] 104)).alloc (.cells #[.int .i64 ((sl.length : Int) - 1)] 3)) = W1 := ⟨_, rfl⟩
  obtain ⟨LL, hLL⟩ : ∃ LL, bxs w.heap.size [([pt b.a], 30), ([.slice p sl.length cp], 40), ([fn f cap], 104), ([.int .i64 ((sl.length : Int) - 1)], 3)] ++ L = LL := ⟨_, rfl⟩
  have H : Cx b (R) W1 x LL Q := by rw [← hW1, ← hLL]; exact h.allocs [([pt b.a], 30), ([.slice p sl.length cp], 40), ([fn f cap], 104), ([.int .i64 ((sl.length : Int) - 1)], 3)]
  have A0_0 : (w.heap.size, 0, pt b.a) ∈ LL := by rw [← hLL]; simp [bxs, cellsOf]
  have A1_0 : (w.heap.size + 1, 0, .slice p sl.length cp) ∈ LL := by rw [← hLL]; simp [bxs, cellsOf]
  have A2_0 : (w.heap.size + 1 + 1, 0, fn f cap) ∈ LL := by rw [← hLL]; simp [bxs, cellsOf]
  have A3_0 : (w.heap.size + 1 + 1 + 1, 0, .int .i64 ((sl.length : Int) - 1)) ∈ LL := by rw [← hLL]; simp [bxs, cellsOf]
  have hsub : ∀ p ∈ L, p ∈ LL := fun p hp => by rw [← hLL]; exact List.mem_append_right _ hp
  have e1_0 := H.at A1_0
  have e2_0 := H.at A2_0
  have HH := Lib.hid H
  have hb : ((sl.length : Int) == 0) = false := by rw [beq_eq_false_iff_ne]; omega
  have HR := Lib.hid hr
  have HRW := Lib.hid hs
  have HB := Lib.hid hl2
  have hl3 : (0 : Int) < (sl.length : Int) := by omega
  have hl4 : (sl.length : Int) ≤ 100000 := by omega
  clear hl hl2 hs hr
  have HA0 := Lib.hid A0_0
  have HA1 := Lib.hid A1_0
  have HA2 := Lib.hid A2_0
  have HA3 := Lib.hid A3_0
  have HS := Lib.hid hsub
  clear h H hLL hsub A0_0 A1_0 A2_0 A3_0
  generalize hz : (sl.length : Int) - 1 = zl at *
  go_enter Tryz.func252, Tryz.ntmps252
  have HZ := Lib.hid hz
  go_wp2_with fail
  go_ret
  refine ⟨_, _, rfl, (HH.out.push (q := .put sl y o) (v := fn 296 #[pt w.heap.size, pt (w.heap.size + 1), pt (w.heap.size + 1 + 1 + 1), pt (w.heap.size + 1 + 1)]) fun O hL hQ => ?_).less HS.out (fun p hp => hp)⟩
  obtain ⟨p2, cp2, e, hrw⟩ := hQ (.row sl, .slice p sl.length cp) HRW.out
  cases e
  have hz2 := HZ.out
  subst hz2
  exact ⟨_, _, _, _, p, cp, _, rfl, hL _ HA0.out, hL _ HA1.out, hL _ HA3.out, hL _ HA2.out, hrw, hQ (.begin y o, fn f cap) HR.out⟩
set_option maxRecDepth 100000 in
set_option maxHeartbeats 1000000 in
/-- overwrite, without logging. -/
theorem mk_over_off {z : Ml} {m : Md} (y : Int) (rd : Rk) (la : Lk) {f f2 : FuncId} {cap cap2 : Array Value} (ha : b.a = z.M) (h : Cx b (mxR b.y z m) w x L Q) (hr : (K.rk rd, fn f cap) ∈ Q) (hr2 : (K.lk la, fn f2 cap2) ∈ Q) (h0 : m.mo = 0) :
    Calls Tryz.prog 202 #[.pointer (some ⟨z.M, 0, none⟩), .func (.func f) #[] cap, .int .i64 y, .func (.func f2) #[] cap2] w fun e w' => ∃ g c2, e = .returned (.func (.func g) #[] c2) ∧ Cx b (mxR b.y z m) w' x L ((.lay y la, fn g c2) :: Q) := by
  obtain ⟨W1, hW1⟩ : ∃ W1, (((((w.alloc (.cells #[pt z.M] 30)).alloc (.cells #[fn f cap] 298)).alloc (.cells #[.int .i64 y] 3)).alloc (.cells #[fn f2 cap2] 130)).alloc (.cells #[fn 259 #[pt (w.heap.size + 1 + 1 + 1), pt (w.heap.size + 1 + 1), pt w.heap.size]] 103)) = W1 := ⟨_, rfl⟩
  obtain ⟨LL, hLL⟩ : ∃ LL, bxs w.heap.size [([pt z.M], 30), ([fn f cap], 298), ([.int .i64 y], 3), ([fn f2 cap2], 130), ([fn 259 #[pt (w.heap.size + 1 + 1 + 1), pt (w.heap.size + 1 + 1), pt w.heap.size]], 103)] ++ L = LL := ⟨_, rfl⟩
  have H : Cx b (mxR b.y z m) W1 x LL Q := by rw [← hW1, ← hLL]; exact h.allocs [([pt z.M], 30), ([fn f cap], 298), ([.int .i64 y], 3), ([fn f2 cap2], 130), ([fn 259 #[pt (w.heap.size + 1 + 1 + 1), pt (w.heap.size + 1 + 1), pt w.heap.size]], 103)]
  have A0_0 : (w.heap.size, 0, pt z.M) ∈ LL := by rw [← hLL]; simp [bxs, cellsOf]
  have A1_0 : (w.heap.size + 1, 0, fn f cap) ∈ LL := by rw [← hLL]; simp [bxs, cellsOf]
  have A2_0 : (w.heap.size + 1 + 1, 0, .int .i64 y) ∈ LL := by rw [← hLL]; simp [bxs, cellsOf]
  have A3_0 : (w.heap.size + 1 + 1 + 1, 0, fn f2 cap2) ∈ LL := by rw [← hLL]; simp [bxs, cellsOf]
  have A4_0 : (w.heap.size + 1 + 1 + 1 + 1, 0, fn 259 #[pt (w.heap.size + 1 + 1 + 1), pt (w.heap.size + 1 + 1), pt w.heap.size]) ∈ LL := by rw [← hLL]; simp [bxs, cellsOf]
  have hsub : ∀ p ∈ L, p ∈ LL := fun p hp => by rw [← hLL]; exact List.mem_append_right _ hp
  have e0_0 := H.at A0_0
  have e4_0 := H.at A4_0
  have HH := Lib.hid H
  have HR := Lib.hid hr
  have HR2 := Lib.hid hr2
  have HAA := Lib.hid ha
  have HA0 := Lib.hid A0_0
  have HA1 := Lib.hid A1_0
  have HA2 := Lib.hid A2_0
  have HA3 := Lib.hid A3_0
  have HA4 := Lib.hid A4_0
  have HS := Lib.hid hsub
  have m5 := H.m5
  have hb : (m.mo == 0) = true := by rw [beq_iff_eq]; exact h0
  clear h H hLL hsub h0 hr hr2 ha A0_0 A1_0 A2_0 A3_0 A4_0
  go_enter Tryz.func202, Tryz.ntmps202
  go_wp2_with fail
  go_ret
  refine ⟨_, _, rfl, (HH.out.push (q := .lay y la) (v := fn 259 #[pt (w.heap.size + 1 + 1 + 1), pt (w.heap.size + 1 + 1), pt w.heap.size]) fun O hL hQ => ?_).less HS.out (fun p hp => hp)⟩
  exact ⟨_, _, _, _, rfl, hL _ HA3.out, hL _ HA2.out, by rw [HAA.out]; exact hL _ HA0.out, hQ (.lk la, fn f2 cap2) HR2.out⟩
set_option maxRecDepth 100000 in
set_option maxHeartbeats 1000000 in
/-- overwrite, logging. -/
theorem mk_over {z : Ml} {m : Md} (y : Int) (rd : Rk) (la : Lk) {f f2 : FuncId} {cap cap2 : Array Value} (ha : b.a = z.M) (h : Cx b (mxR b.y z m) w x L Q) (hr : (K.rk rd, fn f cap) ∈ Q) (hr2 : (K.lk la, fn f2 cap2) ∈ Q) (h0 : m.mo ≠ 0) :
    Calls Tryz.prog 202 #[.pointer (some ⟨z.M, 0, none⟩), .func (.func f) #[] cap, .int .i64 y, .func (.func f2) #[] cap2] w fun e w' => ∃ g c2, e = .returned (.func (.func g) #[] c2) ∧ Cx b (mxR b.y z m) w' x L ((.over y rd la, fn g c2) :: Q) := by
  obtain ⟨W1, hW1⟩ : ∃ W1, (((((w.alloc (.cells #[pt z.M] 30)).alloc (.cells #[fn f cap] 298)).alloc (.cells #[.int .i64 y] 3)).alloc (.cells #[fn f2 cap2] 130)).alloc (.cells #[fn 259 #[pt (w.heap.size + 1 + 1 + 1), pt (w.heap.size + 1 + 1), pt w.heap.size]] 103)) = W1 := ⟨_, rfl⟩
  obtain ⟨LL, hLL⟩ : ∃ LL, bxs w.heap.size [([pt z.M], 30), ([fn f cap], 298), ([.int .i64 y], 3), ([fn f2 cap2], 130), ([fn 259 #[pt (w.heap.size + 1 + 1 + 1), pt (w.heap.size + 1 + 1), pt w.heap.size]], 103)] ++ L = LL := ⟨_, rfl⟩
  have H : Cx b (mxR b.y z m) W1 x LL Q := by rw [← hW1, ← hLL]; exact h.allocs [([pt z.M], 30), ([fn f cap], 298), ([.int .i64 y], 3), ([fn f2 cap2], 130), ([fn 259 #[pt (w.heap.size + 1 + 1 + 1), pt (w.heap.size + 1 + 1), pt w.heap.size]], 103)]
  have A0_0 : (w.heap.size, 0, pt z.M) ∈ LL := by rw [← hLL]; simp [bxs, cellsOf]
  have A1_0 : (w.heap.size + 1, 0, fn f cap) ∈ LL := by rw [← hLL]; simp [bxs, cellsOf]
  have A2_0 : (w.heap.size + 1 + 1, 0, .int .i64 y) ∈ LL := by rw [← hLL]; simp [bxs, cellsOf]
  have A3_0 : (w.heap.size + 1 + 1 + 1, 0, fn f2 cap2) ∈ LL := by rw [← hLL]; simp [bxs, cellsOf]
  have A4_0 : (w.heap.size + 1 + 1 + 1 + 1, 0, fn 259 #[pt (w.heap.size + 1 + 1 + 1), pt (w.heap.size + 1 + 1), pt w.heap.size]) ∈ LL := by rw [← hLL]; simp [bxs, cellsOf]
  have hsub : ∀ p ∈ L, p ∈ LL := fun p hp => by rw [← hLL]; exact List.mem_append_right _ hp
  have e0_0 := H.at A0_0
  have e4_0 := H.at A4_0
  have HH := Lib.hid H
  have HR := Lib.hid hr
  have HR2 := Lib.hid hr2
  have HAA := Lib.hid ha
  have HA0 := Lib.hid A0_0
  have HA1 := Lib.hid A1_0
  have HA2 := Lib.hid A2_0
  have HA3 := Lib.hid A3_0
  have HA4 := Lib.hid A4_0
  have HS := Lib.hid hsub
  have m5 := H.m5
  have hb : (m.mo == 0) = false := by rw [beq_eq_false_iff_ne]; exact h0
  clear h H hLL hsub h0 hr hr2 ha A0_0 A1_0 A2_0 A3_0 A4_0
  go_enter Tryz.func202, Tryz.ntmps202
  go_wp2_with fail
  go_ret
  refine ⟨_, _, rfl, (HH.out.push (q := .over y rd la) (v := fn 260 #[pt (w.heap.size + 1), pt w.heap.size, pt (w.heap.size + 1 + 1 + 1 + 1), pt (w.heap.size + 1 + 1)]) fun O hL hQ => ?_).less HS.out (fun p hp => hp)⟩
  exact ⟨_, _, _, _, _, _, rfl, hL _ HA1.out, by rw [HAA.out]; exact hL _ HA0.out, hL _ HA4.out, hL _ HA2.out, hQ (.rk rd, fn f cap) HR.out, ⟨_, _, _, _, rfl, hL _ HA3.out, hL _ HA2.out, by rw [HAA.out]; exact hL _ HA0.out, hQ (.lk la, fn f2 cap2) HR2.out⟩⟩
end
end Go.Proofs.YtipifkgmhgkleaaGreatDoor.Mv
