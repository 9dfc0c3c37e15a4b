/-
  slices.Backward of a row of numbers, and All of a list, as iterators: what whoever ranges over them is told.
-/
import Derived.Test.YtooojajagkbhiaaDoorLisA
import Derived.Test.YtooojajagkbhiaaDoorTold
import Derived.Test.YtooojajagkbhiaaDoorRowB
import Derived.Test.YtooojajagkbhiaaDoorBlkF
namespace Go.Proofs.YtooojajagkbhiaaDoor.Lis
open Go.RowKit Go.Shelf
open Blk (Cfg TbIs rowB other same)
open Go.Proofs.YtooojajagkbhiaaDoor.Row (Rd Rd0 clone_any cellsZ)
attribute [local go_sem] Oper.semAt_some

/-- What is told of a row, the last one first: where it lies, and what it is. -/
def idxB (l : List Int) (i : Nat) : Int := ((l.length - 1 - i : Nat) : Int)
def tellB (l : List Int) (i : Nat) : Int := l.getD (l.length - 1 - i) 0
def encB (l : List Int) (i : Nat) : Array Value := #[.int .i64 (idxB l i), .int .i64 (tellB l i)]

set_option maxRecDepth 100000 in
set_option maxHeartbeats 2000000 in
theorem backward_told (m B : Nat) (p : Option Addr) (cp : Nat) (l : List Int) (hlen : l.length ≤ 1048576) (w : World) :
    SeqTold Fence.wide m Tryd.prog 71 #[.pointer (some ⟨B, 0, none⟩)] l.length (encB l) (fun W => W.cell? ⟨B, 0, none⟩ = some (.slice p l.length cp) ∧ Rd0 W p l) w := by
  refine SeqTold.any (n := 4) ?_
  intro lp J Jx W hW hJ hJx hT hY h0
  obtain ⟨O0, hj0, hO0⟩ := h0
  obtain ⟨hB, _⟩ := hT _ _ _ hj0
  clear hJ hJx
  refine callsIn_of_wp Tryd.func71 rfl trivial ?_ rfl
  simp only [Tryd.ntmps71, List.size_toArray, List.length_cons, List.length_nil, Nat.reduceAdd, Nat.reduceSub, Array.replicate_succ, Array.replicate_zero, List.push_toArray, List.append_toArray, List.nil_append, List.cons_append]
  gi_wp2
  clear hB
  gi_loopw [3] (fun i wr => ∃ c : Nat, c ≤ l.length ∧ i = .int .i64 ((c : Int) - 1) ∧ W.heap.size ≤ wr.heap.size ∧ ∃ O, J O (l.length - c) wr ∧ ∀ k, O k → k < wr.heap.size)
    (fun i _ => (intOf i + 1).toNat)
  case atStart => exact ⟨l.length, Nat.le_refl _, rfl, Nat.le_refl _, O0, by rw [Nat.sub_self]; exact hj0, hO0⟩
  case round =>
    obtain ⟨c, hc, rfl, hsz, O, hJm, hOm⟩ := hrel
    rcases c with _ | c
    · have i0 : ((0 : Nat) : Int) - 1 = -1 := by omega
      gi_wp2
      go_end0
      exact ⟨⟨_, rfl⟩, O, hOm, hsz, .inl (by simpa using hJm)⟩
    · obtain ⟨hB, hrd⟩ := hT _ _ _ hJm
      obtain ⟨g, off, rfl, hx⟩ := hrd c (by omega)
      have i0 : ((c + 1 : Nat) : Int) - 1 = (c : Int) := by omega
      have i1 : (0 : Int) ≤ (c : Int) := Int.natCast_nonneg _
      have i2 : (c : Int) < (l.length : Int) := by omega
      obtain ⟨fn, tmps, assign, body, hy, hR⟩ := hY O (l.length - (c + 1)) wr (by omega) hJm hOm hsz
      unfold encB idxB tellB at hy
      rw [show l.length - 1 - (l.length - (c + 1)) = c by omega] at hy
      have HS := Lib.hid (show l.length - (c + 1) + 1 = l.length - c by omega)
      clear hrd
      generalize l.getD c 0 = x at *
      gi_wp2
      refine hR.mono ?_
      rintro e W3 ⟨O', ht3, (⟨rfl, hJ3⟩ | ⟨rfl, hJx3⟩)⟩
      · have hs3 := ht3.size
        have ho3 := ht3.lt
        rw [HS.out] at hJ3
        gi_wp2
        go_roundw
        case rel => exact ⟨c, by omega, by go_num, by omega, O', hJ3, ho3⟩
        case measure => simp [intOf]
      · have hs3 := ht3.size
        have ho3 := ht3.lt
        gi_wp2
        refine bodyPost_ret (results_none rfl _ _ _) rfl ?_
        exact ⟨⟨_, rfl⟩, O', ho3, by omega, .inr ⟨_, by omega, hJx3⟩⟩

theorem backward_fn (p : Option Addr) (n c : Nat) (w : World) : Calls Tryd.prog 59 #[.slice p n c] w fun e w' => e = .returned (.func (.func 71) #[] #[.pointer (some ⟨w.heap.size, 0, none⟩)]) ∧ w.alloc (.cells #[.slice p n c] 33) = w' := by
  go_enter Tryd.func59, Tryd.ntmps59
  go_wp2
  go_ret
  exact ⟨rfl, rfl⟩

set_option maxRecDepth 100000 in
set_option maxHeartbeats 4000000 in
theorem all1_told (m Bl Bk : Nat) (q : Option Addr) (k : Int) (p : Option Addr) (cp : Nat) (l : List Int) (hlen : l.length ≤ 1048576) (w : World) (hl : w.cell? ⟨Bl, 0, none⟩ = some (.pointer q)) (hk : w.cell? ⟨Bk, 0, none⟩ = some (.int .i64 k))
    (hsl : ∀ W, Below w.heap.size w W → Calls Tryd.prog 39 #[.pointer q, .int .i64 k] W fun e w' => e = .returned (.slice p l.length cp) ∧ Below W.heap.size W w') (hrd : Rd w p l) (hnc : p = none → cp = 0) :
    SeqTold Fence.wide m Tryd.prog 57 #[.pointer (some ⟨Bl, 0, none⟩), .pointer (some ⟨Bk, 0, none⟩)] l.length (fun i => #[.int .i64 (tellB l i)]) (fun _ => True) w := by
  refine SeqTold.any (n := 5) ?_
  intro lp J Jx W hW hJ hJx hT hY h0
  obtain ⟨O0, hj0, hO0⟩ := h0
  have cl : W.cell? ⟨Bl, 0, none⟩ = some (.pointer q) := (hW.cell (p := ⟨Bl, 0, none⟩) (World.block_lt_of_cell? w _ hl)).trans hl
  have ck : W.cell? ⟨Bk, 0, none⟩ = some (.int .i64 k) := (hW.cell (p := ⟨Bk, 0, none⟩) (World.block_lt_of_cell? w _ hk)).trans hk
  have lBl := World.block_lt_of_cell? W _ cl
  have lBk := World.block_lt_of_cell? W _ ck
  simp only at lBl lBk
  have HSL := Lib.hid hsl
  have HRD := Lib.hid hrd
  have HW := Lib.hid (hW.alloc hW.size (.cells #[.func (.yield lp) #[] #[]] 40))
  clear hsl hrd hl hk hW
  refine callsIn_of_wp_marks Tryd.func57 rfl trivial ?_ rfl
  simp only [Tryd.ntmps57, List.size_toArray, List.length_cons, List.length_nil, Nat.reduceAdd, Nat.reduceSub, Array.replicate_succ, Array.replicate_zero, List.push_toArray, List.append_toArray, List.nil_append, List.cons_append]
  gi_wp2
  refine Blk.wpIn_scope ?_
  gi_wp2_with (refine ⟨trivial, ?_⟩; first
    | (gi_at_call 39; refine (callsIn_wide.2 (HSL.out _ HW.out)).mono ?_; rintro e w1 ⟨rfl, hb1⟩)
    | (gi_at_call 58; refine (callsIn_wide.2 (clone_any p l _ (by omega) hnc (HRD.out.later (HW.out.trans (hb1.mono HW.out.size))))).mono ?_; rintro e w2 ⟨p2, c2, rfl, ho2, hb2⟩))
  refine wpIn_label ?_
  gi_wp2_with (refine ⟨trivial, ?_⟩; gi_at_call 59; refine (callsIn_wide.2 (backward_fn _ _ _ _)).mono ?_; rintro e w3 ⟨rfl, rfl⟩)
  have hW1 : Below W.heap.size W (W.alloc (.cells #[.func (.yield lp) #[] #[]] 40)) := (Below.refl _ _).alloc (Nat.le_refl _) _
  have cY1 : Boxed (W.alloc (.cells #[.func (.yield lp) #[] #[]] 40)) W.heap.size 40 (.func (.yield lp) #[] #[]) := Boxed.new W _ _
  have hs1 : W.heap.size + 1 ≤ w1.heap.size := by have := hb1.size; simp at this; omega
  have cY2 : Boxed w2 W.heap.size 40 (.func (.yield lp) #[] #[]) := Boxed.below (Boxed.below cY1 hb1 (by simp)) hb2 (by omega)
  have b02 : Below W.heap.size W w2 := (hW1.trans (hb1.mono (by simp))).trans (hb2.mono (by omega))
  generalize hX : World.alloc _ _ = X
  have bX : Below w2.heap.size w2 X := by rw [← hX]; exact (Below.refl _ _).alloc (Nat.le_refl _) _
  have hsX : X.heap.size = w2.heap.size + 1 := by rw [← hX]; simp
  have xs : Boxed X w2.heap.size 33 (.slice p2 l.length c2) := by rw [← hX]; exact Boxed.new _ _ _
  have hs2 := hb2.size
  have bWX : Below W.heap.size W X := b02.trans (bX.mono (by omega))
  have xY : Boxed X W.heap.size 40 (.func (.yield lp) #[] #[]) := Boxed.below cY2 bX (by omega)
  have xo : X.ownsRow W.heap.size 3 1 (.slice p2 l.length c2) l.length (cellsZ l) := Row.owns_base (by omega) (Row.owns_block ho2 (fun g hg => bX.block g (Row.owns_lt ho2 hg).2))
  have HP2 : Hid (∀ g, Row.rowB p2 g → W.heap.size + 1 ≤ g ∧ g < X.heap.size) := Lib.hid fun g hg => by have := Row.owns_lt ho2 hg; omega
  have HJ := Lib.hid hJ
  have HJX := Lib.hid hJx
  have HTT := Lib.hid hT
  have HY := Lib.hid hY
  have HO := Lib.hid hO0
  have HJ0 := Lib.hid hj0
  have HX := Lib.hid (show W.heap.size + 2 ≤ X.heap.size by omega)
  have HX2 := Lib.hid (show W.heap.size + 1 ≤ w2.heap.size ∧ w2.heap.size < X.heap.size by omega)
  clear hX hW1 cY1 cY2 b02 bX hb1 hb2 ho2 hJ hJx hT hY hO0 hj0 HW HSL HRD cl ck
  refine wpIn_rangeFunc_told rfl (by decide) (gf := 71) (lb := #[.pointer (some ⟨w2.heap.size, 0, none⟩)]) rfl trivial (enters_of Tryd.func71 (by kernel_rfl) rfl)
    (backward_told 4 w2.heap.size p2 c2 l (by omega) X) (Below.refl _ _) (fun _ => rfl)
    (fun O i Y => J O i Y ∧ X.heap.size ≤ Y.heap.size ∧ Boxed Y W.heap.size 40 (.func (.yield lp) #[] #[]) ∧ Boxed Y w2.heap.size 33 (.slice p2 l.length c2) ∧ Y.ownsRow W.heap.size 3 1 (.slice p2 l.length c2) l.length (cellsZ l) ∧ (∀ k, O k → k < W.heap.size ∨ X.heap.size ≤ k))
    (fun cc O i Y => cc = .exit 0 ∧ Jx O i Y ∧ W.heap.size ≤ Y.heap.size)
    ?hI ?hIx ?hT ?h0
    (fun i => { tmps := #[.func (.yield lp) #[] #[], .pointer (some ⟨Bl, 0, none⟩), .pointer (some ⟨Bk, 0, none⟩), .pointer (some ⟨W.heap.size, 0, none⟩), .slice p2 l.length c2, undef, .int .i64 (tellB l i), .pointer q, .int .i64 k, .slice p l.length cp, .slice p2 l.length c2, .slice p2 l.length c2,
      .func (.func 71) #[] #[.pointer (some ⟨w2.heap.size, 0, none⟩)], .int .i64 (idxB l i), .int .i64 (tellB l i), undef, undef, undef, undef], defers := [] }) ?assign ?body ?done ?stop
  case hI =>
    rintro O i X' Y ⟨h1, h2, h3, h4, h5, h6⟩ hb hk
    exact ⟨HJ.out O i X' Y h1 (hb.mono (by have := HX.out; omega)) hk, Nat.le_trans h2 hb.size, Boxed.below h3 hb (by have := HX.out; omega), Boxed.below h4 hb HX2.out.2, Row.owns_block h5 (fun g hg => hb.block g (HP2.out g hg).2), h6⟩
  case hIx =>
    rintro cc O i X' Y ⟨h1, h2, h3⟩ hb hk
    exact ⟨h1, HJX.out O i X' Y h2 (hb.mono (by have := HX.out; omega)) hk, Nat.le_trans h3 hb.size⟩
  case hT =>
    rintro O i Y ⟨h1, h2, h3, h4, h5, h6⟩
    exact ⟨h4.cell, (Rd.of_owns h5).rd0⟩
  case h0 =>
    exact ⟨O0, ⟨HJ.out.alloc HJ0.out HO.out (Nat.le_refl _) bWX, Nat.le_refl _, xY, xs, xo, fun k hk => .inl (HO.out k hk)⟩, fun k hk => by have := HO.out k hk; have := HX.out; omega⟩
  case assign =>
    intro l' i Y K hi hK
    unfold encB
    gi_wp2
    exact hK
  case body =>
    rintro l' O i Y _ _ hi ⟨h1, h2, h3, h4, h5, h6⟩ hlt _
    have k3 := h3.cell
    obtain ⟨fn, tmps, asg, bdy, hy, hR'⟩ := yieldAt_any (m := 2) (HY.out O i Y hi h1 hlt (by have := HX.out; omega))
    gi_wp2
    refine RoundIn.mono (F := Fence.wide.inRound l') hR' ?_
    rintro e Y' ⟨O', ht, (⟨rfl, hj⟩ | ⟨rfl, hj⟩)⟩
    · have hn : ∀ k, W.heap.size ≤ k → k < X.heap.size → ¬ O k := fun k a1 a2 a3 => by have := h6 k a3; omega
      have hfin : toldPost X.heap.size (fun O i Y => J O i Y ∧ X.heap.size ≤ Y.heap.size ∧ Boxed Y W.heap.size 40 (.func (.yield lp) #[] #[]) ∧ Boxed Y w2.heap.size 33 (.slice p2 l.length c2) ∧ Y.ownsRow W.heap.size 3 1 (.slice p2 l.length c2) l.length (cellsZ l) ∧ (∀ k, O k → k < W.heap.size ∨ X.heap.size ≤ k))
          (fun cc O i Y => cc = .exit 0 ∧ Jx O i Y ∧ W.heap.size ≤ Y.heap.size) O i Y .normal { tmps := #[], defers := [] } Y' := by
        refine ⟨O', ht.mono (by have := HX.out; omega), hj, Nat.le_trans h2 ht.size, ht.boxed h3 (Nat.le_refl _) (hn _ (Nat.le_refl _) (by have := HX.out; omega)), ht.boxed h4 (by have := HX2.out; omega) (hn _ (by have := HX2.out; omega) HX2.out.2), Row.owns_block h5 (fun g hg => ht.keep g (by have := HP2.out g hg; omega) (by have := HP2.out g hg; omega) (hn g (by have := HP2.out g hg; omega) (HP2.out g hg).2)), fun k hk => ?_⟩
        rcases ht.grow k hk with h | h
        · exact h6 k h
        · exact .inr (Nat.le_trans h2 h)
      have HF := Lib.hid hfin
      clear hfin ht hj h1 h2 h3 h4 h5 h6 hlt hy hR' hn
      gi_wp2
      exact HF.out
    · have hfin : toldPost X.heap.size (fun O i Y => J O i Y ∧ X.heap.size ≤ Y.heap.size ∧ Boxed Y W.heap.size 40 (.func (.yield lp) #[] #[]) ∧ Boxed Y w2.heap.size 33 (.slice p2 l.length c2) ∧ Y.ownsRow W.heap.size 3 1 (.slice p2 l.length c2) l.length (cellsZ l) ∧ (∀ k, O k → k < W.heap.size ∨ X.heap.size ≤ k))
          (fun cc O i Y => cc = .exit 0 ∧ Jx O i Y ∧ W.heap.size ≤ Y.heap.size) O i Y (.exit 0) { tmps := #[], defers := [] } Y' :=
        ⟨O', ht.mono (by have := HX.out; omega), rfl, hj, by have := ht.size; have := HX.out; omega⟩
      have HF := Lib.hid hfin
      clear hfin ht hj h1 h2 h3 h4 h5 h6 hlt hy hR'
      gi_wp2
      exact HF.out
  case done =>
    rintro D O Y hD ⟨h1, h2, h3, h4, h5, h6⟩ hn hlt hK
    have hj3 : J O l.length (Y.putObj D (.deferred none)) := HJ.out.putObj h1 (by have := HX.out; omega) hn _
    have HF := Lib.hid hj3
    clear hj3 h1 h3 h4 h5 h6
    gi_wp2
    refine ⟨by simp, .inl ⟨_, _, rfl, run_takeDeferred hK, ?_⟩⟩
    exact ⟨_, results_none rfl _ _ _, ⟨_, rfl⟩, O, fun k hk => by simpa using hlt k hk, by have := HX.out; simp; omega, .inl HF.out⟩
  case stop =>
    rintro D cc O i Y hD hi ⟨rfl, h1, h2⟩ hn hlt hK
    have hj3 : Jx O (i + 1) (Y.putObj D (.deferred none)) := HJX.out.putObj h1 (by have := HX.out; omega) hn _
    have HF := Lib.hid hj3
    clear hj3 h1
    gi_wp2
    refine ⟨by simp, .inl ⟨_, _, rfl, run_takeDeferred hK, ?_⟩⟩
    exact ⟨_, results_none rfl _ _ _, ⟨_, rfl⟩, O, fun k hk => by simpa using hlt k hk, by simpa using h2, .inr ⟨i, hi, HF.out⟩⟩
end Go.Proofs.YtooojajagkbhiaaDoor.Lis
