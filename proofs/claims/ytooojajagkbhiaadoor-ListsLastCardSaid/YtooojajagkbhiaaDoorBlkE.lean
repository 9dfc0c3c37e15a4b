/-
  slices.Collect, over whatever iterator of numbers; Slots.
-/
import Derived.Test.YtooojajagkbhiaaDoorBlkD
namespace Go.Proofs.YtooojajagkbhiaaDoor.Blk
open Go.RowKit Go.Shelf
open Class (isB isB_true isB_false sizI perI SizTab)
open Go.Proofs.YtooojajagkbhiaaDoor.Addr (Tabs)
attribute [local go_sem] Oper.semAt_some

/-- The first numbers of a row, as cells. -/
def cellsF (f : Nat → Int) (n : Nat) : List Value := (List.range n).map fun i => .int .i64 (f i)
theorem cellsF_succ (f : Nat → Int) (n : Nat) : cellsF f (n + 1) = cellsF f n ++ [.int .i64 (f n)] := by simp [cellsF, List.range_succ]

/-- What an append of one number to a variable's row leaves. -/
theorem push_fin {Y w3 : World} {S B base n cap : Nat} {p : Option Addr} {v' : Value} {x : Value} {xs : List Value} (bx : Boxed Y S 33 (.slice p n cap)) (hS : S < B) (hB : B ≤ Y.heap.size) (hSb : S < base)
    (ho : Y.ownsRow base 3 1 (.slice p n cap) n xs) (hown : w3.ownsRow base 3 1 v' (n + 1) (xs ++ [x])) (hg : (Y.alloc (.cells #[x] 3)).grownBy w3 (Value.slice p n cap).ownBlock)
    (hat : v'.ownBlock = (Value.slice p n cap).ownBlock ∨ v'.ownBlock = some (Y.heap.size + 1)) :
    ∃ p' cap', v' = .slice p' (n + 1) cap' ∧ Boxed w3 S 33 (.slice p n cap) ∧ Boxed (w3.setCell ⟨S, 0, none⟩ v') S 33 v' ∧ (w3.setCell ⟨S, 0, none⟩ v').ownsRow base 3 1 v' (n + 1) (xs ++ [x]) ∧
      Turn B (rowB p) (rowB p') Y (w3.setCell ⟨S, 0, none⟩ v') ∧ Below S Y (w3.setCell ⟨S, 0, none⟩ v') := by
  obtain ⟨p', cap', rfl, hp⟩ := owns_more (w := Y.alloc (.cells #[x] 3)) hown (by simpa using hat)
  have hrow : ∀ i, i < Y.heap.size → ¬ rowB p i → w3.heap[i]? = Y.heap[i]? := fun i hi hn =>
    (hg.block i (by simp; omega) (fun e => hn ((ownBlock_slice p n cap i).1 e.symm))).trans (Below.heap_alloc _ _ _ hi)
  have hnS : ∀ q m c' ys (W : World), W.ownsRow base 3 1 (.slice q m c') m ys → ¬ rowB q S := fun q m c' ys W h e => by have := (owns_lt h e).1; omega
  have b3 : Boxed w3 S 33 (.slice p n cap) := (hrow S (by omega) (hnS _ _ _ _ _ ho)).trans bx
  have hsz : Y.heap.size ≤ w3.heap.size := by have := hg.size; simp at this; omega
  refine ⟨p', cap', rfl, b3, b3.set _, owns_block hown (fun g hg' => Below.heap_setCell _ _ _ _ (fun e => hnS _ _ _ _ _ hown (by rw [show g = S from e] at hg'; exact hg'))), ⟨?_, ?_, ?_, ?_⟩, ⟨hg.os, hg.tape, hg.output, ?_, ?_⟩⟩
  · rw [size_setCell]; exact hsz
  · intro k h1 h2 h3
    exact (Below.heap_setCell _ _ _ _ (by show k ≠ S; omega)).trans (hrow k h2 h3)
  · intro k hk
    rcases hp k hk with h | h
    · exact .inl h
    · right; rw [h]; simp
  · intro k hk
    rw [size_setCell]; exact (owns_lt hown hk).2
  · rw [size_setCell]; exact hsz
  · intro k hk
    refine (Below.heap_setCell _ _ _ _ (by show k ≠ S; omega)).trans (hrow k (by omega) (fun e => ?_))
    have := (owns_lt ho e).1
    omega

set_option maxRecDepth 100000 in
set_option maxHeartbeats 4000000 in
theorem appendSeq_any (gf : Nat) (lb : Array Value) (N : Nat) (f : Nat → Int) (T : World → Prop) (w : World) (hN : N ≤ 1048576) (eg : ∀ args w, (callFunc gf args).run Tryd.prog w = .ok (.enter gf args) w)
    (hseq : SeqTold Fence.wide 4 Tryd.prog gf lb N (fun i => #[.int .i64 (f i)]) T w) (hT : ∀ W, Below w.heap.size w W → T W) :
    Calls Tryd.prog 65 #[.slice none 0 0, .func (.func gf) #[] lb] w fun e w' => ∃ p cap, e = .returned (.slice p N cap) ∧ w'.ownsRow w.heap.size 3 1 (.slice p N cap) N (cellsF f N) ∧ Below w.heap.size w w' := by
  obtain ⟨i0, hinf, hz0, hz1, hz2⟩ := info_parts infoInt
  refine (callsIn_wide (n := 5)).1 ?_
  refine callsIn_of_wp_marks Tryd.func65 rfl trivial ?_ rfl
  simp only [Tryd.ntmps65, List.size_toArray, List.length_cons, List.length_nil, Nat.reduceAdd, Nat.reduceSub, Array.replicate_succ, Array.replicate_zero, List.push_toArray, List.append_toArray, List.nil_append, List.cons_append]
  gi_wp2
  generalize hX : World.alloc _ _ = X
  have bX : Below w.heap.size w X := by rw [← hX]; exact (Below.refl _ _).alloc (Nat.le_refl _) _
  have hsX : X.heap.size = w.heap.size + 1 := by rw [← hX]; simp
  have xs : Boxed X w.heap.size 33 (.slice none 0 0) := by rw [← hX]; exact Boxed.new _ _ _
  clear hX
  refine wpIn_rangeFunc_told rfl (by decide) (gf := gf) (lb := lb) rfl trivial eg hseq bX (fun _ => rfl)
    (fun O i Y => ∃ p cap, O = rowB p ∧ Boxed Y w.heap.size 33 (.slice p i cap) ∧ Y.ownsRow (w.heap.size + 1) 3 1 (.slice p i cap) i (cellsF f i) ∧ Below w.heap.size w Y)
    (fun _ _ _ _ => False) ?hI (fun _ _ _ _ _ h => h.elim) ?hT ?h0
    (fun i => { tmps := #[.slice none 0 0, .func (.func gf) #[] lb, .pointer (some ⟨w.heap.size, 0, none⟩), undef, .slice none 0 0, .int .i64 (f i), .func (.func gf) #[] lb, .int .i64 (f i), undef, undef, undef, undef, undef], defers := [] }) ?assign ?body ?done (fun _ _ _ _ _ _ _ h => h.elim)
  case hI =>
    rintro O i X' Y ⟨p, cap, rfl, h1, h2, h3⟩ hb hk
    exact ⟨p, cap, rfl, Boxed.below h1 hb (by omega), owns_block h2 hk, h3.trans (hb.mono (by omega))⟩
  case hT =>
    rintro O i Y ⟨p, cap, rfl, h1, h2, h3⟩
    exact hT Y h3
  case h0 => exact ⟨_, ⟨none, 0, rfl, xs, ⟨rfl, .inl ⟨rfl, rfl⟩⟩, bX⟩, fun k hk => by cases hk⟩
  case assign =>
    intro l i Y K hi hK
    gi_wp2
    exact hK
  case body =>
    rintro l O i Y hl _ hi ⟨p, cap, rfl, h1, h2, h3⟩ hlt hsz
    have k1 := h1.cell
    have kf := h1.frozen
    have HO := Lib.hid h2
    have H1 := Lib.hid h1
    have H3 := Lib.hid h3
    have hbase : w.heap.size + 1 ≤ (Y.alloc (.cells #[.int .i64 (f i)] 3)).heap.size := by simp; omega
    have HBA := Lib.hid hbase
    clear h1 h2 h3 hbase hseq
    gi_wp2_with (gi_at_builtin; refine wpListIn_append_own_at _ rfl (.tmp 8) (.tmp 10) 33 rfl (w.heap.size + 1) 3 i0 (.int .i64 0) 1 8 Tryd.underlying33 hinf hz0 hz1 hz2 rfl (by decide) _ _ _ rfl (HO.out.alloc _) ⟨Y.heap.size, 0, none⟩ 1 1 [.int .i64 (f i)] rfl rfl (one_at rfl) (by simp [Value.oneCell']) (by unfold maxLen; omega) (by omega) HBA.out ?_)
    intro v' w3 hown hgrow _ hat
    obtain ⟨p', cap', rfl, b3, b4, ho4, ht4, hb4⟩ := push_fin (B := X.heap.size) H1.out (by omega) (by omega) (by omega) HO.out hown hgrow (by simpa using hat)
    have hfin : toldPost X.heap.size (fun O i Y => ∃ p cap, O = rowB p ∧ Boxed Y w.heap.size 33 (.slice p i cap) ∧ Y.ownsRow (w.heap.size + 1) 3 1 (.slice p i cap) i (cellsF f i) ∧ Below w.heap.size w Y) (fun _ _ _ _ => False) (rowB p) i Y .normal { tmps := #[], defers := [] } (w3.setCell ⟨w.heap.size, 0, none⟩ (.slice p' (i + 1) cap')) :=
      ⟨_, ht4, p', cap', rfl, b4, by rw [cellsF_succ]; exact ho4, H3.out.trans hb4⟩
    have HF := Lib.hid hfin
    have k3 := b3.cell
    have kf3 := b3.frozen
    clear hown hgrow hat hfin b3 b4 ho4 ht4 hb4
    gi_wp2
    exact HF.out
  case done =>
    rintro D O Y hD ⟨p, cap, rfl, h1, h2, h3⟩ hn hlt hK
    have k1 := h1.cell
    have hfin : (Y.putObj D (.deferred none)).ownsRow w.heap.size 3 1 (.slice p N cap) N (cellsF f N) ∧ Below w.heap.size w (Y.putObj D (.deferred none)) :=
      ⟨owns_base (by omega) (owns_block h2 (fun g hg => World.putObj_heap_other (fun e => hn (e ▸ hg)))), h3.trans (below_putObj (by omega) _ _)⟩
    have HF := Lib.hid hfin
    clear hfin h1 h2 h3
    gi_wp2
    refine ⟨by simp, .inl ⟨_, _, rfl, run_takeDeferred hK, ?_⟩⟩
    exact ⟨_, results_tmp rfl _ _ _, p, cap, rfl, HF.out.1, HF.out.2⟩

theorem collect_any (gf : Nat) (lb : Array Value) (N : Nat) (f : Nat → Int) (T : World → Prop) (w : World) (hN : N ≤ 1048576) (eg : ∀ args w, (callFunc gf args).run Tryd.prog w = .ok (.enter gf args) w)
    (hseq : SeqTold Fence.wide 4 Tryd.prog gf lb N (fun i => #[.int .i64 (f i)]) T w) (hT : ∀ W, Below w.heap.size w W → T W) :
    Calls Tryd.prog 48 #[.func (.func gf) #[] lb] w fun e w' => ∃ p cap, e = .returned (.slice p N cap) ∧ w'.ownsRow w.heap.size 3 1 (.slice p N cap) N (cellsF f N) ∧ Below w.heap.size w w' := by
  have HC := Lib.hid (appendSeq_any gf lb N f T w hN eg hseq hT)
  clear hseq hT
  go_enter Tryd.func48, Tryd.ntmps48
  go_wp2_with (go_at_call 65; refine HC.out.mono ?_; rintro e w1 ⟨p, cap, rfl, h1, h2⟩)
  go_ret
  exact ⟨p, cap, rfl, h1, h2⟩

/-- A slot's box, and a number's behind it. -/
theorem two_new {w : World} {q : Option Addr} {b : Int} : ∃ W0, (w.alloc (.cells #[.pointer q] 29)).alloc (.cells #[.int .i64 b] 3) = W0 ∧ Below w.heap.size w W0 ∧ W0.cell? ⟨w.heap.size, 0, none⟩ = some (.pointer q) ∧ W0.cell? ⟨w.heap.size + 1, 0, none⟩ = some (.int .i64 b) ∧ W0.heap.size = w.heap.size + 2 :=
  ⟨_, rfl, ((Below.refl _ _).alloc (Nat.le_refl _) _).alloc (by simp) _, ((Boxed.new w _ _).alloc _).cell, (boxed_new (by simp)).cell, by simp⟩

theorem slots_in {B base cap b N : Nat} {c : Cfg} {ks : List Nat} {p : Option Addr} (w : World) (h : TbIs w B base c ks p cap) (hR : rightB c.b c.wd c.m c.r c.ce c.lg c.st = true) (hb : b < ks.length) (hbb : (b : Int) < c.b) (hN : perI c.wd (kAt ks b) = (N : Int)) (hN1 : 1 ≤ N) (ht : Tabs w) :
    Calls Tryd.prog 24 #[.pointer (some ⟨B, 0, none⟩), .int .i64 b] w fun e w' => ∃ p' cap', e = .returned (.slice p' N cap') ∧ w'.ownsRow w.heap.size 3 1 (.slice p' N cap') N (cellsF (adr c (kAt ks b) b) N) ∧ Below w.heap.size w w' := by
  obtain ⟨W0, hW0, hb0, c0, c1, hs0⟩ := two_new (w := w) (q := some ⟨B, 0, none⟩) (b := (b : Int))
  have hN2 : N ≤ 1048576 := by have := (Class.per_bd c.wd (kAt ks b)).2; omega
  have HC := Lib.hid (collect_any 66 #[.pointer (some ⟨w.heap.size, 0, none⟩), .pointer (some ⟨w.heap.size + 1, 0, none⟩)] N (adr c (kAt ks b) b) SizTab W0 hN2 (enters_of Tryd.func66 (by kernel_rfl) rfl)
    (slots1_told 4 w.heap.size (w.heap.size + 1) B base cap b N c ks p W0 (h.later hb0) hR hb hbb hN hN1 c0 c1 (ht.later hb0)) (fun W hW => ((ht.later hb0).later hW).siz))
  clear h ht hN
  go_enter Tryd.func24, Tryd.ntmps24
  go_wp2_with (first
    | (go_at_call 49; refine (slots_fn _ _ _).mono ?_; rintro e w' ⟨rfl, rfl⟩; rw [hW0])
    | (go_at_call 48; refine HC.out.mono ?_; rintro e w1 ⟨p', cap', rfl, h1, h2⟩))
  go_ret
  exact ⟨p', cap', rfl, owns_base (by omega) h1, hb0.trans (h2.mono (by omega))⟩

theorem slots_out (q : Option Addr) (b : Int) (w : World) (hcl : ∀ W : World, Below w.heap.size w W → Calls Tryd.prog 34 #[.pointer q, .int .i64 b] W fun e w' => e = .returned (.tuple #[.int .i64 0, .bool false]) ∧ W = w') :
    Calls Tryd.prog 24 #[.pointer q, .int .i64 b] w fun e w' => ∃ p' cap', e = .returned (.slice p' 0 cap') ∧ Below w.heap.size w w' := by
  obtain ⟨W0, hW0, hb0, c0, c1, hs0⟩ := two_new (w := w) (q := q) (b := b)
  have HC := Lib.hid (collect_any 66 #[.pointer (some ⟨w.heap.size, 0, none⟩), .pointer (some ⟨w.heap.size + 1, 0, none⟩)] 0 (fun _ => 0) (fun _ => True) W0 (by omega) (enters_of Tryd.func66 (by kernel_rfl) rfl)
    (slots1_none 4 w.heap.size (w.heap.size + 1) (.pointer q) b (fun _ => True) W0 c0 c1 (fun W hW => hcl W (hb0.trans (hW.mono (by omega))))) (fun _ _ => trivial))
  clear hcl
  go_enter Tryd.func24, Tryd.ntmps24
  go_wp2_with (first
    | (go_at_call 49; refine (slots_fn _ _ _).mono ?_; rintro e w' ⟨rfl, rfl⟩; rw [hW0])
    | (go_at_call 48; refine HC.out.mono ?_; rintro e w1 ⟨p', cap', rfl, h1, h2⟩))
  go_ret
  exact ⟨p', cap', rfl, hb0.trans (h2.mono (by omega))⟩
end Go.Proofs.YtooojajagkbhiaaDoor.Blk
