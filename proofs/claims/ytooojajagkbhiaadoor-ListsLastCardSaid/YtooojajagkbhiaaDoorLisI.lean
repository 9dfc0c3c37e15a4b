/-
  The law's list of a list's slots: what is told by ranging over it, so many at most.
-/
import Derived.Test.YtooojajagkbhiaaDoorLisH
import Derived.Test.YtooojajagkbhiaaDoorBlkG
namespace Go.Proofs.YtooojajagkbhiaaDoor.Lis
open Go.RowKit Go.Shelf
open Blk (rowB other same info_parts infoInt cellsF cellsF_succ push_fin one_at owns_block owns_base eql_func_nil)
open Go.Proofs.YtooojajagkbhiaaDoor.Row (Rd)
attribute [local go_sem] Oper.semAt_some

theorem all_fn (q : Option Addr) (k : Int) (w : World) : Calls Tryd.prog 38 #[.pointer q, .int .i64 k] w fun e w' => e = .returned (.func (.func 57) #[] #[.pointer (some ⟨w.heap.size, 0, none⟩), .pointer (some ⟨w.heap.size + 1, 0, none⟩)])
    ∧ (w.alloc (.cells #[.pointer q] 30)).alloc (.cells #[.int .i64 k] 3) = w' := by
  go_enter Tryd.func38, Tryd.ntmps38
  go_wp2
  go_ret
  exact ⟨rfl, rfl⟩

set_option maxRecDepth 100000 in
set_option maxHeartbeats 4000000 in
theorem list_gen (q : Option Addr) (k : Int) (N most : Nat) (f : Nat → Int) (w : World) (hN : N ≤ 1048576)
    (hseq : ∀ W, Below w.heap.size w W → W.cell? ⟨w.heap.size + 1, 0, none⟩ = some (.pointer q) → W.cell? ⟨w.heap.size + 2, 0, none⟩ = some (.int .i64 k) → SeqTold Fence.wide 4 Tryd.prog 57 #[.pointer (some ⟨w.heap.size + 1, 0, none⟩), .pointer (some ⟨w.heap.size + 2, 0, none⟩)] N (fun i => #[.int .i64 (f i)]) (fun _ => True) W) :
    Calls Tryd.prog 16 #[.pointer q, .int .i64 k, .int .i64 most] w fun e w' => ∃ p cap, e = .returned (.slice p (min N most) cap) ∧ w'.ownsRow w.heap.size 3 1 (.slice p (min N most) cap) (min N most) (cellsF f (min N most)) ∧ Below w.heap.size w w' := by
  obtain ⟨i0, hinf, hz0, hz1, hz2⟩ := info_parts infoInt
  have hqf := eql_func_nil
  have HSQ := Lib.hid hseq
  clear hseq
  refine (callsIn_wide (n := 5)).1 ?_
  refine callsIn_of_wp_marks Tryd.func16 rfl trivial ?_ rfl
  simp only [Tryd.ntmps16, List.size_toArray, List.length_cons, List.length_nil, Nat.reduceAdd, Nat.reduceSub, Array.replicate_succ, Array.replicate_zero, List.push_toArray, List.append_toArray, List.nil_append, List.cons_append]
  gi_wp2_with (refine ⟨trivial, ?_⟩; gi_at_call 38; refine (callsIn_wide.2 (all_fn _ _ _)).mono ?_; rintro e w'' ⟨rfl, rfl⟩)
  generalize hX : World.alloc _ _ = X
  have bX : Below w.heap.size w X := by rw [← hX]; exact ((((Below.refl _ _).alloc (Nat.le_refl _) _).alloc (by simp) _).alloc (by simp; omega) _).alloc (by simp; omega) _
  have hsX : X.heap.size = w.heap.size + 4 := by rw [← hX]; simp
  have xm : Boxed X w.heap.size 3 (.int .i64 most) := by rw [← hX]; exact (((Boxed.new _ _ _).alloc _).alloc _).alloc _
  have xt : Boxed X (w.heap.size + 1) 30 (.pointer q) := by rw [← hX]; exact ((boxed_new (by simp)).alloc _).alloc _
  have xk : Boxed X (w.heap.size + 2) 3 (.int .i64 k) := by rw [← hX]; exact (boxed_new (by simp)).alloc _
  have xo : Boxed X (w.heap.size + 3) 33 (.slice none 0 0) := by rw [← hX]; exact boxed_new (by simp)
  clear hX
  refine wpIn_rangeFunc_told rfl (by decide) (gf := 57) (lb := #[.pointer (some ⟨w.heap.size + 1, 0, none⟩), .pointer (some ⟨w.heap.size + 2, 0, none⟩)]) rfl trivial (enters_of Tryd.func57 (by kernel_rfl) rfl) (HSQ.out X bX xt.cell xk.cell) (Below.refl _ _) (fun _ => rfl)
    (fun O i Y => ∃ p cap, O = rowB p ∧ i ≤ most ∧ Boxed Y (w.heap.size + 3) 33 (.slice p i cap) ∧ Y.ownsRow (w.heap.size + 4) 3 1 (.slice p i cap) i (cellsF f i) ∧ Below w.heap.size w Y ∧ Boxed Y w.heap.size 3 (.int .i64 most))
    (fun cc O i Y => cc = .exit 0 ∧ ∃ p cap, O = rowB p ∧ i = most + 1 ∧ Boxed Y (w.heap.size + 3) 33 (.slice p most cap) ∧ Y.ownsRow (w.heap.size + 4) 3 1 (.slice p most cap) most (cellsF f most) ∧ Below w.heap.size w Y) ?hI ?hIx ?hT ?h0
    (fun i => { tmps := #[.pointer q, .int .i64 k, .int .i64 most, undef, undef, .pointer (some ⟨w.heap.size, 0, none⟩), .slice none 0 0, .func (.func 57) #[] #[.pointer (some ⟨w.heap.size + 1, 0, none⟩), .pointer (some ⟨w.heap.size + 2, 0, none⟩)], .pointer (some ⟨w.heap.size + 3, 0, none⟩), .int .i64 (f i), .pointer q, .int .i64 k, .func (.func 57) #[] #[.pointer (some ⟨w.heap.size + 1, 0, none⟩), .pointer (some ⟨w.heap.size + 2, 0, none⟩)], .func (.func 57) #[] #[.pointer (some ⟨w.heap.size + 1, 0, none⟩), .pointer (some ⟨w.heap.size + 2, 0, none⟩)], .bool false, undef, .func (.func 57) #[] #[.pointer (some ⟨w.heap.size + 1, 0, none⟩), .pointer (some ⟨w.heap.size + 2, 0, none⟩)], .int .i64 (f i), undef, undef, undef, undef, undef, undef, undef, undef, undef], defers := [] }) ?assign ?body ?done ?stop
  case hI =>
    rintro O i X' Y ⟨p, cap, rfl, h0, h1, h2, h3, h4⟩ hb hk
    exact ⟨p, cap, rfl, h0, Boxed.below h1 hb (by omega), owns_block h2 hk, h3.trans (hb.mono (by omega)), Boxed.below h4 hb (by omega)⟩
  case hIx =>
    rintro cc O i X' Y ⟨h, p, cap, rfl, h0, h1, h2, h3⟩ hb hk
    exact ⟨h, p, cap, rfl, h0, Boxed.below h1 hb (by omega), owns_block h2 hk, h3.trans (hb.mono (by omega))⟩
  case hT =>
    rintro O i Y ⟨p, cap, rfl, h0, h1, h2, h3, h4⟩
    trivial
  case h0 => exact ⟨_, ⟨none, 0, rfl, Nat.zero_le _, xo, ⟨rfl, .inl ⟨rfl, rfl⟩⟩, bX, xm⟩, fun k hk => by cases hk⟩
  case assign =>
    intro l i Y K hi hK
    gi_wp2
    exact hK
  case body =>
    rintro l O i Y hl _ hi ⟨p, cap, rfl, h0, h1, h2, h3, h4⟩ hlt hsz
    have k1 := h1.cell
    have kf := h1.frozen
    have k4 := h4.cell
    have HO := Lib.hid h2
    have H1 := Lib.hid h1
    have H3 := Lib.hid h3
    have H4 := Lib.hid h4
    have hbase : w.heap.size + 4 ≤ (Y.alloc (.cells #[.int .i64 (f i)] 3)).heap.size := by simp; omega
    have HBA := Lib.hid hbase
    have HL := Lib.hid hlt
    clear h1 h2 h3 h4 hbase hlt
    by_cases he : i = most
    · subst he
      gi_wp2
      exact ⟨_, Turn.of_below HL.out (Below.refl _ _), rfl, p, cap, rfl, rfl, H1.out, HO.out, H3.out⟩
    · have hne : (((i : Nat) : Int) == ((most : Nat) : Int)) = false := by simp; omega
      gi_wp2_with (gi_at_builtin; refine wpListIn_append_own_at _ rfl (.tmp 22) (.tmp 24) 33 rfl (w.heap.size + 4) 3 i0 (.int .i64 0) 1 8 Tryd.underlying33 hinf hz0 hz1 hz2 rfl (by decide) _ _ _ rfl (HO.out.alloc _) ⟨Y.heap.size, 0, none⟩ 1 1 [.int .i64 (f i)] rfl rfl (one_at rfl) (by simp [Value.oneCell']) (by unfold maxLen; omega) (by omega) HBA.out ?_)
      intro v' w3 hown hgrow _ hat
      obtain ⟨p', cap', rfl, b3, b4, ho4, ht4, hb4⟩ := push_fin (B := X.heap.size) H1.out (by omega) (by omega) (by omega) HO.out hown hgrow (by simpa using hat)
      have hb5 := Boxed.below H4.out hb4 (by omega)
      have HF := Lib.hid (show ∃ O', Turn X.heap.size (rowB p) O' Y (w3.setCell ⟨w.heap.size + 3, 0, none⟩ (.slice p' (i + 1) cap')) ∧ ∃ p cap, O' = rowB p ∧ i + 1 ≤ most ∧ Boxed (w3.setCell ⟨w.heap.size + 3, 0, none⟩ (.slice p' (i + 1) cap')) (w.heap.size + 3) 33 (.slice p (i + 1) cap) ∧ (w3.setCell ⟨w.heap.size + 3, 0, none⟩ (.slice p' (i + 1) cap')).ownsRow (w.heap.size + 4) 3 1 (.slice p (i + 1) cap) (i + 1) (cellsF f (i + 1)) ∧ Below w.heap.size w (w3.setCell ⟨w.heap.size + 3, 0, none⟩ (.slice p' (i + 1) cap')) ∧ Boxed (w3.setCell ⟨w.heap.size + 3, 0, none⟩ (.slice p' (i + 1) cap')) w.heap.size 3 (.int .i64 most) from
        ⟨_, ht4, p', cap', rfl, by omega, b4, by rw [cellsF_succ]; exact ho4, H3.out.trans (hb4.mono (by omega)), hb5⟩)
      have k3 := b3.cell
      have kf3 := b3.frozen
      clear hown hgrow hat b3 b4 ho4 ht4 hb4 hb5
      gi_wp2
      exact HF.out
  case done =>
    rintro D O Y hD ⟨p, cap, rfl, h0, h1, h2, h3, h4⟩ hn hlt hK
    have k1 := h1.cell
    have hfin : (Y.putObj D (.deferred none)).ownsRow w.heap.size 3 1 (.slice p N cap) N (cellsF f N) ∧ Below w.heap.size w (Y.putObj D (.deferred none)) :=
      ⟨owns_base (by omega) (owns_block h2 (fun g hg => World.putObj_heap_other (fun e => hn (e ▸ hg)))), h3.trans (below_putObj (by omega) _ _)⟩
    have HF := Lib.hid hfin
    clear hfin h1 h2 h3 h4
    gi_wp2
    refine ⟨by simp, .inl ⟨_, _, rfl, run_takeDeferred hK, ?_⟩⟩
    rw [Nat.min_eq_left h0]
    exact ⟨_, results_tmp rfl _ _ _, p, cap, rfl, HF.out.1, HF.out.2⟩
  case stop =>
    rintro D cc O i Y hD hi ⟨rfl, p, cap, rfl, h0, h1, h2, h3⟩ hn hlt hK
    have k1 := h1.cell
    have hfin : (Y.putObj D (.deferred none)).ownsRow w.heap.size 3 1 (.slice p most cap) most (cellsF f most) ∧ Below w.heap.size w (Y.putObj D (.deferred none)) :=
      ⟨owns_base (by omega) (owns_block h2 (fun g hg => World.putObj_heap_other (fun e => hn (e ▸ hg)))), h3.trans (below_putObj (by omega) _ _)⟩
    have HF := Lib.hid hfin
    clear hfin h1 h2 h3
    gi_wp2
    refine ⟨by simp, .inl ⟨_, _, rfl, run_takeDeferred hK, ?_⟩⟩
    rw [Nat.min_eq_right (by omega)]
    exact ⟨_, results_tmp rfl _ _ _, p, cap, rfl, HF.out.1, HF.out.2⟩

end Go.Proofs.YtooojajagkbhiaaDoor.Lis
