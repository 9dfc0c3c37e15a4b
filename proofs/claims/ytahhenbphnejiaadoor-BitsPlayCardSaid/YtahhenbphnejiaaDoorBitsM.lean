/-
  The law's list of a set: what is told by ranging over it, so many at most.
-/
import Derived.Test.YtahhenbphnejiaaDoorBitsL
import Derived.Test.YtahhenbphnejiaaDoorBitsNil
namespace Go.Proofs.YtahhenbphnejiaaDoor.Bits
open Go.RowKit Go.Shelf
attribute [local go_sem] Oper.semAt_some

theorem infoInt : (Tryd.prog.info? 3).map (fun i => (i.zero, i.size, i.bytes)) = some (some (.int .i64 0), 1, 8) := by kernel_rfl

/-- Numbers, as cells. -/
def cellsZ (l : List Nat) : List Value := l.map fun n => .int .i64 ((n : Nat) : Int)

theorem owns_base {w : World} {b b' : Nat} {e : TypeId} {size k : Nat} {v : Value} {xs : List Value} (hb : b' ≤ b) (h : w.ownsRow b e size v k xs) : w.ownsRow b' e size v k xs :=
  ⟨h.1, h.2.imp id fun ⟨g, c, cur, e1, e2, r⟩ => ⟨g, c, cur, e1, Nat.le_trans hb e2, r⟩⟩
theorem cellsZ_snoc (l : List Nat) (x : Nat) : cellsZ (l ++ [x]) = cellsZ l ++ [.int .i64 ((x : Nat) : Int)] := by simp [cellsZ]

set_option maxRecDepth 100000 in
set_option maxHeartbeats 4000000 in
theorem list_any (B G size cap most : Nat) (ws : List Nat) (w : World) (hs : SetIs w B G size cap ws) (hBl : B < w.heap.size) (hGl : G < w.heap.size) (hT : TzTab w) (hTl : 1 < w.heap.size) :
    Calls Tryd.prog 24 #[.pointer (some ⟨B, 0, none⟩), .int .i64 most] w fun e w' => ∃ v, e = .returned v ∧ w'.ownsRow w.heap.size 3 1 v ((elems ws size).take most).length (cellsZ ((elems ws size).take most)) ∧ Below w.heap.size w w' := by
  obtain ⟨i0, hinf, hz0, hz1, hz2⟩ := info_parts infoInt
  have hlen : ws.length ≤ 2097152 := by have := hs.row.len; have := hs.small; omega
  have heq := fun f xs ys w => eql_func_nil f xs ys w
  refine (callsIn_wide (n := 5)).1 ?_
  refine callsIn_of_wp_marks Tryd.func24 rfl trivial ?_ rfl
  simp only [Tryd.ntmps24, List.size_toArray, List.length_cons, List.length_nil, Nat.reduceAdd, Nat.reduceSub, Array.replicate_succ, Array.replicate_zero, List.push_toArray, List.append_toArray, List.nil_append, List.cons_append]
  gi_wp2_with (refine ⟨trivial, ?_⟩; gi_at_call 50; refine (callsIn_wide.2 (all_any _ _)).mono ?_; rintro e w' ⟨rfl, rfl⟩)
  clear heq
  generalize hW : World.alloc _ _ = W0
  have c4 : Boxed W0 w.heap.size 3 (.int .i64 most) := by rw [← hW]; exact ((Boxed.new w _ _).alloc _).alloc _
  have c5 : Boxed W0 (w.heap.size + 1) 35 (.slice none 0 0) := by
    have h := Boxed.new (w.alloc (.cells #[.int .i64 most] 3)) 35 (.slice none 0 0)
    simp only [World.size_alloc] at h
    rw [← hW]; exact h.alloc _
  have c6 : Boxed W0 (w.heap.size + 1 + 1) 25 (.pointer (some ⟨B, 0, none⟩)) := by
    have h := Boxed.new ((w.alloc (.cells #[.int .i64 most] 3)).alloc (.cells #[.slice none 0 0] 35)) 25 (.pointer (some ⟨B, 0, none⟩))
    simp only [World.size_alloc] at h
    rw [← hW]; exact h
  have hs0 : W0.heap.size = w.heap.size + 3 := by rw [← hW]; simp
  have hsz : w.heap.size ≤ W0.heap.size := by omega
  have hB0 : Below w.heap.size w W0 := by
    rw [← hW]
    exact (((Below.refl _ w).alloc (Nat.le_refl _) _).alloc (by simp) _).alloc (by simp; omega) _
  clear hW
  refine wpIn_rangeFunc_ownO rfl (by decide) (gf := 69) (lb := #[.pointer (some ⟨w.heap.size + 1 + 1, 0, none⟩)]) rfl trivial (enters_of Tryd.func69 (by kernel_rfl) rfl)
    (all_stops 4 (w.heap.size + 1 + 1) B G size cap ws W0 (hs.below hB0 hBl hGl) c6.cell c6.lt (by omega) (by omega)) (Below.refl _ _) (fun _ => rfl)
    (fun hi pre W => (∃ v, Boxed W (w.heap.size + 1) 35 v ∧ W.ownsRow (max hi W0.heap.size) 3 1 v pre.length (cellsZ pre) ∧ pre.length ≤ most) ∧ Boxed W w.heap.size 3 (.int .i64 most) ∧ Below w.heap.size w W ∧ W0.heap.size ≤ W.heap.size)
    (fun c pre W => c = Code.exit 0 ∧ ∃ pre0 x v, pre = pre0 ++ [x] ∧ pre0.length = most ∧ Boxed W (w.heap.size + 1) 35 v ∧ W.ownsRow w.heap.size 3 1 v pre0.length (cellsZ pre0) ∧ Below w.heap.size w W)
    ?hI ?hIx ?hT ?h0
    (fun x => { tmps := #[.pointer (some ⟨B, 0, none⟩), .int .i64 most, undef, .pointer (some ⟨w.heap.size, 0, none⟩), .slice none 0 0, .pointer (some ⟨w.heap.size + 1, 0, none⟩), .func (.func 69) #[] #[.pointer (some ⟨w.heap.size + 1 + 1, 0, none⟩)], .int .i64 x,
      .pointer (some ⟨B, 0, none⟩), .func (.func 69) #[] #[.pointer (some ⟨w.heap.size + 1 + 1, 0, none⟩)], .func (.func 69) #[] #[.pointer (some ⟨w.heap.size + 1 + 1, 0, none⟩)], .bool false, undef, .func (.func 69) #[] #[.pointer (some ⟨w.heap.size + 1 + 1, 0, none⟩)], .int .i64 x, undef, undef, undef, undef, undef, undef, undef, undef, undef], defers := [] }) ?assign ?body ?done ?stop
  case hI =>
    intro hi s X Y row hx hg hr
    have h := holdsRow_own (max hi W0.heap.size) (w.heap.size + 1) 35 3 1 (fun pre : List Nat => pre.length) cellsZ (fun pre _ => pre.length ≤ most) s X Y row hx.1 hg (fun r e => (hr r e).2)
    exact ⟨h, boxed_keep hx.2.1 hg (fun r e => (hr r e).2), hx.2.2.1.grown hg hx.2.2.1.size (fun k e => Nat.le_trans hsz (hr k e).1), Nat.le_trans hx.2.2.2 hg.size⟩
  case hIx =>
    intro c s X Y row hx hg hr
    obtain ⟨e1, pre0, x, v, e2, e3, e4, e5, e6⟩ := hx
    obtain ⟨v', b', o', _⟩ := holdsRow_own w.heap.size (w.heap.size + 1) 35 3 1 (fun pre : List Nat => pre.length) cellsZ (fun _ _ => True) pre0 X Y row ⟨v, e4, e5, trivial⟩ hg (fun r e => (hr r e).2)
    exact ⟨e1, pre0, x, v', e2, e3, b', o', e6.grown hg e6.size (fun k e => Nat.le_trans hsz (hr k e).1)⟩
  case hT => exact fun hi pre W h => hT.below h.2.2.1 hTl
  case h0 => exact fun hi => ⟨⟨_, c5, World.ownsRow_nil _ _ _ _, Nat.zero_le _⟩, c4, hB0, Nat.le_refl _⟩
  case assign =>
    intro l x W K hK
    gi_wp2
    exact hK
  case body =>
    rintro l hi pre x W hl hr ⟨⟨v, b5, hown, hle⟩, b4, hB, hW0⟩ hlt hhi
    obtain ⟨a0, cap0, rfl⟩ : ∃ a c, v = .slice a pre.length c := by
      rcases hown.2 with ⟨rfl, h0⟩ | ⟨g, c, _, rfl, _⟩
      · exact ⟨none, 0, by rw [h0]⟩
      · exact ⟨_, _, rfl⟩
    have k4 := b4.cell
    have f4 := b4.frozen
    have k5 := b5.cell
    have f5 := b5.frozen
    have hB1 := Lib.hid hB
    have HO := Lib.hid hown
    have hlt2 : pre.length < 134217729 := by omega
    clear hB hown hlt
    by_cases hm : pre.length = most
    · have hmb : (((pre.length : Nat) : Int) == ((most : Nat) : Int)) = true := by simp [hm]
      have HM := Lib.hid hm
      clear hm
      gi_wp2
      exact ⟨KeepsFrom.refl _ _, rfl, pre, x, _, rfl, HM.out, b5, owns_base (by omega) HO.out, hB1.out⟩
    · have hmb : (((pre.length : Nat) : Int) == ((most : Nat) : Int)) = false := by simp; omega
      have HM := Lib.hid hm
      have hbase : max hi W0.heap.size ≤ (W.alloc (.cells #[.int .i64 ((x : Nat) : Int)] 3)).heap.size := by simp; omega
      clear hm
      have HB := Lib.hid hbase
      clear hbase
      gi_wp2_with (gi_at_builtin; refine wpListIn_append_own _ rfl (.tmp 19) (.tmp 21) 35 rfl (max hi W0.heap.size) 3 i0 (.int .i64 0) 1 8 Tryd.underlying35 hinf hz0 hz1 hz2 rfl (by decide) _ _ _ rfl (HO.out.alloc _) ⟨W.heap.size, 0, none⟩ 1 1 [.int .i64 ((x : Nat) : Int)] rfl rfl ?c1 (by simp [Value.oneCell']) (by unfold maxLen; omega) (by omega) HB.out ?c2)
      case c1 =>
        intro j u hj
        cases j with
        | zero =>
          obtain rfl := Option.some.inj hj
          exact (Boxed.new W _ _).cell
        | succ j => simp at hj
      intro v' w3 hown' hgrow hnil
      obtain ⟨g', cap', rfl⟩ := ownsRow_succ hown'
      have hap := b5.appended (n₀ := w.heap.size + 1) (by decide) (owns_base (by omega) HO.out) (by omega) (Nat.le_refl _) (owns_base (by omega) hown') hgrow
      obtain ⟨p1, p2, _, p4, p5⟩ := hap
      have hown2 := hown'.kept (grownBy_setCell' w3 (w.heap.size + 1) (.slice (some ⟨g', 0, none⟩) (pre.length + 1) cap')) (.inr (p1.not_row (by decide) hown').symm)
      have hki : KeepsIn (W0.heap.size + 2) hi W (w3.setCell ⟨w.heap.size + 1, 0, none⟩ (.slice (some ⟨g', 0, none⟩) (pre.length + 1) cap')) := fun k h1 h2 => by
        have e1 : (w3.setCell ⟨w.heap.size + 1, 0, none⟩ (.slice (some ⟨g', 0, none⟩) (pre.length + 1) cap')).heap[k]? = w3.heap[k]? := Below.heap_setCell _ _ _ k (by simp; omega)
        have e2 := hgrow.block k (by simp; omega) (fun e => by have := (HO.out.lt k e.symm).1; omega)
        exact e1.trans (e2.trans (Below.heap_alloc _ _ k (by omega)))
      have hfin : ownPostO W0.heap.size (W0.heap.size + 2) hi (fun pre W => (∃ v, Boxed W (w.heap.size + 1) 35 v ∧ W.ownsRow (max hi W0.heap.size) 3 1 v pre.length (cellsZ pre) ∧ pre.length ≤ most) ∧ Boxed W w.heap.size 3 (.int .i64 most) ∧ Below w.heap.size w W ∧ W0.heap.size ≤ W.heap.size)
          (fun c pre W => c = Code.exit 0 ∧ ∃ pre0 x v, pre = pre0 ++ [x] ∧ pre0.length = most ∧ Boxed W (w.heap.size + 1) 35 v ∧ W.ownsRow w.heap.size 3 1 v pre0.length (cellsZ pre0) ∧ Below w.heap.size w W) (pre ++ [x]) W .normal { tmps := #[], defers := [] }
          (w3.setCell ⟨w.heap.size + 1, 0, none⟩ (.slice (some ⟨g', 0, none⟩) (pre.length + 1) cap')) :=
        ⟨p4.from _, hki, ⟨_, p2, by rw [List.length_append, cellsZ_snoc, hs0]; exact hown2, by rw [List.length_append]; have := HM.out; simp; omega⟩, (p5.block w.heap.size (by omega)).trans b4, hB1.out.trans (p5.mono (by omega)), Nat.le_trans hW0 p5.size⟩
      have HF := Lib.hid hfin
      have k51 := p1.cell
      have f51 := p1.frozen
      clear hown' hgrow hnil p1 p2 p4 p5 hown2 hki hfin
      gi_wp2
      exact HF.out
  case done =>
    rintro D hi ys W hD rfl ⟨⟨v, b5, hown, hle⟩, b4, hB, hW0⟩ hK
    obtain ⟨a0, cap0, rfl⟩ : ∃ a c, v = .slice a (elems ws size).length c := by
      rcases hown.2 with ⟨rfl, h0⟩ | ⟨g, c, _, rfl, _⟩
      · exact ⟨none, 0, by rw [h0]⟩
      · exact ⟨_, _, rfl⟩
    have hfin : (W.putObj D (.deferred none)).ownsRow w.heap.size 3 1 (.slice a0 (elems ws size).length cap0) ((elems ws size).take most).length (cellsZ ((elems ws size).take most)) := by
      rw [List.take_of_length_le hle]
      exact owns_base (by omega) (ownsRow_putObj hown (.deferred none) hK rfl)
    have HF := Lib.hid hfin
    have hbl := Lib.hid (hB.trans (belowK_b (w := w) (Nat.le_refl _) W D _ (.deferred none) (by omega) hK rfl rfl))
    have k5 := b5.cell
    clear hown hfin hB
    gi_wp2
    refine ⟨by simp, .inl ⟨_, _, rfl, run_takeDeferred hK, ?_⟩⟩
    refine ⟨_, results_tmp rfl _ _ _, _, rfl, ?_, hbl.out⟩
    exact HF.out
  case stop =>
    rintro D c pre W hD hp ⟨rfl, pre0, x, v, rfl, rfl, b5, hown, hB⟩ hK
    obtain ⟨a0, cap0, rfl⟩ : ∃ a c, v = .slice a pre0.length c := by
      rcases hown.2 with ⟨rfl, h0⟩ | ⟨g, c, _, rfl, _⟩
      · exact ⟨none, 0, by rw [h0]⟩
      · exact ⟨_, _, rfl⟩
    have hfin : (W.putObj D (.deferred none)).ownsRow w.heap.size 3 1 (.slice a0 pre0.length cap0) ((elems ws size).take pre0.length).length (cellsZ ((elems ws size).take pre0.length)) := by
      obtain ⟨r, hr⟩ := hp
      rw [← hr, List.append_assoc, List.take_left]
      exact ownsRow_putObj hown (.deferred none) hK rfl
    have HF := Lib.hid hfin
    have hbl := Lib.hid (hB.trans (belowK_b (w := w) (Nat.le_refl _) W D _ (.deferred none) (by omega) hK rfl rfl))
    have k5 := b5.cell
    clear hown hfin hB hp
    gi_wp2
    refine ⟨by simp, .inl ⟨_, _, rfl, run_takeDeferred hK, ?_⟩⟩
    refine ⟨_, results_tmp rfl _ _ _, _, rfl, ?_, hbl.out⟩
    exact HF.out
end Go.Proofs.YtahhenbphnejiaaDoor.Bits
