/-
  Fair, of any row.
-/
import Derived.Test.YthofknjdmfpbeaaFaD
namespace Go.Proofs.Ythofknjdmfpbeaa.Fa
open Go.RowKit Go.Shelf
open Go.Proofs.Ythofknjdmfpbeaa.Row
attribute [local go_sem] Oper.semAt_some

theorem wpIn_scope {n : Nat} {P : Program} {c : Code} {Q : Exit → Act → World → Prop} {a : Act} {w : World} (h : c.wpIn Fence.wide n P (Exit.noGoto Q) a w) : (Code.scope c).wpIn Fence.wide n P Q a w :=
  wpIn_wide.2 (wp_scope_straight (wpIn_wide.1 h))

theorem fair_bad (v : Value) (n k : Int) (w : World) (h : n < 1 ∨ k < 1) : Calls Try.prog 10 #[v, .int .i64 n, .int .i64 k] w fun e w' => e = .returned (.bool false) ∧ w = w' := by
  rcases h with h | h
  · go_enter Try.func10, Try.ntmps10
    go_wp2
    go_step3
    go_wp2_with fail
    simp only [Exit.noGoto]
    go_ret
    exact ⟨rfl, rfl⟩
  · by_cases h1 : n < 1
    · go_enter Try.func10, Try.ntmps10
      go_wp2
      go_step3
      go_wp2_with fail
      simp only [Exit.noGoto]
      go_ret
      exact ⟨rfl, rfl⟩
    · go_enter Try.func10, Try.ntmps10
      go_wp2
      go_step3
      go_wp2_with fail
      simp only [Exit.noGoto]
      go_ret
      exact ⟨rfl, rfl⟩
theorem fair_less (p : Option Addr) (len cap : Nat) (n k : Int) (w : World) (hn : 1 ≤ n) (hk : 1 ≤ k) (h : (len : Int) < k) : Calls Try.prog 10 #[.slice p len cap, .int .i64 n, .int .i64 k] w fun e w' => e = .returned (.bool true) ∧ w = w' := by
  have h1 : ¬ n < 1 := by omega
  have h2 : ¬ k < 1 := by omega
  go_enter Try.func10, Try.ntmps10
  go_wp2
  go_step3
  go_wp2_with fail
  simp only [Exit.noGoto]
  go_ret
  exact ⟨rfl, rfl⟩
theorem fair_many (p : Option Addr) (len cap : Nat) (n k : Int) (w : World) (hk : 1 ≤ k) (h : ¬ (len : Int) < k) (h3 : k < n) : Calls Try.prog 10 #[.slice p len cap, .int .i64 n, .int .i64 k] w fun e w' => e = .returned (.bool false) ∧ w = w' := by
  have h1 : ¬ n < 1 := by omega
  have h2 : ¬ k < 1 := by omega
  go_enter Try.func10, Try.ntmps10
  go_wp2
  go_step3
  go_wp2_with fail
  simp only [Exit.noGoto]
  go_ret
  exact ⟨rfl, rfl⟩

/-- What a going through windows keeps. -/
structure Wk (w X Y : World) (b0 b1 b2 b3 b4 b5 b6 b7 b8 b9 n k g off cap : Nat) (l : List Int) (i : Nat) : Prop where
  sz : X.heap.size ≤ Y.heap.size
  bel : Below w.heap.size w Y
  all : Boxed Y b6 4 (.bool true)
  fn : Boxed Y b7 38 (.func (.func 25) #[] #[.pointer (some ⟨b5, 0, none⟩), .pointer (some ⟨b4, 0, none⟩), .pointer (some ⟨b3, 0, none⟩)])
  bk : Boxed Y b9 3 (.int .i64 k)
  bp : Boxed Y b8 22 (.slice (some ⟨g, off, none⟩) l.length cap)
  st : (i = 0 ∧ Ct Y b0 b1 b2 b3 b4 b5 n [] (.slice none 0 0)) ∨ ∃ j V, i = j + 1 ∧ V.Perm (win l j k) ∧ Ct Y b0 b1 b2 b3 b4 b5 n V (.slice (some ⟨g, off + j, none⟩) k (cap - j))
  ok : ∀ j, j < i → mis n (win l j k) = 0

section
variable {w X Y : World} {b0 b1 b2 b3 b4 b5 b6 b7 b8 b9 n k g off cap : Nat} {l : List Int} {i : Nat}
/-- Where the boxes lie. -/
structure Lie (w X : World) (b0 b5 b6 b7 b8 b9 : Nat) : Prop where
  l0 : b0 = w.heap.size
  l6 : b5 < b6
  l7 : b7 = b6 + 1
  l8 : b8 = b6 + 2
  l9 : b9 = b6 + 3
  hi : X.heap.size = b6 + 4
theorem Wk.call (h : Wk w X Y b0 b1 b2 b3 b4 b5 b6 b7 b8 b9 n k g off cap l i) (hL : Lie w X b0 b5 b6 b7 b8 b9) (hk : 1 ≤ k) (hl : l.length ≤ 10000) (hcap : l.length ≤ cap ∧ cap ≤ maxLen) (hi : i + k ≤ l.length) (hrd : ∀ j, j < l.length → w.cell? ⟨g, off + j, none⟩ = some (.int .i64 (l.getD j 0))) :
    Calls Try.prog 25 #[.slice (some ⟨g, off + i, none⟩) k (cap - i), .pointer (some ⟨b5, 0, none⟩), .pointer (some ⟨b4, 0, none⟩), .pointer (some ⟨b3, 0, none⟩)] Y fun e w' =>
      e = .returned (.int .i64 (mis n (win l i k) : Nat)) ∧ (∃ V, V.Perm (win l i k) ∧ Ct w' b0 b1 b2 b3 b4 b5 n V (.slice (some ⟨g, off + i, none⟩) k (cap - i))) ∧ Chg (fun x => b0 ≤ x ∧ x ≤ b5) Y w' := by
  have hg : g < w.heap.size := World.block_lt_of_cell? w _ (hrd 0 (by omega))
  have hgb : g < b0 := by rw [hL.l0]; exact hg
  have hcell : ∀ j, j < l.length → Y.cell? ⟨g, off + j, none⟩ = some (.int .i64 (l.getD j 0)) := fun j hj => (h.bel.cell (p := ⟨g, off + j, none⟩) hg).trans (hrd j hj)
  rcases h.st with ⟨rfl, hc⟩ | ⟨j, V, rfl, hV, hc⟩
  · have hw := win_len (l := l) (i := 0) (k := k) (by omega)
    have := first_any g (off + 0) (cap - 0) (win l 0 k) (by omega) hc hgb (fun j hj => by
      rw [win_at (by omega)]
      have := hcell (0 + j) (by omega)
      rw [show off + 0 + j = off + (0 + j) by omega]
      exact this)
    rw [hw] at this
    exact this.mono fun e w' ⟨h1, h2, h3⟩ => ⟨h1, ⟨_, List.Perm.refl _, h2⟩, h3⟩
  · obtain ⟨k, rfl⟩ : ∃ k', k = k' + 1 := ⟨k - 1, by omega⟩
    have e1 := win_head (l := l) (i := j) (k := k) (by omega)
    have e2 := win_last (l := l) (i := j + 1) (k := k) (by omega)
    have hp : (l.getD (j + 1 + k) 0 :: win l (j + 1) k).Perm (win l (j + 1) (k + 1)) := by
      rw [e2]
      exact (List.perm_append_singleton _ _).symm
    have hc' := hc.perm (V := l.getD j 0 :: win l (j + 1) k) (by rw [← e1]; exact hV)
    have := next_any g (off + j) (cap - j) (off + (j + 1)) (cap - (j + 1)) k (l.getD j 0) (l.getD (j + 1 + k) 0) (win l (j + 1) k) ⟨by omega, by omega, by omega⟩ (by rw [win_len (by omega)]; omega) hc' hgb (hcell j (by omega))
      (by rw [show off + (j + 1) + k = off + (j + 1 + k) by omega]; exact hcell _ (by omega))
    exact this.mono fun e w' ⟨h1, h2, h3⟩ => ⟨by rw [h1, mis_perm hp], ⟨_, hp, h2⟩, h3⟩
theorem Wk.next {Y' : World} (h : Wk w X Y b0 b1 b2 b3 b4 b5 b6 b7 b8 b9 n k g off cap l i) (hL : Lie w X b0 b5 b6 b7 b8 b9) {V : List Int} (hV : V.Perm (win l i k)) (hc : Ct Y' b0 b1 b2 b3 b4 b5 n V (.slice (some ⟨g, off + i, none⟩) k (cap - i)))
    (hC : Chg (fun x => b0 ≤ x ∧ x ≤ b5) Y Y') (h0 : mis n (win l i k) = 0) : Wk w X Y' b0 b1 b2 b3 b4 b5 b6 b7 b8 b9 n k g off cap l (i + 1) := by
  obtain ⟨l1, l2, l3, l4, l5, l6⟩ := hL
  have hsz := h.sz
  have bx : ∀ {b t v}, Boxed Y b t v → b5 < b → Boxed Y' b t v := fun hb hlt => (hC.block _ hb.lt (by omega)).trans hb
  exact ⟨Nat.le_trans h.sz hC.size, h.bel.trans (hC.below (fun k hk => by omega) h.bel.size), bx h.all (by omega), bx h.fn (by omega), bx h.bk (by omega), bx h.bp (by omega), .inr ⟨i, V, rfl, hV, hc⟩, fun j hj => by
    by_cases e : j = i
    · subst e; exact h0
    · exact h.ok j (by omega)⟩
theorem Wk.stab {Y' : World} (h : Wk w X Y b0 b1 b2 b3 b4 b5 b6 b7 b8 b9 n k g off cap l i) (hL : Lie w X b0 b5 b6 b7 b8 b9) (hb : Below X.heap.size Y Y') : Wk w X Y' b0 b1 b2 b3 b4 b5 b6 b7 b8 b9 n k g off cap l i := by
  obtain ⟨l1, l2, l3, l4, l5, l6⟩ := hL
  have hk : ∀ {W V}, Ct Y b0 b1 b2 b3 b4 b5 n W V → Ct Y' b0 b1 b2 b3 b4 b5 n W V := fun hc => hc.kept fun x _ h2 => hb.block x (by omega)
  have hw : w.heap.size ≤ X.heap.size := by
    rcases h.st with ⟨_, hc⟩ | ⟨_, _, _, _, hc⟩ <;> have := hc.ad <;> omega
  exact ⟨Nat.le_trans h.sz hb.size, h.bel.trans (hb.mono hw), Boxed.below h.all hb (by omega), Boxed.below h.fn hb (by omega), Boxed.below h.bk hb (by omega), Boxed.below h.bp hb (by omega),
    h.st.imp (fun ⟨a, b⟩ => ⟨a, hk b⟩) (fun ⟨j, V, a, b, c⟩ => ⟨j, V, a, b, hk c⟩), h.ok⟩
end

set_option maxRecDepth 100000 in
set_option maxHeartbeats 4000000 in
theorem fair_walk (g off cap n k : Nat) (l : List Int) (w : World) (hn : 1 ≤ n) (hnk : n ≤ k) (hk : k ≤ l.length) (hl : l.length ≤ 10000) (hcap : l.length ≤ cap ∧ cap ≤ maxLen) (hrd : ∀ j, j < l.length → w.cell? ⟨g, off + j, none⟩ = some (.int .i64 (l.getD j 0))) :
    Calls Try.prog 10 #[.slice (some ⟨g, off, none⟩) l.length cap, .int .i64 n, .int .i64 k] w fun e w' => e = .returned (.bool (fair l n k)) ∧ Below w.heap.size w w' := by
  have h1 : ¬ (n : Int) < 1 := by omega
  have h2 : ¬ (k : Int) < 1 := by omega
  have h3 : ¬ (l.length : Int) < (k : Int) := by omega
  have h4 : ¬ (k : Int) < (n : Int) := by omega
  have HRD := Lib.hid hrd
  have HC := Lib.hid (counter_any n w hn (by omega))
  clear hrd
  refine (callsIn_wide (n := 5)).1 ?_
  refine callsIn_of_wp_marks Try.func10 rfl trivial ?_ rfl
  simp only [Try.ntmps10, List.size_toArray, List.length_cons, List.length_nil, Nat.reduceAdd, Nat.reduceSub, Array.replicate_succ, Array.replicate_zero, List.push_toArray, List.append_toArray, List.nil_append, List.cons_append]
  gi_wp2
  refine wpIn_scope ?_
  gi_wp2_with (refine ⟨trivial, ?_⟩; gi_at_call 16; refine (callsIn_wide.2 HC.out).mono ?_; rintro e w1 ⟨b1, b2, b3, b4, b5, rfl, hct, hb1⟩)
  refine wpIn_label ?_
  gi_wp2_with (refine ⟨trivial, ?_⟩; gi_at_call 17; refine (callsIn_wide.2 (windows_fn _ _ _ _ _)).mono ?_; rintro e w2 ⟨rfl, rfl⟩)
  have hs1 := hb1.size
  have hlt := hct.lt
  generalize hX : World.alloc _ _ = X
  have hsX : X.heap.size = w1.heap.size + 4 := by rw [← hX]; simp
  have bX : Below w1.heap.size w1 X := by rw [← hX]; exact ((((Below.refl _ _).alloc (Nat.le_refl _) _).alloc (by simp) _).alloc (by simp; omega) _).alloc (by simp; omega) _
  have x6 : Boxed X w1.heap.size 4 (.bool true) := by rw [← hX]; exact (((boxed_new (by simp)).alloc _).alloc _).alloc _
  have x7 : Boxed X (w1.heap.size + 1) 38 (.func (.func 25) #[] #[.pointer (some ⟨b5, 0, none⟩), .pointer (some ⟨b4, 0, none⟩), .pointer (some ⟨b3, 0, none⟩)]) := by rw [← hX]; exact ((boxed_new (by simp)).alloc _).alloc _
  have x8 : Boxed X (w1.heap.size + 2) 22 (.slice (some ⟨g, off, none⟩) l.length cap) := by rw [← hX]; exact (boxed_new (by simp)).alloc _
  have x9 : Boxed X (w1.heap.size + 3) 3 (.int .i64 k) := by rw [← hX]; exact boxed_new (by simp)
  generalize w1.heap.size = B at *
  have hL : Lie w X w.heap.size b5 B (B + 1) (B + 2) (B + 3) := ⟨rfl, by omega, rfl, rfl, rfl, hsX⟩
  have hW0 : Wk w X X w.heap.size b1 b2 b3 b4 b5 B (B + 1) (B + 2) (B + 3) n k g off cap l 0 := ⟨Nat.le_refl _, hb1.trans (bX.mono hs1), x6, x7, x9, x8, .inl ⟨rfl, hct.kept fun x _ h2 => bX.block x (by omega)⟩, fun j hj => by omega⟩
  have HL := Lib.hid hL
  have HX := Lib.hid hsX
  have HW0 := Lib.hid hW0
  clear hX hb1 bX x6 x7 x8 x9 hct HC hsX hs1 hlt hL hW0
  refine wpIn_rangeFunc_told rfl (by decide) (gf := 26) (lb := #[.pointer (some ⟨B + 1 + 1 + 1, 0, none⟩), .pointer (some ⟨B + 1 + 1, 0, none⟩)]) rfl trivial (enters_of Try.func26 (by kernel_rfl) rfl)
    (windows1_told 4 (B + 3) (B + 2) (some ⟨g, off, none⟩) l.length cap k ⟨by omega, by omega⟩ ⟨by omega, hcap.1⟩ (by rintro a h; cases h; rfl) (by rintro h; cases h) X) (Below.refl _ _) (fun _ => rfl)
    (fun O i Y => (∀ x, ¬ O x) ∧ Wk w X Y w.heap.size b1 b2 b3 b4 b5 B (B + 1) (B + 2) (B + 3) n k g off cap l i)
    (fun cc O i Y => cc = .exit 1 ∧ (∀ x, ¬ O x) ∧ Below w.heap.size w Y ∧ Boxed Y B 4 (.bool false) ∧ fair l n k = false)
    ?hI ?hIx ?hT ?h0
    (fun i => { tmps := #[.slice (some ⟨g, off, none⟩) l.length cap, .int .i64 n, .int .i64 k, undef, undef, undef, .bool false, .pointer (some ⟨B, 0, none⟩), .pointer (some ⟨B + 1, 0, none⟩), undef, .slice (some ⟨g, off + i, none⟩) k (cap - i),
      .bool (decide ((n : Int) < 1) || decide ((k : Int) < 1)), .int .i64 n, .bool (decide ((n : Int) < 1)), .bool (decide ((n : Int) < 1)), .int .i64 k, .bool (decide ((k : Int) < 1)), .bool (decide ((n : Int) < 1) || decide ((k : Int) < 1)), .bool false,
      .slice (some ⟨g, off, none⟩) l.length cap, .int .i64 l.length, .int .i64 k, .bool false, .bool false, .int .i64 n, .int .i64 k, .bool false, .int .i64 n,
      .func (.func 25) #[] #[.pointer (some ⟨b5, 0, none⟩), .pointer (some ⟨b4, 0, none⟩), .pointer (some ⟨b3, 0, none⟩)], .slice (some ⟨g, off, none⟩) l.length cap, .int .i64 k,
      .func (.func 26) #[] #[.pointer (some ⟨B + 1 + 1 + 1, 0, none⟩), .pointer (some ⟨B + 1 + 1, 0, none⟩)], .int .i64 (i : Nat), .slice (some ⟨g, off + i, none⟩) k (cap - i), undef, undef, undef, undef, undef], defers := [] }) ?assign ?body ?done ?stop
  case hI =>
    rintro O i Y Y' ⟨h1, h2⟩ hb _
    exact ⟨h1, h2.stab HL.out hb⟩
  case hIx =>
    rintro cc O i Y Y' ⟨h1, h2, h3, h4, h5⟩ hb _
    exact ⟨h1, h2, h3.trans (hb.mono (by have := HX.out; have := HW0.out.bel.size; omega)), Boxed.below h4 hb (by have := HX.out; omega), h5⟩
  case hT =>
    rintro O i Y ⟨_, h⟩
    exact ⟨h.bk.cell, h.bp.cell⟩
  case h0 => exact ⟨fun _ => False, ⟨fun _ h => h, HW0.out⟩, fun _ h => h.elim⟩
  case assign =>
    intro l' i Y K hi hK
    unfold encW onP
    simp only [Option.map_some]
    gi_wp2
    exact hK
  case body =>
    rintro l' O i Y _ _ hi ⟨hO, h⟩ _ _
    have k7 := h.fn.cell
    have k6 := h.all.cell
    have kf := h.all.frozen
    have hsz := h.sz
    have HM := Lib.hid (h.call HL.out (by omega) hl hcap (by omega) HRD.out)
    have H := Lib.hid h
    have HO := Lib.hid hO
    have HB5 := Lib.hid (show b5 < B ∧ B < Y.heap.size from ⟨HL.out.l6, by have := HX.out; omega⟩)
    clear h hO
    by_cases h0 : mis n (win l i k) = 0
    · rw [h0] at HM
      gi_wp2_with (refine ⟨trivial, ?_⟩; gi_at_call 25; refine (callsIn_wide.2 HM.out).mono ?_; rintro e w3 ⟨rfl, ⟨V, hV, hc⟩, hC⟩)
      have hn' := H.out.next HL.out hV hc hC h0
      exact ⟨O, ⟨hC.size, fun x h1 h2 _ => hC.block x h2 (by have := HX.out; have := HB5.out; omega), fun x hx => .inl hx, fun x hx => absurd hx (HO.out x)⟩, HO.out, hn'⟩
    · have hM0 : (0 : Int) < (mis n (win l i k) : Nat) := by omega
      have HF : Hid (fair l n k = false) := Lib.hid (by
        cases hf : fair l n k with
        | false => rfl
        | true => exact absurd (mis_zero.2 (fair_iff.1 hf i (by omega))) h0)
      generalize mis n (win l i k) = M at *
      gi_wp2_with (refine ⟨trivial, ?_⟩; gi_at_call 25; refine (callsIn_wide.2 HM.out).mono ?_; rintro e w3 ⟨rfl, _, hC⟩; have k63 := (hC.cell (p := ⟨B, 0, none⟩) HB5.out.2 (by have := HB5.out; simp; omega)).trans k6; have kf3 := (hC.frozen (p := ⟨B, 0, none⟩) HB5.out.2 (by have := HB5.out; simp; omega)).trans kf)
      have hb3 : Boxed w3 B 4 (.bool true) := (hC.block _ HB5.out.2 (by have := HB5.out; omega)).trans H.out.all
      have hbx := hb3.set (.bool false)
      have hwB : w.heap.size ≤ B := by have := HL.out; have := H.out.st; rcases this with ⟨_, hc⟩ | ⟨_, _, _, _, hc⟩ <;> have := hc.ad <;> have := HB5.out <;> omega
      refine ⟨O, ⟨by rw [size_setCell]; exact hC.size, fun x h1 h2 _ => (Below.heap_setCell _ _ _ _ (by have := HX.out; simp; omega)).trans (hC.block x h2 (by have := HX.out; have := HB5.out; omega)), fun x hx => .inl hx, fun x hx => absurd hx (HO.out x)⟩, rfl, HO.out, ?_, hbx, HF.out⟩
      exact H.out.bel.trans (((hC.mono (T := fun x => w.heap.size ≤ x) (fun x hx => by have := HL.out.l0; omega)).set (.inl hwB) _).below (fun x hx => hx) H.out.bel.size)
  case done =>
    rintro D O Y hD ⟨hO, h⟩ hn hlt hK
    have k6 := h.all.cell
    have hfin : fair l n k = true ∧ Below w.heap.size w (Y.putObj D (.deferred none)) :=
      ⟨fair_iff.2 fun i hi => mis_zero.1 (h.ok i (by omega)), h.bel.trans (below_putObj (by have := HX.out; have := HW0.out.bel.size; omega) _ _)⟩
    have HF := Lib.hid hfin
    clear hfin h
    gi_wp2
    simp only [Exit.noGoto]
    refine ⟨by simp, .inl ⟨_, _, rfl, run_takeDeferred hK, ?_⟩⟩
    exact ⟨_, results_tmp rfl _ _ _, by rw [HF.out.1]; rfl, HF.out.2⟩
  case stop =>
    rintro D cc O i Y hD hi ⟨rfl, hO, h2, h3, h4⟩ hn hlt hK
    have k6 := h3.cell
    have hfin : fair l n k = false ∧ Below w.heap.size w (Y.putObj D (.deferred none)) :=
      ⟨h4, h2.trans (below_putObj (by have := HX.out; have := HW0.out.bel.size; omega) _ _)⟩
    have HF := Lib.hid hfin
    clear hfin h2 h3 h4
    gi_wp2
    simp only [Exit.noGoto]
    refine ⟨by simp, .inl ⟨_, _, rfl, run_takeDeferred hK, ?_⟩⟩
    exact ⟨_, results_tmp rfl _ _ _, by rw [HF.out.1]; rfl, HF.out.2⟩
end Go.Proofs.Ythofknjdmfpbeaa.Fa
