/-
  Windows, and what whoever ranges over it is told.
-/
import Derived.Test.YthofknjdmfpbeaaFaT
import Derived.Test.YthofknjdmfpbeaaFaJ
import Derived.Stop.RegionWithIn
namespace Go.Proofs.Ythofknjdmfpbeaa.Fa
open Go.RowKit Go.Shelf
open Go.Proofs.Ythofknjdmfpbeaa.Row
attribute [local go_sem] Oper.semAt_some

set_option maxHeartbeats 2000000 in
set_option maxRecDepth 100000 in
theorem clone_empty (a : Addr) (cap : Nat) (w : World) :
    Calls Try.prog 21 #[.slice (some a) 0 cap] w fun e w' => ∃ p' cap', e = .returned (.slice p' 0 cap') ∧ w'.ownsRow w.heap.size 3 1 (.slice p' 0 cap') 0 (cellsZ []) ∧ Below w.heap.size w w' := by
  obtain ⟨i0, hi, hz0, hz1, hz2⟩ := info_parts infoInt
  have q22 : ∀ (w : World) (a : Option Addr) (n c n' c' : Nat), (binOp .eql 22 (.slice a n c) (.slice none n' c')).run Try.prog w = .ok (.bool a.isNone) w := fun w a n c n' c' => Lib.run_eql_slice_nil w _ _ a n c n' c' Try.underlying22
  go_enter Try.func21, Try.ntmps21
  go_wp2_with (at_builtin; refine wpList_append_own _ rfl _ _ 22 rfl w.heap.size 3 i0 (.int .i64 0) 1 8 Try.underlying22 hi hz0 hz1 hz2 rfl (by decide) _ _ _ rfl (World.ownsRow_made w #[] 0 (Nat.le_refl _) (Nat.zero_le _) rfl) a 0 cap (cellsZ []) rfl ?qc1 ?qc2 ?qc3 ?qc4 ?qc5 ?qc6 ?_)
  case qc1 => simp [cellsZ]
  case qc2 => intro j u hj; simp [cellsZ] at hj
  case qc3 => intro u hu; simp [cellsZ] at hu
  case qc4 => unfold maxLen; omega
  case qc5 => omega
  case qc6 => simp
  intro v' w1 hown hgrow _
  have hown : w1.ownsRow w.heap.size 3 1 v' 0 (cellsZ []) := by simpa using hown
  obtain ⟨p', cap', rfl⟩ := owns_slice hown
  go_wp2
  go_ret
  refine ⟨p', cap', rfl, hown, ?_⟩
  exact ((Below.refl _ w).alloc (Nat.le_refl _) _).grown hgrow (by simp) (by intro k hk; simp [Value.ownBlock] at hk; omega)

theorem clone_pk {p : Option Addr} {l : List Int} {cap L : Nat} (w : World) (hp : p = none → cap = 0) (h : Pk w p l cap) (hL : l.length = L) :
    Calls Try.prog 21 #[.slice p L cap] w fun e w' => ∃ p' cap', e = .returned (.slice p' L cap') ∧ w'.ownsRow w.heap.size 3 1 (.slice p' L cap') L (cellsZ l) ∧ Below w.heap.size w w' := by
  subst hL
  by_cases h0 : l.length = 0
  · obtain rfl := List.eq_nil_of_length_eq_zero h0
    cases p with
    | none =>
      rw [hp rfl]
      exact clone_any none [] w (by simp) (fun _ => rfl) (.inl ⟨rfl, rfl⟩)
    | some a => exact clone_empty a cap w
  · obtain ⟨g, off, rfl, _⟩ := h.rd 0 (by omega)
    exact clone_any _ l w (by have := h.len; omega) (fun e => by cases e) (.inr ⟨g, off, rfl, h.all⟩)

theorem Pk.of_owns {w : World} {base cap : Nat} {p : Option Addr} {l : List Int} (h : w.ownsRow base 3 1 (.slice p l.length cap) l.length (cellsZ l)) (hl : l.length ≤ 10000) : Pk w p l cap := ⟨(Rd.of_owns h).rd0, hl, owns_cap h⟩

/-- What Windows keeps: two boxes, and the picks as they were. -/
structure Kp (w : World) (S Bk Bp : Nat) (k : Int) (p : Option Addr) (l : List Int) (cap : Nat) : Prop where
  bk : Boxed w Bk 3 (.int .i64 k)
  bp : Boxed w Bp 22 (.slice p l.length cap)
  own : w.ownsRow S 3 1 (.slice p l.length cap) l.length (cellsZ l)
  len : l.length ≤ 10000
  lo : S ≤ Bk ∧ S ≤ Bp
theorem Kp.later {w w' : World} {S Bk Bp : Nat} {k : Int} {p : Option Addr} {l : List Int} {cap : Nat} (h : Kp w S Bk Bp k p l cap) (hb : Below w.heap.size w w') : Kp w' S Bk Bp k p l cap :=
  ⟨Boxed.below h.bk hb h.bk.lt, Boxed.below h.bp hb h.bp.lt, owns_block h.own (fun g hg => hb.block g (owns_lt h.own hg).2), h.len, h.lo⟩

theorem windows_any {p : Option Addr} {l : List Int} {cap : Nat} (k : Int) (w : World) (hp : p = none → cap = 0) (h : Pk w p l cap) :
    Calls Try.prog 13 #[.slice p l.length cap, .int .i64 k] w fun e w' => ∃ Bk Bp p' cap', e = .returned (.func (.func 22) #[] #[.pointer (some ⟨Bp, 0, none⟩), .pointer (some ⟨Bk, 0, none⟩)]) ∧ Kp w' w.heap.size Bk Bp k p' l cap' ∧ Below w.heap.size w w' := by
  have hb0 : Below w.heap.size w (w.alloc (.cells #[.int .i64 k] 3)) := (Below.refl _ _).alloc (Nat.le_refl _) _
  have x3 : Boxed (w.alloc (.cells #[.int .i64 k] 3)) w.heap.size 3 (.int .i64 k) := Boxed.new _ _ _
  have HC := Lib.hid (clone_pk (w.alloc (.cells #[.int .i64 k] 3)) hp (h.later hb0) rfl)
  have HB0 := Lib.hid hb0
  have HX := Lib.hid x3
  have hlen := h.len
  clear h hb0 x3
  go_enter Try.func13, Try.ntmps13
  go_wp2_with (go_at_call 21; refine HC.out.mono ?_; rintro e w1 ⟨p', cap', rfl, ho, hb⟩)
  go_ret
  have hs := hb.size
  simp only [World.size_alloc] at hs
  refine ⟨w.heap.size, w1.heap.size, p', cap', rfl, ⟨(Boxed.below HX.out hb (by simp)).alloc _, Boxed.new _ _ _, owns_base (by simp) (owns_block ho (fun g hg => Below.heap_alloc _ _ _ (owns_lt ho hg).2)), by omega, by omega, by omega⟩, ?_⟩
  exact (HB0.out.trans (hb.mono (by simp))).alloc (by omega) _

/-- What is told of a window: where it begins, and it, laid anew. -/
def EW (l : List Int) (k : Nat) (i : Nat) (W : World) (xs : Array Value) : Prop := ∃ p cap, xs = #[.int .i64 (i : Nat), .slice p k cap] ∧ Pk W p (win l i k) cap
theorem EW.put {l : List Int} {k i : Nat} {W : World} {xs : Array Value} {x : Nat} {o : Obj} (h : EW l k i W xs) (hl : ∃ r, W.heap[x]? = some (.loop r)) : EW l k i (W.putObj x o) xs := by
  obtain ⟨p, cap, e, hp⟩ := h
  obtain ⟨r, hr⟩ := hl
  refine ⟨p, cap, e, ⟨fun j hj => ?_, hp.len, hp.cap⟩⟩
  obtain ⟨g, off, e', hc⟩ := hp.rd j hj
  refine ⟨g, off, e', (cell_of_block (a := ⟨g, off + j, none⟩) (World.putObj_heap_other ?_)).trans hc⟩
  intro hg
  simp only at hg
  subst hg
  simp [World.cell?, hr] at hc

set_option maxRecDepth 100000 in
set_option maxHeartbeats 4000000 in
theorem windows1_tell (m S Bk Bp k cap : Nat) (p : Option Addr) (l : List Int) (hk : 1 ≤ k ∧ k ≤ 9223372036854775807) (w : World) (hl : l.length ≤ 10000) (hkp : Kp w S Bk Bp k p l cap) :
    SeqTell Fence.wide m Try.prog 22 #[.pointer (some ⟨Bp, 0, none⟩), .pointer (some ⟨Bk, 0, none⟩)] (l.length + 1 - k) (EW l k) (fun W => Kp W S Bk Bp k p l cap) w := by
  refine SeqTell.any (n := 5) ?_
  intro lp J Jx W hW hJ hJx hT hY h0
  obtain ⟨O0, hj0, hO0⟩ := h0
  have hK := hkp.later hW
  have cb := hK.bk.cell
  have cp := hK.bp.cell
  have lbk := hK.bk.lt
  have lbp := hK.bp.lt
  have hps : ∀ a, p = some a → a.spot = none := by
    rintro a rfl
    obtain ⟨_, ⟨h2, _⟩ | ⟨g, c, cur, e1, r⟩⟩ := hK.own
    · cases h2
    · cases e1; rfl
  have hpn : p = none → l.length = 0 := by
    rintro rfl
    obtain ⟨_, ⟨_, h3⟩ | ⟨g, c, cur, e1, r⟩⟩ := hK.own
    · exact h3
    · cases e1
  have hcap := owns_cap hK.own
  have HK := Lib.hid hK
  have HPS := Lib.hid hps
  have HPN := Lib.hid hpn
  clear hkp hW hK hps hpn
  refine callsIn_of_wp_marks Try.func22 rfl trivial ?_ rfl
  simp only [Try.ntmps22, List.size_toArray, List.length_cons, List.length_nil, Nat.reduceAdd, Nat.reduceSub, Array.replicate_succ, Array.replicate_zero, List.push_toArray, List.append_toArray, List.nil_append, List.cons_append]
  gi_wp2_with (refine ⟨trivial, ?_⟩; gi_at_call 17; refine (callsIn_wide.2 (windows_fn _ _ _ _ _)).mono ?_; rintro e w2 ⟨rfl, rfl⟩)
  generalize hX : World.alloc _ _ = X
  have bX : Below W.heap.size W X := by rw [← hX]; exact (((Below.refl _ _).alloc (Nat.le_refl _) _).alloc (by simp) _).alloc (by simp; omega) _
  have hsX : X.heap.size = W.heap.size + 3 := by rw [← hX]; simp
  have xY : Boxed X W.heap.size 44 (.func (.yield lp) #[] #[]) := by rw [← hX]; exact ((Boxed.new _ _ _).alloc _).alloc _
  have xp : Boxed X (W.heap.size + 1) 22 (.slice p l.length cap) := by rw [← hX]; exact (boxed_new (by simp)).alloc _
  have xk : Boxed X (W.heap.size + 2) 3 (.int .i64 k) := by rw [← hX]; exact boxed_new (by simp)
  have HJ := Lib.hid hJ
  have HJX := Lib.hid hJx
  have HTT := Lib.hid hT
  have HY := Lib.hid hY
  have HO := Lib.hid hO0
  have HJ0 := Lib.hid hj0
  have HX := Lib.hid hsX
  have HCP := Lib.hid hcap
  have HLB := Lib.hid (And.intro lbk lbp)
  clear hX hJ hJx hT hY hO0 hj0 hsX hcap lbk lbp cb cp
  refine wpIn_rangeFunc_told rfl (by decide) (gf := 26) (lb := #[.pointer (some ⟨W.heap.size + 1 + 1, 0, none⟩), .pointer (some ⟨W.heap.size + 1, 0, none⟩)]) rfl trivial (enters_of Try.func26 (by kernel_rfl) rfl)
    (windows1_told 4 (W.heap.size + 2) (W.heap.size + 1) p l.length cap k hk ⟨by omega, HCP.out.1⟩ HPS.out HPN.out X) (Below.refl _ _) (fun _ => rfl)
    (fun O i Y => J O i Y ∧ X.heap.size ≤ Y.heap.size ∧ Boxed Y W.heap.size 44 (.func (.yield lp) #[] #[]) ∧ Boxed Y (W.heap.size + 1) 22 (.slice p l.length cap) ∧ Boxed Y (W.heap.size + 2) 3 (.int .i64 k) ∧ (∀ k, O k → k < W.heap.size ∨ X.heap.size ≤ k))
    (fun cc O i Y => cc = .ret ∧ Jx O i Y ∧ W.heap.size ≤ Y.heap.size)
    ?hI ?hIx ?hT ?h0
    (fun i => { tmps := #[.func (.yield lp) #[] #[], .pointer (some ⟨Bp, 0, none⟩), .pointer (some ⟨Bk, 0, none⟩), .pointer (some ⟨W.heap.size, 0, none⟩), .int .i64 (i : Nat), .slice (onP p i) k (cap - i), .slice p l.length cap, .int .i64 k,
      .func (.func 26) #[] #[.pointer (some ⟨W.heap.size + 1 + 1, 0, none⟩), .pointer (some ⟨W.heap.size + 1, 0, none⟩)], .int .i64 (i : Nat), .slice (onP p i) k (cap - i), undef, undef, undef, undef, undef, undef], defers := [] }) ?assign ?body ?done ?stop
  case hI =>
    rintro O i X' Y ⟨h1, h2, h3, h4, h5, h6⟩ hb hk
    have := HX.out
    exact ⟨HJ.out O i X' Y h1 (hb.mono (by omega)) hk, Nat.le_trans h2 hb.size, Boxed.below h3 hb (by omega), Boxed.below h4 hb (by omega), Boxed.below h5 hb (by omega), h6⟩
  case hIx =>
    rintro cc O i X' Y ⟨h1, h2, h3⟩ hb hk
    exact ⟨h1, HJX.out O i X' Y h2 (hb.mono (by have := HX.out; omega)) hk, Nat.le_trans h3 hb.size⟩
  case hT =>
    rintro O i Y ⟨h1, h2, h3, h4, h5, h6⟩
    exact ⟨h5.cell, h4.cell⟩
  case h0 =>
    exact ⟨O0, ⟨HJ.out.alloc HJ0.out HO.out (Nat.le_refl _) bX, Nat.le_refl _, xY, xp, xk, fun k hk => .inl (HO.out k hk)⟩, fun k hk => by have := HO.out k hk; have := HX.out; omega⟩
  case assign =>
    intro l' i Y K hi hK
    unfold encW
    gi_wp2
    exact hK
  case body =>
    rintro l' O i Y _ _ hi ⟨h1, h2, h3, h4, h5, h6⟩ hlt _
    have k3 := h3.cell
    have hKY := HTT.out _ _ _ h1
    have hpk := Pk.of_owns hKY.own hl
    obtain ⟨g, off, hpe, _⟩ := hpk.rd 0 (by omega)
    have hon : onP p i = some ⟨g, off + i, none⟩ := by rw [hpe]; rfl
    have hpp : Pk Y (some ⟨g, off + i, none⟩) (win l i k) (cap - i) := by
      have := (hpe ▸ hpk).part (a := i) (b := i + k) (by omega) (by omega)
      rwa [show i + k - i = k by omega] at this
    have HCL : Hid (∀ V, Below Y.heap.size Y V → Calls Try.prog 21 #[.slice (some ⟨g, off + i, none⟩) k (cap - i)] V fun e w' => ∃ p' cap', e = .returned (.slice p' k cap') ∧ w'.ownsRow V.heap.size 3 1 (.slice p' k cap') k (cellsZ (win l i k)) ∧ Below V.heap.size V w') :=
      Lib.hid fun V hV => clone_pk V (fun e => by cases e) (hpp.later hV) (win_len (by omega))
    have HR0 : Hid (Below Y.heap.size Y Y) := Lib.hid (Below.refl _ _)
    have HR1 : Hid (Below Y.heap.size Y Y.drew) := Lib.hid (Below.refl _ _).drew
    have HS : Hid (Y.drew.heap.size = Y.heap.size) := Lib.hid rfl
    have H1 := Lib.hid h1
    have H2 := Lib.hid h2
    have H3 := Lib.hid h3
    have H4 := Lib.hid h4
    have H5 := Lib.hid h5
    have H6 := Lib.hid h6
    have HLT := Lib.hid hlt
    rw [hon]
    clear h1 h2 h3 h4 h5 h6 hlt hKY hpk hpe hon hpp
    have HYY : Hid (∀ V V', Below Y.heap.size Y V → Below V.heap.size V V' → ∀ p3 c3, V'.ownsRow V.heap.size 3 1 (.slice p3 k c3) k (cellsZ (win l i k)) → YieldAt Fence.wide 4 Try.prog lp #[.int .i64 (i : Nat), .slice p3 k c3] V' fun e W' => ∃ b, e = .returned (.bool b) ∧ ∃ O', Turn W.heap.size O O' V' W' ∧ (if b then J O' (i + 1) W' else Jx O' (i + 1) W')) := Lib.hid fun V V' hV hV' p3 c3 ho3 => by
      have hb : Below Y.heap.size Y V' := hV.trans (hV'.mono hV.size)
      have hs := hb.size
      obtain ⟨fn, tmps, asg, bdy, hy, hR⟩ := HY.out O i V' #[.int .i64 (i : Nat), .slice p3 k c3] hi (HJ.out.alloc H1.out HLT.out (by have := HX.out; have := H2.out; omega) hb) ⟨p3, c3, rfl, by
        have := Pk.of_owns (p := p3) (l := win l i k) (cap := c3) (w := V') (base := V.heap.size) (by rw [win_len (by omega)]; exact ho3) (by rw [win_len (by omega)]; omega)
        exact this⟩ (fun x hx => Nat.lt_of_lt_of_le (HLT.out x hx) hs) (by have := HX.out; have := H2.out; omega)
      refine ⟨fn, tmps, asg, bdy, hy, RoundIn.mono hR ?_⟩
      rintro e W' ⟨O', ht, (⟨h1, h2⟩ | ⟨h1, h2⟩)⟩
      · exact ⟨true, h1, O', ht, h2⟩
      · exact ⟨false, h1, O', ht, h2⟩
    have HK3 : Hid (∀ V V', Below Y.heap.size Y V → Below V.heap.size V V' → V'.cell? ⟨W.heap.size, 0, none⟩ = some (.func (.yield lp) #[] #[])) := Lib.hid fun V V' hV hV' => (Boxed.below H3.out (hV.trans (hV'.mono hV.size)) H3.out.lt).cell
    have HBT : Hid (∀ V V', Below Y.heap.size Y V → Below V.heap.size V V' → Below Y.heap.size Y V') := Lib.hid fun V V' hV hV' => hV.trans (hV'.mono hV.size)
    have HTR : Hid (∀ V' Y' O', Below Y.heap.size Y V' → Turn W.heap.size O O' V' Y' → Turn W.heap.size O O' Y Y') := Lib.hid fun V' Y' O' hb ht => (Turn.of_below HLT.out hb).trans ht
    have HFT : Hid (∀ V' Y' O', Below Y.heap.size Y V' → Turn W.heap.size O O' V' Y' → J O' (i + 1) Y' → ∃ O', Turn X.heap.size O O' Y Y' ∧ J O' (i + 1) Y' ∧ X.heap.size ≤ Y'.heap.size ∧ Boxed Y' W.heap.size 44 (.func (.yield lp) #[] #[]) ∧ Boxed Y' (W.heap.size + 1) 22 (.slice p l.length cap) ∧ Boxed Y' (W.heap.size + 2) 3 (.int .i64 k) ∧ (∀ k, O' k → k < W.heap.size ∨ X.heap.size ≤ k)) := Lib.hid fun V' Y' O' hb ht hj => by
      have ht2 := HTR.out V' Y' O' hb ht
      have hn : ∀ k, W.heap.size ≤ k → k < X.heap.size → ¬ O k := fun k a1 a2 a3 => by have := H6.out k a3; omega
      have := HX.out
      refine ⟨O', ht2.mono (by omega), hj, Nat.le_trans H2.out ht2.size, ht2.boxed H3.out (Nat.le_refl _) (hn _ (Nat.le_refl _) (by omega)), ht2.boxed H4.out (by omega) (hn _ (by omega) (by omega)), ht2.boxed H5.out (by omega) (hn _ (by omega) (by omega)), fun k hk => ?_⟩
      rcases ht2.grow k hk with h | h
      · exact H6.out k h
      · exact .inr (Nat.le_trans H2.out h)
    have HFF : Hid (∀ V' Y' O', Below Y.heap.size Y V' → Turn W.heap.size O O' V' Y' → Jx O' (i + 1) Y' → ∃ O', Turn X.heap.size O O' Y Y' ∧ Code.ret = .ret ∧ Jx O' (i + 1) Y' ∧ W.heap.size ≤ Y'.heap.size) := Lib.hid fun V' Y' O' hb ht hj => by
      have ht2 := HTR.out V' Y' O' hb ht
      have := HX.out
      exact ⟨O', ht2.mono (by omega), rfl, hj, by have := ht2.size; have := H2.out; omega⟩
    gi_wp2_with fail
    gi_region_with (first | (refine ⟨trivial, ?_⟩; gi_at_call 21; refine (callsIn_wide.2 (HCL.out _ (by first | exact HR0.out | exact HR1.out))).mono ?_; rintro e w3 ⟨p3, c3, rfl, ho3, hb3⟩; have k33 := HK3.out _ w3 (by first | exact HR0.out | exact HR1.out) hb3; have hyw := HBT.out _ w3 (by first | exact HR0.out | exact HR1.out) hb3; obtain ⟨fn, tmps, asg, bdy, hy, hR'⟩ := yieldAt_any (m := 2) (HYY.out _ w3 (by first | exact HR0.out | exact HR1.out) hb3 p3 c3 ho3); skip) | (go_simp; refine RoundIn.mono (F := Fence.wide.inRound l') hR' ?_; rintro e Y' ⟨b, rfl, O', ht, hj⟩))
    all_goals clear hy hR' k33 hb3 ho3
    all_goals cases b with
      | true =>
        have HF := Lib.hid (HFT.out _ _ _ hyw ht hj)
        clear hyw ht hj
        gi_wp2
        exact HF.out
      | false =>
        have HF := Lib.hid (HFF.out _ _ _ hyw ht hj)
        clear hyw ht hj
        gi_wp2
        obtain ⟨O2, a1, _, a2, a3⟩ := HF.out
        exact ⟨O2, a1, rfl, a2, a3⟩
  case done =>
    rintro D O Y hD ⟨h1, h2, h3, h4, h5, h6⟩ hn hlt hK
    have hj3 : J O (l.length + 1 - k) (Y.putObj D (.deferred none)) := HJ.out.putObj h1 (by have := HX.out; omega) hn _
    have HF := Lib.hid hj3
    clear hj3 h1 h3 h4 h5 h6
    gi_wp2
    refine ⟨by simp, .inl ⟨_, _, rfl, run_takeDeferred hK, ?_⟩⟩
    exact ⟨_, results_none rfl _ _ _, ⟨_, rfl⟩, O, fun k hk => by simpa using hlt k hk, by have := HX.out; simp; omega, .inl HF.out⟩
  case stop =>
    rintro D cc O i Y hD hi ⟨rfl, h1, h2⟩ hn hlt hK
    have hj3 : Jx O (i + 1) (Y.putObj D (.deferred none)) := HJX.out.putObj h1 (by have := HX.out; omega) hn _
    have HF := Lib.hid hj3
    clear hj3 h1
    gi_wp2
    refine ⟨by simp, .inl ⟨_, _, rfl, run_takeDeferred hK, ?_⟩⟩
    exact ⟨_, results_none rfl _ _ _, ⟨_, rfl⟩, O, fun k hk => by simpa using hlt k hk, by simpa using h2, .inr ⟨i, hi, HF.out⟩⟩
end Go.Proofs.Ythofknjdmfpbeaa.Fa
