/-
  What is told of Windows, of a k below 1: nothing.
-/
import Derived.Test.YthofknjdmfpbeaaFaW
namespace Go.Proofs.Ythofknjdmfpbeaa.Fa
open Go.RowKit Go.Shelf
open Go.Proofs.Ythofknjdmfpbeaa.Row
attribute [local go_sem] Oper.semAt_some

set_option maxRecDepth 100000 in
set_option maxHeartbeats 4000000 in
theorem windows1_tell_bad (m S Bk Bp cap : Nat) (k : Int) (hk : k < 1) (E : Nat → World → Array Value → Prop) (p : Option Addr) (l : List Int) (w : World) (hkp : Kp w S Bk Bp k p l cap) :
    SeqTell Fence.wide m Try.prog 22 #[.pointer (some ⟨Bp, 0, none⟩), .pointer (some ⟨Bk, 0, none⟩)] 0 E (fun W => Kp W S Bk Bp k p l cap) w := by
  refine SeqTell.any (n := 5) ?_
  intro lp J Jx W hW hJ hJx hT hY h0
  obtain ⟨O0, hj0, hO0⟩ := h0
  have hK := hkp.later hW
  have cb := hK.bk.cell
  have cp := hK.bp.cell
  have lbk := hK.bk.lt
  have lbp := hK.bp.lt
  have hps : ∀ a, p = some a → a.spot = none := by
    rintro a rfl
    obtain ⟨_, ⟨h2, _⟩ | ⟨g, c, cur, e1, r⟩⟩ := hK.own
    · cases h2
    · cases e1; rfl
  have hpn : p = none → l.length = 0 := by
    rintro rfl
    obtain ⟨_, ⟨_, h3⟩ | ⟨g, c, cur, e1, r⟩⟩ := hK.own
    · exact h3
    · cases e1
  have hcap := owns_cap hK.own
  have HK := Lib.hid hK
  have HPS := Lib.hid hps
  have HPN := Lib.hid hpn
  clear hkp hW hK hps hpn
  refine callsIn_of_wp_marks Try.func22 rfl trivial ?_ rfl
  simp only [Try.ntmps22, List.size_toArray, List.length_cons, List.length_nil, Nat.reduceAdd, Nat.reduceSub, Array.replicate_succ, Array.replicate_zero, List.push_toArray, List.append_toArray, List.nil_append, List.cons_append]
  gi_wp2_with (refine ⟨trivial, ?_⟩; gi_at_call 17; refine (callsIn_wide.2 (windows_fn _ _ _ _ _)).mono ?_; rintro e w2 ⟨rfl, rfl⟩)
  generalize hX : World.alloc _ _ = X
  have bX : Below W.heap.size W X := by rw [← hX]; exact (((Below.refl _ _).alloc (Nat.le_refl _) _).alloc (by simp) _).alloc (by simp; omega) _
  have hsX : X.heap.size = W.heap.size + 3 := by rw [← hX]; simp
  have xY : Boxed X W.heap.size 44 (.func (.yield lp) #[] #[]) := by rw [← hX]; exact ((Boxed.new _ _ _).alloc _).alloc _
  have xp : Boxed X (W.heap.size + 1) 22 (.slice p l.length cap) := by rw [← hX]; exact (boxed_new (by simp)).alloc _
  have xk : Boxed X (W.heap.size + 2) 3 (.int .i64 k) := by rw [← hX]; exact boxed_new (by simp)
  have HJ := Lib.hid hJ
  have HJX := Lib.hid hJx
  have HTT := Lib.hid hT
  have HY := Lib.hid hY
  have HO := Lib.hid hO0
  have HJ0 := Lib.hid hj0
  have HX := Lib.hid hsX
  have HCP := Lib.hid hcap
  have HLB := Lib.hid (And.intro lbk lbp)
  clear hX hJ hJx hT hY hO0 hj0 hsX hcap lbk lbp cb cp
  refine wpIn_rangeFunc_told rfl (by decide) (gf := 26) (lb := #[.pointer (some ⟨W.heap.size + 1 + 1, 0, none⟩), .pointer (some ⟨W.heap.size + 1, 0, none⟩)]) rfl trivial (enters_of Try.func26 (by kernel_rfl) rfl)
    (windows1_bad 4 (W.heap.size + 2) (W.heap.size + 1) k hk (encW p cap 0) X) (Below.refl _ _) (fun _ => rfl)
    (fun O i Y => J O i Y ∧ X.heap.size ≤ Y.heap.size ∧ Boxed Y W.heap.size 44 (.func (.yield lp) #[] #[]) ∧ Boxed Y (W.heap.size + 1) 22 (.slice p l.length cap) ∧ Boxed Y (W.heap.size + 2) 3 (.int .i64 k) ∧ (∀ k, O k → k < W.heap.size ∨ X.heap.size ≤ k))
    (fun cc O i Y => cc = .ret ∧ Jx O i Y ∧ W.heap.size ≤ Y.heap.size)
    ?hI ?hIx ?hT ?h0
    (fun i => { tmps := #[.func (.yield lp) #[] #[], .pointer (some ⟨Bp, 0, none⟩), .pointer (some ⟨Bk, 0, none⟩), .pointer (some ⟨W.heap.size, 0, none⟩), .int .i64 (i : Nat), .slice (onP p i) 0 (cap - i), .slice p l.length cap, .int .i64 k,
      .func (.func 26) #[] #[.pointer (some ⟨W.heap.size + 1 + 1, 0, none⟩), .pointer (some ⟨W.heap.size + 1, 0, none⟩)], .int .i64 (i : Nat), .slice (onP p i) 0 (cap - i), undef, undef, undef, undef, undef, undef], defers := [] }) ?assign ?body ?done ?stop
  case hI =>
    rintro O i X' Y ⟨h1, h2, h3, h4, h5, h6⟩ hb hk
    have := HX.out
    exact ⟨HJ.out O i X' Y h1 (hb.mono (by omega)) hk, Nat.le_trans h2 hb.size, Boxed.below h3 hb (by omega), Boxed.below h4 hb (by omega), Boxed.below h5 hb (by omega), h6⟩
  case hIx =>
    rintro cc O i X' Y ⟨h1, h2, h3⟩ hb hk
    exact ⟨h1, HJX.out O i X' Y h2 (hb.mono (by have := HX.out; omega)) hk, Nat.le_trans h3 hb.size⟩
  case hT =>
    rintro O i Y ⟨h1, h2, h3, h4, h5, h6⟩
    exact h5.cell
  case h0 =>
    exact ⟨O0, ⟨HJ.out.alloc HJ0.out HO.out (Nat.le_refl _) bX, Nat.le_refl _, xY, xp, xk, fun k hk => .inl (HO.out k hk)⟩, fun k hk => by have := HO.out k hk; have := HX.out; omega⟩
  case assign =>
    intro l' i Y K hi hK
    unfold encW
    gi_wp2
    exact hK
  case body => intro l' O i Y _ _ hi; omega
  case done =>
    rintro D O Y hD ⟨h1, h2, h3, h4, h5, h6⟩ hn hlt hK
    have hj3 : J O 0 (Y.putObj D (.deferred none)) := HJ.out.putObj h1 (by have := HX.out; omega) hn _
    have HF := Lib.hid hj3
    clear hj3 h1 h3 h4 h5 h6
    gi_wp2
    refine ⟨by simp, .inl ⟨_, _, rfl, run_takeDeferred hK, ?_⟩⟩
    exact ⟨_, results_none rfl _ _ _, ⟨_, rfl⟩, O, fun k hk => by simpa using hlt k hk, by have := HX.out; simp; omega, .inl HF.out⟩
  case stop =>
    rintro D cc O i Y hD hi ⟨rfl, h1, h2⟩ hn hlt hK
    have hj3 : Jx O (i + 1) (Y.putObj D (.deferred none)) := HJX.out.putObj h1 (by have := HX.out; omega) hn _
    have HF := Lib.hid hj3
    clear hj3 h1
    gi_wp2
    refine ⟨by simp, .inl ⟨_, _, rfl, run_takeDeferred hK, ?_⟩⟩
    exact ⟨_, results_none rfl _ _ _, ⟨_, rfl⟩, O, fun k hk => by simpa using hlt k hk, by simpa using h2, .inr ⟨i, hi, HF.out⟩⟩
end Go.Proofs.Ythofknjdmfpbeaa.Fa
