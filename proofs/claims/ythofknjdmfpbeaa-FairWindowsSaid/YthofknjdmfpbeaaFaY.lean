/-
  The law FairWindows answers true, of every row, any k and any stop.
-/
import Derived.Test.YthofknjdmfpbeaaFaX
namespace Go.Proofs.Ythofknjdmfpbeaa.Fa
open Go.RowKit Go.Shelf
open Go.Proofs.Ythofknjdmfpbeaa.Row
attribute [local go_sem] Oper.semAt_some

theorem seq_of {w : World} {S Bk Bp cap : Nat} {k : Int} {p : Option Addr} {l : List Int} (hkm : k ≤ 9223372036854775807) (hl : l.length ≤ 10000) (h : Kp w S Bk Bp k p l cap) :
    SeqTell Fence.wide 4 Try.prog 22 #[.pointer (some ⟨Bp, 0, none⟩), .pointer (some ⟨Bk, 0, none⟩)] (wins l.length k) (EW l k.toNat) (fun W => Kp W S Bk Bp k p l cap) w := by
  by_cases hk : k < 1
  · rw [wins_bad hk]
    exact windows1_tell_bad 4 S Bk Bp cap k hk _ p l w h
  · obtain ⟨n, rfl⟩ : ∃ n : Nat, k = n := ⟨k.toNat, by omega⟩
    rw [wins_good _ _ (by omega), Int.toNat_natCast]
    exact windows1_tell 4 S Bk Bp n cap p l ⟨by omega, by omega⟩ w hl h

theorem eql_func_nil (f : Fn) (xs ys : Array Value) (w : World) : (binOp .eql 27 (.func f xs ys) .nilFunc).run Try.prog w = .ok (.bool false) w := by
  have hu := Try.underlying27
  have h : ∀ d : Nat, (Op.equalIn (d + 1) 27 (.func f xs ys) .nilFunc).run Try.prog w = .ok false w := fun d => by
    simp [Op.equalIn, run_underlying hu]
  simp only [binOp]
  simp [Op.equal, Op.maxDepth, h 9999]

set_option maxRecDepth 100000 in
set_option maxHeartbeats 4000000 in
theorem windows_big (p : Option Addr) (len cap : Nat) (k : Int) (st : Nat) (w : World) (h : 60 < len) :
    Calls Try.prog 4 #[.slice p len cap, .int .i64 k, .int .u8 st] w fun e w' => e = .returned (.bool true) ∧ Below w.heap.size w w' := by
  have i0 : (60 : Int) < (len : Int) := by omega
  have hb0 : ∀ v1 v2 v3 v4 t1 t2 t3 t4, Below w.heap.size w ((((w.alloc (.cells #[v1] t1)).alloc (.cells #[v2] t2)).alloc (.cells #[v3] t3)).alloc (.cells #[v4] t4)) := fun v1 v2 v3 v4 t1 t2 t3 t4 => ((((Below.refl _ _).alloc (Nat.le_refl _) _).alloc (by simp) _).alloc (by simp; omega) _).alloc (by simp; omega) _
  go_enter Try.func4, Try.ntmps4
  go_wp2_with (go_at_call 8; fail)
  have hbW := hb0 (.slice p len cap) (.int .i64 k) (.int .u8 st) (.bool false) 22 3 5 4
  have x6 : Boxed ((((w.alloc (.cells #[.slice p len cap] 22)).alloc (.cells #[.int .i64 k] 3)).alloc (.cells #[.int .u8 st] 5)).alloc (.cells #[.bool false] 4)) (w.heap.size + 3) 4 (.bool false) := boxed_new (by simp)
  generalize hW : World.alloc _ _ = W at *
  refine (awake_any W).mono ?_
  rintro e w1 ⟨rfl, hb1⟩
  have x61 := Boxed.below x6 hb1 x6.lt
  have k6 := x61.cell
  have f6 := x61.frozen
  have HF : Hid (Below w.heap.size w (w1.setCell ⟨w.heap.size + 3, 0, none⟩ (.bool true)) ∧ (w1.setCell ⟨w.heap.size + 3, 0, none⟩ (.bool true)).cell? ⟨w.heap.size + 3, 0, none⟩ = some (.bool true)) := Lib.hid ⟨(hbW.trans (hb1.mono hbW.size)).trans (((Chg.refl (fun x => w.heap.size ≤ x) w1).set (.inl (by simp)) _).below (fun _ h => h) (hbW.trans (hb1.mono hbW.size)).size), same k6⟩
  have k7 := HF.out.2
  clear hbW hb0 x6 x61 hb1 hW
  go_wp2
  exact bodyPost_ret (v := .bool true) (by simp [results, Try.results4, go_sem, k7]) rfl ⟨rfl, HF.out.1⟩
/-- What the going through all windows keeps. -/
structure Vw (w X Y : World) (S Bk Bp nB : Nat) (k : Int) (p p' : Option Addr) (l : List Int) (cap cap' st i : Nat) : Prop where
  sz : X.heap.size ≤ Y.heap.size
  bel : Below w.heap.size w Y
  kp : Kp Y S Bk Bp k p' l cap'
  b3 : Boxed Y w.heap.size 22 (.slice p l.length cap)
  b4 : Boxed Y (w.heap.size + 1) 3 (.int .i64 k)
  b5 : Boxed Y (w.heap.size + 2) 5 (.int .u8 st)
  b6 : Boxed Y (w.heap.size + 3) 4 (.bool false)
  bn : Boxed Y nB 3 (.int .i64 (i : Nat))
  lo : w.heap.size + 3 < nB
  hk : Bk < nB ∧ Bp < nB ∧ ∀ g, rowB p' g → g < nB
  hX : X.heap.size = nB + 1
section
variable {w X Y Y' : World} {S Bk Bp nB : Nat} {k : Int} {p p' : Option Addr} {l : List Int} {cap cap' st i : Nat}
theorem Vw.kept (h : Vw w X Y S Bk Bp nB k p p' l cap cap' st i) (hsz : Y.heap.size ≤ Y'.heap.size) (hb : Below w.heap.size w Y') (hk : ∀ x, x < nB → Y'.heap[x]? = Y.heap[x]?) {j : Nat} (hn : Boxed Y' nB 3 (.int .i64 (j : Nat))) : Vw w X Y' S Bk Bp nB k p p' l cap cap' st j := by
  have hlo := h.lo
  obtain ⟨h1, h2, h3⟩ := h.hk
  exact ⟨Nat.le_trans h.sz hsz, hb, ⟨(hk _ h1).trans h.kp.bk, (hk _ h2).trans h.kp.bp, owns_block h.kp.own (fun g hg => hk g (h3 g hg)), h.kp.len, h.kp.lo⟩, (hk _ (by omega)).trans h.b3, (hk _ (by omega)).trans h.b4, (hk _ (by omega)).trans h.b5, (hk _ (by omega)).trans h.b6, hn, h.lo, h.hk, h.hX⟩
theorem Vw.stab (h : Vw w X Y S Bk Bp nB k p p' l cap cap' st i) (hb : Below X.heap.size Y Y') : Vw w X Y' S Bk Bp nB k p p' l cap cap' st i := by
  have := h.hX
  have := h.lo
  exact h.kept hb.size (h.bel.trans (hb.mono (by omega))) (fun x hx => hb.block x (by omega)) (Boxed.below h.bn hb (by omega))
theorem Vw.next (h : Vw w X Y S Bk Bp nB k p p' l cap cap' st i) (q : Nat) {z : Int} (hz : z = ((i + 1 : Nat) : Int)) : Vw w X ((Y.drewN q).setCell ⟨nB, 0, none⟩ (.int .i64 z)) S Bk Bp nB k p p' l cap cap' st (i + 1) := by
  subst hz
  have hlo := h.lo
  have hb0 : Below w.heap.size w (Y.drewN q) := below_drewN h.bel q
  refine h.kept (by simp [World.setCell]) (hb0.trans (((Chg.refl (fun x => w.heap.size ≤ x) _).set (.inl (by simp; omega)) _).below (fun _ h => h) hb0.size)) (fun x hx => (Below.heap_setCell _ _ _ _ (by simp; omega)).trans rfl) ?_
  exact (show Boxed (Y.drewN q) nB 3 (.int .i64 (i : Nat)) from h.bn).set _
end
theorem same_intsL (p q : Option Addr) (cp cq L : Nat) (l : List Int) (w : World) (hp : Rd0 w p l) (hq : Rd0 w q l) (hL : l.length = L) (hl : L ≤ 1048576) :
    Calls Try.prog 14 #[.slice p L cp, .slice q L cq] w fun e w' => e = .returned (.bool true) ∧ ∃ n, w' = w.drewN n := hL ▸ same_ints p q cp cq l w hp hq (by omega)

set_option maxRecDepth 100000 in
set_option maxHeartbeats 4000000 in
theorem windows_walk (p : Option Addr) (l : List Int) (cap : Nat) (k : Int) (st : Nat) (hst : st < 256) (hkm : k ≤ 9223372036854775807) (w : World) (hrd : Rd0 w p l) (hcap : l.length ≤ cap ∧ cap ≤ maxLen) (hp : p = none → cap = 0) (hlen : l.length ≤ 60) :
    Calls Try.prog 4 #[.slice p l.length cap, .int .i64 k, .int .u8 st] w fun e w' => e = .returned (.bool true) ∧ Below w.heap.size w w' := by
  have i0 : ¬ (60 : Int) < (l.length : Int) := by omega
  have hqf := eql_func_nil
  have H : Hid (Pk w p l cap) := Lib.hid ⟨hrd, by omega, hcap⟩
  have HP := Lib.hid hp
  clear hrd hp
  refine (callsIn_wide (n := 5)).1 ?_
  refine callsIn_of_wp_marks Try.func4 rfl trivial ?_ rfl
  simp only [Try.ntmps4, List.size_toArray, List.length_cons, List.length_nil, Nat.reduceAdd, Nat.reduceSub, Array.replicate_succ, Array.replicate_zero, List.push_toArray, List.append_toArray, List.nil_append, List.cons_append]
  gi_wp2_with (refine ⟨trivial, ?_⟩; gi_at_call 13; fail)
  have hbW : Below w.heap.size w ((((w.alloc (.cells #[.slice p l.length cap] 22)).alloc (.cells #[.int .i64 k] 3)).alloc (.cells #[.int .u8 st] 5)).alloc (.cells #[.bool false] 4)) := ((((Below.refl _ _).alloc (Nat.le_refl _) _).alloc (by simp) _).alloc (by simp; omega) _).alloc (by simp; omega) _
  have x6 : Boxed ((((w.alloc (.cells #[.slice p l.length cap] 22)).alloc (.cells #[.int .i64 k] 3)).alloc (.cells #[.int .u8 st] 5)).alloc (.cells #[.bool false] 4)) (w.heap.size + 3) 4 (.bool false) := boxed_new (by simp)
  have x5 : Boxed ((((w.alloc (.cells #[.slice p l.length cap] 22)).alloc (.cells #[.int .i64 k] 3)).alloc (.cells #[.int .u8 st] 5)).alloc (.cells #[.bool false] 4)) (w.heap.size + 2) 5 (.int .u8 st) := (boxed_new (by simp)).alloc _
  have x4 : Boxed ((((w.alloc (.cells #[.slice p l.length cap] 22)).alloc (.cells #[.int .i64 k] 3)).alloc (.cells #[.int .u8 st] 5)).alloc (.cells #[.bool false] 4)) (w.heap.size + 1) 3 (.int .i64 k) := ((boxed_new (by simp)).alloc _).alloc _
  have x3 : Boxed ((((w.alloc (.cells #[.slice p l.length cap] 22)).alloc (.cells #[.int .i64 k] 3)).alloc (.cells #[.int .u8 st] 5)).alloc (.cells #[.bool false] 4)) w.heap.size 22 (.slice p l.length cap) := (((Boxed.new _ _ _).alloc _).alloc _).alloc _
  have hsW : ((((w.alloc (.cells #[.slice p l.length cap] 22)).alloc (.cells #[.int .i64 k] 3)).alloc (.cells #[.int .u8 st] 5)).alloc (.cells #[.bool false] 4)).heap.size = w.heap.size + 4 := by simp
  generalize hW : World.alloc _ _ = W at *
  refine ⟨trivial, (callsIn_wide.2 (windows_any k W HP.out (H.out.later hbW))).mono ?_⟩
  rintro e w1 ⟨Bk, Bp, p', cap', rfl, hkp, hb1⟩
  have y6 := Boxed.below x6 hb1 x6.lt
  have y5 := Boxed.below x5 hb1 x5.lt
  have y4 := Boxed.below x4 hb1 x4.lt
  have y3 := Boxed.below x3 hb1 x3.lt
  have hs1 := hb1.size
  have hb01 := hbW.trans (hb1.mono hbW.size)
  have k6 := y6.cell
  have k5 := y5.cell
  have k4 := y4.cell
  have k3 := y3.cell
  clear hbW x6 x5 x4 x3 hb1 hW
  gi_wp2
  generalize hX : World.alloc _ _ = X
  have bX : Below w1.heap.size w1 X := by rw [← hX]; exact (Below.refl _ _).alloc (Nat.le_refl _) _
  have hsX : X.heap.size = w1.heap.size + 1 := by rw [← hX]; simp
  have xn : Boxed X w1.heap.size 3 (.int .i64 ((0 : Nat) : Int)) := by rw [← hX]; exact Boxed.new _ _ _
  have hV : Vw w X X W.heap.size Bk Bp w1.heap.size k p p' l cap cap' st 0 := ⟨Nat.le_refl _, hb01.trans (bX.mono hb01.size), hkp.later bX, Boxed.below y3 bX y3.lt, Boxed.below y4 bX y4.lt, Boxed.below y5 bX y5.lt, Boxed.below y6 bX y6.lt, xn, by omega, ⟨hkp.bk.lt, hkp.bp.lt, fun g hg => (owns_lt hkp.own hg).2⟩, hsX⟩
  have HV := Lib.hid hV
  have HSQ := Lib.hid (seq_of hkm (by omega) hV.kp)
  generalize w1.heap.size = nB at *
  clear hX bX xn hV hkp y6 y5 y4 y3 hb01 k6 k5 k4 k3 hs1 hsX hsW
  refine wpIn_rangeFunc_tell rfl (by decide) (gf := 22) (lb := #[.pointer (some ⟨Bp, 0, none⟩), .pointer (some ⟨Bk, 0, none⟩)]) rfl trivial (enters_of Try.func22 (by kernel_rfl) rfl)
    HSQ.out (Below.refl _ _) (fun i W xs h => by obtain ⟨p, cap, rfl, _⟩ := h; rfl) (fun i W xs x o h hl => h.put hl)
    (fun O i Y => (∀ x, ¬ O x) ∧ (st = 0 ∨ i < st) ∧ Vw w X Y W.heap.size Bk Bp nB k p p' l cap cap' st i)
    (fun cc O i Y => cc = .exit 0 ∧ (∀ x, ¬ O x) ∧ i = st ∧ Vw w X Y W.heap.size Bk Bp nB k p p' l cap cap' st i)
    ?hI ?hIx ?hT ?h0
    (fun i xs => { tmps := #[.slice p l.length cap, .int .i64 k, .int .u8 st, .pointer (some ⟨w.heap.size, 0, none⟩), .pointer (some ⟨w.heap.size + 1, 0, none⟩), .pointer (some ⟨w.heap.size + 1 + 1, 0, none⟩), .pointer (some ⟨w.heap.size + 1 + 1 + 1, 0, none⟩), .func (.func 22) #[] #[.pointer (some ⟨Bp, 0, none⟩), .pointer (some ⟨Bk, 0, none⟩)], .pointer (some ⟨nB, 0, none⟩), .int .i64 (i : Nat), xs.getD 1 undef, undef, .slice p l.length cap, .int .i64 l.length, .bool false, undef, .slice p l.length cap, .int .i64 k, .func (.func 22) #[] #[.pointer (some ⟨Bp, 0, none⟩), .pointer (some ⟨Bk, 0, none⟩)], .func (.func 22) #[] #[.pointer (some ⟨Bp, 0, none⟩), .pointer (some ⟨Bk, 0, none⟩)], .bool false, .func (.func 22) #[] #[.pointer (some ⟨Bp, 0, none⟩), .pointer (some ⟨Bk, 0, none⟩)], .int .i64 (i : Nat), xs.getD 1 undef, undef, undef, undef, undef, undef, undef, undef, undef, undef, undef, undef, undef, undef, undef, undef, undef, undef, undef, undef, undef, undef, undef, undef, undef, undef, undef, undef, undef, undef, undef, undef, undef, undef, undef, undef, undef, undef, undef, undef, undef, undef, undef, undef, undef, undef, undef, undef, undef, undef, undef, undef], defers := [] }) ?assign ?body ?done ?stop
  case hI =>
    rintro O i Y Y' ⟨h1, h2, h3⟩ hb _
    exact ⟨h1, h2, h3.stab hb⟩
  case hIx =>
    rintro cc O i Y Y' ⟨h0, h1, h2, h3⟩ hb _
    exact ⟨h0, h1, h2, h3.stab hb⟩
  case hT =>
    rintro O i Y ⟨_, _, h⟩
    exact h.kp
  case h0 => exact ⟨fun _ => False, ⟨fun _ h => h, by omega, HV.out⟩, fun _ h => h.elim⟩
  case assign =>
    intro l' i W0 W xs K hi hE hK
    obtain ⟨p3, c3, rfl, _⟩ := hE
    gi_wp2
    exact hK
  case body =>
    rintro l' O i Y xs _ _ hi ⟨hO, hst2, h⟩ ⟨p3, c3, rfl, hp3⟩ hlt _
    have hk1 : 1 ≤ k := by
      rcases Int.lt_or_le k 1 with h | h
      · rw [wins_bad h] at hi; omega
      · exact h
    obtain ⟨kn, rfl⟩ : ∃ n : Nat, k = n := ⟨k.toNat, by omega⟩
    rw [wins_good _ _ (by omega)] at hi
    rw [Int.toNat_natCast] at hp3
    have hpk := H.out.later h.bel
    obtain ⟨g, off, rfl, _⟩ := H.out.rd 0 (by omega)
    have hpp : Pk Y (some ⟨g, off + i, none⟩) (win l i kn) (cap - i) := by
      have := hpk.part (a := i) (b := i + kn) (by omega) (by omega)
      rwa [show i + kn - i = kn by omega] at this
    have HS := Lib.hid (same_intsL p3 (some ⟨g, off + i, none⟩) c3 (cap - i) kn (win l i kn) Y hp3.rd hpp.rd (win_len (by omega)) (by omega))
    have k3 := h.b3.cell
    have k4 := h.b4.cell
    have k5 := h.b5.cell
    have kn0 := h.bn.cell
    have fn0 := h.bn.frozen
    have j0 : (0 : Int) ≤ (i : Int) := Int.natCast_nonneg _
    have j1 : (i : Int) ≤ (i : Int) + (kn : Int) := by omega
    have j2 : (i : Int) + (kn : Int) ≤ (cap : Int) := by omega
    have j3 : (i : Int) + (kn : Int) ≤ (l.length : Int) := by omega
    have n1 : ((i : Int) != (i : Int)) = false := by simp
    have n2 : ((kn : Int) != (kn : Int)) = false := by simp
    have HVY := Lib.hid h
    have HOO := Lib.hid hO
    have hlo := h.lo
    have hne : w.heap.size + 2 ≠ nB := by omega
    clear h hO hp3 hpk hpp hlt
    by_cases he : i + 1 = st
    · have hez : ((i : Int) + 1 == (st : Int)) = true := by simp; omega
      gi_wp2_with (refine ⟨trivial, ?_⟩; gi_at_call 14; refine (callsIn_wide.2 HS.out).mono ?_; rintro e w3 ⟨rfl, q, rfl⟩)
      exact ⟨O, ⟨by simp [World.setCell], fun x h1 h2 _ => (Below.heap_setCell _ _ _ _ (by have := HVY.out.hX; simp; omega)).trans rfl, fun x hx => .inl hx, fun x hx => absurd hx (HOO.out x)⟩, rfl, HOO.out, he, HVY.out.next q rfl⟩
    · have hez : ((i : Int) + 1 == (st : Int)) = false := by simp; omega
      gi_wp2_with (refine ⟨trivial, ?_⟩; gi_at_call 14; refine (callsIn_wide.2 HS.out).mono ?_; rintro e w3 ⟨rfl, q, rfl⟩)
      exact ⟨O, ⟨by simp [World.setCell], fun x h1 h2 _ => (Below.heap_setCell _ _ _ _ (by have := HVY.out.hX; simp; omega)).trans rfl, fun x hx => .inl hx, fun x hx => absurd hx (HOO.out x)⟩, HOO.out, by omega, HVY.out.next q rfl⟩
  case done =>
    rintro D O Y hD ⟨hO, hst2, h⟩ hn hlt hK
    have k3 := h.b3.cell
    have k4 := h.b4.cell
    have k5 := h.b5.cell
    have k6 := h.b6.cell
    have f6 := h.b6.frozen
    have kn0 := h.bn.cell
    have l6 := h.b6.lt
    have HFIN : Hid (∀ w4, Below Y.heap.size Y w4 → Below w.heap.size w ((w4.setCell ⟨w.heap.size + 3, 0, none⟩ (.bool true)).putObj D (.deferred none)) ∧ ((w4.setCell ⟨w.heap.size + 3, 0, none⟩ (.bool true)).putObj D (.deferred none)).cell? ⟨w.heap.size + 3, 0, none⟩ = some (.bool true) ∧ (w4.setCell ⟨w.heap.size + 3, 0, none⟩ (.bool true)).heap[D]? = some (.deferred (some []))) := Lib.hid fun w4 hb => by
      have hlo := h.lo
      have hX2 := h.hX
      have hlD := (Array.getElem?_eq_some_iff.1 hK).1
      have hb1 : Below w.heap.size w w4 := h.bel.trans (hb.mono h.bel.size)
      have hb2 := Boxed.below h.b6 hb l6
      refine ⟨(hb1.trans (((Chg.refl (fun x => w.heap.size ≤ x) w4).set (.inl (by simp)) _).below (fun _ h => h) hb1.size)).trans (below_putObj (by omega) _ _), (cell_of_block (a := ⟨w.heap.size + 3, 0, none⟩) (World.putObj_heap_other (by simp; omega))).trans (same hb2.cell), (Below.heap_setCell _ _ _ _ (by simp; omega)).trans ((hb.block D hlD).trans hK)⟩
    
    clear h hlt hn hO hK
    by_cases hs0 : st = 0
    · subst hs0
      by_cases hk1 : k < 1
      · have hw := wins_bad (len := l.length) hk1
        rw [hw] at kn0
        gi_wp2_with (refine ⟨trivial, ?_⟩; gi_at_call 8; refine (callsIn_wide.2 (awake_any _)).mono ?_; rintro e w4 ⟨rfl, hb4⟩; have k64 := (hb4.cell (p := ⟨w.heap.size + 3, 0, none⟩) l6).trans k6; have f64 := (frozen_of_block (a := ⟨w.heap.size + 3, 0, none⟩) (hb4.block _ l6)).trans f6)
        have hfin := HFIN.out w4 hb4
        have HF := Lib.hid hfin
        have kf := hfin.2.1
        have hKf := hfin.2.2
        clear hfin hb4 k64 f64
        refine ⟨by simp, .inl ⟨_, _, rfl, run_takeDeferred hKf, ?_⟩⟩
        exact ⟨.bool true, by simp [results, Try.results4, go_sem, kf], rfl, HF.out.1⟩
      · obtain ⟨kn, rfl⟩ : ∃ n : Nat, k = n := ⟨k.toNat, by omega⟩
        have hw := wins_good l.length kn (by omega)
        rw [hw] at kn0
        have kp : (1 : Int) ≤ (kn : Int) := by omega
        by_cases hkl : (kn : Int) ≤ (l.length : Int)
        · have e1 : ((l.length + 1 - kn : Nat) : Int) = (l.length : Int) - (kn : Int) + 1 := by omega
          rw [e1] at kn0
          gi_wp2_with (refine ⟨trivial, ?_⟩; gi_at_call 8; refine (callsIn_wide.2 (awake_any _)).mono ?_; rintro e w4 ⟨rfl, hb4⟩; have k64 := (hb4.cell (p := ⟨w.heap.size + 3, 0, none⟩) l6).trans k6; have f64 := (frozen_of_block (a := ⟨w.heap.size + 3, 0, none⟩) (hb4.block _ l6)).trans f6)
          have hfin := HFIN.out w4 hb4
          have HF := Lib.hid hfin
          have kf := hfin.2.1
          have hKf := hfin.2.2
          clear hfin hb4 k64 f64
          refine ⟨by simp, .inl ⟨_, _, rfl, run_takeDeferred hKf, ?_⟩⟩
          exact ⟨.bool true, by simp [results, Try.results4, go_sem, kf], rfl, HF.out.1⟩
        · have e1 : l.length + 1 - kn = 0 := by omega
          rw [e1] at kn0
          gi_wp2_with (refine ⟨trivial, ?_⟩; gi_at_call 8; refine (callsIn_wide.2 (awake_any _)).mono ?_; rintro e w4 ⟨rfl, hb4⟩; have k64 := (hb4.cell (p := ⟨w.heap.size + 3, 0, none⟩) l6).trans k6; have f64 := (frozen_of_block (a := ⟨w.heap.size + 3, 0, none⟩) (hb4.block _ l6)).trans f6)
          have hfin := HFIN.out w4 hb4
          have HF := Lib.hid hfin
          have kf := hfin.2.1
          have hKf := hfin.2.2
          clear hfin hb4 k64 f64
          refine ⟨by simp, .inl ⟨_, _, rfl, run_takeDeferred hKf, ?_⟩⟩
          exact ⟨.bool true, by simp [results, Try.results4, go_sem, kf], rfl, HF.out.1⟩
    · have s0 : (0 : Int) < (st : Int) := by omega
      have s1 : ¬ (st : Int) = 0 := by omega
      by_cases hk1 : k < 1
      · have hw := wins_bad (len := l.length) hk1
        rw [hw] at kn0
        have m0 : min (0 : Int) (st : Int) = 0 := by omega
        gi_wp2_with (refine ⟨trivial, ?_⟩; gi_at_call 8; refine (callsIn_wide.2 (awake_any _)).mono ?_; rintro e w4 ⟨rfl, hb4⟩; have k64 := (hb4.cell (p := ⟨w.heap.size + 3, 0, none⟩) l6).trans k6; have f64 := (frozen_of_block (a := ⟨w.heap.size + 3, 0, none⟩) (hb4.block _ l6)).trans f6)
        have hfin := HFIN.out w4 hb4
        have HF := Lib.hid hfin
        have kf := hfin.2.1
        have hKf := hfin.2.2
        clear hfin hb4 k64 f64
        refine ⟨by simp, .inl ⟨_, _, rfl, run_takeDeferred hKf, ?_⟩⟩
        exact ⟨.bool true, by simp [results, Try.results4, go_sem, kf], rfl, HF.out.1⟩
      · obtain ⟨kn, rfl⟩ : ∃ n : Nat, k = n := ⟨k.toNat, by omega⟩
        have hw := wins_good l.length kn (by omega)
        rw [hw] at kn0 hst2
        have kp : (1 : Int) ≤ (kn : Int) := by omega
        by_cases hkl : (kn : Int) ≤ (l.length : Int)
        · have e1 : ((l.length + 1 - kn : Nat) : Int) = (l.length : Int) - (kn : Int) + 1 := by omega
          rw [e1] at kn0
          have m0 : min ((l.length : Int) - (kn : Int) + 1) (st : Int) = (l.length : Int) - (kn : Int) + 1 := by omega
          gi_wp2_with (refine ⟨trivial, ?_⟩; gi_at_call 8; refine (callsIn_wide.2 (awake_any _)).mono ?_; rintro e w4 ⟨rfl, hb4⟩; have k64 := (hb4.cell (p := ⟨w.heap.size + 3, 0, none⟩) l6).trans k6; have f64 := (frozen_of_block (a := ⟨w.heap.size + 3, 0, none⟩) (hb4.block _ l6)).trans f6)
          have hfin := HFIN.out w4 hb4
          have HF := Lib.hid hfin
          have kf := hfin.2.1
          have hKf := hfin.2.2
          clear hfin hb4 k64 f64
          refine ⟨by simp, .inl ⟨_, _, rfl, run_takeDeferred hKf, ?_⟩⟩
          exact ⟨.bool true, by simp [results, Try.results4, go_sem, kf], rfl, HF.out.1⟩
        · have e1 : l.length + 1 - kn = 0 := by omega
          rw [e1] at kn0
          have m0 : min (0 : Int) (st : Int) = 0 := by omega
          gi_wp2_with (refine ⟨trivial, ?_⟩; gi_at_call 8; refine (callsIn_wide.2 (awake_any _)).mono ?_; rintro e w4 ⟨rfl, hb4⟩; have k64 := (hb4.cell (p := ⟨w.heap.size + 3, 0, none⟩) l6).trans k6; have f64 := (frozen_of_block (a := ⟨w.heap.size + 3, 0, none⟩) (hb4.block _ l6)).trans f6)
          have hfin := HFIN.out w4 hb4
          have HF := Lib.hid hfin
          have kf := hfin.2.1
          have hKf := hfin.2.2
          clear hfin hb4 k64 f64
          refine ⟨by simp, .inl ⟨_, _, rfl, run_takeDeferred hKf, ?_⟩⟩
          exact ⟨.bool true, by simp [results, Try.results4, go_sem, kf], rfl, HF.out.1⟩
  case stop =>
    rintro D cc O i Y hD hi ⟨rfl, hO, hst2, h⟩ hn hlt hK
    have k3 := h.b3.cell
    have k4 := h.b4.cell
    have k5 := h.b5.cell
    have k6 := h.b6.cell
    have f6 := h.b6.frozen
    have kn0 := h.bn.cell
    have l6 := h.b6.lt
    have HFIN : Hid (∀ w4, Below Y.heap.size Y w4 → Below w.heap.size w ((w4.setCell ⟨w.heap.size + 3, 0, none⟩ (.bool true)).putObj D (.deferred none)) ∧ ((w4.setCell ⟨w.heap.size + 3, 0, none⟩ (.bool true)).putObj D (.deferred none)).cell? ⟨w.heap.size + 3, 0, none⟩ = some (.bool true) ∧ (w4.setCell ⟨w.heap.size + 3, 0, none⟩ (.bool true)).heap[D]? = some (.deferred (some []))) := Lib.hid fun w4 hb => by
      have hlo := h.lo
      have hX2 := h.hX
      have hlD := (Array.getElem?_eq_some_iff.1 hK).1
      have hb1 : Below w.heap.size w w4 := h.bel.trans (hb.mono h.bel.size)
      have hb2 := Boxed.below h.b6 hb l6
      refine ⟨(hb1.trans (((Chg.refl (fun x => w.heap.size ≤ x) w4).set (.inl (by simp)) _).below (fun _ h => h) hb1.size)).trans (below_putObj (by omega) _ _), (cell_of_block (a := ⟨w.heap.size + 3, 0, none⟩) (World.putObj_heap_other (by simp; omega))).trans (same hb2.cell), (Below.heap_setCell _ _ _ _ (by simp; omega)).trans ((hb.block D hlD).trans hK)⟩
    
    clear h hlt hn hO hK
    have s0 : (0 : Int) < (st : Int) := by omega
    have s1 : ¬ (st : Int) = 0 := by omega
    have hk1 : 1 ≤ k := by
      rcases Int.lt_or_le k 1 with h | h
      · rw [wins_bad h] at hi; omega
      · exact h
    obtain ⟨kn, rfl⟩ : ∃ n : Nat, k = n := ⟨k.toNat, by omega⟩
    have hw := wins_good l.length kn (by omega)
    rw [hw] at hi
    rw [hst2] at kn0
    have kp : (1 : Int) ≤ (kn : Int) := by omega
    have hkl : (kn : Int) ≤ (l.length : Int) := by omega
    have m0 : min ((l.length : Int) - (kn : Int) + 1) (st : Int) = (st : Int) := by omega
    gi_wp2_with (refine ⟨trivial, ?_⟩; gi_at_call 8; refine (callsIn_wide.2 (awake_any _)).mono ?_; rintro e w4 ⟨rfl, hb4⟩; have k64 := (hb4.cell (p := ⟨w.heap.size + 3, 0, none⟩) l6).trans k6; have f64 := (frozen_of_block (a := ⟨w.heap.size + 3, 0, none⟩) (hb4.block _ l6)).trans f6)
    have hfin := HFIN.out w4 hb4
    have HF := Lib.hid hfin
    have kf := hfin.2.1
    have hKf := hfin.2.2
    clear hfin hb4 k64 f64
    refine ⟨by simp, .inl ⟨_, _, rfl, run_takeDeferred hKf, ?_⟩⟩
    exact ⟨.bool true, by simp [results, Try.results4, go_sem, kf], rfl, HF.out.1⟩
theorem windows_law (p : Option Addr) (l : List Int) (cap : Nat) (k : Int) (st : Nat) (hst : st < 256) (hkm : k ≤ 9223372036854775807) (w : World) (hrd : Rd0 w p l) (hcap : l.length ≤ cap ∧ cap ≤ maxLen) (hp : p = none → cap = 0) :
    Calls Try.prog 4 #[.slice p l.length cap, .int .i64 k, .int .u8 st] w fun e w' => e = .returned (.bool true) ∧ Below w.heap.size w w' := by
  by_cases h : 60 < l.length
  · exact windows_big p l.length cap k st w h
  · exact windows_walk p l cap k st hst hkm w hrd hcap hp (by omega)
end Go.Proofs.Ythofknjdmfpbeaa.Fa
