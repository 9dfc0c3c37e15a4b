/-
  addr.Slots, for every config, class and block.
-/
import Derived.Test.YtgmakcoodgpjlaaDoorAddrB
import Derived.Test.YtgmakcoodgpjlaaDoorClassS
import Derived.Test.YtgmakcoodgpjlaaDoorAddrK
import Derived.Test.YtgmakcoodgpjlaaDoorRound
import Derived.Maps.OwnIn
namespace Go.Proofs.YtgmakcoodgpjlaaDoor.Addr
open Go.RowKit Go.Shelf
open Class (SizTab isB sizI perI isB_true isB_false sizI_bd perI_yes perI_noC perI_noW per_bd wordsB wordsB_true per_any starts_any starts_stopsB encB clip KpF kpF_t kpF_b boxed_keep siz_bd0)
attribute [local go_sem] Oper.semAt_some wide_fn

set_option maxHeartbeats 1000000 in
theorem slots_no (b wd m r ce lg st k block : Int) (w : World) (ht : Tabs w) (hs : sltB (rightB b wd m r ce lg st) b wd k block 0 = false) :
    Calls Tryd.prog 26 #[.agg #[.int .i64 b, .int .i64 wd, .int .i64 m, .int .i64 r, .int .i64 ce, .int .i64 lg, .int .i64 st], .int .i64 k, .int .i64 block] w
      fun e w' => e = .returned (.slice none 0 0) ∧ Below w.heap.size w w' := by
  have HT := Lib.hid ht
  have HSL := Lib.hid (slotI_no hs)
  clear ht hs
  go_enter Tryd.func26, Tryd.ntmps26
  go_wp2_with (go_at_call 23; refine (slot_any _ _ _ _ _ _ _ _ _ _ _ (HT.out.alloc _)).mono ?_; rintro e w1 ⟨rfl, hb⟩; rw [HSL.out])
  go_ret
  exact ⟨rfl, (((Below.refl _ _).alloc (Nat.le_refl _) _).trans (hb.mono (by simp))).alloc (by have := hb.size; simp at this; omega) _⟩

theorem infoInt : (Tryd.prog.info? 3).map (fun i => (i.zero, i.size, i.bytes)) = some (some (.int .i64 0), 1, 8) := by kernel_rfl
theorem info_parts {P : Program} {t : TypeId} {z : Value} {a c : Nat} (h : (P.info? t).map (fun i => (i.zero, i.size, i.bytes)) = some (some z, a, c)) : ∃ i, P.info? t = some i ∧ i.zero = some z ∧ i.size = a ∧ i.bytes = c := by
  obtain ⟨i, hi, h2⟩ := Option.map_eq_some_iff.1 h
  simp only [Prod.mk.injEq] at h2
  exact ⟨i, hi, h2.1, h2.2.1, h2.2.2⟩

theorem boxed_new {W : World} {B : Nat} {t : TypeId} {v : Value} (h : B = W.heap.size) : Boxed (W.alloc (.cells #[v] t)) B t v := by rw [h]; exact Boxed.new W t v
theorem owns_base {w : World} {b b' : Nat} {e : TypeId} {size k : Nat} {v : Value} {xs : List Value} (hb : b' ≤ b) (h : w.ownsRow b e size v k xs) : w.ownsRow b' e size v k xs :=
  ⟨h.1, h.2.imp id fun ⟨g, c, cur, e1, e2, r⟩ => ⟨g, c, cur, e1, Nat.le_trans hb e2, r⟩⟩
/-- Where the row lies: where it was made, or behind all boxes. -/
def RowAt (S : Nat) (pre : List Nat) (v : Value) : Prop := ∃ g c, v = .slice (some ⟨g, 0, none⟩) pre.length c ∧ (g = S + 1 ∨ S + 5 ≤ g)

/-- Addresses of slots, as cells. -/
def cellsS (s z : Int) (l : List Nat) : List Value := l.map fun n => .int .i64 (s + ((clip n : Nat) : Int) * z)
theorem cellsS_snoc (s z : Int) (l : List Nat) (x : Nat) : cellsS s z (l ++ [x]) = cellsS s z l ++ [.int .i64 (s + ((clip x : Nat) : Int) * z)] := by simp [cellsS]

set_option maxRecDepth 100000 in
set_option maxHeartbeats 8000000 in
theorem slots_yes (b wd m r ce lg st k block s : Int) (N : Nat) (w : World) (ht : Tabs w) (hs : slotI (rightB b wd m r ce lg st) b wd k block 0 = s) (s0 : 1 ≤ s) (s1 : s ≤ 1048833) (hN : perI wd k = (N : Int)) (hp : 1 ≤ N) :
    Calls Tryd.prog 26 #[.agg #[.int .i64 b, .int .i64 wd, .int .i64 m, .int .i64 r, .int .i64 ce, .int .i64 lg, .int .i64 st], .int .i64 k, .int .i64 block] w
      fun e w' => ∃ v, e = .returned v ∧ w'.ownsRow w.heap.size 3 1 v N (cellsS s (sizI k) (List.range N)) ∧ Below w.heap.size w w' := by
  obtain ⟨i0, hinf, hz0, hz1, hz2⟩ := info_parts infoInt
  have hN128 : (N : Int) ≤ 128 := by rw [← hN]; exact (per_bd wd k).2
  have hmk := fun W : World => run_make (P := Tryd.prog) (w := W) 43 3 i0 (.int .i64 0) Tryd.underlying43 hinf hz0 .i64 .i64 0 (N : Int) (by omega) (by omega) (by rw [hz2]; omega) (by omega)
  rw [hz1] at hmk
  have HT := Lib.hid ht
  have HSL := Lib.hid hs
  have HN := Lib.hid hN
  have hblk := ht.siz.blk
  have hsz0 : (s == 0) = false := by simp; omega
  clear ht hs hN
  refine (callsIn_wide (n := 5)).1 ?_
  refine callsIn_of_wp_marks Tryd.func26 rfl trivial ?_ rfl
  simp only [Tryd.ntmps26, List.size_toArray, List.length_cons, List.length_nil, Nat.reduceAdd, Nat.reduceSub, Array.replicate_succ, Array.replicate_zero, List.push_toArray, List.append_toArray, List.nil_append, List.cons_append]
  gi_wp2_with fail
  refine (callsIn_wide.2 (slot_any _ _ _ _ _ _ _ _ _ _ _ (HT.out.alloc _))).mono ?_
  rintro e w1 ⟨rfl, hb1⟩
  rw [HSL.out]
  obtain ⟨hc1, hf1⟩ := bcell hb1
  have z1 : w.heap.size < w1.heap.size := by have := hb1.size; simp at this; omega
  have z1a : w.heap.size < w1.heap.size + 1 := by omega
  have z1b : w.heap.size < w1.heap.size + 1 + 1 := by omega
  have HT1 := Lib.hid ((HT.out.alloc _).later hb1)
  have HB1 := Lib.hid (((Below.refl _ w).alloc (Nat.le_refl _) _).trans (hb1.mono (by simp)))
  clear hb1
  gi_wp2_with (first
    | (gi_at_call 18; refine (callsIn_wide.2 (per_any _ _ _ (by repeat (first | exact HT1.out.siz | apply SizTab.alloc)))).mono ?_; rintro e w' ⟨rfl, rfl⟩; rw [HN.out])
    | (gi_at_call 20; refine (callsIn_wide.2 (starts_any _ _ _)).mono ?_; rintro e w' ⟨rfl, rfl⟩))
  clear hc1 hf1 hmk
  generalize hW : World.alloc _ _ = W0
  have c0 : Boxed W0 w1.heap.size 3 (.int .i64 s) := by rw [← hW]; repeat (first | (refine boxed_new ?_; simp; done) | refine Boxed.alloc ?_ _)
  have c2 : Boxed W0 (w1.heap.size + 1 + 1) 43 (.slice (some ⟨w1.heap.size + 1, 0, none⟩) 0 N) := by rw [← hW]; repeat (first | (refine boxed_new ?_; simp; done) | refine Boxed.alloc ?_ _)
  have c3 : Boxed W0 (w1.heap.size + 1 + 1 + 1) 3 (.int .i64 wd) := by rw [← hW]; repeat (first | (refine boxed_new ?_; simp; done) | refine Boxed.alloc ?_ _)
  have c4 : Boxed W0 (w1.heap.size + 1 + 1 + 1 + 1) 3 (.int .i64 k) := by rw [← hW]; repeat (first | (refine boxed_new ?_; simp; done) | refine Boxed.alloc ?_ _)
  have hrow : W0.ownsRow (w1.heap.size + 1) 3 1 (.slice (some ⟨w1.heap.size + 1, 0, none⟩) 0 N) 0 [] := by
    rw [← hW]
    have h := World.ownsRow_made (w1.alloc (.cells #[.int .i64 s] 3)) (base := w1.heap.size + 1) (e := 3) (size := 1) (madeCells #[.int .i64 0] N) N (by simp) (by unfold maxLen; omega) (by simp [madeCells])
    simp only [World.size_alloc] at h
    exact ((h.alloc _).alloc _).alloc _
  have hs0 : W0.heap.size = w1.heap.size + 5 := by rw [← hW]; simp
  have hsz : w1.heap.size ≤ W0.heap.size := by omega
  have hBl : Below w1.heap.size w1 W0 := by
    rw [← hW]
    exact (((((Below.refl _ w1).alloc (Nat.le_refl _) _).alloc (by simp) _).alloc (by simp; omega) _).alloc (by simp; omega) _).alloc (by simp; omega) _
  have hB0 : Below w.heap.size w W0 := HB1.out.trans (hBl.mono HB1.out.size)
  clear hW
  have HROW := Lib.hid hrow
  have HS0 := Lib.hid hs0
  have HBL := Lib.hid hBl
  clear hrow hs0 hBl
  refine wpIn_rangeFunc_ownG rfl (by decide) (gf := 31) (lb := #[.pointer (some ⟨w1.heap.size + 1 + 1 + 1, 0, none⟩), .pointer (some ⟨w1.heap.size + 1 + 1 + 1 + 1, 0, none⟩)]) rfl trivial (enters_of Tryd.func31 (by kernel_rfl) rfl)
    (starts_stopsB 4 (by decide) (w1.heap.size + 1 + 1 + 1) (w1.heap.size + 1 + 1 + 1 + 1) w1.heap.size wd k (Nat.lt_of_lt_of_le hblk HB1.out.size) N HN.out W0 c3.cell c4.cell c3.lt c4.lt (HT1.out.siz.below HBL.out (Nat.lt_of_lt_of_le hblk HB1.out.size))) kpF_t (kpF_b hsz) (Below.refl _ _) (fun _ => rfl)
    (fun pre W => (∃ v, Boxed W (w1.heap.size + 1 + 1) 43 v ∧ W.ownsRow (w1.heap.size + 1) 3 1 v pre.length (cellsS s (sizI k) pre) ∧ RowAt w1.heap.size pre v) ∧ Boxed W w1.heap.size 3 (.int .i64 s) ∧ Below w.heap.size w W ∧ W0.heap.size ≤ W.heap.size)
    (fun _ _ _ => False) ?hI (fun _ _ _ _ _ h => h.elim) ?h0
    (fun x => { tmps := #[(.agg #[.int .i64 b, .int .i64 wd, .int .i64 m, .int .i64 r, .int .i64 ce, .int .i64 lg, .int .i64 st]), .int .i64 k, .int .i64 block, .pointer (some ⟨w.heap.size, 0, none⟩), undef, undef, .slice none 0 0, .pointer (some ⟨w1.heap.size, 0, none⟩), .pointer (some ⟨w1.heap.size + 1 + 1, 0, none⟩), undef, .int .i64 (((clip x : Nat) : Int) * sizI k), (.agg #[.int .i64 b, .int .i64 wd, .int .i64 m, .int .i64 r, .int .i64 ce, .int .i64 lg, .int .i64 st]), .int .i64 k, .int .i64 block, .int .i64 s, .int .i64 s, .bool false, .pointer (some ⟨w.heap.size, 1, none⟩), .int .i64 wd, .int .i64 k, .int .i64 N, .slice (some ⟨w1.heap.size + 1, 0, none⟩) 0 N, .pointer (some ⟨w.heap.size, 1, none⟩), .int .i64 wd, .int .i64 k, (.func (.func 31) #[] #[.pointer (some ⟨w1.heap.size + 1 + 1 + 1, 0, none⟩), .pointer (some ⟨w1.heap.size + 1 + 1 + 1 + 1, 0, none⟩)]), .int .i64 ((clip x : Nat) : Int), .int .i64 (((clip x : Nat) : Int) * sizI k), undef, undef, undef, undef, undef, undef, undef], defers := [] }) ?assign ?body ?done (fun _ _ _ _ _ _ h => h.elim)
  case hI =>
    intro pre X Y row hx hg hr
    have h := holdsRow_own (w1.heap.size + 1) (w1.heap.size + 1 + 1) 43 3 1 (fun pre : List Nat => pre.length) (cellsS s (sizI k)) (RowAt w1.heap.size) pre X Y row hx.1 hg (fun r e => (hr r e).2)
    exact ⟨h, boxed_keep hx.2.1 hg (fun r e => (hr r e).2), hx.2.2.1.grown hg hx.2.2.1.size (fun k e => Nat.le_trans (Nat.le_trans HB1.out.size hsz) (hr k e).1), Nat.le_trans hx.2.2.2 hg.size⟩
  case h0 => exact ⟨⟨_, c2, HROW.out, ⟨w1.heap.size + 1, N, rfl, .inl rfl⟩⟩, c0, hB0, Nat.le_refl _⟩
  case assign =>
    intro l x W K hK
    unfold encB
    gi_wp2
    exact hK
  case body =>
    rintro l pre x W ⟨⟨v, b5, hown, ⟨g, cap, rfl, hg⟩⟩, b0, hB, hW0⟩ hlt
    obtain ⟨m0, m1⟩ := Class.mul_bdB k x
    have k0 := b0.cell
    have k5 := b5.cell
    have f5 := b5.frozen
    have HB := Lib.hid hB
    have HO := Lib.hid hown
    have hbase : w1.heap.size + 1 ≤ (W.alloc (.cells #[.int .i64 (s + ((clip x : Nat) : Int) * sizI k)] 3)).heap.size := by have := HS0.out; simp; omega
    have HBA := Lib.hid hbase
    have HG := Lib.hid hg
    have hlt2 : pre.length < 128 := by omega
    have hw0 : w1.heap.size + 5 ≤ W.heap.size := by have := HS0.out; omega
    clear hB hown hbase hg hlt
    gi_wp2_with (gi_at_builtin; refine wpListIn_append_own_at _ rfl (.tmp 28) (.tmp 32) 43 rfl (w1.heap.size + 1) 3 i0 (.int .i64 0) 1 8 Tryd.underlying43 hinf hz0 hz1 hz2 rfl (by decide) _ _ _ rfl (HO.out.alloc _) ⟨W.heap.size, 0, none⟩ 1 1 [.int .i64 (s + ((clip x : Nat) : Int) * sizI k)] rfl rfl ?c1 (by simp [Value.oneCell']) (by unfold maxLen; omega) (by omega) HBA.out ?c2)
    case c1 =>
      intro j u hj
      cases j with
      | zero =>
        obtain rfl := Option.some.inj hj
        exact (Boxed.new W _ _).cell
      | succ j => simp at hj
    intro v' w3 hown' hgrow hnil hwhere
    obtain ⟨g', cap', rfl⟩ := ownsRow_succ hown'
    have hg' : g' = w1.heap.size + 1 ∨ w1.heap.size + 5 ≤ g' := by
      simp only [Value.ownBlock, Option.some.injEq] at hwhere
      rcases hwhere with h | h
      · rw [h]; exact HG.out
      · right; rw [h]; simp; omega
    obtain ⟨p1, p2, p3, p4, p5⟩ := b5.appended (n₀ := w1.heap.size + 1) (by decide) HO.out (by omega) (by omega) hown' hgrow
    have hkp : KpF w1.heap.size (w1.heap.size + 1 + 1 + 1 + 1) W (w3.setCell ⟨w1.heap.size + 1 + 1, 0, none⟩ (.slice (some ⟨g', 0, none⟩) (pre.length + 1) cap')) := by
      refine ⟨p5.mono (by omega), fun u hu => ?_⟩
      have e1 : (w3.setCell ⟨w1.heap.size + 1 + 1, 0, none⟩ (.slice (some ⟨g', 0, none⟩) (pre.length + 1) cap')).heap[w1.heap.size + 1 + 1 + 1 + 1]? = w3.heap[w1.heap.size + 1 + 1 + 1 + 1]? := Below.heap_setCell _ _ _ _ (by simp; omega)
      have e2 := hgrow.block (w1.heap.size + 1 + 1 + 1 + 1) (by simp; omega) (fun e => by
        simp only [Value.ownBlock, Option.some.injEq] at e
        have := HG.out
        omega)
      have e3 := e1.trans (e2.trans (Below.heap_alloc W (.cells #[.int .i64 (s + ((clip x : Nat) : Int) * sizI k)] 3) (w1.heap.size + 1 + 1 + 1 + 1) (by omega)))
      exact (World.cell?_of_block (a := ⟨w1.heap.size + 1 + 1 + 1 + 1, 0, none⟩) e3).trans hu
    have hfin : ownPostG W0.heap.size (KpF w1.heap.size (w1.heap.size + 1 + 1 + 1 + 1))
        (fun pre W => (∃ v, Boxed W (w1.heap.size + 1 + 1) 43 v ∧ W.ownsRow (w1.heap.size + 1) 3 1 v pre.length (cellsS s (sizI k) pre) ∧ RowAt w1.heap.size pre v) ∧ Boxed W w1.heap.size 3 (.int .i64 s) ∧ Below w.heap.size w W ∧ W0.heap.size ≤ W.heap.size)
        (fun _ _ _ => False) (pre ++ [x]) W .normal { tmps := #[], defers := [] } (w3.setCell ⟨w1.heap.size + 1 + 1, 0, none⟩ (.slice (some ⟨g', 0, none⟩) (pre.length + 1) cap')) := by
      refine ⟨p4.from _, hkp, ⟨_, p2, ?_, ⟨g', cap', by simp, hg'⟩⟩, (p5.block w1.heap.size (by omega)).trans b0, HB.out.trans (p5.mono (by have := HB1.out.size; omega)), Nat.le_trans hW0 p5.size⟩
      rw [List.length_append, cellsS_snoc]; exact p3
    have HF := Lib.hid hfin
    have k51 := p1.cell
    have f51 := p1.frozen
    clear hown' hgrow hnil hwhere p1 p2 p3 p4 p5 hkp hfin hg'
    gi_wp2
    exact HF.out
  case done =>
    rintro D ys W hD rfl ⟨⟨v, b5, hown, ⟨g, cap, rfl, hg⟩⟩, b0, hB, hW0⟩ hK
    rw [List.length_range] at hown
    have hfin : (W.putObj D (.deferred none)).ownsRow w.heap.size 3 1 (.slice (some ⟨g, 0, none⟩) N cap) N (cellsS s (sizI k) (List.range N)) := by
      exact owns_base (by have := HB1.out.size; omega) (ownsRow_putObj hown (.deferred none) hK rfl)
    have HF := Lib.hid hfin
    have hbl := Lib.hid (hB.trans (belowK_b (w := w) (Nat.le_refl _) W D _ (.deferred none) (by have := HB1.out.size; omega) hK rfl rfl))
    have k5 := b5.cell
    rw [List.length_range] at k5
    clear hown hfin hB
    gi_wp2
    refine ⟨by simp, .inl ⟨_, _, rfl, run_takeDeferred hK, ?_⟩⟩
    refine ⟨_, results_tmp rfl _ _ _, _, rfl, ?_, hbl.out⟩
    exact HF.out
end Go.Proofs.YtgmakcoodgpjlaaDoor.Addr
