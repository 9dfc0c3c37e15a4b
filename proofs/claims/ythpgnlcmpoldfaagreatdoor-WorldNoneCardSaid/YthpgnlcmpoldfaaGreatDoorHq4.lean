/-
  Texts of the heap, one behind the other: HpP HpQ HpT HpU HpV HpW.
-/
import Derived.Test.YthpgnlcmpoldfaaGreatDoorHq3
import Derived.Test.YthpgnlcmpoldfaaGreatDoorHq2
namespace Go.Proofs.YthpgnlcmpoldfaaGreatDoor.Hp
open Go.RowKit Go.Shelf
open Class (isB isB_true isB_false is_any sizI sizI_bd roomI SizTab below_drewN)
open Blk (Cfg TbIs TbAt allP valA all_fn all1_told cellsF collect_any kAt)
open Go.Proofs.YthpgnlcmpoldfaaGreatDoor.Row (Chg)
open Go.Proofs.YthpgnlcmpoldfaaGreatDoor.Addr (Tabs)
attribute [local go_sem] Oper.semAt_some

/-- A function that tells of each address whether something holds. -/
def holdsF (f : Nat) (v : Value) : Value := .func (.func f) #[v] #[]
theorem slots_fn (q : Option Addr) (f : Nat) (w : World) : Calls Tryz.prog 67 #[.pointer q, holdsF f (.pointer q)] w fun e w' => e = .returned (.func (.func 91) #[] #[.pointer (some ⟨w.heap.size, 0, none⟩), .pointer (some ⟨w.heap.size + 1, 0, none⟩)]) ∧
    (w.alloc (.cells #[.pointer q] 48)).alloc (.cells #[holdsF f (.pointer q)] 115) = w' := by
  unfold holdsF
  go_enter Tryz.func67, Tryz.ntmps67
  go_wp2
  go_ret
  exact ⟨rfl, rfl⟩
set_option maxRecDepth 100000 in
set_option maxHeartbeats 1000000 in
theorem slots1_nil (m Bh Bf : Nat) (T : World → Prop) (w : World) (hB : w.cell? ⟨Bh, 0, none⟩ = some (.pointer none)) :
    SeqTold Fence.wide m Tryz.prog 91 #[.pointer (some ⟨Bh, 0, none⟩), .pointer (some ⟨Bf, 0, none⟩)] 0 (fun _ => #[.int .i64 0]) T w := by
  refine SeqTold.any (n := 5) ?_
  intro l J Jx W hW hJ _ _ _ h0
  obtain ⟨O0, hj0, hO0⟩ := h0
  have cB : W.cell? ⟨Bh, 0, none⟩ = some (.pointer none) := (hW.cell (p := ⟨Bh, 0, none⟩) (World.block_lt_of_cell? w _ hB)).trans hB
  have lB := World.block_lt_of_cell? W _ cB
  simp only at lB
  have HJ := Lib.hid (hJ.alloc hj0 hO0 (Nat.le_refl _) ((Below.refl _ _).alloc (Nat.le_refl _) (.cells #[.func (.yield l) #[] #[]] 115)))
  have HO := Lib.hid hO0
  clear hj0 hO0 hJ hW
  refine callsIn_of_wp_marks Tryz.func91 rfl trivial ?_ rfl
  simp only [Tryz.ntmps91, List.size_toArray, List.length_cons, List.length_nil, Nat.reduceAdd, Nat.reduceSub, Array.replicate_succ, Array.replicate_zero, List.push_toArray, List.append_toArray, List.nil_append, List.cons_append]
  gi_wp2
  exact ⟨_, results_none rfl _ _ _, ⟨_, rfl⟩, O0, fun k hk => by have := HO.out k hk; simp; omega, by simp, HJ.out⟩
theorem none_nil (f : Nat) (w : World) : Calls Tryz.prog 66 #[.func (.func 91) #[] #[.pointer (some ⟨w.heap.size, 0, none⟩), .pointer (some ⟨w.heap.size + 1, 0, none⟩)]] ((w.alloc (.cells #[.pointer none] 48)).alloc (.cells #[holdsF f (.pointer none)] 115)) fun e w' => ∃ p cap, e = .returned (.slice p 0 cap) ∧ Below w.heap.size w w' := by
  have hb := two_new (w := w) (.pointer none) (holdsF f (.pointer none)) 48 115
  refine (collect_any 91 #[.pointer (some ⟨w.heap.size, 0, none⟩), .pointer (some ⟨w.heap.size + 1, 0, none⟩)] 0 (fun _ => 0) (fun _ => True) _ (by decide) (enters_of Tryz.func91 (by kernel_rfl) rfl)
    (slots1_nil 4 w.heap.size (w.heap.size + 1) (fun _ => True) _ (by simp)) (fun _ _ => trivial)).mono ?_
  rintro e w' ⟨p, cap, rfl, _, hb2⟩
  exact ⟨p, cap, rfl, hb.trans (hb2.mono hb.size)⟩
theorem objects_nil (w : World) : Calls Tryz.prog 23 #[.pointer none] w fun e w' => ∃ p cap, e = .returned (.slice p 0 cap) ∧ Below w.heap.size w w' := by
  have HS := Lib.hid (slots_fn none 68 w)
  have HC := Lib.hid (none_nil 68 w)
  unfold holdsF at HS HC
  go_enter Tryz.func23, Tryz.ntmps23
  go_wp2_with (first
    | (go_at_call 67; refine HS.out.mono ?_; rintro e w1 ⟨rfl, rfl⟩)
    | (go_at_call 66; refine HC.out.mono ?_; rintro e w1 ⟨p, cap, rfl, hb⟩))
  go_ret
  exact ⟨p, cap, rfl, hb⟩

/-- The slots for which something holds, up to the j-th one. -/
def pk (s : St) (P : Int → Bool) (j : Nat) : List Int := ((List.range j).map (valA s.c s.ks)).filter P
theorem pk_succ (s : St) (P : Int → Bool) (j : Nat) : pk s P (j + 1) = pk s P j ++ (if P (valA s.c s.ks j) = true then [valA s.c s.ks j] else []) := by
  unfold pk
  rw [List.range_succ, List.map_append, List.filter_append]
  congr 1
  simp only [List.map_cons, List.map_nil]
  cases h : P (valA s.c s.ks j) <;> simp [h]
def nSl (s : St) : Nat := (allP s.c s.ks s.ks.length).length
/-- All of them. -/
def pkA (s : St) (P : Int → Bool) : List Int := pk s P (nSl s)
theorem pk_prefix (s : St) (P : Int → Bool) {i j : Nat} (h : i ≤ j) : pk s P i <+: pk s P j := by
  obtain ⟨k, rfl⟩ : ∃ k, j = i + k := ⟨j - i, by omega⟩
  induction k with
  | zero => exact List.prefix_rfl
  | succ k ih => exact (ih (by omega)).trans (by rw [← Nat.add_assoc, pk_succ]; exact List.prefix_append _ _)
theorem pk_at (s : St) (P : Int → Bool) {j : Nat} (hj : j < nSl s) (hP : P (valA s.c s.ks j) = true) : (pk s P j).length < (pkA s P).length ∧ (pkA s P).getD (pk s P j).length 0 = valA s.c s.ks j ∧ (pk s P (j + 1)).length = (pk s P j).length + 1 := by
  have h1 := pk_succ s P j
  rw [if_pos hP] at h1
  obtain ⟨t, ht⟩ := pk_prefix s P (show j + 1 ≤ nSl s from hj)
  have h2 : pkA s P = (pk s P j ++ [valA s.c s.ks j]) ++ t := by rw [← h1]; exact ht.symm
  refine ⟨by rw [h2]; simp, ?_, by rw [h1]; simp⟩
  rw [h2, List.append_assoc, List.getD_eq_getElem?_getD, List.getElem?_append_right (Nat.le_refl _), Nat.sub_self]
  rfl
theorem pk_no (s : St) (P : Int → Bool) {j : Nat} (hP : P (valA s.c s.ks j) = false) : pk s P (j + 1) = pk s P j := by
  rw [pk_succ, hP]; simp

set_option maxRecDepth 100000 in
set_option maxHeartbeats 4000000 in
theorem slots1_told {H : Nat} {d : Ids} {s : St} {mm : Nat} (m Bh Bf f : Nat) (P : Int → Bool) (w0 w : World) (h : Is w0 H d s mm) (ht : Tabs w0) (hBh : w0.cell? ⟨Bh, 0, none⟩ = some (.pointer (some ⟨H, 0, none⟩))) (hBf : w0.cell? ⟨Bf, 0, none⟩ = some (holdsF f (.pointer (some ⟨H, 0, none⟩))))
    (hf : ∀ (a : Int) (W : World), Below w0.heap.size w0 W → Calls Tryz.prog f #[.pointer (some ⟨H, 0, none⟩), .int .i64 a] W fun e w' => e = .returned (.bool (P a)) ∧ ∃ q, w' = W.drewN q) (eg : ∀ args w, (callFunc f args).run Tryz.prog w = .ok (.enter f args) w) :
    SeqTold Fence.wide m Tryz.prog 91 #[.pointer (some ⟨Bh, 0, none⟩), .pointer (some ⟨Bf, 0, none⟩)] (pkA s P).length (fun i => #[.int .i64 ((pkA s P).getD i 0)]) (fun W => Below w0.heap.size w0 W) w := by
  refine SeqTold.any (n := 8) ?_
  intro l J Jx W hW hJ hJx hT hY h0
  obtain ⟨O0, hj0, hO0⟩ := h0
  have hTW := hT _ _ _ hj0
  have cBh : W.cell? ⟨Bh, 0, none⟩ = some (.pointer (some ⟨H, 0, none⟩)) := (hTW.cell (p := ⟨Bh, 0, none⟩) (World.block_lt_of_cell? w0 _ hBh)).trans hBh
  have lBh := World.block_lt_of_cell? w0 _ hBh
  have lBf := World.block_lt_of_cell? w0 _ hBf
  simp only at lBh lBf
  have hW0 := hTW.size
  have hHl := h.ltH
  have hBhW : Bh < W.heap.size := by omega
  have hHW : H < W.heap.size := by omega
  have HI := Lib.hid (fun (Y : World) (hb : Below w0.heap.size w0 Y) => h.later hb)
  have HTab := Lib.hid (fun (Y : World) (hb : Below w0.heap.size w0 Y) => ht.later hb)
  have HBh := Lib.hid (fun (Y : World) (hb : Below w0.heap.size w0 Y) => (hb.cell (p := ⟨Bh, 0, none⟩) lBh).trans hBh)
  have HBf := Lib.hid (fun (Y : World) (hb : Below w0.heap.size w0 Y) => (hb.cell (p := ⟨Bf, 0, none⟩) lBf).trans hBf)
  have HF := Lib.hid hf
  have HJ := Lib.hid hJ
  have HJX := Lib.hid hJx
  have HTT := Lib.hid hT
  have HY := Lib.hid hY
  have HO := Lib.hid hO0
  have HJ0 := Lib.hid hj0
  have hcT := (h.later hTW).cT
  clear h ht hBh hBf hW hJ hJx hT hY hO0 hj0 hf hTW
  refine callsIn_of_wp_marks Tryz.func91 rfl trivial ?_ rfl
  simp only [Tryz.ntmps91, List.size_toArray, List.length_cons, List.length_nil, Nat.reduceAdd, Nat.reduceSub, Array.replicate_succ, Array.replicate_zero, List.push_toArray, List.append_toArray, List.nil_append, List.cons_append]
  gi_wp2_with (refine ⟨trivial, ?_⟩; gi_at_call 92; refine (callsIn_wide.2 (all_fn _ _)).mono ?_; rintro e w'' ⟨rfl, rfl⟩)
  generalize hX : World.alloc _ _ = X
  have bX : Below W.heap.size W X := by rw [← hX]; exact two_new _ _ _ _
  have hsX : X.heap.size = W.heap.size + 2 := by rw [← hX]; simp
  have xY : Boxed X W.heap.size 115 (.func (.yield l) #[] #[]) := by rw [← hX]; exact (Boxed.new _ _ _).alloc _
  have xT : Boxed X (W.heap.size + 1) 138 (.pointer (some ⟨d.T, 0, none⟩)) := by rw [← hX]; exact boxed_new (by simp)
  have hbd : Below w0.heap.size w0 X := by
    have := HTT.out _ _ _ HJ0.out
    exact this.trans (bX.mono hW0)
  have HB0 := Lib.hid hbd
  clear hX hbd hcT
  refine wpIn_rangeFunc_told rfl (by decide) (gf := 115) (lb := #[.pointer (some ⟨W.heap.size + 1, 0, none⟩)]) rfl trivial (enters_of Tryz.func115 (by kernel_rfl) rfl)
    (N := nSl s) (all1_told 7 (W.heap.size + 1) d.T d.baseT d.capT s.c s.ks d.pt X (HI.out X HB0.out).wf.right (HI.out X HB0.out).wf.full) (Below.refl _ _) (fun _ => rfl)
    (fun O i Y => J O (pk s P i).length Y ∧ X.heap.size ≤ Y.heap.size ∧ Boxed Y W.heap.size 115 (.func (.yield l) #[] #[]) ∧ Boxed Y (W.heap.size + 1) 138 (.pointer (some ⟨d.T, 0, none⟩)) ∧ ∀ k, O k → k < W.heap.size ∨ X.heap.size ≤ k)
    (fun cc O i Y => cc = .ret ∧ ∃ q, q < (pkA s P).length ∧ Jx O (q + 1) Y ∧ W.heap.size ≤ Y.heap.size)
    ?hI ?hIx ?hT ?h0
    (fun i => { tmps := #[.func (.yield l) #[] #[], .pointer (some ⟨Bh, 0, none⟩), .pointer (some ⟨Bf, 0, none⟩), .pointer (some ⟨W.heap.size, 0, none⟩), .int .i64 (valA s.c s.ks i), .pointer (some ⟨H, 0, none⟩), .bool false, .pointer (some ⟨H, 0, none⟩), .pointer (some ⟨H, 0, none⟩), .pointer (some ⟨H, 1, none⟩), .pointer (some ⟨d.T, 0, none⟩), .func (.func 115) #[] #[.pointer (some ⟨W.heap.size + 1, 0, none⟩)], .int .i64 (valA s.c s.ks i), undef, undef, undef, undef, undef, undef, undef, undef, undef], defers := [] }) ?assign ?body ?done ?stop
  case hI =>
    rintro O i X' Y ⟨h1, h2, h3, h4, h5⟩ hb hk
    exact ⟨HJ.out O _ X' Y h1 (hb.mono (by omega)) hk, Nat.le_trans h2 hb.size, Boxed.below h3 hb (by omega), Boxed.below h4 hb (by omega), h5⟩
  case hIx =>
    rintro cc O i X' Y ⟨h1, q, hq, h2, h3⟩ hb hk
    exact ⟨h1, q, hq, HJX.out O _ X' Y h2 (hb.mono (by omega)) hk, Nat.le_trans h3 hb.size⟩
  case hT =>
    rintro O i Y ⟨h1, h2, h3, h4, h5⟩
    have hb := HTT.out _ _ _ h1
    exact ⟨HTab.out Y hb, (HI.out Y hb).tb, h4.cell⟩
  case h0 => exact ⟨O0, ⟨HJ.out.alloc HJ0.out HO.out (Nat.le_refl _) bX, Nat.le_refl _, xY, xT, fun k hk => .inl (HO.out k hk)⟩, fun k hk => by have := HO.out k hk; omega⟩
  case assign =>
    intro l' i Y K hi hK
    gi_wp2
    exact hK
  case body =>
    rintro l' O i Y _ _ hi ⟨h1, h2, h3, h4, h5⟩ hlt _
    have hb := HTT.out _ _ _ h1
    have kf := HBf.out Y hb
    unfold holdsF at kf
    have kY := h3.cell
    have HFa := Lib.hid (HF.out (valA s.c s.ks i) Y hb)
    cases hP : P (valA s.c s.ks i) with
    | false =>
      rw [hP] at HFa
      have hpk := pk_no s P hP
      have HFin : Hid (∀ q, toldPost X.heap.size (fun O i Y => J O (pk s P i).length Y ∧ X.heap.size ≤ Y.heap.size ∧ Boxed Y W.heap.size 115 (.func (.yield l) #[] #[]) ∧ Boxed Y (W.heap.size + 1) 138 (.pointer (some ⟨d.T, 0, none⟩)) ∧ ∀ k, O k → k < W.heap.size ∨ X.heap.size ≤ k) (fun cc O i Y => cc = .ret ∧ ∃ q, q < (pkA s P).length ∧ Jx O (q + 1) Y ∧ W.heap.size ≤ Y.heap.size) O i Y .normal { tmps := #[], defers := [] } (Y.drewN q)) := Lib.hid fun q =>
        ⟨O, ⟨Nat.le_refl _, fun _ _ _ _ => rfl, fun _ e => .inl e, hlt⟩, (by rw [hpk]; exact HJ.out O _ Y _ h1 ⟨rfl, rfl, rfl, Nat.le_refl _, fun _ _ => rfl⟩ (fun _ _ => rfl)), h2, h3, h4, h5⟩
      clear h1 h2 h3 h4 h5 hlt hb
      gi_wp2_with (refine ⟨trivial, ?_⟩; refine (callsIn_wide.2 HFa.out).mono ?_; rintro e W3 ⟨rfl, q, rfl⟩)
      refine ⟨fun _ h => (by cases h), ?_⟩
      gi_wp2
      exact HFin.out q
    | true =>
      rw [hP] at HFa
      obtain ⟨a1, a2, a3⟩ := pk_at s P hi hP
      have HYY : Hid (∀ q, ∃ fn tmps asg bdy, _) := Lib.hid fun q => yieldAt_any (m := 5) (HY.out O _ (Y.drewN q) a1 (HJ.out O _ Y _ h1 ⟨rfl, rfl, rfl, Nat.le_refl _, fun _ _ => rfl⟩ (fun _ _ => rfl)) hlt (by show W.heap.size ≤ Y.heap.size; omega))
      have hn : ∀ k, W.heap.size ≤ k → k < X.heap.size → ¬ O k := fun k b1 b2 b3 => by have := h5 k b3; omega
      have HFin : Hid (∀ q O' Y', Turn W.heap.size O O' (Y.drewN q) Y' → J O' ((pk s P i).length + 1) Y' → toldPost X.heap.size (fun O i Y => J O (pk s P i).length Y ∧ X.heap.size ≤ Y.heap.size ∧ Boxed Y W.heap.size 115 (.func (.yield l) #[] #[]) ∧ Boxed Y (W.heap.size + 1) 138 (.pointer (some ⟨d.T, 0, none⟩)) ∧ ∀ k, O k → k < W.heap.size ∨ X.heap.size ≤ k) (fun cc O i Y => cc = .ret ∧ ∃ q, q < (pkA s P).length ∧ Jx O (q + 1) Y ∧ W.heap.size ≤ Y.heap.size) O i Y .normal { tmps := #[], defers := [] } Y') := Lib.hid fun q O' Y' ht hj => by
        have h3' : Boxed (Y.drewN q) W.heap.size 115 (.func (.yield l) #[] #[]) := h3
        have h4' : Boxed (Y.drewN q) (W.heap.size + 1) 138 (.pointer (some ⟨d.T, 0, none⟩)) := h4
        refine ⟨O', ⟨ht.size, fun k c1 c2 c3 => ht.keep k (by omega) c2 c3, ht.grow, ht.lt⟩, by rw [a3]; exact hj, Nat.le_trans h2 ht.size, ht.boxed h3' (Nat.le_refl _) (hn _ (Nat.le_refl _) (by omega)), ht.boxed h4' (by omega) (hn _ (by omega) (by omega)), fun k hk => ?_⟩
        rcases ht.grow k hk with h | h
        · exact h5 k h
        · exact .inr (Nat.le_trans h2 h)
      have HFx : Hid (∀ q O' Y', Turn W.heap.size O O' (Y.drewN q) Y' → Jx O' ((pk s P i).length + 1) Y' → toldPost X.heap.size (fun O i Y => J O (pk s P i).length Y ∧ X.heap.size ≤ Y.heap.size ∧ Boxed Y W.heap.size 115 (.func (.yield l) #[] #[]) ∧ Boxed Y (W.heap.size + 1) 138 (.pointer (some ⟨d.T, 0, none⟩)) ∧ ∀ k, O k → k < W.heap.size ∨ X.heap.size ≤ k) (fun cc O i Y => cc = .ret ∧ ∃ q, q < (pkA s P).length ∧ Jx O (q + 1) Y ∧ W.heap.size ≤ Y.heap.size) O i Y .ret { tmps := #[], defers := [] } Y') := Lib.hid fun q O' Y' ht hj =>
        ⟨O', ⟨ht.size, fun k c1 c2 c3 => ht.keep k (by omega) c2 c3, ht.grow, ht.lt⟩, rfl, _, a1, hj, by have := ht.size; have : Y.heap.size ≤ Y'.heap.size := this; omega⟩
      clear h1 h2 h3 h4 h5 hlt hb a1 a3 hn
      rw [a2] at HYY
      gi_wp2_with (refine ⟨trivial, ?_⟩; refine (callsIn_wide.2 HFa.out).mono ?_; rintro e W3 ⟨rfl, q, rfl⟩; obtain ⟨fn, tmps, asg, bdy, hy, hR'⟩ := HYY.out q)
      refine RoundIn.mono (F := Fence.wide.inRound l') hR' ?_
      rintro e Y' ⟨O', ht, (⟨rfl, hj⟩ | ⟨rfl, hj⟩)⟩
      · have HX := Lib.hid (HFin.out q O' Y' ht hj)
        clear ht hj hy hR' HFin HFx
        gi_wp2
        exact HX.out
      · have HX := Lib.hid (HFx.out q O' Y' ht hj)
        clear ht hj hy hR' HFin HFx
        gi_wp2
        exact HX.out
  case done =>
    rintro D O Y hD ⟨h1, h2, h3, h4, h5⟩ hn hlt hK
    have hj3 : J O (pkA s P).length (Y.putObj D (.deferred none)) := HJ.out.putObj h1 (by omega) hn _
    have HFn := Lib.hid hj3
    clear hj3 h1 h3 h4 h5
    gi_wp2
    refine ⟨by simp, .inl ⟨_, _, rfl, run_takeDeferred hK, ?_⟩⟩
    exact ⟨_, results_none rfl _ _ _, ⟨_, rfl⟩, O, fun k hk => by simpa using hlt k hk, by simp; omega, .inl HFn.out⟩
  case stop =>
    rintro D cc O i Y hD hi ⟨rfl, q, hq, h1, h2⟩ hn hlt hK
    have hj3 : Jx O (q + 1) (Y.putObj D (.deferred none)) := HJX.out.putObj h1 (by omega) hn _
    have HFn := Lib.hid hj3
    clear hj3 h1
    gi_wp2
    refine ⟨by simp, .inl ⟨_, _, rfl, run_takeDeferred hK, ?_⟩⟩
    exact ⟨_, results_none rfl _ _ _, ⟨_, rfl⟩, O, fun k hk => by simpa using hlt k hk, by simpa using h2, .inr ⟨q, hq, HFn.out⟩⟩
end Go.Proofs.YthpgnlcmpoldfaaGreatDoor.Hp

namespace Go.Proofs.YthpgnlcmpoldfaaGreatDoor.Hp
open Go.RowKit Go.Shelf
open Class (isB isB_true isB_false is_any sizI sizI_bd roomI SizTab below_drewN)
open Blk (Cfg TbIs allP allP_len valA cellsF collect_any kAt)
open Go.Proofs.YthpgnlcmpoldfaaGreatDoor.Row (Chg cellsZ)
open Go.Proofs.YthpgnlcmpoldfaaGreatDoor.Addr (Tabs)

theorem cellsF_list (l : List Int) : cellsF (fun i => l.getD i 0) l.length = cellsZ l := by
  unfold cellsF cellsZ
  apply List.ext_getElem?
  intro i
  rw [List.getElem?_map, List.getElem?_map]
  by_cases h : i < l.length
  · rw [List.getElem?_range h]
    simp [List.getD_eq_getElem?_getD, h]
  · rw [List.getElem?_eq_none (by simp; omega), List.getElem?_eq_none (by omega)]
    rfl
theorem pkA_len {s : St} (h : Wf s) (P : Int → Bool) : (pkA s P).length ≤ 1048576 := by
  have h1 : (pkA s P).length ≤ nSl s := by
    unfold pkA pk
    refine Nat.le_trans (List.length_filter_le _ _) ?_
    simp
  have h2 : nSl s ≤ 128 * s.ks.length := allP_len s.c s.ks s.ks.length
  have h3 := h.full
  have h4 := (Blk.slots_bd h.right).b1
  omega
/-- A new row of numbers. -/
def NewRow (w : World) (l : List Int) (e : Ending) (w' : World) : Prop := ∃ p cap, e = .returned (.slice p l.length cap) ∧ w'.ownsRow w.heap.size 3 1 (.slice p l.length cap) l.length (cellsZ l) ∧ Below w.heap.size w w'
theorem pick_any {H : Nat} {d : Ids} {s : St} {m : Nat} (f : Nat) (P : Int → Bool) (w : World) (h : Is w H d s m) (ht : Tabs w)
    (hf : ∀ (a : Int) (W : World), Is W H d s m → Calls Tryz.prog f #[.pointer (some ⟨H, 0, none⟩), .int .i64 a] W fun e w' => e = .returned (.bool (P a)) ∧ ∃ q, w' = W.drewN q) (eg : ∀ args w, (callFunc f args).run Tryz.prog w = .ok (.enter f args) w) :
    Calls Tryz.prog 66 #[.func (.func 91) #[] #[.pointer (some ⟨w.heap.size, 0, none⟩), .pointer (some ⟨w.heap.size + 1, 0, none⟩)]] ((w.alloc (.cells #[.pointer (some ⟨H, 0, none⟩)] 48)).alloc (.cells #[holdsF f (.pointer (some ⟨H, 0, none⟩))] 115)) (NewRow w (pkA s P)) := by
  have hb := two_new (w := w) (.pointer (some ⟨H, 0, none⟩)) (holdsF f (.pointer (some ⟨H, 0, none⟩))) 48 115
  have hs : ∀ W : World, Below w.heap.size w W → w.heap.size ≤ W.heap.size := fun W h => h.size
  refine (collect_any 91 #[.pointer (some ⟨w.heap.size, 0, none⟩), .pointer (some ⟨w.heap.size + 1, 0, none⟩)] (pkA s P).length (fun i => (pkA s P).getD i 0) (fun W => Below _ _ W) _ (pkA_len h.wf P) (enters_of Tryz.func91 (by kernel_rfl) rfl)
    (slots1_told 4 w.heap.size (w.heap.size + 1) f P _ _ (h.later hb) (ht.later hb) (by simp) (by simp) (fun a W hW => hf a W ((h.later hb).later hW)) eg) (fun _ h => h)).mono ?_
  rintro e w' ⟨p, cap, rfl, ho, hb2⟩
  rw [cellsF_list] at ho
  exact ⟨p, cap, rfl, Row.owns_base hb.size ho, hb.trans (hb2.mono hb.size)⟩
def objL (s : St) : List Int := pkA s (bnI s)
def hanL (s : St) : List Int := pkA s (fun a => !bnI s a && !frI s a)
theorem objects_any {H : Nat} {d : Ids} {s : St} {m : Nat} (w : World) (h : Is w H d s m) (ht : Tabs w) : Calls Tryz.prog 23 #[.pointer (some ⟨H, 0, none⟩)] w (NewRow w (objL s)) := by
  have HS := Lib.hid (slots_fn (some ⟨H, 0, none⟩) 68 w)
  have HC := Lib.hid (pick_any 68 (bnI s) w h ht (fun a W hI => isO_any a W hI) (enters_of Tryz.func68 (by kernel_rfl) rfl))
  unfold holdsF at HS HC
  clear h ht
  go_enter Tryz.func23, Tryz.ntmps23
  go_wp2_with (first
    | (go_at_call 67; refine HS.out.mono ?_; rintro e w1 ⟨rfl, rfl⟩)
    | (go_at_call 66; refine HC.out.mono ?_; rintro e w1 ⟨p, cap, rfl, ho, hb⟩))
  go_ret
  exact ⟨p, cap, rfl, ho, hb⟩
end Go.Proofs.YthpgnlcmpoldfaaGreatDoor.Hp

namespace Go.Proofs.YthpgnlcmpoldfaaGreatDoor.Hp
open Go.RowKit
open Class (isB isB_true isB_false sizI roomI below_drewN)
open Blk (Cfg TbIs kAt)
open Go.Proofs.YthpgnlcmpoldfaaGreatDoor.Row (Chg)
open Bits (SetIs)
open Lis (upd upd_same upd_other lastN_rev rev_upd)
open Go.Proofs.YthpgnlcmpoldfaaGreatDoor.Addr (Tabs)

theorem lput_newC {H : Nat} {d : Ids} {s : St} {m : Nat} (a : Nat) (w : World) (h : Is w H d s m) (ht : Tabs w) (hm : m < 900000) (ho : own s a = true) (hn : bn s a = false) (hf : fr s a = false) :
    Calls Tryz.prog 220 #[.pointer (some ⟨d.L, 0, none⟩), .int .i64 a] w fun e w' => e = .returned (.int .i64 0) ∧ To w w' H d (puS s a) (m + 1) ∧ Chg (lo d) w w' := by
  have hbd := h.wf.own_bd ho
  have hsm := h.sit.ar.small
  have hkl := cls_lt h a
  obtain ⟨m1, m2, m3⟩ := h.cnt
  have hin : hasB d.sw a = false := by rw [h.sw_fr (by omega)]; exact hf
  have hhd : ∀ j, j < 4 → (s.hv j).headD 0 ≤ 1048576 := fun j hj => by have := h.held.head_le hj; omega
  refine (Lis.put_new w h.sit h.tb ht h.wf.right a ho (by omega) (by omega) (by omega) (fun j hj => by rw [lastN_rev]; exact hhd j hj) (fun j hj => by have := m3 j hj; simp; omega) hin).mono ?_
  rintro e w' ⟨rfl, p', c', hS, hC, hO⟩
  rw [lastN_rev, ← List.reverse_cons, rev_upd] at hS
  have hheld := h.held.put h.sit.si.row hkl (by omega) (by omega) (hhd _ hkl) hin
  refine ⟨rfl, ⟨_, h.lists hS hheld (by rw [List.length_set]) hC hO ⟨by omega, by omega, fun j hj => ?_⟩ (h.wf.put ho hn (hhd _ hkl)), hC.mono (fun _ e => .inl e), fun j hj => ?_⟩, hC⟩
  · show ((upd s.hv (cls s a) (a :: s.hv (cls s a))) j).length ≤ m + 1
    by_cases e : j = cls s a
    · subst e; rw [upd_same, List.length_cons]; have := m3 _ hj; omega
    · rw [upd_other _ _ e]; have := m3 j hj; omega
  · rcases hj with e | e | e
    · exact (hO j e).imp (fun e => .inl e) id
    · exact .inl (.inr (.inl e))
    · exact .inl (.inr (.inr e))

/-- What Free tells, and leaves. -/
def frE (s : St) (a : Int) : Int := if bnI s a = true then 0 else 1
def unS (s : St) (a : Nat) : St := { s with bs := Bits.putS (s.ws.length + 1) s.bs a false }
def frS (s : St) (a : Nat) : St := puS (unS s a) a
set_option maxRecDepth 100000 in
set_option maxHeartbeats 4000000 in
theorem free1_any {H : Nat} {d : Ids} {s : St} {m : Nat} (a : Nat) (o q : Nat) (w : World) (h : Is w H d s m) (ht : Tabs w) (hm : m < 800000) (hb : bn s a = true)
    (hq : w.cell? ⟨o, 0, none⟩ = some (.pointer (some ⟨H, 0, none⟩))) (hr : w.cell? ⟨q, 0, none⟩ = some (.int .i64 a)) (hpo : ¬ Mine H d o) (hqo : ¬ Mine H d q) :
    Calls Tryz.prog 306 #[.pointer (some ⟨o, 0, none⟩), .pointer (some ⟨q, 0, none⟩)] w fun e w' => e = .returned (.int .i64 0) ∧ To w w' H d (frS s a) (m + 1) := by
  have hbd := h.wf.bn_bd hb
  have ho := (h.wf.born a hb).1
  have hfr : fr s a = false := by
    rw [fr_false]; intro k hk hmem
    have := (h.wf.free k hk a hmem).2.2.1
    rw [hb] at this; cases this
  have hwf : Wf (unS s a) := h.wf.unbear (a := a) (fun b => by show hasB (Bits.putS _ _ _ _) b = _; rw [putS_has h.born.row (by omega)]; rfl)
  have hn : bn (unS s a) a = false := by show hasB (Bits.putS _ _ _ _) a = false; rw [putS_has h.born.row (by omega), if_pos rfl]
  have hcB := h.cB
  have hcL := h.cL
  have hpl : o < w.heap.size := World.block_lt_of_cell? w _ hq
  have hql : q < w.heap.size := World.block_lt_of_cell? w _ hr
  have hHB : H ≠ d.Bw := by have := h.nd; simp at this; omega
  have HSB := Lib.hid (show ∀ k, ¬ Mine H d k → k ≠ d.Bw from fun k hk e => hk (.inr (.inl (by unfold seven; omega))))
  have HK0 := Lib.hid (show w.drew.cell? ⟨o, 0, none⟩ = some (.pointer (some ⟨H, 0, none⟩)) ∧ w.drew.cell? ⟨q, 0, none⟩ = some (.int .i64 a) ∧ w.drew.cell? ⟨H, 3, none⟩ = some (.pointer (some ⟨d.B, 0, none⟩)) from ⟨hq, hr, hcB⟩)
  have HK4 := Lib.hid (fun (W : World) (h2 : ∀ j, j ≠ d.Bw → W.heap[j]? = (w.drewN 1).heap[j]?) => (⟨(Row.cell_of_block (a := ⟨o, 0, none⟩) (h2 o (HSB.out o hpo))).trans hq, (Row.cell_of_block (a := ⟨q, 0, none⟩) (h2 q (HSB.out q hqo))).trans hr, (Row.cell_of_block (a := ⟨H, 3, none⟩) (h2 H hHB)).trans hcB⟩ : W.cell? ⟨o, 0, none⟩ = some (.pointer (some ⟨H, 0, none⟩)) ∧ W.cell? ⟨q, 0, none⟩ = some (.int .i64 a) ∧ W.cell? ⟨H, 3, none⟩ = some (.pointer (some ⟨d.B, 0, none⟩))))
  have HP1 := Lib.hid (fun n => born_put (a : Int) false _ (h.drewN n) hwf)
  have HKL := Lib.hid (fun (W : World) (h2 : ∀ j, j ≠ d.Bw → W.heap[j]? = (w.drewN 1).heap[j]?) => (Row.cell_of_block (a := ⟨H, 2, none⟩) (h2 H hHB)).trans hcL)
  have HTB := Lib.hid (fun (W : World) (hc : Chg (Mine H d) w W) => h.tabs hc ht)
  have HO := Lib.hid ho
  have HN := Lib.hid hn
  have HFR := Lib.hid (show fr (unS s a) a = false from hfr)
  have hHl := h.ltH
  clear h ht hwf hb hfr
  go_enter Tryz.func306, Tryz.ntmps306
  go_wp2_with fail
  go_region_held3 (fun W => W.cell? ⟨o, 0, none⟩ = some (.pointer (some ⟨H, 0, none⟩)) ∧ W.cell? ⟨q, 0, none⟩ = some (.int .i64 a) ∧ W.cell? ⟨H, 3, none⟩ = some (.pointer (some ⟨d.B, 0, none⟩)))
    (first | exact HK0.out | assumption | exact HK4.out _ h24)
    (first | (go_at_call 168; refine (HP1.out _).mono ?_; rintro e w4 ⟨rfl, hI4, hC4, h24⟩))
  have hS4 : w4.cell? ⟨o, 0, none⟩ = some (.pointer (some ⟨H, 0, none⟩)) ∧ w4.cell? ⟨q, 0, none⟩ = some (.int .i64 a) ∧ w4.cell? ⟨H, 3, none⟩ = some (.pointer (some ⟨d.B, 0, none⟩)) := by assumption
  have hcL4 := HKL.out _ h24
  obtain ⟨d2, d3, _⟩ := hS4
  have HI4 := Lib.hid (show Is w4 H d (unS s a) m from hI4)
  have HC4 := Lib.hid ((Chg.refl (Mine H d) w).drewN 1 |>.trans hC4 (fun _ e => .inl e))
  have HT4 := Lib.hid (HTB.out _ HC4.out)
  have hpl4 : o < w4.heap.size := World.block_lt_of_cell? w4 _ d2
  have hql4 : q < w4.heap.size := World.block_lt_of_cell? w4 _ d3
  have hHl4 := hI4.ltH
  clear HK0 HK4 HKL HP1 hI4 hC4 h24 hq hr hcB hcL
  go_wp2
  have HL := Lib.hid (fun n => lput_newC a _ (HI4.out.drewN n) (HT4.out.drewN n) (by omega) HO.out HN.out HFR.out)
  have HK0 := Lib.hid (show w4.drew.cell? ⟨o, 0, none⟩ = some (.pointer (some ⟨H, 0, none⟩)) ∧ w4.drew.cell? ⟨q, 0, none⟩ = some (.int .i64 a) ∧ w4.drew.cell? ⟨H, 2, none⟩ = some (.pointer (some ⟨d.L, 0, none⟩)) from ⟨d2, d3, hcL4⟩)
  have HK5 : Hid (∀ W : World, Chg (lo d) (w4.drewN 1) W → W.cell? ⟨o, 0, none⟩ = some (.pointer (some ⟨H, 0, none⟩)) ∧ W.cell? ⟨q, 0, none⟩ = some (.int .i64 a) ∧ W.cell? ⟨H, 2, none⟩ = some (.pointer (some ⟨d.L, 0, none⟩))) := Lib.hid fun W hC =>
    ⟨(hC.cell (p := ⟨o, 0, none⟩) hpl4 (fun e => hpo (.inl e))).trans d2, (hC.cell (p := ⟨q, 0, none⟩) hql4 (fun e => hqo (.inl e))).trans d3, (hC.cell (p := ⟨H, 2, none⟩) hHl4 (fun e => HI4.out.ap H e (.inl rfl))).trans hcL4⟩
  go_region_held3 (fun W => W.cell? ⟨o, 0, none⟩ = some (.pointer (some ⟨H, 0, none⟩)) ∧ W.cell? ⟨q, 0, none⟩ = some (.int .i64 a) ∧ W.cell? ⟨H, 2, none⟩ = some (.pointer (some ⟨d.L, 0, none⟩)))
    (first | exact HK0.out | assumption | exact HK5.out _ hT5)
    (first | (go_at_call 220; refine (HL.out _).mono ?_; rintro e w5 ⟨rfl, hT5', hT5⟩))
  all_goals go_wp2
  all_goals go_ret
  all_goals exact ⟨rfl, To.step HC4.out (fun _ e => .inl e) (To.alloc (below_drewN (Below.refl _ _) _) (by assumption))⟩

theorem two_kept0 {w w1 : World} {S : Nat → Prop} {u v : Value} {r t : TypeId} (hn : ∀ k, w.heap.size ≤ k → ¬ S k) (hC : Chg S ((w.alloc (.cells #[u] r)).alloc (.cells #[v] t)) w1) :
    w1.cell? ⟨w.heap.size, 0, none⟩ = some u ∧ w1.cell? ⟨w.heap.size + 1, 0, none⟩ = some v :=
  ⟨(hC.cell (p := ⟨w.heap.size, 0, none⟩) (by simp; omega) (hn w.heap.size (Nat.le_refl _))).trans (by simp), (hC.cell (p := ⟨w.heap.size + 1, 0, none⟩) (by simp) (hn (w.heap.size + 1) (by omega))).trans (by simp)⟩
set_option maxRecDepth 100000 in
set_option maxHeartbeats 2000000 in
theorem free_any {H : Nat} {d : Ids} {s : St} {m : Nat} (a : Int) (w : World) (h : Is w H d s m) (ht : Tabs w) (hm : m < 800000) :
    Calls Tryz.prog 297 #[.pointer (some ⟨H, 0, none⟩), .int .i64 a] w fun e w' => e = .returned (.int .i64 (frE s a)) ∧ To w w' H d (if frE s a = 0 then frS s a.toNat else s) (m + 1) := by
  have hb0 : Below w.heap.size w ((w.alloc (.cells #[.pointer (some ⟨H, 0, none⟩)] 48)).alloc (.cells #[.int .i64 a] 3)) := two_new _ _ _ _
  have HB0 := Lib.hid hb0
  have HH := Lib.hid h
  have HI := Lib.hid (h.later hb0)
  have HN := Lib.hid (show ∀ k, w.heap.size ≤ k → ¬ Mine H d k from fun k hk => not_mine h hk)
  have HTB := Lib.hid (ht.later hb0)
  have HIS := Lib.hid (isO_any a _ (h.later hb0))
  have H2 := Lib.hid (fun (W : World) (hC : Chg (Mine H d) ((w.alloc (.cells #[.pointer (some ⟨H, 0, none⟩)] 48)).alloc (.cells #[.int .i64 a] 3)) W) => two_kept0 (S := Mine H d) HN.out hC)
  unfold frE
  cases hb : bnI s a with
  | false =>
    rw [hb] at HIS
    rw [if_neg (by simp), if_neg (by omega)]
    clear h ht hb0
    go_enter Tryz.func297, Tryz.ntmps297
    go_wp2_with (first
      | go_enter Tryz.func268, Tryz.ntmps268
      | (go_at_call 68; refine HIS.out.mono ?_; rintro e w1 ⟨rfl, q, rfl⟩))
    go_ret
    exact ⟨rfl, To.of_below (HH.out.more (Nat.le_succ _)) (below_drewN HB0.out _)⟩
  | true =>
    rw [hb] at HIS
    rw [if_pos rfl, if_pos rfl]
    obtain ⟨n, rfl⟩ : ∃ n : Nat, a = (n : Int) := by
      have hb2 := hb
      unfold bnI at hb2
      rw [Bool.and_eq_true, decide_eq_true_eq] at hb2
      exact ⟨a.toNat, by omega⟩
    rw [bnI_nat] at hb
    rw [Int.toNat_natCast]
    have HC := Lib.hid (fun (q : Nat) (o p : Nat) hq hr n1 n2 => free1_any (H := H) (d := d) (m := m) n o p _ (HI.out.drewN q) (HTB.out.drewN q) hm hb hq hr n1 n2)
    clear h ht hb0
    go_enter Tryz.func297, Tryz.ntmps297
    go_wp2_with (first
      | go_enter Tryz.func268, Tryz.ntmps268
      | (go_at_call 68; refine HIS.out.mono ?_; rintro e w1 ⟨rfl, q, rfl⟩)
      | (go_at_call 306; refine (HC.out q _ _ (H2.out _ ((Chg.refl _ _).drewN q)).1 (H2.out _ ((Chg.refl _ _).drewN q)).2 (HN.out _ (by omega)) (HN.out _ (by omega))).mono ?_; rintro e w2 ⟨rfl, hT2⟩))
    go_ret
    exact ⟨rfl, To.alloc (below_drewN HB0.out _) hT2⟩
end Go.Proofs.YthpgnlcmpoldfaaGreatDoor.Hp

namespace Go.Proofs.YthpgnlcmpoldfaaGreatDoor.Hp
open Go.RowKit Go.Shelf
open Class (isB isB_true isB_false sizI roomI below_drewN)
open Blk (Cfg TbIs kAt cellsF collect_any cellsK)
open Go.Proofs.YthpgnlcmpoldfaaGreatDoor.Row (Chg cellsZ)
open Bits (SetIs)
open Go.Proofs.YthpgnlcmpoldfaaGreatDoor.Addr (Tabs)

/-- What Color tells. -/
def coE (s : St) (a : Int) : Int := if bnI s a = true then 0 else 1
def coV (s : St) (a : Int) : Int := if bnI s a = true then (if hasB s.os a.toNat = true then 1 else 0) else 0
set_option maxRecDepth 100000 in
set_option maxHeartbeats 2000000 in
theorem color1_any {H : Nat} {d : Ids} {s : St} {m : Nat} (a : Nat) (o q r : Nat) (w : World) (h : Is w H d s m) (h2 : a ≤ s.ws.length)
    (hq : w.cell? ⟨o, 0, none⟩ = some (.pointer (some ⟨H, 0, none⟩))) (hr : w.cell? ⟨q, 0, none⟩ = some (.int .i64 a)) (hc : w.cell? ⟨r, 0, none⟩ = some (.int .i64 0)) (hf : w.frozen? ⟨r, 0, none⟩ = false) :
    Calls Tryz.prog 269 #[.pointer (some ⟨o, 0, none⟩), .pointer (some ⟨q, 0, none⟩), .pointer (some ⟨r, 0, none⟩)] w fun e w' => e = .returned (.int .i64 0) ∧ ∃ n, w' = if hasB s.os a = true then (w.drewN n).setCell ⟨r, 0, none⟩ (.int .i64 1) else w.drewN n := by
  have hcO := h.cO
  have hm : Bits.mayB (a : Int) (s.ws.length + 1 : Nat) = true := by simp [Bits.mayB]; omega
  have HH : ∀ n, Calls Tryz.prog 93 #[.pointer (some ⟨d.O, 0, none⟩), .int .i64 (a : Nat)] (w.drewN n) fun e w' => e = .returned (.bool (hasB s.os a)) ∧ ∃ m, w' = w.drewN m := fun n => by
    refine (Bits.has_any _ _ _ _ _ (a : Int) _ (h.drewN n).ones).mono ?_
    rintro e w' ⟨rfl, m, rfl⟩
    exact ⟨by rw [hm, Int.toNat_natCast, Bool.true_and], n + m, World.drewN_drewN ..⟩
  clear h hm
  cases hb : hasB s.os a with
  | false =>
    rw [hb] at HH
    go_enter Tryz.func269, Tryz.ntmps269
    go_wp2
    go_quiet ((go_at_call 93; exact HH _))
    go_wp2
    go_ret
    exact ⟨rfl, _, rfl⟩
  | true =>
    rw [hb] at HH
    go_enter Tryz.func269, Tryz.ntmps269
    go_wp2
    go_quiet ((go_at_call 93; exact HH _))
    go_wp2
    all_goals go_ret
    all_goals exact ⟨rfl, _, rfl⟩

theorem three_cells {w : World} {u v x : Value} {r s t : TypeId} : (((w.alloc (.cells #[u] r)).alloc (.cells #[v] s)).alloc (.cells #[x] t)).cell? ⟨w.heap.size, 0, none⟩ = some u ∧ (((w.alloc (.cells #[u] r)).alloc (.cells #[v] s)).alloc (.cells #[x] t)).cell? ⟨w.heap.size + 1, 0, none⟩ = some v ∧ (((w.alloc (.cells #[u] r)).alloc (.cells #[v] s)).alloc (.cells #[x] t)).cell? ⟨w.heap.size + 1 + 1, 0, none⟩ = some x ∧ (((w.alloc (.cells #[u] r)).alloc (.cells #[v] s)).alloc (.cells #[x] t)).frozen? ⟨w.heap.size + 1 + 1, 0, none⟩ = false := by
  obtain ⟨e1, e2, e3⟩ := three_kept (S := fun _ => False) (fun _ _ => id) (Chg.refl _ (((w.alloc (.cells #[u] r)).alloc (.cells #[v] s)).alloc (.cells #[x] t)))
  refine ⟨e1, e2, e3, ?_⟩
  have e : w.heap.size + 1 + 1 = ((w.alloc (.cells #[u] r)).alloc (.cells #[v] s)).heap.size := by simp
  rw [e]
  unfold World.frozen?
  rw [show (⟨((w.alloc (.cells #[u] r)).alloc (.cells #[v] s)).heap.size, 0, none⟩ : Addr).block = ((w.alloc (.cells #[u] r)).alloc (.cells #[v] s)).heap.size from rfl, World.alloc_heap_new]
  rfl
set_option maxRecDepth 100000 in
set_option maxHeartbeats 2000000 in
theorem color_any' {H : Nat} {d : Ids} {s : St} {m : Nat} (a : Int) (w : World) (h : Is w H d s m) :
    Calls Tryz.prog 233 #[.pointer (some ⟨H, 0, none⟩), .int .i64 a] w fun e w' => e = .returned (.tuple #[.int .i64 (coV s a), .int .i64 (coE s a)]) ∧ Below w.heap.size w w' := by
  have hb0 : Below w.heap.size w (((w.alloc (.cells #[.pointer (some ⟨H, 0, none⟩)] 48)).alloc (.cells #[.int .i64 a] 3)).alloc (.cells #[.int .i64 0] 3)) := three_new _ _ _ _ _ _
  have HB0 := Lib.hid hb0
  have HI := Lib.hid (h.later hb0)
  have HIS := Lib.hid (isO_any a _ (h.later hb0))
  have HC3 := Lib.hid (three_cells (w := w) (u := .pointer (some ⟨H, 0, none⟩)) (v := .int .i64 a) (x := .int .i64 0) (r := 48) (s := 3) (t := 3))
  unfold coV coE
  cases hb : bnI s a with
  | false =>
    rw [hb] at HIS
    rw [if_neg (by simp), if_neg (by simp)]
    have c3 := HC3.out.2.2.1
    clear h hb0
    go_enter Tryz.func233, Tryz.ntmps233
    go_wp2_with (first
      | go_enter Tryz.func268, Tryz.ntmps268
      | (go_at_call 68; refine HIS.out.mono ?_; rintro e w1 ⟨rfl, q, rfl⟩))
    go_ret2
    exact ⟨rfl, below_drewN HB0.out _⟩
  | true =>
    rw [hb] at HIS
    rw [if_pos rfl, if_pos rfl]
    obtain ⟨n, rfl⟩ : ∃ n : Nat, a = (n : Int) := by
      have hb2 := hb
      unfold bnI at hb2
      rw [Bool.and_eq_true, decide_eq_true_eq] at hb2
      exact ⟨a.toNat, by omega⟩
    rw [bnI_nat] at hb
    rw [Int.toNat_natCast]
    have hbd := h.wf.bn_bd hb
    have HC := Lib.hid (fun (j : Nat) (o q r : Nat) hq hr hc hf => color1_any (m := m) n o q r _ (HI.out.drewN j) hbd.2 hq hr hc hf)
    clear h hb0
    have c3 := HC3.out.2.2.1
    cases hbb : hasB s.os n with
    | false =>
      rw [hbb] at HC
      rw [if_neg (by simp)]
      go_enter Tryz.func233, Tryz.ntmps233
      go_wp2_with (first
        | go_enter Tryz.func268, Tryz.ntmps268
        | (go_at_call 68; refine HIS.out.mono ?_; rintro e w1 ⟨rfl, q, rfl⟩)
        | (go_at_call 269; refine (HC.out q _ _ _ HC3.out.1 HC3.out.2.1 HC3.out.2.2.1 HC3.out.2.2.2).mono ?_; rintro e w2 ⟨rfl, k, hw2⟩; rw [if_neg (by simp), World.drewN_drewN] at hw2; subst hw2))
      go_ret2
      exact ⟨rfl, below_drewN HB0.out _⟩
    | true =>
      rw [hbb] at HC
      rw [if_pos rfl]
      have HSB := Lib.hid (fun (q k : Nat) => (⟨(below_drewN HB0.out (q + k)).setCell (p := ⟨w.heap.size + 1 + 1, 0, none⟩) (by show w.heap.size ≤ w.heap.size + 1 + 1; omega) (.int .i64 1), Row.same (u := .int .i64 0) HC3.out.2.2.1⟩ : Below w.heap.size w (((((w.alloc (.cells #[.pointer (some ⟨H, 0, none⟩)] 48)).alloc (.cells #[.int .i64 n] 3)).alloc (.cells #[.int .i64 0] 3)).drewN (q + k)).setCell ⟨w.heap.size + 1 + 1, 0, none⟩ (.int .i64 1)) ∧ (((((w.alloc (.cells #[.pointer (some ⟨H, 0, none⟩)] 48)).alloc (.cells #[.int .i64 n] 3)).alloc (.cells #[.int .i64 0] 3)).drewN (q + k)).setCell ⟨w.heap.size + 1 + 1, 0, none⟩ (.int .i64 1)).cell? ⟨w.heap.size + 1 + 1, 0, none⟩ = some (.int .i64 1)))
      go_enter Tryz.func233, Tryz.ntmps233
      go_wp2_with (first
        | go_enter Tryz.func268, Tryz.ntmps268
        | (go_at_call 68; refine HIS.out.mono ?_; rintro e w1 ⟨rfl, q, rfl⟩))
      refine (HC.out q _ _ _ HC3.out.1 HC3.out.2.1 HC3.out.2.2.1 HC3.out.2.2.2).mono ?_
      rintro e w2 ⟨rfl, k, hw2⟩
      rw [if_pos (by first | trivial | rfl), World.drewN_drewN] at hw2
      have hX := HSB.out q k
      rw [← hw2] at hX
      obtain ⟨hX1, hX2⟩ := hX
      have HX1 := Lib.hid hX1
      clear hX1 hw2
      go_wp2
      go_ret2
      exact ⟨rfl, HX1.out⟩
end Go.Proofs.YthpgnlcmpoldfaaGreatDoor.Hp

namespace Go.Proofs.YthpgnlcmpoldfaaGreatDoor.Hp
open Go.RowKit
open Class (isB isB_true sizI sizI_bd)
open Blk (Cfg allP seg valA adr perN perN_eq kAt)
open Go.Proofs.YthpgnlcmpoldfaaGreatDoor.Row (Chg cellsZ Rd)

theorem adr_in {s : St} (h : Wf s) {k b i : Nat} (hk : k < 4) (hi : i < perN s.c k) : (b : Int) * s.c.wd < adr s.c k b i ∧ adr s.c k b i + sizI k ≤ ((b : Int) + 1) * s.c.wd + 1 := by
  have hRC := Blk.slots_bd h.right
  have hB : isB (k : Int) = true := isB_true.2 ⟨Int.natCast_nonneg k, by omega⟩
  have hp := perN_eq s.c k
  rw [Class.perI_yes hB (Class.wordsB_true.2 ⟨hRC.wd0, hRC.wd1⟩)] at hp
  rw [Int.add_mul, Int.one_mul]
  unfold adr
  rcases siz_four hB with e | e | e | e <;> rw [e] at hp ⊢ <;> omega
theorem seg_sorted {s : St} (b : Nat) (hk : kAt s.ks b < 4) : (seg s.c s.ks b).Pairwise (· < ·) := by
  unfold seg
  rw [List.pairwise_map]
  refine List.Pairwise.imp ?_ List.pairwise_lt_range
  intro i j hij
  have hB : isB ((kAt s.ks b : Nat) : Int) = true := isB_true.2 ⟨Int.natCast_nonneg _, by omega⟩
  unfold adr
  rcases siz_four hB with e | e | e | e <;> rw [e] <;> omega
theorem allP_sorted {s : St} (h : Wf s) (hk : ∀ j, kAt s.ks j < 4) : (allP s.c s.ks s.ks.length).Pairwise (· < ·) := by
  unfold allP
  rw [List.pairwise_flatMap]
  refine ⟨fun b _ => seg_sorted b (hk b), ?_⟩
  refine List.Pairwise.imp ?_ List.pairwise_lt_range
  intro b b' hb x hx y hy
  unfold seg at hx hy
  obtain ⟨i, hi, rfl⟩ := List.mem_map.1 hx
  obtain ⟨j, hj, rfl⟩ := List.mem_map.1 hy
  have h1 := (adr_in (b := b) h (hk b) (List.mem_range.1 hi)).2
  have h2 := (adr_in (b := b') h (hk b') (List.mem_range.1 hj)).1
  have hs := (sizI_bd (isB_true.2 ⟨Int.natCast_nonneg (kAt s.ks b), by have := hk b; omega⟩)).1
  have h3 : ((b : Int) + 1) * s.c.wd ≤ (b' : Int) * s.c.wd := Int.mul_le_mul_of_nonneg_right (by omega) (by have := (Blk.slots_bd h.right).wd0; omega)
  omega
theorem map_valA (s : St) : (List.range (nSl s)).map (valA s.c s.ks) = allP s.c s.ks s.ks.length := by
  apply List.ext_getElem?
  intro i
  rw [List.getElem?_map]
  by_cases h : i < nSl s
  · rw [List.getElem?_range h]
    have h' : i < (allP s.c s.ks s.ks.length).length := h
    show some (valA s.c s.ks i) = _
    unfold valA
    rw [List.getElem?_eq_getElem h', List.getD_eq_getElem?_getD, List.getElem?_eq_getElem h']
    rfl
  · have h' : ¬ i < (allP s.c s.ks s.ks.length).length := h
    rw [List.getElem?_eq_none (by simp; omega), List.getElem?_eq_none (by omega)]
    rfl
theorem pkA_eq (s : St) (P : Int → Bool) : pkA s P = (allP s.c s.ks s.ks.length).filter P := by
  unfold pkA pk
  rw [map_valA]
theorem pkA_sorted {s : St} (h : Wf s) (hk : ∀ j, kAt s.ks j < 4) (P : Int → Bool) : (pkA s P).Pairwise (· < ·) := by
  rw [pkA_eq]
  exact (allP_sorted h hk).filter _
theorem pkA_holds {s : St} {P : Int → Bool} {x : Int} (h : x ∈ pkA s P) : P x = true := by
  rw [pkA_eq] at h
  exact (List.mem_filter.1 h).2

/-- All objects, as numbers. -/
def obA (s : St) (i : Nat) : Nat := ((objL s).getD i 0).toNat
theorem obA_bn {s : St} {i : Nat} (hi : i < (objL s).length) : bn s (obA s i) = true ∧ (objL s).getD i 0 = (obA s i : Int) := by
  have hm : (objL s).getD i 0 ∈ objL s := by
    rw [List.getD_eq_getElem?_getD, List.getElem?_eq_getElem hi]; exact List.getElem_mem hi
  have hb : bnI s ((objL s).getD i 0) = true := pkA_holds hm
  unfold bnI at hb
  rw [Bool.and_eq_true, decide_eq_true_eq] at hb
  exact ⟨hb.2, by unfold obA; omega⟩
theorem obA_inj {s : St} (h : Wf s) (hk : ∀ j, kAt s.ks j < 4) {i j : Nat} (hi : i < (objL s).length) (hj : j < (objL s).length) (e : obA s i = obA s j) : i = j := by
  have h1 := (obA_bn hi).2
  have h2 := (obA_bn hj).2
  rw [e, ← h2, List.getD_eq_getElem?_getD, List.getD_eq_getElem?_getD, List.getElem?_eq_getElem hi, List.getElem?_eq_getElem hj] at h1
  have hp := List.pairwise_iff_getElem.1 (pkA_sorted h hk (bnI s))
  have h1' : (objL s)[i] = (objL s)[j] := h1
  rcases Nat.lt_trichotomy i j with hl | he | hl
  · have := hp i j hi hj hl
    have h3 : (objL s)[i] < (objL s)[j] := this
    omega
  · exact he
  · have := hp j i hj hi hl
    have h3 : (objL s)[j] < (objL s)[i] := this
    omega

/-- The same heap with other words. -/
def ww (s : St) (ws : List Nat) : St := { s with ws := ws }
/-- How many fields the i-th object has. -/
def nf (s : St) (i : Nat) : Nat := Hdr.obF (wdA s (obA s i))
theorem obj_takB {s : St} {a : Nat} (h : Wf s) (hb : bn s a = true) : takB s a = true := by
  unfold takB
  rw [bnI_nat, hb, Int.toNat_natCast, (h.born a hb).2]
  rfl
/-- An object's fields. -/
theorem obj_fields {s : St} {a : Nat} (h : Wf s) (hb : bn s a = true) : fN s a = Hdr.obF (wdA s a) ∧ fE s a = 0 ∧ own s a = true ∧ (Hdr.obF (wdA s a) : Int) + 1 ≤ sizI (cls s a) ∧ 1 ≤ a ∧ a ≤ s.ws.length := by
  have hbd := h.bn_bd hb
  have ht := obj_takB h hb
  have h0 : (a : Int) ≠ 0 := by omega
  obtain ⟨c1, c2, c3, c4, c5⟩ := h.in_arena ht
  rw [Int.toNat_natCast] at c3
  exact ⟨by rw [fN, if_neg h0, if_pos ht, Int.toNat_natCast], by rw [fE, if_neg h0, if_pos ht], c4, c3, hbd.1, hbd.2⟩
theorem obj_field_at {s : St} (h : Wf s) {a b k l : Nat} (ha : bn s a = true) (hb : bn s b = true) (hk : k < Hdr.obF (wdA s a)) (hl : l < Hdr.obF (wdA s b)) (e : a + k = b + l) : a = b ∧ k = l := by
  obtain ⟨_, _, a3, a4, _⟩ := obj_fields h ha
  obtain ⟨_, _, b3, b4, _⟩ := obj_fields h hb
  have := h.apart (a := (a : Int)) (b := (b : Int)) a3 b3 (i := (k : Int) + 1) (j := (l : Int) + 1) (by omega) (by omega) (by omega) (by omega) (by omega)
  omega
end Go.Proofs.YthpgnlcmpoldfaaGreatDoor.Hp

namespace Go.Proofs.YthpgnlcmpoldfaaGreatDoor.Hp
open Go.RowKit
open Class (isB isB_true sizI sizI_bd)
open Blk (Cfg allP allP_len kAt)

theorem Wf.wdA_field {s : St} (h : Wf s) {a b f v : Nat} (ha : own s a = true) (hb : own s b = true) (hf : (f : Int) + 1 < sizI (cls s a)) : Arena.wd (s.ws.set (a + f) v) (b - 1) = wdA s b := by
  have hp := h.in_ws ha
  rw [show a + f = a - 1 + (f + 1) by omega, h.wdA_set (i := f + 1) ha hb (by omega), if_neg (by omega)]

/-- What is laid so far: all fields of the objects ahead of the i-th one, and its first k. -/
structure Kv (s : St) (ws : List Nat) (i k : Nat) : Prop where
  len : ws.length = s.ws.length
  hdr : ∀ x, bn s x = true → wdA (ww s ws) x = wdA s x
  laid : ∀ i' k', i' < (objL s).length → k' < nf s i' → (i' < i ∨ (i' = i ∧ k' < k)) → Arena.wd ws (obA s i' + k') = obA s ((i' + k') % (objL s).length)
theorem Kv.start (s : St) : Kv s s.ws 0 0 := ⟨rfl, fun _ _ => rfl, fun i' k' _ _ h => by omega⟩
theorem Kv.next {s : St} {ws : List Nat} {i : Nat} (h : Kv s ws i (nf s i)) : Kv s ws (i + 1) 0 :=
  ⟨h.len, h.hdr, fun i' k' h1 h2 h3 => h.laid i' k' h1 h2 (by
    rcases h3 with h3 | h3
    · by_cases e : i' = i
      · subst e; exact .inr ⟨rfl, h2⟩
      · exact .inl (by omega)
    · omega)⟩
/-- An object's fields are as many as they were. -/
theorem Kv.fN {s : St} {ws : List Nat} {i k : Nat} (h : Kv s ws i k) (hw : Wf (ww s ws)) {j : Nat} (hj : j < (objL s).length) : fN (ww s ws) (obA s j) = nf s j ∧ fE (ww s ws) (obA s j) = 0 := by
  have hb := (obA_bn hj).1
  have hb2 : bn (ww s ws) (obA s j) = true := hb
  obtain ⟨h1, h2, _⟩ := obj_fields hw hb2
  exact ⟨by rw [h1, h.hdr _ hb]; rfl, h2⟩
theorem Kv.lE {s : St} {ws : List Nat} {i k : Nat} (h : Kv s ws i k) (hw : Wf (ww s ws)) {j l : Nat} (hj : j < (objL s).length) (hl : l < nf s j) : lE (ww s ws) (obA s j) l = 0 := by
  obtain ⟨h1, h2⟩ := h.fN hw hj
  rw [Hp.lE, if_pos h2, h1, if_pos ⟨by omega, by omega⟩]
theorem Kv.pos {s : St} {ws : List Nat} {i k : Nat} (h : Kv s ws i k) (hw : Wf (ww s ws)) {j l : Nat} (hj : j < (objL s).length) (hl : l < nf s j) : own (ww s ws) (obA s j) = true ∧ (l : Int) + 1 < sizI (cls (ww s ws) (obA s j)) ∧ obA s j + l < ws.length := by
  have hb := (obA_bn hj).1
  have hb2 : bn (ww s ws) (obA s j) = true := hb
  obtain ⟨h1, h2, h3, h4, h5, h6⟩ := obj_fields hw hb2
  rw [h.hdr _ hb] at h4
  have hl' : l < Hdr.obF (wdA s (obA s j)) := hl
  have h7 := (hw.in_ws h3).1
  have : ((ww s ws).ws.length : Int) = (ws.length : Int) := rfl
  exact ⟨h3, by omega, by omega⟩
theorem Kv.apart {s : St} {ws : List Nat} {i k : Nat} (_h : Kv s ws i k) (_hw : Wf (ww s ws)) (h4 : ∀ j, kAt s.ks j < 4) (hws : Wf s) {j l j' l' : Nat} (hj : j < (objL s).length) (hl : l < nf s j) (hj' : j' < (objL s).length) (hl' : l' < nf s j') (e : obA s j + l = obA s j' + l') : j = j' ∧ l = l' := by
  obtain ⟨a1, a2⟩ := obj_field_at hws (obA_bn hj).1 (obA_bn hj').1 hl hl' e
  exact ⟨obA_inj hws h4 hj hj' a1, a2⟩
theorem Kv.step {s : St} {ws : List Nat} {i k : Nat} (h : Kv s ws i k) (hw : Wf (ww s ws)) (h4 : ∀ j, kAt s.ks j < 4) (hws : Wf s) (hi : i < (objL s).length) (hk : k < nf s i) : Kv s (ws.set (obA s i + k) (obA s ((i + k) % (objL s).length))) i (k + 1) := by
  obtain ⟨p1, p2, p3⟩ := h.pos hw hi hk
  refine ⟨by rw [List.length_set]; exact h.len, fun x hx => ?_, fun i' k' h1 h2 h3 => ?_⟩
  · have hx2 : bn (ww s ws) x = true := hx
    have ho := (hw.born x hx2).1
    exact (hw.wdA_field p1 ho p2).trans (h.hdr x hx)
  · rw [Arena.wd_set]
    by_cases e : obA s i + k = obA s i' + k'
    · obtain ⟨rfl, rfl⟩ := h.apart hw h4 hws hi hk h1 h2 e
      rw [if_pos ⟨rfl, p3⟩]
    · rw [if_neg (fun x => e x.1)]
      refine h.laid i' k' h1 h2 ?_
      rcases h3 with h3 | ⟨h3, h5⟩
      · exact .inl h3
      · subst h3
        by_cases e2 : k' = k
        · subst e2; exact absurd rfl e
        · exact .inr ⟨rfl, by omega⟩

/-- What one more store leaves. -/
def ws2 (s : St) (ws : List Nat) (q0 q1 q2 : Int) : List Nat := if sE (ww s ws) q0 q1 q2 = 0 then ws.set (q0.toNat + q1.toNat) q2.toNat else ws
theorem sE_parts {s : St} {q0 q1 q2 : Int} (h : sE s q0 q1 q2 = 0) : takB s q0 = true ∧ 0 ≤ q1 ∧ q1 < (fN s q0 : Int) ∧ fN s q0 = Hdr.obF (wdA s q0.toNat) ∧ 0 ≤ q2 ∧ q2 ≤ (s.ws.length : Int) := by
  have hl : lE s q0 q1 = 0 := by
    unfold sE at h
    split at h
    · assumption
    · rename_i h2; exact absurd h h2
  have hm : mayV s q2 = true := by
    unfold sE at h
    rw [if_pos hl] at h
    split at h
    · assumption
    · omega
  rcases fE_cases s q0 with ⟨a1, a2, a3⟩ | ⟨a1, a3⟩
  · unfold lE at hl
    rw [if_pos a1] at hl
    split at hl
    · rename_i h3
      obtain ⟨m1, m2⟩ := mayV_true.1 hm
      exact ⟨a2, h3.1, h3.2, a3, m1, m2⟩
    · omega
  · unfold lE at hl
    rw [if_neg (by omega)] at hl
    omega
theorem Kv.last {s : St} {ws : List Nat} (h : Kv s ws (objL s).length 0) (hw : Wf (ww s ws)) (q0 q1 q2 : Int) :
    (ws2 s ws q0 q1 q2).length = s.ws.length ∧ (∀ x, bn s x = true → wdA (ww s (ws2 s ws q0 q1 q2)) x = wdA s x) ∧
    ∀ i k, i < (objL s).length → k < nf s i → (Arena.wd (ws2 s ws q0 q1 q2) (obA s i + k) : Int) = if sE (ww s ws) q0 q1 q2 = 0 ∧ (obA s i : Int) = q0 ∧ (k : Int) = q1 then q2 else (obA s ((i + k) % (objL s).length) : Int) := by
  unfold ws2
  by_cases hs : sE (ww s ws) q0 q1 q2 = 0
  · rw [if_pos hs]
    obtain ⟨t1, t2, t3, t4, t5, t6⟩ := sE_parts hs
    obtain ⟨b1, b2, b3, b4, b5⟩ := hw.in_arena t1
    obtain ⟨a, rfl⟩ := Int.eq_ofNat_of_zero_le (show 0 ≤ q0 by omega)
    obtain ⟨f, rfl⟩ := Int.eq_ofNat_of_zero_le t2
    obtain ⟨v, rfl⟩ := Int.eq_ofNat_of_zero_le t5
    simp only [Int.toNat_natCast] at *
    have hf : (f : Int) + 1 < sizI (cls (ww s ws) a) := by omega
    have hin := (hw.in_ws b4).1
    have hlw : ((ww s ws).ws.length : Int) = (ws.length : Int) := rfl
    refine ⟨by rw [List.length_set]; exact h.len, fun x hx => ?_, fun i k hi hk => ?_⟩
    · have hx2 : bn (ww s ws) x = true := hx
      exact (hw.wdA_field b4 (hw.born x hx2).1 hf).trans (h.hdr x hx)
    · obtain ⟨p1, p2, p3⟩ := h.pos hw hi hk
      rw [Arena.wd_set]
      by_cases e : a + f = obA s i + k
      · have := hw.apart (a := (a : Int)) (b := (obA s i : Int)) b4 p1 (i := (f : Int) + 1) (j := (k : Int) + 1) (by omega) (by omega) hf p2 (by omega)
        rw [if_pos ⟨e, p3⟩, if_pos ⟨hs, by omega, by omega⟩]
      · rw [if_neg (fun x => e x.1), if_neg (fun x => by omega), h.laid i k hi hk (.inl hi)]
  · rw [if_neg hs]
    exact ⟨h.len, h.hdr, fun i k hi hk => by rw [if_neg (fun x => hs x.1), h.laid i k hi hk (.inl hi)]⟩
theorem objL_len {s : St} : (objL s).length ≤ 128 * s.ks.length := by
  have h1 : (objL s).length ≤ nSl s := by
    unfold objL pkA pk
    refine Nat.le_trans (List.length_filter_le _ _) ?_
    simp
  exact Nat.le_trans h1 (allP_len s.c s.ks s.ks.length)
theorem obA_le {s : St} (h : Wf s) {i : Nat} (hi : i < (objL s).length) : obA s i ≤ s.ws.length := (h.bn_bd (obA_bn hi).1).2
theorem wrap_small {n : Nat} (h : n ≤ 1048576) : wrap64 (n : Int) = (n : Int) := by
  unfold wrap64
  omega
end Go.Proofs.YthpgnlcmpoldfaaGreatDoor.Hp
