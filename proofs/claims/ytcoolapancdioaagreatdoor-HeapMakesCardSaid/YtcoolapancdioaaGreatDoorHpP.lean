/-
  All slots for which something holds; all objects, all slots in hand.
-/
import Derived.Test.YtcoolapancdioaaGreatDoorHpN
namespace Go.Proofs.YtcoolapancdioaaGreatDoor.Hp
open Go.RowKit Go.Shelf
open Class (isB isB_true isB_false is_any sizI sizI_bd roomI SizTab below_drewN)
open Blk (Cfg TbIs TbAt allP valA all_fn all1_told cellsF collect_any kAt)
open Go.Proofs.YtcoolapancdioaaGreatDoor.Row (Chg)
open Go.Proofs.YtcoolapancdioaaGreatDoor.Addr (Tabs)
attribute [local go_sem] Oper.semAt_some

/-- A function that tells of each address whether something holds. -/
def holdsF (f : Nat) (v : Value) : Value := .func (.func f) #[v] #[]
theorem slots_fn (q : Option Addr) (f : Nat) (w : World) : Calls Tryz.prog 93 #[.pointer q, holdsF f (.pointer q)] w fun e w' => e = .returned (.func (.func 125) #[] #[.pointer (some ⟨w.heap.size, 0, none⟩), .pointer (some ⟨w.heap.size + 1, 0, none⟩)]) ∧
    (w.alloc (.cells #[.pointer q] 27)).alloc (.cells #[holdsF f (.pointer q)] 46) = w' := by
  unfold holdsF
  go_enter Tryz.func93, Tryz.ntmps93
  go_wp2
  go_ret
  exact ⟨rfl, rfl⟩
set_option maxRecDepth 100000 in
set_option maxHeartbeats 1000000 in
theorem slots1_nil (m Bh Bf : Nat) (T : World → Prop) (w : World) (hB : w.cell? ⟨Bh, 0, none⟩ = some (.pointer none)) :
    SeqTold Fence.wide m Tryz.prog 125 #[.pointer (some ⟨Bh, 0, none⟩), .pointer (some ⟨Bf, 0, none⟩)] 0 (fun _ => #[.int .i64 0]) T w := by
  refine SeqTold.any (n := 5) ?_
  intro l J Jx W hW hJ _ _ _ h0
  obtain ⟨O0, hj0, hO0⟩ := h0
  have cB : W.cell? ⟨Bh, 0, none⟩ = some (.pointer none) := (hW.cell (p := ⟨Bh, 0, none⟩) (World.block_lt_of_cell? w _ hB)).trans hB
  have lB := World.block_lt_of_cell? W _ cB
  simp only at lB
  have HJ := Lib.hid (hJ.alloc hj0 hO0 (Nat.le_refl _) ((Below.refl _ _).alloc (Nat.le_refl _) (.cells #[.func (.yield l) #[] #[]] 46)))
  have HO := Lib.hid hO0
  clear hj0 hO0 hJ hW
  refine callsIn_of_wp_marks Tryz.func125 rfl trivial ?_ rfl
  simp only [Tryz.ntmps125, List.size_toArray, List.length_cons, List.length_nil, Nat.reduceAdd, Nat.reduceSub, Array.replicate_succ, Array.replicate_zero, List.push_toArray, List.append_toArray, List.nil_append, List.cons_append]
  gi_wp2
  exact ⟨_, results_none rfl _ _ _, ⟨_, rfl⟩, O0, fun k hk => by have := HO.out k hk; simp; omega, by simp, HJ.out⟩
theorem none_nil (f : Nat) (w : World) : Calls Tryz.prog 92 #[.func (.func 125) #[] #[.pointer (some ⟨w.heap.size, 0, none⟩), .pointer (some ⟨w.heap.size + 1, 0, none⟩)]] ((w.alloc (.cells #[.pointer none] 27)).alloc (.cells #[holdsF f (.pointer none)] 46)) fun e w' => ∃ p cap, e = .returned (.slice p 0 cap) ∧ Below w.heap.size w w' := by
  have hb := two_new (w := w) (.pointer none) (holdsF f (.pointer none)) 27 46
  refine (collect_any 125 #[.pointer (some ⟨w.heap.size, 0, none⟩), .pointer (some ⟨w.heap.size + 1, 0, none⟩)] 0 (fun _ => 0) (fun _ => True) _ (by decide) (enters_of Tryz.func125 (by kernel_rfl) rfl)
    (slots1_nil 4 w.heap.size (w.heap.size + 1) (fun _ => True) _ (by simp)) (fun _ _ => trivial)).mono ?_
  rintro e w' ⟨p, cap, rfl, _, hb2⟩
  exact ⟨p, cap, rfl, hb.trans (hb2.mono hb.size)⟩
theorem objects_nil (w : World) : Calls Tryz.prog 36 #[.pointer none] w fun e w' => ∃ p cap, e = .returned (.slice p 0 cap) ∧ Below w.heap.size w w' := by
  have HS := Lib.hid (slots_fn none 20 w)
  have HC := Lib.hid (none_nil 20 w)
  unfold holdsF at HS HC
  go_enter Tryz.func36, Tryz.ntmps36
  go_wp2_with (first
    | (go_at_call 93; refine HS.out.mono ?_; rintro e w1 ⟨rfl, rfl⟩)
    | (go_at_call 92; refine HC.out.mono ?_; rintro e w1 ⟨p, cap, rfl, hb⟩))
  go_ret
  exact ⟨p, cap, rfl, hb⟩
theorem hands_nil (w : World) : Calls Tryz.prog 38 #[.pointer none] w fun e w' => ∃ p cap, e = .returned (.slice p 0 cap) ∧ Below w.heap.size w w' := by
  have HS := Lib.hid (slots_fn none 95 w)
  have HC := Lib.hid (none_nil 95 w)
  unfold holdsF at HS HC
  go_enter Tryz.func38, Tryz.ntmps38
  go_wp2_with (first
    | (go_at_call 93; refine HS.out.mono ?_; rintro e w1 ⟨rfl, rfl⟩)
    | (go_at_call 92; refine HC.out.mono ?_; rintro e w1 ⟨p, cap, rfl, hb⟩))
  go_ret
  exact ⟨p, cap, rfl, hb⟩

/-- The slots for which something holds, up to the j-th one. -/
def pk (s : St) (P : Int → Bool) (j : Nat) : List Int := ((List.range j).map (valA s.c s.ks)).filter P
theorem pk_succ (s : St) (P : Int → Bool) (j : Nat) : pk s P (j + 1) = pk s P j ++ (if P (valA s.c s.ks j) = true then [valA s.c s.ks j] else []) := by
  unfold pk
  rw [List.range_succ, List.map_append, List.filter_append]
  congr 1
  simp only [List.map_cons, List.map_nil]
  cases h : P (valA s.c s.ks j) <;> simp [h]
def nSl (s : St) : Nat := (allP s.c s.ks s.ks.length).length
/-- All of them. -/
def pkA (s : St) (P : Int → Bool) : List Int := pk s P (nSl s)
theorem pk_prefix (s : St) (P : Int → Bool) {i j : Nat} (h : i ≤ j) : pk s P i <+: pk s P j := by
  obtain ⟨k, rfl⟩ : ∃ k, j = i + k := ⟨j - i, by omega⟩
  induction k with
  | zero => exact List.prefix_rfl
  | succ k ih => exact (ih (by omega)).trans (by rw [← Nat.add_assoc, pk_succ]; exact List.prefix_append _ _)
theorem pk_at (s : St) (P : Int → Bool) {j : Nat} (hj : j < nSl s) (hP : P (valA s.c s.ks j) = true) : (pk s P j).length < (pkA s P).length ∧ (pkA s P).getD (pk s P j).length 0 = valA s.c s.ks j ∧ (pk s P (j + 1)).length = (pk s P j).length + 1 := by
  have h1 := pk_succ s P j
  rw [if_pos hP] at h1
  obtain ⟨t, ht⟩ := pk_prefix s P (show j + 1 ≤ nSl s from hj)
  have h2 : pkA s P = (pk s P j ++ [valA s.c s.ks j]) ++ t := by rw [← h1]; exact ht.symm
  refine ⟨by rw [h2]; simp, ?_, by rw [h1]; simp⟩
  rw [h2, List.append_assoc, List.getD_eq_getElem?_getD, List.getElem?_append_right (Nat.le_refl _), Nat.sub_self]
  rfl
theorem pk_no (s : St) (P : Int → Bool) {j : Nat} (hP : P (valA s.c s.ks j) = false) : pk s P (j + 1) = pk s P j := by
  rw [pk_succ, hP]; simp

set_option maxRecDepth 100000 in
set_option maxHeartbeats 4000000 in
theorem slots1_told {H : Nat} {d : Ids} {s : St} {mm : Nat} (m Bh Bf f : Nat) (P : Int → Bool) (w0 w : World) (h : Is w0 H d s mm) (ht : Tabs w0) (hBh : w0.cell? ⟨Bh, 0, none⟩ = some (.pointer (some ⟨H, 0, none⟩))) (hBf : w0.cell? ⟨Bf, 0, none⟩ = some (holdsF f (.pointer (some ⟨H, 0, none⟩))))
    (hf : ∀ (a : Int) (W : World), Below w0.heap.size w0 W → Calls Tryz.prog f #[.pointer (some ⟨H, 0, none⟩), .int .i64 a] W fun e w' => e = .returned (.bool (P a)) ∧ ∃ q, w' = W.drewN q) (eg : ∀ args w, (callFunc f args).run Tryz.prog w = .ok (.enter f args) w) :
    SeqTold Fence.wide m Tryz.prog 125 #[.pointer (some ⟨Bh, 0, none⟩), .pointer (some ⟨Bf, 0, none⟩)] (pkA s P).length (fun i => #[.int .i64 ((pkA s P).getD i 0)]) (fun W => Below w0.heap.size w0 W) w := by
  refine SeqTold.any (n := 8) ?_
  intro l J Jx W hW hJ hJx hT hY h0
  obtain ⟨O0, hj0, hO0⟩ := h0
  have hTW := hT _ _ _ hj0
  have cBh : W.cell? ⟨Bh, 0, none⟩ = some (.pointer (some ⟨H, 0, none⟩)) := (hTW.cell (p := ⟨Bh, 0, none⟩) (World.block_lt_of_cell? w0 _ hBh)).trans hBh
  have lBh := World.block_lt_of_cell? w0 _ hBh
  have lBf := World.block_lt_of_cell? w0 _ hBf
  simp only at lBh lBf
  have hW0 := hTW.size
  have hHl := h.ltH
  have hBhW : Bh < W.heap.size := by omega
  have hHW : H < W.heap.size := by omega
  have HI := Lib.hid (fun (Y : World) (hb : Below w0.heap.size w0 Y) => h.later hb)
  have HTab := Lib.hid (fun (Y : World) (hb : Below w0.heap.size w0 Y) => ht.later hb)
  have HBh := Lib.hid (fun (Y : World) (hb : Below w0.heap.size w0 Y) => (hb.cell (p := ⟨Bh, 0, none⟩) lBh).trans hBh)
  have HBf := Lib.hid (fun (Y : World) (hb : Below w0.heap.size w0 Y) => (hb.cell (p := ⟨Bf, 0, none⟩) lBf).trans hBf)
  have HF := Lib.hid hf
  have HJ := Lib.hid hJ
  have HJX := Lib.hid hJx
  have HTT := Lib.hid hT
  have HY := Lib.hid hY
  have HO := Lib.hid hO0
  have HJ0 := Lib.hid hj0
  have hcT := (h.later hTW).cT
  clear h ht hBh hBf hW hJ hJx hT hY hO0 hj0 hf hTW
  refine callsIn_of_wp_marks Tryz.func125 rfl trivial ?_ rfl
  simp only [Tryz.ntmps125, List.size_toArray, List.length_cons, List.length_nil, Nat.reduceAdd, Nat.reduceSub, Array.replicate_succ, Array.replicate_zero, List.push_toArray, List.append_toArray, List.nil_append, List.cons_append]
  gi_wp2_with (refine ⟨trivial, ?_⟩; gi_at_call 126; refine (callsIn_wide.2 (all_fn _ _)).mono ?_; rintro e w'' ⟨rfl, rfl⟩)
  generalize hX : World.alloc _ _ = X
  have bX : Below W.heap.size W X := by rw [← hX]; exact two_new _ _ _ _
  have hsX : X.heap.size = W.heap.size + 2 := by rw [← hX]; simp
  have xY : Boxed X W.heap.size 46 (.func (.yield l) #[] #[]) := by rw [← hX]; exact (Boxed.new _ _ _).alloc _
  have xT : Boxed X (W.heap.size + 1) 63 (.pointer (some ⟨d.T, 0, none⟩)) := by rw [← hX]; exact boxed_new (by simp)
  have hbd : Below w0.heap.size w0 X := by
    have := HTT.out _ _ _ HJ0.out
    exact this.trans (bX.mono hW0)
  have HB0 := Lib.hid hbd
  clear hX hbd hcT
  refine wpIn_rangeFunc_told rfl (by decide) (gf := 142) (lb := #[.pointer (some ⟨W.heap.size + 1, 0, none⟩)]) rfl trivial (enters_of Tryz.func142 (by kernel_rfl) rfl)
    (N := nSl s) (all1_told 7 (W.heap.size + 1) d.T d.baseT d.capT s.c s.ks d.pt X (HI.out X HB0.out).wf.right (HI.out X HB0.out).wf.full) (Below.refl _ _) (fun _ => rfl)
    (fun O i Y => J O (pk s P i).length Y ∧ X.heap.size ≤ Y.heap.size ∧ Boxed Y W.heap.size 46 (.func (.yield l) #[] #[]) ∧ Boxed Y (W.heap.size + 1) 63 (.pointer (some ⟨d.T, 0, none⟩)) ∧ ∀ k, O k → k < W.heap.size ∨ X.heap.size ≤ k)
    (fun cc O i Y => cc = .ret ∧ ∃ q, q < (pkA s P).length ∧ Jx O (q + 1) Y ∧ W.heap.size ≤ Y.heap.size)
    ?hI ?hIx ?hT ?h0
    (fun i => { tmps := #[.func (.yield l) #[] #[], .pointer (some ⟨Bh, 0, none⟩), .pointer (some ⟨Bf, 0, none⟩), .pointer (some ⟨W.heap.size, 0, none⟩), .int .i64 (valA s.c s.ks i), .pointer (some ⟨H, 0, none⟩), .bool false, .pointer (some ⟨H, 0, none⟩), .pointer (some ⟨H, 0, none⟩), .pointer (some ⟨H, 1, none⟩), .pointer (some ⟨d.T, 0, none⟩), .func (.func 142) #[] #[.pointer (some ⟨W.heap.size + 1, 0, none⟩)], .int .i64 (valA s.c s.ks i), undef, undef, undef, undef, undef, undef, undef, undef, undef], defers := [] }) ?assign ?body ?done ?stop
  case hI =>
    rintro O i X' Y ⟨h1, h2, h3, h4, h5⟩ hb hk
    exact ⟨HJ.out O _ X' Y h1 (hb.mono (by omega)) hk, Nat.le_trans h2 hb.size, Boxed.below h3 hb (by omega), Boxed.below h4 hb (by omega), h5⟩
  case hIx =>
    rintro cc O i X' Y ⟨h1, q, hq, h2, h3⟩ hb hk
    exact ⟨h1, q, hq, HJX.out O _ X' Y h2 (hb.mono (by omega)) hk, Nat.le_trans h3 hb.size⟩
  case hT =>
    rintro O i Y ⟨h1, h2, h3, h4, h5⟩
    have hb := HTT.out _ _ _ h1
    exact ⟨HTab.out Y hb, (HI.out Y hb).tb, h4.cell⟩
  case h0 => exact ⟨O0, ⟨HJ.out.alloc HJ0.out HO.out (Nat.le_refl _) bX, Nat.le_refl _, xY, xT, fun k hk => .inl (HO.out k hk)⟩, fun k hk => by have := HO.out k hk; omega⟩
  case assign =>
    intro l' i Y K hi hK
    gi_wp2
    exact hK
  case body =>
    rintro l' O i Y _ _ hi ⟨h1, h2, h3, h4, h5⟩ hlt _
    have hb := HTT.out _ _ _ h1
    have kf := HBf.out Y hb
    unfold holdsF at kf
    have kY := h3.cell
    have HFa := Lib.hid (HF.out (valA s.c s.ks i) Y hb)
    cases hP : P (valA s.c s.ks i) with
    | false =>
      rw [hP] at HFa
      have hpk := pk_no s P hP
      have HFin : Hid (∀ q, toldPost X.heap.size (fun O i Y => J O (pk s P i).length Y ∧ X.heap.size ≤ Y.heap.size ∧ Boxed Y W.heap.size 46 (.func (.yield l) #[] #[]) ∧ Boxed Y (W.heap.size + 1) 63 (.pointer (some ⟨d.T, 0, none⟩)) ∧ ∀ k, O k → k < W.heap.size ∨ X.heap.size ≤ k) (fun cc O i Y => cc = .ret ∧ ∃ q, q < (pkA s P).length ∧ Jx O (q + 1) Y ∧ W.heap.size ≤ Y.heap.size) O i Y .normal { tmps := #[], defers := [] } (Y.drewN q)) := Lib.hid fun q =>
        ⟨O, ⟨Nat.le_refl _, fun _ _ _ _ => rfl, fun _ e => .inl e, hlt⟩, (by rw [hpk]; exact HJ.out O _ Y _ h1 ⟨rfl, rfl, rfl, Nat.le_refl _, fun _ _ => rfl⟩ (fun _ _ => rfl)), h2, h3, h4, h5⟩
      clear h1 h2 h3 h4 h5 hlt hb
      gi_wp2_with (refine ⟨trivial, ?_⟩; refine (callsIn_wide.2 HFa.out).mono ?_; rintro e W3 ⟨rfl, q, rfl⟩)
      refine ⟨fun _ h => (by cases h), ?_⟩
      gi_wp2
      exact HFin.out q
    | true =>
      rw [hP] at HFa
      obtain ⟨a1, a2, a3⟩ := pk_at s P hi hP
      have HYY : Hid (∀ q, ∃ fn tmps asg bdy, _) := Lib.hid fun q => yieldAt_any (m := 5) (HY.out O _ (Y.drewN q) a1 (HJ.out O _ Y _ h1 ⟨rfl, rfl, rfl, Nat.le_refl _, fun _ _ => rfl⟩ (fun _ _ => rfl)) hlt (by show W.heap.size ≤ Y.heap.size; omega))
      have hn : ∀ k, W.heap.size ≤ k → k < X.heap.size → ¬ O k := fun k b1 b2 b3 => by have := h5 k b3; omega
      have HFin : Hid (∀ q O' Y', Turn W.heap.size O O' (Y.drewN q) Y' → J O' ((pk s P i).length + 1) Y' → toldPost X.heap.size (fun O i Y => J O (pk s P i).length Y ∧ X.heap.size ≤ Y.heap.size ∧ Boxed Y W.heap.size 46 (.func (.yield l) #[] #[]) ∧ Boxed Y (W.heap.size + 1) 63 (.pointer (some ⟨d.T, 0, none⟩)) ∧ ∀ k, O k → k < W.heap.size ∨ X.heap.size ≤ k) (fun cc O i Y => cc = .ret ∧ ∃ q, q < (pkA s P).length ∧ Jx O (q + 1) Y ∧ W.heap.size ≤ Y.heap.size) O i Y .normal { tmps := #[], defers := [] } Y') := Lib.hid fun q O' Y' ht hj => by
        have h3' : Boxed (Y.drewN q) W.heap.size 46 (.func (.yield l) #[] #[]) := h3
        have h4' : Boxed (Y.drewN q) (W.heap.size + 1) 63 (.pointer (some ⟨d.T, 0, none⟩)) := h4
        refine ⟨O', ⟨ht.size, fun k c1 c2 c3 => ht.keep k (by omega) c2 c3, ht.grow, ht.lt⟩, by rw [a3]; exact hj, Nat.le_trans h2 ht.size, ht.boxed h3' (Nat.le_refl _) (hn _ (Nat.le_refl _) (by omega)), ht.boxed h4' (by omega) (hn _ (by omega) (by omega)), fun k hk => ?_⟩
        rcases ht.grow k hk with h | h
        · exact h5 k h
        · exact .inr (Nat.le_trans h2 h)
      have HFx : Hid (∀ q O' Y', Turn W.heap.size O O' (Y.drewN q) Y' → Jx O' ((pk s P i).length + 1) Y' → toldPost X.heap.size (fun O i Y => J O (pk s P i).length Y ∧ X.heap.size ≤ Y.heap.size ∧ Boxed Y W.heap.size 46 (.func (.yield l) #[] #[]) ∧ Boxed Y (W.heap.size + 1) 63 (.pointer (some ⟨d.T, 0, none⟩)) ∧ ∀ k, O k → k < W.heap.size ∨ X.heap.size ≤ k) (fun cc O i Y => cc = .ret ∧ ∃ q, q < (pkA s P).length ∧ Jx O (q + 1) Y ∧ W.heap.size ≤ Y.heap.size) O i Y .ret { tmps := #[], defers := [] } Y') := Lib.hid fun q O' Y' ht hj =>
        ⟨O', ⟨ht.size, fun k c1 c2 c3 => ht.keep k (by omega) c2 c3, ht.grow, ht.lt⟩, rfl, _, a1, hj, by have := ht.size; have : Y.heap.size ≤ Y'.heap.size := this; omega⟩
      clear h1 h2 h3 h4 h5 hlt hb a1 a3 hn
      rw [a2] at HYY
      gi_wp2_with (refine ⟨trivial, ?_⟩; refine (callsIn_wide.2 HFa.out).mono ?_; rintro e W3 ⟨rfl, q, rfl⟩; obtain ⟨fn, tmps, asg, bdy, hy, hR'⟩ := HYY.out q)
      refine RoundIn.mono (F := Fence.wide.inRound l') hR' ?_
      rintro e Y' ⟨O', ht, (⟨rfl, hj⟩ | ⟨rfl, hj⟩)⟩
      · have HX := Lib.hid (HFin.out q O' Y' ht hj)
        clear ht hj hy hR' HFin HFx
        gi_wp2
        exact HX.out
      · have HX := Lib.hid (HFx.out q O' Y' ht hj)
        clear ht hj hy hR' HFin HFx
        gi_wp2
        exact HX.out
  case done =>
    rintro D O Y hD ⟨h1, h2, h3, h4, h5⟩ hn hlt hK
    have hj3 : J O (pkA s P).length (Y.putObj D (.deferred none)) := HJ.out.putObj h1 (by omega) hn _
    have HFn := Lib.hid hj3
    clear hj3 h1 h3 h4 h5
    gi_wp2
    refine ⟨by simp, .inl ⟨_, _, rfl, run_takeDeferred hK, ?_⟩⟩
    exact ⟨_, results_none rfl _ _ _, ⟨_, rfl⟩, O, fun k hk => by simpa using hlt k hk, by simp; omega, .inl HFn.out⟩
  case stop =>
    rintro D cc O i Y hD hi ⟨rfl, q, hq, h1, h2⟩ hn hlt hK
    have hj3 : Jx O (q + 1) (Y.putObj D (.deferred none)) := HJX.out.putObj h1 (by omega) hn _
    have HFn := Lib.hid hj3
    clear hj3 h1
    gi_wp2
    refine ⟨by simp, .inl ⟨_, _, rfl, run_takeDeferred hK, ?_⟩⟩
    exact ⟨_, results_none rfl _ _ _, ⟨_, rfl⟩, O, fun k hk => by simpa using hlt k hk, by simpa using h2, .inr ⟨q, hq, HFn.out⟩⟩
end Go.Proofs.YtcoolapancdioaaGreatDoor.Hp
