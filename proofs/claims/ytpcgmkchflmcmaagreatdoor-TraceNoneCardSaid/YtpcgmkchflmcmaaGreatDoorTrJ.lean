/-
  slices.IndexFunc and DeleteFunc, over a row of numbers and a function that only looks.
-/
import Derived.Test.YtpcgmkchflmcmaaGreatDoorTrI
import Derived.Lib.SliceRun
namespace Go.Proofs.YtpcgmkchflmcmaaGreatDoor.Tr
open Go.RowKit Go.Shelf
open Class (below_drewN)
open Go.Proofs.YtpcgmkchflmcmaaGreatDoor.Row (Chg Rd Rd0 rowB rowB_none cell_of_block frozen_of_block other same cellsZ info_parts infoInt)

/-- A function that looks at a number, from whatever world K says. -/
structure Looks (pf : Nat) (bs : Array Value) (P : Int → Bool) (K : World → Prop) : Prop where
  enter : ∀ args w, (callFunc pf args).run Tryz.prog w = .ok (.enter pf args) w
  drew : ∀ W q, K W → K (W.drewN q)
  call : ∀ (a : Int) (W : World), K W → Calls Tryz.prog pf (bs.push (.int .i64 a)) W fun e w' => e = .returned (.bool (P a)) ∧ ∃ q, w' = W.drewN q

set_option maxRecDepth 100000 in
set_option maxHeartbeats 2000000 in
theorem index_any {pf : Nat} {bs : Array Value} {P : Int → Bool} {K : World → Prop} (hL : Looks pf bs P K) (p : Option Addr) (cap : Nat) (l : List Int) (w : World) (hk : K w) (hr : Rd0 w p l) (hlen : l.length ≤ 1048576) :
    Calls Tryz.prog 67 #[.slice p l.length cap, .func (.func pf) bs #[]] w fun e w' => (∃ q, w' = w.drewN q) ∧ ((e = .returned (.int .i64 (-1)) ∧ ∀ i, i < l.length → P (l.getD i 0) = false) ∨ ∃ j : Nat, j < l.length ∧ e = .returned (.int .i64 (j : Int)) ∧ P (l.getD j 0) = true ∧ ∀ i, i < j → P (l.getD i 0) = false) := by
  have HL := Lib.hid hL
  have HR := Lib.hid hr
  have HK := Lib.hid hk
  have eg := hL.enter
  clear hL hr hk
  go_enter Tryz.func67, Tryz.ntmps67
  go_wp2
  go_loopw [8] (fun x wr => ∃ i q : Nat, i ≤ l.length ∧ x = .int .i64 (i : Int) ∧ wr = w.drewN q ∧ ∀ k, k < i → P (l.getD k 0) = false) (fun x _ => l.length - (intOf x).toNat)
  case atStart => exact ⟨0, 0, Nat.zero_le _, rfl, rfl, fun k hk => absurd hk (Nat.not_lt_zero _)⟩
  case round =>
    obtain ⟨i, q, hi, rfl, rfl, hf⟩ := hrel
    have HF := Lib.hid hf
    clear hf
    by_cases hlt : i < l.length
    · have i0 : (0 : Int) ≤ (i : Int) := Int.natCast_nonneg _
      have i1 : (i : Int) < (l.length : Int) := by omega
      obtain ⟨g, off, hp, hc⟩ := HR.out i hlt
      subst hp
      have HC := Lib.hid (HL.out.call (l.getD i 0) (w.drewN q) (HL.out.drew _ _ HK.out))
      have HV : Hid (∀ v, v = l.getD i 0 → P v = P (l.getD i 0)) := Lib.hid (fun v e => by rw [e])
      obtain ⟨v, hv⟩ : ∃ v, l.getD i 0 = v := ⟨_, rfl⟩
      have HVV := Lib.hid hv
      rw [hv] at hc HC
      clear hv
      cases hb : P v with
      | true =>
        rw [hb] at HC
        go_wp2_with (refine HC.out.mono ?_; rintro e w3 ⟨rfl, q3, rfl⟩)
        go_ret
        exact ⟨⟨_, rfl⟩, .inr ⟨i, hlt, rfl, by rw [HVV.out]; exact hb, HF.out⟩⟩
      | false =>
        rw [hb] at HC
        go_wp2_with (refine HC.out.mono ?_; rintro e w3 ⟨rfl, q3, rfl⟩)
        go_roundw
        case rel => exact ⟨i + 1, _, by omega, by go_num, rfl, fun k hk => by
          by_cases e : k = i
          · rw [e, HVV.out]; exact hb
          · exact HF.out k (by omega)⟩
        case measure => simp [intOf]; omega
    · have i1 : ¬ (i : Int) < (l.length : Int) := by omega
      obtain rfl : i = l.length := by omega
      go_wp2
      go_ret
      exact ⟨⟨_, rfl⟩, .inl ⟨rfl, HF.out⟩⟩
/-- A row of numbers in a block, all of which may be laid. -/
def Rc (W : World) (g : Nat) (l : List Int) : Prop := ∀ k, k < l.length → W.cell? ⟨g, k, none⟩ = some (.int .i64 (l.getD k 0)) ∧ W.frozen? ⟨g, k, none⟩ = false
theorem Rc.set {W : World} {g : Nat} {l : List Int} (h : Rc W g l) {i : Nat} (_hi : i < l.length) (v : Int) : Rc (W.setCell ⟨g, i, none⟩ (.int .i64 v)) g (l.set i v) := fun k hk => by
  rw [List.length_set] at hk
  obtain ⟨h1, h2⟩ := h k hk
  refine ⟨?_, (World.frozen?_setCell ..).trans h2⟩
  by_cases e : i = k
  · subst e
    rw [same h1, List.getD_eq_getElem?_getD, List.getElem?_set_self hk]
    rfl
  · rw [other (by intro e2; exact e (congrArg Addr.off e2)), h1, List.getD_eq_getElem?_getD, List.getD_eq_getElem?_getD, List.getElem?_set_ne e]

/-- What is left of the first numbers. -/
def kpt (P : Int → Bool) (l : List Int) (j : Nat) : List Int := (l.take j).filter fun a => !P a
theorem kpt_succ (P : Int → Bool) (l : List Int) {j : Nat} (h : j < l.length) : kpt P l (j + 1) = kpt P l j ++ (if P (l.getD j 0) = true then [] else [l.getD j 0]) := by
  unfold kpt
  rw [← take_snoc l h, List.filter_append]
  congr 1
  by_cases e : P (l.getD j 0) = true
  · rw [if_pos e, List.filter_cons, if_neg (by rw [e]; decide)]; rfl
  · rw [if_neg e, List.filter_cons, if_pos (by simpa only [Bool.not_eq_true'] using eq_false_of_ne_true e)]; rfl
theorem kpt_all (P : Int → Bool) (l : List Int) (j : Nat) (h : ∀ i, i < j → P (l.getD i 0) = false) (hj : j ≤ l.length) : kpt P l j = l.take j := by
  unfold kpt
  rw [List.filter_eq_self]
  intro a ha
  obtain ⟨i, hi, rfl⟩ := List.mem_iff_getElem.1 ha
  rw [List.length_take] at hi
  have := h i (by omega)
  rw [List.getD_eq_getElem?_getD, List.getElem?_eq_getElem (by omega)] at this
  rw [List.getElem_take]
  simpa using this
/-- A row while it is thinned: the first i are what is left of the first j; from j on it is as it was. -/
structure Thin (P : Int → Bool) (l cur : List Int) (i j : Nat) : Prop where
  len : cur.length = l.length
  cnt : i = (kpt P l j).length
  lt : i < j
  le : j ≤ l.length
  head : cur.take i = kpt P l j
  tail : ∀ k, j ≤ k → cur.getD k 0 = l.getD k 0
theorem Thin.start {P : Int → Bool} {l : List Int} {j : Nat} (hj : j < l.length) (hp : P (l.getD j 0) = true) (h : ∀ i, i < j → P (l.getD i 0) = false) : Thin P l l j (j + 1) := by
  have e : kpt P l (j + 1) = l.take j := by rw [kpt_succ P l hj, if_pos hp, List.append_nil, kpt_all P l j h (by omega)]
  exact ⟨rfl, by rw [e, List.length_take]; omega, Nat.lt_succ_self _, hj, e.symm, fun _ _ => rfl⟩
theorem Thin.skip {P : Int → Bool} {l cur : List Int} {i j : Nat} (h : Thin P l cur i j) (hj : j < l.length) (hp : P (l.getD j 0) = true) : Thin P l cur i (j + 1) := by
  have e : kpt P l (j + 1) = kpt P l j := by rw [kpt_succ P l hj, if_pos hp, List.append_nil]
  exact ⟨h.len, by rw [e]; exact h.cnt, Nat.lt_succ_of_lt h.lt, hj, by rw [e]; exact h.head, fun k hk => h.tail k (by omega)⟩
theorem Thin.keep {P : Int → Bool} {l cur : List Int} {i j : Nat} (h : Thin P l cur i j) (hj : j < l.length) (hp : P (l.getD j 0) = false) : Thin P l (cur.set i (l.getD j 0)) (i + 1) (j + 1) := by
  have e : kpt P l (j + 1) = kpt P l j ++ [l.getD j 0] := by rw [kpt_succ P l hj, if_neg (by rw [hp]; decide)]
  have h1 := h.len
  have h2 := h.lt
  refine ⟨by rw [List.length_set]; exact h.len, by rw [e, List.length_append, ← h.cnt]; rfl, by omega, hj, ?_, fun k hk => ?_⟩
  · rw [e, ← h.head, List.take_add_one, List.take_set_of_le (Nat.le_refl _), List.getElem?_set_self (by omega)]
    rfl
  · rw [← h.tail k (by omega)]
    simp only [List.getD_eq_getElem?_getD]
    rw [List.getElem?_set_ne (by omega)]

theorem chg_setCells (g : Nat) : ∀ (vs : List Value) (o : Nat) (w : World), Chg (fun k => k = g) w (w.setCells g o vs)
  | [], _, w => Chg.refl _ w
  | v :: vs, o, w => (Chg.set (S := fun k => k = g) (Chg.refl _ w) (p := ⟨g, o, none⟩) (.inl rfl) v).trans (chg_setCells g vs (o + 1) _) (fun _ e => .inl e)
theorem zero_int : ∀ w : World, (zeroValue 3).run Tryz.prog w = .ok (.int .i64 0) w := fun w => by kernel_rfl

set_option maxRecDepth 100000 in
set_option maxHeartbeats 4000000 in
theorem delete_any {pf : Nat} {bs : Array Value} {P : Int → Bool} {K : World → Prop} (hL : Looks pf bs P K) (p : Option Addr) (cap : Nat) (l : List Int) (w : World) (hp : p = none ∧ l = [] ∨ ∃ g, p = some ⟨g, 0, none⟩ ∧ Rc w g l ∧ ∀ W, Chg (fun k => k = g) w W → K W) (hk : K w) (hcap : l.length ≤ cap) (hlen : l.length ≤ 1048576) :
    Calls Tryz.prog 31 #[.slice p l.length cap, .func (.func pf) bs #[]] w fun e w' => e = .returned (.slice p (l.filter fun a => !P a).length cap) ∧ Rd w' p (l.filter fun a => !P a) ∧ Chg (rowB p) w w' := by
  have hr : Rd0 w p l := fun j hj => by
    rcases hp with ⟨_, e⟩ | ⟨g, e, h, _⟩
    · rw [e] at hj; cases hj
    · exact ⟨g, 0, e, by rw [Nat.zero_add]; exact (h j hj).1⟩
  have HI := Lib.hid (index_any hL p cap l w hk hr hlen)
  have HL := Lib.hid hL
  have eg := hL.enter
  have hf : l.filter (fun a => !P a) = kpt P l l.length := by unfold kpt; rw [List.take_length]
  rw [hf]
  have HP := Lib.hid hp
  clear hL hr hp hk
  go_enter Tryz.func31, Tryz.ntmps31
  go_wp2_with fail
  refine HI.out.mono ?_
  rintro e w1 ⟨⟨q, rfl⟩, ⟨rfl, hno⟩ | ⟨j, hj, rfl, hPj, hno⟩⟩
  · have HN := Lib.hid hno
    clear hno
    go_wp2
    go_ret
    rw [kpt_all P l l.length HN.out (Nat.le_refl _), List.take_length]
    refine ⟨rfl, ?_, Chg.of_below (below_drewN (Below.refl _ _) q)⟩
    rcases HP.out with ⟨e1, e2⟩ | ⟨g, e, h, _⟩
    · exact .inl ⟨e1, e2⟩
    · exact .inr ⟨g, 0, e, fun j hj => by rw [Nat.zero_add]; exact (h j hj).1⟩
  · obtain ⟨g, rfl, hrc, hK⟩ : ∃ g, p = some ⟨g, 0, none⟩ ∧ Rc w g l ∧ ∀ W, Chg (fun k => k = g) w W → K W := HP.out.resolve_left (fun e => by rw [e.2] at hj; cases hj)
    have HRC := Lib.hid hrc
    have HK := Lib.hid hK
    have HTH := Lib.hid (Thin.start hj hPj hno)
    have j0 : (0 : Int) ≤ (j : Int) := Int.natCast_nonneg _
    have hjn : ((j : Int) == -1) = false := by
      rw [beq_eq_false_iff_ne]
      omega
    clear hrc hK hno hPj HP
    go_wp2
    go_loopw [5, 6] (fun x y wr => ∃ (i j : Nat) (cur : List Int), x = .int .i64 (i : Int) ∧ y = .int .i64 (j : Int) ∧ Thin P l cur i j ∧ Rc wr g cur ∧ Chg (fun k => k = g) w wr) (fun _ y _ => l.length - (intOf y).toNat)
    case atStart => exact ⟨j, j + 1, l, rfl, by go_num, HTH.out, HRC.out, Chg.of_below (below_drewN (Below.refl _ _) q)⟩
    case round =>
      obtain ⟨i, jj, cur, rfl, rfl, hth, hrc, hch⟩ := hrel
      by_cases hlt : jj < l.length
      · have c0 : (0 : Int) ≤ (jj : Int) := Int.natCast_nonneg _
        have c1 : (jj : Int) < (l.length : Int) := by omega
        have d0 : (0 : Int) ≤ (i : Int) := Int.natCast_nonneg _
        have d1 : (i : Int) < (l.length : Int) := by have := hth.lt; omega
        have hcl : wr.cell? ⟨g, jj, none⟩ = some (.int .i64 (l.getD jj 0)) := by rw [← hth.tail jj (Nat.le_refl _)]; exact (hrc jj (by rw [hth.len]; exact hlt)).1
        obtain ⟨hci, hfi⟩ := hrc i (by rw [hth.len]; have := hth.lt; omega)
        have HCC := Lib.hid (HL.out.call (l.getD jj 0) wr (HK.out wr hch))
        have HX := Lib.hid (And.intro hth (And.intro hrc hch))
        obtain ⟨v, hv⟩ : ∃ v, l.getD jj 0 = v := ⟨_, rfl⟩
        have HV := Lib.hid hv
        rw [hv] at hcl HCC
        clear hv hth hrc hch
        generalize cur.getD i 0 = u at hci
        cases hb : P v with
        | true =>
          rw [hb] at HCC
          go_wp2_with (refine HCC.out.mono ?_; rintro e w3 ⟨rfl, q3, rfl⟩)
          go_roundw
          case rel => exact ⟨i, jj + 1, cur, rfl, by go_num, HX.out.1.skip hlt (by rw [HV.out]; exact hb), fun k hk => HX.out.2.1 k hk, HX.out.2.2.drewN q3⟩
          case measure => simp [intOf]; omega
        | false =>
          rw [hb] at HCC
          go_wp2_with (refine HCC.out.mono ?_; rintro e w3 ⟨rfl, q3, rfl⟩)
          go_roundw
          case rel => exact ⟨i + 1, jj + 1, _, by go_num, by go_num, HX.out.1.keep hlt (by rw [HV.out]; exact hb), by rw [HV.out]; exact Rc.set (W := wr.drewN q3) (fun k hk => HX.out.2.1 k hk) (by rw [HX.out.1.len]; omega) v, (HX.out.2.2.drewN q3).set (.inl rfl) _⟩
          case measure => simp [intOf]; omega
      · have c1 : ¬ (jj : Int) < (l.length : Int) := by omega
        have d0 : (0 : Int) ≤ (i : Int) := Int.natCast_nonneg _
        have d1 : (i : Int) < (l.length : Int) := by have := hth.lt; have := hth.le; omega
        obtain rfl : jj = l.length := by have := hth.le; omega
        have HX := Lib.hid (And.intro hth (And.intro hrc hch))
        clear hth hrc hch
        have hclr : ∀ ty : TypeId, (Builtin.clear_ #[28] ty #[.slice (some ⟨g, i, none⟩) (l.length - i) (cap - i)]).run Tryz.prog wr = .ok (.tuple #[]) (wr.setCells g i (List.replicate (l.length - i) (.int .i64 0))) := fun ty =>
          Lib.run_clear_slice wr 28 3 ty (.int .i64 0) Tryz.underlying28 zero_int rfl rfl g i (l.length - i) (cap - i) (by omega) (fun k hk => by rw [(HX.out.2.1 (i + k) (by rw [HX.out.1.len]; omega)).1]; rfl) (fun k hk => (HX.out.2.1 (i + k) (by rw [HX.out.1.len]; omega)).2)
        go_wp2
        go_ret
        refine ⟨by rw [← HX.out.1.cnt]; rfl, .inr ⟨g, 0, rfl, fun k hk => ?_⟩, (HX.out.2.2.trans (chg_setCells g _ i wr) (fun _ e => .inl e)).mono (fun k e => by rw [e]; rfl)⟩
        rw [← HX.out.1.cnt] at hk
        rw [Nat.zero_add, World.cell?_setCells_out g _ i wr ⟨g, k, none⟩ (fun _ _ => .inl hk), (HX.out.2.1 k (by rw [HX.out.1.len]; omega)).1, ← HX.out.1.head]
        simp only [List.getD_eq_getElem?_getD]
        rw [List.getElem?_take_of_lt hk]
end Go.Proofs.YtpcgmkchflmcmaaGreatDoor.Tr
