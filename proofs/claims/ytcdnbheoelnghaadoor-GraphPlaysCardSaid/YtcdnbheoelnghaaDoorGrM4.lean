/-
  Do, of whatever operation; the example.
-/
import Derived.Test.YtcdnbheoelnghaaDoorGrN
import Derived.Test.YtcdnbheoelnghaaDoorGrG1
import Derived.Test.YtcdnbheoelnghaaDoorGrG2
import Derived.Test.YtcdnbheoelnghaaDoorGrG3
import Derived.Test.YtcdnbheoelnghaaDoorGrG4
import Derived.Test.YtcdnbheoelnghaaDoorGrG5
import Derived.Test.YtcdnbheoelnghaaDoorGrG6
import Derived.Test.YtcdnbheoelnghaaDoorGrG7
import Derived.Test.YtcdnbheoelnghaaDoorGrG8
import Derived.Test.YtcdnbheoelnghaaDoorGrI2
import Derived.Test.YtcdnbheoelnghaaDoorGrJ1
import Derived.Test.YtcdnbheoelnghaaDoorGrJ2
import Derived.Test.YtcdnbheoelnghaaDoorGrJ3
import Derived.Test.YtcdnbheoelnghaaDoorGrI1
import Derived.Test.YtcdnbheoelnghaaDoorConfigR
namespace Go.Proofs.YtcdnbheoelnghaaDoor.Gra
open Go.RowKit Go.Proofs.YtcdnbheoelnghaaDoor.Opr
open Go.Proofs.YtcdnbheoelnghaaDoor.Row (rowB rowB_none Chg)

/-- What a register has. -/
def rg (s : GSt) (m r : Int) : Int := (s.E (4 + 2 * m.toNat)).getD r.toNat 0
/-- The row of an object, by its number. -/
def ob (v : Int) : Nat := 3 + 2 * (v - 1).toNat
/-- What an operation whose check is OK tells, its error's number, and what there is then. -/
def gd (s : GSt) (m k a x cc : Int) : Int × Int × GSt :=
  if k = 1 then ((s.nO : Int) + 1, 0, (s.add x.toNat).set (4 + 2 * m.toNat) a.toNat ((s.nO : Int) + 1))
  else if k = 2 then
    (if rg s m x = 0 then (0, 6, s) else if ¬ (0 ≤ cc ∧ cc < (s.E (ob (rg s m x))).length) then (0, 7, s)
      else ((s.E (ob (rg s m x))).getD cc.toNat 0, 0, s.set (4 + 2 * m.toNat) a.toNat ((s.E (ob (rg s m x))).getD cc.toNat 0)))
  else if k = 3 then
    (if rg s m a = 0 then (0, 6, s) else if ¬ (0 ≤ x ∧ x < (s.E (ob (rg s m a))).length) then (0, 7, s)
      else (0, 0, s.set (ob (rg s m a)) x.toNat (rg s m cc)))
  else if k = 4 then ((s.E 2).getD x.toNat 0, 0, s.set (4 + 2 * m.toNat) a.toNat ((s.E 2).getD x.toNat 0))
  else if k = 5 then (0, 0, s.set 2 a.toNat (rg s m x))
  else if k = 6 then (0, 0, s.set (4 + 2 * m.toNat) a.toNat 0)
  else if k = 7 then (rg s m x, 0, s.set (4 + 2 * m.toNat) a.toNat (rg s m x))
  else (0, 0, s)
def gdo (c : C7) (s : GSt) (m k a x cc : Int) : Int × Int × GSt :=
  if ¬ (0 ≤ m ∧ m < c.m) then (0, 4, s) else if checkE c.b c.wd c.m c.r c.ce c.lg c.st k a x cc ≠ 0 then (0, checkE c.b c.wd c.m c.r c.ce c.lg c.st k a x cc, s) else gd s m k a x cc
/-- What always holds of a graph. -/
structure GWf (M r nc : Nat) (s : GSt) : Prop where
  nR : s.nR = M
  reg : ∀ m, m < M → (s.E (4 + 2 * m)).length = r
  cel : (s.E 2).length = nc
  len : ∀ i, i < s.nO → (s.E (3 + 2 * i)).length ≤ 15
  val : ∀ j, s.V j → ∀ k, k < (s.E j).length → 0 ≤ (s.E j).getD k 0 ∧ (s.E j).getD k 0 ≤ s.nO
theorem fault_reg {r ce n : Int} (h : faultE r ce 1 n = 0) : 0 ≤ n ∧ n < r := by
  unfold faultE belowB at h
  by_cases h2 : 0 ≤ n ∧ n < r
  · exact h2
  · simp [h2] at h
theorem fault_cell {r ce n : Int} (h : faultE r ce 2 n = 0) : 0 ≤ n ∧ n < ce := by
  unfold faultE belowB at h
  by_cases h2 : 0 ≤ n ∧ n < ce
  · exact h2
  · simp [h2] at h
theorem fault_size {r ce n : Int} (h : faultE r ce 3 n = 0) : 0 ≤ n ∧ n < 16 := by
  unfold faultE belowB at h
  by_cases h2 : 0 ≤ n ∧ n < 16
  · exact h2
  · simp [h2] at h
theorem ff_three {r ce : Int} {k : Nat} {f : Nat → Int} (h : firstF r ce k f 3 0 = 0) : faultE r ce (useK k 0) (f 0) = 0 ∧ faultE r ce (useK k 1) (f 1) = 0 ∧ faultE r ce (useK k 2) (f 2) = 0 := by
  simp only [firstF] at h
  by_cases h0 : faultE r ce (useK k 0) (f 0) = 0
  · rw [if_pos h0] at h
    by_cases h1 : faultE r ce (useK k (0 + 1)) (f (0 + 1)) = 0
    · rw [if_pos h1] at h
      by_cases h2 : faultE r ce (useK k (0 + 1 + 1)) (f (0 + 1 + 1)) = 0
      · exact ⟨h0, h1, h2⟩
      · rw [if_neg h2] at h; exact absurd h h2
    · rw [if_neg h1] at h; exact absurd h h1
  · rw [if_neg h0] at h; exact absurd h h0
theorem ff_two {r ce : Int} {k : Nat} {f : Nat → Int} (h : firstF r ce k f 2 0 = 0) : faultE r ce (useK k 0) (f 0) = 0 ∧ faultE r ce (useK k 1) (f 1) = 0 := by
  simp only [firstF] at h
  by_cases h0 : faultE r ce (useK k 0) (f 0) = 0
  · rw [if_pos h0] at h
    by_cases h1 : faultE r ce (useK k (0 + 1)) (f (0 + 1)) = 0
    · exact ⟨h0, h1⟩
    · rw [if_neg h1] at h; exact absurd h h1
  · rw [if_neg h0] at h; exact absurd h h0
theorem ff_one {r ce : Int} {k : Nat} {f : Nat → Int} (h : firstF r ce k f 1 0 = 0) : faultE r ce (useK k 0) (f 0) = 0 := by
  simp only [firstF] at h
  by_cases h0 : faultE r ce (useK k 0) (f 0) = 0
  · exact h0
  · rw [if_neg h0] at h; exact absurd h h0
theorem check_kind {b wd m r ce lg st k a x c : Int} (h : checkE b wd m r ce lg st k a x c = 0) : isK k = true ∧ firstF r ce k.toNat (numAt a x c) (usesK k.toNat) 0 = 0 := by
  unfold checkE at h
  split at h
  · rename_i h2; exact ⟨h2.2, h⟩
  · omega
section
variable {b wd m r ce lg st a x c : Int}
theorem ck1 (h : checkE b wd m r ce lg st 1 a x c = 0) : (0 ≤ a ∧ a < r) ∧ 0 ≤ x ∧ x < 16 := by
  have h2 := ff_two (check_kind h).2
  exact ⟨fault_reg h2.1, fault_size h2.2⟩
theorem ck2 (h : checkE b wd m r ce lg st 2 a x c = 0) : (0 ≤ a ∧ a < r) ∧ 0 ≤ x ∧ x < r := by
  have h2 := ff_three (check_kind h).2
  exact ⟨fault_reg h2.1, fault_reg h2.2.1⟩
theorem ck3 (h : checkE b wd m r ce lg st 3 a x c = 0) : (0 ≤ a ∧ a < r) ∧ 0 ≤ c ∧ c < r := by
  have h2 := ff_three (check_kind h).2
  exact ⟨fault_reg h2.1, fault_reg h2.2.2⟩
theorem ck4 (h : checkE b wd m r ce lg st 4 a x c = 0) : (0 ≤ a ∧ a < r) ∧ 0 ≤ x ∧ x < ce := by
  have h2 := ff_two (check_kind h).2
  exact ⟨fault_reg h2.1, fault_cell h2.2⟩
theorem ck5 (h : checkE b wd m r ce lg st 5 a x c = 0) : (0 ≤ a ∧ a < ce) ∧ 0 ≤ x ∧ x < r := by
  have h2 := ff_two (check_kind h).2
  exact ⟨fault_cell h2.1, fault_reg h2.2⟩
theorem ck6 (h : checkE b wd m r ce lg st 6 a x c = 0) : 0 ≤ a ∧ a < r := fault_reg (ff_one (check_kind h).2)
theorem ck7 (h : checkE b wd m r ce lg st 7 a x c = 0) : (0 ≤ a ∧ a < r) ∧ 0 ≤ x ∧ x < r := by
  have h2 := ff_two (check_kind h).2
  exact ⟨fault_reg h2.1, fault_reg h2.2⟩
end
theorem getD_set {l : List Int} {i j : Nat} {v : Int} (hi : i < l.length) : (l.set i v).getD j 0 = if i = j then v else l.getD j 0 := by
  simp only [List.getD_eq_getElem?_getD, List.getElem?_set]
  by_cases h : i = j
  · subst h; simp [hi]
  · simp [h]
theorem GWf.set {M r nc : Nat} {s : GSt} (h : GWf M r nc s) {j k : Nat} {v : Int} (hj : k < (s.E j).length) (hv : 0 ≤ v ∧ v ≤ s.nO) : GWf M r nc (s.set j k v) := by
  refine ⟨h.nR, fun m hm => by rw [GSt.set_len]; exact h.reg m hm, by rw [GSt.set_len]; exact h.cel, fun i hi => by rw [GSt.set_len]; exact h.len i hi, fun i hi q hq => ?_⟩
  rw [GSt.set_len] at hq
  by_cases e : i = j
  · subst e
    rw [GSt.set_same, getD_set hj]
    split
    · exact hv
    · exact h.val i hi q hq
  · rw [GSt.set_other s e]; exact h.val i hi q hq
theorem GWf.add {M r nc : Nat} {s : GSt} (h : GWf M r nc s) {x : Nat} (hx : x ≤ 15) : GWf M r nc (s.add x) := by
  refine ⟨h.nR, fun m hm => by rw [GSt.add_old _ _ (by omega)]; exact h.reg m hm, by rw [GSt.add_old _ _ (by omega)]; exact h.cel, fun i hi => ?_, fun j hj q hq => ?_⟩
  · have hi2 : i < s.nO + 1 := hi
    by_cases e : i = s.nO
    · subst e; rw [GSt.add_new, List.length_replicate]; exact hx
    · rw [GSt.add_old _ _ (by omega)]; exact h.len i (by omega)
  · have e1 : ((s.add x).nO : Int) = (s.nO : Int) + 1 := by show ((s.nO + 1 : Nat) : Int) = _; omega
    rw [e1]
    by_cases e : j = 3 + 2 * s.nO
    · subst e
      rw [GSt.add_new] at hq ⊢
      rw [List.length_replicate] at hq
      have : (List.replicate x (0 : Int)).getD q 0 = 0 := by simp [List.getD_eq_getElem?_getD, hq]
      rw [this]; omega
    · rw [GSt.add_old _ _ e] at hq ⊢
      have hV : s.V j := by
        rcases hj with h | ⟨i, hi, h⟩ | ⟨i, hi, h⟩
        · exact .inl h
        · exact .inr (.inl ⟨i, by have : i < s.nO + 1 := hi; omega, h⟩)
        · exact .inr (.inr ⟨i, hi, h⟩)
      have := h.val j hV q hq
      omega
theorem GWf.s0 (M r nc : Nat) : GWf M r nc (s0 nc r M) := by
  refine ⟨s0_nR _ _ _, fun m hm => by rw [s0_reg _ _ _ _ hm, List.length_replicate], by rw [s0_two, List.length_replicate], fun i hi => by rw [s0_nO] at hi; omega, fun j hj q hq => ?_⟩
  have hz : ∀ n : Nat, (List.replicate n (0 : Int)).getD q 0 = 0 := fun n => by
    simp only [List.getD_eq_getElem?_getD, List.getElem?_replicate]
    split <;> rfl
  rcases hj with rfl | ⟨i, hi, _⟩ | ⟨i, hi, rfl⟩
  · rw [s0_two, hz]; omega
  · rw [s0_nO] at hi; omega
  · rw [s0_nR] at hi
    rw [s0_reg _ _ _ _ hi, hz]; omega
/-- A register that is there. -/
theorem GWf.rg {M r nc : Nat} {s : GSt} (h : GWf M r nc s) {m q : Int} (hm : 0 ≤ m ∧ m < M) (hq : 0 ≤ q ∧ q < r) : 0 ≤ rg s m q ∧ rg s m q ≤ s.nO := by
  have hl := h.reg m.toNat (by omega)
  exact h.val _ (.inr (.inr ⟨m.toNat, by rw [h.nR]; omega, rfl⟩)) q.toNat (by rw [hl]; omega)
theorem GWf.gd {M r nc : Nat} {s : GSt} (h : GWf M r nc s) {b wd lg st m k a x cc : Int} (hm : 0 ≤ m ∧ m < M) (hck : checkE b wd M r nc lg st k a x cc = 0) : GWf M r nc (gd s m k a x cc).2.2 ∧ (gd s m k a x cc).2.2.nO ≤ s.nO + 1 := by
  have hlr : (s.E (4 + 2 * m.toNat)).length = r := h.reg m.toNat (by omega)
  have hlc := h.cel
  rcases isK_cases (check_kind hck).1 with rfl | rfl | rfl | rfl | rfl | rfl | rfl | rfl
  · obtain ⟨ha, hx⟩ := ck1 hck
    refine ⟨GWf.set (h.add (by omega)) (by rw [GSt.add_old _ _ (by omega), hlr]; omega) ?_, Nat.le_refl _⟩
    show 0 ≤ (s.nO : Int) + 1 ∧ (s.nO : Int) + 1 ≤ ((s.nO + 1 : Nat) : Int)
    omega
  · obtain ⟨ha, hx⟩ := ck2 hck
    have hv := h.rg hm hx
    unfold Gra.gd
    simp only [show ¬ (2 : Int) = 1 by decide, if_false, if_true]
    split
    · exact ⟨h, Nat.le_succ _⟩
    · split
      · exact ⟨h, Nat.le_succ _⟩
      · rename_i h1 h2
        refine ⟨h.set (by rw [hlr]; omega) (h.val _ (.inr (.inl ⟨(Gra.rg s m x - 1).toNat, by omega, rfl⟩)) cc.toNat (show cc.toNat < (s.E (ob (Gra.rg s m x))).length by omega)), Nat.le_succ _⟩
  · obtain ⟨ha, hx⟩ := ck3 hck
    unfold Gra.gd
    simp only [show ¬ (3 : Int) = 1 by decide, show ¬ (3 : Int) = 2 by decide, if_false, if_true]
    split
    · exact ⟨h, Nat.le_succ _⟩
    · split
      · exact ⟨h, Nat.le_succ _⟩
      · rename_i h1 h2
        exact ⟨h.set (by omega) (h.rg hm hx), Nat.le_succ _⟩
  · obtain ⟨ha, hx⟩ := ck4 hck
    exact ⟨h.set (by rw [hlr]; omega) (h.val 2 (.inl rfl) x.toNat (by omega)), Nat.le_succ _⟩
  · obtain ⟨ha, hx⟩ := ck5 hck
    exact ⟨h.set (by rw [hlc]; omega) (h.rg hm hx), Nat.le_succ _⟩
  · have ha := ck6 hck
    exact ⟨h.set (by rw [hlr]; omega) (by omega), Nat.le_succ _⟩
  · obtain ⟨ha, hx⟩ := ck7 hck
    exact ⟨h.set (by rw [hlr]; omega) (h.rg hm hx), Nat.le_succ _⟩
  · exact ⟨h, Nat.le_succ _⟩
theorem GWf.gdo {M r nc : Nat} {s : GSt} (h : GWf M r nc s) (b wd lg st m k a x cc : Int) : GWf M r nc (gdo ⟨b, wd, M, r, nc, lg, st⟩ s m k a x cc).2.2 ∧ (gdo ⟨b, wd, M, r, nc, lg, st⟩ s m k a x cc).2.2.nO ≤ s.nO + 1 := by
  unfold Gra.gdo
  split
  · exact ⟨h, Nat.le_succ _⟩
  · split
    · exact ⟨h, Nat.le_succ _⟩
    · rename_i h1 h2
      exact h.gd (by have : (0 : Int) ≤ m ∧ m < M := by simpa using h1
                     exact this) (by simpa using h2)
end Go.Proofs.YtcdnbheoelnghaaDoor.Gra

namespace Go.Proofs.YtcdnbheoelnghaaDoor.Gra
open Go.RowKit Go.Proofs.YtcdnbheoelnghaaDoor.Opr
open Go.Proofs.YtcdnbheoelnghaaDoor.Row (rowB rowB_none Chg)

theorem safe_any (G : Nat) (m : Nat) (k a x cc : Int) (W : World) :
    Calls Tryd.prog 49 #[.pointer (some ⟨G, 0, none⟩), .int .i64 m, .agg #[.int .i64 k, .int .i64 a, .int .i64 x, .int .i64 cc]] W fun e w' => e = .returned (.tuple #[.int .i64 0, .int .i64 0]) ∧ Below W.heap.size W w' := by
  have HA : Hid (Below W.heap.size W (W.alloc (.cells #[.int .i64 k, .int .i64 a, .int .i64 x, .int .i64 cc] 39))) := Lib.hid ((Below.refl _ _).alloc (Nat.le_refl _) _)
  go_enter Tryd.func49, Tryd.ntmps49
  go_wp2_with fail
  go_ret2
  exact ⟨rfl, HA.out⟩
/-- Do, of whatever operation. -/
theorem do_any {b wd lg st : Int} {M r nc : Nat} {W : World} {G : Nat} {P : Nat → Option Addr} {K : Nat → Nat} {s : GSt} (h : GIs ⟨b, wd, M, r, nc, lg, st⟩ W G P K s) (wf : GWf M r nc s) (hN : s.nO ≤ 1000000) (ht : FormTab W) (hl : LimTab W) (m k a x cc : Int) :
    Calls Tryd.prog 9 #[.pointer (some ⟨G, 0, none⟩), .int .i64 m, .agg #[.int .i64 k, .int .i64 a, .int .i64 x, .int .i64 cc]] W fun e w' => e = .returned (.tuple #[.int .i64 (gdo ⟨b, wd, M, r, nc, lg, st⟩ s m k a x cc).1, .int .i64 (gdo ⟨b, wd, M, r, nc, lg, st⟩ s m k a x cc).2.1]) ∧ Ef ⟨b, wd, M, r, nc, lg, st⟩ G P W w' (gdo ⟨b, wd, M, r, nc, lg, st⟩ s m k a x cc).2.2 := by
  have h8 := h.r
  rw [wf.nR] at h8
  by_cases hm : 0 ≤ m ∧ m < (M : Int)
  · obtain ⟨mn, rfl⟩ : ∃ n : Nat, m = n := ⟨m.toNat, by omega⟩
    have hmn : mn < M := by omega
    have hmR : mn < s.nR := by rw [wf.nR]; exact hmn
    have hlr : (s.E (4 + 2 * mn)).length = r := wf.reg mn hmn
    have hlc := wf.cel
    by_cases hck : checkE b wd M r nc lg st k a x cc = 0
    · have e1 : gdo ⟨b, wd, M, r, nc, lg, st⟩ s mn k a x cc = gd s mn k a x cc := by
        unfold gdo
        rw [if_neg (by simpa using hm), if_neg (by simpa using hck)]
      rw [e1]
      rcases isK_cases (check_kind hck).1 with rfl | rfl | rfl | rfl | rfl | rfl | rfl | rfl
      · obtain ⟨ha, hx⟩ := ck1 hck
        obtain ⟨an, rfl⟩ : ∃ n : Nat, a = n := ⟨a.toNat, by omega⟩
        obtain ⟨xn, rfl⟩ : ∃ n : Nat, x = n := ⟨x.toNat, by omega⟩
        refine (do_alloc an xn cc ((s.nO : Int) + 1) 0 (fun V w' => Ef ⟨b, wd, M, r, nc, lg, st⟩ G P V w' ((s.add xn).set (4 + 2 * mn) an ((s.nO : Int) + 1))) W h.cf h8 hmn ht hl hck (fun V hV => alloc_any (h.later hV) _ cc hmR (by rw [hlr]; omega) (by omega) hN)).mono ?_
        rintro e w' ⟨rfl, V, hV, hE⟩
        exact ⟨rfl, hE.before hV⟩
      · obtain ⟨ha, hx⟩ := ck2 hck
        obtain ⟨an, rfl⟩ : ∃ n : Nat, a = n := ⟨a.toNat, by omega⟩
        obtain ⟨xn, rfl⟩ : ∃ n : Nat, x = n := ⟨x.toNat, by omega⟩
        have hv := wf.rg hm hx
        have hxl : xn < (s.E (4 + 2 * mn)).length := by rw [hlr]; omega
        by_cases h0 : rg s mn xn = 0
        · have e2 : gd s mn 2 an xn cc = (0, 6, s) := by unfold gd; simp only [show ¬ (2 : Int) = 1 by decide, if_false, if_true, h0]
          rw [e2]
          refine (do_load an xn cc 0 6 (fun V w' => Below V.heap.size V w') W h.cf h8 hmn ht hl hck (fun V hV => load_bad (h.later hV) an cc 2 0 6 hmR hxl h0 (.inl rfl) (fun V2 _ => fieldNil_any G cc V2))).mono ?_
          rintro e w' ⟨rfl, V, hV, hE⟩
          exact ⟨rfl, Ef.self h (hV.trans (hE.mono hV.size))⟩
        · obtain ⟨n, hn⟩ : ∃ n : Nat, rg s mn xn = (n : Int) + 1 := ⟨(rg s mn xn - 1).toNat, by omega⟩
          have hnO : n < s.nO := by omega
          have eo : ob (rg s mn xn) = 3 + 2 * n := by unfold ob; rw [hn]; omega
          by_cases hf : 0 ≤ cc ∧ cc < (s.E (3 + 2 * n)).length
          · obtain ⟨cn, rfl⟩ : ∃ n : Nat, cc = n := ⟨cc.toNat, by omega⟩
            have e2 : gd s mn 2 an xn cn = ((s.E (3 + 2 * n)).getD cn 0, 0, s.set (4 + 2 * mn) an ((s.E (3 + 2 * n)).getD cn 0)) := by
              unfold gd
              rw [if_neg (by decide), if_pos rfl, if_neg h0, eo, if_neg (fun e => e hf)]
              rfl
            rw [e2]
            refine (do_load an xn cn _ 0 (fun V w' => Ef ⟨b, wd, M, r, nc, lg, st⟩ G P V w' (s.set (4 + 2 * mn) an ((s.E (3 + 2 * n)).getD cn 0))) W h.cf h8 hmn ht hl hck (fun V hV => load_any (h.later hV) 2 hmR (by rw [hlr]; omega) hxl hn hnO hN (by omega))).mono ?_
            rintro e w' ⟨rfl, V, hV, hE⟩
            exact ⟨rfl, hE.before hV⟩
          · have e2 : gd s mn 2 an xn cc = (0, 7, s) := by
              unfold gd
              rw [if_neg (by decide), if_pos rfl, if_neg h0, eo, if_pos hf]
            rw [e2]
            refine (do_load an xn cc 0 7 (fun V w' => Below V.heap.size V w') W h.cf h8 hmn ht hl hck (fun V hV => load_bad (h.later hV) an cc 2 ((n : Int) + 1) 7 hmR hxl hn (.inr rfl) (fun V2 hV2 => field_no ((h.later hV).later hV2) cc hnO hN hf))).mono ?_
            rintro e w' ⟨rfl, V, hV, hE⟩
            exact ⟨rfl, Ef.self h (hV.trans (hE.mono hV.size))⟩
      · obtain ⟨ha, hx⟩ := ck3 hck
        obtain ⟨an, rfl⟩ : ∃ n : Nat, a = n := ⟨a.toNat, by omega⟩
        obtain ⟨cn, rfl⟩ : ∃ n : Nat, cc = n := ⟨cc.toNat, by omega⟩
        have hv := wf.rg hm ha
        have hal : an < (s.E (4 + 2 * mn)).length := by rw [hlr]; omega
        by_cases h0 : rg s mn an = 0
        · have e2 : gd s mn 3 an x cn = (0, 6, s) := by unfold gd; simp only [show ¬ (3 : Int) = 1 by decide, show ¬ (3 : Int) = 2 by decide, if_false, if_true, h0]
          rw [e2]
          refine (do_store an x cn 0 6 (fun V w' => Below V.heap.size V w') W h.cf h8 hmn ht hl hck (fun V hV => store_bad (h.later hV) x cn 3 0 6 hmR hal h0 (.inl rfl) (fun V2 _ => fieldNil_any G x V2))).mono ?_
          rintro e w' ⟨rfl, V, hV, hE⟩
          exact ⟨rfl, Ef.self h (hV.trans (hE.mono hV.size))⟩
        · obtain ⟨n, hn⟩ : ∃ n : Nat, rg s mn an = (n : Int) + 1 := ⟨(rg s mn an - 1).toNat, by omega⟩
          have hnO : n < s.nO := by omega
          have eo : ob (rg s mn an) = 3 + 2 * n := by unfold ob; rw [hn]; omega
          by_cases hf : 0 ≤ x ∧ x < (s.E (3 + 2 * n)).length
          · obtain ⟨xn, rfl⟩ : ∃ n : Nat, x = n := ⟨x.toNat, by omega⟩
            have e2 : gd s mn 3 an xn cn = (0, 0, s.set (3 + 2 * n) xn (rg s mn cn)) := by
              unfold gd
              rw [if_neg (by decide), if_neg (by decide), if_pos rfl, if_neg h0, eo, if_neg (fun e => e hf)]
              rfl
            rw [e2]
            refine (do_store an xn cn 0 0 (fun V w' => Ef ⟨b, wd, M, r, nc, lg, st⟩ G P V w' (s.set (3 + 2 * n) xn (rg s mn cn))) W h.cf h8 hmn ht hl hck (fun V hV => store_any (h.later hV) 3 hmR (by rw [hlr]; omega) hal hn hnO hN (by omega))).mono ?_
            rintro e w' ⟨rfl, V, hV, hE⟩
            exact ⟨rfl, hE.before hV⟩
          · have e2 : gd s mn 3 an x cn = (0, 7, s) := by
              unfold gd
              rw [if_neg (by decide), if_neg (by decide), if_pos rfl, if_neg h0, eo, if_pos hf]
            rw [e2]
            refine (do_store an x cn 0 7 (fun V w' => Below V.heap.size V w') W h.cf h8 hmn ht hl hck (fun V hV => store_bad (h.later hV) x cn 3 ((n : Int) + 1) 7 hmR hal hn (.inr rfl) (fun V2 hV2 => field_no ((h.later hV).later hV2) x hnO hN hf))).mono ?_
            rintro e w' ⟨rfl, V, hV, hE⟩
            exact ⟨rfl, Ef.self h (hV.trans (hE.mono hV.size))⟩
      · obtain ⟨ha, hx⟩ := ck4 hck
        obtain ⟨an, rfl⟩ : ∃ n : Nat, a = n := ⟨a.toNat, by omega⟩
        obtain ⟨xn, rfl⟩ : ∃ n : Nat, x = n := ⟨x.toNat, by omega⟩
        refine (do_get an xn cc _ 0 (fun V w' => Ef ⟨b, wd, M, r, nc, lg, st⟩ G P V w' (s.set (4 + 2 * mn) an ((s.E 2).getD xn 0))) W h.cf h8 hmn ht hl hck (fun V hV => get_any (h.later hV) hmR (by rw [hlr]; omega) (by rw [hlc]; omega) 4 cc)).mono ?_
        rintro e w' ⟨rfl, V, hV, hE⟩
        exact ⟨rfl, hE.before hV⟩
      · obtain ⟨ha, hx⟩ := ck5 hck
        obtain ⟨an, rfl⟩ : ∃ n : Nat, a = n := ⟨a.toNat, by omega⟩
        obtain ⟨xn, rfl⟩ : ∃ n : Nat, x = n := ⟨x.toNat, by omega⟩
        refine (do_set an xn cc 0 0 (fun V w' => Ef ⟨b, wd, M, r, nc, lg, st⟩ G P V w' (s.set 2 an (rg s mn xn))) W h.cf h8 hmn ht hl hck (fun V hV => set_any (h.later hV) hmR (by rw [hlr]; omega) (by rw [hlc]; omega) 5 cc)).mono ?_
        rintro e w' ⟨rfl, V, hV, hE⟩
        exact ⟨rfl, hE.before hV⟩
      · have ha := ck6 hck
        obtain ⟨an, rfl⟩ : ∃ n : Nat, a = n := ⟨a.toNat, by omega⟩
        refine (do_drop an x cc 0 0 (fun V w' => Ef ⟨b, wd, M, r, nc, lg, st⟩ G P V w' (s.set (4 + 2 * mn) an 0)) W h.cf h8 hmn ht hl hck (fun V hV => drop_any (h.later hV) hmR (by rw [hlr]; omega) 6 x cc)).mono ?_
        rintro e w' ⟨rfl, V, hV, hE⟩
        exact ⟨rfl, hE.before hV⟩
      · obtain ⟨ha, hx⟩ := ck7 hck
        obtain ⟨an, rfl⟩ : ∃ n : Nat, a = n := ⟨a.toNat, by omega⟩
        obtain ⟨xn, rfl⟩ : ∃ n : Nat, x = n := ⟨x.toNat, by omega⟩
        refine (do_move an xn cc _ 0 (fun V w' => Ef ⟨b, wd, M, r, nc, lg, st⟩ G P V w' (s.set (4 + 2 * mn) an (rg s mn xn))) W h.cf h8 hmn ht hl hck (fun V hV => move_any (h.later hV) hmR (by rw [hlr]; omega) (by rw [hlr]; omega) 7 cc)).mono ?_
        rintro e w' ⟨rfl, V, hV, hE⟩
        exact ⟨rfl, hE.before hV⟩
      · refine (do_safe a x cc 0 0 (fun V w' => Below V.heap.size V w') W h.cf h8 hmn ht hl hck (fun V _ => safe_any G mn 8 a x cc V)).mono ?_
        rintro e w' ⟨rfl, V, hV, hE⟩
        exact ⟨rfl, Ef.self h (hV.trans (hE.mono hV.size))⟩
    · have e1 : gdo ⟨b, wd, M, r, nc, lg, st⟩ s mn k a x cc = (0, checkE b wd M r nc lg st k a x cc, s) := by
        unfold gdo
        rw [if_neg (by simpa using hm), if_pos hck]
      rw [e1]
      refine (doBad_any k a x cc W h.cf h8 hmn ht hl hck).mono ?_
      rintro e w' ⟨rfl, hb⟩
      exact ⟨rfl, Ef.self h hb⟩
  · have e1 : gdo ⟨b, wd, M, r, nc, lg, st⟩ s m k a x cc = (0, 4, s) := by
      unfold gdo
      rw [if_pos (by simpa using hm)]
    rw [e1]
    refine (doOut_any m k a x cc W h8 hm).mono ?_
    rintro e w' ⟨rfl, hb⟩
    exact ⟨rfl, Ef.self h hb⟩
end Go.Proofs.YtcdnbheoelnghaaDoor.Gra

namespace Go.Proofs.YtcdnbheoelnghaaDoor.Gra
open Go.RowKit Go.Proofs.YtcdnbheoelnghaaDoor.Opr

theorem ex_right : rightB 1 16 (1 : Nat) (2 : Nat) (0 : Nat) 1 1 = true := by decide
abbrev exC7 : C7 := ⟨1, 16, (1 : Nat), (2 : Nat), (0 : Nat), 1, 1⟩

theorem ex1 : (gdo exC7 (s0 0 2 1) 0 1 0 1 0).1 = 1 ∧ (gdo exC7 (s0 0 2 1) 0 1 0 1 0).2.1 = 0 := by decide
theorem ex2 : (gdo exC7 (gdo exC7 (s0 0 2 1) 0 1 0 1 0).2.2 0 3 0 0 0).1 = 0 ∧ (gdo exC7 (gdo exC7 (s0 0 2 1) 0 1 0 1 0).2.2 0 3 0 0 0).2.1 = 0 := by decide
theorem ex3 : (gdo exC7 (gdo exC7 (gdo exC7 (s0 0 2 1) 0 1 0 1 0).2.2 0 3 0 0 0).2.2 0 2 1 0 0).1 = 1 ∧ (gdo exC7 (gdo exC7 (gdo exC7 (s0 0 2 1) 0 1 0 1 0).2.2 0 3 0 0 0).2.2 0 2 1 0 0).2.1 = 0 := by decide

set_option maxRecDepth 100000 in
set_option maxHeartbeats 2000000 in
theorem awake_any (w : World) (ht : FormTab w) (hl : LimTab w) :
    Calls Tryd.prog 7 #[] w fun e w' => e = .returned (.bool true) ∧ Below w.heap.size w w' := by
  have HN := Lib.hid (new_any 1 16 1 1 1 2 0 ex_right (by decide) (by decide) (by decide) w hl)
  have HT := Lib.hid ht
  have HL := Lib.hid hl
  clear ht hl
  go_enter Tryd.func7, Tryd.ntmps7
  go_wp2_with fail
  refine HN.out.mono ?_
  rintro e w1 ⟨G, rfl, P, K, h1, hb1, hm1⟩
  have wf1 : GWf 1 2 0 (s0 0 2 1) := GWf.s0 1 2 0
  have HD1 := Lib.hid (do_any h1 wf1 (by decide) (HT.out.later hb1) (HL.out.later hb1) 0 1 0 1 0)
  have WF2 := Lib.hid (wf1.gdo 1 16 1 1 0 1 0 1 0)
  have HB1 := Lib.hid hb1
  have HM1 := Lib.hid hm1
  clear h1 hb1 hm1 wf1 HN
  go_wp2_with fail
  refine HD1.out.mono ?_
  rintro e w2 ⟨rfl, hE⟩
  rw [show (gdo ⟨1, 16, (1 : Nat), (2 : Nat), (0 : Nat), 1, 1⟩ (s0 0 2 1) 0 1 0 1 0).1 = 1 from ex1.1, show (gdo ⟨1, 16, (1 : Nat), (2 : Nat), (0 : Nat), 1, 1⟩ (s0 0 2 1) 0 1 0 1 0).2.1 = 0 from ex1.2]
  obtain ⟨P2, K2, h2, hc2, hm2⟩ := hE
  have hb2 : Below w.heap.size w w2 := HB1.out.trans (hc2.below (fun k hk => HM1.out k hk) HB1.out.size)
  have hm2' : ∀ x, mine G P2 x → w.heap.size ≤ x := fun x hx => (hm2 x hx).elim (HM1.out x) (fun h => Nat.le_trans HB1.out.size h)
  have HD2 := Lib.hid (do_any h2 WF2.out.1 (by decide) (HT.out.later hb2) (HL.out.later hb2) 0 3 0 0 0)
  have WF3 := Lib.hid (WF2.out.1.gdo 1 16 1 1 0 3 0 0 0)
  have HB2 := Lib.hid hb2
  have HM2 := Lib.hid hm2'
  clear h2 hc2 hm2 hb2 hm2' HD1
  go_wp2_with fail
  refine HD2.out.mono ?_
  rintro e w3 ⟨rfl, hE⟩
  rw [show (gdo ⟨1, 16, (1 : Nat), (2 : Nat), (0 : Nat), 1, 1⟩ (gdo ⟨1, 16, (1 : Nat), (2 : Nat), (0 : Nat), 1, 1⟩ (s0 0 2 1) 0 1 0 1 0).2.2 0 3 0 0 0).1 = 0 from ex2.1, show (gdo ⟨1, 16, (1 : Nat), (2 : Nat), (0 : Nat), 1, 1⟩ (gdo ⟨1, 16, (1 : Nat), (2 : Nat), (0 : Nat), 1, 1⟩ (s0 0 2 1) 0 1 0 1 0).2.2 0 3 0 0 0).2.1 = 0 from ex2.2]
  obtain ⟨P3, K3, h3, hc3, hm3⟩ := hE
  have hb3 : Below w.heap.size w w3 := HB2.out.trans (hc3.below (fun k hk => HM2.out k hk) HB2.out.size)
  have hm3' : ∀ x, mine G P3 x → w.heap.size ≤ x := fun x hx => (hm3 x hx).elim (HM2.out x) (fun h => Nat.le_trans HB2.out.size h)
  have HD3 := Lib.hid (do_any h3 WF3.out.1 (by decide) (HT.out.later hb3) (HL.out.later hb3) 0 2 1 0 0)
  have HB3 := Lib.hid hb3
  have HM3 := Lib.hid hm3'
  clear h3 hc3 hm3 hb3 hm3' HD2
  go_wp2_with fail
  refine HD3.out.mono ?_
  rintro e w4 ⟨rfl, hE⟩
  rw [show (gdo ⟨1, 16, (1 : Nat), (2 : Nat), (0 : Nat), 1, 1⟩ (gdo ⟨1, 16, (1 : Nat), (2 : Nat), (0 : Nat), 1, 1⟩ (gdo ⟨1, 16, (1 : Nat), (2 : Nat), (0 : Nat), 1, 1⟩ (s0 0 2 1) 0 1 0 1 0).2.2 0 3 0 0 0).2.2 0 2 1 0 0).1 = 1 from ex3.1, show (gdo ⟨1, 16, (1 : Nat), (2 : Nat), (0 : Nat), 1, 1⟩ (gdo ⟨1, 16, (1 : Nat), (2 : Nat), (0 : Nat), 1, 1⟩ (gdo ⟨1, 16, (1 : Nat), (2 : Nat), (0 : Nat), 1, 1⟩ (s0 0 2 1) 0 1 0 1 0).2.2 0 3 0 0 0).2.2 0 2 1 0 0).2.1 = 0 from ex3.2]
  obtain ⟨P4, K4, h4, hc4, hm4⟩ := hE
  have HB4 := Lib.hid (HB3.out.trans (hc4.below (fun k hk => HM3.out k hk) HB3.out.size))
  clear h4 hc4 hm4 HD3
  go_wp2_with fail
  go_ret
  exact ⟨rfl, HB4.out⟩
end Go.Proofs.YtcdnbheoelnghaaDoor.Gra

namespace Go.Proofs.YtcdnbheoelnghaaDoor.Gra
open Go.RowKit Go.Proofs.YtcdnbheoelnghaaDoor.Opr

end Go.Proofs.YtcdnbheoelnghaaDoor.Gra
