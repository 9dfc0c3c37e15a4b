/-
  What an operation does, as numbers; Do, of whatever operation.
-/
import Derived.Test.YtadkmidipjlcjaaDoorGrN
import Derived.Test.YtadkmidipjlcjaaDoorGrG1
import Derived.Test.YtadkmidipjlcjaaDoorGrG2
import Derived.Test.YtadkmidipjlcjaaDoorGrG3
import Derived.Test.YtadkmidipjlcjaaDoorGrG4
import Derived.Test.YtadkmidipjlcjaaDoorGrG5
import Derived.Test.YtadkmidipjlcjaaDoorGrG6
import Derived.Test.YtadkmidipjlcjaaDoorGrG7
import Derived.Test.YtadkmidipjlcjaaDoorGrG8
import Derived.Test.YtadkmidipjlcjaaDoorGrI2
import Derived.Test.YtadkmidipjlcjaaDoorGrJ1
import Derived.Test.YtadkmidipjlcjaaDoorGrJ2
import Derived.Test.YtadkmidipjlcjaaDoorGrJ3
namespace Go.Proofs.YtadkmidipjlcjaaDoor.Gra
open Go.RowKit Go.Proofs.YtadkmidipjlcjaaDoor.Opr
open Go.Proofs.YtadkmidipjlcjaaDoor.Row (rowB rowB_none Chg)

/-- What a register has. -/
def rg (s : GSt) (m r : Int) : Int := (s.E (4 + 2 * m.toNat)).getD r.toNat 0
/-- The row of an object, by its number. -/
def ob (v : Int) : Nat := 3 + 2 * (v - 1).toNat
/-- What an operation whose check is OK tells, its error's number, and what there is then. -/
def gd (s : GSt) (m k a x cc : Int) : Int × Int × GSt :=
  if k = 1 then ((s.nO : Int) + 1, 0, (s.add x.toNat).set (4 + 2 * m.toNat) a.toNat ((s.nO : Int) + 1))
  else if k = 2 then
    (if rg s m x = 0 then (0, 6, s) else if ¬ (0 ≤ cc ∧ cc < (s.E (ob (rg s m x))).length) then (0, 7, s)
      else ((s.E (ob (rg s m x))).getD cc.toNat 0, 0, s.set (4 + 2 * m.toNat) a.toNat ((s.E (ob (rg s m x))).getD cc.toNat 0)))
  else if k = 3 then
    (if rg s m a = 0 then (0, 6, s) else if ¬ (0 ≤ x ∧ x < (s.E (ob (rg s m a))).length) then (0, 7, s)
      else (0, 0, s.set (ob (rg s m a)) x.toNat (rg s m cc)))
  else if k = 4 then ((s.E 2).getD x.toNat 0, 0, s.set (4 + 2 * m.toNat) a.toNat ((s.E 2).getD x.toNat 0))
  else if k = 5 then (0, 0, s.set 2 a.toNat (rg s m x))
  else if k = 6 then (0, 0, s.set (4 + 2 * m.toNat) a.toNat 0)
  else if k = 7 then (rg s m x, 0, s.set (4 + 2 * m.toNat) a.toNat (rg s m x))
  else (0, 0, s)
def gdo (c : C7) (s : GSt) (m k a x cc : Int) : Int × Int × GSt :=
  if ¬ (0 ≤ m ∧ m < c.m) then (0, 4, s) else if checkE c.b c.wd c.m c.r c.ce c.lg c.st k a x cc ≠ 0 then (0, checkE c.b c.wd c.m c.r c.ce c.lg c.st k a x cc, s) else gd s m k a x cc
/-- What always holds of a graph. -/
structure GWf (M r nc : Nat) (s : GSt) : Prop where
  nR : s.nR = M
  reg : ∀ m, m < M → (s.E (4 + 2 * m)).length = r
  cel : (s.E 2).length = nc
  len : ∀ i, i < s.nO → (s.E (3 + 2 * i)).length ≤ 15
  val : ∀ j, s.V j → ∀ k, k < (s.E j).length → 0 ≤ (s.E j).getD k 0 ∧ (s.E j).getD k 0 ≤ s.nO
theorem fault_reg {r ce n : Int} (h : faultE r ce 1 n = 0) : 0 ≤ n ∧ n < r := by
  unfold faultE belowB at h
  by_cases h2 : 0 ≤ n ∧ n < r
  · exact h2
  · simp [h2] at h
theorem fault_cell {r ce n : Int} (h : faultE r ce 2 n = 0) : 0 ≤ n ∧ n < ce := by
  unfold faultE belowB at h
  by_cases h2 : 0 ≤ n ∧ n < ce
  · exact h2
  · simp [h2] at h
theorem fault_size {r ce n : Int} (h : faultE r ce 3 n = 0) : 0 ≤ n ∧ n < 16 := by
  unfold faultE belowB at h
  by_cases h2 : 0 ≤ n ∧ n < 16
  · exact h2
  · simp [h2] at h
theorem ff_three {r ce : Int} {k : Nat} {f : Nat → Int} (h : firstF r ce k f 3 0 = 0) : faultE r ce (useK k 0) (f 0) = 0 ∧ faultE r ce (useK k 1) (f 1) = 0 ∧ faultE r ce (useK k 2) (f 2) = 0 := by
  simp only [firstF] at h
  by_cases h0 : faultE r ce (useK k 0) (f 0) = 0
  · rw [if_pos h0] at h
    by_cases h1 : faultE r ce (useK k (0 + 1)) (f (0 + 1)) = 0
    · rw [if_pos h1] at h
      by_cases h2 : faultE r ce (useK k (0 + 1 + 1)) (f (0 + 1 + 1)) = 0
      · exact ⟨h0, h1, h2⟩
      · rw [if_neg h2] at h; exact absurd h h2
    · rw [if_neg h1] at h; exact absurd h h1
  · rw [if_neg h0] at h; exact absurd h h0
theorem ff_two {r ce : Int} {k : Nat} {f : Nat → Int} (h : firstF r ce k f 2 0 = 0) : faultE r ce (useK k 0) (f 0) = 0 ∧ faultE r ce (useK k 1) (f 1) = 0 := by
  simp only [firstF] at h
  by_cases h0 : faultE r ce (useK k 0) (f 0) = 0
  · rw [if_pos h0] at h
    by_cases h1 : faultE r ce (useK k (0 + 1)) (f (0 + 1)) = 0
    · exact ⟨h0, h1⟩
    · rw [if_neg h1] at h; exact absurd h h1
  · rw [if_neg h0] at h; exact absurd h h0
theorem ff_one {r ce : Int} {k : Nat} {f : Nat → Int} (h : firstF r ce k f 1 0 = 0) : faultE r ce (useK k 0) (f 0) = 0 := by
  simp only [firstF] at h
  by_cases h0 : faultE r ce (useK k 0) (f 0) = 0
  · exact h0
  · rw [if_neg h0] at h; exact absurd h h0
theorem check_kind {b wd m r ce lg st k a x c : Int} (h : checkE b wd m r ce lg st k a x c = 0) : isK k = true ∧ firstF r ce k.toNat (numAt a x c) (usesK k.toNat) 0 = 0 := by
  unfold checkE at h
  split at h
  · rename_i h2; exact ⟨h2.2, h⟩
  · omega
section
variable {b wd m r ce lg st a x c : Int}
theorem ck1 (h : checkE b wd m r ce lg st 1 a x c = 0) : (0 ≤ a ∧ a < r) ∧ 0 ≤ x ∧ x < 16 := by
  have h2 := ff_two (check_kind h).2
  exact ⟨fault_reg h2.1, fault_size h2.2⟩
theorem ck2 (h : checkE b wd m r ce lg st 2 a x c = 0) : (0 ≤ a ∧ a < r) ∧ 0 ≤ x ∧ x < r := by
  have h2 := ff_three (check_kind h).2
  exact ⟨fault_reg h2.1, fault_reg h2.2.1⟩
theorem ck3 (h : checkE b wd m r ce lg st 3 a x c = 0) : (0 ≤ a ∧ a < r) ∧ 0 ≤ c ∧ c < r := by
  have h2 := ff_three (check_kind h).2
  exact ⟨fault_reg h2.1, fault_reg h2.2.2⟩
theorem ck4 (h : checkE b wd m r ce lg st 4 a x c = 0) : (0 ≤ a ∧ a < r) ∧ 0 ≤ x ∧ x < ce := by
  have h2 := ff_two (check_kind h).2
  exact ⟨fault_reg h2.1, fault_cell h2.2⟩
theorem ck5 (h : checkE b wd m r ce lg st 5 a x c = 0) : (0 ≤ a ∧ a < ce) ∧ 0 ≤ x ∧ x < r := by
  have h2 := ff_two (check_kind h).2
  exact ⟨fault_cell h2.1, fault_reg h2.2⟩
theorem ck6 (h : checkE b wd m r ce lg st 6 a x c = 0) : 0 ≤ a ∧ a < r := fault_reg (ff_one (check_kind h).2)
theorem ck7 (h : checkE b wd m r ce lg st 7 a x c = 0) : (0 ≤ a ∧ a < r) ∧ 0 ≤ x ∧ x < r := by
  have h2 := ff_two (check_kind h).2
  exact ⟨fault_reg h2.1, fault_reg h2.2⟩
end
theorem getD_set {l : List Int} {i j : Nat} {v : Int} (hi : i < l.length) : (l.set i v).getD j 0 = if i = j then v else l.getD j 0 := by
  simp only [List.getD_eq_getElem?_getD, List.getElem?_set]
  by_cases h : i = j
  · subst h; simp [hi]
  · simp [h]
theorem GWf.set {M r nc : Nat} {s : GSt} (h : GWf M r nc s) {j k : Nat} {v : Int} (hj : k < (s.E j).length) (hv : 0 ≤ v ∧ v ≤ s.nO) : GWf M r nc (s.set j k v) := by
  refine ⟨h.nR, fun m hm => by rw [GSt.set_len]; exact h.reg m hm, by rw [GSt.set_len]; exact h.cel, fun i hi => by rw [GSt.set_len]; exact h.len i hi, fun i hi q hq => ?_⟩
  rw [GSt.set_len] at hq
  by_cases e : i = j
  · subst e
    rw [GSt.set_same, getD_set hj]
    split
    · exact hv
    · exact h.val i hi q hq
  · rw [GSt.set_other s e]; exact h.val i hi q hq
theorem GWf.add {M r nc : Nat} {s : GSt} (h : GWf M r nc s) {x : Nat} (hx : x ≤ 15) : GWf M r nc (s.add x) := by
  refine ⟨h.nR, fun m hm => by rw [GSt.add_old _ _ (by omega)]; exact h.reg m hm, by rw [GSt.add_old _ _ (by omega)]; exact h.cel, fun i hi => ?_, fun j hj q hq => ?_⟩
  · have hi2 : i < s.nO + 1 := hi
    by_cases e : i = s.nO
    · subst e; rw [GSt.add_new, List.length_replicate]; exact hx
    · rw [GSt.add_old _ _ (by omega)]; exact h.len i (by omega)
  · have e1 : ((s.add x).nO : Int) = (s.nO : Int) + 1 := by show ((s.nO + 1 : Nat) : Int) = _; omega
    rw [e1]
    by_cases e : j = 3 + 2 * s.nO
    · subst e
      rw [GSt.add_new] at hq ⊢
      rw [List.length_replicate] at hq
      have : (List.replicate x (0 : Int)).getD q 0 = 0 := by simp [List.getD_eq_getElem?_getD, hq]
      rw [this]; omega
    · rw [GSt.add_old _ _ e] at hq ⊢
      have hV : s.V j := by
        rcases hj with h | ⟨i, hi, h⟩ | ⟨i, hi, h⟩
        · exact .inl h
        · exact .inr (.inl ⟨i, by have : i < s.nO + 1 := hi; omega, h⟩)
        · exact .inr (.inr ⟨i, hi, h⟩)
      have := h.val j hV q hq
      omega
theorem GWf.s0 (M r nc : Nat) : GWf M r nc (s0 nc r M) := by
  refine ⟨s0_nR _ _ _, fun m hm => by rw [s0_reg _ _ _ _ hm, List.length_replicate], by rw [s0_two, List.length_replicate], fun i hi => by rw [s0_nO] at hi; omega, fun j hj q hq => ?_⟩
  have hz : ∀ n : Nat, (List.replicate n (0 : Int)).getD q 0 = 0 := fun n => by
    simp only [List.getD_eq_getElem?_getD, List.getElem?_replicate]
    split <;> rfl
  rcases hj with rfl | ⟨i, hi, _⟩ | ⟨i, hi, rfl⟩
  · rw [s0_two, hz]; omega
  · rw [s0_nO] at hi; omega
  · rw [s0_nR] at hi
    rw [s0_reg _ _ _ _ hi, hz]; omega
/-- A register that is there. -/
theorem GWf.rg {M r nc : Nat} {s : GSt} (h : GWf M r nc s) {m q : Int} (hm : 0 ≤ m ∧ m < M) (hq : 0 ≤ q ∧ q < r) : 0 ≤ rg s m q ∧ rg s m q ≤ s.nO := by
  have hl := h.reg m.toNat (by omega)
  exact h.val _ (.inr (.inr ⟨m.toNat, by rw [h.nR]; omega, rfl⟩)) q.toNat (by rw [hl]; omega)
theorem GWf.gd {M r nc : Nat} {s : GSt} (h : GWf M r nc s) {b wd lg st m k a x cc : Int} (hm : 0 ≤ m ∧ m < M) (hck : checkE b wd M r nc lg st k a x cc = 0) : GWf M r nc (gd s m k a x cc).2.2 ∧ (gd s m k a x cc).2.2.nO ≤ s.nO + 1 := by
  have hlr : (s.E (4 + 2 * m.toNat)).length = r := h.reg m.toNat (by omega)
  have hlc := h.cel
  rcases isK_cases (check_kind hck).1 with rfl | rfl | rfl | rfl | rfl | rfl | rfl | rfl
  · obtain ⟨ha, hx⟩ := ck1 hck
    refine ⟨GWf.set (h.add (by omega)) (by rw [GSt.add_old _ _ (by omega), hlr]; omega) ?_, Nat.le_refl _⟩
    show 0 ≤ (s.nO : Int) + 1 ∧ (s.nO : Int) + 1 ≤ ((s.nO + 1 : Nat) : Int)
    omega
  · obtain ⟨ha, hx⟩ := ck2 hck
    have hv := h.rg hm hx
    unfold Gra.gd
    simp only [show ¬ (2 : Int) = 1 by decide, if_false, if_true]
    split
    · exact ⟨h, Nat.le_succ _⟩
    · split
      · exact ⟨h, Nat.le_succ _⟩
      · rename_i h1 h2
        refine ⟨h.set (by rw [hlr]; omega) (h.val _ (.inr (.inl ⟨(Gra.rg s m x - 1).toNat, by omega, rfl⟩)) cc.toNat (show cc.toNat < (s.E (ob (Gra.rg s m x))).length by omega)), Nat.le_succ _⟩
  · obtain ⟨ha, hx⟩ := ck3 hck
    unfold Gra.gd
    simp only [show ¬ (3 : Int) = 1 by decide, show ¬ (3 : Int) = 2 by decide, if_false, if_true]
    split
    · exact ⟨h, Nat.le_succ _⟩
    · split
      · exact ⟨h, Nat.le_succ _⟩
      · rename_i h1 h2
        exact ⟨h.set (by omega) (h.rg hm hx), Nat.le_succ _⟩
  · obtain ⟨ha, hx⟩ := ck4 hck
    exact ⟨h.set (by rw [hlr]; omega) (h.val 2 (.inl rfl) x.toNat (by omega)), Nat.le_succ _⟩
  · obtain ⟨ha, hx⟩ := ck5 hck
    exact ⟨h.set (by rw [hlc]; omega) (h.rg hm hx), Nat.le_succ _⟩
  · have ha := ck6 hck
    exact ⟨h.set (by rw [hlr]; omega) (by omega), Nat.le_succ _⟩
  · obtain ⟨ha, hx⟩ := ck7 hck
    exact ⟨h.set (by rw [hlr]; omega) (h.rg hm hx), Nat.le_succ _⟩
  · exact ⟨h, Nat.le_succ _⟩
theorem GWf.gdo {M r nc : Nat} {s : GSt} (h : GWf M r nc s) (b wd lg st m k a x cc : Int) : GWf M r nc (gdo ⟨b, wd, M, r, nc, lg, st⟩ s m k a x cc).2.2 ∧ (gdo ⟨b, wd, M, r, nc, lg, st⟩ s m k a x cc).2.2.nO ≤ s.nO + 1 := by
  unfold Gra.gdo
  split
  · exact ⟨h, Nat.le_succ _⟩
  · split
    · exact ⟨h, Nat.le_succ _⟩
    · rename_i h1 h2
      exact h.gd (by have : (0 : Int) ≤ m ∧ m < M := by simpa using h1
                     exact this) (by simpa using h2)
end Go.Proofs.YtadkmidipjlcjaaDoor.Gra
