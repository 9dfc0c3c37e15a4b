/-
  The reference's sets: a list of answers; what its calls tell.
-/
import Derived.Test.YtahhenbphnejiaaDoorBitsO
namespace Go.Proofs.YtahhenbphnejiaaDoor.Bits
open Go.RowKit Go.Shelf
attribute [local go_sem] Oper.semAt_some

/-- A set of the reference's in memory, that has what the row of words has. -/
structure RefIs (w : World) (R A size : Nat) (ws : List Nat) : Prop where
  cs : w.cell? ⟨R, 0, none⟩ = some (.slice (some ⟨A, 0, none⟩) size size)
  at_ : ∀ j, j < size → w.cell? ⟨A, j, none⟩ = some (.bool (hasB ws j))
  fz : ∀ j, j < size → w.frozen? ⟨A, j, none⟩ = false
theorem RefIs.below {N : Nat} {w w' : World} {R A size : Nat} {ws : List Nat} (h : RefIs w R A size ws) (hb : Below N w w') (hR : R < N) (hA : A < N) : RefIs w' R A size ws :=
  ⟨(hb.cell (p := ⟨R, 0, none⟩) hR).trans h.cs, fun j hj => (hb.cell (p := ⟨A, j, none⟩) hA).trans (h.at_ j hj), fun j hj => (hb.frozen (p := ⟨A, j, none⟩) hA).trans (h.fz j hj)⟩
theorem RefIs.grown {w w' : World} {R A size X : Nat} {ws : List Nat} (h : RefIs w R A size ws) (hg : w.grownBy w' (some X)) (hR : R < w.heap.size) (hA : A < w.heap.size) (hRX : R ≠ X) (hAX : A ≠ X) : RefIs w' R A size ws :=
  ⟨(World.cell?_of_block (a := ⟨R, 0, none⟩) (hg.block R hR (fun e => hRX (by injection e)))).trans h.cs,
   fun j hj => (World.cell?_of_block (a := ⟨A, j, none⟩) (hg.block A hA (fun e => hAX (by injection e)))).trans (h.at_ j hj), fun j hj => (World.frozen?_of_block (a := ⟨A, j, none⟩) (hg.block A hA (fun e => hAX (by injection e)))).trans (h.fz j hj)⟩
theorem RefIs.drewN {w : World} {R A size : Nat} {ws : List Nat} (h : RefIs w R A size ws) (k : Nat) : RefIs (w.drewN k) R A size ws := ⟨h.cs, h.at_, h.fz⟩

theorem infoBool : (Tryd.prog.info? 4).map (fun i => (i.zero, i.size, i.bytes)) = some (some (.bool false), 1, 1) := by kernel_rfl
/-- A new row of answers, all false. -/
def falseCells (n : Nat) : Array Value := madeCells #[.bool false] n
theorem falseCells_at (n j : Nat) (h : j < n) : (falseCells n)[j]? = some (.bool false) := by
  unfold falseCells
  have := toList_madeCells_one (.bool false) n
  rw [← Array.getElem?_toList, this, List.getElem?_replicate]
  simp [h]
theorem make_bools (n : Nat) (h : n ≤ 2097152) (W : World) :
    (Instr.makeSlice 63 (.int .i64 (n : Int)) (.int .i64 (n : Int))).run Tryd.prog W = .ok (.slice (some ⟨W.heap.size, 0, none⟩) n n) (W.alloc (.cells (falseCells n) 4)) := by
  obtain ⟨i, hi, hz, hs, hb⟩ := info_parts infoBool
  have hr := run_make (P := Tryd.prog) W 63 4 i (.bool false) Tryd.underlying63 hi hz .i64 .i64 n n (by omega) (by omega) (by rw [hb]; omega) (by omega)
  simp only [Int.toNat_natCast, hs, Nat.mul_one] at hr
  exact hr

set_option maxHeartbeats 1000000 in
theorem ref_new (z : Int) (n : Nat) (hzn : z = n) (w : World) (h : n ≤ 2097152) : Calls Tryd.prog 13 #[.int .i64 z] w fun e w' => ∃ R A, e = .returned (.pointer (some ⟨R, 0, none⟩)) ∧
    RefIs w' R A n (List.replicate ((n + 63) / 64) 0) ∧ w.heap.size ≤ R ∧ w.heap.size ≤ A ∧ R < w'.heap.size ∧ A < w'.heap.size ∧ R ≠ A ∧ Below w.heap.size w w' := by
  subst hzn
  have hmk := make_bools n h
  have HF : ∀ W : World, W = (w.alloc (.cells (falseCells n) 4)).alloc (.cells #[.slice (some ⟨w.heap.size, 0, none⟩) n n] 65) → RefIs W (w.heap.size + 1) w.heap.size n (List.replicate ((n + 63) / 64) 0) := fun W hW => by
    subst hW
    refine ⟨by simp, fun j hj => ?_, fun j hj => by simp⟩
    have hw : hasB (List.replicate ((n + 63) / 64) 0) j = false := by
      have : wd (List.replicate ((n + 63) / 64) 0) (j / 64) = 0 := by simp [wd, List.getD_eq_getElem?_getD, List.getElem?_replicate]; split <;> rfl
      rw [hasB, this, Nat.zero_testBit]
    rw [hw]
    simp [falseCells_at n j hj]
  have HF' := Lib.hid HF
  clear HF
  go_enter Tryd.func13, Tryd.ntmps13
  go_wp2
  go_ret
  exact ⟨w.heap.size + 1, w.heap.size, rfl, HF'.out _ rfl, by omega, by omega, by simp, by simp; omega, by omega, ((Below.refl _ _).alloc (Nat.le_refl _) _).alloc (by simp) _⟩

theorem mayB_out {z : Int} {size : Nat} (h : mayB z size = false) : z < 0 ∨ (0 ≤ z ∧ (size : Int) ≤ z) := by
  simp only [mayB, Bool.and_eq_false_iff, decide_eq_false_iff_not] at h
  omega
set_option maxHeartbeats 1000000 in
theorem ref_has (R A size : Nat) (ws : List Nat) (z : Int) (w : World) (hs : RefIs w R A size ws) :
    Calls Tryd.prog 17 #[.pointer (some ⟨R, 0, none⟩), .int .i64 z] w fun e w' => e = .returned (.bool (mayB z size && hasB ws z.toNat)) ∧ w' = w := by
  have hc := hs.cs
  cases hm : mayB z size with
  | false =>
    rcases mayB_out hm with h | ⟨h1, h2⟩
    all_goals
      clear hm hs
      go_enter Tryd.func17, Tryd.ntmps17
      go_wp2
      go_ret
      exact ⟨rfl, rfl⟩
  | true =>
    have h := hm
    unfold mayB at h
    rw [Bool.and_eq_true, decide_eq_true_eq, decide_eq_true_eq] at h
    obtain ⟨n, rfl⟩ := Int.eq_ofNat_of_zero_le h.1
    have hat := hs.at_ n (by omega)
    have i1 := h.1
    have i2 := h.2
    have i3 : ((n : Int) : Int).toNat = n := Int.toNat_natCast n
    rw [Int.toNat_natCast, Bool.true_and]
    clear hs hm h
    generalize hasB ws n = b at *
    go_enter Tryd.func17, Tryd.ntmps17
    go_wp2
    go_ret
    exact ⟨rfl, rfl⟩

theorem RefIs.put {w : World} {R A size : Nat} {ws : List Nat} (h : RefIs w R A size ws) (hRA : R ≠ A) (hrow : SetW size ws) {n : Nat} (hn : n < size) :
    RefIs (w.setCell ⟨A, n, none⟩ (.bool (!hasB ws n))) R A size (putW ws n) := by
  refine ⟨?_, fun j hj => ?_, fun j hj => ?_⟩
  · rw [other (a := ⟨A, n, none⟩) (b := ⟨R, 0, none⟩) (fun e => hRA (congrArg Addr.block e).symm)]; exact h.cs
  · rw [hrow.has_put hn]
    by_cases e : j = n
    · subst e
      rw [if_pos rfl]
      exact same (h.at_ _ hj)
    · rw [if_neg e, other (a := ⟨A, n, none⟩) (b := ⟨A, j, none⟩) (fun x => e (congrArg Addr.off x).symm)]
      exact h.at_ j hj
  · rw [World.frozen?_setCell]
    exact h.fz j hj

set_option maxHeartbeats 1000000 in
theorem ref_put (R A size : Nat) (ws : List Nat) (z : Int) (x : Bool) (w : World) (hs : RefIs w R A size ws) (hRA : R ≠ A) (hrow : SetW size ws) :
    Calls Tryd.prog 15 #[.pointer (some ⟨R, 0, none⟩), .int .i64 z, .bool x] w fun e w' => e = .returned (.bool (putR size ws z x)) ∧ RefIs w' R A size (putS size ws z x) ∧ w.grownBy w' (some A) ∧ w'.heap.size = w.heap.size := by
  have hc := hs.cs
  cases hm : mayB z size with
  | false =>
    have e1 : putR size ws z x = false := by simp [putR, hm]
    have e2 : putS size ws z x = ws := by simp [putS, e1]
    rw [e1, e2]
    have HS := Lib.hid hs
    rcases mayB_out hm with h | ⟨h1, h2⟩
    all_goals
      clear hm hs
      go_enter Tryd.func15, Tryd.ntmps15
      go_wp2
      go_ret
      exact ⟨rfl, HS.out, World.grownBy.refl _ _, rfl⟩
  | true =>
    have h := hm
    unfold mayB at h
    rw [Bool.and_eq_true, decide_eq_true_eq, decide_eq_true_eq] at h
    obtain ⟨n, rfl⟩ := Int.eq_ofNat_of_zero_le h.1
    have hn : n < size := by omega
    have hat := hs.at_ n hn
    have hfz := hs.fz n hn
    have i1 := h.1
    have i2 := h.2
    have HS := Lib.hid hs
    by_cases he : hasB ws n = x
    · have e1 : putR size ws n x = false := by simp [putR, he]
      have e2 : putS size ws n x = ws := by simp [putS, e1]
      rw [e1, e2]
      rw [he] at hat
      have hxx : (x == x) = true := by simp
      clear hs hm h e1 e2 he
      go_enter Tryd.func15, Tryd.ntmps15
      go_wp2
      go_ret
      exact ⟨rfl, HS.out, World.grownBy.refl _ _, rfl⟩
    · have e1 : putR size ws n x = true := by simp [putR, hm, he]
      have e2 : putS size ws n x = putW ws n := by simp [putS, e1]
      rw [e1, e2]
      obtain rfl : x = !hasB ws n := by cases x <;> cases hx : hasB ws n <;> simp_all
      have HP := Lib.hid (hs.put hRA hrow hn)
      have hxx : (hasB ws n == !hasB ws n) = false := by cases hasB ws n <;> rfl
      clear hs hm h e1 e2 he
      go_enter Tryd.func15, Tryd.ntmps15
      go_wp2
      go_ret
      exact ⟨rfl, HP.out, only_setCell (World.grownBy.refl _ _) rfl _, size_setCell _ _ _⟩
end Go.Proofs.YtahhenbphnejiaaDoor.Bits
