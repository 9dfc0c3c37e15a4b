/-
  Cycles: rows of cycles; what Cycles tells.
-/
import Derived.Test.YtodfkklkgcoddaaDoorSsB
import Derived.Maps.AppendAt
namespace Go.Proofs.YtodfkklkgcoddaaDoor.Ss
open Go.RowKit
open Go.Proofs.YtodfkklkgcoddaaDoor.Row

def cyC (x : Cy) : List Value := [.int .i64 x.num, .int .i64 x.start, .int .i64 x.marked, .int .i64 x.rested, .int .i64 x.freed]
def cellsC (l : List Cy) : List Value := l.flatMap cyC
theorem cellsC_len (l : List Cy) : (cellsC l).length = l.length * 5 := by
  induction l with
  | nil => rfl
  | cons x l ih =>
    simp only [cellsC, List.flatMap_cons, List.length_append, List.length_cons] at ih ⊢
    rw [ih, show (cyC x).length = 5 from rfl]; omega
theorem cellsC_at {l : List Cy} {j t : Nat} (ht : t < 5) {x : Cy} (hx : l[j]? = some x) : (cellsC l)[j * 5 + t]? = (cyC x)[t]? := by
  induction l generalizing j with
  | nil => simp at hx
  | cons y l ih =>
    cases j with
    | zero =>
      simp only [List.getElem?_cons_zero, Option.some.injEq] at hx
      subst hx
      simp only [cellsC, List.flatMap_cons, Nat.zero_mul, Nat.zero_add]
      rw [List.getElem?_append_left (by exact ht)]
    | succ j =>
      simp only [List.getElem?_cons_succ] at hx
      have := ih hx
      simp only [cellsC, List.flatMap_cons] at this ⊢
      rw [List.getElem?_append_right (by show 5 ≤ _; omega), ← this]
      congr 1
      show (j + 1) * 5 + t - 5 = _
      omega
theorem cellsC_snoc (l : List Cy) (x : Cy) : cellsC (l ++ [x]) = cellsC l ++ cyC x := by simp [cellsC]
theorem infoCy : (Tryd.prog.info? 32).map (fun i => (i.zero, i.size, i.bytes)) = some (some (.agg #[.int .i64 0, .int .i64 0, .int .i64 0, .int .i64 0, .int .i64 0]), 5, 40) := by kernel_rfl
theorem begun_anyL (e : Ev) (p : Option Addr) (cap L : Nat) (l : List Ev) (W : World) (h : EvAt W p l) (hL : l.length = L) (hl : L ≤ maxLen) :
    Calls Tryd.prog 17 #[e.agg, .slice p L cap] W fun x w' => x = .returned (cyc e l).agg ∧ Below W.heap.size W w' := by
  subst hL
  exact begun_any e p cap l W h hl

theorem cyC_new (w : World) (x : Cy) (t : TypeId) : ∀ (j : Nat) (u : Value), (cyC x)[j]? = some u → (w.alloc (.cells #[.int .i64 x.num, .int .i64 x.start, .int .i64 x.marked, .int .i64 x.rested, .int .i64 x.freed] t)).cell? ((⟨w.heap.size, 0, none⟩ : Addr).add j) = some u := fun j u hu => by
  rw [Addr.add_lit, Nat.zero_add, World.cell?_alloc_new, show (#[.int .i64 x.num, .int .i64 x.start, .int .i64 x.marked, .int .i64 x.rested, .int .i64 x.freed] : Array Value) = (cyC x).toArray from rfl, List.getElem?_toArray]
  exact hu
theorem cyC_one (x : Cy) : ∀ u ∈ cyC x, u.oneCell' = true := fun u hu => by
  simp only [cyC, List.mem_cons, List.not_mem_nil, or_false] at hu
  rcases hu with rfl | rfl | rfl | rfl | rfl <;> rfl
set_option maxRecDepth 100000 in
set_option maxHeartbeats 4000000 in
theorem cycles_any (p : Option Addr) (cap : Nat) (l : List Ev) (W : World) (h : EvAt W p l) (hl : l.length ≤ 1000) (hcap : l.length ≤ cap) (_hcm : cap ≤ maxLen) :
    Calls Tryd.prog 8 #[.slice p l.length cap] W fun x w' => ∃ p' c', x = .returned (.slice p' (cycs l).length c') ∧
      w'.ownsRow W.heap.size 32 5 (.slice p' (cycs l).length c') (cycs l).length (cellsC (cycs l)) ∧ Below W.heap.size W w' := by
  obtain ⟨i0, hi, hz0, hz1, hz2⟩ := info_parts infoCy
  have HO := Lib.hid h
  clear h
  go_enter Tryd.func8, Tryd.ntmps8
  go_wp2
  go_loopw [3, 8] (fun pv iv wr => ∃ (i : Nat) (q : Option Addr) (c : Nat) (cs : List Cy), i ≤ l.length ∧ pv = .slice q cs.length c ∧ iv = .int .i64 i ∧ cs.length ≤ i ∧ cs ++ cycs (l.drop i) = cycs l ∧
    wr.ownsRow W.heap.size 32 5 (.slice q cs.length c) cs.length (cellsC cs) ∧ Below W.heap.size W wr) (fun _ iv _ => l.length - (intOf iv).toNat)
  case atStart => exact ⟨0, none, 0, [], Nat.zero_le _, rfl, rfl, Nat.le_refl _, rfl, ⟨rfl, .inl ⟨rfl, rfl⟩⟩, Below.refl _ _⟩
  case round =>
    obtain ⟨i, q, c, cs, hil, rfl, rfl, hci, hcy, how, hb⟩ := hrel
    have HB := Lib.hid hb
    have HW := Lib.hid how
    have HC := Lib.hid hcy
    clear hb how hcy
    have n0 : (0 : Int) ≤ (i : Int) := Int.natCast_nonneg _
    by_cases hlt : i < l.length
    · have n1 : (i : Int) < (l.length : Int) := by omega
      obtain ⟨b, off, rfl, c0, c1, c2, c3, c4, c5⟩ := (HO.out.later (l := l) HB.out) i hlt
      have HD := Lib.hid (drop_at hlt)
      have HDR := Lib.hid (HO.out.drop (i + 1))
      generalize hx : l.getD i ev0 = x at *
      clear hx
      obtain ⟨xp, xw, xk, xo, xc, xv⟩ := x
      simp only at c0 c1 c2 c3 c4 c5
      obtain ⟨w2, hw2⟩ : ∃ w2, wr.alloc (.cells #[.int .i64 xp, .int .i64 xw, .int .i64 xk, .int .i64 xo, .int .i64 xc, .int .i64 xv] 44) = w2 := ⟨_, rfl⟩
      have hb2 : Below wr.heap.size wr w2 := by rw [← hw2]; exact (Below.refl _ _).alloc (Nat.le_refl _) _
      have q0 : w2.cell? ⟨wr.heap.size, 0, none⟩ = some (.int .i64 xp) := by rw [← hw2, World.cell?_alloc_new]; rfl
      have q1 : w2.cell? ⟨wr.heap.size, 1, none⟩ = some (.int .i64 xw) := by rw [← hw2, World.cell?_alloc_new]; rfl
      have q2 : w2.cell? ⟨wr.heap.size, 2, none⟩ = some (.int .i64 xk) := by rw [← hw2, World.cell?_alloc_new]; rfl
      have q3 : w2.cell? ⟨wr.heap.size, 3, none⟩ = some (.int .i64 xo) := by rw [← hw2, World.cell?_alloc_new]; rfl
      have q4 : w2.cell? ⟨wr.heap.size, 4, none⟩ = some (.int .i64 xc) := by rw [← hw2, World.cell?_alloc_new]; rfl
      have q5 : w2.cell? ⟨wr.heap.size, 5, none⟩ = some (.int .i64 xv) := by rw [← hw2, World.cell?_alloc_new]; rfl
      have HB2 := Lib.hid (HB.out.trans (hb2.mono HB.out.size))
      have HW2 := Lib.hid (owns_block HW.out (fun g hg => hb2.block g (owns_lt HW.out hg).2))
      clear hb2
      by_cases k2 : xk = 2
      · subst k2
        have m1 : (i : Int) + 1 ≤ (l.length : Int) := by omega
        have m2 : (0 : Int) ≤ (i : Int) + 1 := by omega
        have m3 : (l.length : Int) ≤ (cap : Int) := by omega
        have m4 : IntKind.i64.wrap ((i : Int) + 1) = (i : Int) + 1 := by rw [IntKind.wrap_i64]; omega
        have HBG : Hid (∀ w p L c, EvAt w p (l.drop (i + 1)) → L = l.length - (i + 1) → Calls Tryd.prog 17 #[.agg #[.int .i64 xp, .int .i64 xw, .int .i64 2, .int .i64 xo, .int .i64 xc, .int .i64 xv], .slice p L c] w fun x w' => x = .returned (.agg #[.int .i64 (cyc ⟨xp, xw, 2, xo, xc, xv⟩ (l.drop (i + 1))).num, .int .i64 (cyc ⟨xp, xw, 2, xo, xc, xv⟩ (l.drop (i + 1))).start, .int .i64 (cyc ⟨xp, xw, 2, xo, xc, xv⟩ (l.drop (i + 1))).marked, .int .i64 (cyc ⟨xp, xw, 2, xo, xc, xv⟩ (l.drop (i + 1))).rested, .int .i64 (cyc ⟨xp, xw, 2, xo, xc, xv⟩ (l.drop (i + 1))).freed]) ∧ Below w.heap.size w w') :=
          Lib.hid fun w p L c h hL => begun_anyL ⟨xp, xw, 2, xo, xc, xv⟩ p c L (l.drop (i + 1)) w h (by rw [List.length_drop, hL]) (by unfold maxLen; omega)
        have HK : Hid ((cs ++ [cyc ⟨xp, xw, 2, xo, xc, xv⟩ (l.drop (i + 1))]) ++ cycs (l.drop (i + 1)) = cycs l) := Lib.hid (by rw [← HC.out, HD.out, cycs_cons, if_pos rfl, List.append_assoc]; rfl)
        obtain ⟨P, hP⟩ : ∃ P : Option Addr, (if cap = i + 1 then some ⟨b, off, none⟩ else some ⟨b, off + (i + 1) * 6, none⟩) = P := ⟨_, rfl⟩
        have HDW : Hid (∀ w, Below W.heap.size W w → EvAt w P (l.drop (i + 1))) := Lib.hid fun w h => by
          rw [← hP]
          by_cases hci : cap = i + 1
          · intro j hj; rw [List.length_drop] at hj; omega
          · rw [if_neg hci]; exact HDR.out.later h
        generalize hX : cyc ⟨xp, xw, 2, xo, xc, xv⟩ (l.drop (i + 1)) = X at *
        clear hX
        have HK0 : Hid (Below W.heap.size W w2.drew ∧ w2.drew.ownsRow W.heap.size 32 5 (.slice q cs.length c) cs.length (cellsC cs) ∧ w2.drew.cell? ⟨wr.heap.size, 0, none⟩ = some (.int .i64 xp) ∧ w2.drew.cell? ⟨wr.heap.size, 1, none⟩ = some (.int .i64 xw) ∧ w2.drew.cell? ⟨wr.heap.size, 2, none⟩ = some (.int .i64 2) ∧ w2.drew.cell? ⟨wr.heap.size, 3, none⟩ = some (.int .i64 xo) ∧ w2.drew.cell? ⟨wr.heap.size, 4, none⟩ = some (.int .i64 xc) ∧ w2.drew.cell? ⟨wr.heap.size, 5, none⟩ = some (.int .i64 xv)) :=
          Lib.hid ⟨below_drewN HB2.out 1, HW2.out, q0, q1, q2, q3, q4, q5⟩
        have HK2 : Hid (∀ w w', Below W.heap.size W w ∧ w.ownsRow W.heap.size 32 5 (.slice q cs.length c) cs.length (cellsC cs) ∧ w.cell? ⟨wr.heap.size, 0, none⟩ = some (.int .i64 xp) ∧ w.cell? ⟨wr.heap.size, 1, none⟩ = some (.int .i64 xw) ∧ w.cell? ⟨wr.heap.size, 2, none⟩ = some (.int .i64 2) ∧ w.cell? ⟨wr.heap.size, 3, none⟩ = some (.int .i64 xo) ∧ w.cell? ⟨wr.heap.size, 4, none⟩ = some (.int .i64 xc) ∧ w.cell? ⟨wr.heap.size, 5, none⟩ = some (.int .i64 xv) → Below w.heap.size w w' →
            Below W.heap.size W w' ∧ w'.ownsRow W.heap.size 32 5 (.slice q cs.length c) cs.length (cellsC cs) ∧ w'.cell? ⟨wr.heap.size, 0, none⟩ = some (.int .i64 xp) ∧ w'.cell? ⟨wr.heap.size, 1, none⟩ = some (.int .i64 xw) ∧ w'.cell? ⟨wr.heap.size, 2, none⟩ = some (.int .i64 2) ∧ w'.cell? ⟨wr.heap.size, 3, none⟩ = some (.int .i64 xo) ∧ w'.cell? ⟨wr.heap.size, 4, none⟩ = some (.int .i64 xc) ∧ w'.cell? ⟨wr.heap.size, 5, none⟩ = some (.int .i64 xv)) :=
          Lib.hid fun w w' ⟨h, ho, h0, h1, h2, h3, h4, h5⟩ hb => ⟨h.trans (hb.mono h.size), owns_block ho (fun g hg => hb.block g (owns_lt ho hg).2), (hb.cell (p := ⟨_, _, none⟩) (lt_of_cell h0)).trans h0, (hb.cell (p := ⟨_, _, none⟩) (lt_of_cell h1)).trans h1, (hb.cell (p := ⟨_, _, none⟩) (lt_of_cell h2)).trans h2, (hb.cell (p := ⟨_, _, none⟩) (lt_of_cell h3)).trans h3, (hb.cell (p := ⟨_, _, none⟩) (lt_of_cell h4)).trans h4, (hb.cell (p := ⟨_, _, none⟩) (lt_of_cell h5)).trans h5⟩
        have HAD : Hid (∀ (W : World) (o : Obj), Below W.heap.size W (W.alloc o).drew) := Lib.hid fun W o => below_drewN ((Below.refl _ _).alloc (Nat.le_refl _) o) 1
        have HA : Hid (∀ (W : World) (o : Obj), Below W.heap.size W (W.alloc o)) := Lib.hid fun W o => (Below.refl _ _).alloc (Nat.le_refl _) o
        go_wp2
        go_region_law (first
          | (go_simp; go_at_call 17; refine (HBG.out _ _ _ _ (HDW.out _ HK0.out.1) rfl).mono ?_; rintro e w' ⟨rfl, hb'⟩; have HS3 := Lib.hid (HK2.out _ _ HK0.out hb'); clear hb'; try go_simp)
          | (refine step_append_own rfl (.tmp 16) (.tmp 23) 24 rfl W.heap.size 32 i0 (.agg #[.int .i64 0, .int .i64 0, .int .i64 0, .int .i64 0, .int .i64 0]) 5 40 Tryd.underlying24 hi hz0 hz1 hz2 rfl (by decide) (.slice q cs.length c) cs.length (cellsC cs) rfl (HS3.out.2.1.alloc _) ⟨w'.heap.size, 0, none⟩ 1 1 (cyC X) rfl rfl (cyC_new _ _ _) (cyC_one _) (by unfold maxLen; omega) (by omega) (by have := HS3.out.1.size; simp; omega) ?_; intro v' w3 hown hgrow hat; have HOWN := Lib.hid hown; have HGROW := Lib.hid hgrow; have HAT := Lib.hid hat; clear hown hgrow hat))
        have hown := HOWN.out
        rw [← cellsC_snoc] at hown
        obtain ⟨q2, d2, rfl⟩ := owns_slice hown
        have hB3 : Below W.heap.size W w3 := (HS3.out.1.alloc HS3.out.1.size _).grown HGROW.out (by have := HS3.out.1.size; simp; omega) (fun k hk => (owns_lt HS3.out.2.1 ((ownBlock_slice q cs.length c k).1 hk)).1)
        have HB3 := Lib.hid hB3
        have HOW3 := Lib.hid hown
        clear hown hB3 HGROW HAT HOWN
        go_wp2
        go_roundw
        case rel => exact ⟨i + 1, q2, d2, cs ++ [X], by omega, by simp, by go_num, by simp; omega, HK.out, by simpa using HOW3.out, HB3.out⟩
        case measure => simp [intOf]; omega
      · have k2b : (xk == 2) = false := by simpa using k2
        have HK : Hid (cs ++ cycs (l.drop (i + 1)) = cycs l) := Lib.hid (by rw [← HC.out, HD.out, cycs_cons, if_neg (show ¬ xk = 2 from k2)])
        go_wp2
        go_roundw
        case rel => exact ⟨i + 1, q, c, cs, by omega, rfl, by go_num, by omega, HK.out, HW2.out, HB2.out⟩
        case measure => simp [intOf]; omega
    · obtain rfl : i = l.length := by omega
      have HE : Hid (cs = cycs l) := Lib.hid (by rw [← HC.out, List.drop_length, show cycs [] = [] from rfl, List.append_nil])
      go_wp2
      go_ret
      refine ⟨q, c, ?_⟩
      rw [← HE.out]
      exact ⟨rfl, HW.out, HB.out⟩
end Go.Proofs.YtodfkklkgcoddaaDoor.Ss
