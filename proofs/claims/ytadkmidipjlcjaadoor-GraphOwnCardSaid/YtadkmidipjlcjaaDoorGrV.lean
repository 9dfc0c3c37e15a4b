/-
  Copy.
-/
import Derived.Test.YtadkmidipjlcjaaDoorGrS
import Derived.Deep.RegionHeld3
namespace Go.Proofs.YtadkmidipjlcjaaDoor.Gra
open Go.RowKit Go.Proofs.YtadkmidipjlcjaaDoor.Opr
open Go.Proofs.YtadkmidipjlcjaaDoor.Row (rowB rowB_none Chg owns_chg owns_cell owns_lt owns_base cellsZ cellsZ_length cellsZ_at Rd clone_any push_row info_parts one_at)

def cpP (p0 p1 pc : Option Addr) (Q0 Q1 : Nat → Option Addr) : Nat → Option Addr := fun j => if j = 0 then p0 else if j = 1 then p1 else if j = 2 then pc else if j % 2 = 1 then Q0 ((j - 3) / 2) else Q1 ((j - 4) / 2)
def cpK (p0 p1 pc : Nat) (Q0 Q1 : Nat → Nat) : Nat → Nat := fun j => if j = 0 then p0 else if j = 1 then p1 else if j = 2 then pc else if j % 2 = 1 then Q0 ((j - 3) / 2) else Q1 ((j - 4) / 2)
section
variable {p0 p1 pc : Option Addr} {Q0 Q1 : Nat → Option Addr}
theorem cpP_o (i : Nat) : cpP p0 p1 pc Q0 Q1 (3 + 2 * i) = Q0 i := by
  unfold cpP
  rw [if_neg (by omega), if_neg (by omega), if_neg (by omega), if_pos (by omega), show (3 + 2 * i - 3) / 2 = i by omega]
theorem cpP_r (i : Nat) : cpP p0 p1 pc Q0 Q1 (4 + 2 * i) = Q1 i := by
  unfold cpP
  rw [if_neg (by omega), if_neg (by omega), if_neg (by omega), if_neg (by omega), show (4 + 2 * i - 4) / 2 = i by omega]
theorem cp_cases (j : Nat) : j = 0 ∨ j = 1 ∨ j = 2 ∨ (∃ i, j = 3 + 2 * i) ∨ ∃ i, j = 4 + 2 * i := by
  by_cases h : j < 3
  · omega
  · by_cases h2 : j % 2 = 1
    · exact .inr (.inr (.inr (.inl ⟨(j - 3) / 2, by omega⟩)))
    · exact .inr (.inr (.inr (.inr ⟨(j - 4) / 2, by omega⟩)))
end
section
variable {p0 p1 pc : Nat} {Q0 Q1 : Nat → Nat}
theorem cpK_o (i : Nat) : cpK p0 p1 pc Q0 Q1 (3 + 2 * i) = Q0 i := by
  unfold cpK
  rw [if_neg (by omega), if_neg (by omega), if_neg (by omega), if_pos (by omega), show (3 + 2 * i - 3) / 2 = i by omega]
theorem cpK_r (i : Nat) : cpK p0 p1 pc Q0 Q1 (4 + 2 * i) = Q1 i := by
  unfold cpK
  rw [if_neg (by omega), if_neg (by omega), if_neg (by omega), if_neg (by omega), show (4 + 2 * i - 4) / 2 = i by omega]
end
/-- What Copy leaves. -/
def CopyP (c : C7) (s : GSt) (W : World) (G : Nat) (w' : World) : Prop := ∃ P K, GIs c w' G P K s ∧ Below W.heap.size W w' ∧ ∀ x, mine G P x → W.heap.size ≤ x
theorem copy_fin {c : C7} {s : GSt} {W A B C D F : World} {p0 p1 pc : Option Addr} {k0 k1 kc : Nat} {Q0 Q1 : Nat → Option Addr} {J0 J1 : Nat → Nat} (hA : Below W.heap.size W A)
    (h0 : NewRows A B p0 k0 s.nO Q0 J0 (fun i => s.E (3 + 2 * i))) (h1 : NewRows B C p1 k1 s.nR Q1 J1 (fun i => s.E (4 + 2 * i)))
    (h2 : D.ownsRow C.heap.size 3 1 (.slice pc (s.E 2).length kc) (s.E 2).length (cellsZ (s.E 2))) (hD : Below C.heap.size C D)
    (hF : F = D.alloc (.cells #[.int .i64 c.b, .int .i64 c.wd, .int .i64 c.m, .int .i64 c.r, .int .i64 c.ce, .int .i64 c.lg, .int .i64 c.st, .slice p0 s.nO k0, .slice p1 s.nR k1, .slice pc (s.E 2).length kc] 62)) :
    CopyP c s W D.heap.size F := by
  have hX : CellsAt F D.heap.size [.int .i64 c.b, .int .i64 c.wd, .int .i64 c.m, .int .i64 c.r, .int .i64 c.ce, .int .i64 c.lg, .int .i64 c.st, .slice p0 s.nO k0, .slice p1 s.nR k1, .slice pc (s.E 2).length kc] := by
    rw [hF]; exact CellsAt.new _ _ _
  have hDF : Below D.heap.size D F := by rw [hF]; exact (Below.refl _ _).alloc (Nat.le_refl _) _
  have hfz : ∀ j, F.frozen? ⟨D.heap.size, j, none⟩ = false := fun j => by rw [hF]; simp
  have hs0 := hA.size
  have hs1 := h0.bl.size
  have hs2 := h1.bl.size
  have hs3 := hD.size
  have hs4 := hDF.size
  have hs5 : D.heap.size < F.heap.size := by rw [hF, World.size_alloc]; exact Nat.lt_succ_self _
  have hCF : Below C.heap.size C F := hD.trans (hDF.mono hs3)
  have hBF : Below B.heap.size B F := h1.bl.trans (hCF.mono hs2)
  have hWF : Below W.heap.size W F := hA.trans ((h0.bl.trans (hBF.mono hs1)).mono hs0)
  have k0' := h0.later hBF
  have k1' := h1.later hCF
  have k2' := owns_chg h2 (Chg.of_below (S := fun _ => False) hDF) (fun _ _ e => e)
  clear hF
  have rO : ∀ x, rowB p0 x → A.heap.size ≤ x ∧ x < B.heap.size := fun x hx => owns_lt h0.ow hx
  have rQ0 : ∀ i x, rowB (Q0 i) x → A.heap.size ≤ x ∧ x < B.heap.size := fun i x hx => h0.lt hx
  have rR : ∀ x, rowB p1 x → B.heap.size ≤ x ∧ x < C.heap.size := fun x hx => owns_lt h1.ow hx
  have rQ1 : ∀ i x, rowB (Q1 i) x → B.heap.size ≤ x ∧ x < C.heap.size := fun i x hx => h1.lt hx
  have rC : ∀ x, rowB pc x → C.heap.size ≤ x ∧ x < D.heap.size := fun x hx => owns_lt h2 hx
  have hrow : ∀ j x, rowB (cpP p0 p1 pc Q0 Q1 j) x → A.heap.size ≤ x ∧ x < D.heap.size := fun j x hx => by
    rcases cp_cases j with rfl | rfl | rfl | ⟨i, rfl⟩ | ⟨i, rfl⟩
    · have := rO x hx; omega
    · have := rR x hx; omega
    · have := rC x hx; omega
    · rw [cpP_o] at hx; have := rQ0 i x hx; omega
    · rw [cpP_r] at hx; have := rQ1 i x hx; omega
  refine ⟨cpP p0 p1 pc Q0 Q1, cpK k0 k1 kc J0 J1, ⟨?_, hX 7 _ rfl, hX 8 _ rfl, hX 9 _ rfl, hfz, ?_, ?_, ?_, ?_, ?_, ?_⟩, hWF, ?_⟩
  · intro j v hv
    have hj : j < 7 := (List.getElem?_eq_some_iff.1 hv).1
    refine hX j v ?_
    rw [← hv]
    have h7 : j = 0 ∨ j = 1 ∨ j = 2 ∨ j = 3 ∨ j = 4 ∨ j = 5 ∨ j = 6 := by omega
    rcases h7 with rfl | rfl | rfl | rfl | rfl | rfl | rfl <;> rfl
  · have e : valsR (cpP p0 p1 pc Q0 Q1) (cpK k0 k1 kc J0 J1) s.E fO s.nO = (List.range s.nO).map fun i => .slice (Q0 i) (s.E (3 + 2 * i)).length (J0 i) := by
      unfold valsR fO
      refine List.map_congr_left fun i _ => ?_
      rw [cpP_o, cpK_o]
    rw [e]
    exact owns_base (Nat.zero_le _) k0'.ow
  · have e : valsR (cpP p0 p1 pc Q0 Q1) (cpK k0 k1 kc J0 J1) s.E fR s.nR = (List.range s.nR).map fun i => .slice (Q1 i) (s.E (4 + 2 * i)).length (J1 i) := by
      unfold valsR fR
      refine List.map_congr_left fun i _ => ?_
      rw [cpP_r, cpK_r]
    rw [e]
    exact owns_base (Nat.zero_le _) k1'.ow
  · rintro j (rfl | ⟨i, hi, rfl⟩ | ⟨i, hi, rfl⟩)
    · exact owns_base (Nat.zero_le _) k2'
    · rw [cpP_o, cpK_o]; exact owns_base (Nat.zero_le _) (k0'.el i hi)
    · rw [cpP_r, cpK_r]; exact owns_base (Nat.zero_le _) (k1'.el i hi)
  · intro i j x hij hi hj
    rcases cp_cases i with rfl | rfl | rfl | ⟨a, rfl⟩ | ⟨a, rfl⟩ <;> rcases cp_cases j with rfl | rfl | rfl | ⟨b, rfl⟩ | ⟨b, rfl⟩ <;>
      (try rw [cpP_o] at hi) <;> (try rw [cpP_r] at hi) <;> (try rw [cpP_o] at hj) <;> (try rw [cpP_r] at hj)
    · exact hij rfl
    · have := rO x hi; have := rR x hj; omega
    · have := rO x hi; have := rC x hj; omega
    · exact h0.ao b x hi hj
    · have := rO x hi; have := rQ1 b x hj; omega
    · have := rR x hi; have := rO x hj; omega
    · exact hij rfl
    · have := rR x hi; have := rC x hj; omega
    · have := rR x hi; have := rQ0 b x hj; omega
    · exact h1.ao b x hi hj
    · have := rC x hi; have := rO x hj; omega
    · have := rC x hi; have := rR x hj; omega
    · exact hij rfl
    · have := rC x hi; have := rQ0 b x hj; omega
    · have := rC x hi; have := rQ1 b x hj; omega
    · exact h0.ao a x hj hi
    · have := rQ0 a x hi; have := rR x hj; omega
    · have := rQ0 a x hi; have := rC x hj; omega
    · exact h0.ap a b x (by omega) hi hj
    · have := rQ0 a x hi; have := rQ1 b x hj; omega
    · have := rQ1 a x hi; have := rO x hj; omega
    · exact h1.ao a x hj hi
    · have := rQ1 a x hi; have := rC x hj; omega
    · have := rQ1 a x hi; have := rQ0 b x hj; omega
    · exact h1.ap a b x (by omega) hi hj
  · intro j hj
    have := hrow j _ hj; omega
  · intro j x hx
    have := hrow j x hx; omega
  · rintro x (rfl | ⟨j, hj⟩)
    · omega
    · have := hrow j x hj; omega

set_option maxRecDepth 100000 in
set_option maxHeartbeats 4000000 in
theorem copy_any {c : C7} {W : World} {G : Nat} {P : Nat → Option Addr} {K : Nat → Nat} {s : GSt} (h : GIs c W G P K s) (hO : s.nO ≤ 1000000) (hRR : s.nR ≤ 1000000) (hl : ∀ j, s.V j → (s.E j).length ≤ 2097152) :
    Calls Tryd.prog 24 #[.pointer (some ⟨G, 0, none⟩)] W fun e w' => ∃ G', e = .returned (.pointer (some ⟨G', 0, none⟩)) ∧ CopyP c s W G' w' := by
  have c0 := h.cf 0 _ rfl
  have c1 := h.cf 1 _ rfl
  have c2 := h.cf 2 _ rfl
  have c3 := h.cf 3 _ rfl
  have c4 := h.cf 4 _ rfl
  have c5 := h.cf 5 _ rfl
  have c6 := h.cf 6 _ rfl
  have g7 := h.o
  have g8 := h.r
  have g9 := h.c
  have hG := h.ltG
  have HC7 : Hid (∀ V, Below W.heap.size W V → Calls Tryd.prog 41 #[.slice (P 0) s.nO (K 0)] V fun e w' => ∃ p' cap', e = .returned (.slice p' s.nO cap') ∧ ∃ Q J, NewRows V w' p' cap' s.nO Q J (fun i => s.E (3 + 2 * i))) := Lib.hid fun V hV => by
    have h' := h.later hV
    exact copies_any (f := fO) h'.oO (fun i hi => h'.e _ (V_obj hi)) hO (fun i hi => hl _ (V_obj hi))
  have HC8 : Hid (∀ V, Below W.heap.size W V → Calls Tryd.prog 41 #[.slice (P 1) s.nR (K 1)] V fun e w' => ∃ p' cap', e = .returned (.slice p' s.nR cap') ∧ ∃ Q J, NewRows V w' p' cap' s.nR Q J (fun i => s.E (4 + 2 * i))) := Lib.hid fun V hV => by
    have h' := h.later hV
    exact copies_any (f := fR) h'.oR (fun i hi => h'.e _ (V_reg hi)) hRR (fun i hi => hl _ (V_reg hi))
  have HC9 : Hid (∀ V, Below W.heap.size W V → Calls Tryd.prog 40 #[.slice (P 2) (s.E 2).length (K 2)] V fun e w' => ∃ p' cap', e = .returned (.slice p' (s.E 2).length cap') ∧ w'.ownsRow V.heap.size 3 1 (.slice p' (s.E 2).length cap') (s.E 2).length (cellsZ (s.E 2)) ∧ Below V.heap.size V w') := Lib.hid fun V hV => by
    have h' := (h.later hV).e 2 (V_cells s)
    exact clone_any (P 2) (s.E 2) V (hl 2 (V_cells s)) (owns_cap0 h') (Rd.of_owns h')
  have HFIN : Hid (∀ A B C D F p0 p1 pc k0 k1 kc Q0 Q1 J0 J1, Below W.heap.size W A → NewRows A B p0 k0 s.nO Q0 J0 (fun i => s.E (3 + 2 * i)) → NewRows B C p1 k1 s.nR Q1 J1 (fun i => s.E (4 + 2 * i)) →
      D.ownsRow C.heap.size 3 1 (.slice pc (s.E 2).length kc) (s.E 2).length (cellsZ (s.E 2)) → Below C.heap.size C D →
      F = D.alloc (.cells #[.int .i64 c.b, .int .i64 c.wd, .int .i64 c.m, .int .i64 c.r, .int .i64 c.ce, .int .i64 c.lg, .int .i64 c.st, .slice p0 s.nO k0, .slice p1 s.nR k1, .slice pc (s.E 2).length kc] 62) → CopyP c s W D.heap.size F) :=
    Lib.hid fun A B C D F p0 p1 pc k0 k1 kc Q0 Q1 J0 J1 a b d e f g => copy_fin a b d e f g
  clear h hO hRR hl
  have HK2 : Hid (∀ V V' : World, Below V.heap.size V V' → (Below W.heap.size W V ∧ V.cell? ⟨G, 0, none⟩ = some (.int .i64 c.b) ∧ V.cell? ⟨G, 1, none⟩ = some (.int .i64 c.wd) ∧ V.cell? ⟨G, 2, none⟩ = some (.int .i64 c.m) ∧ V.cell? ⟨G, 3, none⟩ = some (.int .i64 c.r) ∧ V.cell? ⟨G, 4, none⟩ = some (.int .i64 c.ce) ∧ V.cell? ⟨G, 5, none⟩ = some (.int .i64 c.lg) ∧ V.cell? ⟨G, 6, none⟩ = some (.int .i64 c.st) ∧ V.cell? ⟨G, 7, none⟩ = some (.slice (P 0) s.nO (K 0)) ∧ V.cell? ⟨G, 8, none⟩ = some (.slice (P 1) s.nR (K 1)) ∧ V.cell? ⟨G, 9, none⟩ = some (.slice (P 2) (s.E 2).length (K 2))) →
      (Below W.heap.size W V' ∧ V'.cell? ⟨G, 0, none⟩ = some (.int .i64 c.b) ∧ V'.cell? ⟨G, 1, none⟩ = some (.int .i64 c.wd) ∧ V'.cell? ⟨G, 2, none⟩ = some (.int .i64 c.m) ∧ V'.cell? ⟨G, 3, none⟩ = some (.int .i64 c.r) ∧ V'.cell? ⟨G, 4, none⟩ = some (.int .i64 c.ce) ∧ V'.cell? ⟨G, 5, none⟩ = some (.int .i64 c.lg) ∧ V'.cell? ⟨G, 6, none⟩ = some (.int .i64 c.st) ∧ V'.cell? ⟨G, 7, none⟩ = some (.slice (P 0) s.nO (K 0)) ∧ V'.cell? ⟨G, 8, none⟩ = some (.slice (P 1) s.nR (K 1)) ∧ V'.cell? ⟨G, 9, none⟩ = some (.slice (P 2) (s.E 2).length (K 2)))) :=
    Lib.hid fun V V' hb ⟨a, b0, b1, b2, b3, b4, b5, b6, b7, b8, b9⟩ => by
      have hz : ∀ j, V'.cell? ⟨G, j, none⟩ = V.cell? ⟨G, j, none⟩ := fun j => hb.cell (p := ⟨G, j, none⟩) (show G < V.heap.size from lt_of_cell b0)
      exact ⟨a.trans (hb.mono a.size), (hz 0).trans b0, (hz 1).trans b1, (hz 2).trans b2, (hz 3).trans b3, (hz 4).trans b4, (hz 5).trans b5, (hz 6).trans b6, (hz 7).trans b7, (hz 8).trans b8, (hz 9).trans b9⟩
  have HK0 : Hid (Below W.heap.size W W.drew ∧ W.drew.cell? ⟨G, 0, none⟩ = some (.int .i64 c.b) ∧ W.drew.cell? ⟨G, 1, none⟩ = some (.int .i64 c.wd) ∧ W.drew.cell? ⟨G, 2, none⟩ = some (.int .i64 c.m) ∧ W.drew.cell? ⟨G, 3, none⟩ = some (.int .i64 c.r) ∧ W.drew.cell? ⟨G, 4, none⟩ = some (.int .i64 c.ce) ∧ W.drew.cell? ⟨G, 5, none⟩ = some (.int .i64 c.lg) ∧ W.drew.cell? ⟨G, 6, none⟩ = some (.int .i64 c.st) ∧ W.drew.cell? ⟨G, 7, none⟩ = some (.slice (P 0) s.nO (K 0)) ∧ W.drew.cell? ⟨G, 8, none⟩ = some (.slice (P 1) s.nR (K 1)) ∧ W.drew.cell? ⟨G, 9, none⟩ = some (.slice (P 2) (s.E 2).length (K 2))) :=
    Lib.hid (HK2.out W W.drew (Below.refl _ _).drew ⟨Below.refl _ _, c0, c1, c2, c3, c4, c5, c6, g7, g8, g9⟩)
  have HAL : Hid (∀ (V : World) (o : Obj), Below V.heap.size V (V.alloc o)) := Lib.hid fun V o => (Below.refl _ _).alloc (Nat.le_refl _) o
  have HWD : Hid (Below W.heap.size W W.drew) := Lib.hid (Below.refl _ _).drew
  generalize s.nO = nO at *
  generalize s.nR = nR at *
  generalize (s.E 2).length = nC at *
  go_enter Tryd.func24, Tryd.ntmps24
  go_wp2_with fail
  go_region_held3 (fun V => Below W.heap.size W V ∧ V.cell? ⟨G, 0, none⟩ = some (.int .i64 c.b) ∧ V.cell? ⟨G, 1, none⟩ = some (.int .i64 c.wd) ∧ V.cell? ⟨G, 2, none⟩ = some (.int .i64 c.m) ∧ V.cell? ⟨G, 3, none⟩ = some (.int .i64 c.r) ∧ V.cell? ⟨G, 4, none⟩ = some (.int .i64 c.ce) ∧ V.cell? ⟨G, 5, none⟩ = some (.int .i64 c.lg) ∧ V.cell? ⟨G, 6, none⟩ = some (.int .i64 c.st) ∧ V.cell? ⟨G, 7, none⟩ = some (.slice (P 0) nO (K 0)) ∧ V.cell? ⟨G, 8, none⟩ = some (.slice (P 1) nR (K 1)) ∧ V.cell? ⟨G, 9, none⟩ = some (.slice (P 2) nC (K 2)))
    (first | exact HK0.out | exact HK2.out _ _ hbA (by assumption) | exact HK2.out _ _ hbB (by assumption) | exact HK2.out _ _ hbC (by assumption) | exact HK2.out _ _ (HAL.out _ _) (by assumption))
    (first
      | (go_at_call 41; (with_reducible refine Calls.mono (HC7.out _ (And.left (by assumption))) ?_); rintro e wA ⟨p0, k0, rfl, Q0, J0, hN⟩; have HN0 := Lib.hid hN; have hbA := hN.bl; clear hN)
      | (go_at_call 41; (with_reducible refine Calls.mono (HC8.out _ (And.left (by assumption))) ?_); rintro e wB ⟨p1, k1, rfl, Q1, J1, hN⟩; have HN1 := Lib.hid hN; have hbB := hN.bl; clear hN)
      | (go_at_call 40; refine Calls.mono (HC9.out _ (And.left (by assumption))) ?_; rintro e wC ⟨pc, kc, rfl, hown, hbC⟩; have HOC := Lib.hid hown; clear hown))
  all_goals go_wp2_with fail
  all_goals go_ret
  all_goals exact ⟨_, rfl, HFIN.out _ _ _ _ _ _ _ _ _ _ _ _ _ _ _ HWD.out HN0.out HN1.out HOC.out hbC rfl⟩
end Go.Proofs.YtadkmidipjlcjaaDoor.Gra
