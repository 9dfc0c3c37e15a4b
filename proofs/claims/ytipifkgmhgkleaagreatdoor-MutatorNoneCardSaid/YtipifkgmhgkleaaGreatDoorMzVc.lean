/-
  Texts one behind the other: MvH MvI MvJ (theorems that nobody names are left out).
-/
import Derived.Test.YtipifkgmhgkleaaGreatDoorMzVb
import Derived.Deep.RegionHeld3
namespace Go.Proofs.YtipifkgmhgkleaaGreatDoor.Mv
open Go.RowKit
open Mu (Sy Sd Ml Md MIs ownM lt_of_cell O4 CellsL mutA cellsR)
open Go.Proofs.YtipifkgmhgkleaaGreatDoor.Row (Chg rowB Rd owns_lt owns_chg owns_slice owns_block info_parts push_row)

/-- What an operation's end leaves of a mutator. -/
def endM (id : Nat) (m : Md) (v code : Int) : Md := { m with ev := fun i => if i = 1 then (id : Int) else if i = 2 then 1 else if i = 3 then (m.rs.length : Int) else if i = 4 then code else if i = 5 then v else 0, rs := m.rs ++ [(code, v)], mop := max m.mop m.tk }
theorem infoRes : (Tryz.prog.info? 110).map (fun i => (i.zero, i.size, i.bytes)) = some (some (.agg #[.int .i64 0, .int .i64 0]), 2, 16) := by kernel_rfl
/-- What an append leaves, wherever the row lies. -/
theorem push_rowN {Y Y0 w3 : World} {base n m cap size : Nat} {e : TypeId} {p : Option Addr} {v' : Value} {ys : List Value} (hb : Below Y.heap.size Y Y0)
    (hown : w3.ownsRow base e size v' (n + m) ys) (hg : Y0.grownBy w3 (Value.slice p n cap).ownBlock) (hat : v'.ownBlock = (Value.slice p n cap).ownBlock ∨ v'.ownBlock = some Y0.heap.size) :
    ∃ p' cap', v' = .slice p' (n + m) cap' ∧ Chg (rowB p) Y w3 ∧ ∀ k, rowB p' k → rowB p k ∨ Y.heap.size ≤ k := by
  obtain ⟨p', cap', rfl⟩ := owns_slice hown
  refine ⟨p', cap', rfl, ⟨hg.os.trans hb.os, hg.tape.trans hb.tape, hg.output.trans hb.output, Nat.le_trans hb.size hg.size, fun k hk hn => ?_⟩, fun k hk => ?_⟩
  · exact (hg.block k (Nat.lt_of_lt_of_le hk hb.size) (fun e => hn ((Row.ownBlock_slice p n cap k).1 e.symm))).trans (hb.block k hk)
  · rcases hat with h | h
    · exact .inl ((Row.ownBlock_slice p n cap k).1 (h ▸ (Row.ownBlock_slice p' (n + m) cap' k).2 hk))
    · right
      have := (Row.ownBlock_slice p' (n + m) cap' k).2 hk
      rw [h] at this
      have := Option.some.inj this
      have := hb.size
      omega
theorem cell_two_new (w : World) (x y : Value) (t : TypeId) : ∀ j u, [x, y][j]? = some u → (w.alloc (.cells #[x, y] t)).cell? ((⟨w.heap.size, 0, none⟩ : Addr).add j) = some u := by
  intro j u hj
  rw [Addr.add_lit, World.cell?_alloc_new]
  simpa using hj
theorem cellsR_snoc (l : List (Int × Int)) (c v : Int) : cellsR (l ++ [(c, v)]) = cellsR l ++ [.int .i64 c, .int .i64 v] := by simp [cellsR]
set_option maxRecDepth 100000 in
set_option maxHeartbeats 2000000 in
theorem end_raw {w : World} {y : Sy} {T : Nat → Prop} {z : Ml} {m : Md} (v code : Int) (h : MIs w y T z m) (hlen : m.rs.length ≤ 100000) :
    Calls Tryz.prog 113 #[.pointer (some ⟨z.M, 0, none⟩), .int .i64 v, .int .i64 code] w fun e w' => e = .returned .nilFunc ∧ ∃ p' c', CellsL w' z.M (mutA y.S (dynM z p' c') (endM z.id m v code)) ∧ (∀ o, w'.frozen? ⟨z.M, o, none⟩ = false) ∧
      w'.ownsRow 0 110 2 (.slice p' (m.rs.length + 1) c') (m.rs.length + 1) (cellsR (m.rs ++ [(code, v)])) ∧ Chg (fun k => k = z.M ∨ rowB z.pr k) w w' ∧ ∀ g, rowB p' g → rowB z.pr g ∨ w.heap.size ≤ g := by
  have c1 := h.c1
  have c9 := h.c9
  have c12 := h.c12
  have c19 := h.c19
  have e0 := h.ce 0 (by omega)
  have e1 := h.ce 1 (by omega)
  have e2 := h.ce 2 (by omega)
  have e3 := h.ce 3 (by omega)
  have e4 := h.ce 4 (by omega)
  have e5 := h.ce 5 (by omega)
  have f0 := h.fz 13
  have f1 := h.fz 14
  have f2 := h.fz 15
  have f3 := h.fz 16
  have f4 := h.fz 17
  have f5 := h.fz 18
  have f9 := h.fz 9
  have f19 := h.fz 19
  have hl := h.ltM
  have H := Lib.hid h
  have hmx : max m.mop m.tk = (endM z.id m v code).mop := rfl
  generalize (endM z.id m v code).mop = mx at hmx
  clear h
  go_enter Tryz.func113, Tryz.ntmps113
  go_wp2_with fail
  go_region
  obtain ⟨W1, hW1⟩ : ∃ W1, ((((((w.setCell ⟨z.M, 13, none⟩ (.int .i64 0)).setCell ⟨z.M, 14, none⟩ (.int .i64 z.id)).setCell ⟨z.M, 15, none⟩ (.int .i64 1)).setCell ⟨z.M, 16, none⟩ (.int .i64 m.rs.length)).setCell ⟨z.M, 17, none⟩ (.int .i64 code)).setCell ⟨z.M, 18, none⟩ (.int .i64 v)).drew = W1 := ⟨_, rfl⟩
  have a1 : CellsL W1 z.M ((((((((mutA y.S z m).set 13 (.int .i64 0)).set 14 (.int .i64 z.id)).set 15 (.int .i64 1)).set 16 (.int .i64 m.rs.length)).set 17 (.int .i64 code)).set 18 (.int .i64 v))) := by
    rw [← hW1]
    exact Mu.CellsL.drew ((((((H.out.cells.set 13 _).set 14 _).set 15 _).set 16 _).set 17 _).set 18 _)
  have a2 : Chg (fun k => k = z.M) w W1 := by
    rw [← hW1]
    exact ((((((((Chg.refl (fun k => k = z.M) w).set (p := ⟨z.M, 13, none⟩) (.inl rfl) _).set (p := ⟨z.M, 14, none⟩) (.inl rfl) _).set (p := ⟨z.M, 15, none⟩) (.inl rfl) _).set (p := ⟨z.M, 16, none⟩) (.inl rfl) _).set (p := ⟨z.M, 17, none⟩) (.inl rfl) _).set (p := ⟨z.M, 18, none⟩) (.inl rfl) _)).drewN 1
  have a3 : ∀ o, W1.frozen? ⟨z.M, o, none⟩ = false := fun o => by
    rw [← hW1, Mu.froz_drew]
    simp only [World.frozen?_setCell]
    exact H.out.fz o
  rw [hW1]
  have HOW := Lib.hid (owns_chg H.out.rs a2 (fun g hg e => (H.out.dR g hg).1 e))
  have HA1 := Lib.hid a1
  have HA2 := Lib.hid a2
  have HA3 := Lib.hid a3
  have k9 : W1.cell? ⟨z.M, 9, none⟩ = some (.slice z.pr m.rs.length z.cr) := a1 9 _ rfl
  have g9 := a3 9
  have hl1 : z.M < W1.heap.size := lt_of_cell k9
  obtain ⟨i0, hinf, hz0, hz1, hz2⟩ := info_parts infoRes
  clear c1 c9 c12 c19 e0 e1 e2 e3 e4 e5 f0 f1 f2 f3 f4 f5 f9 f19 hl a1 a2 a3 hW1
  go_wp2_with (at_builtin; refine wpList_append_own_at _ rfl (.tmp 26) (.tmp 30) 43 rfl 0 110 i0 (.agg #[.int .i64 0, .int .i64 0]) 2 16 Tryz.underlying43 hinf hz0 hz1 hz2 rfl (by decide) (.slice z.pr m.rs.length z.cr) m.rs.length (cellsR m.rs) rfl (HOW.out.alloc _) ⟨W1.heap.size, 0, none⟩ 1 1 [.int .i64 code, .int .i64 v] rfl rfl (cell_two_new _ _ _ _) ?qc3 (by show m.rs.length + 1 ≤ maxLen; have : maxLen = 9223372036854775807 := rfl; omega) (by omega) (Nat.zero_le _) ?_)
  case qc3 => intro u hu; simp at hu; rcases hu with rfl | rfl <;> rfl
  rintro v' w3 hown hg _ hat
  obtain ⟨p', c', rfl, hC, hR⟩ := push_rowN ((Below.refl _ W1).alloc (Nat.le_refl _) (.cells #[.int .i64 code, .int .i64 v] 110)) hown hg (by rw [World.size_alloc]; exact hat)
  have hnM : ¬ rowB z.pr z.M := fun e => (H.out.dR _ e).1 rfl
  have b1 : CellsL w3 z.M ((((((((mutA y.S z m).set 13 (.int .i64 0)).set 14 (.int .i64 z.id)).set 15 (.int .i64 1)).set 16 (.int .i64 m.rs.length)).set 17 (.int .i64 code)).set 18 (.int .i64 v))) := fun o u hu =>
    (hC.cell (p := ⟨z.M, o, none⟩) hl1 hnM).trans (HA1.out o u hu)
  have b3 : ∀ o, w3.frozen? ⟨z.M, o, none⟩ = false := fun o => (hC.frozen (p := ⟨z.M, o, none⟩) hl1 hnM).trans (HA3.out o)
  have j9 : w3.cell? ⟨z.M, 9, none⟩ = some (.slice z.pr m.rs.length z.cr) := b1 9 _ rfl
  have j12 : w3.cell? ⟨z.M, 12, none⟩ = some (.int .i64 m.tk) := b1 12 _ rfl
  have j19 : w3.cell? ⟨z.M, 19, none⟩ = some (.int .i64 m.mop) := b1 19 _ rfl
  have r9 := b3 9
  have r19 := b3 19
  have hl3 : z.M < w3.heap.size := lt_of_cell j9
  have HB1 := Lib.hid b1
  have HB3 := Lib.hid b3
  have HC := Lib.hid hC
  have HR := Lib.hid hR
  have HOWN := Lib.hid hown
  clear b1 b3 hC hR hown hg hat hnM k9 g9 hl1 HOW hinf hz0 hz1 hz2
  have HMX := Lib.hid hmx
  go_wp2_with fail
  go_region
  go_wp2_with fail
  go_ret
  have hmx := HMX.out
  subst hmx
  refine ⟨rfl, p', c', ?_, fun o => ?_, ?_, ?_, fun g hg => ?_⟩
  · have e : mutA y.S (dynM z p' c') (endM z.id m v code) = ((((((((((mutA y.S z m).set 13 (.int .i64 0)).set 14 (.int .i64 z.id)).set 15 (.int .i64 1)).set 16 (.int .i64 m.rs.length)).set 17 (.int .i64 code)).set 18 (.int .i64 v))).set 9 (.slice p' (m.rs.length + 1) c')).set 19 (.int .i64 (max m.mop m.tk))) := by simp [mutA, endM, dynM]
    rw [e]
    exact Mu.CellsL.drew ((HB1.out.set 9 _).set 19 _)
  · rw [Mu.froz_drew]
    simp only [World.frozen?_setCell]
    exact HB3.out o
  · rw [cellsR_snoc]
    exact owns_chg HOWN.out ((((Chg.refl (fun k => k = z.M) w3).set (p := ⟨z.M, 9, none⟩) (.inl rfl) _).set (p := ⟨z.M, 19, none⟩) (.inl rfl) _).drewN 1) (fun g hg e => by
      rcases HR.out g hg with e2 | e2
      · exact (H.out.dR g e2).1 e
      · have h1 := H.out.ltM
        have h2 := HA2.out.size
        omega)
  · refine Chg.trans (S := fun k => k = z.M ∨ rowB z.pr k) ((Chg.mono HA2.out (fun k e => .inl e)).trans (Chg.mono HC.out (T := fun k => k = z.M ∨ rowB z.pr k) (fun k e => .inr e)) (fun k e => .inl e)) ((((Chg.refl (fun k => k = z.M) w3).set (p := ⟨z.M, 9, none⟩) (.inl rfl) _).set (p := ⟨z.M, 19, none⟩) (.inl rfl) _).drewN 1) (fun k e => .inl (.inl e))
  · exact (HR.out g hg).imp id (fun e => by have := HA2.out.size; omega)
/-- The end of an operation. -/
theorem mi_end {w w' : World} {y : Sy} {T T' : Nat → Prop} {z : Ml} {m : Md} {v code : Int} {p' : Option Addr} {c' : Nat} (h : MIs w y T z m) (hT : ∀ k, T' k → T k ∨ w.heap.size ≤ k) (hT2 : ∀ k, T k → T' k) (hp : ∀ k, rowB p' k → T' k) (hl : ∀ k, T' k → k < w'.heap.size)
    (h1 : CellsL w' z.M (mutA y.S (dynM z p' c') (endM z.id m v code))) (h2 : ∀ o, w'.frozen? ⟨z.M, o, none⟩ = false) (h3 : w'.ownsRow 0 110 2 (.slice p' (m.rs.length + 1) c') (m.rs.length + 1) (cellsR (m.rs ++ [(code, v)])))
    (hc : Chg (fun k => k = z.M ∨ rowB z.pr k) w w') (hR : ∀ g, rowB p' g → rowB z.pr g ∨ w.heap.size ≤ g) : MIs w' y T' (dynM z p' c') (endM z.id m v code) := by
  have hn : ∀ k, k ≠ z.M → ¬ rowB z.pr k → ¬ (k = z.M ∨ rowB z.pr k) := fun k a b e => e.elim a b
  have hlN : z.N < w.heap.size := h.tl _ h.tN
  have hN := hn z.N (fun e => h.nN (.inl e)) (fun e => h.nN (.inr (.inr (.inr e))))
  have hG := hn z.G (fun e => h.dMG e.symm) (fun e => (h.dR _ e).2.1 rfl)
  have hB := hn z.B (fun e => h.dMB e.symm) (fun e => (h.dR _ e).2.2 rfl)
  have cN : ∀ o u, w.cell? ⟨z.N, o, none⟩ = some u → w'.cell? ⟨z.N, o, none⟩ = some u := fun o _ hv => (hc.cell (p := ⟨z.N, o, none⟩) hlN hN).trans hv
  have hnew : ∀ g, rowB p' g → ∀ k, k < w.heap.size → ¬ rowB z.pr k → g ≠ k := fun g hg k hk hnk e => (hR g hg).elim (fun e2 => hnk (e ▸ e2)) (fun e2 => by omega)
  have hlB := h.bf.ltB
  refine ⟨h1 0 _ rfl, h1 1 _ rfl, h1 2 _ rfl, h1 3 _ rfl, h1 4 _ rfl, h1 5 _ rfl, h1 6 _ rfl, h1 7 _ rfl, h1 8 _ rfl, h1 9 _ rfl, h1 10 _ rfl, h1 11 _ rfl, h1 12 _ rfl, fun i hi => ?_, h1 19 _ rfl, h1 20 _ rfl, h2, fun j hj => (hc.cell (p := ⟨z.G, j, none⟩) h.gl hG).trans (h.rg j hj), fun j => (hc.frozen (p := ⟨z.G, j, none⟩) h.gl hG).trans (h.rf j), Nat.lt_of_lt_of_le h.gl hc.size, ?_, cN _ _ h.n0, cN _ _ h.n1, cN _ _ h.n2, cN _ _ h.n3, ?_, h.pc, ?_, fun k hk => ?_, hT2 _ h.tN, hl, fun e => ?_, fun g hg => ⟨hT2 _ (h.nP g hg).1, fun e => ?_⟩, h.dMG, h.dMB, h.dGB, fun g hg => ?_⟩
  · have : i = 0 ∨ i = 1 ∨ i = 2 ∨ i = 3 ∨ i = 4 ∨ i = 5 := by omega
    rcases this with rfl | rfl | rfl | rfl | rfl | rfl
    · exact h1 13 _ rfl
    · exact h1 14 _ rfl
    · exact h1 15 _ rfl
    · exact h1 16 _ rfl
    · exact h1 17 _ rfl
    · exact h1 18 _ rfl
  · exact bf_move h.bf hc (fun k hk => hk.elim (fun e => e ▸ h.hT _ (.inl rfl)) (fun e => h.hT _ (.inr (.inr (.inr e))))) hB hT (hT2 _ (h.hT _ (.inr (.inr (.inl rfl)))))
  · exact h.pg.chg hc (fun g hg => hn g (fun e => (h.nP g hg).2 (.inl e)) (fun e => (h.nP g hg).2 (.inr (.inr (.inr e)))))
  · have e : (endM z.id m v code).rs.length = m.rs.length + 1 := by simp [endM]
    rw [e]; exact h3
  · rcases hk with e | e | e | e
    · exact hT2 _ (h.hT _ (.inl e))
    · exact hT2 _ (h.hT _ (.inr (.inl e)))
    · exact hT2 _ (h.hT _ (.inr (.inr (.inl e))))
    · exact hp k e
  · rcases e with e | e | e | e
    · exact h.nN (.inl e)
    · exact h.nN (.inr (.inl e))
    · exact h.nN (.inr (.inr (.inl e)))
    · exact hnew _ e z.N hlN (fun e => h.nN (.inr (.inr (.inr e)))) rfl
  · have hgl := h.tl g (h.nP g hg).1
    rcases e with e | e | e | e
    · exact (h.nP g hg).2 (.inl e)
    · exact (h.nP g hg).2 (.inr (.inl e))
    · exact (h.nP g hg).2 (.inr (.inr (.inl e)))
    · exact hnew _ e g hgl (fun e => (h.nP g hg).2 (.inr (.inr (.inr e)))) rfl
  · exact ⟨hnew g hg z.M h.ltM (fun e => (h.dR _ e).1 rfl), hnew g hg z.G h.gl (fun e => (h.dR _ e).2.1 rfl), hnew g hg z.B hlB (fun e => (h.dR _ e).2.2 rfl)⟩
section
variable {b : Ba} {z : Ml} {m : Md} {w : World} {x : Sd} {L : List (Nat × Nat × Value)} {Q : List (K × Value)}
theorem cx_end (v code : Int) (hP : b.P (4 + z.id)) (hlen : m.rs.length ≤ 100000) (h : Cx b (mxR b.y z m) w x L Q) :
    Calls Tryz.prog 113 #[.pointer (some ⟨z.M, 0, none⟩), .int .i64 v, .int .i64 code] w fun e w' => e = .returned .nilFunc ∧ Cx b (mxR b.y z (endM z.id m v code)) w' x L Q := by
  classical
  obtain ⟨O, d, ps, cs, h⟩ := h
  obtain ⟨p, c, h2⟩ := h.r
  refine (end_raw v code h2.mi hlen).mono ?_
  rintro e w' ⟨rfl, p', c', h1, h3, h4, h5, h6⟩
  refine ⟨rfl, ?_⟩
  let O' : Nat → Nat := fun k => if k < w.heap.size then O k else if rowB p' k then 4 + z.id else 0
  have eO : ∀ k, k < w.heap.size → O' k = O k := fun k hk => if_pos hk
  have eN : ∀ k, ¬ k < w.heap.size → O' k ≠ 0 → rowB p' k := fun k hk hn => by
    by_cases e : rowB p' k
    · exact e
    · exact absurd (show O' k = 0 by show (if _ then _ else _) = _; rw [if_neg hk, if_neg e]) hn
  have hown : ∀ k, (k = z.M ∨ rowB p k) → O k = 4 + z.id := fun k hk => h2.own k (hk.elim (fun e => .inl e) (fun e => .inr (.inr (.inr e))))
  have eM : ∀ k, rowB p' k → O' k = 4 + z.id := fun k hk2 => by
    by_cases hl : k < w.heap.size
    · rw [eO k hl]; exact hown k (.inr ((h6 k hk2).resolve_right (by omega)))
    · show (if _ then _ else _) = _; rw [if_neg hl, if_pos hk2]
  have hold : ∀ k, O k ≠ 0 → O' k = O k := fun k hk => eO k (h.ok.lt k hk)
  have hm : Mv (fun o => o = 4 + z.id) O O' w w' := ⟨Chg.mono' h5 hown, eO, fun k hk => by
    by_cases hl : k < w.heap.size
    · exact Nat.lt_of_lt_of_le hl h5.size
    · exact (owns_lt h4 (eN k hl hk)).2⟩
  have htT : ∀ k, O' k ≠ 0 → O k ≠ 0 ∨ w.heap.size ≤ k := fun k hk => by
    by_cases hl : k < w.heap.size
    · rw [eO k hl] at hk; exact .inl hk
    · exact .inr (by omega)
  have hmi := mi_end h2.mi (T' := fun k => O' k ≠ 0) htT (fun k hk => by rw [hold k hk]; exact hk) (fun k hk => by rw [eM k hk]; omega) hm.new h1 h3 h4 h5 h6
  refine ⟨O', d, ps, cs, h.move hm (fun _ e => e ▸ hP) (h.sx.mv hm (by omega) (by omega) (by omega)) (show (mxR b.y z (endM z.id m v code)).r O' w' from ⟨p', c', hmi, fun k hk => ?_, ?_, fun g hg => ?_⟩)⟩
  · rcases hk with e | e | e | e
    · rw [hold k (by rw [h2.own k (.inl e)]; show 4 + _ ≠ 0; omega)]; exact h2.own k (.inl e)
    · rw [hold k (by rw [h2.own k (.inr (.inl e))]; show 4 + _ ≠ 0; omega)]; exact h2.own k (.inr (.inl e))
    · rw [hold k (by rw [h2.own k (.inr (.inr (.inl e)))]; show 4 + _ ≠ 0; omega)]; exact h2.own k (.inr (.inr (.inl e)))
    · exact eM k e
  · have h9 : O z.N = 2 := h2.oN
    show O' z.N = 2
    rw [hold _ (by rw [h9]; omega)]; exact h9
  · have h9 : O g = 2 := h2.oP g hg
    rw [hold _ (by rw [h9]; omega)]; exact h9
end
end Go.Proofs.YtipifkgmhgkleaaGreatDoor.Mv

namespace Go.Proofs.YtipifkgmhgkleaaGreatDoor.Mv
open Go.RowKit
open Hp (Ids St Is To Mine bnI coE coV fE fN lV lE sE stS ccE cV scE scS puE puS beE beS baE baS asS colB)
open Mu (Sy Sd Ml Md lt_of_cell O4 CellsL mutA)
open Go.Proofs.YtipifkgmhgkleaaGreatDoor.Row (Chg rowB Rd)

/-- What a step leaves: a state, and the next step, if there is one. -/
def Out (b : Ba) (z : Ml) (w : World) (x : Sd) (m : Md) : Option K → Value → Prop
  | none, v => v = .nilFunc ∧ Cx b (mxR b.y z m) w x [] []
  | some q, v => isFn v ∧ Cx b (mxR b.y z m) w x [] [(q, v)]
/-- A base that is this mutator's. -/
structure Fits (b : Ba) (z : Ml) : Prop where
  a : b.a = z.M
  N : b.N = z.N
  P : b.P (4 + z.id)
  n : z.id < b.n
  nb : z.id < b.nb
theorem CxO.sub {b : Ba} {R : Rs} {w : World} {x : Sd} {L L' : List (Nat × Nat × Value)} {Q Q' : List (K × Value)} {O : Nat → Nat} {d : Ids} {ps : Nat → Option Addr} {cs : Nat → Nat} (h : CxO b R w x L Q O d ps cs)
    (hL : ∀ p ∈ L', Bi O w p.1 p.2.1 p.2.2) (hQ : ∀ p ∈ Q', Ls O w b.a b.N p.1 p.2) : Cx b R w x L' Q' := ⟨O, d, ps, cs, h.mv, h.ok, h.sx, h.r, hL, hQ⟩
section
variable {b : Ba} {z : Ml} {m : Md} {w : World} {x : Sd} {L : List (Nat × Nat × Value)} {Q : List (K × Value)}
end
end Go.Proofs.YtipifkgmhgkleaaGreatDoor.Mv

namespace Go.Proofs.YtipifkgmhgkleaaGreatDoor.Mv
open Go.RowKit
open Hp (Ids St Is To Mine bnI coE coV fE fN lV lE sE stS ccE cV scE scS puE puS beE beS baE baS asS colB)
open Mu (Sy Sd Ml Md lt_of_cell O4 CellsL mutA)
open Go.Proofs.YtipifkgmhgkleaaGreatDoor.Row (Chg rowB Rd)

/-- A register's value. -/
def rgV (m : Md) (r : Int) : Int := m.rg.getD r.toNat 0
/-- What is read, its error, what there is then. -/
def rkV (x : Sd) (m : Md) : Rk → Int
  | .ldC a o => lV x.s a o.2.2.2
  | .ldB a o => lV x.s a o.2.2.1
  | .get o => cV x.s o.2.2.1
  | .set o => cV x.s o.2.1
  | .drop => 0
  | .move o => rgV m o.2.2.1
  | .born a => a
def rkE (x : Sd) (m : Md) : Rk → Int
  | .ldC a o => lE x.s a o.2.2.2
  | .ldB a o => lE x.s a o.2.2.1
  | .get o => ccE x.s o.2.2.1
  | .set o => ccE x.s o.2.1
  | .drop => 0
  | .move _ => 0
  | .born a => baE x.s a m.co
def rkX (x : Sd) (m : Md) : Rk → Sd
  | .ldC _ _ => hp x x.s (x.m + 2)
  | .ldB _ _ => hp x x.s (x.m + 2)
  | .born a => hp x (baX x.s a m.co) (x.m + 1)
  | _ => x
/-- A register that there is. -/
def regOk (m : Md) (r : Int) : Prop := 0 ≤ r ∧ r < (m.rg.length : Int)
def rkOk (y : Sy) (m : Md) : Rk → Prop
  | .ldC _ _ => Tz y
  | .ldB _ _ => Tz y
  | .born _ => Tz y
  | .move o => regOk m o.2.2.1
  | _ => True
section
variable {b : Ba} {z : Ml} {m : Md} {w : World} {x : Sd} {L : List (Nat × Nat × Value)} {Q : List (K × Value)}
set_option maxRecDepth 100000 in
theorem rk_ldC (a : Int) (o : O4) (hz : Tz b.y) {f : FuncId} {cap : Array Value} (hmm : x.m < 800000) (hf : Fits b z) (h : Cx b (mxR b.y z m) w x L Q) (hm : (K.rk (.ldC a o), fn f cap) ∈ Q) :
    Calls Tryz.prog f (cap) w fun e w' => e = .returned (.tuple #[.int .i64 (lV x.s a o.2.2.2), .int .i64 (lE x.s a o.2.2.2)]) ∧ Cx b (mxR b.y z m) w' (hp x x.s (x.m + 2)) L Q := by
  obtain ⟨O, d, ps, cs, h⟩ := h
  obtain ⟨b0, b1, b2, hv, h0, h1, h2⟩ := h.Q _ hm
  cases hv
  rw [hf.a] at h0
  show Calls _ _ #[.pointer (some ⟨b0, 0, none⟩), .pointer (some ⟨b1, 0, none⟩), .pointer (some ⟨b2, 0, none⟩)] w _
  obtain ⟨LL, hLL⟩ : ∃ LL : List (Nat × Nat × Value), [(b0, 0, pt z.M), (b1, 0, .int .i64 a), (b2, 0, .int .i64 o.1), (b2, 1, .int .i64 o.2.1), (b2, 2, .int .i64 o.2.2.1), (b2, 3, .int .i64 o.2.2.2)] ++ L = LL := ⟨_, rfl⟩
  have hN : ∀ p ∈ ([(b0, 0, pt z.M), (b1, 0, .int .i64 a), (b2, 0, .int .i64 o.1), (b2, 1, .int .i64 o.2.1), (b2, 2, .int .i64 o.2.2.1), (b2, 3, .int .i64 o.2.2.2)] : List (Nat × Nat × Value)), Bi O w p.1 p.2.1 p.2.2 := (List.forall_mem_cons.2 ⟨h0, (List.forall_mem_cons.2 ⟨h1, (List.forall_mem_cons.2 ⟨h2.1, (List.forall_mem_cons.2 ⟨h2.2.1, (List.forall_mem_cons.2 ⟨h2.2.2.1, (List.forall_mem_cons.2 ⟨h2.2.2.2, (fun _ e => by cases e)⟩)⟩)⟩)⟩)⟩)⟩)
  have H := Lib.hid (h.sub (L' := LL) (Q' := Q) (by rw [← hLL]; exact fun p hp => (List.mem_append.1 hp).elim (hN p) (h.L p)) h.Q)
  clear hN
  have A0 : Hid ((b0, 0, pt z.M) ∈ LL) := Lib.hid (by rw [← hLL]; simp)
  have A1 : Hid ((b1, 0, .int .i64 a) ∈ LL) := Lib.hid (by rw [← hLL]; simp)
  have A2 : Hid ((b2, 0, .int .i64 o.1) ∈ LL) := Lib.hid (by rw [← hLL]; simp)
  have A3 : Hid ((b2, 1, .int .i64 o.2.1) ∈ LL) := Lib.hid (by rw [← hLL]; simp)
  have A4 : Hid ((b2, 2, .int .i64 o.2.2.1) ∈ LL) := Lib.hid (by rw [← hLL]; simp)
  have A5 : Hid ((b2, 3, .int .i64 o.2.2.2) ∈ LL) := Lib.hid (by rw [← hLL]; simp)
  have HS : Hid (∀ p ∈ L, p ∈ LL) := Lib.hid (fun p hp => by rw [← hLL]; exact List.mem_append_right _ hp)
  clear hLL
  clear h hm h0 h1 h2
  go_enter Tryz.func198, Tryz.ntmps198
  have e1 := H.out.at A0.out
  have e2 := H.out.m0
  have e3 := H.out.s0
  have e4 := H.out.at A1.out
  have e5 := H.out.at A5.out
  have K1 := Lib.hid (fun W x m QQ (h : Cx b (mxR b.y z m) W x LL QQ) => (⟨h.at A0.out, h.m0, h.s0, h.at A1.out, h.at A5.out⟩ : W.cell? ⟨b0, 0, none⟩ = some (pt z.M) ∧ W.cell? ⟨z.M, 0, none⟩ = some (.pointer (some ⟨b.y.S, 0, none⟩)) ∧ W.cell? ⟨b.y.S, 0, none⟩ = some (.pointer (some ⟨b.y.H, 0, none⟩)) ∧ W.cell? ⟨b1, 0, none⟩ = some (.int .i64 a) ∧ W.cell? ⟨b2, 3, none⟩ = some (.int .i64 o.2.2.2)))
  have C1 := Lib.hid (cx_load a o.2.2.2 (by omega) hz (H.out.drew))
  go_wp2_with fail
  go_region_held3 (fun W => W.cell? ⟨b0, 0, none⟩ = some (pt z.M) ∧ W.cell? ⟨z.M, 0, none⟩ = some (.pointer (some ⟨b.y.S, 0, none⟩)) ∧ W.cell? ⟨b.y.S, 0, none⟩ = some (.pointer (some ⟨b.y.H, 0, none⟩)) ∧ W.cell? ⟨b1, 0, none⟩ = some (.int .i64 a) ∧ W.cell? ⟨b2, 3, none⟩ = some (.int .i64 o.2.2.2))
    (first | exact K1.out _ _ _ _ H.out.drew | exact K1.out _ _ _ _ h1)
    ((go_at_call 199; refine C1.out.mono ?_; rintro e w1 ⟨rfl, h1⟩))
  clear e1 e2 e3 e4 e5
  have H1 := Lib.hid h1
  clear h1
  go_wp2_with fail
  go_ret2
  exact ⟨rfl, H1.out.less HS.out (fun p hp => hp)⟩
set_option maxRecDepth 100000 in
theorem rk_ldB (a : Int) (o : O4) (hz : Tz b.y) {f : FuncId} {cap : Array Value} (hmm : x.m < 800000) (hf : Fits b z) (h : Cx b (mxR b.y z m) w x L Q) (hm : (K.rk (.ldB a o), fn f cap) ∈ Q) :
    Calls Tryz.prog f (cap) w fun e w' => e = .returned (.tuple #[.int .i64 (lV x.s a o.2.2.1), .int .i64 (lE x.s a o.2.2.1)]) ∧ Cx b (mxR b.y z m) w' (hp x x.s (x.m + 2)) L Q := by
  obtain ⟨O, d, ps, cs, h⟩ := h
  obtain ⟨b0, b1, b2, hv, h0, h1, h2⟩ := h.Q _ hm
  cases hv
  rw [hf.a] at h0
  show Calls _ _ #[.pointer (some ⟨b0, 0, none⟩), .pointer (some ⟨b1, 0, none⟩), .pointer (some ⟨b2, 0, none⟩)] w _
  obtain ⟨LL, hLL⟩ : ∃ LL : List (Nat × Nat × Value), [(b0, 0, pt z.M), (b1, 0, .int .i64 a), (b2, 0, .int .i64 o.1), (b2, 1, .int .i64 o.2.1), (b2, 2, .int .i64 o.2.2.1), (b2, 3, .int .i64 o.2.2.2)] ++ L = LL := ⟨_, rfl⟩
  have hN : ∀ p ∈ ([(b0, 0, pt z.M), (b1, 0, .int .i64 a), (b2, 0, .int .i64 o.1), (b2, 1, .int .i64 o.2.1), (b2, 2, .int .i64 o.2.2.1), (b2, 3, .int .i64 o.2.2.2)] : List (Nat × Nat × Value)), Bi O w p.1 p.2.1 p.2.2 := (List.forall_mem_cons.2 ⟨h0, (List.forall_mem_cons.2 ⟨h1, (List.forall_mem_cons.2 ⟨h2.1, (List.forall_mem_cons.2 ⟨h2.2.1, (List.forall_mem_cons.2 ⟨h2.2.2.1, (List.forall_mem_cons.2 ⟨h2.2.2.2, (fun _ e => by cases e)⟩)⟩)⟩)⟩)⟩)⟩)
  have H := Lib.hid (h.sub (L' := LL) (Q' := Q) (by rw [← hLL]; exact fun p hp => (List.mem_append.1 hp).elim (hN p) (h.L p)) h.Q)
  clear hN
  have A0 : Hid ((b0, 0, pt z.M) ∈ LL) := Lib.hid (by rw [← hLL]; simp)
  have A1 : Hid ((b1, 0, .int .i64 a) ∈ LL) := Lib.hid (by rw [← hLL]; simp)
  have A2 : Hid ((b2, 0, .int .i64 o.1) ∈ LL) := Lib.hid (by rw [← hLL]; simp)
  have A3 : Hid ((b2, 1, .int .i64 o.2.1) ∈ LL) := Lib.hid (by rw [← hLL]; simp)
  have A4 : Hid ((b2, 2, .int .i64 o.2.2.1) ∈ LL) := Lib.hid (by rw [← hLL]; simp)
  have A5 : Hid ((b2, 3, .int .i64 o.2.2.2) ∈ LL) := Lib.hid (by rw [← hLL]; simp)
  have HS : Hid (∀ p ∈ L, p ∈ LL) := Lib.hid (fun p hp => by rw [← hLL]; exact List.mem_append_right _ hp)
  clear hLL
  clear h hm h0 h1 h2
  go_enter Tryz.func201, Tryz.ntmps201
  have e1 := H.out.at A0.out
  have e2 := H.out.m0
  have e3 := H.out.s0
  have e4 := H.out.at A1.out
  have e5 := H.out.at A4.out
  have K1 := Lib.hid (fun W x m QQ (h : Cx b (mxR b.y z m) W x LL QQ) => (⟨h.at A0.out, h.m0, h.s0, h.at A1.out, h.at A4.out⟩ : W.cell? ⟨b0, 0, none⟩ = some (pt z.M) ∧ W.cell? ⟨z.M, 0, none⟩ = some (.pointer (some ⟨b.y.S, 0, none⟩)) ∧ W.cell? ⟨b.y.S, 0, none⟩ = some (.pointer (some ⟨b.y.H, 0, none⟩)) ∧ W.cell? ⟨b1, 0, none⟩ = some (.int .i64 a) ∧ W.cell? ⟨b2, 2, none⟩ = some (.int .i64 o.2.2.1)))
  have C1 := Lib.hid (cx_load a o.2.2.1 (by omega) hz (H.out.drew))
  go_wp2_with fail
  go_region_held3 (fun W => W.cell? ⟨b0, 0, none⟩ = some (pt z.M) ∧ W.cell? ⟨z.M, 0, none⟩ = some (.pointer (some ⟨b.y.S, 0, none⟩)) ∧ W.cell? ⟨b.y.S, 0, none⟩ = some (.pointer (some ⟨b.y.H, 0, none⟩)) ∧ W.cell? ⟨b1, 0, none⟩ = some (.int .i64 a) ∧ W.cell? ⟨b2, 2, none⟩ = some (.int .i64 o.2.2.1))
    (first | exact K1.out _ _ _ _ H.out.drew | exact K1.out _ _ _ _ h1)
    ((go_at_call 199; refine C1.out.mono ?_; rintro e w1 ⟨rfl, h1⟩))
  clear e1 e2 e3 e4 e5
  have H1 := Lib.hid h1
  clear h1
  go_wp2_with fail
  go_ret2
  exact ⟨rfl, H1.out.less HS.out (fun p hp => hp)⟩
set_option maxRecDepth 100000 in
theorem rk_get (o : O4) {f : FuncId} {cap : Array Value} (hf : Fits b z) (h : Cx b (mxR b.y z m) w x L Q) (hm : (K.rk (.get o), fn f cap) ∈ Q) :
    Calls Tryz.prog f (cap) w fun e w' => e = .returned (.tuple #[.int .i64 (cV x.s o.2.2.1), .int .i64 (ccE x.s o.2.2.1)]) ∧ Cx b (mxR b.y z m) w' (x) L Q := by
  obtain ⟨O, d, ps, cs, h⟩ := h
  obtain ⟨b0, b1, hv, h0, h2⟩ := h.Q _ hm
  cases hv
  rw [hf.a] at h0
  show Calls _ _ #[.pointer (some ⟨b0, 0, none⟩), .pointer (some ⟨b1, 0, none⟩)] w _
  obtain ⟨LL, hLL⟩ : ∃ LL : List (Nat × Nat × Value), [(b0, 0, pt z.M), (b1, 0, .int .i64 o.1), (b1, 1, .int .i64 o.2.1), (b1, 2, .int .i64 o.2.2.1), (b1, 3, .int .i64 o.2.2.2)] ++ L = LL := ⟨_, rfl⟩
  have hN : ∀ p ∈ ([(b0, 0, pt z.M), (b1, 0, .int .i64 o.1), (b1, 1, .int .i64 o.2.1), (b1, 2, .int .i64 o.2.2.1), (b1, 3, .int .i64 o.2.2.2)] : List (Nat × Nat × Value)), Bi O w p.1 p.2.1 p.2.2 := (List.forall_mem_cons.2 ⟨h0, (List.forall_mem_cons.2 ⟨h2.1, (List.forall_mem_cons.2 ⟨h2.2.1, (List.forall_mem_cons.2 ⟨h2.2.2.1, (List.forall_mem_cons.2 ⟨h2.2.2.2, (fun _ e => by cases e)⟩)⟩)⟩)⟩)⟩)
  have H := Lib.hid (h.sub (L' := LL) (Q' := Q) (by rw [← hLL]; exact fun p hp => (List.mem_append.1 hp).elim (hN p) (h.L p)) h.Q)
  clear hN
  have A0 : Hid ((b0, 0, pt z.M) ∈ LL) := Lib.hid (by rw [← hLL]; simp)
  have A1 : Hid ((b1, 0, .int .i64 o.1) ∈ LL) := Lib.hid (by rw [← hLL]; simp)
  have A2 : Hid ((b1, 1, .int .i64 o.2.1) ∈ LL) := Lib.hid (by rw [← hLL]; simp)
  have A3 : Hid ((b1, 2, .int .i64 o.2.2.1) ∈ LL) := Lib.hid (by rw [← hLL]; simp)
  have A4 : Hid ((b1, 3, .int .i64 o.2.2.2) ∈ LL) := Lib.hid (by rw [← hLL]; simp)
  have HS : Hid (∀ p ∈ L, p ∈ LL) := Lib.hid (fun p hp => by rw [← hLL]; exact List.mem_append_right _ hp)
  clear hLL
  clear h hm h0 h2
  go_enter Tryz.func205, Tryz.ntmps205
  have e1 := H.out.at A0.out
  have e2 := H.out.m0
  have e3 := H.out.s0
  have e4 := H.out.at A3.out
  have K1 := Lib.hid (fun W x m QQ (h : Cx b (mxR b.y z m) W x LL QQ) => (⟨h.at A0.out, h.m0, h.s0, h.at A3.out⟩ : W.cell? ⟨b0, 0, none⟩ = some (pt z.M) ∧ W.cell? ⟨z.M, 0, none⟩ = some (.pointer (some ⟨b.y.S, 0, none⟩)) ∧ W.cell? ⟨b.y.S, 0, none⟩ = some (.pointer (some ⟨b.y.H, 0, none⟩)) ∧ W.cell? ⟨b1, 2, none⟩ = some (.int .i64 o.2.2.1)))
  have C1 := Lib.hid (cx_cell o.2.2.1 (H.out.drew))
  go_wp2_with fail
  go_region_held3 (fun W => W.cell? ⟨b0, 0, none⟩ = some (pt z.M) ∧ W.cell? ⟨z.M, 0, none⟩ = some (.pointer (some ⟨b.y.S, 0, none⟩)) ∧ W.cell? ⟨b.y.S, 0, none⟩ = some (.pointer (some ⟨b.y.H, 0, none⟩)) ∧ W.cell? ⟨b1, 2, none⟩ = some (.int .i64 o.2.2.1))
    (first | exact K1.out _ _ _ _ H.out.drew | exact K1.out _ _ _ _ h1)
    ((go_at_call 206; refine C1.out.mono ?_; rintro e w1 ⟨rfl, h1⟩))
  clear e1 e2 e3 e4
  have H1 := Lib.hid h1
  clear h1
  go_wp2_with fail
  go_ret2
  exact ⟨rfl, H1.out.less HS.out (fun p hp => hp)⟩
set_option maxRecDepth 100000 in
theorem rk_set (o : O4) {f : FuncId} {cap : Array Value} (hf : Fits b z) (h : Cx b (mxR b.y z m) w x L Q) (hm : (K.rk (.set o), fn f cap) ∈ Q) :
    Calls Tryz.prog f (cap) w fun e w' => e = .returned (.tuple #[.int .i64 (cV x.s o.2.1), .int .i64 (ccE x.s o.2.1)]) ∧ Cx b (mxR b.y z m) w' (x) L Q := by
  obtain ⟨O, d, ps, cs, h⟩ := h
  obtain ⟨b0, b1, hv, h0, h2⟩ := h.Q _ hm
  cases hv
  rw [hf.a] at h0
  show Calls _ _ #[.pointer (some ⟨b0, 0, none⟩), .pointer (some ⟨b1, 0, none⟩)] w _
  obtain ⟨LL, hLL⟩ : ∃ LL : List (Nat × Nat × Value), [(b0, 0, pt z.M), (b1, 0, .int .i64 o.1), (b1, 1, .int .i64 o.2.1), (b1, 2, .int .i64 o.2.2.1), (b1, 3, .int .i64 o.2.2.2)] ++ L = LL := ⟨_, rfl⟩
  have hN : ∀ p ∈ ([(b0, 0, pt z.M), (b1, 0, .int .i64 o.1), (b1, 1, .int .i64 o.2.1), (b1, 2, .int .i64 o.2.2.1), (b1, 3, .int .i64 o.2.2.2)] : List (Nat × Nat × Value)), Bi O w p.1 p.2.1 p.2.2 := (List.forall_mem_cons.2 ⟨h0, (List.forall_mem_cons.2 ⟨h2.1, (List.forall_mem_cons.2 ⟨h2.2.1, (List.forall_mem_cons.2 ⟨h2.2.2.1, (List.forall_mem_cons.2 ⟨h2.2.2.2, (fun _ e => by cases e)⟩)⟩)⟩)⟩)⟩)
  have H := Lib.hid (h.sub (L' := LL) (Q' := Q) (by rw [← hLL]; exact fun p hp => (List.mem_append.1 hp).elim (hN p) (h.L p)) h.Q)
  clear hN
  have A0 : Hid ((b0, 0, pt z.M) ∈ LL) := Lib.hid (by rw [← hLL]; simp)
  have A1 : Hid ((b1, 0, .int .i64 o.1) ∈ LL) := Lib.hid (by rw [← hLL]; simp)
  have A2 : Hid ((b1, 1, .int .i64 o.2.1) ∈ LL) := Lib.hid (by rw [← hLL]; simp)
  have A3 : Hid ((b1, 2, .int .i64 o.2.2.1) ∈ LL) := Lib.hid (by rw [← hLL]; simp)
  have A4 : Hid ((b1, 3, .int .i64 o.2.2.2) ∈ LL) := Lib.hid (by rw [← hLL]; simp)
  have HS : Hid (∀ p ∈ L, p ∈ LL) := Lib.hid (fun p hp => by rw [← hLL]; exact List.mem_append_right _ hp)
  clear hLL
  clear h hm h0 h2
  go_enter Tryz.func207, Tryz.ntmps207
  have e1 := H.out.at A0.out
  have e2 := H.out.m0
  have e3 := H.out.s0
  have e4 := H.out.at A2.out
  have K1 := Lib.hid (fun W x m QQ (h : Cx b (mxR b.y z m) W x LL QQ) => (⟨h.at A0.out, h.m0, h.s0, h.at A2.out⟩ : W.cell? ⟨b0, 0, none⟩ = some (pt z.M) ∧ W.cell? ⟨z.M, 0, none⟩ = some (.pointer (some ⟨b.y.S, 0, none⟩)) ∧ W.cell? ⟨b.y.S, 0, none⟩ = some (.pointer (some ⟨b.y.H, 0, none⟩)) ∧ W.cell? ⟨b1, 1, none⟩ = some (.int .i64 o.2.1)))
  have C1 := Lib.hid (cx_cell o.2.1 (H.out.drew))
  go_wp2_with fail
  go_region_held3 (fun W => W.cell? ⟨b0, 0, none⟩ = some (pt z.M) ∧ W.cell? ⟨z.M, 0, none⟩ = some (.pointer (some ⟨b.y.S, 0, none⟩)) ∧ W.cell? ⟨b.y.S, 0, none⟩ = some (.pointer (some ⟨b.y.H, 0, none⟩)) ∧ W.cell? ⟨b1, 1, none⟩ = some (.int .i64 o.2.1))
    (first | exact K1.out _ _ _ _ H.out.drew | exact K1.out _ _ _ _ h1)
    ((go_at_call 206; refine C1.out.mono ?_; rintro e w1 ⟨rfl, h1⟩))
  clear e1 e2 e3 e4
  have H1 := Lib.hid h1
  clear h1
  go_wp2_with fail
  go_ret2
  exact ⟨rfl, H1.out.less HS.out (fun p hp => hp)⟩
set_option maxRecDepth 100000 in
theorem rk_drop {f : FuncId} {cap : Array Value} (_hf : Fits b z) (h : Cx b (mxR b.y z m) w x L Q) (hm : (K.rk .drop, fn f cap) ∈ Q) :
    Calls Tryz.prog f (cap) w fun e w' => e = .returned (.tuple #[.int .i64 (0), .int .i64 (0)]) ∧ Cx b (mxR b.y z m) w' (x) L Q := by
  obtain ⟨O, d, ps, cs, h⟩ := h
  have hv : fn f cap = fn 210 #[] := h.Q _ hm
  cases hv
  show Calls _ _ #[] w _
  obtain ⟨LL, hLL⟩ : ∃ LL : List (Nat × Nat × Value), [] ++ L = LL := ⟨_, rfl⟩
  have hN : ∀ p ∈ ([] : List (Nat × Nat × Value)), Bi O w p.1 p.2.1 p.2.2 := (fun _ e => by cases e)
  have H := Lib.hid (h.sub (L' := LL) (Q' := Q) (by rw [← hLL]; exact fun p hp => (List.mem_append.1 hp).elim (hN p) (h.L p)) h.Q)
  clear hN
  have HS : Hid (∀ p ∈ L, p ∈ LL) := Lib.hid (fun p hp => by rw [← hLL]; exact List.mem_append_right _ hp)
  clear hLL
  clear h hm
  go_enter Tryz.func210, Tryz.ntmps210
  go_wp2_with fail
  go_ret2
  exact ⟨rfl, H.out.less HS.out (fun p hp => hp)⟩
set_option maxRecDepth 100000 in
theorem rk_move (o : O4) (r : Nat) {f : FuncId} {cap : Array Value} (hr : o.2.2.1 = (r : Nat)) (hrl : r < m.rg.length) (hl64 : m.rg.length ≤ 64) (hf : Fits b z) (h : Cx b (mxR b.y z m) w x L Q) (hm : (K.rk (.move o), fn f cap) ∈ Q) :
    Calls Tryz.prog f (cap) w fun e w' => e = .returned (.tuple #[.int .i64 (m.rg.getD r 0), .int .i64 (0)]) ∧ Cx b (mxR b.y z m) w' (x) L Q := by
  obtain ⟨O, d, ps, cs, h⟩ := h
  obtain ⟨b0, b1, hv, h0, h1⟩ := h.Q _ hm
  cases hv
  rw [hf.a] at h0
  show Calls _ _ #[.pointer (some ⟨b0, 0, none⟩), .pointer (some ⟨b1, 0, none⟩)] w _
  obtain ⟨LL, hLL⟩ : ∃ LL : List (Nat × Nat × Value), [(b0, 0, pt z.M), (b1, 2, .int .i64 (r : Nat))] ++ L = LL := ⟨_, rfl⟩
  have hN : ∀ p ∈ ([(b0, 0, pt z.M), (b1, 2, .int .i64 (r : Nat))] : List (Nat × Nat × Value)), Bi O w p.1 p.2.1 p.2.2 := (List.forall_mem_cons.2 ⟨h0, (List.forall_mem_cons.2 ⟨(hr ▸ h1.2.2.1), (fun _ e => by cases e)⟩)⟩)
  have H := Lib.hid (h.sub (L' := LL) (Q' := Q) (by rw [← hLL]; exact fun p hp => (List.mem_append.1 hp).elim (hN p) (h.L p)) h.Q)
  clear hN
  have A0 : Hid ((b0, 0, pt z.M) ∈ LL) := Lib.hid (by rw [← hLL]; simp)
  have A1 : Hid ((b1, 2, .int .i64 (r : Nat)) ∈ LL) := Lib.hid (by rw [← hLL]; simp)
  have HS : Hid (∀ p ∈ L, p ∈ LL) := Lib.hid (fun p hp => by rw [← hLL]; exact List.mem_append_right _ hp)
  clear hLL
  have e0 := H.out.at A0.out
  have e1 := H.out.m2
  have e2 := H.out.at A1.out
  have e3 := H.out.mg hrl
  have g0 : (0 : Int) ≤ (r : Int) := by omega
  have g1 : (r : Int) < (m.rg.length : Int) := by omega
  have g2 : (m.rg.length : Int) ≤ 64 := by omega
  have lG : z.G < w.heap.size := lt_of_cell e3
  clear h hm h0 h1 hr hrl hl64
  go_enter Tryz.func211, Tryz.ntmps211
  generalize m.rg.getD r 0 = rv at *
  go_wp2_with fail
  go_quiet (fail)
  clear e0 e1 e2 e3
  have H5 := Lib.hid (H.out.drewN nq)
  go_wp2_with fail
  go_ret2
  exact ⟨rfl, H5.out.less HS.out (fun p hp => hp)⟩
set_option maxRecDepth 100000 in
theorem rk_born (a : Int) (hz : Tz b.y) {f : FuncId} {cap : Array Value} (hmm : x.m < 800000) (hf : Fits b z) (h : Cx b (mxR b.y z m) w x L Q) (hm : (K.rk (.born a), fn f cap) ∈ Q) :
    Calls Tryz.prog f (cap) w fun e w' => e = .returned (.tuple #[.int .i64 (a), .int .i64 (baE x.s a m.co)]) ∧ Cx b (mxR b.y z m) w' (hp x (baX x.s a m.co) (x.m + 1)) L Q := by
  obtain ⟨O, d, ps, cs, h⟩ := h
  obtain ⟨b0, b1, hv, h0, h1⟩ := h.Q _ hm
  cases hv
  rw [hf.a] at h1
  show Calls _ _ #[.pointer (some ⟨b0, 0, none⟩), .pointer (some ⟨b1, 0, none⟩)] w _
  obtain ⟨LL, hLL⟩ : ∃ LL : List (Nat × Nat × Value), [(b0, 0, .int .i64 a), (b1, 0, pt z.M)] ++ L = LL := ⟨_, rfl⟩
  have hN : ∀ p ∈ ([(b0, 0, .int .i64 a), (b1, 0, pt z.M)] : List (Nat × Nat × Value)), Bi O w p.1 p.2.1 p.2.2 := (List.forall_mem_cons.2 ⟨h0, (List.forall_mem_cons.2 ⟨h1, (fun _ e => by cases e)⟩)⟩)
  have H := Lib.hid (h.sub (L' := LL) (Q' := Q) (by rw [← hLL]; exact fun p hp => (List.mem_append.1 hp).elim (hN p) (h.L p)) h.Q)
  clear hN
  have A0 : Hid ((b0, 0, .int .i64 a) ∈ LL) := Lib.hid (by rw [← hLL]; simp)
  have A1 : Hid ((b1, 0, pt z.M) ∈ LL) := Lib.hid (by rw [← hLL]; simp)
  have HS : Hid (∀ p ∈ L, p ∈ LL) := Lib.hid (fun p hp => by rw [← hLL]; exact List.mem_append_right _ hp)
  clear hLL
  clear h hm h0 h1
  go_enter Tryz.func316, Tryz.ntmps316
  have e1 := H.out.at A0.out
  have e2 := H.out.at A1.out
  have e3 := H.out.m0
  have e4 := H.out.s0
  have e5 := H.out.m6
  have K1 := Lib.hid (fun W x  QQ (h : Cx b (mxR b.y z m) W x LL QQ) => (⟨h.at A0.out, h.at A1.out, h.m0, h.s0, h.m6⟩ : W.cell? ⟨b0, 0, none⟩ = some (.int .i64 a) ∧ W.cell? ⟨b1, 0, none⟩ = some (pt z.M) ∧ W.cell? ⟨z.M, 0, none⟩ = some (.pointer (some ⟨b.y.S, 0, none⟩)) ∧ W.cell? ⟨b.y.S, 0, none⟩ = some (.pointer (some ⟨b.y.H, 0, none⟩)) ∧ W.cell? ⟨z.M, 6, none⟩ = some (.int .i64 m.co)))
  have C1 := Lib.hid (cx_bear a m.co (by omega) hz (H.out.drew))
  go_wp2_with fail
  go_region_held3 (fun W => W.cell? ⟨b0, 0, none⟩ = some (.int .i64 a) ∧ W.cell? ⟨b1, 0, none⟩ = some (pt z.M) ∧ W.cell? ⟨z.M, 0, none⟩ = some (.pointer (some ⟨b.y.S, 0, none⟩)) ∧ W.cell? ⟨b.y.S, 0, none⟩ = some (.pointer (some ⟨b.y.H, 0, none⟩)) ∧ W.cell? ⟨z.M, 6, none⟩ = some (.int .i64 m.co))
    (first | exact K1.out _ _ _ H.out.drew | exact K1.out _ _ _ h1)
    ((go_at_call 317; refine C1.out.mono ?_; rintro e w1 ⟨rfl, h1⟩))
  clear e1 e2 e3 e4 e5
  have H1 := Lib.hid h1
  clear h1
  go_wp2_with fail
  go_ret2
  exact ⟨rfl, H1.out.less HS.out (fun p hp => hp)⟩
/-- What is read, by any of them. -/
theorem rk_any (rd : Rk) (hok : rkOk b.y m rd) (hl64 : m.rg.length ≤ 64) (hmm : x.m < 800000) {f : FuncId} {cap : Array Value} (hf : Fits b z) (h : Cx b (mxR b.y z m) w x L Q) (hm : (K.rk rd, fn f cap) ∈ Q) :
    Calls Tryz.prog f cap w fun e w' => e = .returned (.tuple #[.int .i64 (rkV x m rd), .int .i64 (rkE x m rd)]) ∧ Cx b (mxR b.y z m) w' (rkX x m rd) L Q := by
  cases rd with
  | ldC a o => exact rk_ldC a o hok hmm hf h hm
  | ldB a o => exact rk_ldB a o hok hmm hf h hm
  | get o => exact rk_get o hf h hm
  | set o => exact rk_set o hf h hm
  | drop => exact rk_drop hf h hm
  | move o =>
    obtain ⟨h1, h2⟩ := hok
    exact rk_move o o.2.2.1.toNat (by omega) (by omega) hl64 hf h hm
  | born a => exact rk_born a hok hmm hf h hm
/-- What a laying asks. -/
def lkZ (y : Sy) : Lk → Prop
  | .fld _ _ => Tz y
  | _ => True
def lkE (x : Sd) (v : Int) : Lk → Int
  | .fld a o => sE x.s a o.2.2.1 v
  | .cel o => scE x.s o.2.1 v
def lkX (x : Sd) (v : Int) : Lk → Sd
  | .fld a o => hp x (stX x.s a o.2.2.1 v) (x.m + 2)
  | .cel o => hp x (scX x.s o.2.1 v) x.m
end
theorem ent_rk_ldC : ∀ args W, (callFunc 198 args).run Tryz.prog W = .ok (.enter 198 args) W := enters_of Tryz.func198 (by kernel_rfl) rfl
theorem ent_rk_ldB : ∀ args W, (callFunc 201 args).run Tryz.prog W = .ok (.enter 201 args) W := enters_of Tryz.func201 (by kernel_rfl) rfl
theorem ent_rk_get : ∀ args W, (callFunc 205 args).run Tryz.prog W = .ok (.enter 205 args) W := enters_of Tryz.func205 (by kernel_rfl) rfl
theorem ent_rk_set : ∀ args W, (callFunc 207 args).run Tryz.prog W = .ok (.enter 207 args) W := enters_of Tryz.func207 (by kernel_rfl) rfl
theorem ent_rk_drop : ∀ args W, (callFunc 210 args).run Tryz.prog W = .ok (.enter 210 args) W := enters_of Tryz.func210 (by kernel_rfl) rfl
theorem ent_rk_move : ∀ args W, (callFunc 211 args).run Tryz.prog W = .ok (.enter 211 args) W := enters_of Tryz.func211 (by kernel_rfl) rfl
theorem ent_rk_born : ∀ args W, (callFunc 316 args).run Tryz.prog W = .ok (.enter 316 args) W := enters_of Tryz.func316 (by kernel_rfl) rfl
theorem ent_lk_fld : ∀ args W, (callFunc 203 args).run Tryz.prog W = .ok (.enter 203 args) W := enters_of Tryz.func203 (by kernel_rfl) rfl
theorem ent_lk_cel : ∀ args W, (callFunc 208 args).run Tryz.prog W = .ok (.enter 208 args) W := enters_of Tryz.func208 (by kernel_rfl) rfl
theorem ent_th_ld : ∀ args W, (callFunc 196 args).run Tryz.prog W = .ok (.enter 196 args) W := enters_of Tryz.func196 (by kernel_rfl) rfl
theorem ent_th_st : ∀ args W, (callFunc 200 args).run Tryz.prog W = .ok (.enter 200 args) W := enters_of Tryz.func200 (by kernel_rfl) rfl
theorem ent_an_arm : ∀ args W, (callFunc 177 args).run Tryz.prog W = .ok (.enter 177 args) W := enters_of Tryz.func177 (by kernel_rfl) rfl
theorem ent_an_sync : ∀ args W, (callFunc 143 args).run Tryz.prog W = .ok (.enter 143 args) W := enters_of Tryz.func143 (by kernel_rfl) rfl
theorem ent_an_scan : ∀ args W, (callFunc 179 args).run Tryz.prog W = .ok (.enter 179 args) W := enters_of Tryz.func179 (by kernel_rfl) rfl
theorem ent_an_drain : ∀ args W, (callFunc 183 args).run Tryz.prog W = .ok (.enter 183 args) W := enters_of Tryz.func183 (by kernel_rfl) rfl
theorem ent_an_off : ∀ args W, (callFunc 184 args).run Tryz.prog W = .ok (.enter 184 args) W := enters_of Tryz.func184 (by kernel_rfl) rfl
theorem Rkv.enters {O : Nat → Nat} {w : World} {a : Nat} {t : Rk} {f : FuncId} {cap : Array Value} (h : Rkv O w a t (fn f cap)) (args : Array Value) (V : World) : (callFunc f args).run Tryz.prog V = .ok (.enter f args) V := by
  cases t with
  | ldC x o => obtain ⟨b0, b1, b2, e, _⟩ := h; cases e; exact ent_rk_ldC _ _
  | ldB x o => obtain ⟨b0, b1, b2, e, _⟩ := h; cases e; exact ent_rk_ldB _ _
  | get o => obtain ⟨b0, b1, e, _⟩ := h; cases e; exact ent_rk_get _ _
  | set o => obtain ⟨b0, b1, e, _⟩ := h; cases e; exact ent_rk_set _ _
  | drop => have h : fn f cap = fn 210 #[] := h; cases h; exact ent_rk_drop _ _
  | move o => obtain ⟨b0, b1, e, _⟩ := h; cases e; exact ent_rk_move _ _
  | born x => obtain ⟨b0, b1, e, _⟩ := h; cases e; exact ent_rk_born _ _
theorem Lkv.enters {O : Nat → Nat} {w : World} {a : Nat} {t : Lk} {f : FuncId} {cap : Array Value} (h : Lkv O w a t (fn f cap)) (args : Array Value) (V : World) : (callFunc f args).run Tryz.prog V = .ok (.enter f args) V := by
  cases t with
  | fld x o => obtain ⟨b0, b1, b2, e, _⟩ := h; cases e; exact ent_lk_fld _ _
  | cel o => obtain ⟨b0, b1, e, _⟩ := h; cases e; exact ent_lk_cel _ _
theorem Thv.enters {O : Nat → Nat} {w : World} {a : Nat} {t : Th} {f : FuncId} {cap : Array Value} (h : Thv O w a t (fn f cap)) (args : Array Value) (V : World) : (callFunc f args).run Tryz.prog V = .ok (.enter f args) V := by
  cases t with
  | ld o => obtain ⟨b0, b1, e, _⟩ := h; cases e; exact ent_th_ld _ _
  | st o => obtain ⟨b0, b1, e, _⟩ := h; cases e; exact ent_th_st _ _
theorem Anv.enters {O : Nat → Nat} {w : World} {a : Nat} {t : An} {f : FuncId} {cap : Array Value} (h : Anv O w a t (fn f cap)) (args : Array Value) (V : World) : (callFunc f args).run Tryz.prog V = .ok (.enter f args) V := by
  cases t with
  | arm => obtain ⟨b0, e, _⟩ := h; cases e; exact ent_an_arm _ _
  | scan => obtain ⟨b0, e, _⟩ := h; cases e; exact ent_an_scan _ _
  | drain => obtain ⟨b0, e, _⟩ := h; cases e; exact ent_an_drain _ _
  | off => obtain ⟨b0, e, _⟩ := h; cases e; exact ent_an_off _ _
  | sync => have h : fn f cap = fn 143 #[] := h; cases h; exact ent_an_sync _ _
end Go.Proofs.YtipifkgmhgkleaaGreatDoor.Mv
