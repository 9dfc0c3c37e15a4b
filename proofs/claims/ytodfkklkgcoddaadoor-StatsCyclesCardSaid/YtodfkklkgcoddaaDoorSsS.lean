/-
  The law's own cycles; same.
-/
import Derived.Test.YtodfkklkgcoddaaDoorSsD
import Derived.Deep.QuietTactic
import Derived.Deep.LoopGhost
namespace Go.Proofs.YtodfkklkgcoddaaDoor.Ss
open Go.RowKit
open Go.Proofs.YtodfkklkgcoddaaDoor.Row

/-- The law's cycle while it is told: its record. -/
structure Cg (w : World) (g : Nat) (num start : Int) (s : Bs) : Prop where
  c : CyAt w g num start s
  f : ∀ o, w.frozen? ⟨g, o, none⟩ = false
theorem Cg.lt {w : World} {g : Nat} {num start : Int} {s : Bs} (h : Cg w g num start s) : g < w.heap.size := lt_of_cell h.c.c0
theorem Cg.setM {w : World} {g : Nat} {num start : Int} {s : Bs} (h : Cg w g num start s) (v : Int) : Cg (w.setCell ⟨g, 2, none⟩ (.int .i64 v)) g num start { s with m := v, hm := true } :=
  ⟨⟨(other (ne_off (by decide))).trans h.c.c0, (other (ne_off (by decide))).trans h.c.c1, same h.c.c2, (other (ne_off (by decide))).trans h.c.c3, (other (ne_off (by decide))).trans h.c.c4⟩, fun o => (World.frozen?_setCell ..).trans (h.f o)⟩
theorem Cg.setR {w : World} {g : Nat} {num start : Int} {s : Bs} (h : Cg w g num start s) (v : Int) : Cg (w.setCell ⟨g, 3, none⟩ (.int .i64 v)) g num start { s with r := v, hr := true } :=
  ⟨⟨(other (ne_off (by decide))).trans h.c.c0, (other (ne_off (by decide))).trans h.c.c1, (other (ne_off (by decide))).trans h.c.c2, same h.c.c3, (other (ne_off (by decide))).trans h.c.c4⟩, fun o => (World.frozen?_setCell ..).trans (h.f o)⟩
theorem Cg.setF {w : World} {g : Nat} {num start : Int} {s : Bs} (h : Cg w g num start s) : Cg (w.setCell ⟨g, 4, none⟩ (.int .i64 ((s.f : Int) + 1))) g num start { s with f := s.f + 1 } :=
  ⟨⟨(other (ne_off (by decide))).trans h.c.c0, (other (ne_off (by decide))).trans h.c.c1, (other (ne_off (by decide))).trans h.c.c2, (other (ne_off (by decide))).trans h.c.c3, same h.c.c4⟩, fun o => (World.frozen?_setCell ..).trans (h.f o)⟩
theorem Cg.new (w : World) (num st : Int) (t : TypeId) : Cg (w.alloc (.cells #[.int .i64 num, .int .i64 st, .int .i64 (-1), .int .i64 (-1), .int .i64 0] t)) w.heap.size num st bs0 := by
  refine ⟨⟨?_, ?_, ?_, ?_, ?_⟩, fun x => ?_⟩
  · rw [World.cell?_alloc_new]; rfl
  · rw [World.cell?_alloc_new]; rfl
  · rw [World.cell?_alloc_new]; rfl
  · rw [World.cell?_alloc_new]; rfl
  · rw [World.cell?_alloc_new]; rfl
  · rw [frozen?_alloc_cells]; exact frozen_beyond (Nat.le_refl _)
theorem Cg.later {w w' : World} {g : Nat} {num start : Int} {s : Bs} (h : Cg w g num start s) (hb : Below w.heap.size w w') : Cg w' g num start s :=
  have hl := h.lt
  ⟨⟨(hb.cell (p := ⟨_, _, none⟩) hl).trans h.c.c0, (hb.cell (p := ⟨_, _, none⟩) hl).trans h.c.c1, (hb.cell (p := ⟨_, _, none⟩) hl).trans h.c.c2, (hb.cell (p := ⟨_, _, none⟩) hl).trans h.c.c3, (hb.cell (p := ⟨_, _, none⟩) hl).trans h.c.c4⟩, fun o => (hb.frozen (p := ⟨_, _, none⟩) hl).trans (h.f o)⟩
/-- A row that is owned, beside what is set elsewhere. -/
theorem owns_aside {w : World} {base cap n g o : Nat} {e : TypeId} {q : Option Addr} {xs : List Value} {size : Nat} {v : Value} (h : w.ownsRow base e size (.slice q n cap) n xs) (hg : ¬ rowB q g) : (w.setCell ⟨g, o, none⟩ v).ownsRow base e size (.slice q n cap) n xs :=
  owns_block h (fun k hk => Below.heap_setCell _ _ _ _ (fun e => hg (by rw [← show k = g from e]; exact hk)))

set_option maxRecDepth 100000 in
set_option maxHeartbeats 8000000 in
theorem lawcycles_any (p : Option Addr) (cap : Nat) (l : List Ev) (W : World) (h : EvAt W p l) (hl : l.length ≤ 1000) :
    Calls Tryd.prog 9 #[.slice p l.length cap] W fun x w' => ∃ p' c', x = .returned (.slice p' (cycs l).length c') ∧
      w'.ownsRow W.heap.size 32 5 (.slice p' (cycs l).length c') (cycs l).length (cellsC (cycs l)) ∧ Below W.heap.size W w' := by
  obtain ⟨i0, hi, hz0, hz1, hz2⟩ := info_parts infoCy
  have HO := Lib.hid h
  clear h
  go_enter Tryd.func9, Tryd.ntmps9
  go_wp2
  go_loopw [3, 4] (fun pv iv wr => ∃ (i : Nat) (q : Option Addr) (c : Nat) (cs : List Cy), i ≤ l.length ∧ pv = .slice q cs.length c ∧ iv = .int .i64 i ∧ cs.length ≤ i ∧ cs ++ cycs (l.drop i) = cycs l ∧
    wr.ownsRow W.heap.size 32 5 (.slice q cs.length c) cs.length (cellsC cs) ∧ Below W.heap.size W wr) (fun _ iv _ => l.length - (intOf iv).toNat)
  case atStart => exact ⟨0, none, 0, [], Nat.zero_le _, rfl, rfl, Nat.le_refl _, rfl, ⟨rfl, .inl ⟨rfl, rfl⟩⟩, Below.refl _ _⟩
  case round =>
    obtain ⟨i, q, c, cs, hil, rfl, rfl, hci, hcy, how, hb⟩ := hrel
    have HB := Lib.hid hb
    have HW := Lib.hid how
    have HC := Lib.hid hcy
    clear hb how hcy
    have n0 : (0 : Int) ≤ (i : Int) := Int.natCast_nonneg _
    by_cases hlt : i < l.length
    · have n1 : (i : Int) < (l.length : Int) := by omega
      obtain ⟨b, off, rfl, c0, c1, c2, c3, c4, c5⟩ := (HO.out.later (l := l) HB.out) i hlt
      have HD := Lib.hid (drop_at hlt)
      generalize hx : l.getD i ev0 = x at *
      clear hx
      obtain ⟨xp, xw, xk, xo, xc, xv⟩ := x
      simp only at c0 c1 c2 c3 c4 c5
      by_cases k2 : xk = 2
      · subst k2
        have HK0 : Hid (Below W.heap.size W wr.drew ∧ wr.drew.ownsRow W.heap.size 32 5 (.slice q cs.length c) cs.length (cellsC cs) ∧ wr.drew.cell? ⟨b, off + i * 6, none⟩ = some (.int .i64 xp) ∧ wr.drew.cell? ⟨b, off + i * 6 + 5, none⟩ = some (.int .i64 xv)) :=
          Lib.hid ⟨below_drewN HB.out 1, HW.out, c0, c5⟩
        have HK2 : Hid (∀ w w', Below W.heap.size W w ∧ w.ownsRow W.heap.size 32 5 (.slice q cs.length c) cs.length (cellsC cs) ∧ w.cell? ⟨b, off + i * 6, none⟩ = some (.int .i64 xp) ∧ w.cell? ⟨b, off + i * 6 + 5, none⟩ = some (.int .i64 xv) → Below w.heap.size w w' →
            Below W.heap.size W w' ∧ w'.ownsRow W.heap.size 32 5 (.slice q cs.length c) cs.length (cellsC cs) ∧ w'.cell? ⟨b, off + i * 6, none⟩ = some (.int .i64 xp) ∧ w'.cell? ⟨b, off + i * 6 + 5, none⟩ = some (.int .i64 xv)) :=
          Lib.hid fun w w' ⟨h, ho, h0, h1⟩ hb => ⟨h.trans (hb.mono h.size), owns_block ho (fun g hg => hb.block g (owns_lt ho hg).2), (hb.cell (p := ⟨_, _, none⟩) (lt_of_cell h0)).trans h0, (hb.cell (p := ⟨_, _, none⟩) (lt_of_cell h1)).trans h1⟩
        have HAD : Hid (∀ (W : World) (o : Obj), Below W.heap.size W (W.alloc o).drew) := Lib.hid fun W o => below_drewN ((Below.refl _ _).alloc (Nat.le_refl _) o) 1
        have HA : Hid (∀ (W : World) (o : Obj), Below W.heap.size W (W.alloc o)) := Lib.hid fun W o => (Below.refl _ _).alloc (Nat.le_refl _) o
        go_wp2
        go_region_held3 (fun w => Below W.heap.size W w ∧ w.ownsRow W.heap.size 32 5 (.slice q cs.length c) cs.length (cellsC cs) ∧ w.cell? ⟨b, off + i * 6, none⟩ = some (.int .i64 xp) ∧ w.cell? ⟨b, off + i * 6 + 5, none⟩ = some (.int .i64 xv))
          (first | exact HK0.out | assumption | exact HK2.out _ _ (by assumption) (HAD.out _ _) | exact HK2.out _ _ (by assumption) (HA.out _ _) | exact HK2.out _ _ HK0.out (HAD.out _ _) | exact HK2.out _ _ HK0.out (HA.out _ _))
          (fail)
        obtain ⟨g, hg⟩ : ∃ g, wr.heap.size = g := ⟨_, rfl⟩
        obtain ⟨w2, hw2⟩ : ∃ w2, (wr.alloc (.cells #[.int .i64 xv, .int .i64 xp, .int .i64 (-1), .int .i64 (-1), .int .i64 0] 32)).drew = w2 := ⟨_, rfl⟩
        have HX2 : Hid (Cg w2 g xv xp bs0) := Lib.hid (by rw [← hw2, ← hg]; exact (Cg.new wr xv xp _).later (below_drewN (Below.refl _ _) 1))
        have hxb : Below wr.heap.size wr w2 := by rw [← hw2]; exact below_drewN ((Below.refl _ _).alloc (Nat.le_refl _) _) 1
        have HB2 := Lib.hid (HB.out.trans (hxb.mono HB.out.size))
        have HW2 := Lib.hid (owns_block HW.out (fun g hg => hxb.block g (owns_lt HW.out hg).2))
        have HQG : Hid (¬ rowB q g) := Lib.hid (fun h => by have := (owns_lt HW.out h).2; omega)
        have HGE : Hid (W.heap.size ≤ g) := Lib.hid (by rw [← hg]; exact HB.out.size)
        clear hxb HK0 HK2 HAD HA
        rw [hg, hw2]
        go_wp2
        clear hw2 hg c0 c1 c2 c3 c4 c5
        go_loopw [6, 7, 8] (fun mv rv kv wz => ∃ (k : Nat) (s : Bs), i + 1 ≤ k ∧ k ≤ l.length ∧ mv = .bool s.hm ∧ rv = .bool s.hr ∧ kv = .int .i64 k ∧ s.f ≤ k ∧ beh s (l.drop k) = beh bs0 (l.drop (i + 1)) ∧ Cg wz g xv xp s ∧
          Below W.heap.size W wz ∧ wz.ownsRow W.heap.size 32 5 (.slice q cs.length c) cs.length (cellsC cs)) (fun _ _ kv _ => l.length - (intOf kv).toNat)
        case atStart => exact ⟨i + 1, bs0, Nat.le_refl _, by omega, rfl, rfl, by go_num, Nat.zero_le _, rfl, HX2.out, HB2.out, HW2.out⟩
        case round =>
          clear HX2 HB2 HW2
          obtain ⟨k, s, hik, hkl, rfl, rfl, rfl, hf, hbe, hx, hb3, hw3⟩ := hrel
          have HBE := Lib.hid hbe
          have HX3 := Lib.hid hx
          have HB3 := Lib.hid hb3
          have HW3 := Lib.hid hw3
          clear hbe hx hb3 hw3
          have k0 : (0 : Int) ≤ (k : Int) := Int.natCast_nonneg _
          by_cases hkt : k < l.length
          · have k1 : (k : Int) < (l.length : Int) := by omega
            obtain ⟨b', off', e, d0, d1, d2, d3, d4, d5⟩ := (HO.out.later (l := l) HB3.out) k hkt
            injection e with e
            injection e with e1 e2
            subst e1 e2
            have HDK := Lib.hid (drop_at hkt)
            generalize hy : l.getD k ev0 = y at *
            clear hy
            obtain ⟨yp, yw, yk, yo, yc, yv⟩ := y
            simp only at d0 d1 d2 d3 d4 d5
            have g2 := HX3.out.c.c2
            have g3 := HX3.out.c.c3
            have g4 := HX3.out.c.c4
            have z2 := HX3.out.f 2
            have z3 := HX3.out.f 3
            have z4 := HX3.out.f 4
            by_cases y2 : yk = 2
            · subst y2
              have HCY : Hid (beh bs0 (l.drop (i + 1)) = s) := Lib.hid (by rw [← HBE.out, HDK.out, beh_cons, if_pos rfl])
              have g0 := HX3.out.c.c0
              have g1 := HX3.out.c.c1
              have HK : Hid ((cs ++ [cyOf ⟨xp, xw, 2, xo, xc, xv⟩ s]) ++ cycs (l.drop (i + 1)) = cycs l) := Lib.hid (by rw [← HC.out, HD.out, cycs_cons, if_pos rfl, List.append_assoc]; unfold cyc; rw [HCY.out]; rfl)
              go_wp2_with (at_builtin; refine wpList_append_own_at _ rfl (.tmp 94) (.tmp 96) 24 rfl W.heap.size 32 i0 (.agg #[.int .i64 0, .int .i64 0, .int .i64 0, .int .i64 0, .int .i64 0]) 5 40 Tryd.underlying24 hi hz0 hz1 hz2 rfl (by decide) (.slice q cs.length c) cs.length (cellsC cs) rfl (HW3.out.alloc _) ⟨wr.heap.size, 0, none⟩ 1 1 (cyC (cyOf ⟨xp, xw, 2, xo, xc, xv⟩ s)) rfl rfl (cyC_new _ (cyOf ⟨xp, xw, 2, xo, xc, xv⟩ s) _) (cyC_one _) (by unfold maxLen; omega) (by omega) (by have := HB3.out.size; simp; omega) ?_; intro v' w5 hown hgrow _ hat; have HOWN := Lib.hid hown; have HGROW := Lib.hid hgrow; clear hown hgrow hat)
              have hown := HOWN.out
              rw [← cellsC_snoc] at hown
              obtain ⟨q2, d2, rfl⟩ := owns_slice hown
              have hB5 : Below W.heap.size W w5 := (HB3.out.alloc HB3.out.size _).grown HGROW.out (by have := HB3.out.size; simp; omega) (fun k hk => (owns_lt HW3.out ((ownBlock_slice q cs.length c k).1 hk)).1)
              have HB5 := Lib.hid hB5
              have HOW5 := Lib.hid hown
              clear hown hB5 HGROW HOWN
              generalize cyOf ⟨xp, xw, 2, xo, xc, xv⟩ s = X at *
              go_wp2
              go_roundw
              case rel => exact ⟨i + 1, q2, d2, cs ++ [X], by omega, by simp, by go_num, by simp; omega, HK.out, by simpa using HOW5.out, HB5.out⟩
              case measure => simp [intOf]; omega
            · have y2b : (yk == 2) = false := by simpa using y2
              have y2c : (!(yk == 2)) = true := by rw [y2b]; rfl
              have y2d : (yk != 2) = true := by simpa using y2
              have HKK : Hid (beh s (l.drop k) = beh (s.step ⟨yp, yw, yk, yo, yc, yv⟩) (l.drop (k + 1))) := Lib.hid (by rw [HDK.out, beh_cons, if_neg (show ¬ yk = 2 from y2)])
              obtain ⟨m, r, f, hm, hr⟩ := s
              simp only at g2 g3 g4 hf
              have f1 : (f : Int) + 1 ≤ 9223372036854775807 := by omega
              have HST : Hid (∀ s' w', Bs.step ⟨m, r, f, hm, hr⟩ ⟨yp, yw, yk, yo, yc, yv⟩ = s' → s'.f ≤ k + 1 → Cg w' g xv xp s' → (Below W.heap.size W w' ∧ w'.ownsRow W.heap.size 32 5 (.slice q cs.length c) cs.length (cellsC cs)) → ∀ mv rv kv : Value, mv = .bool s'.hm → rv = .bool s'.hr → kv = .int .i64 ((k : Int) + 1) →
                  ∃ (k : Nat) (s : Bs), i + 1 ≤ k ∧ k ≤ l.length ∧ mv = .bool s.hm ∧ rv = .bool s.hr ∧ kv = .int .i64 k ∧ s.f ≤ k ∧ beh s (l.drop k) = beh bs0 (l.drop (i + 1)) ∧ Cg w' g xv xp s ∧
                    Below W.heap.size W w' ∧ w'.ownsRow W.heap.size 32 5 (.slice q cs.length c) cs.length (cellsC cs)) :=
                Lib.hid fun s' w' h1 h2 h3 h7 mv rv kv h4 h5 h6 => ⟨k + 1, s', by omega, by omega, h4, h5, by rw [h6]; rfl, h2, by rw [← HBE.out, HKK.out, h1], h3, h7.1, h7.2⟩
              by_cases y3 : yk = 3
              · subst y3
                cases hm with
                | false =>
                  go_wp2
                  go_roundw
                  case rel => exact HST.out ⟨yp, r, f, true, hr⟩ _ (by simp [Bs.step]) (by simp only; omega) (HX3.out.setM yp) (⟨HB3.out.setCell (by show W.heap.size ≤ g; exact HGE.out) _, owns_aside HW3.out HQG.out⟩) _ _ _ rfl rfl (by go_num)
                  case measure => simp [intOf]; omega
                | true =>
                  go_wp2
                  go_roundw
                  case rel => exact HST.out ⟨m, r, f, true, hr⟩ _ (by simp [Bs.step]) (by simp only; omega) (HX3.out) (⟨HB3.out, HW3.out⟩) _ _ _ rfl rfl (by go_num)
                  case measure => simp [intOf]; omega
              have y3b : (yk == 3) = false := by simpa using y3
              by_cases y5 : yk = 5
              · subst y5
                cases hr with
                | false =>
                  go_wp2
                  go_roundw
                  case rel => exact HST.out ⟨m, r, f + 1, hm, false⟩ _ (by simp [Bs.step]) (by simp only; omega) (HX3.out.setF) (⟨HB3.out.setCell (by show W.heap.size ≤ g; exact HGE.out) _, owns_aside HW3.out HQG.out⟩) _ _ _ rfl rfl (by go_num)
                  case measure => simp [intOf]; omega
                | true =>
                  go_wp2
                  go_roundw
                  case rel => exact HST.out ⟨m, r, f, hm, true⟩ _ (by simp [Bs.step]) (by simp only; omega) (HX3.out) (⟨HB3.out, HW3.out⟩) _ _ _ rfl rfl (by go_num)
                  case measure => simp [intOf]; omega
              have y5b : (yk == 5) = false := by simpa using y5
              by_cases y4 : yk = 4
              · subst y4
                cases hr with
                | false =>
                  go_wp2
                  go_roundw
                  case rel => exact HST.out ⟨m, yp, f, hm, true⟩ _ (by simp [Bs.step]) (by simp only; omega) (HX3.out.setR yp) (⟨HB3.out.setCell (by show W.heap.size ≤ g; exact HGE.out) _, owns_aside HW3.out HQG.out⟩) _ _ _ rfl rfl (by go_num)
                  case measure => simp [intOf]; omega
                | true =>
                  go_wp2
                  go_roundw
                  case rel => exact HST.out ⟨m, r, f, hm, true⟩ _ (by simp [Bs.step]) (by simp only; omega) (HX3.out) (⟨HB3.out, HW3.out⟩) _ _ _ rfl rfl (by go_num)
                  case measure => simp [intOf]; omega
              have y4b : (yk == 4) = false := by simpa using y4
              go_wp2
              go_roundw
              case rel => exact HST.out ⟨m, r, f, hm, hr⟩ _ (by simp [Bs.step, y3, y4, y5]) (by simp only; omega) (HX3.out) (⟨HB3.out, HW3.out⟩) _ _ _ rfl rfl (by go_num)
              case measure => simp [intOf]; omega
          · obtain rfl : k = l.length := by omega
            have HCY : Hid (beh bs0 (l.drop (i + 1)) = s) := Lib.hid (by rw [← HBE.out, List.drop_length]; rfl)
            have g2 := HX3.out.c.c2
            have g3 := HX3.out.c.c3
            have g4 := HX3.out.c.c4
            have g0 := HX3.out.c.c0
            have g1 := HX3.out.c.c1
            have HK : Hid ((cs ++ [cyOf ⟨xp, xw, 2, xo, xc, xv⟩ s]) ++ cycs (l.drop (i + 1)) = cycs l) := Lib.hid (by rw [← HC.out, HD.out, cycs_cons, if_pos rfl, List.append_assoc]; unfold cyc; rw [HCY.out]; rfl)
            go_wp2_with (at_builtin; refine wpList_append_own_at _ rfl (.tmp 94) (.tmp 96) 24 rfl W.heap.size 32 i0 (.agg #[.int .i64 0, .int .i64 0, .int .i64 0, .int .i64 0, .int .i64 0]) 5 40 Tryd.underlying24 hi hz0 hz1 hz2 rfl (by decide) (.slice q cs.length c) cs.length (cellsC cs) rfl (HW3.out.alloc _) ⟨wr.heap.size, 0, none⟩ 1 1 (cyC (cyOf ⟨xp, xw, 2, xo, xc, xv⟩ s)) rfl rfl (cyC_new _ (cyOf ⟨xp, xw, 2, xo, xc, xv⟩ s) _) (cyC_one _) (by unfold maxLen; omega) (by omega) (by have := HB3.out.size; simp; omega) ?_; intro v' w5 hown hgrow _ hat; have HOWN := Lib.hid hown; have HGROW := Lib.hid hgrow; clear hown hgrow hat)
            have hown := HOWN.out
            rw [← cellsC_snoc] at hown
            obtain ⟨q2, d2, rfl⟩ := owns_slice hown
            have hB5 : Below W.heap.size W w5 := (HB3.out.alloc HB3.out.size _).grown HGROW.out (by have := HB3.out.size; simp; omega) (fun k hk => (owns_lt HW3.out ((ownBlock_slice q cs.length c k).1 hk)).1)
            have HB5 := Lib.hid hB5
            have HOW5 := Lib.hid hown
            clear hown hB5 HGROW HOWN
            generalize cyOf ⟨xp, xw, 2, xo, xc, xv⟩ s = X at *
            go_wp2
            go_roundw
            case rel => exact ⟨i + 1, q2, d2, cs ++ [X], by omega, by simp, by go_num, by simp; omega, HK.out, by simpa using HOW5.out, HB5.out⟩
            case measure => simp [intOf]; omega
      · have k2b : (xk == 2) = false := by simpa using k2
        have k2c : (!(xk == 2)) = true := by rw [k2b]; rfl
        have k2d : (xk != 2) = true := by simpa using k2
        have HK : Hid (cs ++ cycs (l.drop (i + 1)) = cycs l) := Lib.hid (by rw [← HC.out, HD.out, cycs_cons, if_neg (show ¬ xk = 2 from k2)])
        go_wp2
        go_roundw
        case rel => exact ⟨i + 1, q, c, cs, by omega, rfl, by go_num, by omega, HK.out, HW.out, HB.out⟩
        case measure => simp [intOf]; omega
    · obtain rfl : i = l.length := by omega
      have HE : Hid (cs = cycs l) := Lib.hid (by rw [← HC.out, List.drop_length, show cycs [] = [] from rfl, List.append_nil])
      go_wp2
      go_ret
      refine ⟨q, c, ?_⟩
      rw [← HE.out]
      exact ⟨rfl, HW.out, HB.out⟩
end Go.Proofs.YtodfkklkgcoddaaDoor.Ss
