/-
  StatsTotals: the law's own counting.
-/
import Derived.Test.YtodfkklkgcoddaaDoorSsI
import Derived.Lib.QuietBelow
import Derived.Sort.BigQuietIn
namespace Go.Proofs.YtodfkklkgcoddaaDoor.Ss
open Go.RowKit
open Go.Proofs.YtodfkklkgcoddaaDoor.Row

theorem cErr_next {l : List Ev} {x : Ev} : cErr (l ++ [x]) = cErr l + if isDid x && !(x.code == 0) then 1 else 0 := by unfold cErr; rw [countP_one]
theorem cK_next {l : List Ev} {x : Ev} (j : Nat) : cK j (l ++ [x]) = cK j l + if isDid x && x.code == (j : Int) then 1 else 0 := by unfold cK; rw [countP_one]
/-- What the law has counted. -/
structure Lw (W w : World) (L : List (List Int)) (l : List Ev) : Prop where
  s : SmAt w W.heap.size (fT L l (cErr l) (cK 10 l))
  c : CtAt w (W.heap.size + 1) (fun j => cK j l)
  b : Below W.heap.size W w
theorem Lw.later {W w w' : World} {L : List (List Int)} {l : List Ev} (h : Lw W w L l) (hb : Below w.heap.size w w') : Lw W w' L l := ⟨h.s.later hb, h.c.later hb, h.b.trans (hb.mono h.b.size)⟩
/-- One event more, its counts as they are. -/
theorem Lw.next {W w : World} {L : List (List Int)} {l : List Ev} {x : Ev} {f k : Nat → Nat} (hs : SmAt w W.heap.size f) (hc : CtAt w (W.heap.size + 1) k) (hb : Below W.heap.size W w)
    (hf : ∀ j, j < 6 → f j = fT L (l ++ [x]) (cErr (l ++ [x])) (cK 10 (l ++ [x])) j) (hk : ∀ j, j < 15 → k j = cK j (l ++ [x])) : Lw W w L (l ++ [x]) := ⟨hs.ext hf, hc.ext hk, hb⟩

/-- What is counted behind an operation of some code. -/
def dnF (L : List (List Int)) (T : List Ev) (c : Int) (a : Bool) : Nat → Nat
  | 0 => cOps T + 1
  | 1 => cErr T + if c = 0 then 0 else 1
  | 2 => cAl L T + if a then 1 else 0
  | 3 => cFr T
  | 4 => cCy T
  | 5 => cK 10 T + if c = 10 then 1 else 0
  | _ => 0
theorem Lw.did {W w : World} {L : List (List Int)} {T : List Ev} {p wh o c v : Int} {a : Bool} (ha : isAl L ⟨p, wh, 1, o, c, v⟩ = a) (hs : SmAt w W.heap.size (dnF L T c a)) (hc : CtAt w (W.heap.size + 1) (fun j => cK j T + if c = (j : Int) then 1 else 0)) (hb : Below W.heap.size W w) :
    Lw W w L (T ++ [⟨p, wh, 1, o, c, v⟩]) := by
  refine ⟨hs.ext fun j hj => ?_, hc.ext fun j hj => ?_, hb⟩
  · rw [ft_next _ _ _ _ _ _ hj]
    match j, hj with
    | 0, _ => rfl
    | 1, _ =>
      show cErr T + _ = cErr (T ++ [_])
      rw [cErr_next]
      by_cases h : c = 0 <;> simp [isDid, h]
    | 2, _ => show cAl L T + _ = cAl L T + _; rw [isDid_1, ha]; rfl
    | 3, _ => rfl
    | 4, _ => rfl
    | 5, _ =>
      show cK 10 T + _ = cK 10 (T ++ [_])
      rw [cK_next]
      by_cases h : c = 10 <;> simp [isDid, h]
  · rw [cK_next]
    by_cases h : c = (j : Int) <;> simp [isDid, h]
theorem isAl_code {L : List (List Int)} {p w k o c v : Int} (h : c ≠ 0) : isAl L ⟨p, w, k, o, c, v⟩ = false := by simp [isAl, h]
theorem isAl_who {L : List (List Int)} {p w k o c v : Int} (h : okI w L.length = false) : isAl L ⟨p, w, k, o, c, v⟩ = false := by simp [isAl, h]
theorem isAl_op {L : List (List Int)} {p k o c v : Int} {m : Nat} (h : okI o (L.getD m []).length = false) : isAl L ⟨p, m, k, o, c, v⟩ = false := by
  unfold isAl
  simp only [Int.toNat_natCast]
  rw [h]; simp
theorem isAl_kd {L : List (List Int)} {p k v : Int} {m n : Nat} (hm : okI (m : Int) L.length = true) (hn : okI (n : Int) (L.getD m []).length = true) : isAl L ⟨p, m, k, n, 0, v⟩ = ((L.getD m []).getD n 0 == 1) := by
  unfold isAl
  simp only [Int.toNat_natCast]
  rw [hm, hn]; rfl
theorem run_equalIn_ints_self {P : Program} (w : World) (d : Nat) (t e : TypeId) (n : Nat) (ht : P.underlying t = some (.array n e)) (he : P.underlying e = some (.int .i64)) (hsz : ∀ w, (sizeOf e).run P w = .ok 1 w) (xs : List Int) (hx : xs.length = n) :
    (Op.equalIn (d + 2) t (.agg (xs.map (Value.int .i64)).toArray) (.agg (xs.map (Value.int .i64)).toArray)).run P w = .ok true w := by
  rw [Op.equalIn]
  simp only [Sem.run_bind, run_underlying ht, Result.andThen_ok, hsz, Std.Legacy.Range.forIn_eq_forIn_range', Std.Legacy.Range.size, Nat.sub_zero, Nat.add_sub_cancel, Nat.div_one]
  have hl : ∀ i ∈ List.range' 0 n 1, i < n := fun i hi => by simpa using (List.mem_range'_1.1 hi).2
  generalize List.range' 0 n 1 = l at hl ⊢
  induction l with
  | nil => simp
  | cons i l ih =>
    have hi : i < n := hl i (by simp)
    have px : (part e (xs.map (Value.int .i64)).toArray (i * 1)).run P w = .ok (Value.int .i64 (xs.getD i 0)) w := by
      simp [part, isAgg, run_underlying he, List.getD, List.getElem?_eq_getElem (show i < xs.length by omega)]
    have pe : (Op.equalIn (d + 1) e (Value.int .i64 (xs.getD i 0)) (Value.int .i64 (xs.getD i 0))).run P w = .ok true w := by
      rw [run_equalIn_int w d e .i64 .i64 _ _ he, beq_self_eq_true]
    simp only [List.forIn_cons, Sem.run_bind, px, pe, Result.andThen_ok]
    simp only [Bool.not_true, Bool.false_eq_true, if_false, Sem.run_pure, Result.andThen_ok]
    exact ih fun j hj => hl j (by simp [hj])
theorem eql_ct (F : Nat → Nat) (w : World) : (Op.equalIn 10000 41 (ctV F) (ctV F)).run Tryd.prog w = .ok true w :=
  run_equalIn_ints_self w 9998 41 3 15 Tryd.underlying41 Tryd.underlying3 (fun w => Tryd.sizeOf3 w) [(F 0 : Int), F 1, F 2, F 3, F 4, F 5, F 6, F 7, F 8, F 9, F 10, F 11, F 12, F 13, F 14] rfl
set_option maxRecDepth 100000 in
set_option maxHeartbeats 8000000 in
theorem totals_walk (pp : Option Addr) (cp : Nat) (L : List (List Int)) (p : Option Addr) (cap : Nat) (l : List Ev) (W : World) (ht : LibTab W) (hp : PrAt W pp L) (h : EvAt W p l) (hll : l.length ≤ maxLen) (hLl : L.length ≤ maxLen) :
    Calls Tryd.prog 5 #[.slice pp L.length cp, .slice p l.length cap] W fun x w' => x = .returned (.bool true) ∧ Below W.heap.size W w' := by
  unfold maxLen at hll hLl
  have HAW : Hid (∀ w, Below W.heap.size W w → Calls Tryd.prog 7 #[] w fun x w' => x = .returned (.bool true) ∧ Below w.heap.size w w') := Lib.hid fun w h => awake_any w (ht.later h)
  have HO := Lib.hid h
  have HP := Lib.hid hp
  clear h hp ht
  by_cases hbP : 10 < L.length
  · have g1 : (10 : Int) < (L.length : Int) := by omega
    go_enter Tryd.func5, Tryd.ntmps5
    go_wp2_with (go_at_call 7; refine (HAW.out _ (Below.refl _ _)).mono ?_; rintro e w1 ⟨rfl, hb1⟩; have HB1 := Lib.hid hb1; clear hb1)
    go_ret
    exact ⟨rfl, HB1.out⟩
  have g1 : (L.length : Int) ≤ 10 := by omega
  by_cases hbig : 200 < l.length
  · have g2 : (200 : Int) < (l.length : Int) := by omega
    go_enter Tryd.func5, Tryd.ntmps5
    go_wp2_with (go_at_call 7; refine (HAW.out _ (Below.refl _ _)).mono ?_; rintro e w1 ⟨rfl, hb1⟩; have HB1 := Lib.hid hb1; clear hb1)
    go_ret
    exact ⟨rfl, HB1.out⟩
  have h200 : l.length ≤ 200 := by omega
  have g2 : (l.length : Int) ≤ 200 := by omega
  obtain ⟨w1, hw1⟩ : ∃ w1, (W.alloc (.cells #[.int .i64 0, .int .i64 0, .int .i64 0, .int .i64 0, .int .i64 0, .int .i64 0] 40)).alloc (.cells zero15 41) = w1 := ⟨_, rfl⟩
  have HL1 : Hid (Lw W w1 L (l.take 0)) := Lib.hid (by
    rw [← hw1]
    refine ⟨?_, ?_, ((Below.refl _ _).alloc (Nat.le_refl _) _).alloc (by simp) _⟩
    · exact (SmAt.new W 40 (fun _ => 0)).later ((Below.refl _ _).alloc (Nat.le_refl _) _) |>.ext fun j hj => by
        match j, hj with
        | 0, _ => rfl
        | 1, _ => rfl
        | 2, _ => rfl
        | 3, _ => rfl
        | 4, _ => rfl
        | 5, _ => rfl
    · have := CtAt.new (W.alloc (.cells #[.int .i64 0, .int .i64 0, .int .i64 0, .int .i64 0, .int .i64 0, .int .i64 0] 40)) 41
      rw [show (W.alloc (.cells #[.int .i64 0, .int .i64 0, .int .i64 0, .int .i64 0, .int .i64 0, .int .i64 0] 40)).heap.size = W.heap.size + 1 by simp] at this
      exact this)
  unfold zero15 at hw1
  go_enter Tryd.func5, Tryd.ntmps5
  go_wp2
  go_loopw [7] (fun iv wr => ∃ i : Nat, i ≤ l.length ∧ iv = .int .i64 i ∧ Lw W wr L (l.take i)) (fun iv _ => l.length - (intOf iv).toNat)
  case atStart => exact ⟨0, Nat.zero_le _, rfl, HL1.out⟩
  case round =>
    clear HL1 hw1
    obtain ⟨i, hil, rfl, hlw⟩ := hrel
    have HL := Lib.hid hlw
    clear hlw
    have n0 : (0 : Int) ≤ (i : Int) := Int.natCast_nonneg _
    by_cases hlt : i < l.length
    · have n1 : (i : Int) < (l.length : Int) := by omega
      obtain ⟨b, off, rfl, c0, c1, c2, c3, c4, c5⟩ := (HO.out.later (l := l) HL.out.b) i hlt
      have HT := Lib.hid (take_at hlt)
      generalize hx : l.getD i ev0 = x at *
      clear hx
      obtain ⟨xp, xw, xk, xo, xc, xv⟩ := x
      simp only at c0 c1 c2 c3 c4 c5
      have hm := List.length_take_le i l
      have HM := Lib.hid hm
      clear hm
      generalize hT : l.take i = T at *
      have HTE := Lib.hid hT
      clear hT
      obtain ⟨w4, hw4⟩ : ∃ w4, wr.alloc (.cells #[.int .i64 xp, .int .i64 xw, .int .i64 xk, .int .i64 xo, .int .i64 xc, .int .i64 xv] 44) = w4 := ⟨_, rfl⟩
      have hb4 : Below wr.heap.size wr w4 := by rw [← hw4]; exact (Below.refl _ _).alloc (Nat.le_refl _) _
      have q1 : w4.cell? ⟨wr.heap.size, 1, none⟩ = some (.int .i64 xw) := by rw [← hw4, World.cell?_alloc_new]; rfl
      have q2 : w4.cell? ⟨wr.heap.size, 2, none⟩ = some (.int .i64 xk) := by rw [← hw4, World.cell?_alloc_new]; rfl
      have q3 : w4.cell? ⟨wr.heap.size, 3, none⟩ = some (.int .i64 xo) := by rw [← hw4, World.cell?_alloc_new]; rfl
      have q4 : w4.cell? ⟨wr.heap.size, 4, none⟩ = some (.int .i64 xc) := by rw [← hw4, World.cell?_alloc_new]; rfl
      have HL4 := Lib.hid (HL.out.later hb4)
      have hlg : W.heap.size + 1 < wr.heap.size := HL.out.c.lt
      have ne1 : W.heap.size ≠ wr.heap.size := by omega
      have ne2 : W.heap.size + 1 ≠ wr.heap.size := by omega
      clear hb4 hlg
      have s0 := HL4.out.s.c 0 (by decide)
      have s1 := HL4.out.s.c 1 (by decide)
      have s2 := HL4.out.s.c 2 (by decide)
      have s3 := HL4.out.s.c 3 (by decide)
      have s4 := HL4.out.s.c 4 (by decide)
      have s5 := HL4.out.s.c 5 (by decide)
      simp only [fT] at s0 s1 s2 s3 s4 s5
      have z0 := HL4.out.s.z 0
      have z1 := HL4.out.s.z 1
      have z2 := HL4.out.s.z 2
      have z3 := HL4.out.s.z 3
      have z4 := HL4.out.s.z 4
      have z5 := HL4.out.s.z 5
      have m0 : ((cOps T : Nat) : Int) + 1 ≤ 9223372036854775807 := by have := cops_le T; have := HM.out; omega
      have m1 : ((cErr T : Nat) : Int) + 1 ≤ 9223372036854775807 := by have := cerr_le T; have := HM.out; omega
      have m2 : ((cAl L T : Nat) : Int) + 1 ≤ 9223372036854775807 := by have := cal_le L T; have := HM.out; omega
      have m3 : ((cFr T : Nat) : Int) + 1 ≤ 9223372036854775807 := by have := cfr_le T; have := HM.out; omega
      have m4 : ((cCy T : Nat) : Int) + 1 ≤ 9223372036854775807 := by have := ccy_le T; have := HM.out; omega
      have m5 : ((cK 10 T : Nat) : Int) + 1 ≤ 9223372036854775807 := by have := ck_le 10 T; have := HM.out; omega
      have HREL : Hid (∀ w, Lw W w L (T ++ [⟨xp, xw, xk, xo, xc, xv⟩]) → ∀ iv : Value, iv = .int .i64 ((i : Int) + 1) → ∃ i : Nat, i ≤ l.length ∧ iv = .int .i64 i ∧ Lw W w L (l.take i)) := Lib.hid fun w hw iv hi => ⟨i + 1, by omega, by rw [hi]; rfl, by rw [HT.out]; exact hw⟩
      by_cases k1 : xk = 1
      · subst k1
        by_cases hc0 : xc = 0
        · subst hc0
          have a0 := HL4.out.c.c 0 (by decide)
          have b0 := HL4.out.c.z 0
          have m6 : ((cK 0 T : Nat) : Int) + 1 ≤ 9223372036854775807 := by have := ck_le 0 T; have := HM.out; omega
          obtain ⟨w7, hw7⟩ : ∃ w7, (w4.setCell ⟨W.heap.size, 0, none⟩ (.int .i64 ((cOps T : Int) + 1))).setCell ⟨W.heap.size + 1, 0, none⟩ (.int .i64 ((cK 0 T : Int) + 1)) = w7 := ⟨_, rfl⟩
          have t1 : w7.cell? ⟨wr.heap.size, 1, none⟩ = some (.int .i64 xw) := by rw [← hw7]; exact cell_set (cell_set q1 (ne_blk ne1)) (ne_blk ne2)
          have t3 : w7.cell? ⟨wr.heap.size, 3, none⟩ = some (.int .i64 xo) := by rw [← hw7]; exact cell_set (cell_set q3 (ne_blk ne1)) (ne_blk ne2)
          have t4 : w7.cell? ⟨wr.heap.size, 4, none⟩ = some (.int .i64 0) := by rw [← hw7]; exact cell_set (cell_set q4 (ne_blk ne1)) (ne_blk ne2)
          have HS7 : Hid (SmAt w7 W.heap.size (dnF L T 0 false)) := Lib.hid (by
            rw [← hw7]
            exact ((HL4.out.s.put (k := 0) (cOps T + 1)).aside (by omega)).ext fun j hj => by
              match j, hj with
              | 0, _ => rfl
              | 1, _ => rfl
              | 2, _ => rfl
              | 3, _ => rfl
              | 4, _ => rfl
              | 5, _ => rfl)
          have HC7 : Hid (CtAt w7 (W.heap.size + 1) (fun j => cK j T + if (0 : Int) = (j : Int) then 1 else 0)) := Lib.hid (by
            rw [← hw7]
            exact ((HL4.out.c.aside (by omega)).bump (k := 0) (by omega)).ext fun j hj => by
              by_cases e : j = 0
              · subst e; rfl
              · rw [if_neg e, if_neg (by omega)])
          have HB7 : Hid (Below W.heap.size W w7) := Lib.hid (by rw [← hw7]; exact ((HL4.out.b.setCell (by show W.heap.size ≤ W.heap.size; omega) _).setCell (by show W.heap.size ≤ W.heap.size + 1; omega) _))
          have HP7 := Lib.hid (HP.out.later HB7.out)
          go_wp2
          clear hw7
          by_cases h0 : 0 ≤ xw
          · by_cases h1 : xw < (L.length : Int)
            · obtain ⟨m, rfl⟩ : ∃ m : Nat, xw = m := ⟨xw.toNat, by omega⟩
              have hok := okI_yes h0 h1
              obtain ⟨b2, off2, q, c, rfl, r0, r1⟩ := HP7.out m (by omega)
              have HR := Lib.hid r1
              clear r1
              by_cases j0 : 0 ≤ xo
              · by_cases j1 : xo < ((L.getD m []).length : Int)
                · obtain ⟨n, rfl⟩ : ∃ n : Nat, xo = n := ⟨xo.toNat, by omega⟩
                  have hok2 := okI_yes j0 j1
                  obtain ⟨b3, off3, rfl, r2⟩ := HR.out n (by omega)
                  have HIA := Lib.hid (isAl_kd (p := xp) (k := 1) (v := xv) hok hok2)
                  clear hok hok2 HR
                  generalize L.getD m [] = P at *
                  generalize P.getD n 0 = v at *
                  by_cases hv : v = 1
                  · subst hv
                    have s2' : ∀ d, (w7.drewN d).cell? ⟨W.heap.size, 2, none⟩ = some (.int .i64 ((cAl L T : Nat) : Int)) := fun d => HS7.out.c 2 (by decide)
                    have z2' : ∀ d, (w7.drewN d).frozen? ⟨W.heap.size, 2, none⟩ = false := fun d => HS7.out.z 2
                    have HN : Hid (∀ d, Lw W ((w7.drewN d).setCell ⟨W.heap.size, 2, none⟩ (.int .i64 ((cAl L T : Int) + 1))) L (T ++ [⟨xp, (m : Int), 1, (n : Int), 0, xv⟩])) := Lib.hid fun d => Lw.did (a := true) (by rw [HIA.out]; rfl)
                      (((HS7.out.later (below_drewN (Below.refl _ _) d)).put (k := 2) (cAl L T + 1)).ext fun j hj => by
                        match j, hj with
                        | 0, _ => rfl
                        | 1, _ => rfl
                        | 2, _ => rfl
                        | 3, _ => rfl
                        | 4, _ => rfl
                        | 5, _ => rfl)
                      ((HC7.out.later (below_drewN (Below.refl _ _) d)).aside (by omega)) ((below_drewN HB7.out d).setCell (Nat.le_refl _) _)
                    clear ne1 ne2
                    go_quiet (fail)
                    go_wp2
                    go_roundw
                    case rel => exact HREL.out _ (HN.out _) _ (by go_num)
                    case measure => simp [intOf]; omega
                  · have hvb : (v == 1) = false := by simpa using hv
                    have HN : Hid (∀ d, Lw W (w7.drewN d) L (T ++ [⟨xp, (m : Int), 1, (n : Int), 0, xv⟩])) := Lib.hid fun d => Lw.did (by rw [HIA.out]; exact hvb) (HS7.out.later (below_drewN (Below.refl _ _) d)) (HC7.out.later (below_drewN (Below.refl _ _) d)) (below_drewN HB7.out d)
                    go_quiet (fail)
                    go_wp2
                    go_roundw
                    case rel => exact HREL.out _ (HN.out _) _ (by go_num)
                    case measure => simp [intOf]; omega
                · have j1d : decide (xo < ((L.getD m []).length : Int)) = false := decide_eq_false j1
                  have HN : Hid (∀ d, Lw W (w7.drewN d) L (T ++ [⟨xp, (m : Int), 1, xo, 0, xv⟩])) := Lib.hid fun d => Lw.did (isAl_op (okI_big (by omega))) (HS7.out.later (below_drewN (Below.refl _ _) d)) (HC7.out.later (below_drewN (Below.refl _ _) d)) (below_drewN HB7.out d)
                  clear hok HR
                  generalize L.getD m [] = P at *
                  go_quiet (fail)
                  go_wp2
                  go_roundw
                  case rel => exact HREL.out _ (HN.out _) _ (by go_num)
                  case measure => simp [intOf]; omega
              · have j0d : decide (0 ≤ xo) = false := decide_eq_false j0
                have HN : Hid (∀ d, Lw W (w7.drewN d) L (T ++ [⟨xp, (m : Int), 1, xo, 0, xv⟩])) := Lib.hid fun d => Lw.did (isAl_op (okI_neg (by omega))) (HS7.out.later (below_drewN (Below.refl _ _) d)) (HC7.out.later (below_drewN (Below.refl _ _) d)) (below_drewN HB7.out d)
                go_quiet (fail)
                go_wp2
                go_roundw
                case rel => exact HREL.out _ (HN.out _) _ (by go_num)
                case measure => simp [intOf]; omega
            · have h1d : decide (xw < (L.length : Int)) = false := decide_eq_false h1
              have HN : Hid (∀ d, Lw W (w7.drewN d) L (T ++ [⟨xp, xw, 1, xo, 0, xv⟩])) := Lib.hid fun d => Lw.did (isAl_who (okI_big (by omega))) (HS7.out.later (below_drewN (Below.refl _ _) d)) (HC7.out.later (below_drewN (Below.refl _ _) d)) (below_drewN HB7.out d)
              go_quiet (fail)
              go_wp2
              go_roundw
              case rel => exact HREL.out _ (HN.out _) _ (by go_num)
              case measure => simp [intOf]; omega
          · have h0d : decide (0 ≤ xw) = false := decide_eq_false h0
            have HN : Hid (∀ d, Lw W (w7.drewN d) L (T ++ [⟨xp, xw, 1, xo, 0, xv⟩])) := Lib.hid fun d => Lw.did (isAl_who (okI_neg (by omega))) (HS7.out.later (below_drewN (Below.refl _ _) d)) (HC7.out.later (below_drewN (Below.refl _ _) d)) (below_drewN HB7.out d)
            go_quiet (fail)
            go_wp2
            go_roundw
            case rel => exact HREL.out _ (HN.out _) _ (by go_num)
            case measure => simp [intOf]; omega
        have hc0b : (xc == 0) = false := by simpa using hc0
        have hc0c : (!(xc == 0)) = true := by rw [hc0b]; rfl
        have hc0d : (xc != 0) = true := by simpa using hc0
        by_cases hc10 : xc = 10
        · subst hc10
          have a0 := HL4.out.c.c 10 (by decide)
          have b0 := HL4.out.c.z 10
          obtain ⟨w7, hw7⟩ : ∃ w7, (((w4.setCell ⟨W.heap.size, 0, none⟩ (.int .i64 ((cOps T : Int) + 1))).setCell ⟨W.heap.size, 1, none⟩ (.int .i64 ((cErr T : Int) + 1))).setCell ⟨W.heap.size, 5, none⟩ (.int .i64 ((cK 10 T : Int) + 1))).setCell ⟨W.heap.size + 1, 10, none⟩ (.int .i64 ((cK 10 T : Int) + 1)) = w7 := ⟨_, rfl⟩
          have t1 : w7.cell? ⟨wr.heap.size, 1, none⟩ = some (.int .i64 xw) := by rw [← hw7]; exact cell_set (cell_set (cell_set (cell_set q1 (ne_blk ne1)) (ne_blk ne1)) (ne_blk ne1)) (ne_blk ne2)
          have t3 : w7.cell? ⟨wr.heap.size, 3, none⟩ = some (.int .i64 xo) := by rw [← hw7]; exact cell_set (cell_set (cell_set (cell_set q3 (ne_blk ne1)) (ne_blk ne1)) (ne_blk ne1)) (ne_blk ne2)
          have t4 : w7.cell? ⟨wr.heap.size, 4, none⟩ = some (.int .i64 10) := by rw [← hw7]; exact cell_set (cell_set (cell_set (cell_set q4 (ne_blk ne1)) (ne_blk ne1)) (ne_blk ne1)) (ne_blk ne2)
          have HS7 : Hid (SmAt w7 W.heap.size (dnF L T 10 false)) := Lib.hid (by
            rw [← hw7]
            exact ((((HL4.out.s.put (k := 0) (cOps T + 1)).put (k := 1) (cErr T + 1)).put (k := 5) (cK 10 T + 1)).aside (by omega)).ext fun j hj => by
              match j, hj with
              | 0, _ => rfl
              | 1, _ => (show cErr T + 1 = cErr T + _; rw [if_neg hc0])
              | 2, _ => rfl
              | 3, _ => rfl
              | 4, _ => rfl
              | 5, _ => rfl)
          have HC7 : Hid (CtAt w7 (W.heap.size + 1) (fun j => cK j T + if (10 : Int) = (j : Int) then 1 else 0)) := Lib.hid (by
            rw [← hw7]
            exact ((((HL4.out.c.aside (by omega)).aside (by omega)).aside (by omega)).bump (k := 10) (by omega)).ext fun j hj => by
              by_cases e : j = 10
              · subst e; rfl
              · rw [if_neg e, if_neg (by omega)])
          have HB7 : Hid (Below W.heap.size W w7) := Lib.hid (by rw [← hw7]; exact ((((HL4.out.b.setCell (by show W.heap.size ≤ W.heap.size; omega) _).setCell (by show W.heap.size ≤ W.heap.size; omega) _).setCell (by show W.heap.size ≤ W.heap.size; omega) _).setCell (by show W.heap.size ≤ W.heap.size + 1; omega) _))
          have HN : Hid (∀ d, Lw W (w7.drewN d) L (T ++ [⟨xp, xw, 1, xo, 10, xv⟩])) := Lib.hid fun d => Lw.did (isAl_code hc0) (HS7.out.later (below_drewN (Below.refl _ _) d)) (HC7.out.later (below_drewN (Below.refl _ _) d)) (below_drewN HB7.out d)
          go_wp2
          clear hw7
          go_quiet (fail)
          go_wp2
          go_roundw
          case rel => exact HREL.out _ (HN.out _) _ (by go_num)
          case measure => simp [intOf]; omega
        have hc10b : (xc == 10) = false := by simpa using hc10
        by_cases hr0 : 0 ≤ xc
        · by_cases hr1 : xc < 15
          · obtain ⟨k, rfl⟩ : ∃ k : Nat, xc = k := ⟨xc.toNat, by omega⟩
            have hk15 : k < 15 := by omega
            have a0 := HL4.out.c.c k hk15
            have b0 := HL4.out.c.z k
            have m6 : ((cK k T : Nat) : Int) + 1 ≤ 9223372036854775807 := by have := ck_le k T; have := HM.out; omega
            obtain ⟨w7, hw7⟩ : ∃ w7, ((w4.setCell ⟨W.heap.size, 0, none⟩ (.int .i64 ((cOps T : Int) + 1))).setCell ⟨W.heap.size, 1, none⟩ (.int .i64 ((cErr T : Int) + 1))).setCell ⟨W.heap.size + 1, k, none⟩ (.int .i64 ((cK k T : Int) + 1)) = w7 := ⟨_, rfl⟩
            have t1 : w7.cell? ⟨wr.heap.size, 1, none⟩ = some (.int .i64 xw) := by rw [← hw7]; exact cell_set (cell_set (cell_set q1 (ne_blk ne1)) (ne_blk ne1)) (ne_blk ne2)
            have t3 : w7.cell? ⟨wr.heap.size, 3, none⟩ = some (.int .i64 xo) := by rw [← hw7]; exact cell_set (cell_set (cell_set q3 (ne_blk ne1)) (ne_blk ne1)) (ne_blk ne2)
            have t4 : w7.cell? ⟨wr.heap.size, 4, none⟩ = some (.int .i64 (k : Int)) := by rw [← hw7]; exact cell_set (cell_set (cell_set q4 (ne_blk ne1)) (ne_blk ne1)) (ne_blk ne2)
            have HS7 : Hid (SmAt w7 W.heap.size (dnF L T (k : Int) false)) := Lib.hid (by
              rw [← hw7]
              exact (((HL4.out.s.put (k := 0) (cOps T + 1)).put (k := 1) (cErr T + 1)).aside (by omega)).ext fun j hj => by
                match j, hj with
                | 0, _ => rfl
                | 1, _ => (show cErr T + 1 = cErr T + _; rw [if_neg hc0])
                | 2, _ => rfl
                | 3, _ => rfl
                | 4, _ => rfl
                | 5, _ => (show cK 10 T = cK 10 T + _; rw [if_neg hc10]; rfl))
            have HC7 : Hid (CtAt w7 (W.heap.size + 1) (fun j => cK j T + if (k : Int) = (j : Int) then 1 else 0)) := Lib.hid (by
              rw [← hw7]
              exact (((HL4.out.c.aside (by omega)).aside (by omega)).bump (k := k) hk15).ext fun j hj => by
                by_cases e : j = k
                · subst e; rw [if_pos rfl, if_pos rfl]
                · rw [if_neg e, if_neg (by omega)])
            have HB7 : Hid (Below W.heap.size W w7) := Lib.hid (by rw [← hw7]; exact (((HL4.out.b.setCell (by show W.heap.size ≤ W.heap.size; omega) _).setCell (by show W.heap.size ≤ W.heap.size; omega) _).setCell (by show W.heap.size ≤ W.heap.size + 1; omega) _))
            have HN : Hid (∀ d, Lw W (w7.drewN d) L (T ++ [⟨xp, xw, 1, xo, (k : Int), xv⟩])) := Lib.hid fun d => Lw.did (isAl_code hc0) (HS7.out.later (below_drewN (Below.refl _ _) d)) (HC7.out.later (below_drewN (Below.refl _ _) d)) (below_drewN HB7.out d)
            go_wp2
            clear hw7
            go_quiet (fail)
            go_wp2
            go_roundw
            case rel => exact HREL.out _ (HN.out _) _ (by go_num)
            case measure => simp [intOf]; omega
          · have hr1d : decide (xc < 15) = false := decide_eq_false hr1
            obtain ⟨w7, hw7⟩ : ∃ w7, (w4.setCell ⟨W.heap.size, 0, none⟩ (.int .i64 ((cOps T : Int) + 1))).setCell ⟨W.heap.size, 1, none⟩ (.int .i64 ((cErr T : Int) + 1)) = w7 := ⟨_, rfl⟩
            have t1 : w7.cell? ⟨wr.heap.size, 1, none⟩ = some (.int .i64 xw) := by rw [← hw7]; exact cell_set (cell_set q1 (ne_blk ne1)) (ne_blk ne1)
            have t3 : w7.cell? ⟨wr.heap.size, 3, none⟩ = some (.int .i64 xo) := by rw [← hw7]; exact cell_set (cell_set q3 (ne_blk ne1)) (ne_blk ne1)
            have t4 : w7.cell? ⟨wr.heap.size, 4, none⟩ = some (.int .i64 xc) := by rw [← hw7]; exact cell_set (cell_set q4 (ne_blk ne1)) (ne_blk ne1)
            have HS7 : Hid (SmAt w7 W.heap.size (dnF L T xc false)) := Lib.hid (by
              rw [← hw7]
              exact ((HL4.out.s.put (k := 0) (cOps T + 1)).put (k := 1) (cErr T + 1)).ext fun j hj => by
                match j, hj with
                | 0, _ => rfl
                | 1, _ => (show cErr T + 1 = cErr T + _; rw [if_neg hc0])
                | 2, _ => rfl
                | 3, _ => rfl
                | 4, _ => rfl
                | 5, _ => (show cK 10 T = cK 10 T + _; rw [if_neg hc10]; rfl))
            have HC7 : Hid (CtAt w7 (W.heap.size + 1) (fun j => cK j T + if (xc : Int) = (j : Int) then 1 else 0)) := Lib.hid (by
              rw [← hw7]
              exact ((HL4.out.c.aside (by omega)).aside (by omega)).ext fun j hj => by
                rw [if_neg (by omega)]; rfl)
            have HB7 : Hid (Below W.heap.size W w7) := Lib.hid (by rw [← hw7]; exact ((HL4.out.b.setCell (by show W.heap.size ≤ W.heap.size; omega) _).setCell (by show W.heap.size ≤ W.heap.size; omega) _))
            have HN : Hid (∀ d, Lw W (w7.drewN d) L (T ++ [⟨xp, xw, 1, xo, xc, xv⟩])) := Lib.hid fun d => Lw.did (isAl_code hc0) (HS7.out.later (below_drewN (Below.refl _ _) d)) (HC7.out.later (below_drewN (Below.refl _ _) d)) (below_drewN HB7.out d)
            go_wp2
            clear hw7
            go_quiet (fail)
            go_wp2
            go_roundw
            case rel => exact HREL.out _ (HN.out _) _ (by go_num)
            case measure => simp [intOf]; omega
        · have hr0d : decide (0 ≤ xc) = false := decide_eq_false hr0
          obtain ⟨w7, hw7⟩ : ∃ w7, (w4.setCell ⟨W.heap.size, 0, none⟩ (.int .i64 ((cOps T : Int) + 1))).setCell ⟨W.heap.size, 1, none⟩ (.int .i64 ((cErr T : Int) + 1)) = w7 := ⟨_, rfl⟩
          have t1 : w7.cell? ⟨wr.heap.size, 1, none⟩ = some (.int .i64 xw) := by rw [← hw7]; exact cell_set (cell_set q1 (ne_blk ne1)) (ne_blk ne1)
          have t3 : w7.cell? ⟨wr.heap.size, 3, none⟩ = some (.int .i64 xo) := by rw [← hw7]; exact cell_set (cell_set q3 (ne_blk ne1)) (ne_blk ne1)
          have t4 : w7.cell? ⟨wr.heap.size, 4, none⟩ = some (.int .i64 xc) := by rw [← hw7]; exact cell_set (cell_set q4 (ne_blk ne1)) (ne_blk ne1)
          have HS7 : Hid (SmAt w7 W.heap.size (dnF L T xc false)) := Lib.hid (by
            rw [← hw7]
            exact ((HL4.out.s.put (k := 0) (cOps T + 1)).put (k := 1) (cErr T + 1)).ext fun j hj => by
              match j, hj with
              | 0, _ => rfl
              | 1, _ => (show cErr T + 1 = cErr T + _; rw [if_neg hc0])
              | 2, _ => rfl
              | 3, _ => rfl
              | 4, _ => rfl
              | 5, _ => (show cK 10 T = cK 10 T + _; rw [if_neg hc10]; rfl))
          have HC7 : Hid (CtAt w7 (W.heap.size + 1) (fun j => cK j T + if (xc : Int) = (j : Int) then 1 else 0)) := Lib.hid (by
            rw [← hw7]
            exact ((HL4.out.c.aside (by omega)).aside (by omega)).ext fun j hj => by
              rw [if_neg (by omega)]; rfl)
          have HB7 : Hid (Below W.heap.size W w7) := Lib.hid (by rw [← hw7]; exact ((HL4.out.b.setCell (by show W.heap.size ≤ W.heap.size; omega) _).setCell (by show W.heap.size ≤ W.heap.size; omega) _))
          have HN : Hid (∀ d, Lw W (w7.drewN d) L (T ++ [⟨xp, xw, 1, xo, xc, xv⟩])) := Lib.hid fun d => Lw.did (isAl_code hc0) (HS7.out.later (below_drewN (Below.refl _ _) d)) (HC7.out.later (below_drewN (Below.refl _ _) d)) (below_drewN HB7.out d)
          go_wp2
          clear hw7
          go_quiet (fail)
          go_wp2
          go_roundw
          case rel => exact HREL.out _ (HN.out _) _ (by go_num)
          case measure => simp [intOf]; omega
      · have k1b : (xk == 1) = false := by simpa using k1
        have HID : Hid (isDid ⟨xp, xw, xk, xo, xc, xv⟩ = false) := Lib.hid (isDid_no k1)
        have HNF : Hid (∀ w (f : Nat → Nat), SmAt w W.heap.size f → CtAt w (W.heap.size + 1) (fun j => cK j T) → Below W.heap.size W w → f 0 = cOps T → f 1 = cErr T → f 2 = cAl L T → f 3 = cFr T + (if xk == 5 then 1 else 0) → f 4 = cCy T + (if xk == 2 then 1 else 0) → f 5 = cK 10 T → Lw W w L (T ++ [⟨xp, xw, xk, xo, xc, xv⟩])) := Lib.hid fun w f h1 h2 h3 e0 e1 e2 e3 e4 e5 => by
          refine ⟨h1.ext fun j hj => ?_, h2.ext fun j hj => ?_, h3⟩
          · rw [ft_next _ _ _ _ _ _ hj, HID.out]
            match j, hj with
            | 0, _ => exact e0
            | 1, _ => rw [e1]; show cErr T = cErr (T ++ [_]); rw [cErr_next, HID.out]; rfl
            | 2, _ => exact e2
            | 3, _ => exact e3
            | 4, _ => exact e4
            | 5, _ => rw [e5]; show cK 10 T = cK 10 (T ++ [_]); rw [cK_next, HID.out]; rfl
          · rw [cK_next, HID.out]; rfl
        by_cases k5 : xk = 5
        · subst k5
          have HN : Hid (Lw W (w4.setCell ⟨W.heap.size, 3, none⟩ (.int .i64 ((cFr T : Int) + 1))) L (T ++ [⟨xp, xw, 5, xo, xc, xv⟩])) := Lib.hid (HNF.out _ _ (HL4.out.s.put (k := 3) (cFr T + 1)) (HL4.out.c.aside (by omega)) (HL4.out.b.setCell (Nat.le_refl _) _) rfl rfl rfl rfl rfl rfl)
          clear HNF
          go_wp2
          go_roundw
          case rel => exact HREL.out _ HN.out _ (by go_num)
          case measure => simp [intOf]; omega
        have k5b : (xk == 5) = false := by simpa using k5
        by_cases k2 : xk = 2
        · subst k2
          have HN : Hid (Lw W (w4.setCell ⟨W.heap.size, 4, none⟩ (.int .i64 ((cCy T : Int) + 1))) L (T ++ [⟨xp, xw, 2, xo, xc, xv⟩])) := Lib.hid (HNF.out _ _ (HL4.out.s.put (k := 4) (cCy T + 1)) (HL4.out.c.aside (by omega)) (HL4.out.b.setCell (Nat.le_refl _) _) rfl rfl rfl rfl rfl rfl)
          clear HNF
          go_wp2
          go_roundw
          case rel => exact HREL.out _ HN.out _ (by go_num)
          case measure => simp [intOf]; omega
        have k2b : (xk == 2) = false := by simpa using k2
        have HN : Hid (Lw W w4 L (T ++ [⟨xp, xw, xk, xo, xc, xv⟩])) := Lib.hid (HNF.out _ _ HL4.out.s HL4.out.c HL4.out.b rfl rfl rfl (by rw [k5b]; rfl) (by rw [k2b]; rfl) rfl)
        clear HNF
        go_wp2
        go_roundw
        case rel => exact HREL.out _ HN.out _ (by go_num)
        case measure => simp [intOf]; omega
    · obtain rfl : i = l.length := by omega
      have HLE : Hid (Lw W wr L l) := Lib.hid (by have := HL.out; rw [List.take_length] at this; exact this)
      clear HL
      have HTO : Hid (∀ w, Below W.heap.size W w → Calls Tryd.prog 15 #[.slice pp L.length cp, .slice p l.length cap] w fun x w' => x = .returned (smV (fT L l (cErr l) (cK 10 l))) ∧ Below w.heap.size w w') := Lib.hid fun w h => total_any pp cp L p cap l w (HP.out.later h) (HO.out.later h) (by omega)
      have HCD : Hid (∀ w, Below W.heap.size W w → Calls Tryd.prog 16 #[.slice p l.length cap] w fun x w' => x = .returned (ctV fun j => cK j l) ∧ Below w.heap.size w w') := Lib.hid fun w h => codes_any p cap l w (HO.out.later h) (by omega)
      have hls := HLE.out.s
      have hlc := HLE.out.c
      generalize fT L l (cErr l) (cK 10 l) = S at *
      generalize (fun j => cK j l) = F at *
      have HLB := Lib.hid HLE.out.b
      clear HLE
      have q41 := eql_ct F
      unfold smV at HTO
      unfold ctV at HCD q41
      have e0 := cell_regrown (hls.c 0 (by decide))
      have e1 := cell_regrown (hls.c 1 (by decide))
      have e2 := cell_regrown (hls.c 2 (by decide))
      have e3 := cell_regrown (hls.c 3 (by decide))
      have e4 := cell_regrown (hls.c 4 (by decide))
      have e5 := cell_regrown (hls.c 5 (by decide))
      have d0 := cell_regrown (hlc.c 0 (by decide))
      have d1 := cell_regrown (hlc.c 1 (by decide))
      have d2 := cell_regrown (hlc.c 2 (by decide))
      have d3 := cell_regrown (hlc.c 3 (by decide))
      have d4 := cell_regrown (hlc.c 4 (by decide))
      have d5 := cell_regrown (hlc.c 5 (by decide))
      have d6 := cell_regrown (hlc.c 6 (by decide))
      have d7 := cell_regrown (hlc.c 7 (by decide))
      have d8 := cell_regrown (hlc.c 8 (by decide))
      have d9 := cell_regrown (hlc.c 9 (by decide))
      have d10 := cell_regrown (hlc.c 10 (by decide))
      have d11 := cell_regrown (hlc.c 11 (by decide))
      have d12 := cell_regrown (hlc.c 12 (by decide))
      have d13 := cell_regrown (hlc.c 13 (by decide))
      have d14 := cell_regrown (hlc.c 14 (by decide))
      have HGR : Hid (∀ d os, Below W.heap.size W (Sort.grow (redrawn wr d) os)) := Lib.hid fun d os => HLB.out.trans ((below_regrown wr d os).mono HLB.out.size)
      clear hls hlc
      go_wp2
      refine wp_region_quiet_below (by kernel_rfl) (by kernel_rfl) ?_
      repeat (go_big_quiet_step (first
        | (go_at_call 15; exact Calls.regrown_of (HTO.out _ (HGR.out _ _)))
        | (go_at_call 16; exact Calls.regrown_of (HCD.out _ (HGR.out _ _)))
        | (go_at_call 7; exact Calls.regrown_of (HAW.out _ (HGR.out _ _)))))
      refine wpQuiet_nil ?_
      intro W5 hw'
      have HBW5 := Lib.hid (HLB.out.trans ((below_of_regrown hw').mono HLB.out.size))
      clear hw' e0 e1 e2 e3 e4 e5 d0 d1 d2 d3 d4 d5 d6 d7 d8 d9 d10 d11 d12 d13 d14
      go_wp2
      go_ret
      exact ⟨rfl, HBW5.out⟩
end Go.Proofs.YtodfkklkgcoddaaDoor.Ss
