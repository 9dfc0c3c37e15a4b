/-
  Share.
-/
import Derived.Test.YthpgnlcmpoldfaaGreatDoorMuA
import Derived.Maps.AppendAt
import Derived.Deep.RegionLaw
namespace Go.Proofs.YthpgnlcmpoldfaaGreatDoor.Mu
open Go.RowKit
open Blk (Cfg)
open Hp (Ids St Is Mine st0)
open Lg (BfIs BxIs)
open Brd (BdIs)
open Qu (QuIs)
open Go.Proofs.YthpgnlcmpoldfaaGreatDoor.Addr (Tabs)
open Go.Proofs.YthpgnlcmpoldfaaGreatDoor.Row (Chg rowB rowB_none other same cell_of_block frozen_of_block owns_lt owns_chg owns_cell owns_slice info_parts push_row step_append_own one_at)

/-- The row of boxes, as values. -/
def bxV (X : Nat → Nat) (n : Nat) : List Value := (List.range n).map fun i => .pointer (some ⟨X i, 0, none⟩)
theorem bxV_succ (X : Nat → Nat) (n : Nat) : bxV X (n + 1) = bxV X n ++ [.pointer (some ⟨X n, 0, none⟩)] := by
  unfold bxV
  rw [List.range_succ, List.map_append]
  rfl
theorem bxV_at {X : Nat → Nat} {n i : Nat} (h : i < n) : (bxV X n)[i]? = some (.pointer (some ⟨X i, 0, none⟩)) := by
  simp [bxV, h]
theorem bxV_congr {X X' : Nat → Nat} {n : Nat} (h : ∀ i, i < n → X' i = X i) : bxV X' n = bxV X n := by
  unfold bxV
  refine List.map_congr_left fun i hi => ?_
  rw [h i (List.mem_range.1 hi)]
/-- What is shared, at first. -/
def sd0 (c : Cfg) (n nc : Nat) : Sd := { s := st0 c n nc, m := 0, kind := 0, count := 0, ow := fun _ => false, rv := fun _ => [], op := 0, up := false, ys := fun _ => [] }
/-- What the loop of Share keeps. -/
structure LpI (w wr : World) (S : Nat) (c : Cfg) (n nc M j : Nat) (y : Sy) (T : Nat → Prop) : Prop where
  sh : ShIs wr y T (sd0 c n nc) M j
  eS : y.S = S
  row : wr.ownsRow w.heap.size 89 1 (.slice y.px j y.cx) j (bxV y.X j)
  fz : wr.frozen? ⟨S, 4, none⟩ = false
  tS : T S
  tP : ∀ g, rowB y.px g → T g
  sP : ¬ rowB y.px S
  ge : ∀ k, T k → w.heap.size < k
  bel : Below w.heap.size w wr
theorem ows_form {w : World} {base cap n : Nat} {e : TypeId} {p : Option Addr} {xs : List Value} (h : w.ownsRow base e 1 (.slice p n cap) n xs) (hn : 0 < n) : ∃ g, p = some ⟨g, 0, none⟩ := by
  obtain ⟨_, ⟨_, h2⟩ | ⟨g, c, cur, e1, r⟩⟩ := h
  · omega
  · cases e1
    exact ⟨g, rfl⟩
theorem LpI.add {w wr w1 w3 : World} {S : Nat} {c : Cfg} {n nc M j cap' : Nat} {y : Sy} {T : Nat → Prop} {p' : Option Addr} {o : Obj} (h : LpI w wr S c n nc M j y T)
    (hb : Below wr.heap.size wr w1) (hz : w1.heap.size = wr.heap.size + 1) (hX : ∀ T' : Nat → Prop, T' wr.heap.size → BxIs T' w1 wr.heap.size [])
    (hown : w3.ownsRow w.heap.size 89 1 (.slice p' (j + 1) cap') (j + 1) (bxV y.X j ++ [.pointer (some ⟨wr.heap.size, 0, none⟩)]))
    (hC : Chg (rowB y.px) (w1.alloc o) w3) (hR : ∀ k, rowB p' k → rowB y.px k ∨ (w1.alloc o).heap.size ≤ k) :
    LpI w (w3.setCell ⟨S, 4, none⟩ (.slice p' (j + 1) cap')) S c n nc M (j + 1) { y with px := p', cx := cap', X := fun i => if i = j then wr.heap.size else y.X i } (fun k => T k ∨ k = wr.heap.size ∨ rowB p' k) := by
  have eS := h.eS
  have hbA : Below wr.heap.size wr (w1.alloc o) := hb.alloc hb.size o
  have hzA : (w1.alloc o).heap.size = wr.heap.size + 2 := by rw [World.size_alloc, hz]
  have hsh := h.sh.later hbA
  have hC4 : Chg (fun k => rowB y.px k ∨ k = S) (w1.alloc o) (w3.setCell ⟨S, 4, none⟩ (.slice p' (j + 1) cap')) := (hC.mono (fun k e => .inl e)).set (p := ⟨S, 4, none⟩) (.inl (.inr rfl)) _
  have hsz := hC4.size
  have hO : ∀ k, ownS y j k → ¬ (rowB y.px k ∨ k = S) := fun k hk e => by
    rcases e with e | e
    · exact h.sh.nP k e hk
    · exact h.sh.nS (by rw [eS, ← e]; exact hk)
  have hlt : ∀ k, T k → k < wr.heap.size := h.sh.tl
  have hpx : ∀ k, rowB p' k → rowB y.px k ∨ wr.heap.size < k := fun k hk => (hR k hk).imp id (fun e => by rw [hzA] at e; omega)
  have hoS : ∀ k, ownS { y with px := p', cx := cap', X := fun i => if i = j then wr.heap.size else y.X i } (j + 1) k → ownS y j k ∨ k = wr.heap.size := fun k hk => by
    rcases hk with e | e | e | e | ⟨i, hi, e⟩
    · exact .inl (.inl e)
    · exact .inl (.inr (.inl e))
    · exact .inl (.inr (.inr (.inl e)))
    · exact .inl (.inr (.inr (.inr (.inl e))))
    · simp only at e
      by_cases e2 : i = j
      · rw [if_pos e2] at e; exact .inr e
      · rw [if_neg e2] at e; exact .inl (.inr (.inr (.inr (.inr ⟨i, by omega, e⟩))))
  have hSl : S < wr.heap.size := hlt S h.tS
  have hrow : (w3.setCell ⟨S, 4, none⟩ (.slice p' (j + 1) cap')).ownsRow w.heap.size 89 1 (.slice p' (j + 1) cap') (j + 1) (bxV (fun i => if i = j then wr.heap.size else y.X i) (j + 1)) := by
    rw [bxV_succ, if_pos rfl, bxV_congr (X := y.X) (fun i hi => if_neg (by omega))]
    refine owns_chg hown ((Chg.refl (fun k => k = S) w3).set (p := ⟨S, 4, none⟩) (.inl rfl) _) (fun g hg e => ?_)
    subst e
    rcases hpx g hg with e2 | e2
    · exact h.sP e2
    · omega
  have cS : ∀ o' v, (w1.alloc o).cell? ⟨y.S, o', none⟩ = some v → o' ≠ 4 → (w3.setCell ⟨S, 4, none⟩ (.slice p' (j + 1) cap')).cell? ⟨y.S, o', none⟩ = some v := fun o' v hv ho => by
    rw [other (fun e => by injection e with _ e2; exact ho e2.symm)]
    exact (hC.cell (p := ⟨y.S, o', none⟩) (show y.S < _ by rw [eS, hzA]; omega) (by rw [eS]; exact h.sP)).trans hv
  refine ⟨⟨cS 0 _ hsh.c0 (by decide), cS 1 _ hsh.c1 (by decide), cS 2 _ hsh.c2 (by decide), cS 3 _ hsh.c3 (by decide), ?_, hsh.hp.chg hC4 (fun k hk => hO k (.inl hk)), hsh.bd.chg hC4 (hO _ (.inr (.inl rfl))), hsh.qu.chg hC4 (fun k hk => hO k (.inr (.inr (.inl hk)))), ?_, ?_, fun i hi => ?_, fun i hi => ?_, fun k hk => ?_, fun k hk => ?_, fun e => ?_, fun g hg e => ?_, h.sh.dHB, h.sh.dHQ, h.sh.dF, fun i hi => ?_, fun i k hi hk hik => ?_⟩, eS, hrow, ?_, .inl h.tS, fun g hg => .inr (.inr hg), fun e => ?_, fun k hk => ?_, ?_⟩
  · show _ = some (Value.slice p' (j + 1) cap')
    rw [← eS]
    exact same ((hC.cell (p := ⟨y.S, 4, none⟩) (show y.S < _ by rw [eS, hzA]; omega) (by rw [eS]; exact h.sP)).trans hsh.c4)
  · exact (hC4.cell (p := ⟨y.F, 0, none⟩) (show y.F < _ from lt_of_cell hsh.fl) (hO _ (.inr (.inr (.inr (.inl rfl)))))).trans hsh.fl
  · exact (hC4.frozen (p := ⟨y.F, 0, none⟩) (show y.F < _ from lt_of_cell hsh.fl) (hO _ (.inr (.inr (.inr (.inl rfl)))))).trans hsh.ff
  · simp only
    by_cases e : i = j
    · subst e
      rw [if_pos rfl]
      have hX2 := hX (fun k => (T k ∨ k = wr.heap.size ∨ rowB p' k)) (.inr (.inl rfl))
      refine (hX2.later ((Below.refl _ _).alloc (Nat.le_refl _) o)).chg hC4 (fun k e => ?_) (fun e => ?_)
      · rcases e with e | e
        · exact .inl (h.tP k e)
        · exact .inl (by rw [e]; exact h.tS)
      · rcases e with e | e
        · exact absurd (hlt _ (h.tP _ e)) (Nat.lt_irrefl _)
        · omega
    · rw [if_neg e]
      refine ((bx_tag (T' := fun k => T k ∨ k = wr.heap.size ∨ rowB p' k) (h.sh.bx i (by omega)) (fun k hk => ?_) (.inl (h.sh.hT _ (.inr (.inr (.inr (.inr ⟨i, by omega, rfl⟩))))))).later hbA).chg hC4 (fun k e => ?_) (hO _ (.inr (.inr (.inr (.inr ⟨i, by omega, rfl⟩)))))
      · rcases hk with e | e | e
        · exact .inl e
        · exact .inr (by omega)
        · rcases hpx k e with e | e
          · exact .inl (h.tP k e)
          · exact .inr (by omega)
      · rcases e with e | e
        · exact .inl (h.tP k e)
        · exact .inl (by rw [e]; exact h.tS)
  · obtain ⟨g, rfl⟩ := ows_form hrow (by omega)
    have h2 := hrow
    exact ⟨g, 0, rfl, by rw [Nat.zero_add]; exact owns_cell h2 i _ (bxV_at (X := fun i => if i = j then wr.heap.size else y.X i) hi)⟩
  · rcases hoS k hk with e | e
    · exact .inl (h.sh.hT k e)
    · exact .inr (.inl e)
  · rcases hk with e | e | e
    · have := hlt k e; omega
    · omega
    · exact (owns_lt hrow e).2
  · rcases hoS _ e with e | e
    · exact h.sh.nS e
    · rw [eS] at e; omega
  · have hnT : ¬ T wr.heap.size := fun e => by have := hlt _ e; omega
    rcases hoS g e with e | e
    · rcases hpx g hg with e2 | e2
      · exact h.sh.nP g e2 e
      · have := hlt g (h.sh.hT g e); omega
    · rcases hpx g hg with e2 | e2
      · have := hlt g (h.tP g e2); omega
      · omega
  · have hnO : ¬ ownS y j wr.heap.size := fun e => by have := hlt _ (h.sh.hT _ e); omega
    simp only
    by_cases e : i = j
    · rw [if_pos e]
      exact ⟨fun e => hnO (.inl e), fun e => hnO (.inr (.inl e)), fun e => hnO (.inr (.inr (.inl e))), fun e => hnO (.inr (.inr (.inr (.inl e))))⟩
    · rw [if_neg e]
      exact h.sh.dX i (by omega)
  · simp only
    have hX' : ∀ t, t < j → y.X t ≠ wr.heap.size := fun t ht e => by have := hlt _ (h.sh.hT _ (.inr (.inr (.inr (.inr ⟨t, ht, rfl⟩))))); omega
    by_cases e1 : i = j
    · rw [if_pos e1, if_neg (by omega)]
      exact fun e => hX' k (by omega) e.symm
    · rw [if_neg e1]
      by_cases e2 : k = j
      · rw [if_pos e2]
        exact hX' i (by omega)
      · rw [if_neg e2]
        exact h.sh.dXX i k (by omega) (by omega) hik
  · rw [World.frozen?_setCell]
    have hf := (hbA.frozen (p := ⟨S, 4, none⟩) hSl).trans h.fz
    exact (hC.frozen (p := ⟨S, 4, none⟩) (show S < _ by rw [hzA]; omega) h.sP).trans hf
  · rcases hpx S e with e | e
    · exact h.sP e
    · omega
  · have := h.ge S h.tS
    rcases hk with e | e | e
    · exact h.ge k e
    · omega
    · rcases hpx k e with e | e
      · exact h.ge k (h.tP k e)
      · omega
  · refine (h.bel.trans (hbA.mono h.bel.size)).trans (hC4.below (fun k e => ?_) (by have := h.bel.size; omega))
    rcases e with e | e
    · exact Nat.le_of_lt (h.ge k (h.tP k e))
    · rw [e]; exact Nat.le_of_lt (h.ge S h.tS)
/-- Where all lies when the loop begins. -/
def sy0 (H : Nat) (d : Ids) (b q f : Nat) : Sy := { S := f + 1, H := H, d := d, B := b, Q := q, ps := fun _ => none, cs := fun _ => 0, F := f, px := none, cx := 0, X := fun _ => 0 }
theorem own0 {H : Nat} {d : Ids} {b q f k : Nat} (h : ownS (sy0 H d b q f) 0 k) : Mine H d k ∨ k = b ∨ k = q ∨ k = f := by
  rcases h with e | e | e | e | ⟨i, hi, e⟩
  · exact .inl e
  · exact .inr (.inl e)
  · rcases e with e | ⟨i, _, e⟩
    · exact .inr (.inr (.inl e))
    · exact absurd e (rowB_none k)
  · exact .inr (.inr (.inr e))
  · omega
theorem LpI.start {w w1 w2 w3 : World} {H : Nat} {d : Ids} {c : Cfg} {n nc M : Nat} {t1 t2 : TypeId} (hIs : Is w1 H d (st0 c n nc) 0) (hmi : ∀ k, Mine H d k → w.heap.size < k) (hb1 : Below w.heap.size w w1) (hlw : w.heap.size < w1.heap.size)
    (hbd : BdIs w2 w1.heap.size w1.heap.size M 0 0 (fun _ => false)) (hb2 : Below w1.heap.size w1 w2) (hz2 : w2.heap.size = w1.heap.size + 1) (hqu : QuIs w3 w2.heap.size w2.heap.size (fun _ => none) (fun _ => 0) (fun _ => []) 0) (hb3 : Below w2.heap.size w2 w3) (hz3 : w3.heap.size = w2.heap.size + 1) :
    LpI w ((w3.alloc (.cells #[.bool false] t1)).alloc (.cells #[.pointer (some ⟨H, 0, none⟩), .pointer (some ⟨w1.heap.size, 0, none⟩), .pointer (some ⟨w2.heap.size, 0, none⟩), .pointer (some ⟨w3.heap.size, 0, none⟩), .slice none 0 0] t2)) (w3.heap.size + 1) c n nc M 0 (sy0 H d w1.heap.size w2.heap.size w3.heap.size) (fun k => ownS (sy0 H d w1.heap.size w2.heap.size w3.heap.size) 0 k ∨ k = w3.heap.size + 1) := by
  obtain ⟨w4, hw4⟩ : ∃ w4, w3.alloc (.cells #[.bool false] t1) = w4 := ⟨_, rfl⟩
  have hz4 : w4.heap.size = w3.heap.size + 1 := by rw [← hw4, World.size_alloc]
  have hb4 : Below w3.heap.size w3 w4 := by rw [← hw4]; exact (Below.refl _ _).alloc (Nat.le_refl _) _
  have f4 : w4.cell? ⟨w3.heap.size, 0, none⟩ = some (.bool false) := by rw [← hw4, World.cell?_alloc_new]; rfl
  have ff4 : w4.frozen? ⟨w3.heap.size, 0, none⟩ = false := by rw [← hw4]; exact World.frozen?_alloc_at _ _ _ _ rfl
  rw [hw4]
  obtain ⟨w5, hw5⟩ : ∃ w5, w4.alloc (.cells #[.pointer (some ⟨H, 0, none⟩), .pointer (some ⟨w1.heap.size, 0, none⟩), .pointer (some ⟨w2.heap.size, 0, none⟩), .pointer (some ⟨w3.heap.size, 0, none⟩), .slice none 0 0] t2) = w5 := ⟨_, rfl⟩
  have hz5 : w5.heap.size = w4.heap.size + 1 := by rw [← hw5, World.size_alloc]
  have hb5 : Below w4.heap.size w4 w5 := by rw [← hw5]; exact (Below.refl _ _).alloc (Nat.le_refl _) _
  have hS : ∀ (o : Nat) (v : Value), (#[Value.pointer (some ⟨H, 0, none⟩), .pointer (some ⟨w1.heap.size, 0, none⟩), .pointer (some ⟨w2.heap.size, 0, none⟩), .pointer (some ⟨w3.heap.size, 0, none⟩), .slice none 0 0] : Array Value)[o]? = some v → w5.cell? ⟨w3.heap.size + 1, o, none⟩ = some v := fun o v hv => by
    rw [← hw5, ← hz4, World.cell?_alloc_new]
    exact hv
  have hfS : ∀ o, w5.frozen? ⟨w3.heap.size + 1, o, none⟩ = false := fun o => by
    rw [← hw5, ← hz4]
    exact World.frozen?_alloc_at _ _ _ _ rfl
  rw [hw5]
  have hb35 : Below w3.heap.size w3 w5 := hb4.trans (hb5.mono (by omega))
  have hb25 : Below w2.heap.size w2 w5 := hb3.trans (hb35.mono (by omega))
  have hb15 : Below w1.heap.size w1 w5 := hb2.trans (hb25.mono (by omega))
  have hml : ∀ k, Mine H d k → k < w1.heap.size := fun k hk => hIs.lt hk
  refine ⟨⟨hS 0 _ rfl, hS 1 _ rfl, hS 2 _ rfl, hS 3 _ rfl, hS 4 _ rfl, hIs.later hb15, hbd.later hb25, hqu.later hb35, ?_, ?_, fun i hi => absurd hi (Nat.not_lt_zero _), fun i hi => absurd hi (Nat.not_lt_zero _), fun k hk => .inl hk, fun k hk => ?_, fun e => ?_, fun g hg => absurd hg (rowB_none g), fun e => ?_, fun k hk => ?_, ⟨fun e => ?_, ?_⟩, fun i hi => absurd hi (Nat.not_lt_zero _), fun i _ hi => absurd hi (Nat.not_lt_zero _)⟩, rfl, ⟨rfl, .inl ⟨rfl, rfl⟩⟩, hfS 4, .inr rfl, fun g hg => absurd hg (rowB_none g), rowB_none _, fun k hk => ?_, hb1.trans (hb15.mono (by omega))⟩
  · exact (hb5.cell (p := ⟨w3.heap.size, 0, none⟩) (by show w3.heap.size < _; omega)).trans f4
  · exact (hb5.frozen (p := ⟨w3.heap.size, 0, none⟩) (by show w3.heap.size < _; omega)).trans ff4
  · rcases hk with e | e
    · rcases own0 e with e | e | e | e
      · have := hml k e; omega
      · omega
      · omega
      · omega
    · omega
  · rcases own0 e with e | e | e | e
    · have := hml _ e; simp only [sy0] at this; omega
    · simp only [sy0] at e; omega
    · simp only [sy0] at e; omega
    · simp only [sy0] at e; omega
  · have := hml _ e; simp only [sy0] at this; omega
  · rcases hk with e | ⟨i, _, e⟩
    · simp only [sy0] at e
      subst e
      exact ⟨fun e => by have := hml _ e; omega, by simp only [sy0]; omega, by simp only [sy0]; omega⟩
    · exact absurd e (rowB_none k)
  · have := hml _ e; simp only [sy0] at this; omega
  · simp only [sy0]; omega
  · rcases hk with e | e
    · rcases own0 e with e | e | e | e
      · exact hmi k e
      · omega
      · omega
      · omega
    · omega
theorem infoBx : (Tryz.prog.info? 89).map (fun i => (i.zero, i.size, i.bytes)) = some (some (.pointer none), 1, 8) := by kernel_rfl
theorem share_bad (c : Cfg) (w : World) (ht : Tabs w) (hr : rightB c.b c.wd c.m c.r c.ce c.lg c.st = false) : Calls Tryz.prog 7 #[(.agg #[.int .i64 c.b, .int .i64 c.wd, .int .i64 c.m, .int .i64 c.r, .int .i64 c.ce, .int .i64 c.lg, .int .i64 c.st])] w fun e w' => e = .returned (.tuple #[.pointer none, .int .i64 1]) ∧ Below w.heap.size w w' := by
  have hA : Below w.heap.size w (w.alloc (.cells #[.int .i64 c.b, .int .i64 c.wd, .int .i64 c.m, .int .i64 c.r, .int .i64 c.ce, .int .i64 c.lg, .int .i64 c.st] 23)) := (Below.refl _ _).alloc (Nat.le_refl _) _
  have HN := Lib.hid (Hp.new_bad c _ (ht.later hA) hr)
  have HA := Lib.hid hA
  clear hA ht hr
  go_enter Tryz.func7, Tryz.ntmps7
  go_wp2_with (go_at_call 51; fail)
  refine HN.out.mono ?_
  rintro e w1 ⟨rfl, hb⟩
  have HB := Lib.hid (HA.out.trans (hb.mono HA.out.size))
  clear hb
  go_wp2_with fail
  go_ret2
  exact ⟨rfl, HB.out⟩
set_option maxRecDepth 100000 in
set_option maxHeartbeats 4000000 in
theorem share_any (c : Cfg) (n nc M : Nat) (w : World) (ht : Tabs w) (hR : rightB c.b c.wd c.m c.r c.ce c.lg c.st = true) (hn : c.b * c.wd = (n : Int)) (hnc : c.ce = (nc : Int)) (hM : c.m = (M : Int)) (hM1 : 1 ≤ M) (hM8 : M ≤ 8) :
    Calls Tryz.prog 7 #[(.agg #[.int .i64 c.b, .int .i64 c.wd, .int .i64 c.m, .int .i64 c.r, .int .i64 c.ce, .int .i64 c.lg, .int .i64 c.st])] w fun e w' => ∃ y T, e = .returned (.tuple #[.pointer (some ⟨y.S, 0, none⟩), .int .i64 0]) ∧ ShIs w' y T (sd0 c n nc) M M ∧ (∀ k, T k → w.heap.size < k) ∧ w.heap.size < y.S ∧ (∀ g, rowB y.px g → w.heap.size < g) ∧ Below w.heap.size w w' := by
  have hA : Below w.heap.size w (w.alloc (.cells #[.int .i64 c.b, .int .i64 c.wd, .int .i64 c.m, .int .i64 c.r, .int .i64 c.ce, .int .i64 c.lg, .int .i64 c.st] 23)) := (Below.refl _ _).alloc (Nat.le_refl _) _
  have HN := Lib.hid (Hp.new_good c n nc _ (ht.later hA) hR hn hnc)
  have HA := Lib.hid hA
  have hzw : (w.alloc (.cells #[.int .i64 c.b, .int .i64 c.wd, .int .i64 c.m, .int .i64 c.r, .int .i64 c.ce, .int .i64 c.lg, .int .i64 c.st] 23)).heap.size = w.heap.size + 1 := by simp
  have HC0 : Hid ((w.alloc (.cells #[.int .i64 c.b, .int .i64 c.wd, .int .i64 c.m, .int .i64 c.r, .int .i64 c.ce, .int .i64 c.lg, .int .i64 c.st] 23)).cell? ⟨w.heap.size, 2, none⟩ = some (.int .i64 c.m)) := Lib.hid (by rw [World.cell?_alloc_new]; rfl)
  have HZW := Lib.hid hzw
  have HMM := Lib.hid (And.intro hM1 hM8)
  have HCM := Lib.hid hM
  clear hA ht hR hn hnc hzw hM hM1 hM8
  go_enter Tryz.func7, Tryz.ntmps7
  go_wp2_with (go_at_call 51; fail)
  refine HN.out.mono ?_
  rintro e w1 ⟨H, d, rfl, hIs, hmi, hb1⟩
  have HIS := Lib.hid hIs
  have HMI := Lib.hid hmi
  have HB1 := Lib.hid hb1
  have hcm := (hb1.cell (p := ⟨w.heap.size, 2, none⟩) (by show w.heap.size < _; rw [HZW.out]; omega)).trans HC0.out
  rw [HCM.out] at hcm
  have HCMC := Lib.hid hcm
  have hlw : w.heap.size < w1.heap.size := by have := hb1.size; rw [HZW.out] at this; omega
  have HNB := Lib.hid (Brd.new_good M (M : Int) rfl w1 HMM.out.1 HMM.out.2)
  clear hIs hmi hb1 HN
  go_wp2_with (go_at_call 52; fail)
  refine HNB.out.mono ?_
  rintro e w2 ⟨rfl, hbd, hb2, hz2⟩
  have HBD := Lib.hid hbd
  have HB2 := Lib.hid hb2
  have HZ2 := Lib.hid hz2
  have HNQ := Lib.hid (Qu.new_any w2)
  clear hbd hb2 hz2 HNB hcm
  go_wp2_with (go_at_call 53; fail)
  refine HNQ.out.mono ?_
  rintro e w3 ⟨rfl, hqu, hb3, hz3⟩
  have HQU := Lib.hid hqu
  have HB3 := Lib.hid hb3
  have HZ3 := Lib.hid hz3
  clear hqu hb3 hz3 HNQ
  obtain ⟨W5, hW5⟩ : ∃ W5, (w3.alloc (.cells #[.bool false] 88)).alloc (.cells #[.pointer (some ⟨H, 0, none⟩), .pointer (some ⟨w1.heap.size, 0, none⟩), .pointer (some ⟨w2.heap.size, 0, none⟩), .pointer (some ⟨w3.heap.size, 0, none⟩), .slice none 0 0] 54) = W5 := ⟨_, rfl⟩
  have hlp := LpI.start (w := w) (c := c) (n := n) (nc := nc) (M := M) (t1 := 88) (t2 := 54) HIS.out (fun k hk => by have := HMI.out k hk; rw [HZW.out] at this; omega) (HA.out.trans (HB1.out.mono HA.out.size)) hlw HBD.out HB2.out HZ2.out HQU.out HB3.out HZ3.out
  rw [hW5] at hlp
  have HLP := Lib.hid hlp
  have HCB : Hid (∀ V, Below w1.heap.size w1 V → V.cell? ⟨w.heap.size, 2, none⟩ = some (.int .i64 (M : Int))) := Lib.hid fun V hV => (hV.cell (p := ⟨w.heap.size, 2, none⟩) hlw).trans HCMC.out
  have hb15 : Below w1.heap.size w1 W5 := by
    rw [← hW5]
    have h3 : Below w1.heap.size w1 w3 := HB2.out.trans (HB3.out.mono HB2.out.size)
    exact (h3.alloc h3.size _).alloc (by have := h3.size; simp; omega) _
  have hcm5 := HCB.out W5 hb15
  have hl5 : w.heap.size < W5.heap.size := lt_of_cell hcm5
  clear hlp hb15 HIS HMI HB1 HBD HB2 HZ2 HQU HB3 HZ3
  go_wp2_with fail
  clear hW5 hcm5 hl5
  generalize w3.heap.size + 1 = SS at *
  go_loopw [31] (fun i wr => ∃ j : Nat, j ≤ M ∧ i = .int .i64 j ∧ ∃ y T, LpI w wr SS c n nc M j y T) (fun i _ => M - (intOf i).toNat)
  case atStart => exact ⟨0, Nat.zero_le _, rfl, _, _, HLP.out⟩
  case round =>
    clear HLP
    obtain ⟨j, hj, rfl, y, T, hlp⟩ := hrel
    have HLP := Lib.hid hlp
    clear hlp
    have j0 : (0 : Int) ≤ (j : Int) := by omega
    by_cases hlt : j < M
    · have j1 : (j : Int) < (M : Int) := by omega
      have j8 : (j : Int) ≤ 8 := by have := HMM.out.2; omega
      have c4 := HLP.out.sh.c4
      have f4 := HLP.out.fz
      rw [HLP.out.eS] at c4
      have hlS : SS < wr.heap.size := HLP.out.sh.tl _ HLP.out.tS
      have hsP := HLP.out.sP
      obtain ⟨i0, hinf, hz0, hz1, hz2⟩ := info_parts infoBx
      have HBX := Lib.hid (fun V => Lg.box_new V)
      have HD1 : Hid (Below wr.heap.size wr wr.drew) := Lib.hid (Below.refl _ _).drew
      have HAD := Lib.hid (fun w6 w3 p' cap' h1 h2 h3 h4 h5 h6 => LpI.add (w1 := w6) (w3 := w3) (p' := p') (cap' := cap') (o := .cells #[.pointer (some ⟨wr.heap.size, 0, none⟩)] 89) HLP.out h1 h2 h3 h4 h5 h6)
      have HOW : Hid (∀ V, Below wr.heap.size wr V → V.ownsRow w.heap.size 89 1 (.slice y.px j y.cx) j (bxV y.X j)) := Lib.hid fun V hV => owns_chg HLP.out.row (Chg.of_below (S := fun _ => False) hV) (fun _ _ e => e)
      have HWB : Hid (w.heap.size ≤ wr.heap.size) := Lib.hid HLP.out.bel.size
      have nO1 : j + 1 ≤ maxLen := by unfold maxLen; omega
      have nO2 : (j + 1) * 8 ≤ 140737488355328 := by omega
      clear HLP
      go_wp2_with fail
      go_region_law (first
        | (go_simp; go_at_call 54; refine (HBX.out _).mono ?_; rintro e w6 ⟨rfl, hbx, hb6, hz6⟩; have hb6' : Below wr.heap.size wr w6 := (by first | exact HD1.out.trans hb6 | exact hb6); have c46 := (hb6'.cell (p := ⟨SS, 4, none⟩) hlS).trans c4; have f46 := (hb6'.frozen (p := ⟨SS, 4, none⟩) hlS).trans f4; have hb6a : Below wr.heap.size wr (w6.alloc (.cells #[.pointer (some ⟨wr.heap.size, 0, none⟩)] 89)) := hb6'.alloc hb6'.size _; have c46a := (hb6a.cell (p := ⟨SS, 4, none⟩) hlS).trans c4; have HB6 := Lib.hid hb6'; have HB6A := Lib.hid hb6a; have HX6 := Lib.hid hbx; have HZ6 : Hid (w6.heap.size = wr.heap.size + 1) := Lib.hid hz6; clear hb6 hbx hz6 hb6' hb6a; try go_simp)
        | (refine step_append_own rfl (.tmp 37) (.tmp 39) 52 rfl w.heap.size 89 i0 (.pointer none) 1 8 Tryz.underlying52 hinf hz0 hz1 hz2 rfl (by decide) (.slice y.px j y.cx) j (bxV y.X j) rfl (HOW.out _ HB6A.out) ⟨w6.heap.size, 0, none⟩ 1 1 [.pointer (some ⟨wr.heap.size, 0, none⟩)] rfl rfl (one_at rfl) (by simp [Value.oneCell']) nO1 nO2 (Nat.le_trans HWB.out HB6A.out.size) ?_; intro v' w7 hown hgrow hat; obtain ⟨p', cap', rfl, hC, hR⟩ := push_row (Y := w6.alloc (.cells #[.pointer (some ⟨wr.heap.size, 0, none⟩)] 89)) (p := y.px) (cap := y.cx) (n := j) (Below.refl _ _) hown hgrow hat; have HNX := Lib.hid (HAD.out w6 w7 p' cap' HB6.out HZ6.out HX6.out hown hC hR); have c47 := (hC.cell (p := ⟨SS, 4, none⟩) (Nat.lt_of_lt_of_le hlS HB6A.out.size) hsP).trans c46a; have f47 := (hC.frozen (p := ⟨SS, 4, none⟩) (Nat.lt_of_lt_of_le hlS HB6A.out.size) hsP).trans ((HB6A.out.frozen (p := ⟨SS, 4, none⟩) hlS).trans f4); clear hown hgrow hat hC hR))
      all_goals (clear HAD HOW c4 f4 c46 c46a c47 f46 f47)
      all_goals (generalize w7.setCell ⟨SS, 4, none⟩ (.slice p' (j + 1) cap') = W8 at *)
      all_goals go_wp2_with fail
      all_goals go_roundw
      all_goals first
        | exact ⟨j + 1, by omega, by go_num, _, _, HNX.out⟩
        | (simp [intOf]; omega)
    · obtain rfl : j = M := by omega
      go_wp2_with fail
      go_ret2
      refine ⟨y, T, by rw [HLP.out.eS]; rfl, HLP.out.sh, HLP.out.ge, by rw [HLP.out.eS]; exact HLP.out.ge _ HLP.out.tS, fun g hg => HLP.out.ge _ (HLP.out.tP g hg), HLP.out.bel⟩
end Go.Proofs.YthpgnlcmpoldfaaGreatDoor.Mu
