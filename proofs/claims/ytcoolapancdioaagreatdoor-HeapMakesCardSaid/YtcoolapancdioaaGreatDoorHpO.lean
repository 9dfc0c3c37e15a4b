/-
  What Make leaves, whatever it tells.
-/
import Derived.Test.YtcoolapancdioaaGreatDoorHpN
import Derived.Test.YtcoolapancdioaaGreatDoorHpF
namespace Go.Proofs.YtcoolapancdioaaGreatDoor.Hp
open Go.RowKit
open Blk (Cfg BoxIs)
open Go.Proofs.YtcoolapancdioaaGreatDoor.Row (Chg)
open Go.Proofs.YtcoolapancdioaaGreatDoor.Addr (Tabs)

theorem puL_ce (s : St) (l : List Nat) : (puL s l).ce = s.ce ∧ (puL s l).bs = s.bs ∧ (puL s l).os = s.os := by
  induction l generalizing s with
  | nil => exact ⟨rfl, rfl, rfl⟩
  | cons a l ih => exact ih (puS s a)
theorem rmS_rest (s : St) (k : Nat) : (rmS s k).c = s.c ∧ (rmS s k).ce = s.ce ∧ (rmS s k).ws.length = s.ws.length ∧ (rmS s k).bs = s.bs ∧ (rmS s k).os = s.os := by
  unfold rmS
  split
  · exact ⟨rfl, rfl, rfl, rfl, rfl⟩
  · obtain ⟨p1, p2, p3⟩ := puL_c (asS s k) ((tl s k).reverse.take (tl s k).length)
    obtain ⟨q1, q2, q3⟩ := puL_ce (asS s k) ((tl s k).reverse.take (tl s k).length)
    exact ⟨p1, q1, p3, q2, q3⟩
theorem mkS_rest (s : St) (n c : Int) : (mkS s n c).c = s.c ∧ (mkS s n c).ce = s.ce ∧ (mkS s n c).ws.length = s.ws.length := by
  obtain ⟨h1, h2, h3, h4, h5⟩ := rmS_rest s (Class.clsI n).toNat
  obtain ⟨z1, z2, z3, z4, z5, z6, z7⟩ := zr_rest (mk2 s n) (mkA s n) n.toNat
  refine ⟨z1.trans h1, z6.trans h2, z7.trans ?_⟩
  show ((rmS s (Class.clsI n).toNat).ws.set _ _).length = _
  rw [List.length_set]; exact h3
theorem make_some {H : Nat} {d : Ids} {s : St} {m : Nat} (n c : Int) (w : World) (h : Is w H d s m) (ht : Tabs w) (hm : m < 700000) :
    Calls Tryz.prog 27 #[.pointer (some ⟨H, 0, none⟩), .int .i64 n, .int .i64 c] w fun e w' => (∃ v, e = .returned v) ∧ ∃ s', s'.c = s.c ∧ s'.ce = s.ce ∧ s'.ws.length = s.ws.length ∧ To w w' H d s' (m + 160) := by
  by_cases he : mkE s n c = 0
  · refine (make_good n c w h ht hm he).mono ?_
    rintro e w' ⟨rfl, hT⟩
    obtain ⟨h1, h2, h3⟩ := mkS_rest s n c
    exact ⟨⟨_, rfl⟩, _, h1, h2, h3, hT⟩
  · refine (make_bad n c w h ht (by omega) he).mono ?_
    rintro e w' ⟨rfl, hT⟩
    exact ⟨⟨_, rfl⟩, _, rfl, rfl, rfl, hT⟩

/-- A heap above what lay, beside a config in its box. -/
structure Ce (w wr : World) (H : Nat) (dd : Ids) (s : St) (m : Nat) (d : Cfg) (n nc : Nat) : Prop where
  is : Is wr H dd s m
  hc : s.c = d
  hn : s.ws.length = n
  hl : s.ce.length = nc
  box : BoxIs wr w.heap.size d
  ge : ∀ k, Mine H dd k → w.heap.size < k
  bel : Below w.heap.size w wr
theorem Ce.step {w wr w' : World} {H : Nat} {dd : Ids} {s s' : St} {m m' : Nat} {d : Cfg} {n nc : Nat} (h : Ce w wr H dd s m d n nc) (hT : To wr w' H dd s' m') (h1 : s'.c = s.c) (h2 : s'.ce.length = s.ce.length) (h3 : s'.ws.length = s.ws.length) :
    ∃ dd', Ce w w' H dd' s' m' d n nc ∧ Chg (Mine H dd) wr w' ∧ ∀ j, Mine H dd' j → Mine H dd j ∨ wr.heap.size ≤ j := by
  obtain ⟨d', g1, g2, g3⟩ := hT
  have hb : Below (w.heap.size + 1) wr w' := g2.below (fun k hk => h.ge k hk) (by have := h.box.lt; omega)
  exact ⟨d', ⟨g1, h1.trans h.hc, h3.trans h.hn, h2.trans h.hl, h.box.below hb (Nat.lt_succ_self _), fun k hk => (g3 k hk).elim (h.ge k) (fun e => by have := h.box.lt; omega), h.bel.trans (hb.mono (Nat.le_succ _))⟩, g2, g3⟩
theorem Ce.tabs {w wr : World} {H : Nat} {dd : Ids} {s : St} {m : Nat} {d : Cfg} {n nc : Nat} (h : Ce w wr H dd s m d n nc) (ht : Tabs w) : Tabs wr := ht.later h.bel
/-- A row beside it. -/
structure Rw (wr : World) (H : Nat) (dd : Ids) (Rb : Nat) (rc : List Int) : Prop where
  at_ : ∀ t, t < rc.length → wr.cell? ⟨Rb, t, none⟩ = some (.int .i64 (rc.getD t 0))
  fz : ∀ t, t < rc.length → wr.frozen? ⟨Rb, t, none⟩ = false
  no : ¬ Mine H dd Rb
  lt : Rb < wr.heap.size
theorem Rw.step {wr w' : World} {H : Nat} {dd dd' : Ids} {Rb : Nat} {rc : List Int} (h : Rw wr H dd Rb rc) (hc : Chg (Mine H dd) wr w') (hR : ∀ j, Mine H dd' j → Mine H dd j ∨ wr.heap.size ≤ j) : Rw w' H dd' Rb rc :=
  ⟨fun t ht => (hc.cell (p := ⟨Rb, t, none⟩) h.lt h.no).trans (h.at_ t ht), fun t ht => (hc.frozen (p := ⟨Rb, t, none⟩) h.lt h.no).trans (h.fz t ht), fun e => (hR _ e).elim h.no (fun e => by have := h.lt; omega), Nat.lt_of_lt_of_le h.lt hc.size⟩
theorem Rw.lay {wr : World} {H : Nat} {dd : Ids} {Rb : Nat} {rc : List Int} (h : Rw wr H dd Rb rc) {t : Nat} (ht : t < rc.length) (v : Int) : Rw (wr.setCell ⟨Rb, t, none⟩ (.int .i64 v)) H dd Rb (rc.set t v) := by
  refine ⟨fun j hj => ?_, fun j hj => ?_, h.no, by rw [Row.size_setCell]; exact h.lt⟩
  · rw [List.length_set] at hj
    by_cases e : j = t
    · subst e
      rw [Row.same (h.at_ j hj)]
      simp [List.getD_eq_getElem?_getD, hj]
    · rw [Row.other (by first | (simp; done) | (simp; omega)), h.at_ j hj]
      simp [List.getD_eq_getElem?_getD, List.getElem?_set, Ne.symm e]
  · rw [List.length_set] at hj
    rw [World.frozen?_setCell]; exact h.fz j hj
theorem Ce.laid {w wr : World} {H : Nat} {dd : Ids} {s : St} {m : Nat} {d : Cfg} {n nc : Nat} (h : Ce w wr H dd s m d n nc) {p : Addr} (hp : ¬ Mine H dd p.block) (hw : w.heap.size < p.block) (v : Value) : Ce w (wr.setCell p v) H dd s m d n nc :=
  have hb : Below (w.heap.size + 1) wr (wr.setCell p v) := (Below.refl _ _).setCell (by omega) _
  ⟨h.is.kept (fun k hk => Lis.heap_set (fun e => hp (e ▸ hk))) (by rw [Row.size_setCell]; exact Nat.le_refl _), h.hc, h.hn, h.hl, h.box.below hb (Nat.lt_succ_self _), h.ge, h.bel.trans (hb.mono (Nat.le_succ _))⟩
/-- The law's start: a new heap beside the config's box. -/
theorem Ce.start {w w1 w2 : World} {H : Nat} {dd : Ids} {d : Cfg} {n nc : Nat} (hb1 : Below w.heap.size w w1) (hbox : BoxIs w1 w.heap.size d) (hI : Is w2 H dd (st0 d n nc) 0) (hM : ∀ k, Mine H dd k → w1.heap.size ≤ k) (hb2 : Below w1.heap.size w1 w2) : Ce w w2 H dd (st0 d n nc) 0 d n nc :=
  ⟨hI, rfl, by show (List.replicate n 0 : List Nat).length = n; simp, by show (List.replicate nc (0 : Int)).length = nc; simp, hbox.later hb2, fun k hk => by have := hM k hk; have := hbox.lt; omega, hb1.trans (hb2.mono hb1.size)⟩
theorem Ce.later {w wr w' : World} {H : Nat} {dd : Ids} {s : St} {m : Nat} {d : Cfg} {n nc : Nat} (h : Ce w wr H dd s m d n nc) (hb : Below wr.heap.size wr w') : Ce w w' H dd s m d n nc :=
  ⟨h.is.later hb, h.hc, h.hn, h.hl, h.box.later hb, h.ge, h.bel.trans (hb.mono h.bel.size)⟩
end Go.Proofs.YtcoolapancdioaaGreatDoor.Hp
