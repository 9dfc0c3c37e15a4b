/-
  What a noter has, in memory: a heap, a buffer, a box, a flag, and boxes that stay.
-/
import Derived.Test.YtkfgchhlekdpgaaGreatDoorNtR
import Derived.Test.YtkfgchhlekdpgaaGreatDoorLogB
namespace Go.Proofs.YtkfgchhlekdpgaaGreatDoor.Nt
open Go.RowKit
open Hp (Ids St Is To Mine bnI coE coV colB)
open Lg (BfIs BxIs)
open Rf (paS paE paF)
open Go.Proofs.YtkfgchhlekdpgaaGreatDoor.Row (Chg rowB)
open Go.Proofs.YtkfgchhlekdpgaaGreatDoor.Addr (Tabs)

theorem lt_of_cell {w : World} {p : Addr} {v : Value} (h : w.cell? p = some v) : p.block < w.heap.size := World.block_lt_of_cell? w _ h
theorem bf_move {T T' S : Nat → Prop} {w w' : World} {B room : Nat} {xs : List Int} (h : BfIs T w B room xs) (hc : Chg S w w') (hS : ∀ k, S k → T k) (hB : ¬ S B) (hT : ∀ k, T' k → T k ∨ w.heap.size ≤ k) (hb : T' B) : BfIs T' w' B room xs := by
  have h2 := h.chg hc hS hB
  obtain ⟨p, cap, hr⟩ := h.row
  obtain ⟨p2, cap2, hr2⟩ := h2.row
  have e : Value.slice p xs.length cap = .slice p2 xs.length cap2 := Option.some.inj (((hc.cell (p := ⟨B, 0, none⟩) h.ltB hB).trans hr.c).symm.trans hr2.c)
  cases e
  exact ⟨h2.r1, h2.r2, h2.len, h2.c1, p, cap, hr2.len, hr2.c, hr2.f, hr2.rd, hr2.nc, hr2.le, fun g hg => ⟨fun e => (hT g e).elim (hr2.ap g hg).1 (fun e => by have := (hr.ap g hg).2; omega), (hr2.ap g hg).2⟩, hb⟩
theorem bx_move {T T' S : Nat → Prop} {w w' : World} {X : Nat} {ys : List Int} (h : BxIs T w X ys) (hc : Chg S w w') (hS : ∀ k, S k → T k) (hB : ¬ S X) (hT : ∀ k, T' k → T k ∨ w.heap.size ≤ k) (hb : T' X) : BxIs T' w' X ys := by
  obtain ⟨p, cap, hr⟩ := h
  have hr2 := hr.chg hc hS hB
  exact ⟨p, cap, hr2.len, hr2.c, hr2.f, hr2.rd, hr2.nc, hr2.le, fun g hg => ⟨fun e => (hT g e).elim (hr2.ap g hg).1 (fun e => by have := (hr.ap g hg).2; omega), (hr2.ap g hg).2⟩, hb⟩
/-- The blocks that a noter may turn. -/
def own (H : Nat) (d : Ids) (B X F : Nat) (k : Nat) : Prop := Mine H d k ∨ k = B ∨ k = X ∨ k = F
/-- A world to look back at, which of its blocks may have turned since, and blocks that rows keep away from. -/
structure Bas where
  w : World
  S : Nat → Prop
  E : Nat → Prop
/-- What a noter has. -/
structure Nb (w : Bas) (wr : World) (H : Nat) (d : Ids) (s : St) (m B X F N room : Nat) (xs ys : List Int) (up : Bool) (ex : List (Nat × Value)) : Prop where
  is : Is wr H d s m
  lg : ∃ T, BfIs T wr B room xs ∧ BxIs T wr X ys ∧ (∀ k, T k → k < wr.heap.size) ∧ ∀ k, own H d B X F k ∨ w.E k → T k
  ne : X ≠ B ∧ F ≠ B ∧ F ≠ X
  nm : ¬ Mine H d B ∧ ¬ Mine H d X ∧ ¬ Mine H d F
  fl : wr.cell? ⟨F, 0, none⟩ = some (.bool up)
  ff : wr.frozen? ⟨F, 0, none⟩ = false
  n0 : wr.cell? ⟨N, 0, none⟩ = some (.pointer (some ⟨H, 0, none⟩))
  n1 : wr.cell? ⟨N, 1, none⟩ = some (.pointer (some ⟨B, 0, none⟩))
  n2 : wr.cell? ⟨N, 2, none⟩ = some (.pointer (some ⟨X, 0, none⟩))
  n3 : wr.cell? ⟨N, 3, none⟩ = some (.pointer (some ⟨F, 0, none⟩))
  nN : ¬ own H d B X F N
  ex : ∀ p ∈ ex, wr.cell? ⟨p.1, 0, none⟩ = some p.2 ∧ ¬ own H d B X F p.1
  bel : Chg w.S w.w wr
  ge : ∀ k, own H d B X F k → w.S k ∨ w.w.heap.size ≤ k
  tb : Tabs w.w
  ap : ∀ k, own H d B X F k → ¬ w.E k
section
variable {w : Bas} {wr w' : World} {H : Nat} {d : Ids} {s : St} {m B X F N room : Nat} {xs ys : List Int} {up : Bool} {ex : List (Nat × Value)}
theorem Nb.later (h : Nb w wr H d s m B X F N room xs ys up ex) (hb : Below wr.heap.size wr w') : Nb w w' H d s m B X F N room xs ys up ex := by
  obtain ⟨T, t1, t2, t3, t4⟩ := h.lg
  have c : ∀ {b o v}, wr.cell? ⟨b, o, none⟩ = some v → w'.cell? ⟨b, o, none⟩ = some v := fun {b o v} e => (hb.cell (p := ⟨b, o, none⟩) (lt_of_cell e)).trans e
  exact ⟨h.is.later hb, ⟨T, t1.later hb, t2.later hb, fun k hk => Nat.lt_of_lt_of_le (t3 k hk) hb.size, t4⟩, h.ne, h.nm, c h.fl, (hb.frozen (p := ⟨F, 0, none⟩) (lt_of_cell h.fl)).trans h.ff, c h.n0, c h.n1, c h.n2, c h.n3, h.nN, fun p hp => ⟨c (h.ex p hp).1, (h.ex p hp).2⟩, h.bel.trans (Chg.of_below (S := fun _ => False) hb) (fun _ e => e.elim), h.ge, h.tb, h.ap⟩
/-- A box more that stays. -/
theorem Nb.box (h : Nb w wr H d s m B X F N room xs ys up ex) {b : Nat} {v : Value} (hc : wr.cell? ⟨b, 0, none⟩ = some v) (hn : ¬ own H d B X F b) : Nb w wr H d s m B X F N room xs ys up ((b, v) :: ex) :=
  ⟨h.is, h.lg, h.ne, h.nm, h.fl, h.ff, h.n0, h.n1, h.n2, h.n3, h.nN, fun p hp => by
    rcases List.mem_cons.1 hp with rfl | hp
    · exact ⟨hc, hn⟩
    · exact h.ex p hp, h.bel, h.ge, h.tb, h.ap⟩
/-- Looked back at from here. -/
theorem Nb.rebase (h : Nb w wr H d s m B X F N room xs ys up ex) (ht : Tabs wr) : Nb ⟨wr, own H d B X F, w.E⟩ wr H d s m B X F N room xs ys up ex :=
  ⟨h.is, h.lg, h.ne, h.nm, h.fl, h.ff, h.n0, h.n1, h.n2, h.n3, h.nN, h.ex, Chg.refl _ _, fun _ hk => .inl hk, ht, h.ap⟩
theorem Nb.less (h : Nb w wr H d s m B X F N room xs ys up ex) {ex' : List (Nat × Value)} (hs : ∀ p ∈ ex', p ∈ ex) : Nb w wr H d s m B X F N room xs ys up ex' :=
  ⟨h.is, h.lg, h.ne, h.nm, h.fl, h.ff, h.n0, h.n1, h.n2, h.n3, h.nN, fun p hp => h.ex p (hs p hp), h.bel, h.ge, h.tb, h.ap⟩
theorem Nb.lt (h : Nb w wr H d s m B X F N room xs ys up ex) {k : Nat} (hk : own H d B X F k) : k < wr.heap.size := by
  obtain ⟨T, t1, t2, t3, t4⟩ := h.lg
  exact t3 k (t4 k (.inl hk))
theorem Nb.not_new (h : Nb w wr H d s m B X F N room xs ys up ex) {k : Nat} (hk : wr.heap.size ≤ k) : ¬ own H d B X F k := fun e => by have := h.lt e; omega
/-- The heap goes on. -/
theorem Nb.heap {s' : St} {m' : Nat} (h : Nb w wr H d s m B X F N room xs ys up ex) (hT : To wr w' H d s' m') : ∃ d', Nb w w' H d' s' m' B X F N room xs ys up ex := by
  obtain ⟨d', g1, g2, g3⟩ := hT
  obtain ⟨T, t1, t2, t3, t4⟩ := h.lg
  have hown : ∀ k, own H d' B X F k → own H d B X F k ∨ wr.heap.size ≤ k := fun k hk => by
    rcases hk with hk | hk
    · exact (g3 k hk).imp .inl id
    · exact .inl (.inr hk)
  have nown : ∀ k, k < wr.heap.size → ¬ own H d B X F k → ¬ own H d' B X F k := fun k hk hn e => (hown k e).elim hn (fun e => by omega)
  have c : ∀ {b o v}, wr.cell? ⟨b, o, none⟩ = some v → ¬ Mine H d b → w'.cell? ⟨b, o, none⟩ = some v := fun {b o v} e hn => (g2.cell (p := ⟨b, o, none⟩) (lt_of_cell e) hn).trans e
  have hNm : ¬ Mine H d N := fun e => h.nN (.inl e)
  have hlB : B < wr.heap.size := h.lt (.inr (.inl rfl))
  have hlX : X < wr.heap.size := h.lt (.inr (.inr (.inl rfl)))
  have hlF : F < wr.heap.size := h.lt (.inr (.inr (.inr rfl)))
  have hS := g2.size
  have nm' : ∀ k, k < wr.heap.size → ¬ Mine H d k → ¬ Mine H d' k := fun k hk hn => To.not_mine g3 hn hk
  have tag : ∀ k, (T k ∨ (wr.heap.size ≤ k ∧ k < w'.heap.size)) → T k ∨ wr.heap.size ≤ k := fun k hk => hk.imp id (·.1)
  refine ⟨d', g1, ⟨fun k => T k ∨ (wr.heap.size ≤ k ∧ k < w'.heap.size), ?_, ?_, ?_, ?_⟩, h.ne, ⟨nm' B hlB h.nm.1, nm' X hlX h.nm.2.1, nm' F hlF h.nm.2.2⟩, c h.fl h.nm.2.2, (g2.frozen (p := ⟨F, 0, none⟩) hlF h.nm.2.2).trans h.ff, c h.n0 hNm, c h.n1 hNm, c h.n2 hNm, c h.n3 hNm, nown N (lt_of_cell h.n0) h.nN,
    fun p hp => ⟨c (h.ex p hp).1 (fun e => (h.ex p hp).2 (.inl e)), nown p.1 (lt_of_cell (h.ex p hp).1) (h.ex p hp).2⟩, h.bel.trans g2 (fun k hk => h.ge k (.inl hk)), fun k hk => ?_, h.tb, fun k hk he => (hown k hk).elim (fun e => h.ap k e he) (fun e => by have := t3 k (t4 k (.inr he)); omega)⟩
  · exact bf_move t1 g2 (fun k hk => t4 k (.inl (.inl hk))) h.nm.1 tag (.inl (t4 B (.inl (.inr (.inl rfl)))))
  · exact bx_move t2 g2 (fun k hk => t4 k (.inl (.inl hk))) h.nm.2.1 tag (.inl (t4 X (.inl (.inr (.inr (.inl rfl))))))
  · intro k hk
    rcases hk with hk | hk
    · exact Nat.lt_of_lt_of_le (t3 k hk) hS
    · exact hk.2
  · intro k hk
    rcases hk with hk | hk
    case inr => exact .inl (t4 k (.inr hk))
    rcases hown k hk with e | e
    · exact .inl (t4 k (.inl e))
    · refine .inr ⟨e, ?_⟩
      rcases hk with hk | rfl | rfl | rfl
      · exact g1.lt hk
      · omega
      · omega
      · omega
  · rcases hown k hk with e | e
    · exact h.ge k e
    · exact .inr (by have := h.bel.size; omega)
/-- Buffer and box go on. -/
theorem Nb.log {xs' ys' : List Int} (h : Nb w wr H d s m B X F N room xs ys up ex) (hC : Chg (fun k => k = B ∨ k = X) wr w')
    {T : Nat → Prop} (t3 : ∀ k, T k → k < wr.heap.size) (t4 : ∀ k, own H d B X F k ∨ w.E k → T k) (t1 : BfIs T w' B room xs') (t2 : BxIs T w' X ys') : Nb w w' H d s m B X F N room xs' ys' up ex := by
  have c : ∀ {b o v}, wr.cell? ⟨b, o, none⟩ = some v → ¬ (b = B ∨ b = X) → w'.cell? ⟨b, o, none⟩ = some v := fun {b o v} e hn => (hC.cell (p := ⟨b, o, none⟩) (lt_of_cell e) hn).trans e
  have hNx : ¬ (N = B ∨ N = X) := fun e => h.nN (.inr (e.elim .inl (fun e => .inr (.inl e))))
  have hFx : ¬ (F = B ∨ F = X) := fun e => e.elim h.ne.2.1 h.ne.2.2
  have hlF : F < wr.heap.size := h.lt (.inr (.inr (.inr rfl)))
  refine ⟨h.is.chg hC (fun k hk e => ?_), ⟨T, t1, t2, fun k hk => Nat.lt_of_lt_of_le (t3 k hk) hC.size, t4⟩, h.ne, h.nm, c h.fl hFx, (hC.frozen (p := ⟨F, 0, none⟩) hlF hFx).trans h.ff, c h.n0 hNx, c h.n1 hNx, c h.n2 hNx, c h.n3 hNx, h.nN,
    fun p hp => ⟨c (h.ex p hp).1 (fun e => (h.ex p hp).2 (.inr (e.elim .inl (fun e => .inr (.inl e))))), (h.ex p hp).2⟩, h.bel.trans hC (fun k hk => h.ge k (.inr (hk.elim .inl (fun e => .inr (.inl e))))), h.ge, h.tb, h.ap⟩
  rcases e with rfl | rfl
  · exact h.nm.1 hk
  · exact h.nm.2.1 hk
/-- The flag turns. -/
theorem Nb.flag (h : Nb w wr H d s m B X F N room xs ys up ex) (b : Bool) : Nb w (wr.setCell ⟨F, 0, none⟩ (.bool b)) H d s m B X F N room xs ys b ex := by
  obtain ⟨T, t1, t2, t3, t4⟩ := h.lg
  have hC : Chg (fun k => k = F) wr (wr.setCell ⟨F, 0, none⟩ (.bool b)) := (Chg.refl (fun k => k = F) wr).set (p := ⟨F, 0, none⟩) (.inl rfl) _
  have c : ∀ {x o v}, wr.cell? ⟨x, o, none⟩ = some v → ¬ x = F → (wr.setCell ⟨F, 0, none⟩ (.bool b)).cell? ⟨x, o, none⟩ = some v := fun {x o v} e hn => (hC.cell (p := ⟨x, o, none⟩) (lt_of_cell e) hn).trans e
  have hNx : ¬ N = F := fun e => h.nN (.inr (.inr (.inr e)))
  refine ⟨h.is.chg hC (fun k hk e => ?_), ⟨T, t1.chg hC (fun k hk => hk ▸ t4 F (.inl (.inr (.inr (.inr rfl))))) (fun e => h.ne.2.1 e.symm), t2.chg hC (fun k hk => hk ▸ t4 F (.inl (.inr (.inr (.inr rfl))))) (fun e => h.ne.2.2 e.symm), fun k hk => Nat.lt_of_lt_of_le (t3 k hk) hC.size, t4⟩, h.ne, h.nm, Row.same h.fl, ?_, c h.n0 hNx, c h.n1 hNx, c h.n2 hNx, c h.n3 hNx, h.nN,
    fun p hp => ⟨c (h.ex p hp).1 (fun e => (h.ex p hp).2 (.inr (.inr (.inr e)))), (h.ex p hp).2⟩, h.bel.trans hC (fun k hk => h.ge k (.inr (.inr (.inr hk)))), h.ge, h.tb, h.ap⟩
  · subst e; exact h.nm.2.2 hk
  · rw [show (wr.setCell ⟨F, 0, none⟩ (.bool b)).frozen? ⟨F, 0, none⟩ = wr.frozen? ⟨F, 0, none⟩ by simp]; exact h.ff
end
end Go.Proofs.YtkfgchhlekdpgaaGreatDoor.Nt
