/-
  Lists beside a row of a table's slots, and a row of what was put.
-/
import Derived.Test.YtooojajagkbhiaaDoorLisM
namespace Go.Proofs.YtooojajagkbhiaaDoor.Lis
open Go.RowKit
open Class (sizI)
open Blk (Cfg TbIs ownB blk kAt rowB kL cellsK cellsF adr perN)
open Go.Proofs.YtooojajagkbhiaaDoor.Row (Chg push_row)
open Go.Proofs.YtooojajagkbhiaaDoor.Addr (Tabs)

theorem Bun.chg {S : Nat} {w wr w' : World} {L A G T I J n base : Nat} {ps : Nat → Option Addr} {hv : Nat → List Nat} {m bt : Nat} {c : Cfg} {ks : List Nat} {pt : Option Addr} {capT : Nat} {K U : Nat → Prop} (h : Bun S w wr L A G T I J n base ps hv m bt c ks pt capT K) (hS : S ≤ w.heap.size)
    (hc : Chg U wr w') (hU : ∀ k, U k → K k ∧ k ≠ T ∧ ¬ rowB pt k ∧ S ≤ k) : Bun S w w' L A G T I J n base ps hv m bt c ks pt capT K :=
  ⟨h.has.chg hc (fun k hk e => (h.av k hk).1 (hU k e).1), h.tb.kept (hc.block T h.tb.ltB (fun e => (hU T e).2.1 rfl)) (fun g hg => hc.block g (h.tb.ltG hg).2 (fun e => (hU g e).2.2.1 hg)), h.av, h.kT, h.kR, fun j hj => Nat.lt_of_lt_of_le (h.kl j hj) hc.size, h.bel.trans (hc.below (fun k e => (hU k e).2.2.2) (Nat.le_trans hS h.bel.size))⟩

/-- What is left alone: the table, its row, a row of slots, a row of what was put. -/
def KK (T : Nat) (pt pq ph : Option Addr) (g : Nat) : Prop := g = T ∨ rowB pt g ∨ rowB pq g ∨ rowB ph g
/-- Lists beside a row of a table's slots, and a row of what was put. -/
structure La (S : Nat) (w wr : World) (L A G T I J n base : Nat) (ps : Nat → Option Addr) (hv : Nat → List Nat) (m bt : Nat) (c : Cfg) (ks : List Nat) (pt : Option Addr) (capT : Nat) (pq : Option Addr) (N cq : Nat) (H : List Nat) (ph : Option Addr) (ch : Nat) : Prop where
  bun : Bun S w wr L A G T I J n base ps hv m bt c ks pt capT (KK T pt pq ph)
  sl : wr.ownsRow S 3 1 (.slice pq N cq) N (cellsF (adr c 0 0) N)
  hr : wr.ownsRow S 3 1 (.slice ph H.length ch) H.length (cellsK H)
  ap : ∀ g, rowB ph g → g ≠ T ∧ ¬ rowB pt g ∧ ¬ rowB pq g
section
variable {S : Nat} {w wr w' : World} {L A G T I J n base : Nat} {ps : Nat → Option Addr} {hv : Nat → List Nat} {m bt : Nat} {c : Cfg} {ks : List Nat} {pt : Option Addr} {capT : Nat} {pq : Option Addr} {N cq : Nat} {H : List Nat} {ph : Option Addr} {ch : Nat}
theorem La.step (h : La S w wr L A G T I J n base ps hv m bt c ks pt capT pq N cq H ph ch) {ps' : Nat → Option Addr} {hv' : Nat → List Nat} {m' : Nat} (hb : Bun S w w' L A G T I J n base ps' hv' m' bt c ks pt capT (KK T pt pq ph)) (hc : Chg (Own L A G I J ps) wr w') :
    La S w w' L A G T I J n base ps' hv' m' bt c ks pt capT pq N cq H ph ch :=
  ⟨hb, Row.owns_chg h.sl hc (fun g hg e => (h.bun.av g e).1 (.inr (.inr (.inl hg)))), Row.owns_chg h.hr hc (fun g hg e => (h.bun.av g e).1 (.inr (.inr (.inr hg)))), h.ap⟩
theorem La.later (h : La S w wr L A G T I J n base ps hv m bt c ks pt capT pq N cq H ph ch) (hS : S ≤ w.heap.size) (hb : Below wr.heap.size wr w') : La S w w' L A G T I J n base ps hv m bt c ks pt capT pq N cq H ph ch :=
  h.step (h.bun.later hS hb) (Chg.of_below hb)
theorem La.push {w3 : World} {a : Nat} {v' : Value} (h : La S w wr L A G T I J n base ps hv m bt c ks pt capT pq N cq H ph ch) (hS : S ≤ w.heap.size)
    (hown : w3.ownsRow S 3 1 v' (H.length + 1) (cellsK H ++ [.int .i64 (a : Nat)])) (hg : (wr.alloc (.cells #[.int .i64 (a : Nat)] 3)).grownBy w3 (Value.slice ph H.length ch).ownBlock)
    (hat : v'.ownBlock = (Value.slice ph H.length ch).ownBlock ∨ v'.ownBlock = some (wr.alloc (.cells #[.int .i64 (a : Nat)] 3)).heap.size) :
    ∃ ph' ch', v' = .slice ph' (H ++ [a]).length ch' ∧ La S w w3 L A G T I J n base ps hv m bt c ks pt capT pq N cq (H ++ [a]) ph' ch' := by
  obtain ⟨ph', ch', rfl, hC, hR⟩ := push_row ((Below.refl _ wr).alloc (Nat.le_refl _) _) hown hg hat
  have hlen : (H ++ [a]).length = H.length + 1 := by simp
  have hx : cellsK H ++ [.int .i64 (a : Nat)] = cellsK (H ++ [a]) := by simp [cellsK]
  have hB := h.bun.chg hS hC (fun k hk => ⟨.inr (.inr (.inr hk)), (h.ap k hk).1, (h.ap k hk).2.1, (Row.owns_lt h.hr hk).1⟩)
  have hap : ∀ g, rowB ph' g → g ≠ T ∧ ¬ rowB pt g ∧ ¬ rowB pq g := fun g hg => (hR g hg).elim (h.ap g) (fun e => ⟨fun e2 => by have := h.bun.tb.ltB; omega, fun e2 => by have := (h.bun.tb.ltG e2).2; omega, fun e2 => by have := (Row.owns_lt h.sl e2).2; omega⟩)
  refine ⟨ph', ch', by rw [hlen], ⟨hB.keep (.inl rfl) (fun g hg => .inr (.inl hg)) (fun j hj => ?_) (fun j hj => ?_), Row.owns_chg h.sl hC (fun g hg e => (h.ap g e).2.2 hg), by rw [hlen, ← hx]; exact hown, hap⟩⟩
  · rcases hj with e | e | e | e
    · exact .inl (.inl e)
    · exact .inl (.inr (.inl e))
    · exact .inl (.inr (.inr (.inl e)))
    · exact (hR j e).elim (fun e => .inl (.inr (.inr (.inr e)))) (fun e => .inr (fun ho => by have := h.bun.has.lt ho; omega))
  · rcases hj with e | e | e | e
    · exact hB.kl j (.inl e)
    · exact hB.kl j (.inr (.inl e))
    · exact hB.kl j (.inr (.inr (.inl e)))
    · exact (Row.owns_lt hown e).2
end
theorem put_no_bun {S : Nat} {w wr : World} {L A G T I J n base : Nat} {ps : Nat → Option Addr} {hv : Nat → List Nat} {m bt : Nat} {c : Cfg} {ks : List Nat} {pt : Option Addr} {capT : Nat} {K : Nat → Prop} (h : Bun S w wr L A G T I J n base ps hv m bt c ks pt capT K) (htt : Tabs wr) (hR : rightB c.b c.wd c.m c.r c.ce c.lg c.st = true)
    (z : Int) (a k : Nat) (hz : z = (a : Int)) (ho : ownB c ks a = true) (hk : k < 4) (hm : a ∈ hv k) (hn : c.b * c.wd = (n : Int)) :
    Calls Tryd.prog 12 #[.pointer (some ⟨L, 0, none⟩), .int .i64 z] wr fun e w' => e = .returned (.int .i64 11) ∧ Below wr.heap.size wr w' := by
  subst hz
  exact put_twice wr h.has h.tb htt hR a ho hn hk hm
theorem take_bun {S : Nat} {w wr : World} {L A G T I J n base : Nat} {ps : Nat → Option Addr} {hv : Nat → List Nat} {m bt : Nat} {c : Cfg} {ks : List Nat} {pt : Option Addr} {capT : Nat} {K : Nat → Prop} (h : Bun S w wr L A G T I J n base ps hv m bt c ks pt capT K) (hS : S ≤ w.heap.size) (z : Int) (k a : Nat) (l : List Nat) (hz : z = (k : Int)) (hk : k < 4) (he : hv k = a :: l) :
    Calls Tryd.prog 9 #[.pointer (some ⟨L, 0, none⟩), .int .i64 z] wr fun e w' => e = .returned (.tuple #[.int .i64 a, .int .i64 0]) ∧ ∃ ps', Bun S w w' L A G T I J n base ps' (upd hv k l) m bt c ks pt capT K ∧ Chg (Own L A G I J ps) wr w' := by
  subst hz
  refine (take_held wr h.has k a l hk he).mono ?_
  rintro e w' ⟨rfl, ps', hh, hc, ho'⟩
  exact ⟨rfl, ps', h.step hS hh hc ho', hc⟩
theorem len_z {L A G T I J n m baseL : Nat} {ps : Nat → Option Addr} {hv : Nat → List Nat} (w : World) (h : HasL w L A G T I J n baseL ps hv m) (z : Int) (k q : Nat) (hz : z = (k : Int)) (hk : k < 4) (hq : (hv k).length = q) :
    Calls Tryd.prog 17 #[.pointer (some ⟨L, 0, none⟩), .int .i64 z] w fun e w' => e = .returned (.int .i64 (q : Nat)) ∧ Below w.heap.size w w' := by
  subst hz hq
  exact len_held w h k hk
theorem first_z {L A G T I J n m baseL : Nat} {ps : Nat → Option Addr} {hv : Nat → List Nat} (w : World) (h : HasL w L A G T I J n baseL ps hv m) (z : Int) (k q : Nat) (hz : z = (k : Int)) (hk : k < 4) (hq : (hv k).headD 0 = q) :
    Calls Tryd.prog 20 #[.pointer (some ⟨L, 0, none⟩), .int .i64 z] w fun e w' => e = .returned (.int .i64 (q : Nat)) ∧ Below w.heap.size w w' := by
  subst hz hq
  exact first_held w h k hk
/-- A slot of the first block, by its place. -/
theorem adr_nat (c : Cfg) {N j : Nat} (hR : rightB c.b c.wd c.m c.r c.ce c.lg c.st = true) (hb : 0 < c.b) (hN : N = perN c 0) (hj : j < N) : ∃ a : Nat, adr c 0 0 j = (a : Int) := by
  subst hN
  have h1 := (Blk.adr_bd (c := c) (k := ((0 : Nat) : Int)) (b := 0) (i := j) hR (by omega) (by rw [Blk.perN_eq]; exact Int.ofNat_lt.2 hj))
  obtain ⟨⟨p0, p1⟩, p2, p3, p4, p5⟩ := h1
  refine ⟨(adr c 0 0 j).toNat, ?_⟩
  have : 0 ≤ adr c 0 0 j := by unfold adr; omega
  omega
theorem own_first {c : Cfg} {ks : List Nat} {N j a : Nat} (hR : rightB c.b c.wd c.m c.r c.ce c.lg c.st = true) (hb : 0 < c.b) (hl : 0 < ks.length) (hk : kAt ks 0 = 0) (hN : N = perN c 0) (hj : j < N) (ha : adr c 0 0 j = (a : Int)) : ownB c ks (a : Int) = true ∧ kAt ks (blk c (a : Int)) = 0 := by
  have h := own_adr2 (c := c) (ks := ks) (b := 0) (i := j) hR hl (by omega) (by rw [hk]; decide) (by rw [hk, ← hN]; exact hj)
  rw [hk, ha] at h
  exact ⟨h.1, by rw [h.2]; exact hk⟩
end Go.Proofs.YtooojajagkbhiaaDoor.Lis
