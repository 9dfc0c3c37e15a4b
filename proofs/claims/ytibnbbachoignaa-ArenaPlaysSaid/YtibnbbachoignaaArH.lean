/-
  What the law ArenaPlays keeps: an arena and the law's own words beside it.
-/
import Derived.Test.YtibnbbachoignaaArF
import Derived.Test.YtibnbbachoignaaArG
namespace Go.Proofs.Ytibnbbachoignaa.Arena
open Go.RowKit

theorem ArIs.two {B G : Nat} {w w' : World} {C H cap : Nat} {ws : List Nat} {ld st : Nat} (h : ArIs w C H cap ws ld st) (t : Two B G w w') (hH : H < w.heap.size) (h1 : C ≠ B) (h2 : C ≠ G) (h3 : H ≠ B) (h4 : H ≠ G) : ArIs w' C H cap ws ld st :=
  have hC := h.ltB
  ⟨h.small, h.capn, h.ne, (t.cell (p := ⟨C, 0, none⟩) hC h1 h2).trans h.cw, (t.cell (p := ⟨C, 1, none⟩) hC h1 h2).trans h.cl, (t.cell (p := ⟨C, 2, none⟩) hC h1 h2).trans h.cs, (t.frozen (p := ⟨C, 1, none⟩) hC h1 h2).trans h.f1, (t.frozen (p := ⟨C, 2, none⟩) hC h1 h2).trans h.f2,
    fun j hj => (t.cell (p := ⟨H, j, none⟩) hH h3 h4).trans (h.at_ j hj), fun j hj => (t.frozen (p := ⟨H, j, none⟩) hH h3 h4).trans (h.fz j hj)⟩
theorem WordsAt.two {B G : Nat} {w w' : World} {R cap : Nat} {ws : List Nat} (h : WordsAt w R cap ws) (t : Two B G w w') (hR : R < w.heap.size) (h1 : R ≠ B) (h2 : R ≠ G) : WordsAt w' R cap ws :=
  ⟨h.capn, fun j hj => (t.cell (p := ⟨R, j, none⟩) hR h1 h2).trans (h.at_ j hj), fun j hj => (t.frozen (p := ⟨R, j, none⟩) hR h1 h2).trans (h.fz j hj)⟩
theorem WordsAt.below {N : Nat} {w w' : World} {R cap : Nat} {ws : List Nat} (h : WordsAt w R cap ws) (hb : Below N w w') (hR : R < N) : WordsAt w' R cap ws :=
  ⟨h.capn, fun j hj => (hb.cell (p := ⟨R, j, none⟩) hR).trans (h.at_ j hj), fun j hj => (hb.frozen (p := ⟨R, j, none⟩) hR).trans (h.fz j hj)⟩
theorem WordsAt.put {w : World} {R cap : Nat} {ws : List Nat} (h : WordsAt w R cap ws) {k : Nat} (hk : k < ws.length) (v : Nat) : WordsAt (w.setCell ⟨R, k, none⟩ (.int .u64 v)) R cap (ws.set k v) := by
  have hl : (ws.set k v).length = ws.length := by simp
  refine ⟨by rw [hl]; exact h.capn, fun j hj => ?_, fun j hj => ?_⟩
  · rw [hl] at hj
    rw [wd_set]
    by_cases e : k = j
    · subst e
      rw [if_pos ⟨rfl, hj⟩]
      exact same (h.at_ _ hj)
    · rw [if_neg (fun x => e x.1), other (by first | (simp; done) | (simp; omega))]
      exact h.at_ j hj
  · rw [hl] at hj
    rw [World.frozen?_setCell]
    exact h.fz j hj
theorem ArIs.aside {w : World} {B G cap : Nat} {ws : List Nat} {ld st : Nat} (h : ArIs w B G cap ws ld st) {R k : Nat} (v : Value) (h1 : R ≠ B) (h2 : R ≠ G) : ArIs (w.setCell ⟨R, k, none⟩ v) B G cap ws ld st :=
  ⟨h.small, h.capn, h.ne, by rw [other (by first | (simp; done) | (simp; omega))]; exact h.cw, by rw [other (by first | (simp; done) | (simp; omega))]; exact h.cl, by rw [other (by first | (simp; done) | (simp; omega))]; exact h.cs, by rw [World.frozen?_setCell]; exact h.f1, by rw [World.frozen?_setCell]; exact h.f2,
    fun j hj => by rw [other (by first | (simp; done) | (simp; omega))]; exact h.at_ j hj, fun j hj => by rw [World.frozen?_setCell]; exact h.fz j hj⟩

/-- A row of what is stored and loaded that came in, below S. -/
def WordsP (S : Nat) (W : World) (p : Option Addr) (l : List (Int × Nat × Bool)) : Prop := ∀ j, j < l.length → ∃ b off, p = some ⟨b, off, none⟩ ∧ b < S ∧
  W.cell? ⟨b, off + j * 3, none⟩ = some (.int .i64 (l[j]?.getD (0, 0, false)).1) ∧ W.cell? ⟨b, off + j * 3 + 1, none⟩ = some (.int .u64 (l[j]?.getD (0, 0, false)).2.1) ∧ W.cell? ⟨b, off + j * 3 + 2, none⟩ = some (.bool (l[j]?.getD (0, 0, false)).2.2)
theorem WordsP.below {S : Nat} {W W' : World} {p : Option Addr} {l : List (Int × Nat × Bool)} (h : WordsP S W p l) (hb : Below S W W') : WordsP S W' p l := fun j hj => by
  obtain ⟨b, off, e, hb', h1, h2, h3⟩ := h j hj
  exact ⟨b, off, e, hb', (hb.cell (p := ⟨b, _, none⟩) hb').trans h1, (hb.cell (p := ⟨b, _, none⟩) hb').trans h2, (hb.cell (p := ⟨b, _, none⟩) hb').trans h3⟩

/-- An arena and the law's words, above what lay. -/
structure Play (S : Nat) (w wr : World) (B G R n ld st : Nat) : Prop where
  both : ∃ ws, ws.length = n ∧ ArIs wr B G n ws ld st ∧ WordsAt wr R n ws
  bel : Below S w wr
  hG : G < wr.heap.size
  hR : R < wr.heap.size
  b1 : S ≤ B
  b2 : S ≤ G
  b3 : S ≤ R
  n1 : R ≠ B
  n2 : R ≠ G
/-- .. behind an element's own block. -/
theorem Play.alloc {S : Nat} {w wr : World} {B G R n ld st : Nat} (h : Play S w wr B G R n ld st) (hS : S ≤ w.heap.size) (o : Obj) : Play S w (wr.alloc o) B G R n ld st := by
  obtain ⟨ws, h1, h2, h3⟩ := h.both
  have hb := (Below.refl _ wr).alloc (Nat.le_refl _) o
  exact ⟨⟨ws, h1, h2.below hb h2.ltB h.hG, h3.below hb h.hR⟩, h.bel.trans (hb.mono (Nat.le_trans hS h.bel.size)), Nat.lt_of_lt_of_le h.hG hb.size, Nat.lt_of_lt_of_le h.hR hb.size, h.b1, h.b2, h.b3, h.n1, h.n2⟩
theorem Play.store_bad {S : Nat} {w wr : World} {B G R n ld st : Nat} (h : Play S w wr B G R n ld st) (hS : S ≤ w.heap.size) (hst : st < 1000000) (a : Int) (x : Nat) (c : Int) (hc : codeN n a = c) (h0 : c ≠ 0) :
    Calls Try.prog 10 #[.pointer (some ⟨B, 0, none⟩), .int .i64 a, .int .u64 x] wr fun e w' => e = .returned (.int .i64 c) ∧ Play S w w' B G R n ld st ∧ Two B G wr w' := by
  subst hc
  obtain ⟨ws, rfl, h2, h3⟩ := h.both
  refine (store_any wr h2 h.hG hst a x).mono fun e w' ⟨he, k1, t⟩ => ?_
  have e1 : putS ws a x = ws := if_neg h0
  rw [e1, oneN_no h0] at k1
  exact ⟨he, ⟨⟨ws, rfl, k1, h3.two t h.hR h.n1 h.n2⟩, h.bel.trans (t.below h.b1 h.b2 (Nat.le_trans hS h.bel.size)), Nat.lt_of_lt_of_le h.hG t.size, Nat.lt_of_lt_of_le h.hR t.size, h.b1, h.b2, h.b3, h.n1, h.n2⟩, t⟩
/-- A store, and the law's own one behind it. -/
theorem Play.store_good {S : Nat} {w wr : World} {B G R n ld st : Nat} (h : Play S w wr B G R n ld st) (hS : S ≤ w.heap.size) (hst : st < 1000000) (k : Nat) (hk : k < n) (x : Nat) :
    Calls Try.prog 10 #[.pointer (some ⟨B, 0, none⟩), .int .i64 (k + 1 : Nat), .int .u64 x] wr fun e w' => e = .returned (.int .i64 0) ∧ Play S w (w'.setCell ⟨R, k, none⟩ (.int .u64 x)) B G R n ld (st + 1) ∧ Two B G wr w' ∧ (∃ u, w'.cell? ⟨R, k, none⟩ = some (.int .u64 u)) ∧ w'.frozen? ⟨R, k, none⟩ = false := by
  obtain ⟨ws, rfl, h2, h3⟩ := h.both
  refine (Arena.store_good wr h2 h.hG hst k hk x).mono fun e w' ⟨he, k1, t⟩ => ?_
  have h3' := h3.two t h.hR h.n1 h.n2
  have hbel := h.bel.trans (t.below h.b1 h.b2 (Nat.le_trans hS h.bel.size))
  refine ⟨he, ⟨⟨ws.set k x, by simp, k1.aside _ h.n1 h.n2, h3'.put hk x⟩, ?_, by rw [size_setCell]; exact Nat.lt_of_lt_of_le h.hG t.size, by rw [size_setCell]; exact Nat.lt_of_lt_of_le h.hR t.size, h.b1, h.b2, h.b3, h.n1, h.n2⟩, t, ⟨_, h3'.at_ k hk⟩, h3'.fz k hk⟩
  refine ⟨hbel.os, hbel.tape, hbel.output, by rw [size_setCell]; exact hbel.size, fun i hi => (Below.heap_setCell w' ⟨R, k, none⟩ _ i ?_).trans (hbel.block i hi)⟩
  have := h.b3
  show i ≠ R
  omega
theorem Play.load_bad {S : Nat} {w wr : World} {B G R n ld st : Nat} (h : Play S w wr B G R n ld st) (hS : S ≤ w.heap.size) (hld : ld < 1000000) (a : Int) (c : Int) (hc : codeN n a = c) (h0 : c ≠ 0) :
    Calls Try.prog 11 #[.pointer (some ⟨B, 0, none⟩), .int .i64 a] wr fun e w' => e = .returned (.tuple #[.int .u64 0, .int .i64 c]) ∧ Play S w w' B G R n ld st ∧ Two B G wr w' := by
  subst hc
  obtain ⟨ws, rfl, h2, h3⟩ := h.both
  refine (load_any wr h2 h.hG hld a).mono fun e w' ⟨he, k1, t⟩ => ?_
  have e1 : getR ws a = 0 := if_neg h0
  rw [e1] at he
  rw [oneN_no h0] at k1
  exact ⟨he, ⟨⟨ws, rfl, k1, h3.two t h.hR h.n1 h.n2⟩, h.bel.trans (t.below h.b1 h.b2 (Nat.le_trans hS h.bel.size)), Nat.lt_of_lt_of_le h.hG t.size, Nat.lt_of_lt_of_le h.hR t.size, h.b1, h.b2, h.b3, h.n1, h.n2⟩, t⟩
theorem Play.load_good {S : Nat} {w wr : World} {B G R n ld st : Nat} (h : Play S w wr B G R n ld st) (hS : S ≤ w.heap.size) (hld : ld < 1000000) (k : Nat) (hk : k < n) :
    Calls Try.prog 11 #[.pointer (some ⟨B, 0, none⟩), .int .i64 (k + 1 : Nat)] wr fun e w' => ∃ v : Nat, e = .returned (.tuple #[.int .u64 v, .int .i64 0]) ∧ Play S w w' B G R n (ld + 1) st ∧ Two B G wr w' ∧ w'.cell? ⟨R, k, none⟩ = some (.int .u64 v) := by
  obtain ⟨ws, rfl, h2, h3⟩ := h.both
  refine (Arena.load_good wr h2 h.hG hld k hk).mono fun e w' ⟨he, k1, t⟩ => ?_
  have h3' := h3.two t h.hR h.n1 h.n2
  exact ⟨_, he, ⟨⟨ws, rfl, k1, h3'⟩, h.bel.trans (t.below h.b1 h.b2 (Nat.le_trans hS h.bel.size)), Nat.lt_of_lt_of_le h.hG t.size, Nat.lt_of_lt_of_le h.hR t.size, h.b1, h.b2, h.b3, h.n1, h.n2⟩, t, h3'.at_ k hk⟩
end Go.Proofs.Ytibnbbachoignaa.Arena
