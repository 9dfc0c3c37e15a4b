/-
  A mutator in memory; New.
-/
import Derived.Test.YthpgnlcmpoldfaaGreatDoorMuD
import Derived.Lib.QuietBelow
namespace Go.Proofs.YthpgnlcmpoldfaaGreatDoor.Mu
open Go.RowKit
open Blk (Cfg)
open Hp (Ids St Is Mine st0 zeroInts)
open Lg (BfIs BxIs)
open Go.Proofs.YthpgnlcmpoldfaaGreatDoor.Row (Chg rowB rowB_none other same cell_of_block frozen_of_block owns_lt owns_chg owns_slice)

/-- Where a mutator lies: its record, its registers, its buffer, its noter, its program, its results; its number. -/
structure Ml where
  M : Nat
  G : Nat
  B : Nat
  N : Nat
  id : Nat
  pp : Option Addr
  cp : Nat
  pr : Option Addr
  cr : Nat
/-- What a mutator holds. -/
structure Md where
  rg : List Int
  room : Nat
  xs : List Int
  mo : Int
  co : Int
  tb : Int
  pg : List O4
  rs : List (Int × Int)
  he : Int
  nx : Value
  tk : Int
  ev : Nat → Int
  mop : Int
  man : Int
def md0 (r room : Nat) (pg : List O4) : Md := { rg := List.replicate r 0, room := room, xs := [], mo := 0, co := 0, tb := 0, pg := pg, rs := [], he := 0, nx := .nilFunc, tk := 0, ev := fun _ => 0, mop := 0, man := 0 }
def cellsR (l : List (Int × Int)) : List Value := l.flatMap fun x => [.int .i64 x.1, .int .i64 x.2]
/-- The blocks that turn. -/
def ownM (z : Ml) (k : Nat) : Prop := k = z.M ∨ k = z.G ∨ k = z.B ∨ rowB z.pr k
structure MIs (w : World) (y : Sy) (T : Nat → Prop) (z : Ml) (m : Md) : Prop where
  c0 : w.cell? ⟨z.M, 0, none⟩ = some (.pointer (some ⟨y.S, 0, none⟩))
  c1 : w.cell? ⟨z.M, 1, none⟩ = some (.int .i64 z.id)
  c2 : w.cell? ⟨z.M, 2, none⟩ = some (.slice (some ⟨z.G, 0, none⟩) m.rg.length m.rg.length)
  c3 : w.cell? ⟨z.M, 3, none⟩ = some (.pointer (some ⟨z.B, 0, none⟩))
  c4 : w.cell? ⟨z.M, 4, none⟩ = some (.pointer (some ⟨z.N, 0, none⟩))
  c5 : w.cell? ⟨z.M, 5, none⟩ = some (.int .i64 m.mo)
  c6 : w.cell? ⟨z.M, 6, none⟩ = some (.int .i64 m.co)
  c7 : w.cell? ⟨z.M, 7, none⟩ = some (.int .i64 m.tb)
  c8 : w.cell? ⟨z.M, 8, none⟩ = some (.slice z.pp m.pg.length z.cp)
  c9 : w.cell? ⟨z.M, 9, none⟩ = some (.slice z.pr m.rs.length z.cr)
  c10 : w.cell? ⟨z.M, 10, none⟩ = some (.int .i64 m.he)
  c11 : w.cell? ⟨z.M, 11, none⟩ = some m.nx
  c12 : w.cell? ⟨z.M, 12, none⟩ = some (.int .i64 m.tk)
  ce : ∀ i, i < 6 → w.cell? ⟨z.M, 13 + i, none⟩ = some (.int .i64 (m.ev i))
  c19 : w.cell? ⟨z.M, 19, none⟩ = some (.int .i64 m.mop)
  c20 : w.cell? ⟨z.M, 20, none⟩ = some (.int .i64 m.man)
  fz : ∀ o, w.frozen? ⟨z.M, o, none⟩ = false
  rg : ∀ j, j < m.rg.length → w.cell? ⟨z.G, j, none⟩ = some (.int .i64 (m.rg.getD j 0))
  rf : ∀ j, w.frozen? ⟨z.G, j, none⟩ = false
  gl : z.G < w.heap.size
  bf : BfIs T w z.B m.room m.xs
  n0 : w.cell? ⟨z.N, 0, none⟩ = some (.pointer (some ⟨y.H, 0, none⟩))
  n1 : w.cell? ⟨z.N, 1, none⟩ = some (.pointer (some ⟨z.B, 0, none⟩))
  n2 : w.cell? ⟨z.N, 2, none⟩ = some (.pointer (some ⟨y.X z.id, 0, none⟩))
  n3 : w.cell? ⟨z.N, 3, none⟩ = some (.pointer (some ⟨y.F, 0, none⟩))
  pg : OpsR w z.pp m.pg
  pc : z.pp = none → z.cp = 0
  rs : w.ownsRow 0 110 2 (.slice z.pr m.rs.length z.cr) m.rs.length (cellsR m.rs)
  hT : ∀ k, ownM z k → T k
  tN : T z.N
  tl : ∀ k, T k → k < w.heap.size
  nN : ¬ ownM z z.N
  nP : ∀ g, rowB z.pp g → T g ∧ ¬ ownM z g
  dMG : z.M ≠ z.G
  dMB : z.M ≠ z.B
  dGB : z.G ≠ z.B
  dR : ∀ g, rowB z.pr g → g ≠ z.M ∧ g ≠ z.G ∧ g ≠ z.B
section
variable {w w' : World} {y : Sy} {T T' : Nat → Prop} {z : Ml} {m : Md}
theorem MIs.ltM (h : MIs w y T z m) : z.M < w.heap.size := lt_of_cell h.c0
/-- What turns beside it. -/
theorem MIs.chg {S : Nat → Prop} (h : MIs w y T z m) (hc : Chg S w w') (hST : ∀ k, S k → T k) (hS : ∀ k, S k → ¬ ownM z k ∧ k ≠ z.N ∧ ¬ rowB z.pp k) : MIs w' y T z m :=
  have hM : ¬ S z.M := fun e => (hS _ e).1 (.inl rfl)
  have hG : ¬ S z.G := fun e => (hS _ e).1 (.inr (.inl rfl))
  have hN : ¬ S z.N := fun e => (hS _ e).2.1 rfl
  have hlN : z.N < w.heap.size := h.tl _ h.tN
  have cM : ∀ o v, w.cell? ⟨z.M, o, none⟩ = some v → w'.cell? ⟨z.M, o, none⟩ = some v := fun o _ hv => (hc.cell (p := ⟨z.M, o, none⟩) h.ltM hM).trans hv
  have cN : ∀ o v, w.cell? ⟨z.N, o, none⟩ = some v → w'.cell? ⟨z.N, o, none⟩ = some v := fun o _ hv => (hc.cell (p := ⟨z.N, o, none⟩) hlN hN).trans hv
  ⟨cM _ _ h.c0, cM _ _ h.c1, cM _ _ h.c2, cM _ _ h.c3, cM _ _ h.c4, cM _ _ h.c5, cM _ _ h.c6, cM _ _ h.c7, cM _ _ h.c8, cM _ _ h.c9, cM _ _ h.c10, cM _ _ h.c11, cM _ _ h.c12, fun i hi => cM _ _ (h.ce i hi), cM _ _ h.c19, cM _ _ h.c20, fun o => (hc.frozen (p := ⟨z.M, o, none⟩) h.ltM hM).trans (h.fz o),
    fun j hj => (hc.cell (p := ⟨z.G, j, none⟩) h.gl hG).trans (h.rg j hj), fun j => (hc.frozen (p := ⟨z.G, j, none⟩) h.gl hG).trans (h.rf j), Nat.lt_of_lt_of_le h.gl hc.size, h.bf.chg hc hST (fun e => (hS _ e).1 (.inr (.inr (.inl rfl)))), cN _ _ h.n0, cN _ _ h.n1, cN _ _ h.n2, cN _ _ h.n3,
    h.pg.chg hc (fun g hg e => (hS g e).2.2 hg), h.pc, owns_chg h.rs hc (fun g hg e => (hS g e).1 (.inr (.inr (.inr hg)))), h.hT, h.tN, fun k hk => Nat.lt_of_lt_of_le (h.tl k hk) hc.size, h.nN, h.nP, h.dMG, h.dMB, h.dGB, h.dR⟩
theorem MIs.later (h : MIs w y T z m) (hb : Below w.heap.size w w') : MIs w' y T z m :=
  h.chg (S := fun _ => False) (Chg.of_below hb) (fun _ e => e.elim) (fun _ e => e.elim)
theorem bf_tag {w : World} {B room : Nat} {xs : List Int} (h : BfIs T w B room xs) (hT : ∀ k, T' k → T k ∨ w.heap.size ≤ k) (hB : T' B) : BfIs T' w B room xs := by
  obtain ⟨p, cap, hr⟩ := h.row
  exact ⟨h.r1, h.r2, h.len, h.c1, p, cap, hr.len, hr.c, hr.f, hr.rd, hr.nc, hr.le, fun g hg => ⟨fun e => (hT g e).elim (hr.ap g hg).1 (fun e => by have := (hr.ap g hg).2; omega), (hr.ap g hg).2⟩, hB⟩
/-- Another tag. -/
theorem MIs.tag (h : MIs w y T z m) (hT : ∀ k, T' k → T k ∨ w.heap.size ≤ k) (hI : ∀ k, T k → T' k) (hl : ∀ k, T' k → k < w.heap.size) : MIs w y T' z m :=
  { h with bf := bf_tag h.bf hT (hI _ (h.hT _ (.inr (.inr (.inl rfl))))), hT := fun k hk => hI _ (h.hT k hk), tN := hI _ h.tN, tl := hl, nP := fun g hg => ⟨hI _ (h.nP g hg).1, (h.nP g hg).2⟩ }
end
/-- A noter, as it lies. -/
structure NtAt (w : World) (N H B X F : Nat) : Prop where
  n0 : w.cell? ⟨N, 0, none⟩ = some (.pointer (some ⟨H, 0, none⟩))
  n1 : w.cell? ⟨N, 1, none⟩ = some (.pointer (some ⟨B, 0, none⟩))
  n2 : w.cell? ⟨N, 2, none⟩ = some (.pointer (some ⟨X, 0, none⟩))
  n3 : w.cell? ⟨N, 3, none⟩ = some (.pointer (some ⟨F, 0, none⟩))
theorem NtAt.later {w w' : World} {N H B X F : Nat} (h : NtAt w N H B X F) (hb : Below w.heap.size w w') : NtAt w' N H B X F :=
  ⟨(hb.cell (p := ⟨N, 0, none⟩) (lt_of_cell h.n0)).trans h.n0, (hb.cell (p := ⟨N, 1, none⟩) (lt_of_cell h.n1)).trans h.n1, (hb.cell (p := ⟨N, 2, none⟩) (lt_of_cell h.n2)).trans h.n2, (hb.cell (p := ⟨N, 3, none⟩) (lt_of_cell h.n3)).trans h.n3⟩
/-- note.New, of what is there. -/
theorem noter_new (H B X F : Nat) (w : World) : Calls Tryz.prog 60 #[.pointer (some ⟨H, 0, none⟩), .pointer (some ⟨B, 0, none⟩), .pointer (some ⟨X, 0, none⟩), .pointer (some ⟨F, 0, none⟩)] w fun e w' => ∃ N, e = .returned (.tuple #[.pointer (some ⟨N, 0, none⟩), .int .i64 0]) ∧ w.heap.size ≤ N ∧ NtAt w' N H B X F ∧ Below w.heap.size w w' := by
  go_enter Tryz.func60, Tryz.ntmps60
  go_wp2_with fail
  go_ret2
  exact ⟨w.heap.size, rfl, Nat.le_refl _, ⟨by rw [World.cell?_alloc_new]; rfl, by rw [World.cell?_alloc_new]; rfl, by rw [World.cell?_alloc_new]; rfl, by rw [World.cell?_alloc_new]; rfl⟩, (Below.refl _ _).alloc (Nat.le_refl _) _⟩
theorem below_grown {w w' : World} (h : ∃ p : Regrown, w' = «Sort».grow (redrawn w p.d) p.os) : Below w.heap.size w w' := by
  obtain ⟨p, rfl⟩ := h
  exact below_regrown w p.d p.os
/-- What New loads at its call of note.New. -/
structure Ld (wb U : World) (y : Sy) (nb bq off id : Nat) : Prop where
  b : Below wb.heap.size wb U
  l0 : U.cell? ⟨y.S, 0, none⟩ = some (.pointer (some ⟨y.H, 0, none⟩))
  l3 : U.cell? ⟨y.S, 3, none⟩ = some (.pointer (some ⟨y.F, 0, none⟩))
  l4 : U.cell? ⟨y.S, 4, none⟩ = some (.slice (some ⟨bq, off, none⟩) nb y.cx)
  lx : U.cell? ⟨bq, off + id, none⟩ = some (.pointer (some ⟨y.X id, 0, none⟩))
theorem Ld.later {wb U V : World} {y : Sy} {nb bq off id : Nat} (h : Ld wb U y nb bq off id) (hb : Below U.heap.size U V) : Ld wb V y nb bq off id :=
  ⟨h.b.trans (hb.mono h.b.size), (hb.cell (p := ⟨y.S, 0, none⟩) (lt_of_cell h.l0)).trans h.l0, (hb.cell (p := ⟨y.S, 3, none⟩) (lt_of_cell h.l3)).trans h.l3, (hb.cell (p := ⟨y.S, 4, none⟩) (lt_of_cell h.l4)).trans h.l4, (hb.cell (p := ⟨bq, off + id, none⟩) (lt_of_cell h.lx)).trans h.lx⟩
/-- Another tag, in a later world. -/
theorem ShIs.grow {w w' : World} {y : Sy} {T T' : Nat → Prop} {x : Sd} {n nb : Nat} (h : ShIs w y T x n nb) (hb : Below w.heap.size w w') (hT : ∀ k, T' k → T k ∨ w.heap.size ≤ k) (hI : ∀ k, T k → T' k) (hl : ∀ k, T' k → k < w'.heap.size) : ShIs w' y T' x n nb :=
  { h.later hb with bx := fun i hi => (bx_tag (h.bx i hi) hT (hI _ (h.hT _ (.inr (.inr (.inr (.inr ⟨i, hi, rfl⟩))))))).later hb, hT := fun k hk => hI _ (h.hT k hk), tl := hl }
theorem own_none {w : World} {base cap n size : Nat} {e : TypeId} {p : Option Addr} {xs : List Value} (h : w.ownsRow base e size (.slice p n cap) n xs) (hp : p = none) : cap = 0 := by
  subst hp
  obtain ⟨_, ⟨e, _⟩ | ⟨g, c, cur, e, _⟩⟩ := h
  · injection e
  · cases e
/-- What New lays. -/
def mutC (S id G r B N : Nat) (p : Option Addr) (l cap : Nat) : Array Value := #[.pointer (some ⟨S, 0, none⟩), .int .i64 id, .slice (some ⟨G, 0, none⟩) r r, .pointer (some ⟨B, 0, none⟩), .pointer (some ⟨N, 0, none⟩), .int .i64 0, .int .i64 0, .int .i64 0, .slice p l cap, .slice none 0 0, .int .i64 0, .nilFunc, .int .i64 0, .int .i64 0, .int .i64 0, .int .i64 0, .int .i64 0, .int .i64 0, .int .i64 0, .int .i64 0, .int .i64 0]
theorem MIs.fresh {w wG : World} {y : Sy} {T : Nat → Prop} {x : Sd} {n nb : Nat} (h : ShIs w y T x n nb) (hb : Below w.heap.size w wG) {B N G id r room cap : Nat} {p : Option Addr} {pg : List O4} {t : TypeId}
    (hbf : ∀ T' : Nat → Prop, T' B → BfIs T' wG B room []) (hN : NtAt wG N y.H B (y.X id) y.F) (hG : ∀ j, j < r → wG.cell? ⟨G, j, none⟩ = some (.int .i64 0)) (hGf : ∀ j, wG.frozen? ⟨G, j, none⟩ = false) (hp : OpsR wG p pg) (hpc : p = none → cap = 0)
    (lB : w.heap.size ≤ B) (lN : w.heap.size ≤ N) (lG : w.heap.size ≤ G) (gG : G < wG.heap.size) (hBN : B ≠ N) (hBG : B ≠ G) (hNG : N ≠ G) (lp : ∀ g, rowB p g → w.heap.size ≤ g ∧ g < wG.heap.size ∧ g ≠ B ∧ g ≠ G) :
    ∃ (z : Ml) (T' : Nat → Prop), z.M = wG.heap.size ∧ z.id = id ∧ ShIs (wG.alloc (.cells (mutC y.S id G r B N p pg.length cap) t)) y T' x n nb ∧ MIs (wG.alloc (.cells (mutC y.S id G r B N p pg.length cap) t)) y T' z (md0 r room pg) ∧ (∀ k, T k → T' k) ∧ (∀ k, T' k → T k ∨ w.heap.size ≤ k) ∧ (∀ k, ownM z k ∨ k = z.N ∨ rowB z.pp k → w.heap.size ≤ k) := by
  have hA : Below wG.heap.size wG (wG.alloc (.cells (mutC y.S id G r B N p pg.length cap) t)) := (Below.refl _ _).alloc (Nat.le_refl _) _
  have hc : ∀ (o : Nat) (v : Value), (mutC y.S id G r B N p pg.length cap)[o]? = some v → (wG.alloc (.cells (mutC y.S id G r B N p pg.length cap) t)).cell? ⟨wG.heap.size, o, none⟩ = some v := fun o v hv => by
    rw [World.cell?_alloc_new]; exact hv
  have hz : (wG.alloc (.cells (mutC y.S id G r B N p pg.length cap) t)).heap.size = wG.heap.size + 1 := World.size_alloc ..
  have hf : ∀ o, (wG.alloc (.cells (mutC y.S id G r B N p pg.length cap) t)).frozen? ⟨wG.heap.size, o, none⟩ = false := fun o => World.frozen?_alloc_at _ _ _ _ rfl
  generalize wG.alloc (.cells (mutC y.S id G r B N p pg.length cap) t) = V at *
  have hwG := hb.size
  have hBl : B < wG.heap.size := (hbf (fun _ => True) trivial).ltB
  have hNl : N < wG.heap.size := lt_of_cell hN.n0
  have hown : ∀ k, ownM ⟨wG.heap.size, G, B, N, id, p, cap, none, 0⟩ k → k = wG.heap.size ∨ k = G ∨ k = B := fun k hk => by
    rcases hk with e | e | e | e
    · exact .inl e
    · exact .inr (.inl e)
    · exact .inr (.inr e)
    · exact absurd e (rowB_none k)
  refine ⟨⟨wG.heap.size, G, B, N, id, p, cap, none, 0⟩, fun k => T k ∨ (w.heap.size ≤ k ∧ k < wG.heap.size + 1), rfl, rfl, h.grow (hb.trans (hA.mono hb.size)) (fun k hk => hk.imp (fun e => e) (fun e => e.1)) (fun k hk => .inl hk) (fun k hk => ?_), ?_, fun k hk => .inl hk, fun k hk => hk.imp (fun e => e) (fun e => e.1), fun k hk => ?_⟩
  · rcases hk with e | e
    · have := h.tl k e; omega
    · omega
  · refine ⟨hc 0 _ rfl, hc 1 _ rfl, ?_, hc 3 _ rfl, hc 4 _ rfl, hc 5 _ rfl, hc 6 _ rfl, hc 7 _ rfl, hc 8 _ rfl, hc 9 _ rfl, hc 10 _ rfl, hc 11 _ rfl, hc 12 _ rfl, fun i hi => ?_, hc 19 _ rfl, hc 20 _ rfl, hf, fun j hj => ?_, fun j => (hA.frozen (p := ⟨G, j, none⟩) gG).trans (hGf j), by show G < _; omega, (hbf _ (.inr ⟨lB, by omega⟩)).later hA, (hN.later hA).n0, (hN.later hA).n1, (hN.later hA).n2, (hN.later hA).n3, hp.later hA, hpc, ⟨rfl, .inl ⟨rfl, rfl⟩⟩, fun k hk => ?_, .inr ⟨lN, by show N < _; omega⟩, fun k hk => ?_, fun e => ?_, fun g hg => ⟨.inr ⟨(lp g hg).1, by have := (lp g hg).2.1; omega⟩, fun e => ?_⟩, by show wG.heap.size ≠ G; omega, by show wG.heap.size ≠ B; omega, fun e => hBG e.symm, fun g hg => absurd hg (rowB_none g)⟩
    · have : (md0 r room pg).rg.length = r := by simp [md0]
      rw [this]
      exact hc 2 _ rfl
    · have : i = 0 ∨ i = 1 ∨ i = 2 ∨ i = 3 ∨ i = 4 ∨ i = 5 := by omega
      rcases this with rfl | rfl | rfl | rfl | rfl | rfl
      · exact hc 13 _ rfl
      · exact hc 14 _ rfl
      · exact hc 15 _ rfl
      · exact hc 16 _ rfl
      · exact hc 17 _ rfl
      · exact hc 18 _ rfl
    · have hj2 : j < r := by simpa [md0] using hj
      have : (md0 r room pg).rg.getD j 0 = 0 := by simp [md0, hj2]
      rw [this]
      exact (hA.cell (p := ⟨G, j, none⟩) gG).trans (hG j hj2)
    · rcases hown k hk with e | e | e
      · exact .inr ⟨by omega, by omega⟩
      · exact .inr ⟨by omega, by omega⟩
      · exact .inr ⟨by omega, by omega⟩
    · rcases hk with e | e
      · have := h.tl k e; omega
      · omega
    · rcases hown N e with e | e | e
      · omega
      · exact hNG e
      · exact hBN e.symm
    · rcases hown g e with e | e | e
      · have := (lp g hg).2.1; omega
      · exact (lp g hg).2.2.2 e
      · exact (lp g hg).2.2.1 e
  · rcases hk with e | e | e
    · rcases hown k e with e | e | e <;> omega
    · have e : k = N := e
      omega
    · exact (lp k e).1
/-- What New leaves. -/
def NewP (w V : World) (M : Nat) (y : Sy) (T : Nat → Prop) (x : Sd) (n nb id r room : Nat) (pg : List O4) : Prop :=
  ∃ (z : Ml) (T' : Nat → Prop), z.M = M ∧ z.id = id ∧ ShIs V y T' x n nb ∧ MIs V y T' z (md0 r room pg) ∧ (∀ k, T k → T' k) ∧ (∀ k, T' k → T k ∨ w.heap.size ≤ k) ∧ (∀ k, ownM z k ∨ k = z.N ∨ rowB z.pp k → w.heap.size ≤ k) ∧ Below w.heap.size w V
/-- The registers first, then the program. -/
theorem NewP.one {w w4 w8 w9 : World} {y : Sy} {T : Nat → Prop} {x : Sd} {n nb B N id r room cap : Nat} {p : Option Addr} {pg : List O4} (h : ShIs w y T x n nb) (hb4 : Below w.heap.size w w4) (hb8 : Below w4.heap.size w4 w8) (hbf : ∀ T' : Nat → Prop, T' B → BfIs T' w4 B room []) (hN : w4.heap.size ≤ N ∧ NtAt w8 N y.H B (y.X id) y.F) (lB : w.heap.size ≤ B)
    (hown : w9.ownsRow (w8.alloc (.cells (zeroInts r) 3)).drew.heap.size 102 4 (.slice p pg.length cap) pg.length (cellsO pg)) (hb9 : Below (w8.alloc (.cells (zeroInts r) 3)).drew.heap.size (w8.alloc (.cells (zeroInts r) 3)).drew w9) :
    NewP w (w9.alloc (.cells (mutC y.S id w8.heap.size r B N p pg.length cap) 106)) w9.heap.size y T x n nb id r room pg := by
  have hg : ∀ j, j < r → (w8.alloc (.cells (zeroInts r) 3)).drew.cell? ⟨w8.heap.size, j, none⟩ = some (.int .i64 0) := fun j hj => by
    rw [show (w8.alloc (.cells (zeroInts r) 3)).drew.cell? ⟨w8.heap.size, j, none⟩ = (w8.alloc (.cells (zeroInts r) 3)).cell? ⟨w8.heap.size, j, none⟩ from rfl, World.cell?_alloc_new]
    exact Hp.zeroInts_at r j hj
  have hf : ∀ j, (w8.alloc (.cells (zeroInts r) 3)).drew.frozen? ⟨w8.heap.size, j, none⟩ = false := fun j => by
    rw [show (w8.alloc (.cells (zeroInts r) 3)).drew.frozen? ⟨w8.heap.size, j, none⟩ = (w8.alloc (.cells (zeroInts r) 3)).frozen? ⟨w8.heap.size, j, none⟩ from rfl]
    exact World.frozen?_alloc_at _ _ _ _ rfl
  have hz : (w8.alloc (.cells (zeroInts r) 3)).drew.heap.size = w8.heap.size + 1 := World.size_alloc ..
  have hbA : Below w8.heap.size w8 (w8.alloc (.cells (zeroInts r) 3)).drew := ((Below.refl _ _).alloc (Nat.le_refl _) _).drew
  generalize (w8.alloc (.cells (zeroInts r) 3)).drew = V at *
  have hb89 : Below w8.heap.size w8 w9 := hbA.trans (hb9.mono hbA.size)
  have hb49 : Below w4.heap.size w4 w9 := hb8.trans (hb89.mono hb8.size)
  have hb09 : Below w.heap.size w w9 := hb4.trans (hb49.mono hb4.size)
  have hB4 : B < w4.heap.size := (hbf (fun _ => True) trivial).ltB
  have hN8 : N < w8.heap.size := lt_of_cell hN.2.n0
  have h4 := hb4.size
  have h8 := hb8.size
  have h9 := hb9.size
  obtain ⟨z, T', k1, k2, k3, k4, k5, k6, k7⟩ := MIs.fresh (t := 106) h hb09 (N := N) (G := w8.heap.size) (r := r) (room := room) (cap := cap) (p := p) (pg := pg) (id := id) (fun T' hT => (hbf T' hT).later hb49) (hN.2.later hb89)
    (fun j hj => (hb9.cell (p := ⟨w8.heap.size, j, none⟩) (by show w8.heap.size < _; omega)).trans (hg j hj)) (fun j => (hb9.frozen (p := ⟨w8.heap.size, j, none⟩) (by show w8.heap.size < _; omega)).trans (hf j)) (OpsR.of_owns hown) (own_none hown) lB (by omega) (by omega) (by omega) (by omega) (by omega) (by omega)
    (fun g hg => by have := (owns_lt hown hg).1; have := (owns_lt hown hg).2; exact ⟨by omega, by omega, by omega, by omega⟩)
  exact ⟨z, T', k1, k2, k3, k4, k5, k6, k7, hb09.alloc hb09.size _⟩
/-- The program first. -/
theorem NewP.two {w w4 w8 w9 : World} {y : Sy} {T : Nat → Prop} {x : Sd} {n nb B N id r room cap : Nat} {p : Option Addr} {pg : List O4} (h : ShIs w y T x n nb) (hb4 : Below w.heap.size w w4) (hb8 : Below w4.heap.size w4 w8) (hbf : ∀ T' : Nat → Prop, T' B → BfIs T' w4 B room []) (hN : w4.heap.size ≤ N ∧ NtAt w8 N y.H B (y.X id) y.F) (lB : w.heap.size ≤ B)
    (hown : w9.ownsRow w8.drew.heap.size 102 4 (.slice p pg.length cap) pg.length (cellsO pg)) (hb9 : Below w8.drew.heap.size w8.drew w9) :
    NewP w ((w9.alloc (.cells (zeroInts r) 3)).alloc (.cells (mutC y.S id w9.heap.size r B N p pg.length cap) 106)) (w9.heap.size + 1) y T x n nb id r room pg := by
  have hg : ∀ j, j < r → (w9.alloc (.cells (zeroInts r) 3)).cell? ⟨w9.heap.size, j, none⟩ = some (.int .i64 0) := fun j hj => by
    rw [World.cell?_alloc_new]
    exact Hp.zeroInts_at r j hj
  have hf : ∀ j, (w9.alloc (.cells (zeroInts r) 3)).frozen? ⟨w9.heap.size, j, none⟩ = false := fun j => World.frozen?_alloc_at _ _ _ _ rfl
  have hz : (w9.alloc (.cells (zeroInts r) 3)).heap.size = w9.heap.size + 1 := World.size_alloc ..
  have hbA : Below w9.heap.size w9 (w9.alloc (.cells (zeroInts r) 3)) := (Below.refl _ _).alloc (Nat.le_refl _) _
  generalize w9.alloc (.cells (zeroInts r) 3) = V at *
  have hb9' : Below w8.heap.size w8 w9 := (Below.refl w8.heap.size w8).drew.trans hb9
  have hb8V : Below w8.heap.size w8 V := hb9'.trans (hbA.mono hb9'.size)
  have hb4V : Below w4.heap.size w4 V := hb8.trans (hb8V.mono hb8.size)
  have hb0V : Below w.heap.size w V := hb4.trans (hb4V.mono hb4.size)
  have hB4 : B < w4.heap.size := (hbf (fun _ => True) trivial).ltB
  have hN8 : N < w8.heap.size := lt_of_cell hN.2.n0
  have h4 := hb4.size
  have h8 := hb8.size
  have h9 := hb9'.size
  have hown8 : ∀ g, rowB p g → w8.heap.size ≤ g := fun g hg => (owns_lt hown hg).1
  obtain ⟨z, T', k1, k2, k3, k4, k5, k6, k7⟩ := MIs.fresh (t := 106) h hb0V (N := N) (G := w9.heap.size) (r := r) (room := room) (cap := cap) (p := p) (pg := pg) (id := id) (fun T' hT => (hbf T' hT).later hb4V) (hN.2.later hb8V)
    hg hf ((OpsR.of_owns hown).later hbA) (own_none hown) lB (by omega) (by omega) (by omega) (by omega) (by omega) (by omega)
    (fun g hg => by have := hown8 g hg; have := (owns_lt hown hg).2; exact ⟨by omega, by omega, by omega, by omega⟩)
  exact ⟨z, T', k1.trans hz, k2, k3, k4, k5, k6, k7, hb0V.alloc hb0V.size _⟩
theorem mnew_nil (id : Int) (v : Value) (w : World) : Calls Tryz.prog 10 #[.pointer none, .int .i64 id, v] w fun e w' => e = .returned (.tuple #[.pointer none, .int .i64 1]) ∧ ∃ q, w' = w.drewN q := by
  have HW := Lib.hid (fun V => whole_nil V)
  go_enter Tryz.func10, Tryz.ntmps10
  go_wp2_with fail
  go_quiet ((go_at_call 57; exact Calls.quiet_of_same (HW.out _)))
  go_wp2_with fail
  go_ret2
  exact ⟨rfl, _, rfl⟩
set_option maxRecDepth 100000 in
set_option maxHeartbeats 4000000 in
theorem mnew_any {y : Sy} {T : Nat → Prop} {x : Sd} {n nb cp : Nat} (w : World) (h : ShIs w y T x n nb) (hm : x.s.c.m = (nb : Int)) (id : Nat) (hid : id < nb) (pp : Option Addr) (pg : List O4) (hpg : OpsR w pp pg) (hl : pg.length ≤ 1000) (hpc : pp = none → cp = 0) :
    Calls Tryz.prog 10 #[.pointer (some ⟨y.S, 0, none⟩), .int .i64 id, .slice pp pg.length cp] w fun e w' => ∃ (z : Ml) (T' : Nat → Prop) (r room : Nat), e = .returned (.tuple #[.pointer (some ⟨z.M, 0, none⟩), .int .i64 0]) ∧ z.id = id ∧ x.s.c.r = (r : Int) ∧ x.s.c.lg = (room : Int) ∧ ShIs w' y T' x n nb ∧ MIs w' y T' z (md0 r room pg) ∧ (∀ k, T k → T' k) ∧ (∀ k, T' k → T k ∨ w.heap.size ≤ k) ∧ (∀ k, ownM z k ∨ k = z.N ∨ rowB z.pp k → w.heap.size ≤ k) ∧ Below w.heap.size w w' := by
  have HSH := Lib.hid h
  have HPG := Lib.hid hpg
  obtain ⟨bq, off, epx, hpx⟩ := h.pr id hid
  have HPC := Lib.hid hpc
  have HL := Lib.hid hl
  have hR := Blk.slots_bd h.hp.wf.right
  obtain ⟨room, hroom⟩ : ∃ room : Nat, x.s.c.lg = (room : Int) := ⟨x.s.c.lg.toNat, by have := hR.lg0; omega⟩
  obtain ⟨r, hr⟩ : ∃ r : Nat, x.s.c.r = (r : Int) := ⟨x.s.c.r.toNat, by have := hR.r0; omega⟩
  have HR := Lib.hid (And.intro hroom hr)
  have HB : Hid (1 ≤ room ∧ room ≤ 256 ∧ r ≤ 64) := Lib.hid ⟨by have := hR.lg0; omega, by have := hR.lg1; omega, by have := hR.r1; omega⟩
  have HCF := Lib.hid (fun (V : World) (hb : Below w.heap.size w V) => Hp.config_any V (h.later hb).hp)
  rw [hm, hroom, hr] at HCF
  have HW := Lib.hid (fun (V : World) (hb : Below w.heap.size w V) => (whole_any (h.later hb)).mono fun e w' (hw : e = .returned (.bool true) ∧ w' = V) => (show e = .returned (.bool true) ∧ Below V.heap.size V w' from ⟨hw.1, hw.2 ▸ Below.refl _ _⟩))
  have HGR := Lib.hid (fun d os => below_regrown w d os)
  have c0 := h.c0
  have c4 := h.c4
  rw [epx] at c4
  have HLD : Hid (Ld w w y nb bq off id) := Lib.hid ⟨Below.refl _ _, c0, h.c3, c4, hpx⟩
  have hls := h.ltS
  have k0 := cell_regrown c0
  have k4 := cell_regrown c4
  have i0 : (0 : Int) ≤ (id : Int) := by omega
  have i1 : (id : Int) < (nb : Int) := by omega
  have i2 : ¬ (id : Int) < 0 := by omega
  have i3 : ¬ (nb : Int) ≤ (id : Int) := by omega
  have hfB := fieldB_cfg
  have d2 : decide ((id : Int) < 0) = false := by simp
  have d3 : decide ((nb : Int) ≤ (id : Int)) = false := by simp; omega
  have d4 : min (nb : Int) (nb : Int) = nb := by simp
  have d5 : decide (nb ≤ id) = false := by simp; omega
  clear h hpg hpc hl hR hroom hr hm epx hpx
  go_enter Tryz.func10, Tryz.ntmps10
  go_wp2_with fail
  refine wp_region_quiet_below (by kernel_rfl) (by kernel_rfl) ?_
  repeat (go_big_quiet_step (first
    | (go_at_call 57; exact Calls.regrown_of (HW.out _ (HGR.out _ _)))
    | (go_at_call 58; exact Calls.regrown_of (HCF.out _ (HGR.out _ _)))))
  refine wpQuiet_nil ?_
  intro wp hw'
  have HBP := Lib.hid (below_grown hw')
  have HLP := Lib.hid (HLD.out.later HBP.out)
  have p0 := HLP.out.l0
  have hlp := lt_of_cell p0
  clear hw' k0 k4 c0 c4 hls
  have HCP := Lib.hid (HCF.out _ HBP.out)
  have HPL : Hid ((pg.length : Int) ≤ 1000) := Lib.hid (by have := HL.out; omega)
  go_wp2_with (go_at_call 58; fail)
  refine HCP.out.mono ?_
  rintro e w2 ⟨rfl, hb2⟩
  have HB2 := Lib.hid (HBP.out.trans (hb2.mono HBP.out.size))
  have HL2 := Lib.hid (HLP.out.later hb2)
  have hA3 : Below w2.heap.size w2 (w2.alloc (.cells #[.int .i64 x.s.c.b, .int .i64 x.s.c.wd, .int .i64 nb, .int .i64 r, .int .i64 x.s.c.ce, .int .i64 room, .int .i64 x.s.c.st] 23)) := (Below.refl _ _).alloc (Nat.le_refl _) _
  have HA3 := Lib.hid hA3
  have HC3 : Hid ((w2.alloc (.cells #[.int .i64 x.s.c.b, .int .i64 x.s.c.wd, .int .i64 nb, .int .i64 r, .int .i64 x.s.c.ce, .int .i64 room, .int .i64 x.s.c.st] 23)).cell? ⟨w2.heap.size, 3, none⟩ = some (.int .i64 r)) := Lib.hid (by rw [World.cell?_alloc_new]; rfl)
  have HNL := Lib.hid (fun V => Lg.new_good room (room : Int) rfl V HB.out.1 HB.out.2.1)
  clear hb2 HCP p0 hlp HBP HLP hA3
  go_wp2_with (go_at_call 59; fail)
  refine (HNL.out _).mono ?_
  rintro e w4 ⟨rfl, hbf, hb4, hz4⟩
  generalize hw3 : w2.alloc (.cells #[.int .i64 x.s.c.b, .int .i64 x.s.c.wd, .int .i64 nb, .int .i64 r, .int .i64 x.s.c.ce, .int .i64 room, .int .i64 x.s.c.st] 23) = w3 at *
  have HBF := Lib.hid hbf
  have HZ3 : Hid (w3.heap.size = w2.heap.size + 1) := Lib.hid (by rw [← hw3, World.size_alloc])
  have HZ4 := Lib.hid hz4
  have hc43 := (hb4.cell (p := ⟨w2.heap.size, 3, none⟩) (lt_of_cell HC3.out)).trans HC3.out
  have HC43 := Lib.hid hc43
  have HB24 : Hid (Below w2.heap.size w2 w4) := Lib.hid (HA3.out.trans (hb4.mono HA3.out.size))
  have HL4 : Hid (Ld w4 w4 y nb bq off id) := Lib.hid (by
    have h := HL2.out.later HB24.out
    exact ⟨Below.refl _ _, h.l0, h.l3, h.l4, h.lx⟩)
  have HNN := Lib.hid (fun (U : World) (hb : Below w4.heap.size w4 U) => (noter_new y.H w3.heap.size (y.X id) y.F U).mono fun e w' (h : ∃ N, e = .returned (.tuple #[.pointer (some ⟨N, 0, none⟩), .int .i64 0]) ∧ U.heap.size ≤ N ∧ NtAt w' N y.H w3.heap.size (y.X id) y.F ∧ Below U.heap.size U w') => (show ∃ N, e = .returned (.tuple #[.pointer (some ⟨N, 0, none⟩), .int .i64 0]) ∧ (w4.heap.size ≤ N ∧ NtAt w' N y.H w3.heap.size (y.X id) y.F) ∧ Below U.heap.size U w' from by
    obtain ⟨N, h1, h2, h3, h4⟩ := h
    exact ⟨N, h1, ⟨Nat.le_trans hb.size h2, h3⟩, h4⟩))
  have HKD : Hid (Ld w4 w4.drew y nb bq off id) := Lib.hid (HL4.out.later (Below.refl _ _).drew)
  have HKS : Hid (∀ wc W : World, Below wc.heap.size wc W → (Below w4.heap.size w4 wc ∧ wc.cell? ⟨y.S, 0, none⟩ = some (.pointer (some ⟨y.H, 0, none⟩)) ∧ wc.cell? ⟨y.S, 3, none⟩ = some (.pointer (some ⟨y.F, 0, none⟩)) ∧ wc.cell? ⟨y.S, 4, none⟩ = some (.slice (some ⟨bq, off, none⟩) nb y.cx) ∧ wc.cell? ⟨bq, off + id, none⟩ = some (.pointer (some ⟨y.X id, 0, none⟩))) →
      (Below w4.heap.size w4 W ∧ W.cell? ⟨y.S, 0, none⟩ = some (.pointer (some ⟨y.H, 0, none⟩)) ∧ W.cell? ⟨y.S, 3, none⟩ = some (.pointer (some ⟨y.F, 0, none⟩)) ∧ W.cell? ⟨y.S, 4, none⟩ = some (.slice (some ⟨bq, off, none⟩) nb y.cx) ∧ W.cell? ⟨bq, off + id, none⟩ = some (.pointer (some ⟨y.X id, 0, none⟩)))) := Lib.hid fun wc W hb h => by
    have h2 := (show Ld w4 wc y nb bq off id from ⟨h.1, h.2.1, h.2.2.1, h.2.2.2.1, h.2.2.2.2⟩).later hb
    exact ⟨h2.b, h2.l0, h2.l3, h2.l4, h2.lx⟩
  have HK0 : Hid (Below w4.heap.size w4 w4.drew ∧ w4.drew.cell? ⟨y.S, 0, none⟩ = some (.pointer (some ⟨y.H, 0, none⟩)) ∧ w4.drew.cell? ⟨y.S, 3, none⟩ = some (.pointer (some ⟨y.F, 0, none⟩)) ∧ w4.drew.cell? ⟨y.S, 4, none⟩ = some (.slice (some ⟨bq, off, none⟩) nb y.cx) ∧ w4.drew.cell? ⟨bq, off + id, none⟩ = some (.pointer (some ⟨y.X id, 0, none⟩))) := Lib.hid ⟨HKD.out.b, HKD.out.l0, HKD.out.l3, HKD.out.l4, HKD.out.lx⟩
  have hls4 := lt_of_cell HL4.out.l0
  clear hbf hb4 hz4 hw3
  go_wp2_with fail
  go_region_held3 (fun U => Below w4.heap.size w4 U ∧ U.cell? ⟨y.S, 0, none⟩ = some (.pointer (some ⟨y.H, 0, none⟩)) ∧ U.cell? ⟨y.S, 3, none⟩ = some (.pointer (some ⟨y.F, 0, none⟩)) ∧ U.cell? ⟨y.S, 4, none⟩ = some (.slice (some ⟨bq, off, none⟩) nb y.cx) ∧ U.cell? ⟨bq, off + id, none⟩ = some (.pointer (some ⟨y.X id, 0, none⟩)))
    (first | exact HK0.out | assumption | exact HKS.out _ _ hb8 (by assumption))
    (first
      | (go_at_call 60; refine (HNN.out _ (And.left (by assumption))).mono ?_; rintro e w8 ⟨N, rfl, hn8, hb8⟩))
  have hS8 : Ld w4 w8 y nb bq off id := by
    have h := (show (Below w4.heap.size w4 w8 ∧ w8.cell? ⟨y.S, 0, none⟩ = some (.pointer (some ⟨y.H, 0, none⟩)) ∧ w8.cell? ⟨y.S, 3, none⟩ = some (.pointer (some ⟨y.F, 0, none⟩)) ∧ w8.cell? ⟨y.S, 4, none⟩ = some (.slice (some ⟨bq, off, none⟩) nb y.cx) ∧ w8.cell? ⟨bq, off + id, none⟩ = some (.pointer (some ⟨y.X id, 0, none⟩))) from by assumption)
    exact ⟨h.1, h.2.1, h.2.2.1, h.2.2.2.1, h.2.2.2.2⟩
  have HB48 := Lib.hid hS8.b
  have HN8 := Lib.hid hn8
  have hc83 := (hS8.b.cell (p := ⟨w2.heap.size, 3, none⟩) (lt_of_cell HC43.out)).trans HC43.out
  have hlc := lt_of_cell hc83
  have HB08 : Hid (Below w.heap.size w w8) := Lib.hid (HB2.out.trans ((HB24.out.trans (hS8.b.mono HB24.out.size)).mono HB2.out.size))
  have HCL := Lib.hid (fun (V : World) (hb : Below w8.heap.size w8 V) => clone_ops (cap := cp) pp pg V (by have := HL.out; omega) HPC.out ((HPG.out.later HB08.out).later hb))
  have hmk := Hp.make_ints r (by have := HB.out.2.2; omega)
  have hpl := HPL.out
  have hpl2 : ¬ (1000 : Int) < (pg.length : Int) := by omega
  have HC83 := Lib.hid (fun (V : World) (hb : Below w8.heap.size w8 V) => (hb.cell (p := ⟨w2.heap.size, 3, none⟩) hlc).trans hc83)
  clear hS8 hn8 hc43 hls4 HNN HKD HKS HK0 HL4
  have HA1 : Hid (Below w8.heap.size w8 (w8.alloc (.cells (zeroInts r) 3)).drew) := Lib.hid ((Below.refl _ _).alloc (Nat.le_refl _) _).drew
  have HA2 : Hid (Below w8.heap.size w8 w8.drew) := Lib.hid (Below.refl _ _).drew
  have HB04 : Hid (Below w.heap.size w w4) := Lib.hid (HB2.out.trans (HB24.out.mono HB2.out.size))
  have hlB : w.heap.size ≤ w3.heap.size := by have := HB2.out.size; rw [HZ3.out]; omega
  have HR1 := Lib.hid (fun w9 p' cap' h1 h2 => NewP.one (pg := pg) (w9 := w9) (p := p') (cap := cap') (r := r) HSH.out HB04.out HB48.out HBF.out HN8.out hlB h1 h2)
  have HR2 := Lib.hid (fun w9 p' cap' h1 h2 => NewP.two (pg := pg) (w9 := w9) (p := p') (cap := cap') (r := r) HSH.out HB04.out HB48.out HBF.out HN8.out hlB h1 h2)
  clear hlB
  go_wp2_with fail
  go_region_with (go_at_call 61; first
    | (refine (HCL.out _ HA1.out).mono ?_; rintro e w9 ⟨p', cap', rfl, hown, hb9⟩; have HWN := Lib.hid (HR1.out w9 p' cap' hown hb9); clear hown hb9)
    | (refine (HCL.out _ HA2.out).mono ?_; rintro e w9 ⟨p', cap', rfl, hown, hb9⟩; have HWN := Lib.hid (HR2.out w9 p' cap' hown hb9); have hc93 := HC83.out w9 (HA2.out.trans (hb9.mono HA2.out.size)); have hlc9 := lt_of_cell hc93; clear hown hb9))
  all_goals go_wp2_with fail
  all_goals go_ret2
  all_goals obtain ⟨z, T', k1, k2, k3, k4, k5, k6, k7, k8⟩ := HWN.out
  all_goals exact ⟨z, T', r, room, by rw [k1]; rfl, k2, HR.out.2, HR.out.1, k3, k4, k5, k6, k7, k8⟩
end Go.Proofs.YthpgnlcmpoldfaaGreatDoor.Mu
