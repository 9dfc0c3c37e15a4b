/-
  A world while it is made; world.New.
-/
import Derived.Test.YthpgnlcmpoldfaaGreatDoorW2
import Derived.Test.YthpgnlcmpoldfaaGreatDoorMuJ
import Derived.Test.YthpgnlcmpoldfaaGreatDoorW1
namespace Go.Proofs.YthpgnlcmpoldfaaGreatDoor.Wo
open Go.RowKit
open Blk (Cfg)
open Lg (BxIs)
open Mu (Sy Sd ShIs CellsL ownS sd0 lt_of_cell)
open Go.Proofs.YthpgnlcmpoldfaaGreatDoor.Row (Chg rowB rowB_none other same cell_of_block frozen_of_block owns_chg owns_lt owns_slice owns_block push_row)

section
variable {w w' : World} {y : Sy} {T T' : Nat → Prop} {x : Sd} {n nb : Nat}
/-- What turns beside it, and comes new; with another tag behind. -/
theorem _root_.Go.Proofs.YthpgnlcmpoldfaaGreatDoor.Mu.ShIs.turn {S : Nat → Prop} (h : ShIs w y T x n nb) (hc : Chg S w w') (hS : ∀ k, S k → k < w.heap.size → ¬ ownS y nb k ∧ k ≠ y.S ∧ ¬ rowB y.px k) (hST : ∀ k, S k → k < w.heap.size → T k)
    (hT : ∀ k, T' k → T k ∨ w.heap.size ≤ k) (hI : ∀ k, T k → T' k) (hl : ∀ k, T' k → k < w'.heap.size) : ShIs w' y T' x n nb := by
  have hc2 : Chg (fun k => S k ∧ k < w.heap.size) w w' := ⟨hc.os, hc.tape, hc.output, hc.size, fun k hk hn => hc.block k hk (fun e => hn ⟨e, hk⟩)⟩
  have h2 := h.chg hc2 (fun k hk => hST k hk.1 hk.2) (fun k hk => hS k hk.1 hk.2)
  exact ⟨h2.c0, h2.c1, h2.c2, h2.c3, h2.c4, h2.hp, h2.bd, h2.qu, h2.fl, h2.ff, fun i hi => by
    have hb := Mu.bx_tag (T' := T') (h.bx i hi) hT (hI _ (h.hT _ (.inr (.inr (.inr (.inr ⟨i, hi, rfl⟩))))))
    exact hb.chg hc2 (fun k hk => hI k (hST k hk.1 hk.2)) (fun hk => (hS _ hk.1 hk.2).1 (.inr (.inr (.inr (.inr ⟨i, hi, rfl⟩))))), h2.pr, fun k hk => hI k (h2.hT k hk), hl, h2.nS, h2.nP, h2.dHB, h2.dHQ, h2.dF, h2.dX, h2.dXX⟩
end

/-- A tag, and all that came since. -/
def TT (s0 : Nat) (T : Nat → Prop) (V : World) (k : Nat) : Prop := T k ∨ (s0 ≤ k ∧ k < V.heap.size)
/-- The cells of a world's record while it is made. -/
def recL (c : Cfg) (S : Nat) (pm : Option Addr) (nm cm : Nat) (vc : Value) (pk : Option Addr) (nk ck : Nat) : List Value :=
  [.int .i64 c.b, .int .i64 c.wd, .int .i64 c.m, .int .i64 c.r, .int .i64 c.ce, .int .i64 c.lg, .int .i64 c.st, .pointer (some ⟨S, 0, none⟩), .slice pm nm cm, vc, .slice pk nk ck, .int .i64 0, .slice none 0 0]
structure Wv (w V : World) (s0 W : Nat) (y : Sy) (T : Nat → Prop) (sd : Sd) (c : Cfg) (n nb : Nat) (vc : Value) (jm jk : Nat) (pm : Option Addr) (cm : Nat) (pk : Option Addr) (ck : Nat) (xs : List Value) : Prop where
  sh : ShIs V y (TT s0 T V) sd n nb
  old : ∀ k, ownS y nb k ∨ k = y.S ∨ rowB y.px k → k < s0
  rc : CellsL V W (recL c y.S pm jm cm vc pk jk ck)
  fz : ∀ o, V.frozen? ⟨W, o, none⟩ = false
  s0W : s0 ≤ W
  rm : ∃ zs, V.ownsRow (W + 1) 30 1 (.slice pm jm cm) jm zs
  rk : V.ownsRow (W + 1) 131 1 (.slice pk jk ck) jk xs
  ne : ∀ k, rowB pm k → ¬ rowB pk k
  bel : Below w.heap.size w V
  ws : w.heap.size ≤ s0
section
variable {w V V' : World} {s0 W : Nat} {y : Sy} {T : Nat → Prop} {sd : Sd} {c : Cfg} {n nb : Nat} {vc : Value} {jm jk : Nat} {pm : Option Addr} {cm : Nat} {pk : Option Addr} {ck : Nat} {xs : List Value}
theorem Wv.ltW (h : Wv w V s0 W y T sd c n nb vc jm jk pm cm pk ck xs) : W < V.heap.size := lt_of_cell (h.rc 0 _ rfl)
theorem Wv.later (h : Wv w V s0 W y T sd c n nb vc jm jk pm cm pk ck xs) (hb : Below V.heap.size V V') : Wv w V' s0 W y T sd c n nb vc jm jk pm cm pk ck xs :=
  ⟨h.sh.turn (S := fun _ => False) (Chg.of_below hb) (fun _ e => e.elim) (fun _ e => e.elim) (fun k hk => hk.elim (fun e => .inl (.inl e)) (fun e => by
      rcases Nat.lt_or_ge k V.heap.size with h1 | h1
      · exact .inl (.inr ⟨e.1, h1⟩)
      · exact .inr h1)) (fun k hk => hk.imp id (fun e => ⟨e.1, Nat.lt_of_lt_of_le e.2 hb.size⟩)) (fun k hk => hk.elim (fun e => Nat.lt_of_lt_of_le (h.sh.tl k (.inl e)) hb.size) (fun e => e.2)),
    h.old, h.rc.later hb, fun o => (frozen_of_block (a := ⟨W, o, none⟩) (hb.block _ h.ltW)).trans (h.fz o), h.s0W, h.rm.imp fun _ hr => owns_block hr (fun g hg => hb.block g (owns_lt hr hg).2), owns_block h.rk (fun g hg => hb.block g (owns_lt h.rk hg).2), h.ne, h.bel.trans (hb.mono h.bel.size), h.ws⟩
/-- Behind what turns blocks that came since alone. -/
theorem Wv.turn {S : Nat → Prop} {pm' : Option Addr} {cm' : Nat} {pk' : Option Addr} {ck' jm' jk' : Nat} {vc' : Value} {xs' : List Value} (h : Wv w V s0 W y T sd c n nb vc jm jk pm cm pk ck xs) (hc : Chg S V V') (hS : ∀ k, S k → s0 ≤ k)
    (hrc : CellsL V' W (recL c y.S pm' jm' cm' vc' pk' jk' ck')) (hfz : ∀ o, V'.frozen? ⟨W, o, none⟩ = false) (hrm : ∃ zs, V'.ownsRow (W + 1) 30 1 (.slice pm' jm' cm') jm' zs) (hrk : V'.ownsRow (W + 1) 131 1 (.slice pk' jk' ck') jk' xs')
    (hne : ∀ k, rowB pm' k → ¬ rowB pk' k) : Wv w V' s0 W y T sd c n nb vc' jm' jk' pm' cm' pk' ck' xs' :=
  ⟨h.sh.turn hc (fun k hk _ => ⟨fun e => by have := h.old k (.inl e); have := hS k hk; omega, fun e => by have := h.old k (.inr (.inl e)); have := hS k hk; omega, fun e => by have := h.old k (.inr (.inr e)); have := hS k hk; omega⟩) (fun k hk hl => .inr ⟨hS k hk, hl⟩)
      (fun k hk => hk.elim (fun e => .inl (.inl e)) (fun e => by
        rcases Nat.lt_or_ge k V.heap.size with h1 | h1
        · exact .inl (.inr ⟨e.1, h1⟩)
        · exact .inr h1)) (fun k hk => hk.imp id (fun e => ⟨e.1, Nat.lt_of_lt_of_le e.2 hc.size⟩)) (fun k hk => hk.elim (fun e => Nat.lt_of_lt_of_le (h.sh.tl k (.inl e)) hc.size) (fun e => e.2)),
    h.old, hrc, hfz, h.s0W, hrm, hrk, hne, h.bel.trans (hc.below (fun k hk => Nat.le_trans h.ws (hS k hk)) h.bel.size), h.ws⟩
end

theorem infoMut : (Tryz.prog.info? 30).map (fun i => (i.zero, i.size, i.bytes)) = some (some (.pointer none), 1, 8) := by kernel_rfl
theorem infoMach : (Tryz.prog.info? 131).map (fun i => (i.zero, i.size, i.bytes)) = some (some .nilIface, 1, 16) := by kernel_rfl
end Go.Proofs.YthpgnlcmpoldfaaGreatDoor.Wo

namespace Go.Proofs.YthpgnlcmpoldfaaGreatDoor.Wo
open Go.RowKit
open Blk (Cfg)
open Mu (Sy Sd ShIs CellsL ownS sd0 lt_of_cell)
open Go.Proofs.YthpgnlcmpoldfaaGreatDoor.Row (Chg rowB rowB_none other same cell_of_block frozen_of_block owns_chg owns_lt owns_slice owns_block push_row)
section
variable {w V Y0 w3 : World} {s0 W : Nat} {y : Sy} {T : Nat → Prop} {sd : Sd} {c : Cfg} {n nb m : Nat} {vc v' : Value} {jm jk : Nat} {pm : Option Addr} {cm : Nat} {pk : Option Addr} {ck : Nat} {xs zs news : List Value}
/-- What a row of mutators more leaves: its cell ahead of the store, and the world behind it. -/
theorem Wv.pushM (h : Wv w V s0 W y T sd c n nb vc jm jk pm cm pk ck xs) (hr : V.ownsRow (W + 1) 30 1 (.slice pm jm cm) jm zs) (hb : Below V.heap.size V Y0) (hown : w3.ownsRow (W + 1) 30 1 v' (jm + m) (zs ++ news)) (hg : Y0.grownBy w3 (Value.slice pm jm cm).ownBlock)
    (hat : v'.ownBlock = (Value.slice pm jm cm).ownBlock ∨ v'.ownBlock = some Y0.heap.size) :
    ∃ pm' cm', v' = .slice pm' (jm + m) cm' ∧ w3.cell? ⟨W, 8, none⟩ = some (.slice pm jm cm) ∧ w3.frozen? ⟨W, 8, none⟩ = false ∧ Wv w (w3.setCell ⟨W, 8, none⟩ (.slice pm' (jm + m) cm')) s0 W y T sd c n nb vc (jm + m) jk pm' cm' pk ck xs := by
  obtain ⟨pm', cm', rfl, hC, hrow⟩ := push_row hb hown hg hat
  have hlW := h.ltW
  have hWm : ¬ rowB pm W := fun e => by have := (owns_lt hr e).1; omega
  have hWk : ∀ q t cap k l (U : World), U.ownsRow (W + 1) t 1 (.slice q k cap) k l → ∀ g, rowB q g → g ≠ W := fun q t cap k l U hu g hg => by have := (owns_lt hu hg).1; omega
  have hcW : CellsL w3 W (recL c y.S pm jm cm vc pk jk ck) := fun o v hv => (hC.cell (p := ⟨W, o, none⟩) hlW hWm).trans (h.rc o v hv)
  have hfW : ∀ o, w3.frozen? ⟨W, o, none⟩ = false := fun o => (hC.frozen (p := ⟨W, o, none⟩) hlW hWm).trans (h.fz o)
  have hk3 : w3.ownsRow (W + 1) 131 1 (.slice pk jk ck) jk xs := owns_chg h.rk hC (fun g hg e => h.ne g e hg)
  refine ⟨pm', cm', rfl, hcW 8 _ rfl, hfW 8, ?_⟩
  refine h.turn (S := fun k => rowB pm k ∨ k = W) ((hC.mono fun k e => .inl e).set (.inl (.inr rfl)) _) (fun k e => e.elim (fun e => by have := (owns_lt hr e).1; have := h.s0W; omega) (fun e => e ▸ h.s0W)) (hcW.set 8 _) (fun o => (World.frozen?_setCell ..).trans (hfW o)) ⟨_, owns_block hown (fun g hg => Below.heap_setCell _ _ _ _ (hWk _ _ _ _ _ _ hown g hg))⟩ (owns_block hk3 (fun g hg => Below.heap_setCell _ _ _ _ (hWk _ _ _ _ _ _ hk3 g hg))) ?_
  intro k e1 e2
  rcases hrow k e1 with e | e
  · exact h.ne k e e2
  · have := (owns_lt h.rk e2).2; omega
theorem Wv.pushK (h : Wv w V s0 W y T sd c n nb vc jm jk pm cm pk ck xs) (hb : Below V.heap.size V Y0) (hown : w3.ownsRow (W + 1) 131 1 v' (jk + m) (xs ++ news)) (hg : Y0.grownBy w3 (Value.slice pk jk ck).ownBlock)
    (hat : v'.ownBlock = (Value.slice pk jk ck).ownBlock ∨ v'.ownBlock = some Y0.heap.size) :
    ∃ pk' ck', v' = .slice pk' (jk + m) ck' ∧ w3.cell? ⟨W, 10, none⟩ = some (.slice pk jk ck) ∧ w3.frozen? ⟨W, 10, none⟩ = false ∧ Wv w (w3.setCell ⟨W, 10, none⟩ (.slice pk' (jk + m) ck')) s0 W y T sd c n nb vc jm (jk + m) pm cm pk' ck' (xs ++ news) ∧ Chg (fun k => rowB pk k ∨ k = W) V (w3.setCell ⟨W, 10, none⟩ (.slice pk' (jk + m) ck')) ∧ ∀ k, rowB pk' k → rowB pk k ∨ V.heap.size ≤ k := by
  obtain ⟨pk', ck', rfl, hC, hrow⟩ := push_row hb hown hg hat
  obtain ⟨zs, hr⟩ := h.rm
  have hlW := h.ltW
  have hWm : ¬ rowB pk W := fun e => by have := (owns_lt h.rk e).1; omega
  have hWk : ∀ q t cap k l (U : World), U.ownsRow (W + 1) t 1 (.slice q k cap) k l → ∀ g, rowB q g → g ≠ W := fun q t cap k l U hu g hg => by have := (owns_lt hu hg).1; omega
  have hcW : CellsL w3 W (recL c y.S pm jm cm vc pk jk ck) := fun o v hv => (hC.cell (p := ⟨W, o, none⟩) hlW hWm).trans (h.rc o v hv)
  have hfW : ∀ o, w3.frozen? ⟨W, o, none⟩ = false := fun o => (hC.frozen (p := ⟨W, o, none⟩) hlW hWm).trans (h.fz o)
  have hm3 : w3.ownsRow (W + 1) 30 1 (.slice pm jm cm) jm zs := owns_chg hr hC (fun g hg e => h.ne g hg e)
  refine ⟨pk', ck', rfl, hcW 10 _ rfl, hfW 10, ?_, (hC.mono fun k e => .inl e).set (.inl (.inr rfl)) _, hrow⟩
  refine h.turn (S := fun k => rowB pk k ∨ k = W) ((hC.mono fun k e => .inl e).set (.inl (.inr rfl)) _) (fun k e => e.elim (fun e => by have := (owns_lt h.rk e).1; have := h.s0W; omega) (fun e => e ▸ h.s0W)) (hcW.set 10 _) (fun o => (World.frozen?_setCell ..).trans (hfW o)) ⟨_, owns_block hm3 (fun g hg => Below.heap_setCell _ _ _ _ (hWk _ _ _ _ _ _ hm3 g hg))⟩ (owns_block hown (fun g hg => Below.heap_setCell _ _ _ _ (hWk _ _ _ _ _ _ hown g hg))) ?_
  intro k e1 e2
  rcases hrow k e2 with e | e
  · exact h.ne k e1 e
  · have := (owns_lt hr e1).2; omega
/-- The collector's cell. -/
theorem Wv.coll (h : Wv w V s0 W y T sd c n nb vc jm jk pm cm pk ck xs) (u : Value) : Wv w (V.setCell ⟨W, 9, none⟩ u) s0 W y T sd c n nb u jm jk pm cm pk ck xs := by
  obtain ⟨zs, hr⟩ := h.rm
  have hWk : ∀ q t cap k l (U : World), U.ownsRow (W + 1) t 1 (.slice q k cap) k l → ∀ g, rowB q g → g ≠ W := fun q t cap k l U hu g hg => by have := (owns_lt hu hg).1; omega
  exact h.turn (S := fun k => k = W) ((Chg.refl (fun k => k = W) V).set (p := ⟨W, 9, none⟩) (.inl rfl) u) (fun k e => e ▸ h.s0W) (h.rc.set 9 _) (fun o => (World.frozen?_setCell ..).trans (h.fz o)) ⟨_, owns_block hr (fun g hg => Below.heap_setCell _ _ _ _ (hWk _ _ _ _ _ _ hr g hg))⟩ (owns_block h.rk (fun g hg => Below.heap_setCell _ _ _ _ (hWk _ _ _ _ _ _ h.rk g hg))) h.ne
end
end Go.Proofs.YthpgnlcmpoldfaaGreatDoor.Wo

namespace Go.Proofs.YthpgnlcmpoldfaaGreatDoor.Wo
open Go.RowKit
open Blk (Cfg)
open Go.Proofs.YthpgnlcmpoldfaaGreatDoor.Addr (Tabs)
open Mu (Sy Sd ShIs CellsL ownS sd0 lt_of_cell O4 OpsR share_any1 mnew_any cnew_any CoIs)
open Stk (StIs)
open Go.Proofs.YthpgnlcmpoldfaaGreatDoor.Row (Chg rowB rowB_none other same cell_of_block frozen_of_block owns_chg owns_lt owns_slice owns_block push_row info_parts one_at step_append_own)

/-- Programs that may be: what each mutator has. -/
def ProgR (w : World) (p : Option Addr) (np cp M : Nat) : Prop := np ≤ M ∧ ∀ id, id < M → ∃ (pp : Option Addr) (pg : List O4) (c : Nat), pg.length ≤ 1000 ∧ (pp = none → c = 0) ∧ OpsR w pp pg ∧
  ∀ V, Below w.heap.size w V → Calls Tryz.prog 75 #[.slice p np cp, .int .i64 id] V fun e w' => e = .returned (.slice pp pg.length c) ∧ w' = V
theorem ProgR.later {w w' : World} {p : Option Addr} {np cp M : Nat} (h : ProgR w p np cp M) (hb : Below w.heap.size w w') : ProgR w' p np cp M :=
  ⟨h.1, fun id hid => by
    obtain ⟨pp, pg, c, h1, h2, h3, h4⟩ := h.2 id hid
    exact ⟨pp, pg, c, h1, h2, h3.later hb, fun V hV => h4 V (hb.trans (hV.mono hb.size))⟩⟩

theorem two_at {w : World} {a : Nat} {v v2 : Value} {t : TypeId} (h : a = w.heap.size) : ∀ (j : Nat) (u : Value), [v, v2][j]? = some u → (w.alloc (.cells #[v, v2] t)).cell? ((⟨a, 0, none⟩ : Addr).add j) = some u := by
  subst h
  intro j u hu
  rcases j with _ | _ | j
  · simp at hu; subst hu; simp [Addr.add]
  · simp at hu; subst hu; simp [Addr.add]
  · simp at hu

/-- A world that was made. -/
structure WoNew (w V : World) (x : Wl) (y : Sy) (T : Nat → Prop) (sd : Sd) (M G g : Nat) : Prop where
  wo : WoAt V x
  sh : ShIs V y T sd M M
  ap : Mu.Ap y T M x.C
  apW : Mu.Ap y T M x.W
  co : CoIs V x.C y.S G Mu.cd0
  pk : x.pk = some ⟨g, 0, none⟩
  nk : x.nk = M + 2
  vc : V.cell? ⟨g, M, none⟩ = some (.iface 61 (.pointer (some ⟨x.C, 0, none⟩)))
  vw : V.cell? ⟨g, M + 1, none⟩ = some (.iface 129 (.agg #[.pointer (some ⟨x.C, 0, none⟩)]))
  dC : x.W ≠ x.C
  dB : x.W ≠ y.B
  gW : g ≠ x.W
  gC : g ≠ x.C
  gB : g ≠ y.B
  pe : x.pe = none ∧ x.ne = 0 ∧ x.ce = 0 ∧ x.picks = 0
  nB : w.heap.size ≤ y.B
  nW : w.heap.size ≤ x.W
  nC : w.heap.size ≤ x.C
  bel : Below w.heap.size w V
/-- What world.New leaves. -/
def NewPost (w : World) (c : Cfg) (n nc M : Nat) (e : Ending) (w' : World) : Prop := ∃ (x : Wl) (y : Sy) (T : Nat → Prop) (G g : Nat), e = .returned (.tuple #[.pointer (some ⟨x.W, 0, none⟩), .int .i64 0]) ∧ x.c = c ∧ WoNew w w' x y T (sd0 c n nc) M G g
theorem Wv.new {w V : World} {s0 W K G : Nat} {y : Sy} {T : Nat → Prop} {sd : Sd} {c : Cfg} {M : Nat} {pm : Option Addr} {cm : Nat} {pk : Option Addr} {ck : Nat} {xs : List Value}
    (h : Wv w V s0 W y T sd c M M (.pointer (some ⟨K, 0, none⟩)) M (M + 2) pm cm pk ck (xs ++ [.iface 61 (.pointer (some ⟨K, 0, none⟩)), .iface 129 (.agg #[.pointer (some ⟨K, 0, none⟩)])])) (hx : xs.length = M) (hco : CoIs V K y.S G Mu.cd0) (hK : s0 ≤ K) (hKW : K ≠ W) (hKk : ¬ rowB pk K) (hNB : w.heap.size ≤ y.B) :
    ∃ (x : Wl) (g : Nat), x.W = W ∧ x.c = c ∧ WoNew w V x y (TT s0 T V) sd M G g := by
  obtain ⟨g, rfl⟩ : ∃ g, pk = some ⟨g, 0, none⟩ := by
    obtain ⟨_, ⟨_, h2⟩ | ⟨g, cap, cur, e, _⟩⟩ := h.rk
    · omega
    · cases e; exact ⟨g, rfl⟩
  have hgW : W + 1 ≤ g := (owns_lt h.rk rfl).1
  have hB : y.B < s0 := h.old _ (.inl (.inr (.inl rfl)))
  have hgK : g ≠ K := fun e => hKk (e ▸ rfl)
  have hs := h.s0W
  refine ⟨⟨W, c, y.S, pm, M, cm, K, some ⟨g, 0, none⟩, M + 2, ck, 0, none, 0, 0⟩, g, rfl, rfl, ?_⟩
  refine ⟨⟨h.rc 0 _ rfl, h.rc 1 _ rfl, h.rc 2 _ rfl, h.rc 3 _ rfl, h.rc 4 _ rfl, h.rc 5 _ rfl, h.rc 6 _ rfl, h.rc 7 _ rfl, h.rc 8 _ rfl, h.rc 9 _ rfl, h.rc 10 _ rfl, h.rc 11 _ rfl, h.rc 12 _ rfl, h.fz⟩, h.sh, ⟨.inr ⟨hK, hco.lt⟩, fun e => ?_, fun e => ?_, fun e => ?_⟩, ⟨.inr ⟨hs, h.ltW⟩, fun e => ?_, fun e => ?_, fun e => ?_⟩, hco, rfl, rfl, Row.owns_cell h.rk M _ (by rw [← hx]; simp), Row.owns_cell h.rk (M + 1) _ (by rw [← hx]; simp), fun e => hKW e.symm, fun e => ?_, fun e => ?_, hgK, fun e => ?_, ⟨rfl, rfl, rfl, rfl⟩, hNB, Nat.le_trans h.ws hs, Nat.le_trans h.ws hK, h.bel⟩
  · have := h.old K (.inl e); omega
  · have := h.old K (.inr (.inl e)); omega
  · have := h.old K (.inr (.inr e)); omega
  · have := h.old W (.inl e); omega
  · have := h.old W (.inr (.inl e)); omega
  · have := h.old W (.inr (.inr e)); omega
  · have e2 : W = y.B := e
    omega
  · have e2 : g = W := e
    omega
  · omega

set_option maxRecDepth 100000 in
set_option maxHeartbeats 8000000 in
theorem new_any (c : Cfg) (n nc M : Nat) (p : Option Addr) (np cp : Nat) (w : World) (ht : Tab1 w) (hR : rightB c.b c.wd c.m c.r c.ce c.lg c.st = true) (hn : c.b * c.wd = (n : Int)) (hnc : c.ce = (nc : Int)) (hM : c.m = (M : Int)) (hM1 : 1 ≤ M) (hM8 : M ≤ 8) (hpr : ProgR w p np cp M) :
    Calls Tryz.prog 38 #[(.agg #[.int .i64 c.b, .int .i64 c.wd, .int .i64 c.m, .int .i64 c.r, .int .i64 c.ce, .int .i64 c.lg, .int .i64 c.st]), .slice p np cp] w (NewPost w c n nc M) := by
  have hA : Below w.heap.size w (w.alloc (.cells #[.int .i64 c.b, .int .i64 c.wd, .int .i64 c.m, .int .i64 c.r, .int .i64 c.ce, .int .i64 c.lg, .int .i64 c.st] 23)) := (Below.refl _ _).alloc (Nat.le_refl _) _
  have HN := Lib.hid (share_any1 c n nc M _ (ht.later hA) hR hn hnc hM hM1 hM8)
  have hbx : ∀ (o : Nat) (v : Value), [.int .i64 c.b, .int .i64 c.wd, .int .i64 c.m, .int .i64 c.r, .int .i64 c.ce, .int .i64 c.lg, .int .i64 c.st][o]? = some v → (w.alloc (.cells #[.int .i64 c.b, .int .i64 c.wd, .int .i64 c.m, .int .i64 c.r, .int .i64 c.ce, .int .i64 c.lg, .int .i64 c.st] 23)).cell? ⟨w.heap.size, o, none⟩ = some v := fun o v hv => by
    rw [World.cell?_alloc_new, ← hv, ← List.getElem?_toArray]
  have HC : Hid (∀ V, Below (w.alloc (.cells #[.int .i64 c.b, .int .i64 c.wd, .int .i64 c.m, .int .i64 c.r, .int .i64 c.ce, .int .i64 c.lg, .int .i64 c.st] 23)).heap.size (w.alloc (.cells #[.int .i64 c.b, .int .i64 c.wd, .int .i64 c.m, .int .i64 c.r, .int .i64 c.ce, .int .i64 c.lg, .int .i64 c.st] 23)) V → CellsL V w.heap.size [.int .i64 c.b, .int .i64 c.wd, .int .i64 c.m, .int .i64 c.r, .int .i64 c.ce, .int .i64 c.lg, .int .i64 c.st]) := Lib.hid fun V hb o v hv => (hb.cell (p := ⟨w.heap.size, o, none⟩) (by rw [World.size_alloc]; exact Nat.lt_succ_self _)).trans (hbx o v hv)
  have HA := Lib.hid hA
  have HPR := Lib.hid hpr
  have HM := Lib.hid (And.intro hM (And.intro hM1 hM8))
  have hgt : ¬ (M : Int) < (np : Int) := by have := hpr.1; omega
  have hAs : (w.alloc (.cells #[.int .i64 c.b, .int .i64 c.wd, .int .i64 c.m, .int .i64 c.r, .int .i64 c.ce, .int .i64 c.lg, .int .i64 c.st] 23)).heap.size = w.heap.size + 1 := by simp
  have HAS := Lib.hid hAs
  clear hA ht hR hn hnc hM hM1 hM8 hpr hbx hAs
  go_enter Tryz.func38, Tryz.ntmps38
  go_wp2_with (go_at_call 7; fail)
  refine HN.out.mono ?_
  rintro e w1 ⟨y, T, rfl, hsh, hT, hyS, hpx, hb⟩
  have HCL := Lib.hid (HC.out w1 hb)
  have hc2 := HCL.out 2 _ rfl
  have HM1 := HM.out.1
  rw [HM1] at hc2
  have k0 := HCL.out 0 _ rfl
  have k1 := HCL.out 1 _ rfl
  have k3 := HCL.out 3 _ rfl
  have k4 := HCL.out 4 _ rfl
  have k5 := HCL.out 5 _ rfl
  have k6 := HCL.out 6 _ rfl
  have hlw : w.heap.size < w1.heap.size := lt_of_cell hc2
  have HSH := Lib.hid hsh
  have HNB : Hid (w.heap.size ≤ y.B) := Lib.hid (by have := hT y.B (hsh.hT _ (.inr (.inl rfl))); have := HAS.out; omega)
  have HTT := Lib.hid (And.intro hT (And.intro hyS hpx))
  have HB := Lib.hid hb
  clear hsh hT hyS hpx hb HN HM1
  obtain ⟨W5, hW5⟩ : ∃ W5, w1.alloc (.cells #[.int .i64 c.b, .int .i64 c.wd, .int .i64 (M : Int), .int .i64 c.r, .int .i64 c.ce, .int .i64 c.lg, .int .i64 c.st, .pointer (some ⟨y.S, 0, none⟩), .slice none 0 0, .pointer none, .slice none 0 0, .int .i64 0, .slice none 0 0] 126) = W5 := ⟨_, rfl⟩
  have hb5 : Below w1.heap.size w1 W5 := by rw [← hW5]; exact (Below.refl _ _).alloc (Nat.le_refl _) _
  have hrc : CellsL W5 w1.heap.size (recL c y.S none 0 0 (.pointer none) none 0 0) := fun o v hv => by
    unfold recL at hv
    rw [HM.out.1] at hv
    rw [← hW5, World.cell?_alloc_new, ← hv, ← List.getElem?_toArray]
  have hfz : ∀ o, W5.frozen? ⟨w1.heap.size, o, none⟩ = false := fun o => by rw [← hW5]; simp
  have hz5 : W5.heap.size = w1.heap.size + 1 := by rw [← hW5]; simp
  have hWv : Wv w W5 w1.heap.size w1.heap.size y T (sd0 c n nc) c M M (.pointer none) 0 0 none 0 none 0 [] := by
    refine ⟨HSH.out.turn (S := fun _ => False) (Chg.of_below hb5) (fun _ e => e.elim) (fun _ e => e.elim) (fun k hk => hk.elim .inl (fun e => .inr e.1)) (fun k hk => .inl hk) (fun k hk => hk.elim (fun e => Nat.lt_of_lt_of_le (HSH.out.tl k e) hb5.size) (fun e => e.2)), ?_, hrc, hfz, Nat.le_refl _, ⟨[], rfl, .inl ⟨rfl, rfl⟩⟩, ⟨rfl, .inl ⟨rfl, rfl⟩⟩, fun k e => absurd e (rowB_none k), (HA.out.trans (HB.out.mono HA.out.size)).trans (hb5.mono (by omega)), by omega⟩
    rintro k (hk | hk | hk)
    · exact HSH.out.ltO hk
    · subst hk; exact HSH.out.ltS
    · obtain ⟨b, off, e, hc⟩ := HSH.out.pr 0 (by have := HM.out.2.1; omega)
      rw [e] at hk
      cases hk
      exact lt_of_cell hc
  have HWV := Lib.hid hWv
  have hbA5 : Below (w.alloc (.cells #[.int .i64 c.b, .int .i64 c.wd, .int .i64 c.m, .int .i64 c.r, .int .i64 c.ce, .int .i64 c.lg, .int .i64 c.st] 23)).heap.size (w.alloc (.cells #[.int .i64 c.b, .int .i64 c.wd, .int .i64 c.m, .int .i64 c.r, .int .i64 c.ce, .int .i64 c.lg, .int .i64 c.st] 23)) W5 := HB.out.trans (hb5.mono HB.out.size)
  have HBA := Lib.hid hbA5
  have hm5 : W5.cell? ⟨w.heap.size, 2, none⟩ = some (.int .i64 M) := by
    rw [← HM.out.1]; exact HC.out W5 HBA.out 2 _ rfl
  clear hb5 hrc hfz hWv hbA5
  go_wp2_with fail
  simp only [show decide (M < np) = false by simp; omega]
  clear hW5 hm5 hz5
  generalize w1.heap.size = W at *
  go_loopw [9, 10, 11, 32] (fun _ _ _ i wr => ∃ j : Nat, j ≤ M ∧ i = .int .i64 j ∧ ∃ pm cm pk ck xs, Wv w wr W W y T (sd0 c n nc) c M M (.pointer none) j j pm cm pk ck xs) (fun _ _ _ i _ => M - (intOf i).toNat)
  case atStart => exact ⟨0, Nat.zero_le _, rfl, _, _, _, _, _, HWV.out⟩
  case round =>
    obtain ⟨j, hj, rfl, pm, cm, pk, ck, xs, hwv⟩ := hrel
    clear HWV HBA HB HSH HTT HCL HC
    have HWV := Lib.hid hwv
    clear hwv
    by_cases hlt : j < M
    · have j1 : (j : Int) < (M : Int) := by omega
      obtain ⟨pp, pg, cpp, hpg, hpc, hops, hprog⟩ := HPR.out.2 j hlt
      have HPG := Lib.hid hprog
      have HOP := Lib.hid (hops.later HWV.out.bel)
      have HPC := Lib.hid (And.intro hpg hpc)
      have HLT := Lib.hid hlt
      clear hprog hops hpg hpc
      go_wp2_with (go_at_call 75; fail)
      refine (HPG.out wr HWV.out.bel).mono ?_
      rintro e w6 ⟨rfl, rfl⟩
      go_wp2_with (go_at_call 10; fail)
      refine (mnew_any w6 HWV.out.sh HM.out.1 j HLT.out pp pg HOP.out HPC.out.1 (fun e => HPC.out.2 e)).mono ?_
      rintro e w7 ⟨z, T', r, room, rfl, -, -, -, -, hmis, -, -, hnew, hb7⟩
      have HW7 := Lib.hid (HWV.out.later hb7)
      obtain ⟨zs, hrz⟩ := HW7.out.rm
      have HRZ := Lib.hid hrz
      have HB7 := Lib.hid hb7
      have hl7 := HW7.out.ltW
      have HL7 := Lib.hid hl7
      obtain ⟨i0, hinf, hz0, hz1, hz2⟩ := info_parts infoMut
      obtain ⟨i1, hinf1, hy0, hy1, hy2⟩ := info_parts infoMach
      have HI1 := Lib.hid (And.intro hinf1 (And.intro hy0 (And.intro hy1 hy2)))
      have nO1 : j + 1 ≤ maxLen := by unfold maxLen; have := HM.out.2.2; omega
      have nO2 : (j + 1) * 8 ≤ 140737488355328 := by have := HM.out.2.2; omega
      have nO3 : (j + 1) * 16 ≤ 140737488355328 := by have := HM.out.2.2; omega
      have c8 := HW7.out.rc 8 _ rfl
      clear hrz hb7 hnew hmis hinf1 hy0 hy1 hy2
      go_wp2_with (at_builtin; refine wpList_append_own_at _ rfl _ _ 62 rfl (W + 1) 30 i0 (.pointer none) 1 8 Tryz.underlying62 hinf hz0 hz1 hz2 rfl (by decide) _ _ _ rfl (owns_block HRZ.out (fun g hg => Below.heap_alloc _ _ _ (owns_lt HRZ.out hg).2)) ⟨w7.heap.size, 0, none⟩ 1 1 [.pointer (some ⟨z.M, 0, none⟩)] rfl rfl (one_at rfl) (by simp [Value.oneCell']) nO1 nO2 (by simp; omega) ?_)
      intro v' w8 hown hgrow _ hat
      obtain ⟨pm', cm', rfl, d8, f8, hwv8⟩ := Wv.pushM (m := 1) HW7.out HRZ.out ((Below.refl _ _).alloc (Nat.le_refl _) _) hown hgrow (by simpa using hat)
      have hl8 := Mu.lt_of_cell d8
      have HW8 := Lib.hid hwv8
      clear hown hgrow hat hwv8 c8 hl7
      have d10 : w8.cell? ⟨W, 10, none⟩ = some (.slice pk j ck) := (Row.other (by simp)).symm.trans (HW8.out.rc 10 _ rfl)
      obtain ⟨hinf1, hy0, hy1, hy2⟩ := HI1.out
      have HRK := Lib.hid HW8.out.rk
      have HS8 : Hid (W + 1 ≤ w8.heap.size) := Lib.hid (Nat.succ_le_of_lt hl8)
      go_wp2_with (at_builtin; refine wpList_append_own_at _ rfl _ _ 124 rfl (W + 1) 131 i1 .nilIface 1 16 Tryz.underlying124 hinf1 hy0 hy1 hy2 rfl (by decide) _ _ _ rfl (owns_block HRK.out (fun g hg => Below.heap_alloc _ _ _ (owns_lt HRK.out hg).2)) ⟨w8.heap.size, 0, none⟩ 1 1 [.iface 30 (.pointer (some ⟨z.M, 0, none⟩))] rfl (by simp) (one_at (by simp)) (by simp [Value.oneCell']) nO1 nO3 (by have := HS8.out; simp; omega) ?_)
      intro v9 w9 hown hgrow _ hat
      obtain ⟨pk', ck', rfl, e10, g10, hwv9, hC9, hR9⟩ := Wv.pushK (m := 1) HW8.out ((Below.refl _ _).alloc (Nat.le_refl _) _) hown hgrow (by simpa using hat)
      have HW9 := Lib.hid hwv9
      clear hC9 hR9
      have hl9 := Mu.lt_of_cell e10
      clear hown hgrow hat hwv9 d8 f8 d10 hl8
      go_wp2_with fail
      refine ⟨⟨j + 1, by omega, by go_num, _, _, _, _, _, HW9.out⟩, ?_⟩
      simp [intOf]; omega
    · obtain rfl : j = M := by omega
      go_wp2_with (go_at_call 29; fail)
      refine (cnew_any wr HWV.out.sh).mono ?_
      rintro e w7 ⟨K, G, room, rfl, -, hco, hst, hG, hGK, hK, hb7⟩
      have HW7 := Lib.hid (HWV.out.later hb7)
      have HCO := Lib.hid (And.intro hco (And.intro hst (And.intro hG (And.intro hGK (And.intro hK hb7)))))
      have c9 := HW7.out.rc 9 _ rfl
      have f9 := HW7.out.fz 9
      have hl7 := HW7.out.ltW
      have hWr := HWV.out.ltW
      have hKW : K ≠ W := by omega
      have hGW : G ≠ W := by omega
      clear hco hst hG hGK hK hb7
      go_wp2_with fail
      obtain ⟨W8, hW8⟩ : ∃ V, w7.setCell ⟨W, 9, none⟩ (.pointer (some ⟨K, 0, none⟩)) = V := ⟨_, rfl⟩
      have hw8 := HW7.out.coll (.pointer (some ⟨K, 0, none⟩))
      have hC78 : Chg (fun k => k = W) w7 W8 := by rw [← hW8]; exact (Chg.refl (fun k => k = W) w7).set (p := ⟨W, 9, none⟩) (.inl rfl) _
      rw [hW8] at hw8 ⊢
      have HW8 := Lib.hid hw8
      have HC78 := Lib.hid hC78
      have c9 := HW8.out.rc 9 _ rfl
      have c10 := HW8.out.rc 10 _ rfl
      have f10 := HW8.out.fz 10
      have hl8 := HW8.out.ltW
      have HRK := Lib.hid HW8.out.rk
      have HOW : Hid (∀ V, Below W8.heap.size W8 V → V.ownsRow (W + 1) 131 1 (.slice pk j ck) j xs) := Lib.hid fun V hb => owns_block HRK.out (fun g hg => hb.block g (owns_lt HRK.out hg).2)
      have HD1 : Hid (Below W8.heap.size W8 W8.drew) := Lib.hid (Below.refl _ _).drew
      have HS8 : Hid (W + 1 ≤ W8.heap.size) := Lib.hid hl8
      obtain ⟨i1, hinf1, hy0, hy1, hy2⟩ := info_parts infoMach
      have nO1 : j + 2 ≤ maxLen := by unfold maxLen; have := HM.out.2.2; omega
      have nO3 : (j + 2) * 16 ≤ 140737488355328 := by have := HM.out.2.2; omega
      clear hw8 hC78 hW8 hl7 hWr
      have hl9 : W < W8.heap.size := hl8
      go_region_law (refine step_append_own rfl (.tmp 81) (.tmp 93) 124 rfl (W + 1) 131 i1 .nilIface 1 16 Tryz.underlying124 hinf1 hy0 hy1 hy2 rfl (by decide) (.slice pk j ck) j xs rfl (by first | exact HOW.out _ (HD1.out.alloc HD1.out.size _) | exact HOW.out _ ((Below.refl _ _).alloc (Nat.le_refl _) _).drew) ⟨W8.heap.size, 0, none⟩ 2 2 [.iface 61 (.pointer (some ⟨K, 0, none⟩)), .iface 129 (.agg #[.pointer (some ⟨K, 0, none⟩)])] rfl rfl (by first | exact two_at rfl | exact two_at (w := W8.drew) rfl) (by simp [Value.oneCell']) nO1 nO3 (by have := HS8.out; first | (simp; done) | (simp; omega)) ?_; intro v' w9 hown hgrow hat; obtain ⟨pk', ck', rfl, e10, g10, hwv9, hC9, hR9⟩ := Wv.pushK (m := 2) HW8.out ((Below.refl _ _).drew.alloc (Nat.le_refl _) _) hown hgrow hat; have HW9 := Lib.hid hwv9; have HC9 := Lib.hid (And.intro hC9 hR9); have hl19 := Mu.lt_of_cell e10; clear hown hgrow hat hwv9 hC9 hR9)
      all_goals (generalize w9.setCell ⟨W, 10, none⟩ (.slice pk' (j + 2) ck') = W9 at *)
      all_goals go_wp2_with fail
      all_goals go_ret2
      all_goals (
        obtain ⟨hco, hst, hG, hGK, hK, hb7⟩ := HCO.out
        have hkr : ∀ k, rowB pk k → k < wr.heap.size := fun k hk => (owns_lt HWV.out.rk hk).2
        have hz8 : K < W8.heap.size := Nat.lt_of_lt_of_le hK HC78.out.size
        have hco9 : CoIs W9 K y.S G Mu.cd0 := (hco.chg HC78.out hKW).chg HC9.out.1 (fun e => e.elim (fun e => by have := hkr K e; omega) hKW)
        obtain ⟨x, g, e1, e2, hn⟩ := HW9.out.new (by have := HW8.out.rk.1; omega) hco9 (by have := HWV.out.ltW; omega) hKW (fun e => (HC9.out.2 K e).elim (fun e => by have := hkr K e; omega) (fun e => by omega)) HNB.out
        exact ⟨x, y, _, G, g, by rw [e1]; rfl, e2, hn⟩)
end Go.Proofs.YthpgnlcmpoldfaaGreatDoor.Wo

namespace Go.Proofs.YthpgnlcmpoldfaaGreatDoor.Wo
open Go.RowKit
open Blk (Cfg)
open Go.Proofs.YthpgnlcmpoldfaaGreatDoor.Addr (Tabs)
open Mu (Sy Sd ShIs CellsL ownS sd0 lt_of_cell O4 OpsR share_any1 mnew_any cnew_any CoIs)
open Stk (StIs)
open Go.Proofs.YthpgnlcmpoldfaaGreatDoor.Row (Chg rowB rowB_none other same cell_of_block frozen_of_block owns_chg owns_lt owns_slice owns_block push_row info_parts one_at step_append_own)

set_option maxRecDepth 100000 in
set_option maxHeartbeats 8000000 in
theorem new_long (c : Cfg) (n nc M : Nat) (p : Option Addr) (np cp : Nat) (w : World) (ht : Tab1 w) (hR : rightB c.b c.wd c.m c.r c.ce c.lg c.st = true) (hn : c.b * c.wd = (n : Int)) (hnc : c.ce = (nc : Int)) (hM : c.m = (M : Int)) (hM1 : 1 ≤ M) (hM8 : M ≤ 8) (hnp : np ≤ M) (pp : Option Addr) (pn cpp : Nat) (hpn : 1000 < pn) (hprog : ∀ V, Below w.heap.size w V → Calls Tryz.prog 75 #[.slice p np cp, .int .i64 0] V fun e w' => e = .returned (.slice pp pn cpp) ∧ w' = V) :
    Calls Tryz.prog 38 #[(.agg #[.int .i64 c.b, .int .i64 c.wd, .int .i64 c.m, .int .i64 c.r, .int .i64 c.ce, .int .i64 c.lg, .int .i64 c.st]), .slice p np cp] w (fun e w' => e = .returned (.tuple #[.pointer none, .int .i64 3]) ∧ Below w.heap.size w w') := by
  have hA : Below w.heap.size w (w.alloc (.cells #[.int .i64 c.b, .int .i64 c.wd, .int .i64 c.m, .int .i64 c.r, .int .i64 c.ce, .int .i64 c.lg, .int .i64 c.st] 23)) := (Below.refl _ _).alloc (Nat.le_refl _) _
  have HN := Lib.hid (share_any1 c n nc M _ (ht.later hA) hR hn hnc hM hM1 hM8)
  have hbx : ∀ (o : Nat) (v : Value), [.int .i64 c.b, .int .i64 c.wd, .int .i64 c.m, .int .i64 c.r, .int .i64 c.ce, .int .i64 c.lg, .int .i64 c.st][o]? = some v → (w.alloc (.cells #[.int .i64 c.b, .int .i64 c.wd, .int .i64 c.m, .int .i64 c.r, .int .i64 c.ce, .int .i64 c.lg, .int .i64 c.st] 23)).cell? ⟨w.heap.size, o, none⟩ = some v := fun o v hv => by
    rw [World.cell?_alloc_new, ← hv, ← List.getElem?_toArray]
  have HC : Hid (∀ V, Below (w.alloc (.cells #[.int .i64 c.b, .int .i64 c.wd, .int .i64 c.m, .int .i64 c.r, .int .i64 c.ce, .int .i64 c.lg, .int .i64 c.st] 23)).heap.size (w.alloc (.cells #[.int .i64 c.b, .int .i64 c.wd, .int .i64 c.m, .int .i64 c.r, .int .i64 c.ce, .int .i64 c.lg, .int .i64 c.st] 23)) V → CellsL V w.heap.size [.int .i64 c.b, .int .i64 c.wd, .int .i64 c.m, .int .i64 c.r, .int .i64 c.ce, .int .i64 c.lg, .int .i64 c.st]) := Lib.hid fun V hb o v hv => (hb.cell (p := ⟨w.heap.size, o, none⟩) (by rw [World.size_alloc]; exact Nat.lt_succ_self _)).trans (hbx o v hv)
  have HA := Lib.hid hA
  have HPR := Lib.hid hprog
  have HPN := Lib.hid hpn
  have HM := Lib.hid (And.intro hM (And.intro hM1 hM8))
  have hgt : ¬ (M : Int) < (np : Int) := by omega
  have hAs : (w.alloc (.cells #[.int .i64 c.b, .int .i64 c.wd, .int .i64 c.m, .int .i64 c.r, .int .i64 c.ce, .int .i64 c.lg, .int .i64 c.st] 23)).heap.size = w.heap.size + 1 := by simp
  have HAS := Lib.hid hAs
  clear hA ht hR hn hnc hM hM1 hM8 hprog hpn hbx hAs
  go_enter Tryz.func38, Tryz.ntmps38
  go_wp2_with (go_at_call 7; fail)
  refine HN.out.mono ?_
  rintro e w1 ⟨y, T, rfl, hsh, hT, hyS, hpx, hb⟩
  have HCL := Lib.hid (HC.out w1 hb)
  have hc2 := HCL.out 2 _ rfl
  have HM1 := HM.out.1
  rw [HM1] at hc2
  have k0 := HCL.out 0 _ rfl
  have k1 := HCL.out 1 _ rfl
  have k3 := HCL.out 3 _ rfl
  have k4 := HCL.out 4 _ rfl
  have k5 := HCL.out 5 _ rfl
  have k6 := HCL.out 6 _ rfl
  have hlw : w.heap.size < w1.heap.size := lt_of_cell hc2
  have HSH := Lib.hid hsh
  have HTT := Lib.hid (And.intro hT (And.intro hyS hpx))
  have HB := Lib.hid hb
  clear hsh hT hyS hpx hb HN HM1
  obtain ⟨W5, hW5⟩ : ∃ W5, w1.alloc (.cells #[.int .i64 c.b, .int .i64 c.wd, .int .i64 (M : Int), .int .i64 c.r, .int .i64 c.ce, .int .i64 c.lg, .int .i64 c.st, .pointer (some ⟨y.S, 0, none⟩), .slice none 0 0, .pointer none, .slice none 0 0, .int .i64 0, .slice none 0 0] 126) = W5 := ⟨_, rfl⟩
  have hb5 : Below w1.heap.size w1 W5 := by rw [← hW5]; exact (Below.refl _ _).alloc (Nat.le_refl _) _
  have hrc : CellsL W5 w1.heap.size (recL c y.S none 0 0 (.pointer none) none 0 0) := fun o v hv => by
    unfold recL at hv
    rw [HM.out.1] at hv
    rw [← hW5, World.cell?_alloc_new, ← hv, ← List.getElem?_toArray]
  have hfz : ∀ o, W5.frozen? ⟨w1.heap.size, o, none⟩ = false := fun o => by rw [← hW5]; simp
  have hz5 : W5.heap.size = w1.heap.size + 1 := by rw [← hW5]; simp
  have hWv : Wv w W5 w1.heap.size w1.heap.size y T (sd0 c n nc) c M M (.pointer none) 0 0 none 0 none 0 [] := by
    refine ⟨HSH.out.turn (S := fun _ => False) (Chg.of_below hb5) (fun _ e => e.elim) (fun _ e => e.elim) (fun k hk => hk.elim .inl (fun e => .inr e.1)) (fun k hk => .inl hk) (fun k hk => hk.elim (fun e => Nat.lt_of_lt_of_le (HSH.out.tl k e) hb5.size) (fun e => e.2)), ?_, hrc, hfz, Nat.le_refl _, ⟨[], rfl, .inl ⟨rfl, rfl⟩⟩, ⟨rfl, .inl ⟨rfl, rfl⟩⟩, fun k e => absurd e (rowB_none k), (HA.out.trans (HB.out.mono HA.out.size)).trans (hb5.mono (by omega)), by omega⟩
    rintro k (hk | hk | hk)
    · exact HSH.out.ltO hk
    · subst hk; exact HSH.out.ltS
    · obtain ⟨b, off, e, hc⟩ := HSH.out.pr 0 (by have := HM.out.2.1; omega)
      rw [e] at hk
      cases hk
      exact lt_of_cell hc
  have HWV := Lib.hid hWv
  have hbA5 : Below (w.alloc (.cells #[.int .i64 c.b, .int .i64 c.wd, .int .i64 c.m, .int .i64 c.r, .int .i64 c.ce, .int .i64 c.lg, .int .i64 c.st] 23)).heap.size (w.alloc (.cells #[.int .i64 c.b, .int .i64 c.wd, .int .i64 c.m, .int .i64 c.r, .int .i64 c.ce, .int .i64 c.lg, .int .i64 c.st] 23)) W5 := HB.out.trans (hb5.mono HB.out.size)
  have HBA := Lib.hid hbA5
  have hm5 : W5.cell? ⟨w.heap.size, 2, none⟩ = some (.int .i64 M) := by
    rw [← HM.out.1]; exact HC.out W5 HBA.out 2 _ rfl
  clear hb5 hrc hfz hWv hbA5
  go_wp2_with fail
  simp only [show decide (M < np) = false by simp; omega]
  clear hW5 hm5 hz5
  generalize w1.heap.size = W at *
  go_loopw [9, 10, 11, 32] (fun _ _ _ i wr => i = .int .i64 0 ∧ wr = W5) (fun _ _ _ i _ => M - (intOf i).toNat)
  case atStart => exact ⟨rfl, rfl⟩
  case round =>
    obtain ⟨rfl, rfl⟩ := hrel
    clear HBA HB HSH HTT HCL HC
    have hlt : 0 < M := by have := HM.out.2.1; omega
    have j1 : (0 : Int) < (M : Int) := by omega
    have HLT := Lib.hid hlt
    go_wp2_with (go_at_call 75; fail)
    refine (HPR.out wr HWV.out.bel).mono ?_
    rintro e w6 ⟨rfl, rfl⟩
    go_wp2_with (go_at_call 10; fail)
    refine (Mu.mnew_long w6 HWV.out.sh HM.out.1 0 HLT.out pp HPN.out).mono ?_
    rintro e w7 ⟨rfl, hb7⟩
    have HB7 := Lib.hid (HWV.out.bel.trans (hb7.mono HWV.out.bel.size))
    clear hb7
    go_wp2_with fail
    go_ret2
    exact ⟨rfl, HB7.out⟩
end Go.Proofs.YthpgnlcmpoldfaaGreatDoor.Wo
