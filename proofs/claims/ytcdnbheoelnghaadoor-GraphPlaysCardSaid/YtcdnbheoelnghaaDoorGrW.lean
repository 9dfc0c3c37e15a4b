/-
  What the laws keep: a graph beside boxes; deeds, one behind the other.
-/
import Derived.Test.YtcdnbheoelnghaaDoorGrOpen
import Derived.Test.YtcdnbheoelnghaaDoorGrM5
import Derived.Test.YtcdnbheoelnghaaDoorGrQ
import Derived.Test.YtcdnbheoelnghaaDoorGrM4
namespace Go.Proofs.YtcdnbheoelnghaaDoor.Gra
open Go.RowKit Go.Proofs.YtcdnbheoelnghaaDoor.Opr
open Go.Proofs.YtcdnbheoelnghaaDoor.Row (rowB rowB_none Chg other same cell_of_block)

/-- The numbers of a config, as they lie. -/
def cv (c : C7) : List Value := [.int .i64 c.b, .int .i64 c.wd, .int .i64 c.m, .int .i64 c.r, .int .i64 c.ce, .int .i64 c.lg, .int .i64 c.st]
theorem heap_set {w : World} {p : Addr} {v : Value} {k : Nat} (h : k ≠ p.block) : (w.setCell p v).heap[k]? = w.heap[k]? := Below.heap_setCell w p v k h
theorem box7 {w1 W2 : World} {S : Nat} {d : C7} {a0 a1 a2 a3 a4 a5 a6 : Value} {t : TypeId} (hb : w1.heap[S]? = some (.cells #[a0, a1, a2, a3, a4, a5, a6] t))
    (hW : (((((((w1.setCell ⟨S, 0, none⟩ (.int .i64 d.b)).setCell ⟨S, 1, none⟩ (.int .i64 d.wd)).setCell ⟨S, 2, none⟩ (.int .i64 d.m)).setCell ⟨S, 3, none⟩ (.int .i64 d.r)).setCell ⟨S, 4, none⟩ (.int .i64 d.ce)).setCell ⟨S, 5, none⟩ (.int .i64 d.lg)).setCell ⟨S, 6, none⟩ (.int .i64 d.st)) = W2) :
    CellsAt W2 S (cv d) ∧ (∀ k, k ≠ S → W2.heap[k]? = w1.heap[k]?) ∧ W2.heap.size = w1.heap.size ∧ ∀ N, N ≤ S → Below N w1 W2 := by
  have hcell : ∀ j v, (#[a0, a1, a2, a3, a4, a5, a6] : Array Value)[j]? = some v → w1.cell? ⟨S, j, none⟩ = some v := fun j v h => by
    unfold World.cell?
    rw [show (⟨S, j, none⟩ : Addr).block = S from rfl, hb]
    exact h
  have h0 := hcell 0 _ rfl
  have h1 := hcell 1 _ rfl
  have h2 := hcell 2 _ rfl
  have h3 := hcell 3 _ rfl
  have h4 := hcell 4 _ rfl
  have h5 := hcell 5 _ rfl
  have h6 := hcell 6 _ rfl
  have o : ∀ (W : World) (i j : Nat) (v : Value), i ≠ j → (W.setCell ⟨S, i, none⟩ v).cell? ⟨S, j, none⟩ = W.cell? ⟨S, j, none⟩ := fun W i j v h => other (fun e => h (by injection e))
  have hB : ∀ N, N ≤ S → Below N w1 W2 := fun N hN => by
    rw [← hW]
    exact (((((((Below.refl _ _).setCell hN _).setCell hN _).setCell hN _).setCell hN _).setCell hN _).setCell hN _).setCell hN _
  have hK : ∀ k, k ≠ S → W2.heap[k]? = w1.heap[k]? := fun k hk => by
    rw [← hW, heap_set hk, heap_set hk, heap_set hk, heap_set hk, heap_set hk, heap_set hk, heap_set hk]
  have hZ : W2.heap.size = w1.heap.size := by
    rw [← hW]
    simp only [Row.size_setCell]
  subst hW
  refine ⟨?_, hK, hZ, hB⟩
  intro j v hv
  have hj : j < 7 := (List.getElem?_eq_some_iff.1 hv).1
  have h7 : j = 0 ∨ j = 1 ∨ j = 2 ∨ j = 3 ∨ j = 4 ∨ j = 5 ∨ j = 6 := by omega
  rcases h7 with rfl | rfl | rfl | rfl | rfl | rfl | rfl
  · cases hv; rw [o _ 6 0 _ (by decide), o _ 5 0 _ (by decide), o _ 4 0 _ (by decide), o _ 3 0 _ (by decide), o _ 2 0 _ (by decide), o _ 1 0 _ (by decide)]; exact same h0
  · cases hv; rw [o _ 6 1 _ (by decide), o _ 5 1 _ (by decide), o _ 4 1 _ (by decide), o _ 3 1 _ (by decide), o _ 2 1 _ (by decide)]; exact same (by rw [o _ 0 1 _ (by decide)]; exact h1)
  · cases hv; rw [o _ 6 2 _ (by decide), o _ 5 2 _ (by decide), o _ 4 2 _ (by decide), o _ 3 2 _ (by decide)]; exact same (by rw [o _ 1 2 _ (by decide), o _ 0 2 _ (by decide)]; exact h2)
  · cases hv; rw [o _ 6 3 _ (by decide), o _ 5 3 _ (by decide), o _ 4 3 _ (by decide)]; exact same (by rw [o _ 2 3 _ (by decide), o _ 1 3 _ (by decide), o _ 0 3 _ (by decide)]; exact h3)
  · cases hv; rw [o _ 6 4 _ (by decide), o _ 5 4 _ (by decide)]; exact same (by rw [o _ 3 4 _ (by decide), o _ 2 4 _ (by decide), o _ 1 4 _ (by decide), o _ 0 4 _ (by decide)]; exact h4)
  · cases hv; rw [o _ 6 5 _ (by decide)]; exact same (by rw [o _ 4 5 _ (by decide), o _ 3 5 _ (by decide), o _ 2 5 _ (by decide), o _ 1 5 _ (by decide), o _ 0 5 _ (by decide)]; exact h5)
  · cases hv; exact same (by rw [o _ 5 6 _ (by decide), o _ 4 6 _ (by decide), o _ 3 6 _ (by decide), o _ 2 6 _ (by decide), o _ 1 6 _ (by decide), o _ 0 6 _ (by decide)]; exact h6)

/-- What there is behind a deed, behind so many deeds. -/
def gS (c : C7) (s : GSt) (q : DQ) : GSt := (gdo c s q.1 q.2.1 q.2.2.1 q.2.2.2.1 q.2.2.2.2).2.2
def gV (c : C7) (s : GSt) (q : DQ) : Int := (gdo c s q.1 q.2.1 q.2.2.1 q.2.2.2.1 q.2.2.2.2).1
def gE (c : C7) (s : GSt) (q : DQ) : Int := (gdo c s q.1 q.2.1 q.2.2.1 q.2.2.2.1 q.2.2.2.2).2.1
def sAt (c : C7) (s : GSt) (l : List DQ) : Nat → GSt
  | 0 => s
  | j + 1 => gS c (sAt c s l j) (dq l j)
theorem sAt_wf {b wd lg st : Int} {M r nc : Nat} (l : List DQ) : ∀ j, GWf M r nc (sAt ⟨b, wd, M, r, nc, lg, st⟩ (s0 nc r M) l j) ∧ (sAt ⟨b, wd, M, r, nc, lg, st⟩ (s0 nc r M) l j).nO ≤ j
  | 0 => ⟨GWf.s0 M r nc, by show (s0 nc r M).nO ≤ 0; rw [s0_nO]; exact Nat.le_refl _⟩
  | j + 1 => by
    obtain ⟨h1, h2⟩ := sAt_wf (b := b) (wd := wd) (lg := lg) (st := st) (M := M) (r := r) (nc := nc) l j
    have h3 := h1.gdo b wd lg st (dq l j).1 (dq l j).2.1 (dq l j).2.2.1 (dq l j).2.2.2.1 (dq l j).2.2.2.2
    exact ⟨h3.1, Nat.le_trans h3.2 (by omega)⟩
theorem gdo_err (c : C7) (s : GSt) (m k a x cc : Int) (h : (gdo c s m k a x cc).2.1 ≠ 0) : (gdo c s m k a x cc).1 = 0 ∧ (gdo c s m k a x cc).2.2 = s := by
  unfold gdo at h ⊢
  split
  · exact ⟨rfl, rfl⟩
  · rename_i h1
    rw [if_neg h1] at h
    split
    · exact ⟨rfl, rfl⟩
    · rename_i h2
      rw [if_neg h2] at h
      unfold gd at h ⊢
      (repeat' split) <;> first | exact ⟨rfl, rfl⟩ | (simp_all; done) | skip

/-- A graph beside boxes, since a world. -/
structure Gb (w wr : World) (bx : List (List Value)) (c : C7) (G : Nat) (P : Nat → Option Addr) (K : Nat → Nat) (s : GSt) (M r nc : Nat) : Prop where
  is : GIs c wr G P K s
  wf : GWf M r nc s
  bel : Below w.heap.size w wr
  mi : ∀ x, mine G P x → w.heap.size + bx.length ≤ x
  box : ∀ i l, bx[i]? = some l → CellsAt wr (w.heap.size + i) l
  bxs : w.heap.size + bx.length ≤ wr.heap.size
theorem Gb.later {w wr w' : World} {bx : List (List Value)} {c : C7} {G : Nat} {P : Nat → Option Addr} {K : Nat → Nat} {s : GSt} {M r nc : Nat} (h : Gb w wr bx c G P K s M r nc) (hb : Below wr.heap.size wr w') : Gb w w' bx c G P K s M r nc :=
  ⟨h.is.later hb, h.wf, h.bel.trans (hb.mono h.bel.size), h.mi, fun i l hl => (h.box i l hl).later hb, Nat.le_trans h.bxs hb.size⟩
theorem Gb.ef {w wr w' : World} {bx : List (List Value)} {c : C7} {G : Nat} {P : Nat → Option Addr} {K : Nat → Nat} {s s' : GSt} {M r nc : Nat} (h : Gb w wr bx c G P K s M r nc) (hE : Ef c G P wr w' s') (wf : GWf M r nc s') : ∃ P' K', Gb w w' bx c G P' K' s' M r nc := by
  obtain ⟨P', K', h1, h2, h3⟩ := hE
  have hs := h.bel.size
  refine ⟨P', K', h1, wf, h.bel.trans (h2.below (fun k hk => by have := h.mi k hk; omega) hs), fun x hx => ?_, fun i l hl j v hv => ?_, Nat.le_trans h.bxs h2.size⟩
  · rcases h3 x hx with e | e
    · exact h.mi x e
    · have := h.bxs; omega
  · have hc := h.box i l hl j v hv
    have hi : i < bx.length := (List.getElem?_eq_some_iff.1 hl).1
    exact (h2.cell (p := ⟨w.heap.size + i, j, none⟩) (lt_of_cell hc) (fun e => by have : w.heap.size + bx.length ≤ w.heap.size + i := h.mi _ e; omega)).trans hc
/-- The same, wherever its rows lie. -/
def Gx (w wr : World) (bx : List (List Value)) (c : C7) (G : Nat) (s : GSt) (M r nc : Nat) : Prop := ∃ P K, Gb w wr bx c G P K s M r nc
theorem Gx.later {w wr w' : World} {bx : List (List Value)} {c : C7} {G : Nat} {s : GSt} {M r nc : Nat} (h : Gx w wr bx c G s M r nc) (hb : Below wr.heap.size wr w') : Gx w w' bx c G s M r nc := by
  obtain ⟨P, K, h⟩ := h
  exact ⟨P, K, h.later hb⟩
theorem Gx.bel {w wr : World} {bx : List (List Value)} {c : C7} {G : Nat} {s : GSt} {M r nc : Nat} (h : Gx w wr bx c G s M r nc) : Below w.heap.size w wr := by
  obtain ⟨P, K, h⟩ := h
  exact h.bel
theorem Gx.box {w wr : World} {bx : List (List Value)} {c : C7} {G : Nat} {s : GSt} {M r nc : Nat} (h : Gx w wr bx c G s M r nc) (i : Nat) (l : List Value) (hl : bx[i]? = some l) : CellsAt wr (w.heap.size + i) l := by
  obtain ⟨P, K, h⟩ := h
  exact h.box i l hl
theorem Gx.wf {w wr : World} {bx : List (List Value)} {c : C7} {G : Nat} {s : GSt} {M r nc : Nat} (h : Gx w wr bx c G s M r nc) : GWf M r nc s := by
  obtain ⟨P, K, h⟩ := h
  exact h.wf
theorem Gx.do {w wr : World} {bx : List (List Value)} {b wd lg st : Int} {G : Nat} {s : GSt} {M r nc : Nat} (h : Gx w wr bx ⟨b, wd, M, r, nc, lg, st⟩ G s M r nc) (hN : s.nO ≤ 1000000) (ht : FormTab w) (hl : LimTab w) (q : DQ) (V : World) (hV : Below wr.heap.size wr V) :
    Calls Tryd.prog 9 #[.pointer (some ⟨G, 0, none⟩), .int .i64 q.1, .agg #[.int .i64 q.2.1, .int .i64 q.2.2.1, .int .i64 q.2.2.2.1, .int .i64 q.2.2.2.2]] V fun e w' => e = .returned (.tuple #[.int .i64 (gV ⟨b, wd, M, r, nc, lg, st⟩ s q), .int .i64 (gE ⟨b, wd, M, r, nc, lg, st⟩ s q)]) ∧ Gx w w' bx ⟨b, wd, M, r, nc, lg, st⟩ G (gS ⟨b, wd, M, r, nc, lg, st⟩ s q) M r nc := by
  obtain ⟨P, K, h⟩ := h.later hV
  refine (do_any h.is h.wf hN (ht.later h.bel) (hl.later h.bel) q.1 q.2.1 q.2.2.1 q.2.2.2.1 q.2.2.2.2).mono ?_
  rintro e w' ⟨rfl, hE⟩
  exact ⟨rfl, h.ef hE (h.wf.gdo b wd lg st _ _ _ _ _).1⟩
theorem Gx.start {w W W3 : World} {c : C7} {bx : List (List Value)} {G M r nc : Nat} (_hc : c.m = (M : Int) ∧ c.r = (r : Int) ∧ c.ce = (nc : Int)) (hb : Below w.heap.size w W) (hbx : ∀ i l, bx[i]? = some l → CellsAt W (w.heap.size + i) l) (hz : w.heap.size + bx.length ≤ W.heap.size) (h : NewP c r nc M W G W3) : Gx w W3 bx c G (s0 nc r M) M r nc := by
  obtain ⟨P, K, h1, h2, h3⟩ := h
  exact ⟨P, K, h1, GWf.s0 M r nc, hb.trans (h2.mono hb.size), fun x hx => Nat.le_trans hz (h3 x hx), fun i l hl => (hbx i l hl).later h2, Nat.le_trans hz h2.size⟩
theorem gE_err {c : C7} {s : GSt} {q : DQ} (h : gE c s q ≠ 0) : gV c s q = 0 ∧ gS c s q = s := gdo_err c s _ _ _ _ _ h
theorem GWf.lens {M r nc : Nat} {s : GSt} (h : GWf M r nc s) (hr : r ≤ 1000) (hc : nc ≤ 1000) : ∀ j, s.V j → (s.E j).length ≤ 2097152 := by
  rintro j (rfl | ⟨i, hi, rfl⟩ | ⟨i, hi, rfl⟩)
  · rw [h.cel]; omega
  · have := h.len i hi; omega
  · rw [h.reg i (by rw [← h.nR]; exact hi)]; omega
theorem Gb.other {w wr w' : World} {bx : List (List Value)} {c : C7} {G : Nat} {P : Nat → Option Addr} {K : Nat → Nat} {s : GSt} {M r nc : Nat} {S : Nat → Prop} (h : Gb w wr bx c G P K s M r nc) (hc : Chg S wr w') (h1 : ∀ x, S x → w.heap.size + bx.length ≤ x) (h2 : ∀ x, mine G P x → ¬ S x) : Gb w w' bx c G P K s M r nc := by
  have hs := h.bel.size
  refine ⟨h.is.chg hc h2, h.wf, h.bel.trans (hc.below (fun k hk => by have := h1 k hk; omega) hs), h.mi, fun i l hl j v hv => ?_, Nat.le_trans h.bxs hc.size⟩
  have hcl := h.box i l hl j v hv
  have hi : i < bx.length := (List.getElem?_eq_some_iff.1 hl).1
  exact (hc.cell (p := ⟨w.heap.size + i, j, none⟩) (lt_of_cell hcl) (fun e => by have : w.heap.size + bx.length ≤ w.heap.size + i := h1 _ e; omega)).trans hcl
/-- Two graphs, side by side. -/
def Bt (w wr : World) (bx : List (List Value)) (c : C7) (G : Nat) (s : GSt) (G2 : Nat) (s2 : GSt) (M r nc : Nat) : Prop := ∃ P K P2 K2, Gb w wr bx c G P K s M r nc ∧ Gb w wr bx c G2 P2 K2 s2 M r nc ∧ ∀ x, mine G P x → ¬ mine G2 P2 x
section
variable {w wr w' : World} {bx : List (List Value)} {c : C7} {G G2 : Nat} {s s2 : GSt} {M r nc : Nat}
theorem Bt.later (h : Bt w wr bx c G s G2 s2 M r nc) (hb : Below wr.heap.size wr w') : Bt w w' bx c G s G2 s2 M r nc := by
  obtain ⟨P, K, P2, K2, h1, h2, h3⟩ := h
  exact ⟨P, K, P2, K2, h1.later hb, h2.later hb, h3⟩
theorem Bt.swap (h : Bt w wr bx c G s G2 s2 M r nc) : Bt w wr bx c G2 s2 G s M r nc := by
  obtain ⟨P, K, P2, K2, h1, h2, h3⟩ := h
  exact ⟨P2, K2, P, K, h2, h1, fun x hx e => h3 x e hx⟩
theorem Bt.fst (h : Bt w wr bx c G s G2 s2 M r nc) : Gx w wr bx c G s M r nc := by
  obtain ⟨P, K, P2, K2, h1, h2, h3⟩ := h
  exact ⟨P, K, h1⟩
theorem Bt.snd (h : Bt w wr bx c G s G2 s2 M r nc) : Gx w wr bx c G2 s2 M r nc := h.swap.fst
end
theorem Gx.copy {w wr : World} {bx : List (List Value)} {c : C7} {G : Nat} {s : GSt} {M r nc : Nat} (h : Gx w wr bx c G s M r nc) (hN : s.nO ≤ 1000000) (hM : M ≤ 1000) (hr : r ≤ 1000) (hc : nc ≤ 1000) (V : World) (hV : Below wr.heap.size wr V) :
    Calls Tryd.prog 21 #[.pointer (some ⟨G, 0, none⟩)] V fun e w' => ∃ G2, e = .returned (.pointer (some ⟨G2, 0, none⟩)) ∧ Bt w w' bx c G s G2 s M r nc := by
  obtain ⟨P, K, h⟩ := h.later hV
  refine (copy_any h.is hN (by rw [h.wf.nR]; omega) (h.wf.lens hr hc)).mono ?_
  rintro e w' ⟨G2, rfl, P2, K2, h1, h2, h3⟩
  refine ⟨G2, rfl, P, K, P2, K2, h.later h2, ⟨h1, h.wf, h.bel.trans (h2.mono h.bel.size), fun x hx => Nat.le_trans h.bxs (h3 x hx), fun i l hl => (h.box i l hl).later h2, Nat.le_trans h.bxs h2.size⟩, fun x hx e => ?_⟩
  have := h.is.ltM hx
  have := h3 x e
  omega
theorem Bt.do {w wr : World} {bx : List (List Value)} {b wd lg st : Int} {G G2 : Nat} {s s2 : GSt} {M r nc : Nat} (h : Bt w wr bx ⟨b, wd, M, r, nc, lg, st⟩ G s G2 s2 M r nc) (hN : s.nO ≤ 1000000) (ht : FormTab w) (hl : LimTab w) (q : DQ) (V : World) (hV : Below wr.heap.size wr V) :
    Calls Tryd.prog 9 #[.pointer (some ⟨G, 0, none⟩), .int .i64 q.1, .agg #[.int .i64 q.2.1, .int .i64 q.2.2.1, .int .i64 q.2.2.2.1, .int .i64 q.2.2.2.2]] V fun e w' => e = .returned (.tuple #[.int .i64 (gV ⟨b, wd, M, r, nc, lg, st⟩ s q), .int .i64 (gE ⟨b, wd, M, r, nc, lg, st⟩ s q)]) ∧ Bt w w' bx ⟨b, wd, M, r, nc, lg, st⟩ G (gS ⟨b, wd, M, r, nc, lg, st⟩ s q) G2 s2 M r nc := by
  obtain ⟨P, K, P2, K2, h, h2, h3⟩ := h.later hV
  refine (do_any h.is h.wf hN (ht.later h.bel) (hl.later h.bel) q.1 q.2.1 q.2.2.1 q.2.2.2.1 q.2.2.2.2).mono ?_
  rintro e w' ⟨rfl, P', K', k1, k2, k3⟩
  have hE : Ef ⟨b, wd, M, r, nc, lg, st⟩ G P V w' (gS ⟨b, wd, M, r, nc, lg, st⟩ s q) := ⟨P', K', k1, k2, k3⟩
  have hs := h.bel.size
  have hg : Gb w w' bx ⟨b, wd, M, r, nc, lg, st⟩ G P' K' (gS ⟨b, wd, M, r, nc, lg, st⟩ s q) M r nc := by
    refine ⟨k1, (h.wf.gdo b wd lg st _ _ _ _ _).1, h.bel.trans (k2.below (fun k hk => by have := h.mi k hk; omega) hs), fun x hx => ?_, fun i l hl j v hv => ?_, Nat.le_trans h.bxs k2.size⟩
    · rcases k3 x hx with e | e
      · exact h.mi x e
      · have := h.bxs; omega
    · have hc := h.box i l hl j v hv
      have hi : i < bx.length := (List.getElem?_eq_some_iff.1 hl).1
      exact (k2.cell (p := ⟨w.heap.size + i, j, none⟩) (lt_of_cell hc) (fun e => by have : w.heap.size + bx.length ≤ w.heap.size + i := h.mi _ e; omega)).trans hc
  refine ⟨rfl, P', K', P2, K2, hg, h2.other k2 h.mi (fun x hx e => h3 x e hx), fun x hx e => ?_⟩
  rcases k3 x hx with k | k
  · exact h3 x k e
  · have := h2.is.ltM e; omega
/-- What is told of it. -/
theorem Gx.reg {w wr : World} {bx : List (List Value)} {c : C7} {G : Nat} {s : GSt} {M r nc : Nat} (h : Gx w wr bx c G s M r nc) (V : World) (hV : Below wr.heap.size wr V) (m q : Int) :
    Calls Tryd.prog 17 #[.pointer (some ⟨G, 0, none⟩), .int .i64 m, .int .i64 q] V fun e w' => e = .returned (.int .i64 (rgI s m q)) ∧ w' = V := by
  obtain ⟨P, K, h⟩ := h.later hV
  exact reg_is h.is m q
theorem Gx.cell {w wr : World} {bx : List (List Value)} {c : C7} {G : Nat} {s : GSt} {M r nc : Nat} (h : Gx w wr bx c G s M r nc) (V : World) (hV : Below wr.heap.size wr V) (q : Int) :
    Calls Tryd.prog 19 #[.pointer (some ⟨G, 0, none⟩), .int .i64 q] V fun e w' => e = .returned (.int .i64 (atI (s.E 2) q)) ∧ w' = V := by
  obtain ⟨P, K, h⟩ := h.later hV
  exact cell_is h.is q
theorem Gx.count {w wr : World} {bx : List (List Value)} {c : C7} {G : Nat} {s : GSt} {M r nc : Nat} (h : Gx w wr bx c G s M r nc) (V : World) (hV : Below wr.heap.size wr V) :
    Calls Tryd.prog 11 #[.pointer (some ⟨G, 0, none⟩)] V fun e w' => e = .returned (.int .i64 s.nO) ∧ w' = V := by
  obtain ⟨P, K, h⟩ := h.later hV
  exact count_is h.is
theorem Gx.fields {w wr : World} {bx : List (List Value)} {c : C7} {G : Nat} {s : GSt} {M r nc : Nat} (h : Gx w wr bx c G s M r nc) (hN : s.nO ≤ 1000000) (V : World) (hV : Below wr.heap.size wr V) (id : Int) :
    Calls Tryd.prog 20 #[.pointer (some ⟨G, 0, none⟩), .int .i64 id] V (NewR V (fdI s id)) := by
  obtain ⟨P, K, h⟩ := h.later hV
  exact fields_is h.is hN h.wf.len id
theorem fdI_len {s : GSt} {M r nc : Nat} (h : GWf M r nc s) (id : Int) : (fdI s id).length ≤ 15 := by
  unfold fdI
  split
  · exact h.len _ (by omega)
  · exact Nat.zero_le _
end Go.Proofs.YtcdnbheoelnghaaDoor.Gra
