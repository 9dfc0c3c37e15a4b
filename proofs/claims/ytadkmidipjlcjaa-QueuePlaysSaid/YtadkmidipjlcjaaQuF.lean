/-
  A queue beside the law's own record of what each class has.
-/
import Derived.Test.YtadkmidipjlcjaaQuE
namespace Go.Proofs.Ytadkmidipjlcjaa.Qu
open Go.RowKit
open Go.Proofs.Ytadkmidipjlcjaa.Row

theorem quiet_left {P : Program} {f : FuncId} {args : Array Value} {w : World} {n : Nat} {v : Value}
    (h : Calls P f args (w.drewN n) fun e w' => e = .returned v ∧ w.drewN n = w') : Calls P f args (w.drewN n) fun e w'' => e = .returned v ∧ ∃ m, w'' = w.drewN m :=
  h.mono fun _ _ ⟨he, hm⟩ => ⟨he, n, hm.symm⟩

theorem rd_nil {w : World} {l : List Int} (h : Rd w none l) : l.length = 0 := by
  rcases h with ⟨_, rfl⟩ | ⟨g, off, e, _⟩
  · rfl
  · cases e
/-- A row's cells, for an append. -/
theorem rd_cells {w Y : World} {p : Option Addr} {l : List Int} (h : Rd w p l) (hb : Below w.heap.size w Y) : ∀ b, p = some b → ∀ j u, (cellsZ l)[j]? = some u → Y.cell? (b.add j) = some u := fun b hb' j u hj => by
  have hjl : j < l.length := by have := (List.getElem?_eq_some_iff.1 hj).1; rwa [cellsZ_length] at this
  obtain ⟨g, off, e, hc⟩ := (h.later hb).at hjl
  rw [hb'] at e
  cases e
  rw [cellsZ_at l hjl] at hj
  cases hj
  rw [Addr.add_lit]
  exact hc

/-- What is done, that came in, below S. -/
def DeedsP (S : Nat) (W : World) (p : Option Addr) (l : List (Nat × Int × Int)) : Prop := ∀ j, j < l.length → ∃ b off, p = some ⟨b, off, none⟩ ∧ b < S ∧ W.cell? ⟨b, off + j * 3, none⟩ = some (.int .u8 (((l.getD j (0, 0, 0)).1 : Nat) : Int)) ∧ W.cell? ⟨b, off + j * 3 + 1, none⟩ = some (.int .i64 (l.getD j (0, 0, 0)).2.1) ∧ W.cell? ⟨b, off + j * 3 + 2, none⟩ = some (.int .i64 (l.getD j (0, 0, 0)).2.2)
theorem DeedsP.below {S : Nat} {W W' : World} {p : Option Addr} {l : List (Nat × Int × Int)} (h : DeedsP S W p l) (hb : Below S W W') : DeedsP S W' p l := fun j hj => by
  obtain ⟨b, off, e, hb', h0, h1, h2⟩ := h j hj
  exact ⟨b, off, e, hb', (hb.cell (p := ⟨b, off + j * 3, none⟩) hb').trans h0, (hb.cell (p := ⟨b, off + j * 3 + 1, none⟩) hb').trans h1, (hb.cell (p := ⟨b, off + j * 3 + 2, none⟩) hb').trans h2⟩

/-- The law's blocks: its record, its rows. -/
def KP (R : Nat) (hp : Nat → Option Addr) (g : Nat) : Prop := g = R ∨ ∃ i, i < 4 ∧ rowB (hp i) g
/-- A queue with the rows rv beside the law's record of the rows lv. -/
structure Pq (S : Nat) (w wr : World) (Q R : Nat) (rv lv : Nat → List Int) (op : Nat) (hp : Nat → Option Addr) (hc : Nat → Nat) : Prop where
  st : ∃ ps cs, QuIs wr Q S ps cs rv op ∧ ∀ g, KP R hp g → ¬ Own Q ps g
  bel : Below S w wr
  cell : ∀ k, k < 4 → wr.cell? ⟨R, k, none⟩ = some (.slice (hp k) (lv k).length (hc k))
  fz : ∀ k, k < 4 → wr.frozen? ⟨R, k, none⟩ = false
  rd : ∀ k, k < 4 → Rd wr (hp k) (lv k)
  le : ∀ k, k < 4 → (lv k).length ≤ hc k
  nn : ∀ k, k < 4 → hp k = none → hc k = 0
  nR : ∀ k, k < 4 → ¬ rowB (hp k) R
  kl : ∀ g, KP R hp g → S ≤ g ∧ g < wr.heap.size
section
variable {S Q R op op' : Nat} {w wr w' : World} {rv lv rv' : Nat → List Int} {hp : Nat → Option Addr} {hc : Nat → Nat}
theorem Pq.qn (h : Pq S w wr Q R rv lv op hp hc) : Qn S w wr Q rv op :=
  have ⟨ps, cs, hs, _⟩ := h.st
  ⟨⟨ps, cs, hs⟩, h.bel⟩
/-- The queue's blocks turned. -/
theorem Pq.step {ps ps' : Nat → Option Addr} {cs' : Nat → Nat} (h : Pq S w wr Q R rv lv op hp hc) (hS : S ≤ w.heap.size) (ha : ∀ g, KP R hp g → ¬ Own Q ps g) (hl : ∀ g, Own Q ps g → S ≤ g) (hq : QuIs w' Q S ps' cs' rv' op') (hC : Chg (Own Q ps) wr w') (hB : ∀ g, Own Q ps' g → Own Q ps g ∨ wr.heap.size ≤ g) :
    Pq S w w' Q R rv' lv op' hp hc := by
  have hR : w'.heap[R]? = wr.heap[R]? := hC.block R (h.kl R (.inl rfl)).2 (ha R (.inl rfl))
  refine ⟨⟨ps', cs', hq, fun g hg e => (hB g e).elim (ha g hg) (fun x => by have := (h.kl g hg).2; omega)⟩, h.bel.trans (hC.below hl (Nat.le_trans hS h.bel.size)), fun k hk => (cell_of_block (a := ⟨R, k, none⟩) hR).trans (h.cell k hk), fun k hk => (frozen_of_block (a := ⟨R, k, none⟩) hR).trans (h.fz k hk),
    fun k hk => (h.rd k hk).chg hC (fun g hg => ha g (.inr ⟨k, hk, hg⟩)), h.le, h.nn, h.nR, fun g hg => ⟨(h.kl g hg).1, Nat.lt_of_lt_of_le (h.kl g hg).2 hC.size⟩⟩
theorem Pq.later (h : Pq S w wr Q R rv lv op hp hc) (hS : S ≤ w.heap.size) (hb : Below wr.heap.size wr w') : Pq S w w' Q R rv lv op hp hc :=
  have ⟨_, _, hs, ha⟩ := h.st
  h.step hS ha (fun _ hg => (hs.ltO hg).1) (hs.later hb) (Chg.of_below hb) (fun _ e => .inl e)
/-- The law's record of one class turned. -/
theorem Pq.lay (h : Pq S w wr Q R rv lv op hp hc) (hS : S ≤ w.heap.size) {ps : Nat → Option Addr} {cs : Nat → Nat} (hs : QuIs wr Q S ps cs rv op) (ha : ∀ g, KP R hp g → ¬ Own Q ps g) {k : Nat} (hk : k < 4) {p' : Option Addr} {c' : Nat} {l : List Int} (hr : Rd wr p' l) (hle : l.length ≤ c') (hn : p' = none → c' = 0) (hg : ∀ g, rowB p' g → KP R hp g ∧ g ≠ R ∨ ¬ Own Q ps g ∧ g ≠ R ∧ S ≤ g ∧ g < wr.heap.size) :
    Pq S w (wr.setCell ⟨R, k, none⟩ (.slice p' l.length c')) Q R rv (upd lv k l) op (upd hp k p') (upd hc k c') := by
  have hC : Chg (fun g => g = R) wr (wr.setCell ⟨R, k, none⟩ (.slice p' l.length c')) := Chg.set (S := fun g => g = R) (Chg.refl _ wr) (.inl rfl) _
  have hsz : (wr.setCell ⟨R, k, none⟩ (.slice p' l.length c')).heap.size = wr.heap.size := by simp [World.setCell]
  have hK : ∀ g, KP R (upd hp k p') g → (¬ Own Q ps g) ∧ S ≤ g ∧ g < wr.heap.size := fun g e => by
    rcases e with e | ⟨i, hi, e⟩
    · exact ⟨ha g (.inl e), h.kl g (.inl e)⟩
    · by_cases e2 : i = k
      · subst e2; rw [upd_same] at e
        rcases hg g e with ⟨x, _⟩ | ⟨x, _, y⟩
        · exact ⟨ha g x, h.kl g x⟩
        · exact ⟨x, y⟩
      · rw [upd_other _ _ e2] at e
        exact ⟨ha g (.inr ⟨i, hi, e⟩), h.kl g (.inr ⟨i, hi, e⟩)⟩
  refine ⟨⟨ps, cs, hs.chg hC (fun g hg' e => ha g (.inl e) hg'), fun g e => (hK g e).1⟩, h.bel.trans (hC.below (fun g e => e ▸ (h.kl R (.inl rfl)).1) (Nat.le_trans hS h.bel.size)), fun j hj => ?_, fun j hj => (World.frozen?_setCell ..).trans (h.fz j hj), fun j hj => ?_, fun j hj => ?_, fun j hj => ?_, fun j hj => ?_, fun g e => ⟨(hK g e).2.1, by rw [hsz]; exact (hK g e).2.2⟩⟩
  · by_cases e : j = k
    · subst e; rw [upd_same, upd_same, upd_same]; exact same (h.cell j hj)
    · rw [upd_other _ _ e, upd_other _ _ e, upd_other _ _ e]
      exact (other (by first | (simp; done) | (simp; omega))).trans (h.cell j hj)
  · by_cases e : j = k
    · subst e; rw [upd_same, upd_same]
      exact hr.chg hC (fun g hg' e => (hg g hg').elim (fun x => x.2 e) (fun x => x.2.1 e))
    · rw [upd_other _ _ e, upd_other _ _ e]
      exact (h.rd j hj).chg hC (fun g hg' e2 => h.nR j hj (e2 ▸ hg'))
  · by_cases e : j = k
    · subst e; rw [upd_same, upd_same]; exact hle
    · rw [upd_other _ _ e, upd_other _ _ e]; exact h.le j hj
  · by_cases e : j = k
    · subst e; rw [upd_same, upd_same]; exact hn
    · rw [upd_other _ _ e, upd_other _ _ e]; exact h.nn j hj
  · by_cases e : j = k
    · subst e; rw [upd_same]; exact fun x => (hg R x).elim (fun y => y.2 rfl) (fun y => y.2.1 rfl)
    · rw [upd_other _ _ e]; exact h.nR j hj
/-- The law's row without its first one. -/
theorem Pq.cut (h : Pq S w wr Q R rv lv op hp hc) (hS : S ≤ w.heap.size) {k g off : Nat} (hk : k < 4) {x : Int} {t : List Int} (he : lv k = x :: t) (hpk : hp k = some ⟨g, off, none⟩) (_hc1 : hc k ≠ 1) :
    Pq S w (wr.setCell ⟨R, k, none⟩ (.slice (some ⟨g, off + 1, none⟩) t.length (hc k - 1))) Q R rv (upd lv k t) op (upd hp k (some ⟨g, off + 1, none⟩)) (upd hc k (hc k - 1)) := by
  have hle := h.le k hk
  rw [he, List.length_cons] at hle
  obtain ⟨ps, cs, hs, ha⟩ := h.st
  refine h.lay hS hs ha hk ?_ (by omega) (fun e => by cases e) (fun g' e => .inl ?_)
  · have hr := h.rd k hk
    rw [he, hpk] at hr
    rcases hr with ⟨e, _⟩ | ⟨g', off', e, hcell⟩
    · cases e
    · cases e
      refine .inr ⟨g, off + 1, rfl, fun j hj => ?_⟩
      have := hcell (j + 1) (by rw [List.length_cons]; omega)
      rw [List.getD_cons_succ] at this
      rw [← this, show off + 1 + j = off + (j + 1) by omega]
  · cases e
    have hr : rowB (hp k) g := by rw [hpk]; rfl
    exact ⟨.inr ⟨k, hk, hr⟩, fun e => h.nR k hk (e ▸ hr)⟩
theorem Pq.last (h : Pq S w wr Q R rv lv op hp hc) (hS : S ≤ w.heap.size) {k g off : Nat} (hk : k < 4) {x : Int} (hpk : hp k = some ⟨g, off, none⟩) (_he : lv k = [x]) :
    Pq S w (wr.setCell ⟨R, k, none⟩ (.slice (some ⟨g, off, none⟩) 0 0)) Q R rv (upd lv k []) op (upd hp k (some ⟨g, off, none⟩)) (upd hc k 0) := by
  obtain ⟨ps, cs, hs, ha⟩ := h.st
  refine h.lay hS hs ha hk (l := []) (.inr ⟨g, off, rfl, fun j hj => by simp at hj⟩) (Nat.le_refl _) (fun e => by cases e) (fun g' e => .inl ?_)
  cases e
  have hr : rowB (hp k) g := by rw [hpk]; rfl
  exact ⟨.inr ⟨k, hk, hr⟩, fun e => h.nR k hk (e ▸ hr)⟩
/-- The law's row with one more, in a new block. -/
theorem Pq.more (h : Pq S w wr Q R rv lv op hp hc) (hS : S ≤ w.heap.size) (hb : Below wr.heap.size wr w') {k : Nat} (hk : k < 4) {p' : Option Addr} {c' : Nat} {l : List Int} (ho : w'.ownsRow wr.heap.size 3 1 (.slice p' l.length c') l.length (cellsZ l)) :
    Pq S w (w'.setCell ⟨R, k, none⟩ (.slice p' l.length c')) Q R rv (upd lv k l) op (upd hp k p') (upd hc k c') := by
  have h2 := h.later hS hb
  obtain ⟨ps, cs, hs, ha⟩ := h.st
  refine h2.lay hS (hs.later hb) ha hk (Rd.of_owns ho) (owns_cap ho).1 (fun e => ?_) (fun g hg => .inr ?_)
  · subst e
    obtain ⟨_, ⟨e1, _⟩ | ⟨_, _, _, e1, _⟩⟩ := ho
    · exact (Value.slice.inj e1).2.2
    · cases e1
  · have hg2 := owns_lt ho hg
    exact ⟨fun e => by have := (hs.ltO e).2; omega, fun e => by have := (h.kl R (.inl rfl)).2; omega, Nat.le_trans (Nat.le_trans hS h.bel.size) hg2.1, hg2.2⟩
/-- The queue's calls beside the law's record. -/
theorem Pq.put (h : Pq S w wr Q R rv lv op hp hc) (hS : S ≤ w.heap.size) (k : Nat) (hk : k < 4) (z : Int) (hz : z = k) (b : Int) (hb : 0 ≤ b) (hl : (rv k).length ≤ 1000000) :
    Calls Try.prog 9 #[.pointer (some ⟨Q, 0, none⟩), .int .i64 z, .int .i64 b] wr fun e w' => e = .returned (.int .i64 0) ∧ Pq S w w' Q R (upd rv k (rv k ++ [b])) lv op hp hc := by
  subst hz
  obtain ⟨ps, cs, hs, ha⟩ := h.st
  refine (put_good k hk b hb wr hs hl).mono ?_
  rintro e w' ⟨rfl, p', c', hQ, hC, hB⟩
  exact ⟨rfl, h.step hS ha (fun _ hg => (hs.ltO hg).1) hQ hC (fun g hg => Own.upd hk hB hg)⟩
theorem Pq.take (h : Pq S w wr Q R rv lv op hp hc) (hS : S ≤ w.heap.size) (k : Nat) (hk : k < 4) (z : Int) (hz : z = k) (x : Int) (l : List Int) (he : rv k = x :: l) (hop : op ≤ 1000000) :
    Calls Try.prog 6 #[.pointer (some ⟨Q, 0, none⟩), .int .i64 z] wr fun e w' => e = .returned (.tuple #[.int .i64 x, .int .i64 0]) ∧ Pq S w w' Q R (upd rv k l) lv (op + 1) hp hc := by
  subst hz
  obtain ⟨ps, cs, hs, ha⟩ := h.st
  refine (take_good k hk x l wr hs he hop).mono ?_
  rintro e w' ⟨rfl, p', c', hQ, hC, hB⟩
  exact ⟨rfl, h.step hS ha (fun _ hg => (hs.ltO hg).1) hQ (hC.mono (fun _ e => .inl e)) (fun g hg => Own.upd hk (fun g hg => .inl (hB g hg)) hg)⟩
theorem Pq.any (h : Pq S w wr Q R rv lv op hp hc) (hS : S ≤ w.heap.size) (k : Nat) (hk : k < 4) (x : Int) (l : List Int) (hn : ∀ j, j < k → rv j = []) (he : rv k = x :: l) (hop : op ≤ 1000000) :
    Calls Try.prog 7 #[.pointer (some ⟨Q, 0, none⟩)] wr fun e w' => e = .returned (.tuple #[.int .i64 x, .int .i64 k, .int .i64 0]) ∧ Pq S w w' Q R (upd rv k l) lv (op + 1) hp hc := by
  obtain ⟨ps, cs, hs, ha⟩ := h.st
  refine (any_good k hk x l wr hs hn he hop).mono ?_
  rintro e w' ⟨rfl, p', c', hQ, hC, hB⟩
  exact ⟨rfl, h.step hS ha (fun _ hg => (hs.ltO hg).1) hQ (hC.mono (fun _ e => .inl e)) (fun g hg => Own.upd hk (fun g hg => .inl (hB g hg)) hg)⟩
theorem Pq.done (n : Nat) (h : Pq S w wr Q R rv lv (n + 1) hp hc) (hS : S ≤ w.heap.size) (hn : n ≤ 1000000) :
    Calls Try.prog 8 #[.pointer (some ⟨Q, 0, none⟩)] wr fun e w' => e = .returned (.int .i64 0) ∧ Pq S w w' Q R rv lv n hp hc := by
  obtain ⟨ps, cs, hs, ha⟩ := h.st
  refine (done_good n wr hs hn).mono ?_
  rintro e w' ⟨rfl, hQ, hC⟩
  exact ⟨rfl, h.step hS ha (fun _ hg => (hs.ltO hg).1) hQ (hC.mono (fun _ e => .inl e)) (fun g hg => .inl hg)⟩
end
end Go.Proofs.Ytadkmidipjlcjaa.Qu
