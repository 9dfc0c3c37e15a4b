/-
  A graph in memory: all that it has, as rows; what stays when one number of a row turns.
-/
import Derived.Test.YtcdnbheoelnghaaDoorGrM1
import Derived.Test.YtcdnbheoelnghaaDoorRowB
namespace Go.Proofs.YtcdnbheoelnghaaDoor.Gra
open Go.RowKit Go.Proofs.YtcdnbheoelnghaaDoor.Opr
open Go.Proofs.YtcdnbheoelnghaaDoor.Row (rowB rowB_none Chg owns_chg owns_cell owns_lt owns_block owns_slice owns_cap cellsZ cellsZ_length cellsZ_at)

theorem owns_set {w : World} {base g cap n j : Nat} {e : TypeId} {xs : List Value} (h : w.ownsRow base e 1 (.slice (some ⟨g, 0, none⟩) n cap) n xs) (v : Value) :
    (w.setCell ⟨g, j, none⟩ v).ownsRow base e 1 (.slice (some ⟨g, 0, none⟩) n cap) n (xs.set j v) := by
  obtain ⟨h1, ⟨h2, _⟩ | ⟨g', c, cur, e1, e2, e3, e4, e5, e6, e7⟩⟩ := h
  · cases h2
  · cases e1
    refine ⟨by simpa using h1, .inr ⟨g, cap, cur.setIfInBounds j v, rfl, e2, ?_, e4, e5, by simpa using e6, ?_⟩⟩
    · show (w.heap.modify g _)[g]? = _
      rw [Array.getElem?_modify, if_pos rfl, e3]
      rfl
    · rw [← e7, Array.toList_setIfInBounds, List.take_set]
theorem owns_form {w : World} {base cap n : Nat} {e : TypeId} {p : Option Addr} {xs : List Value} (h : w.ownsRow base e 1 (.slice p n cap) n xs) (hn : 0 < n) :
    ∃ g, p = some ⟨g, 0, none⟩ := by
  obtain ⟨_, ⟨_, h2⟩ | ⟨g, c, cur, e1, r⟩⟩ := h
  · omega
  · cases e1
    exact ⟨g, rfl⟩
theorem owns_frozen {w : World} {base cap n g : Nat} {e : TypeId} {xs : List Value} (h : w.ownsRow base e 1 (.slice (some ⟨g, 0, none⟩) n cap) n xs) (j : Nat) : w.frozen? ⟨g, j, none⟩ = false := by
  obtain ⟨_, ⟨h2, _⟩ | ⟨g', c, cur, e1, e2, e3, r⟩⟩ := h
  · cases h2
  · cases e1
    simp [World.frozen?, e3]
theorem owns_made (w : World) (base : Nat) (e : TypeId) (cur : Array Value) (n : Nat) (hb : base ≤ w.heap.size) (hm : n ≤ maxLen) (hs : cur.size = n) :
    (w.alloc (.cells cur e)).ownsRow base e 1 (.slice (some ⟨w.heap.size, 0, none⟩) n n) n cur.toList :=
  ⟨by simp [hs], .inr ⟨w.heap.size, n, cur, rfl, hb, heap_alloc_new w _, Nat.le_refl _, hm, by rw [hs, Nat.mul_one], by rw [Nat.mul_one]; exact List.take_of_length_le (by simp [hs])⟩⟩

/-- A config. -/
structure C7 where
  b : Int
  wd : Int
  m : Int
  r : Int
  ce : Int
  lg : Int
  st : Int
/-- What there is: how many objects, how many rows of registers; row 2 is the cells, 3, 5, .. objects, 4, 6, .. registers. -/
structure GSt where
  nO : Nat
  nR : Nat
  E : Nat → List Int
/-- Is there such a row? -/
def GSt.V (s : GSt) (j : Nat) : Prop := j = 2 ∨ (∃ i, i < s.nO ∧ j = 3 + 2 * i) ∨ ∃ i, i < s.nR ∧ j = 4 + 2 * i
/-- A number of a row turns. -/
def GSt.set (s : GSt) (j k : Nat) (v : Int) : GSt := { s with E := fun i => if i = j then (s.E j).set k v else s.E i }
theorem GSt.set_len (s : GSt) (j k : Nat) (v : Int) (i : Nat) : ((s.set j k v).E i).length = (s.E i).length := by
  unfold GSt.set
  by_cases h : i = j
  · subst h; simp
  · simp [h]
theorem GSt.set_same (s : GSt) (j k : Nat) (v : Int) : (s.set j k v).E j = (s.E j).set k v := by simp [GSt.set]
theorem GSt.set_other (s : GSt) {j k : Nat} {v : Int} {i : Nat} (h : i ≠ j) : (s.set j k v).E i = s.E i := by simp [GSt.set, h]
theorem GSt.set_V {s : GSt} {j k : Nat} {v : Int} {i : Nat} : (s.set j k v).V i ↔ s.V i := Iff.rfl
/-- The values of rows. -/
def valsR (P : Nat → Option Addr) (K : Nat → Nat) (E : Nat → List Int) (f : Nat → Nat) (n : Nat) : List Value := (List.range n).map fun i => .slice (P (f i)) (E (f i)).length (K (f i))
theorem valsR_at {P : Nat → Option Addr} {K : Nat → Nat} {E : Nat → List Int} {f : Nat → Nat} {n i : Nat} (h : i < n) : (valsR P K E f n)[i]? = some (.slice (P (f i)) (E (f i)).length (K (f i))) := by
  simp [valsR, h]
theorem valsR_congr {P : Nat → Option Addr} {K : Nat → Nat} {E E' : Nat → List Int} {f : Nat → Nat} {n : Nat} (h : ∀ i, (E' i).length = (E i).length) : valsR P K E' f n = valsR P K E f n := by
  simp only [valsR, h]
def fO (i : Nat) : Nat := 3 + 2 * i
def fR (i : Nat) : Nat := 4 + 2 * i

/-- A graph in memory. -/
structure GIs (c : C7) (W : World) (G : Nat) (P : Nat → Option Addr) (K : Nat → Nat) (s : GSt) : Prop where
  cf : CellsAt W G [.int .i64 c.b, .int .i64 c.wd, .int .i64 c.m, .int .i64 c.r, .int .i64 c.ce, .int .i64 c.lg, .int .i64 c.st]
  o : W.cell? ⟨G, 7, none⟩ = some (.slice (P 0) s.nO (K 0))
  r : W.cell? ⟨G, 8, none⟩ = some (.slice (P 1) s.nR (K 1))
  c : W.cell? ⟨G, 9, none⟩ = some (.slice (P 2) (s.E 2).length (K 2))
  fz : ∀ j, W.frozen? ⟨G, j, none⟩ = false
  oO : W.ownsRow 0 32 1 (.slice (P 0) s.nO (K 0)) s.nO (valsR P K s.E fO s.nO)
  oR : W.ownsRow 0 32 1 (.slice (P 1) s.nR (K 1)) s.nR (valsR P K s.E fR s.nR)
  e : ∀ j, s.V j → W.ownsRow 0 3 1 (.slice (P j) (s.E j).length (K j)) (s.E j).length (cellsZ (s.E j))
  ap : ∀ i j x, i ≠ j → rowB (P i) x → ¬ rowB (P j) x
  ag : ∀ j, ¬ rowB (P j) G
  lt : ∀ j x, rowB (P j) x → x < W.heap.size
/-- The graph's blocks. -/
def mine (G : Nat) (P : Nat → Option Addr) (x : Nat) : Prop := x = G ∨ ∃ j, rowB (P j) x
theorem GIs.ltG {c : C7} {W : World} {G : Nat} {P : Nat → Option Addr} {K : Nat → Nat} {s : GSt} (h : GIs c W G P K s) : G < W.heap.size := lt_of_cell h.o
theorem GIs.ltM {c : C7} {W : World} {G : Nat} {P : Nat → Option Addr} {K : Nat → Nat} {s : GSt} (h : GIs c W G P K s) {x : Nat} (hx : mine G P x) : x < W.heap.size := by
  rcases hx with rfl | ⟨j, hj⟩
  · exact h.ltG
  · exact h.lt j x hj
theorem GIs.chg {c : C7} {W W' : World} {G : Nat} {P : Nat → Option Addr} {K : Nat → Nat} {s : GSt} {S : Nat → Prop} (h : GIs c W G P K s) (hc : Chg S W W') (hS : ∀ x, mine G P x → ¬ S x) : GIs c W' G P K s where
  cf := fun j v hv => (hc.cell (p := ⟨G, j, none⟩) h.ltG (hS _ (.inl rfl))).trans (h.cf j v hv)
  o := (hc.cell (p := ⟨G, _, none⟩) h.ltG (hS _ (.inl rfl))).trans h.o
  r := (hc.cell (p := ⟨G, _, none⟩) h.ltG (hS _ (.inl rfl))).trans h.r
  c := (hc.cell (p := ⟨G, _, none⟩) h.ltG (hS _ (.inl rfl))).trans h.c
  fz := fun j => (hc.frozen (p := ⟨G, j, none⟩) h.ltG (hS _ (.inl rfl))).trans (h.fz j)
  oO := owns_chg h.oO hc (fun g hg => hS g (.inr ⟨_, hg⟩))
  oR := owns_chg h.oR hc (fun g hg => hS g (.inr ⟨_, hg⟩))
  e := fun j hj => owns_chg (h.e j hj) hc (fun g hg => hS g (.inr ⟨_, hg⟩))
  ap := h.ap
  ag := h.ag
  lt := fun j x hx => Nat.lt_of_lt_of_le (h.lt j x hx) hc.size
theorem GIs.later {c : C7} {W W' : World} {G : Nat} {P : Nat → Option Addr} {K : Nat → Nat} {s : GSt} (h : GIs c W G P K s) (hb : Below W.heap.size W W') : GIs c W' G P K s :=
  h.chg (S := fun _ => False) (Chg.of_below hb) (fun _ _ e => e)
/-- A number of a row: where it lies, and what there is when it turns. -/
theorem GIs.set {c : C7} {W : World} {G : Nat} {P : Nat → Option Addr} {K : Nat → Nat} {s : GSt} (h : GIs c W G P K s) {j k : Nat} (hj : s.V j) (hk : k < (s.E j).length) :
    ∃ Q, P j = some ⟨Q, 0, none⟩ ∧ W.cell? ⟨Q, k, none⟩ = some (.int .i64 ((s.E j).getD k 0)) ∧ W.frozen? ⟨Q, k, none⟩ = false ∧ Q < W.heap.size ∧
      ∀ v, GIs c (W.setCell ⟨Q, k, none⟩ (.int .i64 v)) G P K (s.set j k v) ∧ Chg (mine G P) W (W.setCell ⟨Q, k, none⟩ (.int .i64 v)) := by
  have he := h.e j hj
  obtain ⟨Q, hQ⟩ := owns_form he (by omega)
  have hmj : rowB (P j) Q := by rw [hQ]; rfl
  rw [hQ] at he
  have hcell := owns_cell he k _ (cellsZ_at _ hk)
  refine ⟨Q, hQ, hcell, owns_frozen he k, lt_of_cell hcell, fun v => ?_⟩
  have hC : Chg (fun x => x = Q) W (W.setCell ⟨Q, k, none⟩ (.int .i64 v)) := (Chg.refl (fun x => x = Q) W).set (p := ⟨Q, k, none⟩) (.inl rfl) _
  have hCM : Chg (mine G P) W (W.setCell ⟨Q, k, none⟩ (.int .i64 v)) := hC.mono fun x hx => by subst hx; exact .inr ⟨j, hmj⟩
  have hoth : ∀ i, i ≠ j → ∀ g, rowB (P i) g → ¬ g = Q := fun i hi g hg e => by subst e; exact h.ap i j _ hi hg hmj
  have hG : ¬ G = Q := fun e => by subst e; exact h.ag j hmj
  have h0 : 0 ≠ j := by rintro rfl; rcases hj with h | ⟨i, _, h⟩ | ⟨i, _, h⟩ <;> omega
  have h1 : 1 ≠ j := by rintro rfl; rcases hj with h | ⟨i, _, h⟩ | ⟨i, _, h⟩ <;> omega
  refine ⟨?_, hCM⟩
  refine ⟨fun i u hv => (hC.cell (p := ⟨G, i, none⟩) h.ltG hG).trans (h.cf i u hv), (hC.cell (p := ⟨G, _, none⟩) h.ltG hG).trans h.o, (hC.cell (p := ⟨G, _, none⟩) h.ltG hG).trans h.r, ?_, fun i => (hC.frozen (p := ⟨G, i, none⟩) h.ltG hG).trans (h.fz i), ?_, ?_, ?_, h.ap, h.ag, fun i x hx => Nat.lt_of_lt_of_le (h.lt i x hx) hC.size⟩
  · rw [GSt.set_len]; exact (hC.cell (p := ⟨G, _, none⟩) h.ltG hG).trans h.c
  · show (W.setCell _ _).ownsRow 0 _ 1 _ s.nO (valsR P K (s.set j k v).E fO s.nO)
    rw [valsR_congr (GSt.set_len s j k v)]
    exact owns_chg h.oO hC (hoth 0 h0)
  · show (W.setCell _ _).ownsRow 0 _ 1 _ s.nR (valsR P K (s.set j k v).E fR s.nR)
    rw [valsR_congr (GSt.set_len s j k v)]
    exact owns_chg h.oR hC (hoth 1 h1)
  · intro i hi
    rw [GSt.set_len]
    by_cases hij : i = j
    · subst hij
      rw [GSt.set_same, hQ]
      have := owns_set (j := k) he (.int .i64 v)
      rw [show cellsZ ((s.E i).set k v) = (cellsZ (s.E i)).set k (.int .i64 v) by simp [cellsZ, List.map_set]]
      exact this
    · rw [GSt.set_other s hij]
      exact owns_chg (h.e i hi) hC (hoth i hij)
/-- Where a mutator's registers lie. -/
theorem GIs.rowR {c : C7} {W : World} {G : Nat} {P : Nat → Option Addr} {K : Nat → Nat} {s : GSt} (h : GIs c W G P K s) {m : Nat} (hm : m < s.nR) :
    ∃ R, P 1 = some ⟨R, 0, none⟩ ∧ W.cell? ⟨R, m, none⟩ = some (.slice (P (4 + 2 * m)) (s.E (4 + 2 * m)).length (K (4 + 2 * m))) := by
  have ho := h.oR
  obtain ⟨R, hR⟩ := owns_form ho (by omega)
  rw [hR] at ho
  exact ⟨R, hR, owns_cell ho m _ (valsR_at (f := fR) hm)⟩
/-- Where an object's fields lie. -/
theorem GIs.rowO {c : C7} {W : World} {G : Nat} {P : Nat → Option Addr} {K : Nat → Nat} {s : GSt} (h : GIs c W G P K s) {m : Nat} (hm : m < s.nO) :
    ∃ R, P 0 = some ⟨R, 0, none⟩ ∧ W.cell? ⟨R, m, none⟩ = some (.slice (P (3 + 2 * m)) (s.E (3 + 2 * m)).length (K (3 + 2 * m))) := by
  have ho := h.oO
  obtain ⟨R, hR⟩ := owns_form ho (by omega)
  rw [hR] at ho
  exact ⟨R, hR, owns_cell ho m _ (valsR_at (f := fO) hm)⟩
theorem GIs.at {c : C7} {W : World} {G : Nat} {P : Nat → Option Addr} {K : Nat → Nat} {s : GSt} (h : GIs c W G P K s) {j k : Nat} (hj : s.V j) (hk : k < (s.E j).length) :
    ∃ Q, P j = some ⟨Q, 0, none⟩ ∧ W.cell? ⟨Q, k, none⟩ = some (.int .i64 ((s.E j).getD k 0)) := by
  obtain ⟨Q, h1, h2, _⟩ := h.set hj hk
  exact ⟨Q, h1, h2⟩
end Go.Proofs.YtcdnbheoelnghaaDoor.Gra
