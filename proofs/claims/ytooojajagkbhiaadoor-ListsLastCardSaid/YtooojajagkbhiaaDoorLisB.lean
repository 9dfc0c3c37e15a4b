/-
  What Put does with a list that is there.
-/
import Derived.Test.YtooojajagkbhiaaDoorLisA
namespace Go.Proofs.YtooojajagkbhiaaDoor.Lis
open Go.RowKit
open Class (isB isB_true isB_false is_any)
open Blk (Cfg TbIs ret_int ret_bool rowB cellsK owns_block owns_lt owns_cell other same cell_of_block frozen_of_block)
open Go.Proofs.YtooojajagkbhiaaDoor.Row (Chg push_row step_append_own infoInt info_parts one_at)
open Arena (ArIs Two)
open Bits (SetIs)

def upd {α : Type} (f : Nat → α) (k : Nat) (v : α) : Nat → α := fun j => if j = k then v else f j
theorem upd_same {α : Type} (f : Nat → α) (k : Nat) (v : α) : upd f k v k = v := if_pos rfl
theorem upd_other {α : Type} (f : Nat → α) {k j : Nat} (v : α) (h : j ≠ k) : upd f k v j = f j := if_neg h

/-- The blocks that lists call their own. -/
def Own (L A G I J : Nat) (ps : Nat → Option Addr) (k : Nat) : Prop := k = L ∨ k = A ∨ k = G ∨ k = I ∨ k = J ∨ ∃ i, i < 4 ∧ rowB (ps i) k
/-- Five blocks apart. -/
structure Five (L A G I J : Nat) : Prop where
  la : L ≠ A
  lg : L ≠ G
  li : L ≠ I
  lj : L ≠ J
  ag : A ≠ G
  ai : A ≠ I
  aj : A ≠ J
  gi : G ≠ I
  gj : G ≠ J
  ij : I ≠ J
/-- Lists, their arena, their set. -/
structure Sit (w : World) (L A G T I J cap capS base : Nat) (ps : Nat → Option Addr) (cs : Nat → Nat) (rv : Nat → List Nat) (ws sw : List Nat) (ld st : Nat) : Prop where
  ls : LsIs w L A T I base ps cs rv
  ar : ArIs w A G cap ws ld st
  si : SetIs w I J (ws.length + 1) capS sw
  five : Five L A G I J
  ltG : G < w.heap.size
  ltJ : J < w.heap.size
  rows : ∀ k, k < 4 → ∀ g, rowB (ps k) g → g ≠ A ∧ g ≠ G ∧ g ≠ I ∧ g ≠ J
  bs : base ≤ w.heap.size
section
variable {w w' : World} {L A G T I J cap capS base : Nat} {ps : Nat → Option Addr} {cs : Nat → Nat} {rv : Nat → List Nat} {ws sw : List Nat} {ld st : Nat}
theorem Sit.ltI (h : Sit w L A G T I J cap capS base ps cs rv ws sw ld st) : I < w.heap.size := World.block_lt_of_cell? w _ h.si.cs
theorem Sit.ltO (h : Sit w L A G T I J cap capS base ps cs rv ws sw ld st) {k : Nat} (hk : Own L A G I J ps k) : k < w.heap.size := by
  have := h.ls.lt; have := h.ar.ltB; have := h.ltG; have := h.ltI; have := h.ltJ
  rcases hk with e | e | e | e | e | ⟨i, hi, e⟩
  · omega
  · omega
  · omega
  · omega
  · omega
  · exact (h.ls.ltR hi e).2
theorem set_kept {B G size cap : Nat} {ws : List Nat} (h : SetIs w B G size cap ws) (hB : w'.heap[B]? = w.heap[B]?) (hG : w'.heap[G]? = w.heap[G]?) : SetIs w' B G size cap ws :=
  ⟨h.small, h.row, h.capn, (cell_of_block (a := ⟨B, 0, none⟩) hB).trans h.cs, (cell_of_block (a := ⟨B, 1, none⟩) hB).trans h.cw, fun j hj => (cell_of_block (a := ⟨G, j, none⟩) hG).trans (h.at_ j hj), fun j hj => (frozen_of_block (a := ⟨G, j, none⟩) hG).trans (h.fz j hj)⟩
theorem ar_kept {B G cap ld st : Nat} {ws : List Nat} (h : ArIs w B G cap ws ld st) (hB : w'.heap[B]? = w.heap[B]?) (hG : w'.heap[G]? = w.heap[G]?) : ArIs w' B G cap ws ld st :=
  ⟨h.small, h.capn, h.ne, (cell_of_block (a := ⟨B, 0, none⟩) hB).trans h.cw, (cell_of_block (a := ⟨B, 1, none⟩) hB).trans h.cl, (cell_of_block (a := ⟨B, 2, none⟩) hB).trans h.cs, (frozen_of_block (a := ⟨B, 1, none⟩) hB).trans h.f1, (frozen_of_block (a := ⟨B, 2, none⟩) hB).trans h.f2,
    fun j hj => (cell_of_block (a := ⟨G, j, none⟩) hG).trans (h.at_ j hj), fun j hj => (frozen_of_block (a := ⟨G, j, none⟩) hG).trans (h.fz j hj)⟩
theorem Sit.kept (h : Sit w L A G T I J cap capS base ps cs rv ws sw ld st) (hk : ∀ k, Own L A G I J ps k → w'.heap[k]? = w.heap[k]?) (hs : w.heap.size ≤ w'.heap.size) : Sit w' L A G T I J cap capS base ps cs rv ws sw ld st :=
  ⟨h.ls.kept (hk _ (.inl rfl)) (fun k h4 g hg => hk g (.inr (.inr (.inr (.inr (.inr ⟨k, h4, hg⟩)))))), ar_kept h.ar (hk _ (.inr (.inl rfl))) (hk _ (.inr (.inr (.inl rfl)))), set_kept h.si (hk _ (.inr (.inr (.inr (.inl rfl))))) (hk _ (.inr (.inr (.inr (.inr (.inl rfl)))))), h.five, Nat.lt_of_lt_of_le h.ltG hs, Nat.lt_of_lt_of_le h.ltJ hs, h.rows, Nat.le_trans h.bs hs⟩
theorem Sit.drewN (h : Sit w L A G T I J cap capS base ps cs rv ws sw ld st) (n : Nat) : Sit (w.drewN n) L A G T I J cap capS base ps cs rv ws sw ld st := h.kept (fun _ _ => rfl) (Nat.le_refl _)
theorem Sit.later (h : Sit w L A G T I J cap capS base ps cs rv ws sw ld st) (hb : Below w.heap.size w w') : Sit w' L A G T I J cap capS base ps cs rv ws sw ld st := h.kept (fun k hk => hb.block k (h.ltO hk)) hb.size
theorem Sit.chg {S : Nat → Prop} (h : Sit w L A G T I J cap capS base ps cs rv ws sw ld st) (hc : Chg S w w') (hS : ∀ k, Own L A G I J ps k → ¬ S k) : Sit w' L A G T I J cap capS base ps cs rv ws sw ld st := h.kept (fun k hk => hc.block k (h.ltO hk) (hS k hk)) hc.size
end

theorem own_two {L A G I J : Nat} {ps : Nat → Option Addr} {w w' : World} (h : Two A G w w') : Chg (Own L A G I J ps) w w' :=
  ⟨h.os, h.tape, h.output, h.size, fun k hk hn => h.block k hk (fun e => hn (.inr (.inl e))) (fun e => hn (.inr (.inr (.inl e))))⟩
theorem own_trans {S : Nat → Prop} {a b d : World} (h : Chg S a b) (k : Chg S b d) : Chg S a d := h.trans k (fun _ e => .inl e)

/-- A slot's link, where the lists are as they were. -/
theorem link_sit {L A G T I J cap capS base : Nat} {ps : Nat → Option Addr} {cs : Nat → Nat} {rv : Nat → List Nat} {ws sw : List Nat} {ld st : Nat} (w : World) (h : Sit w L A G T I J cap capS base ps cs rv ws sw ld st) (a to : Nat) (ha1 : 1 ≤ a) (ha : a ≤ ws.length) (hst : st < 1000000) (ht : to ≤ 1048576) :
    Calls Tryd.prog 37 #[.pointer (some ⟨L, 0, none⟩), .int .i64 a, .int .i64 to] w fun e w' => e = .returned (.tuple #[]) ∧
      Sit w' L A G T I J cap capS base ps cs rv (ws.set (a - 1) (Hdr.lk to)) sw ld (st + 1) ∧ Two A G w w' := by
  have hz : Arena.codeN ws.length (a : Int) = 0 := by unfold Arena.codeN; rw [if_neg (by omega), if_neg (by omega)]
  have e1 : Arena.putS ws (a : Int) (Hdr.lk to) = ws.set (a - 1) (Hdr.lk to) := by rw [Arena.putS, if_pos hz, Int.toNat_natCast]
  have e2 : Arena.oneN ws.length (a : Int) = 1 := if_pos hz
  refine (link_any (a : Int) to w h.ls h.ar h.ltG hst ht).mono ?_
  rintro e w' ⟨rfl, ha', h2⟩
  rw [e1, e2] at ha'
  have F := h.five
  exact ⟨rfl, ⟨h.ls.kept (h2.block _ h.ls.lt F.la F.lg) (fun k hk g hg => h2.block g (h.ls.ltR hk hg).2 (h.rows k hk g hg).1 (h.rows k hk g hg).2.1), ha', by rw [List.length_set]; exact set_kept h.si (h2.block _ h.ltI (Ne.symm F.ai) (Ne.symm F.gi)) (h2.block _ h.ltJ (Ne.symm F.aj) (Ne.symm F.gj)), F, Nat.lt_of_lt_of_le h.ltG h2.size, Nat.lt_of_lt_of_le h.ltJ h2.size, h.rows, Nat.le_trans h.bs h2.size⟩, h2⟩

/-- A number put into the set, where the rest is as it was. -/
theorem in_sit {L A G T I J cap capS base : Nat} {ps : Nat → Option Addr} {cs : Nat → Nat} {rv : Nat → List Nat} {ws sw : List Nat} {ld st : Nat} (w : World) (h : Sit w L A G T I J cap capS base ps cs rv ws sw ld st) (a : Nat) (x : Bool) (ha : a ≤ ws.length) (hx : x = !hasB sw a) :
    Calls Tryd.prog 30 #[.pointer (some ⟨I, 0, none⟩), .int .i64 a, .bool x] w fun e w' => e = .returned (.bool true) ∧
      Sit w' L A G T I J cap capS base ps cs rv ws (putW sw a) ld st ∧ Chg (Own L A G I J ps) w w' ∧ (∀ k, k ≠ J → w'.heap[k]? = w.heap[k]?) := by
  refine (Bits.put_turn I J _ capS sw a x w h.si h.five.ij (by omega) hx).mono ?_
  rintro e w' ⟨rfl, hs, hg, hsz⟩
  have hb : ∀ k, k ≠ J → w'.heap[k]? = w.heap[k]? := fun k hk => by
    by_cases hk2 : k < w.heap.size
    · exact hg.block k hk2 (fun e => hk (Option.some.inj e))
    · rw [Array.getElem?_eq_none (by omega), Array.getElem?_eq_none (by omega)]
  have F := h.five
  exact ⟨rfl, ⟨h.ls.kept (hb _ F.lj) (fun k hk g hg => hb g (h.rows k hk g hg).2.2.2), ar_kept h.ar (hb _ F.aj) (hb _ F.gj), hs, F, by rw [hsz]; exact h.ltG, by rw [hsz]; exact h.ltJ, h.rows, by rw [hsz]; exact h.bs⟩,
    ⟨hg.os, hg.tape, hg.output, Nat.le_of_eq hsz.symm, fun k _ hn => hb k (fun e => hn (.inr (.inr (.inr (.inr (.inl e))))))⟩, hb⟩

theorem heap_set {w : World} {p : Addr} {v : Value} {k : Nat} (h : k ≠ p.block) : (w.setCell p v).heap[k]? = w.heap[k]? := Below.heap_setCell w p v k h
/-- A list's row laid anew. -/
theorem Sit.lay {w w3 : World} {L A G T I J cap capS base : Nat} {ps : Nat → Option Addr} {cs : Nat → Nat} {rv : Nat → List Nat} {ws sw : List Nat} {ld st : Nat} (h : Sit w L A G T I J cap capS base ps cs rv ws sw ld st) {k : Nat} (hk : k < 4) {p' : Option Addr} {c' : Nat} {l : List Nat} (hl : l.length ≤ 1000000)
    (hc : Chg (rowB (ps k)) w w3) (ho : w3.ownsRow base 3 1 (.slice p' l.length c') l.length (cellsK l)) (hR : ∀ g, rowB p' g → rowB (ps k) g ∨ w.heap.size ≤ g) :
    Sit (w3.setCell ⟨L, 3 + k, none⟩ (.slice p' l.length c')) L A G T I J cap capS base (upd ps k p') (upd cs k c') (upd rv k l) ws sw ld st ∧
      Chg (Own L A G I J ps) w (w3.setCell ⟨L, 3 + k, none⟩ (.slice p' l.length c')) ∧ (∀ j, Own L A G I J (upd ps k p') j → Own L A G I J ps j ∨ w.heap.size ≤ j) ∧
      w3.cell? ⟨L, 3 + k, none⟩ = some (.slice (ps k) (rv k).length (cs k)) ∧ w3.frozen? ⟨L, 3 + k, none⟩ = false := by
  have F := h.five
  have hL3 : w3.heap[L]? = w.heap[L]? := hc.block L h.ls.lt (h.ls.nL k hk)
  have h3 : ∀ j, Own L A G I J ps j → ¬ rowB (ps k) j → (w3.setCell ⟨L, 3 + k, none⟩ (.slice p' l.length c')).heap[j]? = w.heap[j]? ∨ j = L := fun j hj hn => by
    by_cases e : j = L
    · exact .inr e
    · exact .inl ((heap_set e).trans (hc.block j (h.ltO hj) hn))
  have nRow : ∀ j, j = A ∨ j = G ∨ j = I ∨ j = J → ¬ rowB (ps k) j := fun j hj hr => by
    have := h.rows k hk j hr
    rcases hj with e | e | e | e
    · exact this.1 e
    · exact this.2.1 e
    · exact this.2.2.1 e
    · exact this.2.2.2 e
  have hA := (h3 A (.inr (.inl rfl)) (nRow A (.inl rfl))).resolve_right (Ne.symm F.la)
  have hG := (h3 G (.inr (.inr (.inl rfl))) (nRow G (.inr (.inl rfl)))).resolve_right (Ne.symm F.lg)
  have hI := (h3 I (.inr (.inr (.inr (.inl rfl)))) (nRow I (.inr (.inr (.inl rfl))))).resolve_right (Ne.symm F.li)
  have hJ := (h3 J (.inr (.inr (.inr (.inr (.inl rfl))))) (nRow J (.inr (.inr (.inr rfl))))).resolve_right (Ne.symm F.lj)
  have nL' : ¬ rowB p' L := fun e => (hR L e).elim (h.ls.nL k hk) (by have := h.ls.lt; omega)
  have hcell : ∀ j, w3.cell? ⟨L, j, none⟩ = w.cell? ⟨L, j, none⟩ := fun j => cell_of_block (a := ⟨L, j, none⟩) hL3
  have hfro : ∀ j, w3.frozen? ⟨L, j, none⟩ = w.frozen? ⟨L, j, none⟩ := fun j => frozen_of_block (a := ⟨L, j, none⟩) hL3
  have hsz : w.heap.size ≤ (w3.setCell ⟨L, 3 + k, none⟩ (.slice p' l.length c')).heap.size := by simpa [World.setCell] using hc.size
  refine ⟨⟨⟨?_, ?_, ?_, fun j hj => ?_, fun j hj => ?_, fun j hj => ?_, fun j hj => ?_, fun i j hi hj hij g hg => ?_, fun j hj hr => ?_⟩, ar_kept h.ar hA hG, set_kept h.si hI hJ, F, Nat.lt_of_lt_of_le h.ltG hsz, Nat.lt_of_lt_of_le h.ltJ hsz, fun j hj g hg => ?_, Nat.le_trans h.bs hsz⟩,
    Chg.set (S := Own L A G I J ps) (hc.mono fun g hg => .inr (.inr (.inr (.inr (.inr ⟨k, hk, hg⟩))))) (.inl (.inl rfl)) _, fun j hj => ?_, (hcell _).trans (h.ls.cv k hk), (hfro _).trans (h.ls.fv k hk)⟩
  · exact (other (by first | (simp; done) | (simp; omega))).trans ((hcell 0).trans h.ls.ca)
  · exact (other (by first | (simp; done) | (simp; omega))).trans ((hcell 1).trans h.ls.ct)
  · exact (other (by first | (simp; done) | (simp; omega))).trans ((hcell 2).trans h.ls.ci)
  · by_cases e : j = k
    · subst e
      rw [upd_same, upd_same, upd_same]
      exact same ((hcell _).trans (h.ls.cv j hj))
    · rw [upd_other _ _ e, upd_other _ _ e, upd_other _ _ e]
      exact (other (by first | (simp; done) | (simp; omega))).trans ((hcell _).trans (h.ls.cv j hj))
  · exact (World.frozen?_setCell ..).trans ((hfro _).trans (h.ls.fv j hj))
  · by_cases e : j = k
    · subst e
      rw [upd_same, upd_same, upd_same]
      exact owns_block ho (fun g hg => heap_set (fun e => nL' (by rw [← (show g = L from e)]; exact hg)))
    · rw [upd_other _ _ e, upd_other _ _ e, upd_other _ _ e]
      exact owns_block (h.ls.own j hj) (fun g hg => (heap_set (fun e2 => h.ls.nL j hj (by rw [← (show g = L from e2)]; exact hg))).trans (hc.block g (h.ls.ltR hj hg).2 (h.ls.two j k hj hk e g hg)))
  · by_cases e : j = k
    · subst e; rw [upd_same]; exact hl
    · rw [upd_other _ _ e]; exact h.ls.len j hj
  · by_cases e1 : i = k
    · subst e1
      rw [upd_same] at hg
      rw [upd_other _ _ (Ne.symm hij)]
      intro hr
      exact (hR g hg).elim (fun e => h.ls.two i j hi hj hij g e hr) (by have := (h.ls.ltR hj hr).2; omega)
    · rw [upd_other _ _ e1] at hg
      by_cases e2 : j = k
      · subst e2
        rw [upd_same]
        intro hr
        exact (hR g hr).elim (fun e => h.ls.two i j hi hj hij g hg e) (by have := (h.ls.ltR hi hg).2; omega)
      · rw [upd_other _ _ e2]
        exact h.ls.two i j hi hj hij g hg
  · by_cases e : j = k
    · subst e; rw [upd_same] at hr; exact nL' hr
    · rw [upd_other _ _ e] at hr; exact h.ls.nL j hj hr
  · by_cases e : j = k
    · subst e
      rw [upd_same] at hg
      rcases hR g hg with e | e
      · exact h.rows j hj g e
      · have := h.ar.ltB; have := h.ltG; have := h.ltI; have := h.ltJ
        exact ⟨by omega, by omega, by omega, by omega⟩
    · rw [upd_other _ _ e] at hg
      exact h.rows j hj g hg
  · rcases hj with e | e | e | e | e | ⟨i, hi, hr⟩
    · exact .inl (.inl e)
    · exact .inl (.inr (.inl e))
    · exact .inl (.inr (.inr (.inl e)))
    · exact .inl (.inr (.inr (.inr (.inl e))))
    · exact .inl (.inr (.inr (.inr (.inr (.inl e)))))
    · by_cases e : i = k
      · subst e
        rw [upd_same] at hr
        exact (hR j hr).imp (fun e => .inr (.inr (.inr (.inr (.inr ⟨i, hi, e⟩))))) id
      · rw [upd_other _ _ e] at hr
        exact .inl (.inr (.inr (.inr (.inr (.inr ⟨i, hi, hr⟩)))))
end Go.Proofs.YtooojajagkbhiaaDoor.Lis
