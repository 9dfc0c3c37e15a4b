/-
  Slots lie apart; what always holds of a heap goes on to hold.
-/
import Derived.Test.YtcoolapancdioaaGreatDoorHpC
namespace Go.Proofs.YtcoolapancdioaaGreatDoor.Hp
open Go.RowKit
open Class (isB isB_true isB_false sizI sizI_bd roomI)
open Blk (Cfg ownB ownB_true blk kAt)
open Lis (upd upd_same upd_other)
open Go.Proofs.YtcoolapancdioaaGreatDoor.Addr (adrB adrB_true)

theorem siz_four {k : Int} (h : isB k = true) : sizI k = 2 ∨ sizI k = 4 ∨ sizI k = 8 ∨ sizI k = 16 := by
  obtain ⟨h1, h2⟩ := isB_true.1 h
  unfold sizI
  have : k = 0 ∨ k = 1 ∨ k = 2 ∨ k = 3 := by omega
  rcases this with rfl | rfl | rfl | rfl <;> simp
/-- Where a slot lies. -/
structure Geo (s : St) (a : Int) : Prop where
  cl : isB (cls s a) = true
  bl : blk s.c a < s.ks.length
  at_ : a = (blk s.c a : Int) * s.c.wd + 1 + Addr.offI s.c.wd a
  off0 : 0 ≤ Addr.offI s.c.wd a
  off1 : Addr.offI s.c.wd a + sizI (cls s a) ≤ s.c.wd
  mod : Addr.offI s.c.wd a % sizI (cls s a) = 0
  wd0 : 16 ≤ s.c.wd
theorem Wf.geo {s : St} (h : Wf s) {a : Int} (ho : own s a = true) : Geo s a := by
  obtain ⟨hA, hb1, hF, h0⟩ := ownB_true.1 ho
  obtain ⟨_, hB, hlt⟩ := Addr.finB_true.1 hF
  have hbd := h.own_bd ho
  have hRC := Blk.slots_bd h.right
  obtain ⟨g1, g2, g3, g4, g5⟩ := Addr.adr_parts hRC (show 1 ≤ a by omega) (by have := h.words; omega)
  have hd := (Addr.blkB_true.1 g1).1
  have hblk : ((Blk.blk s.c a : Nat) : Int) = (a - 1) / s.c.wd := by unfold Blk.blk; omega
  have hB' : isB (cls s a) = true := hB
  have hp : Addr.offI s.c.wd a / sizI (cls s a) < s.c.wd / sizI (cls s a) := by
    have := Class.perI_yes hB' (Class.wordsB_true.2 ⟨hRC.wd0, hRC.wd1⟩)
    rw [← this]; exact hlt
  have h0' : Addr.offI s.c.wd a % sizI (cls s a) = 0 := h0
  refine ⟨hB', hb1, by rw [hblk]; exact g3, g4, ?_, h0', hRC.wd0⟩
  rcases siz_four hB' with e | e | e | e <;> rw [e] at hp h0' ⊢ <;> omega
theorem Geo.le {s : St} {a : Int} (h : Geo s a) : a - 1 + sizI (cls s a) ≤ (s.ks.length : Int) * s.c.wd := by
  have h1 := h.at_
  have h2 := h.off1
  have h3 := h.wd0
  have h4 := h.bl
  have h5 : ((Blk.blk s.c a : Int) + 1) * s.c.wd ≤ (s.ks.length : Int) * s.c.wd := Int.mul_le_mul_of_nonneg_right (by omega) (by omega)
  rw [Int.add_mul, Int.one_mul] at h5
  omega
/-- What belongs to two slots is apart. -/
theorem Wf.apart {s : St} (h : Wf s) {a b : Int} (ha : own s a = true) (hb : own s b = true) {i j : Int} (hi : 0 ≤ i) (hj : 0 ≤ j) (hi2 : i < sizI (cls s a)) (hj2 : j < sizI (cls s b)) (e : a + i = b + j) : a = b ∧ i = j := by
  have ga := h.geo ha
  have gb := h.geo hb
  have a1 := ga.at_
  have a2 := ga.off0
  have a3 := ga.off1
  have a4 := ga.wd0
  have b1 := gb.at_
  have b2 := gb.off0
  have b3 := gb.off1
  rcases Nat.lt_trichotomy (Blk.blk s.c a) (Blk.blk s.c b) with hl | he | hl
  · have h5 : ((Blk.blk s.c a : Int) + 1) * s.c.wd ≤ (Blk.blk s.c b : Int) * s.c.wd := Int.mul_le_mul_of_nonneg_right (by omega) (by omega)
    rw [Int.add_mul, Int.one_mul] at h5
    omega
  · have hc : cls s a = cls s b := by unfold cls; rw [he]
    have a5 := ga.mod
    have b5 := gb.mod
    rw [he] at a1
    rw [← hc] at b3 b5 hj2
    rcases siz_four ga.cl with e4 | e4 | e4 | e4 <;> rw [e4] at a5 b5 hi2 hj2 <;> omega
  · have h5 : ((Blk.blk s.c b : Int) + 1) * s.c.wd ≤ (Blk.blk s.c a : Int) * s.c.wd := Int.mul_le_mul_of_nonneg_right (by omega) (by omega)
    rw [Int.add_mul, Int.one_mul] at h5
    omega
theorem Wf.in_ws {s : St} (h : Wf s) {a : Nat} (ho : own s a = true) : ((a - 1 : Nat) : Int) + sizI (cls s a) ≤ (s.ws.length : Int) ∧ ((a - 1 : Nat) : Int) + sizI (cls s a) ≤ (s.ks.length : Int) * s.c.wd ∧ 1 ≤ a ∧ 2 ≤ sizI (cls s a) := by
  have h1 := (h.geo ho).le
  have h2 := (h.own_bd ho).1
  have h3 := h.full
  have h4 : (s.ks.length : Int) * s.c.wd ≤ s.c.b * s.c.wd := Int.mul_le_mul_of_nonneg_right h3 (by have := (h.geo ho).wd0; omega)
  have h5 := h.words
  have h6 := (sizI_bd (h.geo ho).cl).1
  omega

/-- A word of a slot laid: what the first words of slots are then. -/
theorem Wf.wdA_set {s : St} (h : Wf s) {a b i v : Nat} (ha : own s a = true) (hb : own s b = true) (hi : (i : Int) < sizI (cls s a)) : Arena.wd (s.ws.set (a - 1 + i) v) (b - 1) = if b = a ∧ i = 0 then v else wdA s b := by
  have ga := h.in_ws ha
  have gb := h.in_ws hb
  rw [Arena.wd_set]
  by_cases e : b = a ∧ i = 0
  · rw [if_pos e, if_pos (by omega)]
  · rw [if_neg e, if_neg ?_]
    · rfl
    · intro hx
      have := h.apart (a := a) (b := b) ha hb (i := i) (j := 0) (by omega) (by omega) hi (by omega) (by omega)
      omega
theorem fresh_set {s : St} (h : Wf s) {a i v : Nat} (ha : own s a = true) (hi : (i : Int) < sizI (cls s a)) (j : Nat) (hj : (s.ks.length : Int) * s.c.wd ≤ (j : Int)) : Arena.wd (s.ws.set (a - 1 + i) v) j = 0 := by
  have ga := h.in_ws ha
  rw [Arena.wd_set, if_neg (by omega)]
  exact h.fresh j hj

theorem Wf.take {s : St} (h : Wf s) {k a : Nat} {l : List Nat} (he : s.hv k = a :: l) : Wf { s with hv := upd s.hv k l } := by
  refine ⟨h.right, h.words, h.full, fun j hj x hx => ?_, h.born, h.room, h.fresh⟩
  have hx' : x ∈ upd s.hv k l j := hx
  by_cases e : j = k
  · subst e
    rw [upd_same] at hx'
    exact h.free j hj x (by rw [he]; exact List.mem_cons_of_mem _ hx')
  · rw [upd_other _ _ e] at hx'
    exact h.free j hj x hx'
theorem Wf.put {s : St} (h : Wf s) {a x : Nat} (ho : own s a = true) (hn : bn s a = false) (hx : x ≤ 1048576) : Wf { s with hv := upd s.hv (cls s a) (a :: s.hv (cls s a)), ws := s.ws.set (a - 1) (Hdr.lk x) } := by
  have h2 : (0 : Int) < sizI (cls s a) := by have := (h.in_ws ho).2.2.2; omega
  have hw : ∀ b : Nat, own s b = true → Arena.wd (s.ws.set (a - 1) (Hdr.lk x)) (b - 1) = if b = a then Hdr.lk x else wdA s b := fun b hb => by
    have := h.wdA_set (i := 0) (v := Hdr.lk x) ho hb h2
    rw [Nat.add_zero] at this
    rw [this]
    simp
  have hk := Hdr.isOb_lk hx
  refine ⟨h.right, by show _ = ((s.ws.set (a - 1) (Hdr.lk x)).length : Int); rw [List.length_set]; exact h.words, h.full, fun j hj b hb => ?_, fun b hb => ?_, fun b hb hi => ?_, fun j hj => ?_⟩
  · have hb' : b ∈ upd s.hv (cls s a) (a :: s.hv (cls s a)) j := hb
    have hc : b = a ∧ j = cls s a ∨ b ∈ s.hv j := by
      by_cases e : j = cls s a
      · rw [e, upd_same] at hb'
        rcases List.mem_cons.1 hb' with e2 | e2
        · exact .inl ⟨e2, e⟩
        · right; rw [e]; exact e2
      · rw [upd_other _ _ e] at hb'; exact .inr hb'
    show own s b = true ∧ cls s b = j ∧ bn s b = false ∧ Hdr.isOb (Arena.wd (s.ws.set (a - 1) (Hdr.lk x)) (b - 1)) = false
    rcases hc with ⟨rfl, rfl⟩ | hm
    · exact ⟨ho, rfl, hn, by rw [hw b ho, if_pos rfl]; exact hk⟩
    · obtain ⟨c1, c2, c3, c4⟩ := h.free j hj b hm
      refine ⟨c1, c2, c3, ?_⟩
      rw [hw b c1]
      split
      · exact hk
      · exact c4
  · obtain ⟨c1, c2⟩ := h.born b hb
    refine ⟨c1, ?_⟩
    show Hdr.isOb (Arena.wd (s.ws.set (a - 1) (Hdr.lk x)) (b - 1)) = true
    have hb' : bn s b = true := hb
    rw [hw b c1, if_neg (fun e => by subst e; rw [hn] at hb'; cases hb')]
    exact c2
  · have hi' : Hdr.isOb (Arena.wd (s.ws.set (a - 1) (Hdr.lk x)) (b - 1)) = true := hi
    show Hdr.obK (Arena.wd (s.ws.set (a - 1) (Hdr.lk x)) (b - 1)) = cls s b
    rw [hw b hb] at hi' ⊢
    split at hi'
    · rw [hk] at hi'; cases hi'
    · rename_i e; rw [if_neg e]; exact h.room b hb hi'
  · have := fresh_set h (i := 0) (v := Hdr.lk x) ho h2 j hj
    rwa [Nat.add_zero] at this
/-- A field laid. -/
theorem Wf.store {s : St} (h : Wf s) {a f v : Nat} (ho : own s a = true) (hf : (f : Int) + 1 < sizI (cls s a)) : Wf { s with ws := s.ws.set (a + f) v } := by
  have hp := h.in_ws ho
  have e1 : a + f = a - 1 + (f + 1) := by omega
  have hw : ∀ b : Nat, own s b = true → Arena.wd (s.ws.set (a + f) v) (b - 1) = wdA s b := fun b hb => by
    rw [e1, h.wdA_set (i := f + 1) ho hb (by omega), if_neg (by omega)]
  refine ⟨h.right, by show _ = ((s.ws.set (a + f) v).length : Int); rw [List.length_set]; exact h.words, h.full, fun j hj b hb => ?_, fun b hb => ?_, fun b hb hi => ?_, fun j hj => ?_⟩
  · obtain ⟨c1, c2, c3, c4⟩ := h.free j hj b hb
    exact ⟨c1, c2, c3, by show Hdr.isOb (Arena.wd (s.ws.set (a + f) v) (b - 1)) = false; rw [hw b c1]; exact c4⟩
  · obtain ⟨c1, c2⟩ := h.born b hb
    exact ⟨c1, by show Hdr.isOb (Arena.wd (s.ws.set (a + f) v) (b - 1)) = true; rw [hw b c1]; exact c2⟩
  · have hi' : Hdr.isOb (Arena.wd (s.ws.set (a + f) v) (b - 1)) = true := hi
    show Hdr.obK (Arena.wd (s.ws.set (a + f) v) (b - 1)) = cls s b
    rw [hw b hb] at hi' ⊢
    exact h.room b hb hi'
  · show Arena.wd (s.ws.set (a + f) v) j = 0
    rw [e1]
    exact fresh_set h (i := f + 1) ho (by omega) j hj
/-- A header laid. -/
theorem Wf.begin {s : St} (h : Wf s) {a n : Nat} (ho : own s a = true) (hb : bn s a = false) (hf : fr s a = false) (hok : Hdr.okB (cls s a : Nat) (n : Nat) = true) : Wf { s with ws := s.ws.set (a - 1) (Hdr.obI (cls s a : Nat) (n : Nat)) } := by
  have h2 : (0 : Int) < sizI (cls s a) := by have := (h.in_ws ho).2.2.2; omega
  obtain ⟨i1, i2, i3⟩ := Hdr.isOb_ob hok
  generalize Hdr.obI (cls s a : Nat) (n : Nat) = x at *
  have hw : ∀ b : Nat, own s b = true → Arena.wd (s.ws.set (a - 1) x) (b - 1) = if b = a then x else wdA s b := fun b hb => by
    have := h.wdA_set (i := 0) (v := x) ho hb h2
    rw [Nat.add_zero] at this
    rw [this]
    simp
  refine ⟨h.right, by show _ = ((s.ws.set (a - 1) x).length : Int); rw [List.length_set]; exact h.words, h.full, fun j hj b hm => ?_, fun b hb => ?_, fun b hb hi => ?_, fun j hj => ?_⟩
  · obtain ⟨c1, c2, c3, c4⟩ := h.free j hj b hm
    refine ⟨c1, c2, c3, ?_⟩
    show Hdr.isOb (Arena.wd (s.ws.set (a - 1) x) (b - 1)) = false
    rw [hw b c1, if_neg (fun e => by subst e; exact fr_false.1 hf j hj hm)]
    exact c4
  · obtain ⟨c1, c2⟩ := h.born b hb
    refine ⟨c1, ?_⟩
    show Hdr.isOb (Arena.wd (s.ws.set (a - 1) x) (b - 1)) = true
    rw [hw b c1]
    split
    · exact i1
    · exact c2
  · have hi' : Hdr.isOb (Arena.wd (s.ws.set (a - 1) x) (b - 1)) = true := hi
    show Hdr.obK (Arena.wd (s.ws.set (a - 1) x) (b - 1)) = cls s b
    rw [hw b hb] at hi' ⊢
    split
    · rename_i e; subst e; exact i2
    · rename_i e; rw [if_neg e] at hi'; exact h.room b hb hi'
  · have := fresh_set h (i := 0) (v := x) ho h2 j hj
    rwa [Nat.add_zero] at this
/-- A slot in hand born; an object no longer. -/
theorem Wf.bear {s : St} (h : Wf s) {a : Nat} {bs : List Nat} (ho : own s a = true) (hf : fr s a = false) (hi : Hdr.isOb (wdA s a) = true) (hbs : ∀ b, hasB bs b = if b = a then true else bn s b) : Wf { s with bs := bs } := by
  refine ⟨h.right, h.words, h.full, fun j hj b hm => ?_, fun b hb => ?_, h.room, h.fresh⟩
  · obtain ⟨c1, c2, c3, c4⟩ := h.free j hj b hm
    refine ⟨c1, c2, ?_, c4⟩
    show hasB bs b = false
    rw [hbs b, if_neg (fun e => by subst e; exact fr_false.1 hf j hj hm)]
    exact c3
  · have hb' : hasB bs b = true := hb
    rw [hbs b] at hb'
    split at hb'
    · rename_i e; subst e; exact ⟨ho, hi⟩
    · exact h.born b hb'
theorem Wf.unbear {s : St} (h : Wf s) {a : Nat} {bs : List Nat} (hbs : ∀ b, hasB bs b = if b = a then false else bn s b) : Wf { s with bs := bs } := by
  refine ⟨h.right, h.words, h.full, fun j hj b hm => ?_, fun b hb => ?_, h.room, h.fresh⟩
  · obtain ⟨c1, c2, c3, c4⟩ := h.free j hj b hm
    refine ⟨c1, c2, ?_, c4⟩
    show hasB bs b = false
    rw [hbs b]
    split
    · rfl
    · exact c3
  · have hb' : hasB bs b = true := hb
    rw [hbs b] at hb'
    split at hb'
    · cases hb'
    · exact h.born b hb'

/-- A block assigned: whose slots there are then. -/
theorem kAt_snoc {ks : List Nat} {k j : Nat} (h : j < ks.length) : kAt (ks ++ [k]) j = kAt ks j := by
  simp [kAt, List.getD_eq_getElem?_getD, List.getElem?_append_left h]
theorem kAt_last {ks : List Nat} {k : Nat} : kAt (ks ++ [k]) ks.length = k := by simp [kAt, List.getD_eq_getElem?_getD]
theorem own_old {s : St} {k : Nat} {a : Int} (h : blk s.c a < s.ks.length) : ownB s.c (s.ks ++ [k]) a = own s a ∧ kAt (s.ks ++ [k]) (blk s.c a) = cls s a := by
  have e := kAt_snoc (k := k) h
  refine ⟨?_, e⟩
  unfold own ownB
  rw [e]
  have e2 : decide (blk s.c a < (s.ks ++ [k]).length) = decide (blk s.c a < s.ks.length) := by
    rw [decide_eq_true h, decide_eq_true (by simp; omega)]
  rw [e2]
theorem own_new {s : St} {k : Nat} {a : Int} (h : ownB s.c (s.ks ++ [k]) a = true) : blk s.c a < s.ks.length ∧ own s a = true ∨ blk s.c a = s.ks.length ∧ own s a = false := by
  have hb := (ownB_true.1 h).2.1
  rw [List.length_append, List.length_singleton] at hb
  by_cases hl : blk s.c a < s.ks.length
  · exact .inl ⟨hl, by rw [← (own_old (k := k) hl).1]; exact h⟩
  · refine .inr ⟨by omega, ?_⟩
    rw [← Bool.not_eq_true]
    intro ho
    exact hl (ownB_true.1 ho).2.1
theorem Wf.assign {s : St} (h : Wf s) {k : Nat} (_ : k < 4) (hl : (s.ks.length : Int) < s.c.b) : Wf { s with ks := s.ks ++ [k] } := by
  have hRC := Blk.slots_bd h.right
  have hold : ∀ a : Int, own s a = true → ownB s.c (s.ks ++ [k]) a = true ∧ kAt (s.ks ++ [k]) (blk s.c a) = cls s a := fun a ha => by
    have := own_old (k := k) (h.own_cls ha)
    exact ⟨by rw [this.1]; exact ha, this.2⟩
  refine ⟨h.right, h.words, by show ((s.ks ++ [k]).length : Int) ≤ s.c.b; rw [List.length_append, List.length_singleton]; omega, fun j hj b hm => ?_, fun b hb => ?_, fun b hb hi => ?_, fun j hj => ?_⟩
  · obtain ⟨c1, c2, c3, c4⟩ := h.free j hj b hm
    exact ⟨(hold _ c1).1, (hold _ c1).2.trans c2, c3, c4⟩
  · obtain ⟨c1, c2⟩ := h.born b hb
    exact ⟨(hold _ c1).1, c2⟩
  · have hb' : ownB s.c (s.ks ++ [k]) (b : Int) = true := hb
    rcases own_new hb' with ⟨h1, h2⟩ | ⟨h1, h2⟩
    · exact (h.room b h2 hi).trans (hold _ h2).2.symm
    · exfalso
      have hA := adrB_true.1 (ownB_true.1 hb').1
      obtain ⟨g1, g2, g3, g4, g5⟩ := Addr.adr_parts hRC (show 1 ≤ (b : Int) by omega) hA.2.2
      have hd := (Addr.blkB_true.1 g1).1
      have hblk : ((Blk.blk s.c b : Nat) : Int) = ((b : Int) - 1) / s.c.wd := by unfold Blk.blk; omega
      rw [← hblk, h1] at g3
      have hz : wdA s b = 0 := h.fresh (b - 1) (by omega)
      have hi' : Hdr.isOb (wdA s b) = true := hi
      rw [hz] at hi'
      revert hi'
      decide
  · apply h.fresh j
    have h3 : (s.ks.length : Int) * s.c.wd ≤ ((s.ks ++ [k]).length : Int) * s.c.wd := Int.mul_le_mul_of_nonneg_right (by rw [List.length_append, List.length_singleton]; omega) (by have := hRC.wd0; omega)
    have hj' : ((s.ks ++ [k]).length : Int) * s.c.wd ≤ (j : Int) := hj
    omega
end Go.Proofs.YtcoolapancdioaaGreatDoor.Hp
