/-
  A slot for an object: a free one, or the first one of a block that is assigned.
-/
import Derived.Test.YtcoolapancdioaaGreatDoorHpK
namespace Go.Proofs.YtcoolapancdioaaGreatDoor.Hp
open Go.RowKit Go.Shelf
open Class (isB isB_true isB_false is_any sizI sizI_bd roomI SizTab quiet_left below_drewN)
open Blk (Cfg TbIs ownB ownB_true blk kAt adr perN perN_eq perN_pos perN_le cellsF BoxIs)
open Go.Proofs.YtcoolapancdioaaGreatDoor.Row (Chg Rd Rd0 rowB)
open Arena (ArIs Two)
open Bits (SetIs)
open Lis (Sit Five Held LsIs upd upd_same upd_other set_kept lastN backward_told backward_fn encB idxB tellB)
open Go.Proofs.YtcoolapancdioaaGreatDoor.Addr (Tabs adrB adrB_true)
attribute [local go_sem] Oper.semAt_some

/-- Slots put, one behind the other. -/
def puL (s : St) (l : List Nat) : St := l.foldl puS s
theorem puL_nil (s : St) : puL s [] = s := rfl
theorem puL_snoc (s : St) (l : List Nat) (a : Nat) : puL s (l ++ [a]) = puS (puL s l) a := by simp [puL]
theorem puS_hand {s : St} {a b : Nat} (hs : handB s b = true) (hne : a ≠ b) : handB (puS s a) b = true := by
  obtain ⟨h1, h2, h3⟩ := handB_parts hs
  rw [bnI_nat] at h2
  rw [frI_nat] at h3
  have e1 : own (puS s a) b = own s b := rfl
  have e2 : bn (puS s a) b = bn s b := rfl
  have e3 : fr (puS s a) b = false := by
    rw [fr_false] at h3 ⊢
    intro k hk hm
    have hm' : b ∈ upd s.hv (cls s a) (a :: s.hv (cls s a)) k := hm
    by_cases e : k = cls s a
    · rw [e, upd_same] at hm'
      rcases List.mem_cons.1 hm' with e2 | e2
      · exact hne e2.symm
      · rw [← e] at e2; exact h3 k hk e2
    · rw [upd_other _ _ e] at hm'; exact h3 k hk hm'
  unfold handB
  rw [e1, h1, bnI_nat, frI_nat, e2, h2, e3]
  rfl
theorem puL_hand {s : St} {b : Nat} (hs : handB s b = true) : ∀ (l : List Nat), b ∉ l → handB (puL s l) b = true := by
  intro l
  induction l generalizing s with
  | nil => intro _; exact hs
  | cons a l ih =>
    intro hb
    rw [List.mem_cons, not_or] at hb
    exact ih (puS_hand hs (fun e => hb.1 e.symm)) hb.2
theorem puE_hand {s : St} {a : Int} (hs : handB s a = true) : puE s a = 0 := by
  obtain ⟨h1, h2, h3⟩ := handB_parts hs
  rw [puE, h2, h1, h3]
  rfl
theorem puL_c (s : St) (l : List Nat) : (puL s l).c = s.c ∧ (puL s l).ks = s.ks ∧ (puL s l).ws.length = s.ws.length := by
  induction l generalizing s with
  | nil => exact ⟨rfl, rfl, rfl⟩
  | cons a l ih =>
    have := ih (puS s a)
    exact ⟨this.1, this.2.1, this.2.2.trans (by show (s.ws.set _ _).length = _; rw [List.length_set])⟩

/-- The slots of a block that was assigned last. -/
def ad (s : St) (k i : Nat) : Nat := (adr s.c k s.ks.length i).toNat
theorem ad_eq {s : St} (h : Wf s) (k i : Nat) : adr s.c k s.ks.length i = (ad s k i : Int) := by
  unfold ad
  have hRC := Blk.slots_bd h.right
  have : 0 ≤ adr s.c k s.ks.length i := by
    unfold adr
    have h1 : 0 ≤ (s.ks.length : Int) * s.c.wd := Int.mul_nonneg (by omega) (by have := hRC.wd0; omega)
    have h2 : 0 ≤ (i : Int) * sizI k := Int.mul_nonneg (by omega) (by unfold sizI; (repeat' split) <;> omega)
    omega
  omega
theorem ad_hand {s : St} (h : Wf s) {k i : Nat} (hk : k < 4) (hf : (s.ks.length : Int) < s.c.b) (hi : i < perN s.c k) : handB (asS s k) (ad s k i) = true ∧ cls (asS s k) (ad s k i) = k ∧ blk s.c (ad s k i) = s.ks.length := by
  have hkl : kAt (s.ks ++ [k]) s.ks.length = k := kAt_last
  have ho := Lis.own_adr2 (c := s.c) (ks := s.ks ++ [k]) (b := s.ks.length) (i := i) h.right (by simp) hf (by rw [hkl]; exact hk) (by rw [hkl]; exact hi)
  rw [hkl, ad_eq h] at ho
  have ho2 : own (asS s k) (ad s k i) = true := ho.1
  have hno : own s (ad s k i) = false := by
    rcases own_new ho.1 with ⟨h1, _⟩ | ⟨_, h2⟩
    · omega
    · exact h2
  have hb : bn (asS s k) (ad s k i) = false := by
    rw [← Bool.not_eq_true]; intro hb
    have := (h.born _ hb).1
    rw [hno] at this; cases this
  have hfr : fr (asS s k) (ad s k i) = false := by
    rw [fr_false]; intro j hj hm
    have := (h.free j hj _ hm).1
    rw [hno] at this; cases this
  refine ⟨?_, by show kAt (s.ks ++ [k]) (blk s.c (ad s k i)) = k; rw [ho.2]; exact hkl, ho.2⟩
  unfold handB
  rw [ho2, bnI_nat, frI_nat, hb, hfr]
  rfl
theorem ad_inj {s : St} (h : Wf s) {k i j : Nat} (hk : k < 4) (e : ad s k i = ad s k j) : i = j := by
  have e1 := ad_eq h k i
  have e2 := ad_eq h k j
  rw [e] at e1
  have e3 : adr s.c k s.ks.length i = adr s.c k s.ks.length j := e1.trans e2.symm
  unfold adr at e3
  have hs := siz_four (isB_true.2 ⟨Int.natCast_nonneg k, by omega⟩)
  rcases hs with e4 | e4 | e4 | e4 <;> rw [e4] at e3 <;> omega
/-- All of them but the first one. -/
def tl (s : St) (k : Nat) : List Nat := (List.range (perN s.c k - 1)).map fun i => ad s k (i + 1)
theorem tl_len (s : St) (k : Nat) : (tl s k).length = perN s.c k - 1 := by simp [tl]
def tlZ (s : St) (k : Nat) : List Int := (tl s k).map fun n => ((n : Nat) : Int)
/-- What the first i of these leave, from the last one on. -/
def pu (s : St) (k i : Nat) : St := puL (asS s k) ((tl s k).reverse.take i)
theorem tl_get {s : St} {k j : Nat} (hj : j < perN s.c k - 1) : (tl s k)[j]? = some (ad s k (j + 1)) := by
  unfold tl
  rw [List.getElem?_map, List.getElem?_range hj]
  rfl
theorem tl_at {s : St} {k i : Nat} (hi : i < (tl s k).length) : (tl s k).reverse[i]? = some (ad s k ((tl s k).length - 1 - i + 1)) := by
  rw [List.getElem?_reverse hi]
  have h1 := tl_len s k
  exact tl_get (by omega)
theorem tell_tl {s : St} {k i : Nat} (hi : i < (tl s k).length) : tellB (tlZ s k) i = (ad s k ((tl s k).length - 1 - i + 1) : Int) := by
  have h1 := tl_len s k
  unfold tellB tlZ
  rw [List.length_map, List.getD_eq_getElem?_getD, List.getElem?_map]
  rw [tl_get (by omega)]
  rfl
theorem pu_step {s : St} (h : Wf s) {k i : Nat} (hk : k < 4) (hf : (s.ks.length : Int) < s.c.b) (hi : i < (tl s k).length) :
    handB (pu s k i) (ad s k ((tl s k).length - 1 - i + 1)) = true ∧ pu s k (i + 1) = puS (pu s k i) (ad s k ((tl s k).length - 1 - i + 1)) := by
  have h1 := tl_len s k
  have hat := tl_at (s := s) (k := k) hi
  refine ⟨puL_hand (ad_hand h hk hf (by omega)).1 _ (fun hm => ?_), ?_⟩
  · obtain ⟨j, hj, e⟩ := List.mem_take_iff_getElem.1 hm
    rw [List.length_reverse] at hj
    have h2 := tl_at (s := s) (k := k) (i := j) (by omega)
    rw [List.getElem?_eq_getElem (by rw [List.length_reverse]; omega)] at h2
    have h3 := Option.some.inj h2
    rw [e] at h3
    have := ad_inj h hk h3
    omega
  · unfold pu
    rw [List.take_add_one, hat]
    exact puL_snoc _ _ _

theorem hsome {w : World} {base n cap : Nat} {p : Option Addr} {e : TypeId} {l : List Value} (h : w.ownsRow base e 1 (.slice p (n + 1) cap) (n + 1) l) : ∃ g, p = some ⟨g, 0, none⟩ := by
  obtain ⟨_, ⟨_, h3⟩ | ⟨g, c3, cur, e1, r3⟩⟩ := h
  · omega
  · cases e1; exact ⟨g, rfl⟩
/-- What room leaves when a block is assigned. -/
def roN (s : St) (k : Nat) : St := pu s k (tl s k).length

set_option maxRecDepth 100000 in
set_option maxHeartbeats 1000000 in
theorem room_take {H : Nat} {d : Ids} {s : St} {m : Nat} (k a : Nat) (l : List Nat) (w : World) (h : Is w H d s m) (hk : k < 4) (he : s.hv k = a :: l) :
    Calls Tryz.prog 79 #[.pointer (some ⟨H, 0, none⟩), .int .i64 k] w fun e w' => e = .returned (.tuple #[.int .i64 a, .int .i64 0]) ∧ To w w' H d { s with hv := upd s.hv k l } m := by
  have hb0 : Below w.heap.size w (w.alloc (.cells #[.pointer (some ⟨H, 0, none⟩)] 27)) := (Below.refl _ _).alloc (Nat.le_refl _) _
  have HB0 := Lib.hid hb0
  have HT := Lib.hid (take_good k a l _ (h.later hb0) hk he)
  clear h hb0
  refine (callsIn_wide (n := 5)).1 ?_
  refine callsIn_of_wp_marks Tryz.func79 rfl trivial ?_ rfl
  simp only [Tryz.ntmps79, List.size_toArray, List.length_cons, List.length_nil, Nat.reduceAdd, Nat.reduceSub, Array.replicate_succ, Array.replicate_zero, List.push_toArray, List.append_toArray, List.nil_append, List.cons_append]
  gi_wp2_with (refine ⟨trivial, ?_⟩; gi_at_call 24; refine (callsIn_wide.2 HT.out).mono ?_; rintro e w1 ⟨rfl, hT1⟩)
  exact ⟨_, results_tmp2 rfl _ _ _, rfl, To.alloc HB0.out hT1⟩
set_option maxRecDepth 100000 in
set_option maxHeartbeats 1000000 in
theorem room_full {H : Nat} {d : Ids} {s : St} {m : Nat} (k : Nat) (w : World) (h : Is w H d s m) (hk : k < 4) (he : s.hv k = []) (hf : (s.ks.length : Int) = s.c.b) :
    Calls Tryz.prog 79 #[.pointer (some ⟨H, 0, none⟩), .int .i64 k] w fun e w' => e = .returned (.tuple #[.int .i64 0, .int .i64 10]) ∧ To w w' H d s m := by
  have hb0 : Below w.heap.size w (w.alloc (.cells #[.pointer (some ⟨H, 0, none⟩)] 27)) := (Below.refl _ _).alloc (Nat.le_refl _) _
  have HB0 := Lib.hid hb0
  have HN := Lib.hid (show ¬ Mine H d w.heap.size from not_mine h (Nat.le_refl _))
  have HT := Lib.hid (take_none k _ (h.later hb0) hk he)
  have HA := Lib.hid (fun (w1 : World) (d1 : Ids) (hI : Is w1 H d1 s m) => assign_full (k : Nat) w1 hI (isB_true.2 ⟨by omega, by omega⟩) hf)
  clear h hb0
  refine (callsIn_wide (n := 5)).1 ?_
  refine callsIn_of_wp_marks Tryz.func79 rfl trivial ?_ rfl
  simp only [Tryz.ntmps79, List.size_toArray, List.length_cons, List.length_nil, Nat.reduceAdd, Nat.reduceSub, Array.replicate_succ, Array.replicate_zero, List.push_toArray, List.append_toArray, List.nil_append, List.cons_append]
  gi_wp2_with (refine ⟨trivial, ?_⟩; first
    | (gi_at_call 24; refine (callsIn_wide.2 HT.out).mono ?_; rintro e w1 ⟨rfl, hT1⟩; have hk1 := hT1.cell (p := ⟨w.heap.size, 0, none⟩) (v := .pointer (some ⟨H, 0, none⟩)) (by simp) HN.out; obtain ⟨d1, hI1, hC1, hR1⟩ := hT1; have HI1 := Lib.hid hI1; have HC1 := Lib.hid hC1; have HR1 := Lib.hid hR1; clear hI1 hC1 hR1)
    | (gi_at_call 25; refine (callsIn_wide.2 (HA.out _ _ HI1.out)).mono ?_; rintro e w2 ⟨rfl, hT2⟩))
  exact ⟨_, results_tmp2 rfl _ _ _, rfl, To.alloc HB0.out (To.step HC1.out HR1.out hT2)⟩
set_option maxRecDepth 100000 in
set_option maxHeartbeats 4000000 in
theorem room_new {H : Nat} {d : Ids} {s : St} {m : Nat} (k : Nat) (w : World) (h : Is w H d s m) (ht : Tabs w) (hm : m < 800000) (hk : k < 4) (he : s.hv k = []) (hf : (s.ks.length : Int) < s.c.b) :
    Calls Tryz.prog 79 #[.pointer (some ⟨H, 0, none⟩), .int .i64 k] w fun e w' => e = .returned (.tuple #[.int .i64 (ad s k 0), .int .i64 0]) ∧ To w w' H d (roN s k) (m + 128) := by
  have hb0 : Below w.heap.size w (w.alloc (.cells #[.pointer (some ⟨H, 0, none⟩)] 27)) := (Below.refl _ _).alloc (Nat.le_refl _) _
  have HB0 := Lib.hid hb0
  have HWF := Lib.hid h.wf
  have HH := Lib.hid h
  have HTB := Lib.hid (ht.later hb0)
  have HN := Lib.hid (show ¬ Mine H d w.heap.size from not_mine h (Nat.le_refl _))
  have HT := Lib.hid (take_none k _ (h.later hb0) hk he)
  have HA := Lib.hid (fun (w1 : World) (d1 : Ids) (hI : Is w1 H d1 s m) ht => assign_good k w1 hI ht hk hf)
  have hN1 : 1 ≤ perN s.c k := perN_pos h.wf.right hk
  have hN2 : perN s.c k ≤ 128 := perN_le s.c k
  obtain ⟨N, hN⟩ : ∃ N, perN s.c k = N + 1 := ⟨perN s.c k - 1, by omega⟩
  have hcl : ∀ j, j < N + 1 → (cellsF (adr s.c k s.ks.length) (N + 1))[j]? = some (.int .i64 (ad s k j)) := fun j hj => by
    rw [cellsF, List.getElem?_map, List.getElem?_range hj]
    show some (Value.int .i64 (adr s.c k s.ks.length j)) = _
    rw [ad_eq h.wf]
  have HCL := Lib.hid hcl
  rw [hN] at HA
  clear h ht hb0 hcl
  refine (callsIn_wide (n := 5)).1 ?_
  refine callsIn_of_wp_marks Tryz.func79 rfl trivial ?_ rfl
  simp only [Tryz.ntmps79, List.size_toArray, List.length_cons, List.length_nil, Nat.reduceAdd, Nat.reduceSub, Array.replicate_succ, Array.replicate_zero, List.push_toArray, List.append_toArray, List.nil_append, List.cons_append]
  gi_wp2_with (refine ⟨trivial, ?_⟩; first
    | (gi_at_call 24; refine (callsIn_wide.2 HT.out).mono ?_; rintro e w1 ⟨rfl, hT1⟩; have hk1 := hT1.cell (p := ⟨w.heap.size, 0, none⟩) (v := .pointer (some ⟨H, 0, none⟩)) (by simp) HN.out; obtain ⟨d1, hI1, hC1, hR1⟩ := hT1; have HT1 := Lib.hid ((HH.out.later HB0.out).tabs hC1 HTB.out); have HI1 := Lib.hid hI1; have HC1 := Lib.hid hC1; have HR1 := Lib.hid hR1; clear hI1 hC1 hR1)
    | (gi_at_call 25; refine (callsIn_wide.2 (HA.out _ _ HI1.out HT1.out)).mono ?_; rintro e w2 ⟨p, cap, d2, rfl, ho2, hI2, hC2, hR2, hp2⟩; have hk2' := (hC2.cell (p := ⟨w.heap.size, 0, none⟩) (World.block_lt_of_cell? w1 _ hk1) (fun e => (HR1.out _ e).elim HN.out (fun e => by simp at e; omega))).trans hk1; have HT12 := Lib.hid (HI1.out.tabs hC2 HT1.out); have hcp := Row.owns_cap ho2; obtain ⟨g, rfl⟩ : ∃ g, p = some ⟨g, 0, none⟩ := hsome ho2))
  case inl =>
    refine ⟨trivial, ?_⟩
    gi_at_call 117
    refine (callsIn_wide.2 (backward_fn _ _ _ _)).mono ?_
    rintro e w3 ⟨rfl, rfl⟩
    gi_wp2
    generalize hX : World.alloc _ _ = X
    have bX : Below w2.heap.size w2 X := by rw [← hX]; exact (Below.refl _ _).alloc (Nat.le_refl _) _
    have hsX : X.heap.size = w2.heap.size + 1 := by rw [← hX]; simp
    have xs : Boxed X w2.heap.size 48 (.slice (some ⟨g, 0, none⟩) N 0) := by rw [← hX]; exact Boxed.new _ _ _
    have hg2 : g < w2.heap.size := (Row.owns_lt ho2 (g := g) rfl).2
    have hgm : ¬ Mine H d2 g := hp2 g rfl
    have hcell : ∀ j, j < N + 1 → X.cell? ⟨g, j, none⟩ = some (.int .i64 (ad s k j)) := fun j hj => (bX.cell (p := ⟨g, j, none⟩) hg2).trans (Row.owns_cell ho2 j _ (HCL.out j hj))
    have hbx : ¬ Mine H d2 w.heap.size := fun e => (hR2 _ e).elim (fun e => (HR1.out _ e).elim HN.out (fun e => by simp at e; omega)) (fun e => by have := HC1.out.size; simp at this; omega)
    have hk2 : X.cell? ⟨w.heap.size, 0, none⟩ = some (.pointer (some ⟨H, 0, none⟩)) := (bX.cell (p := ⟨w.heap.size, 0, none⟩) (World.block_lt_of_cell? w2 _ hk2')).trans hk2'
    have hbs : ¬ Mine H d2 w2.heap.size := fun e => by have := hI2.lt e; omega
    have HI2 := Lib.hid (hI2.later bX)
    have HT2 : Hid (∀ Y : World, Chg (fun j => Mine H d2 j ∨ X.heap.size ≤ j) X Y → Tabs Y) := Lib.hid fun Y hc => by
      have hb : Below (max 0 1 + 1) X Y := hc.below (fun j hj => hj.elim (fun e => by have := (HI2.out).hi j e; omega) (fun e => by have := (HI2.out).hi H (.inr (.inl (.inl rfl))); have := (HI2.out).ltH; omega)) (by have := (HI2.out).hi H (.inr (.inl (.inl rfl))); have := (HI2.out).ltH; omega)
      exact ((HT12.out).later bX).below hb (by omega) (by omega)
    have HK : Hid (∀ Y : World, Chg (fun j => Mine H d2 j ∨ X.heap.size ≤ j) X Y → Y.cell? ⟨w.heap.size, 0, none⟩ = some (.pointer (some ⟨H, 0, none⟩)) ∧ Y.cell? ⟨w2.heap.size, 0, none⟩ = some (.slice (some ⟨g, 0, none⟩) N 0) ∧ (∀ j, j < N + 1 → Y.cell? ⟨g, j, none⟩ = some (.int .i64 (ad s k j))) ∧ Rd0 Y (some ⟨g, 0, none⟩) (tlZ s k)) := Lib.hid fun Y hc => by
      have cg : ∀ j, j < N + 1 → Y.cell? ⟨g, j, none⟩ = some (.int .i64 (ad s k j)) := fun j hj => (hc.cell (p := ⟨g, j, none⟩) (by show g < _; omega) (fun e => e.elim hgm (fun e => by have e' : X.heap.size ≤ g := e; omega))).trans (hcell j hj)
      refine ⟨(hc.cell (p := ⟨w.heap.size, 0, none⟩) (World.block_lt_of_cell? X _ hk2) (fun e => e.elim hbx (fun e => by have := World.block_lt_of_cell? X _ hk2; simp only at this e; omega))).trans hk2, (hc.cell (p := ⟨w2.heap.size, 0, none⟩) (by show w2.heap.size < _; omega) (fun e => e.elim hbs (fun e => by simp only at e; omega))).trans xs.cell, cg, fun j hj => ?_⟩
      have hl := tl_len s k
      have hj' : j < N := by rw [tlZ, List.length_map] at hj; omega
      omega
    have HC12 := Lib.hid (show Chg (Mine H d) w X ∧ ∀ j, Mine H d2 j → Mine H d j ∨ w.heap.size ≤ j from
      ⟨((Chg.of_below HB0.out).trans ((HC1.out.trans hC2 HR1.out).trans (Chg.of_below (S := Mine H d) bX) (fun _ e => .inl e)) (fun _ e => .inl e)), fun j hj => (hR2 j hj).elim (fun e => (HR1.out j e).imp id (fun e => by simp at e; omega)) (fun e => .inr (by have := HC1.out.size; simp at this; omega))⟩)
    have hpu0 : pu s k 0 = asS s k := rfl
    have HLT := Lib.hid (show ∀ j, Mine H d2 j → j < X.heap.size from fun j hj => (HI2.out).lt hj)
    have hsz0 : w.heap.size ≤ X.heap.size := HC12.out.1.size
    clear hX xs hg2 hgm hcell hbx hk2 hbs hk2' hk1 ho2 hC2 hR2 hp2 hI2 bX HCL HN HA
    refine wpIn_rangeFunc_told rfl (by decide) (gf := 138) (lb := #[.pointer (some ⟨w2.heap.size, 0, none⟩)]) rfl trivial (enters_of Tryz.func138 (by kernel_rfl) rfl)
      (T := fun W => W.cell? ⟨w2.heap.size, 0, none⟩ = some (.slice (some ⟨g, 0, none⟩) (tlZ s k).length 0) ∧ Rd0 W (some ⟨g, 0, none⟩) (tlZ s k)) (N := (tlZ s k).length) (backward_told 4 w2.heap.size (some ⟨g, 0, none⟩) 0 (tlZ s k) (by rw [tlZ, List.length_map, tl_len]; omega) X) (Below.refl _ _) (fun _ => rfl)
      (fun O i Y => ∃ d', Is Y H d' (pu s k i) (m + i) ∧ X.heap.size ≤ Y.heap.size ∧ Chg (fun j => Mine H d2 j ∨ X.heap.size ≤ j) X Y ∧ (∀ j, Mine H d' j → Mine H d2 j ∨ X.heap.size ≤ j) ∧ ∀ j, Mine H d' j → X.heap.size ≤ j → O j)
      (fun _ _ _ _ => False)
      ?hI ?hIx ?hT ?h0
      (fun i => { tmps := #[.pointer (some ⟨H, 0, none⟩), .int .i64 k, .pointer (some ⟨w.heap.size, 0, none⟩), undef, .int .i64 0, .int .i64 0, .int .i64 0, .int .i64 12, .slice (some ⟨g, 0, none⟩) (N + 1) 1, .int .i64 0, undef, .int .i64 (tellB (tlZ s k) i), .tuple #[.int .i64 0, .int .i64 12], .pointer (some ⟨H, 0, none⟩), .int .i64 k, .tuple #[.int .i64 0, .int .i64 12], .int .i64 0, .int .i64 12, .int .i64 12, .bool false, undef, .tuple #[.slice (some ⟨g, 0, none⟩) (N + 1) 1, .int .i64 0], .pointer (some ⟨H, 0, none⟩), .int .i64 k, .tuple #[.slice (some ⟨g, 0, none⟩) (N + 1) 1, .int .i64 0], .slice (some ⟨g, 0, none⟩) (N + 1) 1, .int .i64 0, .int .i64 0, .bool false, undef, .slice (some ⟨g, 0, none⟩) (N + 1) 1, .slice (some ⟨g, 0, none⟩) N 0, .func (.func 138) #[] #[.pointer (some ⟨w2.heap.size, 0, none⟩)], .int .i64 (idxB (tlZ s k) i), .int .i64 (tellB (tlZ s k) i), undef, undef, undef, undef, undef, undef], defers := [] }) ?assign ?body ?done ?stop
    case hI =>
      rintro O i X' Y ⟨d', h1, h2, h3, h4, h5⟩ hb hk
      refine ⟨d', h1.kept (fun j hj => ?_) ?_, Nat.le_trans h2 hb.size, h3.trans (T := fun j => X.heap.size ≤ j) ⟨hb.os, hb.tape, hb.output, hb.size, fun j _ hn => hb.block j (by omega)⟩ (fun j e => .inl (.inr e)), h4, h5⟩
      · by_cases e : j < X.heap.size
        · exact hb.block j e
        · exact hk j (h5 j hj (by omega))
      · exact hb.size
    case hIx => rintro _ _ _ _ _ e; exact e.elim
    case hT =>
      rintro O i Y ⟨d', h1, h2, h3, h4, h5⟩
      obtain ⟨a1, a2, a3, a4⟩ := HK.out Y h3
      exact ⟨by rw [a2, tlZ, List.length_map, tl_len, hN]; rfl, a4⟩
    case h0 => exact ⟨fun _ => False, ⟨d2, by rw [hpu0]; exact HI2.out, Nat.le_refl _, Chg.refl _ _, fun j hj => .inl hj, fun j hj e => by have := HLT.out j hj; omega⟩, fun j hj => hj.elim⟩
    case assign =>
      intro l i Y K hi hK
      unfold encB
      gi_wp2
      exact hK
    case body =>
      rintro l' O i Y _ _ hi ⟨d', h1, h2, h3, h4, h5⟩ hlt _
      have hi2 : i < (tl s k).length := by rw [tlZ, List.length_map] at hi; exact hi
      have hil : i < 128 := by rw [tl_len] at hi2; omega
      obtain ⟨a1, a2, a3, a4⟩ := HK.out Y h3
      have hty := tell_tl (s := s) (k := k) hi2
      obtain ⟨hh, hst⟩ := pu_step HWF.out hk hf hi2
      have hput := put_any (tellB (tlZ s k) i) Y h1 (HT2.out Y h3) (by omega)
      rw [hty, puE_hand hh, if_pos rfl, Int.toNat_natCast, ← hst, ← hty] at hput
      have HP := Lib.hid hput
      have HF : Hid (∀ Y' : World, To Y Y' H d' (pu s k (i + 1)) (m + i + 1) → ∃ O', Turn X.heap.size O O' Y Y' ∧ ∃ d', Is Y' H d' (pu s k (i + 1)) (m + (i + 1)) ∧ X.heap.size ≤ Y'.heap.size ∧ Chg (fun j => Mine H d2 j ∨ X.heap.size ≤ j) X Y' ∧ (∀ j, Mine H d' j → Mine H d2 j ∨ X.heap.size ≤ j) ∧ ∀ j, Mine H d' j → X.heap.size ≤ j → O' j) := Lib.hid fun Y' ⟨d3, b1, b2, b3⟩ => by
        refine ⟨fun j => Mine H d3 j ∧ X.heap.size ≤ j, ⟨b2.size, fun j c1 c2 c3 => b2.block j c2 (fun e => c3 (h5 j e c1)), fun j hj => (b3 j hj.1).imp (fun e => h5 j e hj.2) id, fun j hj => b1.lt hj.1⟩, d3, b1, Nat.le_trans h2 b2.size, h3.trans b2 (fun j e => (h4 j e).imp (fun e => e) id |>.elim (fun e => .inl (.inl e)) (fun e => .inl (.inr e))), fun j hj => (b3 j hj).elim (h4 j) (fun e => .inr (by omega)), fun j hj e => ⟨hj, e⟩⟩
      clear h1 h2 h3 h4 h5 hput hh hst hty a2 a3 a4 hlt
      gi_wp2_with (refine ⟨trivial, ?_⟩; gi_at_call 28; refine (callsIn_wide.2 HP.out).mono ?_; rintro e Y' ⟨rfl, hT3⟩)
      exact HF.out _ hT3
    case done =>
      rintro D O Y hD ⟨d', h1, h2, h3, h4, h5⟩ hn hlt hK
      obtain ⟨a1, a2, a3, a4⟩ := HK.out Y h3
      have a0 := a3 0 (by omega)
      have hl := tl_len s k
      have hlz : (tlZ s k).length = (tl s k).length := by rw [tlZ, List.length_map]
      have hDm : ¬ Mine H d' D := fun e => hn (h5 D e hD)
      have hfin : To w (Y.putObj D (.deferred none)) H d (roN s k) (m + 128) := by
        have e1 : Is (Y.putObj D (.deferred none)) H d' (pu s k (tlZ s k).length) (m + (tlZ s k).length) := h1.kept (fun j hj => World.putObj_heap_other (fun e => hDm (e ▸ hj))) (by simp)
        rw [hlz] at e1
        refine ⟨d', e1.more (by omega), ?_, fun j hj => (h4 j hj).elim (HC12.out.2 j) (fun e => .inr (by omega))⟩
        have c1 : Chg (Mine H d) w Y := HC12.out.1.trans h3 (fun j e => e.elim (HC12.out.2 j) (fun e => .inr (by omega)))
        exact c1.trans (T := fun j => w.heap.size ≤ j) ⟨rfl, rfl, rfl, by simp, fun j _ hj => World.putObj_heap_other (fun e => hj (by omega))⟩ (fun j e => .inr e)
      have HF := Lib.hid hfin
      clear h1 h2 h3 h4 h5 hfin a1 a2 a3 a4
      gi_wp2
      refine ⟨by simp, .inl ⟨_, _, rfl, run_takeDeferred hK, ?_⟩⟩
      exact ⟨_, results_tmp2 rfl _ _ _, rfl, HF.out⟩
    case stop => rintro D cc O i Y hD hi e; exact e.elim
  case inr =>
    refine ⟨trivial, ?_⟩
    gi_at_call 117
    refine (callsIn_wide.2 (backward_fn _ _ _ _)).mono ?_
    rintro e w3 ⟨rfl, rfl⟩
    gi_wp2
    generalize hX : World.alloc _ _ = X
    have bX : Below w2.heap.size w2 X := by rw [← hX]; exact (Below.refl _ _).alloc (Nat.le_refl _) _
    have hsX : X.heap.size = w2.heap.size + 1 := by rw [← hX]; simp
    have xs : Boxed X w2.heap.size 48 (.slice (some ⟨g, 1, none⟩) N (cap - 1)) := by rw [← hX]; exact Boxed.new _ _ _
    have hg2 : g < w2.heap.size := (Row.owns_lt ho2 (g := g) rfl).2
    have hgm : ¬ Mine H d2 g := hp2 g rfl
    have hcell : ∀ j, j < N + 1 → X.cell? ⟨g, j, none⟩ = some (.int .i64 (ad s k j)) := fun j hj => (bX.cell (p := ⟨g, j, none⟩) hg2).trans (Row.owns_cell ho2 j _ (HCL.out j hj))
    have hbx : ¬ Mine H d2 w.heap.size := fun e => (hR2 _ e).elim (fun e => (HR1.out _ e).elim HN.out (fun e => by simp at e; omega)) (fun e => by have := HC1.out.size; simp at this; omega)
    have hk2 : X.cell? ⟨w.heap.size, 0, none⟩ = some (.pointer (some ⟨H, 0, none⟩)) := (bX.cell (p := ⟨w.heap.size, 0, none⟩) (World.block_lt_of_cell? w2 _ hk2')).trans hk2'
    have hbs : ¬ Mine H d2 w2.heap.size := fun e => by have := hI2.lt e; omega
    have HI2 := Lib.hid (hI2.later bX)
    have HT2 : Hid (∀ Y : World, Chg (fun j => Mine H d2 j ∨ X.heap.size ≤ j) X Y → Tabs Y) := Lib.hid fun Y hc => by
      have hb : Below (max 0 1 + 1) X Y := hc.below (fun j hj => hj.elim (fun e => by have := (HI2.out).hi j e; omega) (fun e => by have := (HI2.out).hi H (.inr (.inl (.inl rfl))); have := (HI2.out).ltH; omega)) (by have := (HI2.out).hi H (.inr (.inl (.inl rfl))); have := (HI2.out).ltH; omega)
      exact ((HT12.out).later bX).below hb (by omega) (by omega)
    have HK : Hid (∀ Y : World, Chg (fun j => Mine H d2 j ∨ X.heap.size ≤ j) X Y → Y.cell? ⟨w.heap.size, 0, none⟩ = some (.pointer (some ⟨H, 0, none⟩)) ∧ Y.cell? ⟨w2.heap.size, 0, none⟩ = some (.slice (some ⟨g, 1, none⟩) N (cap - 1)) ∧ (∀ j, j < N + 1 → Y.cell? ⟨g, j, none⟩ = some (.int .i64 (ad s k j))) ∧ Rd0 Y (some ⟨g, 1, none⟩) (tlZ s k)) := Lib.hid fun Y hc => by
      have cg : ∀ j, j < N + 1 → Y.cell? ⟨g, j, none⟩ = some (.int .i64 (ad s k j)) := fun j hj => (hc.cell (p := ⟨g, j, none⟩) (by show g < _; omega) (fun e => e.elim hgm (fun e => by have e' : X.heap.size ≤ g := e; omega))).trans (hcell j hj)
      refine ⟨(hc.cell (p := ⟨w.heap.size, 0, none⟩) (World.block_lt_of_cell? X _ hk2) (fun e => e.elim hbx (fun e => by have := World.block_lt_of_cell? X _ hk2; simp only at this e; omega))).trans hk2, (hc.cell (p := ⟨w2.heap.size, 0, none⟩) (by show w2.heap.size < _; omega) (fun e => e.elim hbs (fun e => by simp only at e; omega))).trans xs.cell, cg, fun j hj => ?_⟩
      have hl := tl_len s k
      have hj' : j < N := by rw [tlZ, List.length_map] at hj; omega
      refine ⟨g, 1, rfl, ?_⟩
      rw [show 1 + j = j + 1 by omega, cg (j + 1) (by omega)]
      rw [tlZ, List.getD_eq_getElem?_getD, List.getElem?_map, tl_get (by omega)]
      rfl
    have HC12 := Lib.hid (show Chg (Mine H d) w X ∧ ∀ j, Mine H d2 j → Mine H d j ∨ w.heap.size ≤ j from
      ⟨((Chg.of_below HB0.out).trans ((HC1.out.trans hC2 HR1.out).trans (Chg.of_below (S := Mine H d) bX) (fun _ e => .inl e)) (fun _ e => .inl e)), fun j hj => (hR2 j hj).elim (fun e => (HR1.out j e).imp id (fun e => by simp at e; omega)) (fun e => .inr (by have := HC1.out.size; simp at this; omega))⟩)
    have hpu0 : pu s k 0 = asS s k := rfl
    have HLT := Lib.hid (show ∀ j, Mine H d2 j → j < X.heap.size from fun j hj => (HI2.out).lt hj)
    have hsz0 : w.heap.size ≤ X.heap.size := HC12.out.1.size
    clear hX xs hg2 hgm hcell hbx hk2 hbs hk2' hk1 ho2 hC2 hR2 hp2 hI2 bX HCL HN HA
    refine wpIn_rangeFunc_told rfl (by decide) (gf := 138) (lb := #[.pointer (some ⟨w2.heap.size, 0, none⟩)]) rfl trivial (enters_of Tryz.func138 (by kernel_rfl) rfl)
      (T := fun W => W.cell? ⟨w2.heap.size, 0, none⟩ = some (.slice (some ⟨g, 1, none⟩) (tlZ s k).length (cap - 1)) ∧ Rd0 W (some ⟨g, 1, none⟩) (tlZ s k)) (N := (tlZ s k).length) (backward_told 4 w2.heap.size (some ⟨g, 1, none⟩) (cap - 1) (tlZ s k) (by rw [tlZ, List.length_map, tl_len]; omega) X) (Below.refl _ _) (fun _ => rfl)
      (fun O i Y => ∃ d', Is Y H d' (pu s k i) (m + i) ∧ X.heap.size ≤ Y.heap.size ∧ Chg (fun j => Mine H d2 j ∨ X.heap.size ≤ j) X Y ∧ (∀ j, Mine H d' j → Mine H d2 j ∨ X.heap.size ≤ j) ∧ ∀ j, Mine H d' j → X.heap.size ≤ j → O j)
      (fun _ _ _ _ => False)
      ?hI ?hIx ?hT ?h0
      (fun i => { tmps := #[.pointer (some ⟨H, 0, none⟩), .int .i64 k, .pointer (some ⟨w.heap.size, 0, none⟩), undef, .int .i64 0, .int .i64 0, .int .i64 0, .int .i64 12, .slice (some ⟨g, 0, none⟩) (N + 1) cap, .int .i64 0, undef, .int .i64 (tellB (tlZ s k) i), .tuple #[.int .i64 0, .int .i64 12], .pointer (some ⟨H, 0, none⟩), .int .i64 k, .tuple #[.int .i64 0, .int .i64 12], .int .i64 0, .int .i64 12, .int .i64 12, .bool false, undef, .tuple #[.slice (some ⟨g, 0, none⟩) (N + 1) cap, .int .i64 0], .pointer (some ⟨H, 0, none⟩), .int .i64 k, .tuple #[.slice (some ⟨g, 0, none⟩) (N + 1) cap, .int .i64 0], .slice (some ⟨g, 0, none⟩) (N + 1) cap, .int .i64 0, .int .i64 0, .bool false, undef, .slice (some ⟨g, 0, none⟩) (N + 1) cap, .slice (some ⟨g, 1, none⟩) N (cap - 1), .func (.func 138) #[] #[.pointer (some ⟨w2.heap.size, 0, none⟩)], .int .i64 (idxB (tlZ s k) i), .int .i64 (tellB (tlZ s k) i), undef, undef, undef, undef, undef, undef], defers := [] }) ?assign ?body ?done ?stop
    case hI =>
      rintro O i X' Y ⟨d', h1, h2, h3, h4, h5⟩ hb hk
      refine ⟨d', h1.kept (fun j hj => ?_) ?_, Nat.le_trans h2 hb.size, h3.trans (T := fun j => X.heap.size ≤ j) ⟨hb.os, hb.tape, hb.output, hb.size, fun j _ hn => hb.block j (by omega)⟩ (fun j e => .inl (.inr e)), h4, h5⟩
      · by_cases e : j < X.heap.size
        · exact hb.block j e
        · exact hk j (h5 j hj (by omega))
      · exact hb.size
    case hIx => rintro _ _ _ _ _ e; exact e.elim
    case hT =>
      rintro O i Y ⟨d', h1, h2, h3, h4, h5⟩
      obtain ⟨a1, a2, a3, a4⟩ := HK.out Y h3
      exact ⟨by rw [a2, tlZ, List.length_map, tl_len, hN]; rfl, a4⟩
    case h0 => exact ⟨fun _ => False, ⟨d2, by rw [hpu0]; exact HI2.out, Nat.le_refl _, Chg.refl _ _, fun j hj => .inl hj, fun j hj e => by have := HLT.out j hj; omega⟩, fun j hj => hj.elim⟩
    case assign =>
      intro l i Y K hi hK
      unfold encB
      gi_wp2
      exact hK
    case body =>
      rintro l' O i Y _ _ hi ⟨d', h1, h2, h3, h4, h5⟩ hlt _
      have hi2 : i < (tl s k).length := by rw [tlZ, List.length_map] at hi; exact hi
      have hil : i < 128 := by rw [tl_len] at hi2; omega
      obtain ⟨a1, a2, a3, a4⟩ := HK.out Y h3
      have hty := tell_tl (s := s) (k := k) hi2
      obtain ⟨hh, hst⟩ := pu_step HWF.out hk hf hi2
      have hput := put_any (tellB (tlZ s k) i) Y h1 (HT2.out Y h3) (by omega)
      rw [hty, puE_hand hh, if_pos rfl, Int.toNat_natCast, ← hst, ← hty] at hput
      have HP := Lib.hid hput
      have HF : Hid (∀ Y' : World, To Y Y' H d' (pu s k (i + 1)) (m + i + 1) → ∃ O', Turn X.heap.size O O' Y Y' ∧ ∃ d', Is Y' H d' (pu s k (i + 1)) (m + (i + 1)) ∧ X.heap.size ≤ Y'.heap.size ∧ Chg (fun j => Mine H d2 j ∨ X.heap.size ≤ j) X Y' ∧ (∀ j, Mine H d' j → Mine H d2 j ∨ X.heap.size ≤ j) ∧ ∀ j, Mine H d' j → X.heap.size ≤ j → O' j) := Lib.hid fun Y' ⟨d3, b1, b2, b3⟩ => by
        refine ⟨fun j => Mine H d3 j ∧ X.heap.size ≤ j, ⟨b2.size, fun j c1 c2 c3 => b2.block j c2 (fun e => c3 (h5 j e c1)), fun j hj => (b3 j hj.1).imp (fun e => h5 j e hj.2) id, fun j hj => b1.lt hj.1⟩, d3, b1, Nat.le_trans h2 b2.size, h3.trans b2 (fun j e => (h4 j e).imp (fun e => e) id |>.elim (fun e => .inl (.inl e)) (fun e => .inl (.inr e))), fun j hj => (b3 j hj).elim (h4 j) (fun e => .inr (by omega)), fun j hj e => ⟨hj, e⟩⟩
      clear h1 h2 h3 h4 h5 hput hh hst hty a2 a3 a4 hlt
      gi_wp2_with (refine ⟨trivial, ?_⟩; gi_at_call 28; refine (callsIn_wide.2 HP.out).mono ?_; rintro e Y' ⟨rfl, hT3⟩)
      exact HF.out _ hT3
    case done =>
      rintro D O Y hD ⟨d', h1, h2, h3, h4, h5⟩ hn hlt hK
      obtain ⟨a1, a2, a3, a4⟩ := HK.out Y h3
      have a0 := a3 0 (by omega)
      have hl := tl_len s k
      have hlz : (tlZ s k).length = (tl s k).length := by rw [tlZ, List.length_map]
      have hDm : ¬ Mine H d' D := fun e => hn (h5 D e hD)
      have hfin : To w (Y.putObj D (.deferred none)) H d (roN s k) (m + 128) := by
        have e1 : Is (Y.putObj D (.deferred none)) H d' (pu s k (tlZ s k).length) (m + (tlZ s k).length) := h1.kept (fun j hj => World.putObj_heap_other (fun e => hDm (e ▸ hj))) (by simp)
        rw [hlz] at e1
        refine ⟨d', e1.more (by omega), ?_, fun j hj => (h4 j hj).elim (HC12.out.2 j) (fun e => .inr (by omega))⟩
        have c1 : Chg (Mine H d) w Y := HC12.out.1.trans h3 (fun j e => e.elim (HC12.out.2 j) (fun e => .inr (by omega)))
        exact c1.trans (T := fun j => w.heap.size ≤ j) ⟨rfl, rfl, rfl, by simp, fun j _ hj => World.putObj_heap_other (fun e => hj (by omega))⟩ (fun j e => .inr e)
      have HF := Lib.hid hfin
      clear h1 h2 h3 h4 h5 hfin a1 a2 a3 a4
      gi_wp2
      refine ⟨by simp, .inl ⟨_, _, rfl, run_takeDeferred hK, ?_⟩⟩
      exact ⟨_, results_tmp2 rfl _ _ _, rfl, HF.out⟩
    case stop => rintro D cc O i Y hD hi e; exact e.elim
end Go.Proofs.YtcoolapancdioaaGreatDoor.Hp
