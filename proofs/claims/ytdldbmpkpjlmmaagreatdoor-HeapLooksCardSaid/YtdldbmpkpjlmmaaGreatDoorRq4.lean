/-
  Texts of the heap, one behind the other: RfQ RfR RfS RfU.
-/
import Derived.Test.YtdldbmpkpjlmmaaGreatDoorRq3
import Derived.Test.YtdldbmpkpjlmmaaGreatDoorRq2
import Derived.Deep.RegionHeld3
namespace Go.Proofs.YtdldbmpkpjlmmaaGreatDoor.Rf
open Go.RowKit Go.Sort
open Blk (Cfg allP kAt valA adr perN perN_eq perN_pos perN_le cellsF seg seg_length allP_succ)
open Class (isB isB_true isB_false sizI sizI_bd roomI roomI_yes quiet_left)
open Lis (intsN upd upd_same upd_other)
open Hp (St Wf own cls wdA bn fr bnI frI bnI_nat frI_nat stS beS baS puS unS frS zr asS handB baE frE beE puE fE fN lE lV sE takB colB mayV mayV_true mkE mkA mkS Mine)
open Go.Proofs.YtdldbmpkpjlmmaaGreatDoor.Row (Chg Rd Rd0 rowB rowB_none cell_of_block frozen_of_block other same cellsZ owns_lt owns_cap owns_chg)
open Go.Proofs.YtdldbmpkpjlmmaaGreatDoor.Addr (Tabs)

/-- Both, since w1: what each has, where it lies; nothing else has turned. -/
structure Bo (w1 : World) (H : Nat) (d0 : Hp.Ids) (M base : Nat) (i0 : Ri) (w : World) (d : Hp.Ids) (s : St) (m : Nat) (i : Ri) (r : St) : Prop where
  is : Hp.Is w H d s m
  rp : Rp w M base i r
  ap : ∀ k, Mine H d k → ¬ All M i k
  tb : Tabs w
  hi : ∀ k, All M i k → 0 < k ∧ 1 < k
  chg : Chg (fun k => Mine H d0 k ∨ All M i0 k) w1 w
  inD : ∀ k, Mine H d k → Mine H d0 k ∨ w1.heap.size ≤ k
  inI : ∀ k, All M i k → All M i0 k ∨ w1.heap.size ≤ k
section
variable {w1 w w' : World} {H M base m m' : Nat} {d0 d : Hp.Ids} {i0 i : Ri} {s s' r r' : St}
theorem Bo.heap (h : Bo w1 H d0 M base i0 w d s m i r) (hT : Hp.To w w' H d s' m') : ∃ d', Bo w1 H d0 M base i0 w' d' s' m' i r := by
  obtain ⟨d', g1, g2, g3⟩ := hT
  have hs := h.chg.size
  exact ⟨d', g1, h.rp.chg g2 (fun k e e2 => h.ap k e2 e), fun k e e2 => (g3 k e).elim (fun x => h.ap k x e2) (fun x => by have := h.rp.mem.ltA e2; omega), h.is.tabs g2 h.tb, h.hi, h.chg.trans g2 (fun q e => (h.inD q e).imp .inl id), fun k e => (g3 k e).elim (h.inD k) (fun x => .inr (by omega)), h.inI⟩
theorem Bo.ref (h : Bo w1 H d0 M base i0 w d s m i r) (hT : RTo w w' M base i r') : ∃ i', Bo w1 H d0 M base i0 w' d s m i' r' := by
  obtain ⟨i', g1, g2, g3⟩ := hT
  have hs := h.chg.size
  have hH := h.is.hi H (.inr (.inl (.inl rfl)))
  have hHl := h.is.ltH
  have hb : Below (max 0 1 + 1) w w' := g2.below (fun k hk => by have := h.hi k hk; omega) (by omega)
  exact ⟨i', h.is.chg g2 (fun k e e2 => h.ap k e e2), g1, fun k e e2 => (g3 k e2).elim (fun x => h.ap k e x) (fun x => by have := h.is.lt e; omega), h.tb.below hb (by omega) (by omega), fun k e => (g3 k e).elim (h.hi k) (fun x => by omega), h.chg.trans g2 (fun q e => (h.inI q e).imp .inr id), h.inD, fun k e => (g3 k e).elim (h.inI k) (fun x => .inr (by omega))⟩
theorem Bo.later (h : Bo w1 H d0 M base i0 w d s m i r) (hb : Below w.heap.size w w') : Bo w1 H d0 M base i0 w' d s m i r :=
  ⟨h.is.later hb, h.rp.later hb, h.ap, h.tb.later hb, h.hi, h.chg.trans (Chg.of_below (S := fun k => Mine H d0 k ∨ All M i0 k) hb) (fun _ e => .inl e), h.inD, h.inI⟩
theorem Bo.drewN (h : Bo w1 H d0 M base i0 w d s m i r) (n : Nat) : Bo w1 H d0 M base i0 (w.drewN n) d s m i r := h.later (below_drewN (Below.refl _ _) n)
theorem Bo.more (h : Bo w1 H d0 M base i0 w d s m i r) (hm : m ≤ m') : Bo w1 H d0 M base i0 w d s m' i r := { h with is := h.is.more hm }
theorem Bo.self (h : Bo w1 H d0 M base i0 w d s m i r) : Bo w H d M base i w d s m i r := ⟨h.is, h.rp, h.ap, h.tb, h.hi, Chg.refl _ _, fun _ e => .inl e, fun _ e => .inl e⟩
theorem Bo.trans {d' : Hp.Ids} {i' : Ri} (h : Bo w1 H d0 M base i0 w d s m i r) (h2 : Bo w H d M base i w' d' s' m' i' r') : Bo w1 H d0 M base i0 w' d' s' m' i' r' :=
  ⟨h2.is, h2.rp, h2.ap, h2.tb, h2.hi, h.chg.trans h2.chg (fun q e => e.elim (fun e => (h.inD q e).imp .inl id) (fun e => (h.inI q e).imp .inr id)), fun k e => (h2.inD k e).elim (h.inD k) (fun x => .inr (by have := h.chg.size; omega)), fun k e => (h2.inI k e).elim (h.inI k) (fun x => .inr (by have := h.chg.size; omega))⟩
theorem Bo.cell (h : Bo w1 H d0 M base i0 w d s m i r) {p : Addr} (hp : p.block < w1.heap.size) (h1 : ¬ Mine H d0 p.block) (h2 : ¬ All M i0 p.block) : w.cell? p = w1.cell? p := h.chg.cell hp (fun e => e.elim h1 h2)
end
/-- A deed. -/
def deedV (kd : Nat) (a b c : Int) : Value := .agg #[.int .u8 kd, .int .i64 a, .int .i64 b, .int .i64 c]
def Keep (s s' : St) : Prop := s'.c = s.c ∧ s'.ce.length = s.ce.length ∧ s'.ws.length = s.ws.length
/-- What does leaves. -/
def DoP (w : World) (H M base : Nat) (d : Hp.Ids) (i : Ri) (s : St) (m : Nat) (e : Ending) (w' : World) : Prop := e = .returned (.bool true) ∧ ∃ s' d' i', Keep s s' ∧ Bo w H d M base i w' d' s' (m + 1000) i' s'
def bxD (w : World) (kd : Nat) (a b c : Int) : World := w.alloc (.cells #[.int .u8 kd, .int .i64 a, .int .i64 b, .int .i64 c] 35)
section
variable {w : World} {H M base m : Nat} {d : Hp.Ids} {i : Ri} {s : St}
/-- The deed's box, beside both. -/
theorem Bo.box (h : Bo w H d M base i w d s m i s) (kd : Nat) (a b c : Int) : Bo (bxD w kd a b c) H d M base i (bxD w kd a b c) d s m i s ∧
    ∀ W d' s' m' i' r', Bo (bxD w kd a b c) H d M base i W d' s' m' i' r' → W.cell? ⟨w.heap.size, 1, none⟩ = some (.int .i64 a) ∧ W.cell? ⟨w.heap.size, 2, none⟩ = some (.int .i64 b) ∧ W.cell? ⟨w.heap.size, 3, none⟩ = some (.int .i64 c) := by
  have hb : Below w.heap.size w (bxD w kd a b c) := (Below.refl _ _).alloc (Nat.le_refl _) _
  have hz : (bxD w kd a b c).heap.size = w.heap.size + 1 := by simp [bxD]
  refine ⟨(h.later hb).self, fun W d' s' m' i' r' hB => ?_⟩
  have h1 : ¬ Mine H d w.heap.size := fun e => by have := h.is.lt e; omega
  have h2 : ¬ All M i w.heap.size := fun e => by have := h.rp.mem.ltA e; omega
  have key : ∀ o, W.cell? ⟨w.heap.size, o, none⟩ = (#[Value.int .u8 kd, .int .i64 a, .int .i64 b, .int .i64 c] : Array Value)[o]? := fun o => by
    rw [hB.cell (p := ⟨w.heap.size, o, none⟩) (by show w.heap.size < _; omega) h1 h2]
    exact World.cell?_alloc_new ..
  exact ⟨key 1, key 2, key 3⟩
theorem Bo.unbox {kd : Nat} {a b c : Int} {W : World} {d' : Hp.Ids} {s' r' : St} {m' : Nat} {i' : Ri} (h : Bo w H d M base i w d s m i s) (h2 : Bo (bxD w kd a b c) H d M base i W d' s' m' i' r') : Bo w H d M base i W d' s' m' i' r' :=
  (h.later ((Below.refl _ _).alloc (Nat.le_refl _) _ : Below w.heap.size w (bxD w kd a b c))).trans h2
theorem Keep.refl (s : St) : Keep s s := ⟨rfl, rfl, rfl⟩
theorem Bo.fin {kd : Nat} {a b c : Int} {W : World} {d' : Hp.Ids} {s' : St} {m' : Nat} {i' : Ri} (h : Bo w H d M base i w d s m i s) (h2 : Bo (bxD w kd a b c) H d M base i W d' s' m' i' s') (hk : Keep s s') (hm : m' ≤ m + 1000) : DoP w H M base d i s m (.returned (.bool true)) W :=
  ⟨rfl, s', d', i', hk, (h.unbox h2).more hm⟩
set_option maxRecDepth 100000 in
set_option maxHeartbeats 4000000 in
theorem does_take (a b c : Int) (w : World) (h : Bo w H d M base i w d s m i s) (hm : m ≤ 500000) : Calls Tryz.prog 12 #[.pointer (some ⟨H, 0, none⟩), .pointer (some ⟨M, 0, none⟩), deedV 0 a b c] w (DoP w H M base d i s m) := by
  have HH := Lib.hid h
  obtain ⟨hB0, hQ⟩ := h.box 0 a b c
  have HB0 := Lib.hid hB0
  have HQ := Lib.hid hQ
  have HPU := Lib.hid (pu_of h.is (by omega))
  clear h hB0 hQ
  unfold deedV
  unfold bxD at HB0 HQ
  go_enter Tryz.func12, Tryz.ntmps12
  go_wp2_with (first
    | (go_at_call 24; refine (htake_any a _ HB0.out.is).mono ?_; rintro e w2 ⟨rfl, hT⟩; obtain ⟨d2, hB2⟩ := HB0.out.heap hT; have HB2 := Lib.hid hB2; obtain ⟨x1, x2, x3⟩ := HQ.out _ _ _ _ _ _ hB2; clear hT hB2)
    | (go_at_call 47; refine (take_any a _ HB2.out.rp HPU.out).mono ?_; rintro e w3 ⟨rfl, hT⟩; obtain ⟨i3, hB3⟩ := HB2.out.ref hT; have HB3 := Lib.hid hB3; clear hT hB3))
  go_ret
  exact HH.out.fin HB3.out (by split <;> exact ⟨rfl, rfl, rfl⟩) (by omega)
set_option maxRecDepth 100000 in
set_option maxHeartbeats 4000000 in
theorem does_paint (a b c : Int) (w : World) (h : Bo w H d M base i w d s m i s) (hm : m ≤ 500000) : Calls Tryz.prog 12 #[.pointer (some ⟨H, 0, none⟩), .pointer (some ⟨M, 0, none⟩), deedV 7 a b c] w (DoP w H M base d i s m) := by
  have HH := Lib.hid h
  obtain ⟨hB0, hQ⟩ := h.box 7 a b c
  have HB0 := Lib.hid hB0
  have HQ := Lib.hid hQ
  have HPU := Lib.hid (pu_of h.is (by omega))
  clear h hB0 hQ
  unfold deedV
  unfold bxD at HB0 HQ
  go_enter Tryz.func12, Tryz.ntmps12
  go_wp2_with (first
    | (go_at_call 26; refine (hpaint_any a c _ HB0.out.is).mono ?_; rintro e w2 ⟨rfl, hT⟩; obtain ⟨d2, hB2⟩ := HB0.out.heap hT; have HB2 := Lib.hid hB2; obtain ⟨x1, x2, x3⟩ := HQ.out _ _ _ _ _ _ hB2; clear hT hB2)
    | (go_at_call 55; refine (paint_any a c _ HB2.out.rp HPU.out).mono ?_; rintro e w3 ⟨rfl, hT⟩; obtain ⟨i3, hB3⟩ := HB2.out.ref hT; have HB3 := Lib.hid hB3; clear hT hB3))
  go_ret
  exact HH.out.fin HB3.out (by split <;> exact ⟨rfl, rfl, rfl⟩) (by omega)
/-- The address that Make tells. -/
def mkW (s : St) (n c : Int) : Int := if mkE s n c = 0 then (mkA s n : Int) else 0
theorem make_all (n c : Int) (w : World) {r : St} (h : Rp w M base i r) (hp : Pu r) :
    Calls Tryz.prog 56 #[.pointer (some ⟨M, 0, none⟩), .int .i64 n, .int .i64 c] w fun e w' => e = .returned (.tuple #[.int .i64 (mkW r n c), .int .i64 (mkE r n c)]) ∧ RTo w w' M base i (if mkE r n c = 0 then mkS r n c else r) := by
  have := make_any n c w h hp
  unfold mkW
  by_cases he : mkE r n c = 0
  · rw [he, if_pos rfl, if_pos rfl] at this
    rw [he, if_pos rfl, if_pos rfl]
    exact this
  · rw [if_neg he, if_neg he] at this
    rw [if_neg he, if_neg he]
    exact this
theorem hmake_any (n c : Int) (w : World) (h : Hp.Is w H d s m) (ht : Tabs w) (hm : m ≤ 500000) : Calls Tryz.prog 27 #[.pointer (some ⟨H, 0, none⟩), .int .i64 n, .int .i64 c] w fun e w' => e = .returned (.tuple #[.int .i64 (mkW s n c), .int .i64 (mkE s n c)]) ∧ Hp.To w w' H d (if mkE s n c = 0 then mkS s n c else s) (m + 160) := by
  unfold mkW
  by_cases he : mkE s n c = 0
  · rw [he, if_pos rfl, if_pos rfl]
    exact Hp.make_good n c w h ht (by omega) he
  · rw [if_neg he, if_neg he]
    exact Hp.make_bad n c w h ht (by omega) he
theorem mkS_keep (s : St) (n c : Int) : Keep s (mkS s n c) := by
  obtain ⟨h1, h2, h3⟩ := Hp.mkS_rest s n c
  exact ⟨h1, by rw [h2], h3⟩
set_option maxRecDepth 100000 in
set_option maxHeartbeats 4000000 in
theorem does_make (kd : Nat) (hk : 9 ≤ kd) (a b c : Int) (w : World) (h : Bo w H d M base i w d s m i s) (hm : m ≤ 500000) : Calls Tryz.prog 12 #[.pointer (some ⟨H, 0, none⟩), .pointer (some ⟨M, 0, none⟩), deedV kd a b c] w (DoP w H M base d i s m) := by
  have HH := Lib.hid h
  obtain ⟨hB0, hQ⟩ := h.box kd a b c
  have HB0 := Lib.hid hB0
  have HQ := Lib.hid hQ
  have HPU := Lib.hid (pu_of h.is (by omega))
  clear h hB0 hQ
  unfold deedV
  unfold bxD at HB0 HQ
  have h0 : ((kd : Int) == 0) = false := by simp; omega
  have h1 : ((kd : Int) == 1) = false := by simp; omega
  have h2 : ((kd : Int) == 2) = false := by simp; omega
  have h3 : ((kd : Int) == 3) = false := by simp; omega
  have h4 : ((kd : Int) == 4) = false := by simp; omega
  have h5 : ((kd : Int) == 5) = false := by simp; omega
  have h6 : ((kd : Int) == 6) = false := by simp; omega
  have h7 : ((kd : Int) == 7) = false := by simp; omega
  have h8 : ((kd : Int) == 8) = false := by simp; omega
  clear hk
  go_enter Tryz.func12, Tryz.ntmps12
  go_wp2_with (first
    | (go_at_call 27; refine (hmake_any a c _ HB0.out.is HB0.out.tb hm).mono ?_; rintro e w2 ⟨rfl, hT⟩; obtain ⟨d2, hB2⟩ := HB0.out.heap hT; have HB2 := Lib.hid hB2; obtain ⟨x1, x2, x3⟩ := HQ.out _ _ _ _ _ _ hB2; clear hT hB2)
    | (go_at_call 56; refine (make_all a c _ HB2.out.rp HPU.out).mono ?_; rintro e w3 ⟨rfl, hT⟩; obtain ⟨i3, hB3⟩ := HB2.out.ref hT; have HB3 := Lib.hid hB3; clear hT hB3))
  go_ret
  exact HH.out.fin HB3.out (by
    split
    · exact mkS_keep s a c
    · exact Keep.refl s) (by omega)
end
end Go.Proofs.YtdldbmpkpjlmmaaGreatDoor.Rf

namespace Go.Proofs.YtdldbmpkpjlmmaaGreatDoor.Rf
open Go.RowKit Go.Sort
open Blk (Cfg)
open Lis (intsN upd upd_same upd_other)
open Hp (St Wf own cls wdA bn fr bnI frI bnI_nat frI_nat stS beS baS puS unS frS zr asS handB baE frE beE puE fE fN lE lV sE takB colB mayV mayV_true mkE mkA mkS Mine)
open Go.Proofs.YtdldbmpkpjlmmaaGreatDoor.Row (Chg Rd Rd0 rowB)
open Go.Proofs.YtdldbmpkpjlmmaaGreatDoor.Addr (Tabs)
section
variable {w : World} {H M base m : Nat} {d : Hp.Ids} {i : Ri} {s : St}
set_option maxRecDepth 100000 in
set_option maxHeartbeats 4000000 in
theorem does_put (a b c : Int) (w : World) (h : Bo w H d M base i w d s m i s) (hm : m ≤ 500000) : Calls Tryz.prog 12 #[.pointer (some ⟨H, 0, none⟩), .pointer (some ⟨M, 0, none⟩), deedV 2 a b c] w (DoP w H M base d i s m) := by
  have HH := Lib.hid h
  obtain ⟨hB0, hQ⟩ := h.box 2 a b c
  have HB0 := Lib.hid hB0
  have HQ := Lib.hid hQ
  have HPU := Lib.hid (pu_of h.is (by omega))
  clear h hB0 hQ
  unfold deedV
  unfold bxD at HB0 HQ
  have HK0 := Lib.hid (HQ.out _ _ _ _ _ _ (HB0.out.drewN 1))
  go_enter Tryz.func12, Tryz.ntmps12
  go_wp2
  go_region_held3 (fun W => W.cell? ⟨w.heap.size, 1, none⟩ = some (.int .i64 a) ∧ W.cell? ⟨w.heap.size, 2, none⟩ = some (.int .i64 b) ∧ W.cell? ⟨w.heap.size, 3, none⟩ = some (.int .i64 c))
    (first | exact HK0.out | exact S2 | exact S3)
    (first
      | (go_at_call 28; refine (Hp.put_any a _ (HB0.out.drewN 1).is (HB0.out.drewN 1).tb (by omega)).mono ?_; rintro e w2 ⟨rfl, hT⟩; obtain ⟨d2, hB2⟩ := (HB0.out.drewN 1).heap hT; have HB2 := Lib.hid hB2; have S2 := HQ.out _ _ _ _ _ _ hB2; clear hT hB2)
      | (go_at_call 50; refine (put_any a _ HB2.out.rp HPU.out).mono ?_; rintro e w3 ⟨rfl, hT⟩; obtain ⟨i3, hB3⟩ := HB2.out.ref hT; have HB3 := Lib.hid hB3; have S3 := HQ.out _ _ _ _ _ _ hB3; clear hT hB3))
  go_wp2
  go_ret
  exact HH.out.fin HB3.out (by split <;> first | exact Keep.refl s | exact ⟨rfl, rfl, List.length_set ..⟩) (by omega)
set_option maxRecDepth 100000 in
set_option maxHeartbeats 4000000 in
theorem does_bear (a b c : Int) (w : World) (h : Bo w H d M base i w d s m i s) (hm : m ≤ 500000) : Calls Tryz.prog 12 #[.pointer (some ⟨H, 0, none⟩), .pointer (some ⟨M, 0, none⟩), deedV 4 a b c] w (DoP w H M base d i s m) := by
  have HH := Lib.hid h
  obtain ⟨hB0, hQ⟩ := h.box 4 a b c
  have HB0 := Lib.hid hB0
  have HQ := Lib.hid hQ
  have HPU := Lib.hid (pu_of h.is (by omega))
  clear h hB0 hQ
  unfold deedV
  unfold bxD at HB0 HQ
  have HK0 := Lib.hid (HQ.out _ _ _ _ _ _ (HB0.out.drewN 1))
  go_enter Tryz.func12, Tryz.ntmps12
  go_wp2
  go_region_held3 (fun W => W.cell? ⟨w.heap.size, 1, none⟩ = some (.int .i64 a) ∧ W.cell? ⟨w.heap.size, 2, none⟩ = some (.int .i64 b) ∧ W.cell? ⟨w.heap.size, 3, none⟩ = some (.int .i64 c))
    (first | exact HK0.out | exact S2 | exact S3)
    (first
      | (go_at_call 30; refine (Hp.bear_any a c _ (HB0.out.drewN 1).is (HB0.out.drewN 1).tb (by omega)).mono ?_; rintro e w2 ⟨rfl, hT⟩; obtain ⟨d2, hB2⟩ := (HB0.out.drewN 1).heap hT; have HB2 := Lib.hid hB2; have S2 := HQ.out _ _ _ _ _ _ hB2; clear hT hB2)
      | (go_at_call 52; refine (bear_any a c _ HB2.out.rp HPU.out).mono ?_; rintro e w3 ⟨rfl, hT⟩; obtain ⟨i3, hB3⟩ := HB2.out.ref hT; have HB3 := Lib.hid hB3; have S3 := HQ.out _ _ _ _ _ _ hB3; clear hT hB3))
  go_wp2
  go_ret
  exact HH.out.fin HB3.out (by split <;> first | exact Keep.refl s | exact ⟨rfl, rfl, rfl⟩) (by omega)
set_option maxRecDepth 100000 in
set_option maxHeartbeats 4000000 in
theorem does_free (a b c : Int) (w : World) (h : Bo w H d M base i w d s m i s) (hm : m ≤ 500000) : Calls Tryz.prog 12 #[.pointer (some ⟨H, 0, none⟩), .pointer (some ⟨M, 0, none⟩), deedV 5 a b c] w (DoP w H M base d i s m) := by
  have HH := Lib.hid h
  obtain ⟨hB0, hQ⟩ := h.box 5 a b c
  have HB0 := Lib.hid hB0
  have HQ := Lib.hid hQ
  have HPU := Lib.hid (pu_of h.is (by omega))
  clear h hB0 hQ
  unfold deedV
  unfold bxD at HB0 HQ
  have HK0 := Lib.hid (HQ.out _ _ _ _ _ _ (HB0.out.drewN 1))
  go_enter Tryz.func12, Tryz.ntmps12
  go_wp2
  go_region_held3 (fun W => W.cell? ⟨w.heap.size, 1, none⟩ = some (.int .i64 a) ∧ W.cell? ⟨w.heap.size, 2, none⟩ = some (.int .i64 b) ∧ W.cell? ⟨w.heap.size, 3, none⟩ = some (.int .i64 c))
    (first | exact HK0.out | exact S2 | exact S3)
    (first
      | (go_at_call 31; refine (Hp.free_any a _ (HB0.out.drewN 1).is (HB0.out.drewN 1).tb (by omega)).mono ?_; rintro e w2 ⟨rfl, hT⟩; obtain ⟨d2, hB2⟩ := (HB0.out.drewN 1).heap hT; have HB2 := Lib.hid hB2; have S2 := HQ.out _ _ _ _ _ _ hB2; clear hT hB2)
      | (go_at_call 53; refine (release_all a _ HB2.out.rp HPU.out).mono ?_; rintro e w3 ⟨rfl, hT⟩; obtain ⟨i3, hB3⟩ := HB2.out.ref hT; have HB3 := Lib.hid hB3; have S3 := HQ.out _ _ _ _ _ _ hB3; clear hT hB3))
  go_wp2
  go_ret
  exact HH.out.fin HB3.out (by split <;> first | exact Keep.refl s | exact ⟨rfl, rfl, List.length_set ..⟩) (by omega)
set_option maxRecDepth 100000 in
set_option maxHeartbeats 4000000 in
theorem does_store (a b c : Int) (w : World) (h : Bo w H d M base i w d s m i s) (hm : m ≤ 500000) : Calls Tryz.prog 12 #[.pointer (some ⟨H, 0, none⟩), .pointer (some ⟨M, 0, none⟩), deedV 6 a b c] w (DoP w H M base d i s m) := by
  have HH := Lib.hid h
  obtain ⟨hB0, hQ⟩ := h.box 6 a b c
  have HB0 := Lib.hid hB0
  have HQ := Lib.hid hQ
  have HPU := Lib.hid (pu_of h.is (by omega))
  clear h hB0 hQ
  unfold deedV
  unfold bxD at HB0 HQ
  have HK0 := Lib.hid (HQ.out _ _ _ _ _ _ (HB0.out.drewN 1))
  go_enter Tryz.func12, Tryz.ntmps12
  go_wp2
  go_region_held3 (fun W => W.cell? ⟨w.heap.size, 1, none⟩ = some (.int .i64 a) ∧ W.cell? ⟨w.heap.size, 2, none⟩ = some (.int .i64 b) ∧ W.cell? ⟨w.heap.size, 3, none⟩ = some (.int .i64 c))
    (first | exact HK0.out | exact S2 | exact S3)
    (first
      | (go_at_call 32; refine (Hp.storeF_any a b c _ (HB0.out.drewN 1).is (HB0.out.drewN 1).tb (by omega)).mono ?_; rintro e w2 ⟨rfl, hT⟩; obtain ⟨d2, hB2⟩ := (HB0.out.drewN 1).heap hT; have HB2 := Lib.hid hB2; have S2 := HQ.out _ _ _ _ _ _ hB2; clear hT hB2)
      | (go_at_call 54; refine (store_any a b c _ HB2.out.rp).mono ?_; rintro e w3 ⟨rfl, hT⟩; obtain ⟨i3, hB3⟩ := HB2.out.ref hT; have HB3 := Lib.hid hB3; have S3 := HQ.out _ _ _ _ _ _ hB3; clear hT hB3))
  go_wp2
  go_ret
  exact HH.out.fin HB3.out (by split <;> first | exact Keep.refl s | exact ⟨rfl, rfl, List.length_set ..⟩) (by omega)
end
end Go.Proofs.YtdldbmpkpjlmmaaGreatDoor.Rf

namespace Go.Proofs.YtdldbmpkpjlmmaaGreatDoor.Rf
open Go.RowKit Go.Sort
open Blk (Cfg perN perN_le adr cellsF)
open Class (isB isB_true sizI roomI roomI_yes)
open Lis (intsN upd upd_same upd_other)
open Hp (St Wf own cls wdA bn fr bnI frI bnI_nat frI_nat stS beS baS puS unS frS zr asS handB baE frE beE puE fE fN lE lV sE takB colB mayV mayV_true mkE mkA mkS Mine)
open Go.Proofs.YtdldbmpkpjlmmaaGreatDoor.Row (Chg Rd Rd0 rowB cellsZ owns_lt owns_chg same_any)
open Go.Proofs.YtdldbmpkpjlmmaaGreatDoor.Addr (Tabs)
section
variable {w : World} {H M base m : Nat} {d : Hp.Ids} {i : Ri} {s : St}
set_option maxRecDepth 100000 in
set_option maxHeartbeats 4000000 in
theorem does_assign_no (v : Int) (a b c : Int) (w : World) (h : Bo w H d M base i w d s m i s) (_hm : m ≤ 500000)
    (h1 : ∀ W, Bo (bxD w 1 a b c) H d M base i W d s m i s → Calls Tryz.prog 25 #[.pointer (some ⟨H, 0, none⟩), .int .i64 a] W fun e w' => e = .returned (.tuple #[.slice none 0 0, .int .i64 v]) ∧ Hp.To W w' H d s m)
    (h2 : ∀ W d', Bo (bxD w 1 a b c) H d M base i W d' s m i s → Calls Tryz.prog 48 #[.pointer (some ⟨M, 0, none⟩), .int .i64 a] W fun e w' => e = .returned (.tuple #[.slice none 0 0, .int .i64 v]) ∧ RTo W w' M base i s) :
    Calls Tryz.prog 12 #[.pointer (some ⟨H, 0, none⟩), .pointer (some ⟨M, 0, none⟩), deedV 1 a b c] w (DoP w H M base d i s m) := by
  have HH := Lib.hid h
  obtain ⟨hB0, hQ⟩ := h.box 1 a b c
  have HB0 := Lib.hid hB0
  have HQ := Lib.hid hQ
  have H1 := Lib.hid h1
  have H2 := Lib.hid h2
  have HS : Hid (∀ W, Calls Tryz.prog 49 #[.slice none 0 0, .slice none 0 0] W fun e w' => e = .returned (.bool true) ∧ ∃ n, w' = W.drewN n) := Lib.hid fun W => same_any none none 0 0 [] W (Rd.nil _) (Rd.nil _) (by simp)
  clear h hB0 hQ h1 h2
  unfold deedV
  unfold bxD at HB0 HQ H1 H2
  go_enter Tryz.func12, Tryz.ntmps12
  go_wp2_with (first
    | (go_at_call 25; refine (H1.out _ HB0.out).mono ?_; rintro e w2 ⟨rfl, hT⟩; obtain ⟨d2, hB2⟩ := HB0.out.heap hT; have HB2 := Lib.hid hB2; obtain ⟨x1, x2, x3⟩ := HQ.out _ _ _ _ _ _ hB2; clear hT hB2)
    | (go_at_call 48; refine (H2.out _ _ HB2.out).mono ?_; rintro e w3 ⟨rfl, hT⟩; obtain ⟨i3, hB3⟩ := HB2.out.ref hT; have HB3 := Lib.hid hB3; clear hT hB3)
    | (go_at_call 49; refine (HS.out _).mono ?_; rintro e w4 ⟨rfl, q4, rfl⟩))
  go_ret
  exact HH.out.fin (HB3.out.drewN _) (Keep.refl s) (by omega)
set_option maxRecDepth 100000 in
set_option maxHeartbeats 4000000 in
theorem does_assign_good (k : Nat) (b c : Int) (w : World) (h : Bo w H d M base i w d s m i s) (_hm : m ≤ 500000) (hk : k < 4) (hf : (s.ks.length : Int) < s.c.b) :
    Calls Tryz.prog 12 #[.pointer (some ⟨H, 0, none⟩), .pointer (some ⟨M, 0, none⟩), deedV 1 k b c] w (DoP w H M base d i s m) := by
  have HH := Lib.hid h
  obtain ⟨hB0, hQ⟩ := h.box 1 k b c
  have HB0 := Lib.hid hB0
  have HQ := Lib.hid hQ
  have HS : Hid (∀ W p q cp cq, Rd W p (ouL s k (perN s.c k)) → Rd W q (ouL s k (perN s.c k)) → Calls Tryz.prog 49 #[.slice p (perN s.c k) cp, .slice q (perN s.c k) cq] W fun e w' => e = .returned (.bool true) ∧ ∃ n, w' = W.drewN n) := Lib.hid fun W p q cp cq h1 h2 => by
    have := same_any p q cp cq (ouL s k (perN s.c k)) W h1 h2 (by rw [ouL_len]; have := perN_le s.c k; omega)
    rw [ouL_len] at this
    exact this
  have HRD : Hid (∀ (W : World) (bs : Nat) p cp, W.ownsRow bs 3 1 (.slice p (perN s.c k) cp) (perN s.c k) (cellsF (adr s.c k s.ks.length) (perN s.c k)) → Rd W p (ouL s k (perN s.c k))) := Lib.hid fun W bs p cp ho => by
    rw [← cellsZ_ouL] at ho
    have e := ouL_len s k (perN s.c k)
    refine Rd.of_owns (base := bs) (cap := cp) ?_
    rw [e]
    exact ho
  have HF := Lib.hid hf
  clear h hB0 hQ hf
  unfold deedV
  unfold bxD at HB0 HQ
  go_enter Tryz.func12, Tryz.ntmps12
  go_wp2_with (first
    | (go_at_call 25; refine (Hp.assign_good k _ HB0.out.is HB0.out.tb hk HF.out).mono ?_; rintro e w2 ⟨p, cp, d1, rfl, ho, hI, hC, hR, hA⟩; obtain ⟨d2, hB2⟩ := HB0.out.heap ⟨d1, hI, hC, hR⟩; have HB2 := Lib.hid hB2; have HO := Lib.hid ho; have HN := Lib.hid (fun g hg => (show ¬ All M i g from fun e => by have := HB0.out.rp.mem.ltA e; have := (owns_lt ho (g := g) hg).1; omega)); obtain ⟨x1, x2, x3⟩ := HQ.out _ _ _ _ _ _ hB2; clear ho hI hC hR hA hB2)
    | (go_at_call 48; refine (assign_good k _ HB2.out.rp hk HF.out).mono ?_; rintro e w3 ⟨q, cq, i1, rfl, ho3, hR3, hC3, hI3, hA3⟩; obtain ⟨i3, hB3⟩ := HB2.out.ref ⟨i1, hR3, hC3, hI3⟩; have HB3 := Lib.hid hB3; have HR1 := Lib.hid (HRD.out _ _ _ _ (owns_chg HO.out hC3 HN.out)); have HR2 := Lib.hid (HRD.out _ _ _ _ ho3); clear ho3 hR3 hC3 hI3 hA3 hB3)
    | (go_at_call 49; refine (HS.out _ _ _ _ _ HR1.out HR2.out).mono ?_; rintro e w4 ⟨rfl, q4, rfl⟩))
  go_ret
  exact HH.out.fin (HB3.out.drewN _) ⟨rfl, rfl, rfl⟩ (by omega)
theorem does_assign (a b c : Int) (w : World) (h : Bo w H d M base i w d s m i s) (hm : m ≤ 500000) :
    Calls Tryz.prog 12 #[.pointer (some ⟨H, 0, none⟩), .pointer (some ⟨M, 0, none⟩), deedV 1 a b c] w (DoP w H M base d i s m) := by
  cases hk : isB a with
  | false =>
    refine does_assign_no 1 a b c w h hm (fun W hB => ?_) (fun W d' hB => ?_)
    · refine (Hp.assign_bad a W hB.is hk).mono ?_
      rintro e w' ⟨rfl, rfl⟩
      exact ⟨rfl, Hp.To.of_below hB.is (Below.refl _ _)⟩
    · refine (assign_bad a W hk).mono ?_
      rintro e w' ⟨rfl, rfl⟩
      exact ⟨rfl, RTo.of_below hB.rp (Below.refl _ _)⟩
  | true =>
    obtain ⟨k0, k4⟩ := isB_true.1 hk
    by_cases hf : (s.ks.length : Int) < s.c.b
    · obtain ⟨k, rfl⟩ := Int.eq_ofNat_of_zero_le k0
      exact does_assign_good k b c w h hm (by omega) hf
    · have hf2 : (s.ks.length : Int) = s.c.b := by have := h.is.wf.full; omega
      exact does_assign_no 10 a b c w h hm (fun W hB => Hp.assign_full a W hB.is hk hf2) (fun W d' hB => assign_full a W hB.rp hk hf2)
/-- What holds while the fields are laid that Begin leaves open. -/
theorem zr_store {a n j : Nat} {W : World} {d' : Hp.Ids} {m' : Nat} (h0 : Wf s) (hh : handB s a = true) (hok : Hdr.okB (cls s a : Nat) (n : Nat) = true) (hj : j < n) (hI : Hp.Is W H d' (zr (beS s a n) a j) m') (ht : Tabs W) (hm : m' < 900000) :
    Calls Tryz.prog 32 #[.pointer (some ⟨H, 0, none⟩), .int .i64 (a : Nat), .int .i64 (j : Nat), .int .i64 0] W fun e w' => e = .returned (.int .i64 0) ∧ Hp.To W w' H d' (zr (beS s a n) a (j + 1)) (m' + 2) := by
  obtain ⟨i1, i2, i3⟩ := Hdr.isOb_ob hok
  have hbd := h0.own_bd (isV_zero (hand_isV.1 hh)).1
  have hwz : wdA (zr (beS s a n) a j) a = Hdr.obI (cls s a : Nat) (n : Nat) := (Hp.zr_wdA _ (by omega) j).trans (Hp.wdA_be (by omega) (by omega))
  have hh3 : handB (beS s a n) a = true := hh
  have hs0 : sE (zr (beS s a n) a j) (a : Nat) j 0 = 0 := Hp.sE_zero hI.wf (by rw [Hp.zr_hand]; exact hh3) (by rw [hwz]; exact i1) (by rw [hwz]; exact i3) hj
  have := Hp.storeF_any (a : Nat) (j : Nat) 0 W hI ht (by omega)
  rw [hs0, if_pos rfl, Int.toNat_natCast, Int.toNat_natCast] at this
  exact this
set_option maxRecDepth 100000 in
set_option maxHeartbeats 4000000 in
theorem does_begin_no (a b c : Int) (w : World) (h : Bo w H d M base i w d s m i s) (hm : m ≤ 500000) (he : beE s a b ≠ 0) : Calls Tryz.prog 12 #[.pointer (some ⟨H, 0, none⟩), .pointer (some ⟨M, 0, none⟩), deedV 3 a b c] w (DoP w H M base d i s m) := by
  have HH := Lib.hid h
  obtain ⟨hB0, hQ⟩ := h.box 3 a b c
  have HB0 := Lib.hid hB0
  have HQ := Lib.hid hQ
  have hne : (beE s a b != 0) = true := by simpa using he
  have H1 := Lib.hid (fun (W : World) (d' : Hp.Ids) (hI : Hp.Is W H d' s m) (ht : Tabs W) => (by
    have := Hp.begin_any a b W hI ht (by omega)
    rw [if_neg he] at this
    exact this : Calls Tryz.prog 29 #[.pointer (some ⟨H, 0, none⟩), .int .i64 a, .int .i64 b] W fun e w' => e = .returned (.int .i64 (beE s a b)) ∧ Hp.To W w' H d' s (m + 1)))
  have H2 := Lib.hid (fun (W : World) (i' : Ri) (hR : Rp W M base i' s) => (by
    have := begin_any a b W hR
    rw [if_neg he] at this
    exact this : Calls Tryz.prog 51 #[.pointer (some ⟨M, 0, none⟩), .int .i64 a, .int .i64 b] W fun e w' => e = .returned (.int .i64 (beE s a b)) ∧ RTo W w' M base i' s))
  clear h hB0 hQ he
  unfold deedV
  unfold bxD at HB0 HQ
  generalize beE s a b = v at *
  go_enter Tryz.func12, Tryz.ntmps12
  go_wp2_with (first
    | (go_at_call 29; refine (H1.out _ _ HB0.out.is HB0.out.tb).mono ?_; rintro e w2 ⟨rfl, hT⟩; obtain ⟨d2, hB2⟩ := HB0.out.heap hT; have HB2 := Lib.hid hB2; obtain ⟨x1, x2, x3⟩ := HQ.out _ _ _ _ _ _ hB2; clear hT hB2)
    | (go_at_call 51; refine (H2.out _ _ HB2.out.rp).mono ?_; rintro e w3 ⟨rfl, hT⟩; obtain ⟨i3, hB3⟩ := HB2.out.ref hT; have HB3 := Lib.hid hB3; clear hT hB3))
  go_ret
  exact HH.out.fin HB3.out (Keep.refl s) (by omega)
set_option maxRecDepth 100000 in
set_option maxHeartbeats 4000000 in
theorem does_begin_yes (a n : Nat) (c : Int) (w : World) (h : Bo w H d M base i w d s m i s) (hm : m ≤ 500000) (hh : handB s a = true) (hok : Hdr.okB (cls s a : Nat) (n : Nat) = true) : Calls Tryz.prog 12 #[.pointer (some ⟨H, 0, none⟩), .pointer (some ⟨M, 0, none⟩), deedV 3 a n c] w (DoP w H M base d i s m) := by
  have HH := Lib.hid h
  obtain ⟨hB0, hQ⟩ := h.box 3 a n c
  have HB0 := Lib.hid hB0
  have HQ := Lib.hid hQ
  have hbe : beE s a n = 0 := by rw [beE, if_pos hh, if_pos hok]
  have hn15 : n ≤ 15 := by
    obtain ⟨o1, o2, o3⟩ := Hdr.okB_true.1 hok
    have := (Hdr.room_le o1).1
    omega
  have H1 := Lib.hid (fun (W : World) (d' : Hp.Ids) (hI : Hp.Is W H d' s m) (ht : Tabs W) => (by
    have := Hp.begin_any a n W hI ht (by omega)
    rw [hbe, if_pos rfl, Int.toNat_natCast, Int.toNat_natCast] at this
    exact this : Calls Tryz.prog 29 #[.pointer (some ⟨H, 0, none⟩), .int .i64 a, .int .i64 n] W fun e w' => e = .returned (.int .i64 0) ∧ Hp.To W w' H d' (beS s a n) (m + 1)))
  have H2 := Lib.hid (fun (W : World) (i' : Ri) (hR : Rp W M base i' s) => tail_begin hR hh hok)
  have H3 := Lib.hid (fun (W : World) (d' : Hp.Ids) (j : Nat) (hj : j < n) (hI : Hp.Is W H d' (zr (beS s a n) a j) (m + 1 + 2 * j)) (ht : Tabs W) => zr_store (W := W) h.is.wf hh hok hj hI ht (by omega))
  have HK : Hid (Keep s (bzS s a n)) := Lib.hid (by
    obtain ⟨z1, z2, z3, z4, z5, z6, z7⟩ := Hp.zr_rest (beS s a n) a n
    exact ⟨z1, by show (zr (beS s a n) a n).ce.length = _; rw [z6]; rfl, (bz_eq s a n).2⟩)
  clear h hB0 hQ hbe hh hok
  unfold deedV
  unfold bxD at HB0 HQ
  go_enter Tryz.func12, Tryz.ntmps12
  go_wp2_with (first
    | (go_at_call 29; refine (H1.out _ _ HB0.out.is HB0.out.tb).mono ?_; rintro e w2 ⟨rfl, hT⟩; obtain ⟨d2, hB2⟩ := HB0.out.heap hT; have HB2 := Lib.hid hB2; obtain ⟨x1, x2, x3⟩ := HQ.out _ _ _ _ _ _ hB2; clear hT hB2)
    | (go_at_call 51; refine (H2.out _ _ HB2.out.rp).mono ?_; rintro e w3 ⟨rfl, hT⟩; obtain ⟨i3, hB3⟩ := HB2.out.ref hT; have HB3 := Lib.hid hB3; clear hT hB3))
  go_loopw [17] (fun x wr => ∃ (j : Nat) (d' : Hp.Ids), j ≤ n ∧ x = .int .i64 (j : Int) ∧ Bo (w.alloc (.cells #[.int .u8 3, .int .i64 a, .int .i64 n, .int .i64 c] 35)) H d M base i wr d' (zr (beS s a n) a j) (m + 1 + 2 * j) i3 (bzS s a n)) (fun x _ => n - (intOf x).toNat)
  case atStart => exact ⟨0, d2, Nat.zero_le _, rfl, HB3.out⟩
  case round =>
    obtain ⟨j, d', hj, rfl, hB⟩ := hrel
    have HB := Lib.hid hB
    obtain ⟨x1, x2, x3⟩ := HQ.out _ _ _ _ _ _ hB
    have j0 : (0 : Int) ≤ (j : Int) := Int.natCast_nonneg _
    clear hB HB3
    by_cases hlt : j < n
    · have j1 : (j : Int) < (n : Int) := by omega
      have j2 : (j : Int) ≤ 15 := by omega
      go_wp2_with (go_at_call 32; refine (H3.out _ _ j hlt HB.out.is HB.out.tb).mono ?_; rintro e w4 ⟨rfl, hT⟩; obtain ⟨d4, hB4⟩ := HB.out.heap hT; have HB4 := Lib.hid hB4; clear hT hB4)
      go_roundw
      case rel => exact ⟨j + 1, d4, by omega, by go_num, HB4.out.more (by omega)⟩
      case measure => simp [intOf]; omega
    · have j1 : ¬ (j : Int) < (n : Int) := by omega
      obtain rfl : j = n := by omega
      go_wp2
      go_ret
      exact HH.out.fin HB.out HK.out (by omega)
theorem does_begin (a b c : Int) (w : World) (h : Bo w H d M base i w d s m i s) (hm : m ≤ 500000) : Calls Tryz.prog 12 #[.pointer (some ⟨H, 0, none⟩), .pointer (some ⟨M, 0, none⟩), deedV 3 a b c] w (DoP w H M base d i s m) := by
  by_cases he : beE s a b = 0
  · unfold beE at he
    split at he
    · next hh =>
      split at he
      · next hok =>
        obtain ⟨n, rfl, n1, n2⟩ := own_nat h.is.wf (isV_zero (hand_isV.1 hh)).1
        obtain ⟨b, rfl⟩ := Int.eq_ofNat_of_zero_le (Hdr.okB_true.1 hok).2.1
        exact does_begin_yes n b c w h hm hh hok
      · omega
    · omega
  · exact does_begin_no a b c w h hm he
end
end Go.Proofs.YtdldbmpkpjlmmaaGreatDoor.Rf

namespace Go.Proofs.YtdldbmpkpjlmmaaGreatDoor.Rf
open Go.RowKit Go.Sort
open Blk (Cfg)
open Lis (intsN upd upd_same upd_other)
open Hp (St Wf mayV mayV_true Mine scE scS)
open Go.Proofs.YtdldbmpkpjlmmaaGreatDoor.Row (Chg Rd Rd0 rowB)
open Go.Proofs.YtdldbmpkpjlmmaaGreatDoor.Addr (Tabs)
section
variable {w : World} {H M base m : Nat} {d : Hp.Ids} {i : Ri} {s : St}
theorem Rp.setcell {w : World} (h : Rp w M base i s) {j : Nat} (hj : j < s.ce.length) (v : Int) : Rp (w.setCell ⟨i.Cb, j, none⟩ (.int .i64 v)) M base i (scS s j v) ∧ Chg (All M i) w (w.setCell ⟨i.Cb, j, none⟩ (.int .i64 v)) := by
  obtain ⟨g1, g2⟩ := h.mem.setCell' hj v
  exact ⟨⟨by show RfIs _ M base i s.c s.ks.length _ (s.ce.set (j : Int).toNat v); rw [Int.toNat_natCast]; exact g1, h.adr, fun x hx => (h.ok x hx).frame rfl rfl rfl rfl rfl (fun _ => rfl), ⟨h.wf.right, h.wf.words, h.wf.full, h.wf.free, h.wf.born, h.wf.room, h.wf.fresh⟩, h.k4⟩, chg_all g2⟩
set_option maxRecDepth 100000 in
set_option maxHeartbeats 4000000 in
theorem does_cell_no (a b c : Int) (w : World) (h : Bo w H d M base i w d s m i s) (_hm : m ≤ 500000) (he : ¬ (0 ≤ a ∧ a < (s.ce.length : Int))) : Calls Tryz.prog 12 #[.pointer (some ⟨H, 0, none⟩), .pointer (some ⟨M, 0, none⟩), deedV 8 a b c] w (DoP w H M base d i s m) := by
  have HH := Lib.hid h
  obtain ⟨hB0, hQ⟩ := h.box 8 a b c
  have HB0 := Lib.hid hB0
  have HQ := Lib.hid hQ
  have H1 := Lib.hid (fun (W : World) (d' : Hp.Ids) (hI : Hp.Is W H d' s m) => (by
    have := Hp.setcell_any a c W hI
    have e : scE s a c = 9 := by unfold scE; rw [if_neg he]
    rw [e, if_neg (by decide)] at this
    exact this : Calls Tryz.prog 33 #[.pointer (some ⟨H, 0, none⟩), .int .i64 a, .int .i64 c] W fun e w' => e = .returned (.int .i64 9) ∧ Hp.To W w' H d' s m))
  clear h hB0 hQ
  unfold deedV
  unfold bxD at HB0 HQ
  by_cases h0 : 0 ≤ a
  · have hd0 : decide (a < 0) = false := by simpa using h0
    have hd1 : decide ((s.ce.length : Int) ≤ a) = true := by simp; omega
    clear he
    go_enter Tryz.func12, Tryz.ntmps12
    go_wp2_with (go_at_call 33; refine (H1.out _ _ HB0.out.is).mono ?_; rintro e w2 ⟨rfl, hT⟩; obtain ⟨d2, hB2⟩ := HB0.out.heap hT; have HB2 := Lib.hid hB2; obtain ⟨x1, x2, x3⟩ := HQ.out _ _ _ _ _ _ hB2; have cE := hB2.rp.mem.cE; clear hT hB2)
    go_quiet (fail)
    go_wp2
    go_ret
    exact HH.out.fin (HB2.out.drewN _) (Keep.refl s) (by omega)
  · have hd0 : decide (a < 0) = true := by simpa using h0
    clear he
    go_enter Tryz.func12, Tryz.ntmps12
    go_wp2_with (go_at_call 33; refine (H1.out _ _ HB0.out.is).mono ?_; rintro e w2 ⟨rfl, hT⟩; obtain ⟨d2, hB2⟩ := HB0.out.heap hT; have HB2 := Lib.hid hB2; obtain ⟨x1, x2, x3⟩ := HQ.out _ _ _ _ _ _ hB2; clear hT hB2)
    go_quiet (fail)
    go_wp2
    go_ret
    exact HH.out.fin (HB2.out.drewN _) (Keep.refl s) (by omega)
set_option maxRecDepth 100000 in
set_option maxHeartbeats 4000000 in
theorem does_cell_range (a : Nat) (b c : Int) (w : World) (h : Bo w H d M base i w d s m i s) (_hm : m ≤ 500000) (ha : a < s.ce.length) (hv : mayV s c = false) : Calls Tryz.prog 12 #[.pointer (some ⟨H, 0, none⟩), .pointer (some ⟨M, 0, none⟩), deedV 8 a b c] w (DoP w H M base d i s m) := by
  have HH := Lib.hid h
  obtain ⟨hB0, hQ⟩ := h.box 8 a b c
  have HB0 := Lib.hid hB0
  have HQ := Lib.hid hQ
  have H1 := Lib.hid (fun (W : World) (d' : Hp.Ids) (hI : Hp.Is W H d' s m) => (by
    have := Hp.setcell_any a c W hI
    have e : scE s a c = 4 := by unfold scE; rw [if_pos ⟨by omega, by omega⟩, hv]; rfl
    rw [e, if_neg (by decide)] at this
    exact this : Calls Tryz.prog 33 #[.pointer (some ⟨H, 0, none⟩), .int .i64 a, .int .i64 c] W fun e w' => e = .returned (.int .i64 4) ∧ Hp.To W w' H d' s m))
  obtain ⟨hw1, hw2⟩ := words_wrap h.is.wf
  have hn : ¬ (0 ≤ c ∧ c ≤ (s.ws.length : Int)) := fun e => by rw [mayV_true.2 e] at hv; cases hv
  have hd0 : decide ((a : Int) < 0) = false := by simp
  have hd1 : decide ((s.ce.length : Int) ≤ (a : Int)) = false := by simp; omega
  have hd1' : decide (s.ce.length ≤ a) = false := by simp; omega
  clear h hB0 hQ hv
  unfold deedV
  unfold bxD at HB0 HQ
  by_cases h0 : 0 ≤ c
  · have he0 : decide (c < 0) = false := by simpa using h0
    have he1 : decide ((s.ws.length : Int) < c) = true := by simp; omega
    clear hn
    go_enter Tryz.func12, Tryz.ntmps12
    go_wp2_with (go_at_call 33; refine (H1.out _ _ HB0.out.is).mono ?_; rintro e w2 ⟨rfl, hT⟩; obtain ⟨d2, hB2⟩ := HB0.out.heap hT; have HB2 := Lib.hid hB2; obtain ⟨x1, x2, x3⟩ := HQ.out _ _ _ _ _ _ hB2; have cE := hB2.rp.mem.cE; have c0 := hB2.rp.mem.b0; have c1 := hB2.rp.mem.b1; clear hT hB2)
    go_quiet (fail)
    go_wp2
    go_quiet (fail)
    go_wp2
    go_ret
    exact HH.out.fin (HB2.out.drewN _) (Keep.refl s) (by omega)
  · have he0 : decide (c < 0) = true := by simpa using h0
    clear hn
    go_enter Tryz.func12, Tryz.ntmps12
    go_wp2_with (go_at_call 33; refine (H1.out _ _ HB0.out.is).mono ?_; rintro e w2 ⟨rfl, hT⟩; obtain ⟨d2, hB2⟩ := HB0.out.heap hT; have HB2 := Lib.hid hB2; obtain ⟨x1, x2, x3⟩ := HQ.out _ _ _ _ _ _ hB2; have cE := hB2.rp.mem.cE; clear hT hB2)
    go_quiet (fail)
    go_wp2
    go_quiet (fail)
    go_wp2
    go_ret
    exact HH.out.fin (HB2.out.drewN _) (Keep.refl s) (by omega)
set_option maxRecDepth 100000 in
set_option maxHeartbeats 4000000 in
theorem does_cell_good (a : Nat) (b : Int) (c : Nat) (w : World) (h : Bo w H d M base i w d s m i s) (_hm : m ≤ 500000) (ha : a < s.ce.length) (hv : c ≤ s.ws.length) : Calls Tryz.prog 12 #[.pointer (some ⟨H, 0, none⟩), .pointer (some ⟨M, 0, none⟩), deedV 8 a b c] w (DoP w H M base d i s m) := by
  have HH := Lib.hid h
  obtain ⟨hB0, hQ⟩ := h.box 8 a b c
  have HB0 := Lib.hid hB0
  have HQ := Lib.hid hQ
  have H1 := Lib.hid (fun (W : World) (d' : Hp.Ids) (hI : Hp.Is W H d' s m) => (by
    have := Hp.setcell_any a c W hI
    have e : scE s a c = 0 := by unfold scE; rw [if_pos ⟨by omega, by omega⟩, mayV_true.2 ⟨by omega, by omega⟩]; rfl
    rw [e, if_pos rfl] at this
    exact this : Calls Tryz.prog 33 #[.pointer (some ⟨H, 0, none⟩), .int .i64 a, .int .i64 c] W fun e w' => e = .returned (.int .i64 0) ∧ Hp.To W w' H d' (scS s a c) m))
  obtain ⟨hw1, hw2⟩ := words_wrap h.is.wf
  have h64 := h.is.capc.2
  have hd0 : decide ((a : Int) < 0) = false := by simp
  have hd1 : decide ((s.ce.length : Int) ≤ (a : Int)) = false := by simp; omega
  have hd1' : decide (s.ce.length ≤ a) = false := by simp; omega
  have he0 : decide ((c : Int) < 0) = false := by simp
  have he1 : decide ((s.ws.length : Int) < (c : Int)) = false := by simp; omega
  have he1' : decide (s.ws.length < c) = false := by simp; omega
  have HST : Hid (∀ W d' i', Bo (bxD w 8 a b c) H d M base i W d' (scS s a c) m i' s → ∃ i2, Bo (bxD w 8 a b c) H d M base i (W.setCell ⟨i'.Cb, a, none⟩ (.int .i64 (c : Nat))) d' (scS s a c) m i2 (scS s a c)) := Lib.hid fun W d' i' hB => by
    obtain ⟨g1, g2⟩ := hB.rp.setcell ha (c : Nat)
    exact hB.ref ⟨i', g1, g2, fun _ e => .inl e⟩
  have a1 : (a : Int) < (s.ce.length : Int) := by omega
  have a2 : (a : Int) ≤ 64 := by omega
  have HKP : Hid (Keep s (scS s a c)) := Lib.hid ⟨rfl, by show (s.ce.set _ _).length = _; rw [List.length_set], rfl⟩
  clear h hB0 hQ hv
  unfold deedV
  unfold bxD at HB0 HQ HST
  go_enter Tryz.func12, Tryz.ntmps12
  go_wp2_with (go_at_call 33; refine (H1.out _ _ HB0.out.is).mono ?_; rintro e w2 ⟨rfl, hT⟩; obtain ⟨d2, hB2⟩ := HB0.out.heap hT; have HB2 := Lib.hid hB2; obtain ⟨x1, x2, x3⟩ := HQ.out _ _ _ _ _ _ hB2; have cE := hB2.rp.mem.cE; have c0 := hB2.rp.mem.b0; have c1 := hB2.rp.mem.b1; have k1 := hB2.rp.mem.cells a ha; have z1 := hB2.rp.mem.cfz a ha; clear hT hB2)
  go_quiet (fail)
  go_wp2
  go_quiet (fail)
  go_wp2
  go_region
  all_goals
    go_wp2
    go_ret
    obtain ⟨i4, hB4⟩ := HST.out _ _ _ (HB2.out.drewN _)
    exact HH.out.fin hB4 HKP.out (by omega)
theorem does_cell (a b c : Int) (w : World) (h : Bo w H d M base i w d s m i s) (hm : m ≤ 500000) : Calls Tryz.prog 12 #[.pointer (some ⟨H, 0, none⟩), .pointer (some ⟨M, 0, none⟩), deedV 8 a b c] w (DoP w H M base d i s m) := by
  by_cases he : 0 ≤ a ∧ a < (s.ce.length : Int)
  · obtain ⟨a, rfl⟩ := Int.eq_ofNat_of_zero_le he.1
    cases hv : mayV s c with
    | false => exact does_cell_range a b c w h hm (by omega) hv
    | true =>
      have := mayV_true.1 hv
      obtain ⟨c, rfl⟩ := Int.eq_ofNat_of_zero_le this.1
      exact does_cell_good a b c w h hm (by omega) (by omega)
  · exact does_cell_no a b c w h hm he
/-- A deed of any kind. -/
theorem does_any (kd : Nat) (a b c : Int) (w : World) (h : Bo w H d M base i w d s m i s) (hm : m ≤ 500000) : Calls Tryz.prog 12 #[.pointer (some ⟨H, 0, none⟩), .pointer (some ⟨M, 0, none⟩), deedV kd a b c] w (DoP w H M base d i s m) := by
  have hc : kd = 0 ∨ kd = 1 ∨ kd = 2 ∨ kd = 3 ∨ kd = 4 ∨ kd = 5 ∨ kd = 6 ∨ kd = 7 ∨ kd = 8 ∨ 9 ≤ kd := by omega
  rcases hc with rfl | rfl | rfl | rfl | rfl | rfl | rfl | rfl | rfl | hk
  · exact does_take a b c w h hm
  · exact does_assign a b c w h hm
  · exact does_put a b c w h hm
  · exact does_begin a b c w h hm
  · exact does_bear a b c w h hm
  · exact does_free a b c w h hm
  · exact does_store a b c w h hm
  · exact does_paint a b c w h hm
  · exact does_cell a b c w h hm
  · exact does_make kd hk a b c w h hm
end
end Go.Proofs.YtdldbmpkpjlmmaaGreatDoor.Rf
