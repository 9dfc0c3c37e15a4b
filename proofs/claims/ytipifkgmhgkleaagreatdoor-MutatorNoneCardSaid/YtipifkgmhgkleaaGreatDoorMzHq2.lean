/-
  Texts of the heap, one behind the other: HpE HpF HpH HpI HpJ.
-/
import Derived.Test.YtipifkgmhgkleaaGreatDoorMzHq1
namespace Go.Proofs.YtipifkgmhgkleaaGreatDoor.Hp
open Go.RowKit
open Class (isB isB_true isB_false is_any sizI sizI_bd roomI SizTab quiet_left below_drewN)
open Blk (Cfg TbIs ownB ownB_true blk kAt rowB adr perN seg)
open Go.Proofs.YtipifkgmhgkleaaGreatDoor.Row (Chg Rd)
open Arena (ArIs Two)
open Bits (SetIs)
open Lis (Sit Five Held upd upd_same upd_other set_kept lastN)
open Go.Proofs.YtipifkgmhgkleaaGreatDoor.Addr (Tabs adrB adrB_true)

theorem held_lay {ws sw : List Nat} {hv : Nat → List Nat} (h : Held ws sw hv) {x v : Nat} (h1 : 1 ≤ x) (hx : ∀ k, k < 4 → x ∉ hv k) (hvv : v < 18446744073709551616) : Held (ws.set (x - 1) v) sw hv := by
  refine ⟨fun k hk => (h.chain k hk).set h1 (hx k hk), fun a ha => h.isIn a (by rw [List.length_set] at ha; exact ha), h.once, h.apart, fun j => ?_⟩
  rw [Arena.wd_set]
  split
  · exact hvv
  · exact h.word j
/-- A word that is laid. -/
theorem Is.stored {w w' : World} {H : Nat} {d : Ids} {s : St} {m : Nat} (h : Is w H d s m) {x v : Nat} (h1 : 1 ≤ x) (hx : ∀ k, k < 4 → x ∉ s.hv k) (hvv : v < 18446744073709551616) (ha : ArIs w' d.A d.G d.cap (s.ws.set (x - 1) v) d.ld (d.st + 1)) (ht : Two d.A d.G w w')
    (hw : Wf { s with ws := s.ws.set (x - 1) v }) : To w w' H d { s with ws := s.ws.set (x - 1) v } (m + 1) := by
  have F := h.sit.five
  have hl : ∀ k, lo d k → k ≠ d.A → k ≠ d.G → w'.heap[k]? = w.heap[k]? := fun k hk n1 n2 => ht.block k (h.lt (.inl hk)) n1 n2
  have hs : Sit w' d.L d.A d.G d.T d.I d.J d.cap d.capS d.base d.ps d.cs (fun k => (s.hv k).reverse) (s.ws.set (x - 1) v) d.sw d.ld (d.st + 1) :=
    ⟨h.sit.ls.kept (hl _ (.inl rfl) F.la F.lg) (fun k hk g hg => hl g (.inr (.inr (.inr (.inr (.inr ⟨k, hk, hg⟩))))) (h.sit.rows k hk g hg).1 (h.sit.rows k hk g hg).2.1), ha, by rw [List.length_set]; exact set_kept h.sit.si (hl _ (.inr (.inr (.inr (.inl rfl)))) (Ne.symm F.ai) (Ne.symm F.gi)) (hl _ (.inr (.inr (.inr (.inr (.inl rfl))))) (Ne.symm F.aj) (Ne.symm F.gj)), F,
      Nat.lt_of_lt_of_le h.sit.ltG ht.size, Nat.lt_of_lt_of_le h.sit.ltJ ht.size, h.sit.rows, Nat.le_trans h.sit.bs ht.size⟩
  have hc := Lis.own_two (L := d.L) (I := d.I) (J := d.J) (ps := d.ps) ht
  obtain ⟨c1, c2, c3⟩ := h.cnt
  exact ⟨_, h.lists hs (held_lay h.held h1 hx hvv) (by rw [List.length_set]) hc (fun _ e => .inl e) ⟨by omega, by omega, fun k hk => by have := c3 k hk; omega⟩ hw, hc.mono (fun _ e => .inl e), fun _ e => .inl e⟩
theorem arena_store {H : Nat} {d : Ids} {s : St} {m : Nat} (x v : Nat) (w : World) (h : Is w H d s m) (hm : m < 1000000) (h1 : 1 ≤ x) (h2 : x ≤ s.ws.length) (hx : ∀ k, k < 4 → x ∉ s.hv k) (hvv : v < 18446744073709551616) (hw : Wf { s with ws := s.ws.set (x - 1) v }) :
    Calls Tryz.prog 263 #[.pointer (some ⟨d.A, 0, none⟩), .int .i64 x, .int .u64 v] w fun e w' => e = .returned (.int .i64 0) ∧ To w w' H d { s with ws := s.ws.set (x - 1) v } (m + 1) ∧ Two d.A d.G w w' := by
  have hz : Arena.codeN s.ws.length (x : Int) = 0 := by unfold Arena.codeN; rw [if_neg (by omega), if_neg (by omega)]
  have e1 : Arena.putS s.ws (x : Int) v = s.ws.set (x - 1) v := by rw [Arena.putS, if_pos hz, Int.toNat_natCast]
  have e2 : Arena.oneN s.ws.length (x : Int) = 1 := if_pos hz
  have hst := h.cnt.2.1
  have hs := Arena.store_any w h.sit.ar h.sit.ltG (by omega) (x : Int) v
  rw [e1, e2, hz] at hs
  refine hs.mono ?_
  rintro e w' ⟨rfl, ha, ht⟩
  exact ⟨rfl, h.stored h1 hx hvv ha ht hw, ht⟩

/-- May a field, or a cell, have a value? -/
def mayV (s : St) (v : Int) : Bool := decide (0 ≤ v) && decide (v ≤ (s.ws.length : Int))
theorem mayV_true {s : St} {v : Int} : mayV s v = true ↔ 0 ≤ v ∧ v ≤ (s.ws.length : Int) := by simp [mayV]
theorem may_any {H : Nat} {d : Ids} {s : St} {m : Nat} (v : Int) (w : World) (h : Is w H d s m) : Calls Tryz.prog 262 #[.pointer (some ⟨H, 0, none⟩), .int .i64 v] w fun e w' => e = .returned (.bool (mayV s v)) ∧ w = w' := by
  have hcA := h.cA
  have HL := Lib.hid (Arena.len_any w h.sit.ar)
  unfold mayV
  clear h
  by_cases h0 : 0 ≤ v
  · go_enter Tryz.func262, Tryz.ntmps262
    go_wp2_with (go_at_call 107; refine HL.out.mono ?_; rintro e w1 ⟨rfl, rfl⟩)
    go_ret
    exact ⟨by rw [decide_eq_true (by omega : 0 ≤ v), Bool.true_and]; rfl, rfl⟩
  · go_enter Tryz.func262, Tryz.ntmps262
    go_wp2_with (go_at_call 107; refine HL.out.mono ?_; rintro e w1 ⟨rfl, rfl⟩)
    go_ret
    exact ⟨by rw [decide_eq_false (by omega : ¬ 0 ≤ v), Bool.false_and]; rfl, rfl⟩

/-- A field laid: what is there then. -/
def stS (s : St) (a f v : Nat) : St := { s with ws := s.ws.set (a + f) v }
def sE (s : St) (a f v : Int) : Int := if lE s a f = 0 then (if mayV s v = true then 0 else 4) else lE s a f
set_option maxRecDepth 100000 in
set_option maxHeartbeats 1000000 in
theorem store1_bad {H : Nat} {d : Ids} {s : St} {m : Nat} (i v : Int) (p q : Nat) (w : World) (h : Is w H d s m) (hv : mayV s v = false) (hp : w.cell? ⟨p, 0, none⟩ = some (.pointer (some ⟨H, 0, none⟩))) (hq : w.cell? ⟨q, 0, none⟩ = some (.int .i64 v)) :
    Calls Tryz.prog 261 #[.int .i64 i, .pointer (some ⟨p, 0, none⟩), .pointer (some ⟨q, 0, none⟩)] w fun e w' => e = .returned (.int .i64 4) ∧ w = w' := by
  have HM := Lib.hid (may_any v w h)
  rw [hv] at HM
  clear h
  go_enter Tryz.func261, Tryz.ntmps261
  go_wp2_with (go_at_call 262; refine HM.out.mono ?_; rintro e w1 ⟨rfl, rfl⟩)
  go_ret
  exact ⟨rfl, rfl⟩
set_option maxRecDepth 100000 in
set_option maxHeartbeats 2000000 in
theorem store1_any {H : Nat} {d : Ids} {s : St} {m : Nat} (i v : Nat) (p q : Nat) (w : World) (h : Is w H d s m) (hm : m < 1000000) (h1 : 1 ≤ i) (h2 : i ≤ s.ws.length) (hx : ∀ k, k < 4 → i ∉ s.hv k) (hvv : v ≤ s.ws.length) (hw : Wf { s with ws := s.ws.set (i - 1) v })
    (hp : w.cell? ⟨p, 0, none⟩ = some (.pointer (some ⟨H, 0, none⟩))) (hq : w.cell? ⟨q, 0, none⟩ = some (.int .i64 v)) (hpo : ¬ Mine H d p) (hqo : ¬ Mine H d q) :
    Calls Tryz.prog 261 #[.int .i64 i, .pointer (some ⟨p, 0, none⟩), .pointer (some ⟨q, 0, none⟩)] w fun e w' => e = .returned (.int .i64 0) ∧ To w w' H d { s with ws := s.ws.set (i - 1) v } (m + 1) := by
  have hcA := h.cA
  have hsm := h.sit.ar.small
  have hmv : mayV s (v : Int) = true := mayV_true.2 ⟨by omega, by omega⟩
  have HM := Lib.hid (may_any (v : Int) w h)
  rw [hmv] at HM
  have hc : IntKind.u64.wrap (v : Int) = (v : Int) := by rw [IntKind.wrap_u64]; omega
  have hpl : p < w.heap.size := World.block_lt_of_cell? w _ hp
  have hql : q < w.heap.size := World.block_lt_of_cell? w _ hq
  have hHl := h.ltH
  have HS := Lib.hid (fun n => arena_store i v _ (h.drewN n) hm h1 h2 hx (by omega) hw)
  have HK0 := Lib.hid (show w.drew.cell? ⟨p, 0, none⟩ = some (.pointer (some ⟨H, 0, none⟩)) ∧ w.drew.cell? ⟨q, 0, none⟩ = some (.int .i64 v) ∧ w.drew.cell? ⟨H, 0, none⟩ = some (.pointer (some ⟨d.A, 0, none⟩)) from ⟨hp, hq, hcA⟩)
  have hnA : H ≠ d.A := fun e => h.ap H (.inr (.inl e)) (.inl rfl)
  have hnG : H ≠ d.G := fun e => h.ap H (.inr (.inr (.inl e))) (.inl rfl)
  have HK3 := Lib.hid (fun (W : World) (h2 : Two d.A d.G (w.drewN 1) W) => (⟨(h2.cell (p := ⟨p, 0, none⟩) hpl (fun e => hpo (.inl (.inr (.inl e)))) (fun e => hpo (.inl (.inr (.inr (.inl e)))))).trans hp, (h2.cell (p := ⟨q, 0, none⟩) hql (fun e => hqo (.inl (.inr (.inl e)))) (fun e => hqo (.inl (.inr (.inr (.inl e)))))).trans hq, (h2.cell (p := ⟨H, 0, none⟩) hHl hnA hnG).trans hcA⟩ : W.cell? ⟨p, 0, none⟩ = some (.pointer (some ⟨H, 0, none⟩)) ∧ W.cell? ⟨q, 0, none⟩ = some (.int .i64 v) ∧ W.cell? ⟨H, 0, none⟩ = some (.pointer (some ⟨d.A, 0, none⟩))))
  have HT := Lib.hid (fun (w2 : World) (h2 : To (w.drewN 1) w2 H d { s with ws := s.ws.set (i - 1) v } (m + 1)) => (h2.alloc (w := w) (below_drewN (Below.refl _ _) 1) : To w w2 H d { s with ws := s.ws.set (i - 1) v } (m + 1)))
  clear h hw hmv hpo hqo
  go_enter Tryz.func261, Tryz.ntmps261
  go_wp2_with (go_at_call 262; refine HM.out.mono ?_; rintro e w1 ⟨rfl, rfl⟩)
  go_region_held3 (fun W => W.cell? ⟨p, 0, none⟩ = some (.pointer (some ⟨H, 0, none⟩)) ∧ W.cell? ⟨q, 0, none⟩ = some (.int .i64 v) ∧ W.cell? ⟨H, 0, none⟩ = some (.pointer (some ⟨d.A, 0, none⟩)))
    (first | exact HK0.out | assumption | exact HK3.out _ h23)
    (first | (go_at_call 263; refine (HS.out _).mono ?_; rintro e w3 ⟨rfl, hT3, h23⟩))
  all_goals go_wp2
  all_goals go_ret
  all_goals exact ⟨rfl, HT.out _ (by assumption)⟩

theorem Wf.field_free {s : St} (h : Wf s) {a f : Nat} (ho : own s a = true) (hf : (f : Int) + 1 < sizI (cls s a)) : ∀ k, k < 4 → a + 1 + f ∉ s.hv k := fun k hk hm => by
  obtain ⟨c1, c2, c3, c4⟩ := h.free k hk _ hm
  have := h.in_ws c1
  have := h.apart (a := (a : Int)) (b := ((a + 1 + f : Nat) : Int)) ho c1 (i := 1 + f) (j := 0) (by omega) (by omega) (by omega) (by omega) (by omega)
  omega
set_option maxRecDepth 100000 in
set_option maxHeartbeats 2000000 in
theorem storeF_any {H : Nat} {d : Ids} {s : St} {m : Nat} (a f v : Int) (w : World) (h : Is w H d s m) (ht : Tabs w) (hm : m < 900000) :
    Calls Tryz.prog 204 #[.pointer (some ⟨H, 0, none⟩), .int .i64 a, .int .i64 f, .int .i64 v] w fun e w' => e = .returned (.int .i64 (sE s a f v)) ∧ To w w' H d (if sE s a f v = 0 then stS s a.toNat f.toNat v.toNat else s) (m + 2) := by
  have hb0 : Below w.heap.size w ((w.alloc (.cells #[.pointer (some ⟨H, 0, none⟩)] 76)).alloc (.cells #[.int .i64 v] 3)) := two_new _ _ _ _
  have HB0 := Lib.hid hb0
  have HF := Lib.hid (fields_any a _ (h.later hb0) (ht.later hb0) (by omega))
  have HN := Lib.hid (show ∀ k, w.heap.size ≤ k → ¬ Mine H d k from fun k hk => not_mine h hk)
  have H2 := Lib.hid (fun (w1 : World) (d1 : Ids) hC hR => two_kept (w := w) (w1 := w1) (d1 := d1) (u := .pointer (some ⟨H, 0, none⟩)) (v := .int .i64 v) (r := 76) (t := 3) (_m1 := m) h hC hR)
  rcases fE_cases s a with ⟨h1, h2, h3⟩ | ⟨h1, h3⟩
  · rw [h1, h3] at HF
    by_cases hf : 0 ≤ f ∧ f < (Hdr.obF (wdA s a.toNat) : Int)
    · have hE : lE s a f = 0 := by rw [lE, if_pos h1, h3, if_pos hf]
      obtain ⟨b1, b2, b3, b4, b5⟩ := h.wf.in_arena h2
      obtain ⟨n, rfl⟩ := Int.eq_ofNat_of_zero_le (show 0 ≤ a by omega)
      obtain ⟨g, rfl⟩ := Int.eq_ofNat_of_zero_le hf.1
      have hsm := h.sit.ar.small
      simp only [Int.toNat_natCast] at *
      have i1 : (0 : Int) ≤ (g : Int) := Int.natCast_nonneg _
      have i2 : (g : Int) < (Hdr.obF (wdA s n) : Int) := hf.2
      have i3 : (Hdr.obF (wdA s n) : Int) ≤ 15 := by have := Hdr.obF_le (wdA s n); omega
      have i4 : (n : Int) ≤ 1048576 := by omega
      have i5 : (0 : Int) ≤ (n : Int) := Int.natCast_nonneg _
      cases hv : mayV s v with
      | false =>
        have hs : sE s n g v = 4 := by rw [sE, if_pos hE, hv]; rfl
        rw [hs, if_neg (by omega)]
        have HL := Lib.hid (fun (W : World) (d1 : Ids) (hI : Is W H d1 s (m + 1)) (p q : Nat) (hp : W.cell? ⟨p, 0, none⟩ = some (.pointer (some ⟨H, 0, none⟩))) (hq : W.cell? ⟨q, 0, none⟩ = some (.int .i64 v)) => store1_bad ((n : Int) + 1 + (g : Int)) v p q _ hI hv hp hq)
        clear h ht h1 h2 h3 hE b1 b2 b3 b4 b5 hf hs
        generalize Hdr.obF (wdA s n) = y at *
        go_enter Tryz.func204, Tryz.ntmps204
        go_wp2_with (first
          | go_enter Tryz.func256, Tryz.ntmps256
          | (go_at_call 254; refine HF.out.mono ?_; rintro e w1 ⟨rfl, hT1⟩; have HT1 := Lib.hid hT1; obtain ⟨d1, hI1, hC1, hR1⟩ := hT1; have HI1 := Lib.hid hI1; have HC1 := Lib.hid hC1; have HR1 := Lib.hid hR1; clear hI1 hC1 hR1)
          | (go_at_call 261; have HK := Lib.hid (H2.out _ _ HC1.out HR1.out); refine (HL.out _ _ HI1.out _ _ HK.out.1 HK.out.2.1).mono ?_; rintro e w3 ⟨rfl, rfl⟩))
        go_ret
        exact ⟨rfl, (To.alloc HB0.out HT1.out).more (by omega)⟩
      | true =>
        obtain ⟨v0, v1⟩ := mayV_true.1 hv
        obtain ⟨u, rfl⟩ := Int.eq_ofNat_of_zero_le v0
        have hs : sE s n g u = 0 := by rw [sE, if_pos hE, hv]; rfl
        rw [hs, if_pos rfl]
        have e9 : n + 1 + g - 1 = n + g := by omega
        have hno := h.wf.field_free b4 (f := g) (by omega)
        have hwf := h.wf.store b4 (f := g) (v := u) (by omega)
        have HL := Lib.hid (fun (W : World) (d1 : Ids) (hI : Is W H d1 s (m + 1)) (p q : Nat) (hp : W.cell? ⟨p, 0, none⟩ = some (.pointer (some ⟨H, 0, none⟩))) (hq : W.cell? ⟨q, 0, none⟩ = some (.int .i64 u)) (n1 : ¬ Mine H d1 p) (n2 : ¬ Mine H d1 q) => store1_any (n + 1 + g) u p q _ hI (by omega) (by omega) (by omega) hno (by omega) (by rw [e9]; exact hwf) hp hq n1 n2)
        rw [e9, show ((n + 1 + g : Nat) : Int) = (n : Int) + 1 + (g : Int) by omega] at HL
        rw [Int.toNat_natCast]
        unfold stS
        clear h ht h1 h2 h3 hE b1 b2 b3 b4 b5 hf hs hno hwf e9 hv
        generalize Hdr.obF (wdA s n) = y at *
        go_enter Tryz.func204, Tryz.ntmps204
        go_wp2_with (first
          | go_enter Tryz.func256, Tryz.ntmps256
          | (go_at_call 254; refine HF.out.mono ?_; rintro e w1 ⟨rfl, hT1⟩; have HT1 := Lib.hid hT1; obtain ⟨d1, hI1, hC1, hR1⟩ := hT1; have HI1 := Lib.hid hI1; have HC1 := Lib.hid hC1; have HR1 := Lib.hid hR1; clear hI1 hC1 hR1)
          | (go_at_call 261; have HK := Lib.hid (H2.out _ _ HC1.out HR1.out); refine (HL.out _ _ HI1.out _ _ HK.out.1 HK.out.2.1 HK.out.2.2.2.1 HK.out.2.2.2.2).mono ?_; rintro e w3 ⟨rfl, hT3⟩))
        go_ret
        exact ⟨rfl, To.alloc HB0.out (To.step HC1.out HR1.out hT3)⟩
    · have hE : lE s a f = 7 := by rw [lE, if_pos h1, h3, if_neg hf]
      have hs : sE s a f v = 7 := by rw [sE, if_neg (by omega), hE]
      rw [hs, if_neg (by omega)]
      generalize Hdr.obF (wdA s a.toNat) = y at *
      clear h ht h1 h2 h3 hE hs
      by_cases hf0 : f < 0
      · go_enter Tryz.func204, Tryz.ntmps204
        go_wp2_with (first
          | go_enter Tryz.func256, Tryz.ntmps256
          | (go_at_call 254; refine HF.out.mono ?_; rintro e w1 ⟨rfl, hT1⟩; have HT1 := Lib.hid hT1; clear hT1))
        go_ret
        exact ⟨rfl, (To.alloc HB0.out HT1.out).more (by omega)⟩
      · have hf1 : (y : Int) ≤ f := by omega
        go_enter Tryz.func204, Tryz.ntmps204
        go_wp2_with (first
          | go_enter Tryz.func256, Tryz.ntmps256
          | (go_at_call 254; refine HF.out.mono ?_; rintro e w1 ⟨rfl, hT1⟩; have HT1 := Lib.hid hT1; clear hT1))
        go_ret
        exact ⟨rfl, (To.alloc HB0.out HT1.out).more (by omega)⟩
  · have hE : lE s a f = fE s a := by rw [lE, if_neg (by omega)]
    have hs : sE s a f v = fE s a := by rw [sE, if_neg (by omega), hE]
    rw [hs, if_neg (by omega)]
    have hne : ((fE s a) != 0) = true := by simp; omega
    rw [h3] at HF
    clear h ht hE h1 h3 hs
    generalize fE s a = x at *
    go_enter Tryz.func204, Tryz.ntmps204
    go_wp2_with (first
      | go_enter Tryz.func256, Tryz.ntmps256
      | (go_at_call 254; refine HF.out.mono ?_; rintro e w1 ⟨rfl, hT1⟩; have HT1 := Lib.hid hT1; clear hT1))
    go_ret
    exact ⟨rfl, (To.alloc HB0.out HT1.out).more (by omega)⟩
end Go.Proofs.YtipifkgmhgkleaaGreatDoor.Hp

namespace Go.Proofs.YtipifkgmhgkleaaGreatDoor.Hp
open Go.RowKit
open Class (isB isB_true isB_false is_any sizI sizI_bd roomI SizTab quiet_left below_drewN)
open Go.Proofs.YtipifkgmhgkleaaGreatDoor.Row (Chg Rd)
open Go.Proofs.YtipifkgmhgkleaaGreatDoor.Addr (Tabs adrB adrB_true)

/-- What Cell and SetCell tell. -/
def ccE (s : St) (i : Int) : Int := if 0 ≤ i ∧ i < (s.ce.length : Int) then 0 else 9
def cV (s : St) (i : Int) : Int := if 0 ≤ i ∧ i < (s.ce.length : Int) then s.ce.getD i.toNat 0 else 0
def scE (s : St) (i v : Int) : Int := if 0 ≤ i ∧ i < (s.ce.length : Int) then (if mayV s v = true then 0 else 4) else 9
def scS (s : St) (i v : Int) : St := { s with ce := s.ce.set i.toNat v }

theorem cell1_any (p o q : Nat) (v : Int) (u : Value) (w : World) (hp : w.cell? ⟨p, o, none⟩ = some (.int .i64 v)) (hq : w.cell? ⟨q, 0, none⟩ = some u) (hqf : w.frozen? ⟨q, 0, none⟩ = false) :
    Calls Tryz.prog 265 #[.pointer (some ⟨p, o, none⟩), .pointer (some ⟨q, 0, none⟩)] w fun e w' => e = .returned (.int .i64 0) ∧ w' = w.setCell ⟨q, 0, none⟩ (.int .i64 v) := by
  go_enter Tryz.func265, Tryz.ntmps265
  go_wp2
  all_goals go_ret
  all_goals exact ⟨rfl, rfl⟩
set_option maxRecDepth 100000 in
set_option maxHeartbeats 1000000 in
theorem cell_any {H : Nat} {d : Ids} {s : St} {m : Nat} (i : Int) (w : World) (h : Is w H d s m) :
    Calls Tryz.prog 206 #[.pointer (some ⟨H, 0, none⟩), .int .i64 i] w fun e w' => e = .returned (.tuple #[.int .i64 (cV s i), .int .i64 (ccE s i)]) ∧ Below w.heap.size w w' := by
  have hcC := h.cC
  have hHl := h.ltH
  have hCl := h.ltCb
  have hlc := h.capc
  unfold cV ccE
  by_cases hi : 0 ≤ i ∧ i < (s.ce.length : Int)
  · rw [if_pos hi, if_pos hi]
    obtain ⟨k, rfl⟩ := Int.eq_ofNat_of_zero_le hi.1
    have hk : k < s.ce.length := by omega
    have hc := h.cells k hk
    rw [Int.toNat_natCast]
    obtain ⟨i1, i2⟩ := hi
    clear h
    generalize s.ce.getD k 0 = v at *
    generalize s.ce.length = n at *
    go_enter Tryz.func206, Tryz.ntmps206
    go_wp2_with (first
      | go_enter Tryz.func264, Tryz.ntmps264
      | (go_at_call 265; refine (cell1_any d.Cb k w.heap.size v (.int .i64 0) _ (((Below.refl _ _).alloc (Nat.le_refl _) _).cell (p := ⟨d.Cb, k, none⟩) hCl |>.trans hc) (by simp) (by simp)).mono ?_; rintro e w' ⟨rfl, rfl⟩))
    go_ret2
    exact ⟨rfl, (Below.refl _ _).alloc (Nat.le_refl _) _⟩
  · rw [if_neg hi, if_neg hi]
    clear h
    generalize s.ce.length = n at *
    by_cases h0 : i < 0
    · go_enter Tryz.func206, Tryz.ntmps206
      go_wp2_with (go_enter Tryz.func264, Tryz.ntmps264)
      go_ret2
      exact ⟨rfl, (Below.refl _ _).alloc (Nat.le_refl _) _⟩
    · have h1 : (n : Int) ≤ i := by omega
      go_enter Tryz.func206, Tryz.ntmps206
      go_wp2_with (go_enter Tryz.func264, Tryz.ntmps264)
      go_ret2
      exact ⟨rfl, (Below.refl _ _).alloc (Nat.le_refl _) _⟩
end Go.Proofs.YtipifkgmhgkleaaGreatDoor.Hp

namespace Go.Proofs.YtipifkgmhgkleaaGreatDoor.Hp
open Go.RowKit
open Class (isB isB_true isB_false is_any sizI sizI_bd roomI SizTab quiet_left below_drewN)
open Blk (Cfg TbIs ownB ownB_true blk kAt rowB adr perN perN_eq perN_pos perN_le seg cellsF)
open Go.Proofs.YtipifkgmhgkleaaGreatDoor.Row (Chg Rd)
open Arena (ArIs Two)
open Bits (SetIs)
open Lis (Sit Five Held upd upd_same upd_other set_kept lastN lastN_rev rev_upd)
open Go.Proofs.YtipifkgmhgkleaaGreatDoor.Addr (Tabs adrB adrB_true)

/-- A list's first slot, taken. -/
theorem ltake_good {H : Nat} {d : Ids} {s : St} {m : Nat} (k a : Nat) (l : List Nat) (w : World) (h : Is w H d s m) (hk : k < 4) (he : s.hv k = a :: l) :
    Calls Tryz.prog 284 #[.pointer (some ⟨d.L, 0, none⟩), .int .i64 k] w fun e w' => e = .returned (.tuple #[.int .i64 a, .int .i64 0]) ∧ To w w' H d { s with hv := upd s.hv k l } m := by
  obtain ⟨c2, c3, c5, c6⟩ := h.held.take h.sit.si.row hk he
  refine (Lis.take_good w h.sit k a hk (l := l.reverse) (by simp [he]) c3 c5).mono ?_
  rintro e w' ⟨rfl, p', c', hS, hC, hO⟩
  rw [rev_upd] at hS
  obtain ⟨m1, m2, m3⟩ := h.cnt
  refine ⟨rfl, _, h.lists hS c6 rfl hC hO ⟨m1, m2, fun j hj => ?_⟩ (h.wf.take he), hC.mono (fun _ e => .inl e), fun j hj => ?_⟩
  · by_cases e : j = k
    · subst e; rw [upd_same]; have := m3 _ hj; rw [he, List.length_cons] at this; omega
    · rw [upd_other _ _ e]; exact m3 j hj
  · rcases hj with e | e | e
    · exact (hO j e).imp (fun e => .inl e) id
    · exact .inl (.inr (.inl e))
    · exact .inl (.inr (.inr e))
theorem ltake_none {H : Nat} {d : Ids} {s : St} {m : Nat} (k : Nat) (w : World) (h : Is w H d s m) (hk : k < 4) (he : s.hv k = []) :
    Calls Tryz.prog 284 #[.pointer (some ⟨d.L, 0, none⟩), .int .i64 k] w fun e w' => e = .returned (.tuple #[.int .i64 0, .int .i64 12]) ∧ Below w.heap.size w w' :=
  Lis.take_none w h.sit k hk (by simp [he])
theorem take_good {H : Nat} {d : Ids} {s : St} {m : Nat} (k a : Nat) (l : List Nat) (w : World) (h : Is w H d s m) (hk : k < 4) (he : s.hv k = a :: l) :
    Calls Tryz.prog 242 #[.pointer (some ⟨H, 0, none⟩), .int .i64 k] w fun e w' => e = .returned (.tuple #[.int .i64 a, .int .i64 0]) ∧ To w w' H d { s with hv := upd s.hv k l } m := by
  have hcL := h.cL
  have HT := Lib.hid (ltake_good k a l w h hk he)
  clear h
  go_enter Tryz.func242, Tryz.ntmps242
  go_wp2_with (go_at_call 284; refine HT.out.mono ?_; rintro e w1 ⟨rfl, hT⟩)
  go_ret2
  exact ⟨rfl, hT⟩
theorem take_none {H : Nat} {d : Ids} {s : St} {m : Nat} (k : Nat) (w : World) (h : Is w H d s m) (hk : k < 4) (he : s.hv k = []) :
    Calls Tryz.prog 242 #[.pointer (some ⟨H, 0, none⟩), .int .i64 k] w fun e w' => e = .returned (.tuple #[.int .i64 0, .int .i64 12]) ∧ To w w' H d s m := by
  have hcL := h.cL
  have HH := Lib.hid h
  have HT := Lib.hid (ltake_none k w h hk he)
  clear h
  go_enter Tryz.func242, Tryz.ntmps242
  go_wp2_with (go_at_call 284; refine HT.out.mono ?_; rintro e w1 ⟨rfl, hb⟩)
  go_ret2
  exact ⟨rfl, To.of_below HH.out hb⟩

/-- What a slot that is put leaves. -/
def puS (s : St) (a : Nat) : St := { s with hv := upd s.hv (cls s a) (a :: s.hv (cls s a)), ws := s.ws.set (a - 1) (Hdr.lk ((s.hv (cls s a)).headD 0)) }
theorem cls_lt {w : World} {H : Nat} {d : Ids} {s : St} {m : Nat} (h : Is w H d s m) (a : Int) : cls s a < 4 := h.tb.kLt _
theorem Is.sw_fr {w : World} {H : Nat} {d : Ids} {s : St} {m : Nat} (h : Is w H d s m) {a : Nat} (ha : a ≤ s.ws.length) : hasB d.sw a = fr s a := by
  rw [Bool.eq_iff_iff, fr_true]; exact h.held.isIn a ha
theorem lput_new {H : Nat} {d : Ids} {s : St} {m : Nat} (a : Nat) (w : World) (h : Is w H d s m) (ht : Tabs w) (hm : m < 900000) (ho : own s a = true) (hn : bn s a = false) (hf : fr s a = false) :
    Calls Tryz.prog 324 #[.pointer (some ⟨d.L, 0, none⟩), .int .i64 a] w fun e w' => e = .returned (.int .i64 0) ∧ To w w' H d (puS s a) (m + 1) := by
  have hbd := h.wf.own_bd ho
  have hsm := h.sit.ar.small
  have hkl := cls_lt h a
  obtain ⟨m1, m2, m3⟩ := h.cnt
  have hin : hasB d.sw a = false := by rw [h.sw_fr (by omega)]; exact hf
  have hhd : ∀ j, j < 4 → (s.hv j).headD 0 ≤ 1048576 := fun j hj => by have := h.held.head_le hj; omega
  refine (Lis.put_new w h.sit h.tb ht h.wf.right a ho (by omega) (by omega) (by omega) (fun j hj => by rw [lastN_rev]; exact hhd j hj) (fun j hj => by have := m3 j hj; simp; omega) hin).mono ?_
  rintro e w' ⟨rfl, p', c', hS, hC, hO⟩
  rw [lastN_rev, ← List.reverse_cons, rev_upd] at hS
  have hheld := h.held.put h.sit.si.row hkl (by omega) (by omega) (hhd _ hkl) hin
  refine ⟨rfl, _, h.lists hS hheld (by rw [List.length_set]) hC hO ⟨by omega, by omega, fun j hj => ?_⟩ (h.wf.put ho hn (hhd _ hkl)), hC.mono (fun _ e => .inl e), fun j hj => ?_⟩
  · show ((upd s.hv (cls s a) (a :: s.hv (cls s a))) j).length ≤ m + 1
    by_cases e : j = cls s a
    · subst e; rw [upd_same, List.length_cons]; have := m3 _ hj; omega
    · rw [upd_other _ _ e]; have := m3 j hj; omega
  · rcases hj with e | e | e
    · exact (hO j e).imp (fun e => .inl e) id
    · exact .inl (.inr (.inl e))
    · exact .inl (.inr (.inr e))
theorem lput_have {H : Nat} {d : Ids} {s : St} {m : Nat} (a : Nat) (w : World) (h : Is w H d s m) (ht : Tabs w) (ho : own s a = true) (hf : fr s a = true) :
    Calls Tryz.prog 324 #[.pointer (some ⟨d.L, 0, none⟩), .int .i64 a] w fun e w' => e = .returned (.int .i64 11) ∧ Below w.heap.size w w' := by
  have hbd := h.wf.own_bd ho
  exact Lis.put_have w h.sit h.tb ht h.wf.right a ho (by omega) (by rw [h.sw_fr (by omega)]; exact hf)
theorem lput_odd {H : Nat} {d : Ids} {s : St} {m : Nat} (a : Int) (w : World) (h : Is w H d s m) (ht : Tabs w) (ho : own s a = false) :
    Calls Tryz.prog 324 #[.pointer (some ⟨d.L, 0, none⟩), .int .i64 a] w fun e w' => e = .returned (.int .i64 1) ∧ Below w.heap.size w w' :=
  Lis.put_odd w h.sit h.tb ht h.wf.right a ho

def puE (s : St) (a : Int) : Int := if bnI s a = true then 11 else if own s a = true then (if frI s a = true then 11 else 0) else 1
set_option maxHeartbeats 1000000 in
theorem put_any {H : Nat} {d : Ids} {s : St} {m : Nat} (a : Int) (w : World) (h : Is w H d s m) (ht : Tabs w) (hm : m < 900000) :
    Calls Tryz.prog 297 #[.pointer (some ⟨H, 0, none⟩), .int .i64 a] w fun e w' => e = .returned (.int .i64 (puE s a)) ∧ To w w' H d (if puE s a = 0 then puS s a.toNat else s) (m + 1) := by
  have hcL := h.cL
  have HI := Lib.hid (isO_any a w h)
  have HH := Lib.hid h
  have HT := Lib.hid ht
  unfold puE
  cases hb : bnI s a with
  | true =>
    rw [hb] at HI
    rw [if_pos rfl, if_neg (by omega)]
    clear h ht
    go_enter Tryz.func297, Tryz.ntmps297
    go_wp2_with (go_at_call 303; refine HI.out.mono ?_; rintro e w1 ⟨rfl, q, rfl⟩)
    go_ret
    exact ⟨rfl, To.of_below (HH.out.more (Nat.le_succ _)) (below_drewN (Below.refl _ _) _)⟩
  | false =>
    rw [hb] at HI
    rw [if_neg (by simp)]
    cases ho : own s a with
    | false =>
      rw [if_neg (by simp), if_neg (by omega)]
      have HP := Lib.hid (fun n => lput_odd a _ (h.drewN n) (ht.drewN n) ho)
      clear h ht
      go_enter Tryz.func297, Tryz.ntmps297
      go_wp2_with (first
        | (go_at_call 303; refine HI.out.mono ?_; rintro e w1 ⟨rfl, q, rfl⟩)
        | (go_at_call 324; refine (HP.out _).mono ?_; rintro e w2 ⟨rfl, hb2⟩))
      go_ret
      exact ⟨rfl, To.of_below (HH.out.more (Nat.le_succ _)) ((below_drewN (Below.refl _ _) _).trans hb2)⟩
    | true =>
      rw [if_pos rfl]
      have hbd := h.wf.own_bd ho
      obtain ⟨n, rfl⟩ := Int.eq_ofNat_of_zero_le (show 0 ≤ a by omega)
      rw [frI_nat, Int.toNat_natCast]
      rw [bnI_nat] at hb
      cases hf : fr s n with
      | true =>
        rw [if_pos rfl, if_neg (by omega)]
        have HP := Lib.hid (fun q => lput_have n _ (h.drewN q) (ht.drewN q) ho hf)
        clear h ht
        go_enter Tryz.func297, Tryz.ntmps297
        go_wp2_with (first
          | (go_at_call 303; refine HI.out.mono ?_; rintro e w1 ⟨rfl, q, rfl⟩)
          | (go_at_call 324; refine (HP.out _).mono ?_; rintro e w2 ⟨rfl, hb2⟩))
        go_ret
        exact ⟨rfl, To.of_below (HH.out.more (Nat.le_succ _)) ((below_drewN (Below.refl _ _) _).trans hb2)⟩
      | false =>
        rw [if_neg (by simp), if_pos rfl]
        have HP := Lib.hid (fun q => lput_new n _ (h.drewN q) (ht.drewN q) hm ho hb hf)
        clear h ht
        go_enter Tryz.func297, Tryz.ntmps297
        go_wp2_with (first
          | (go_at_call 303; refine HI.out.mono ?_; rintro e w1 ⟨rfl, q, rfl⟩)
          | (go_at_call 324; refine (HP.out _).mono ?_; rintro e w2 ⟨rfl, hT2⟩))
        go_ret
        exact ⟨rfl, To.alloc (below_drewN (Below.refl _ _) _) hT2⟩

/-- A block assigned. -/
def asS (s : St) (k : Nat) : St := { s with ks := s.ks ++ [k] }
theorem assign_full {H : Nat} {d : Ids} {s : St} {m : Nat} (k : Int) (w : World) (h : Is w H d s m) (hk : isB k = true) (hf : (s.ks.length : Int) = s.c.b) :
    Calls Tryz.prog 251 #[.pointer (some ⟨H, 0, none⟩), .int .i64 k] w fun e w' => e = .returned (.tuple #[.slice none 0 0, .int .i64 10]) ∧ To w w' H d s m := by
  have hcT := h.cT
  have HH := Lib.hid h
  have HP := Lib.hid (Blk.assign_full k w h.tb hk hf)
  clear h
  go_enter Tryz.func251, Tryz.ntmps251
  go_wp2_with (go_at_call 295; refine HP.out.mono ?_; rintro e w1 ⟨rfl, q, rfl⟩)
  go_ret2
  exact ⟨rfl, To.of_below HH.out (below_drewN (Below.refl _ _) _)⟩
set_option maxHeartbeats 1000000 in
theorem assign_good {H : Nat} {d : Ids} {s : St} {m : Nat} (k : Nat) (w : World) (h : Is w H d s m) (ht : Tabs w) (hk : k < 4) (hf : (s.ks.length : Int) < s.c.b) :
    Calls Tryz.prog 251 #[.pointer (some ⟨H, 0, none⟩), .int .i64 k] w fun e w' => ∃ p cap d1, e = .returned (.tuple #[.slice p (perN s.c k) cap, .int .i64 0]) ∧ w'.ownsRow w.heap.size 3 1 (.slice p (perN s.c k) cap) (perN s.c k) (cellsF (adr s.c k s.ks.length) (perN s.c k)) ∧
      Is w' H d1 (asS s k) m ∧ Chg (Mine H d) w w' ∧ (∀ j, Mine H d1 j → Mine H d j ∨ w.heap.size ≤ j) ∧ ∀ g, rowB p g → ¬ Mine H d1 g := by
  have hRC := Blk.slots_bd h.wf.right
  have hcT := h.cT
  have HP := Lib.hid (Blk.assign_good k w h.tb hk hf hRC.b1 h.bt)
  have HX : Hid (∀ (w1 : World) (p' : Option Addr) (cap' : Nat), TbIs w1 d.T d.baseT s.c (s.ks ++ [k]) p' cap' → Chg (fun i => i = d.T ∨ rowB d.pt i) w w1 → (∀ i, rowB p' i → rowB d.pt i ∨ w.heap.size ≤ i) →
      ∃ d1, Is w1 H d1 (asS s k) m ∧ d1.T = d.T ∧ Chg (Mine H d) w w1 ∧ (∀ j, Mine H d1 j → Mine H d j ∨ w.heap.size ≤ j) ∧ Tabs w1) := Lib.hid fun w1 p' cap' hT hC hR => by
    have hI := h.table hT hC hR (Nat.le_trans h.bt hC.size) (h.wf.assign hk hf)
    have hC2 : Chg (Mine H d) w w1 := hC.mono fun i e => e.elim (fun e => .inr (.inl (.inr (.inl e)))) (fun e => .inr (.inr e))
    refine ⟨_, hI, rfl, hC2, fun j hj => ?_, h.tabs hC2 ht⟩
    rcases hj with e | e | e
    · exact .inl (.inl e)
    · exact .inl (.inr (.inl e))
    · exact (hR j e).imp (fun e => .inr (.inr e)) id
  have hkl : kAt (s.ks ++ [k]) s.ks.length = k := kAt_last
  have hN : Class.perI s.c.wd (kAt (s.ks ++ [k]) s.ks.length) = (perN s.c k : Int) := by rw [hkl]; exact perN_eq s.c k
  have HS := Lib.hid (fun (w1 : World) (d1 : Ids) (hI : Is w1 H d1 (asS s k) m) (hT : d1.T = d.T) (ht1 : Tabs w1) => (by
    have := Blk.slots_in (b := s.ks.length) w1 hI.tb hI.wf.right (by show s.ks.length < (s.ks ++ [k]).length; simp) hf hN (perN_pos h.wf.right hk) ht1
    rw [hT] at this
    have e : kAt (asS s k).ks s.ks.length = k := hkl
    rw [e] at this
    exact this : Calls Tryz.prog 290 #[.pointer (some ⟨d.T, 0, none⟩), .int .i64 s.ks.length] w1 fun e w' => ∃ p' cap', e = .returned (.slice p' (perN s.c k) cap') ∧ w'.ownsRow w1.heap.size 3 1 (.slice p' (perN s.c k) cap') (perN s.c k) (cellsF (adr s.c k s.ks.length) (perN s.c k)) ∧ Below w1.heap.size w1 w'))
  have HcT := Lib.hid (fun (w1 : World) (d1 : Ids) (hI : Is w1 H d1 (asS s k) m) (hT : d1.T = d.T) => (by rw [← hT]; exact hI.cT : w1.cell? ⟨H, 1, none⟩ = some (.pointer (some ⟨d.T, 0, none⟩))))
  clear h ht hN hkl
  go_enter Tryz.func251, Tryz.ntmps251
  go_wp2_with (first
    | (go_at_call 295; refine HP.out.mono ?_; rintro e w1 ⟨rfl, p', cap', hT1, hC1, hR1⟩; obtain ⟨d1, hI1, hd1, hC, hR, ht1⟩ := HX.out _ _ _ hT1 ⟨hC1.os, hC1.tape, hC1.output, hC1.size, hC1.block⟩ hR1; have hcT1 := HcT.out _ _ hI1 hd1; have HI1 := Lib.hid hI1; have HC := Lib.hid hC; have HR := Lib.hid hR; have HT1 := Lib.hid ht1; clear hT1 hC1 hR1 hI1 hC hR ht1 hcT)
    | (go_at_call 290; refine (HS.out _ _ HI1.out hd1 HT1.out).mono ?_; rintro e w2 ⟨p2, cap2, rfl, ho, hb2⟩))
  go_ret2
  refine ⟨p2, cap2, d1, rfl, Row.owns_base HC.out.size ho, HI1.out.later hb2, HC.out.trans (Chg.of_below (S := Mine H d) hb2) (fun _ e => .inl e), HR.out, fun g hg hm => ?_⟩
  have h1 := HI1.out.lt hm
  have h2 := (Blk.owns_lt ho hg).1
  omega
end Go.Proofs.YtipifkgmhgkleaaGreatDoor.Hp

namespace Go.Proofs.YtipifkgmhgkleaaGreatDoor.Hp
open Go.RowKit
open Class (isB isB_true isB_false is_any sizI sizI_bd roomI SizTab quiet_left below_drewN)
open Blk (Cfg TbIs ownB ownB_true blk kAt rowB)
open Go.Proofs.YtipifkgmhgkleaaGreatDoor.Row (Chg Rd)
open Arena (ArIs Two)
open Bits (SetIs)
open Lis (Sit Five Held upd upd_same upd_other set_kept lastN)
open Go.Proofs.YtipifkgmhgkleaaGreatDoor.Addr (Tabs adrB adrB_true)

theorem handB_parts {s : St} {a : Int} (h : handB s a = true) : own s a = true ∧ bnI s a = false ∧ frI s a = false := by
  unfold handB at h
  simp only [Bool.and_eq_true, Bool.not_eq_true'] at h
  exact ⟨h.1, h.2.1, h.2.2⟩
/-- Three boxes. -/
theorem three_new {w : World} (u v x : Value) (r s t : TypeId) : Below w.heap.size w (((w.alloc (.cells #[u] r)).alloc (.cells #[v] s)).alloc (.cells #[x] t)) := (((Below.refl _ _).alloc (Nat.le_refl _) _).alloc (by simp) _).alloc (by simp; omega) _
theorem three_kept {w w1 : World} {S : Nat → Prop} {u v x : Value} {r s t : TypeId} (hn : ∀ k, w.heap.size ≤ k → ¬ S k) (hC : Chg S (((w.alloc (.cells #[u] r)).alloc (.cells #[v] s)).alloc (.cells #[x] t)) w1) :
    w1.cell? ⟨w.heap.size, 0, none⟩ = some u ∧ w1.cell? ⟨w.heap.size + 1, 0, none⟩ = some v ∧ w1.cell? ⟨w.heap.size + 1 + 1, 0, none⟩ = some x := by
  have e1 : (((w.alloc (.cells #[u] r)).alloc (.cells #[v] s)).alloc (.cells #[x] t)).cell? ⟨w.heap.size, 0, none⟩ = some u := (World.cell?_alloc_lt _ _ _ (by simp; omega)).trans (by simp)
  have e2 : (((w.alloc (.cells #[u] r)).alloc (.cells #[v] s)).alloc (.cells #[x] t)).cell? ⟨w.heap.size + 1, 0, none⟩ = some v := (World.cell?_alloc_lt _ _ _ (by simp)).trans (by simp)
  have e3 : (((w.alloc (.cells #[u] r)).alloc (.cells #[v] s)).alloc (.cells #[x] t)).cell? ⟨w.heap.size + 1 + 1, 0, none⟩ = some x := by
    have e : w.heap.size + 1 + 1 = ((w.alloc (.cells #[u] r)).alloc (.cells #[v] s)).heap.size := by simp
    rw [e, World.cell?_alloc_new]
    rfl
  have hs : (((w.alloc (.cells #[u] r)).alloc (.cells #[v] s)).alloc (.cells #[x] t)).heap.size = w.heap.size + 3 := by simp
  generalize (((w.alloc (.cells #[u] r)).alloc (.cells #[v] s)).alloc (.cells #[x] t)) = W at *
  exact ⟨(hC.cell (p := ⟨w.heap.size, 0, none⟩) (by show w.heap.size < _; omega) (hn w.heap.size (Nat.le_refl _))).trans e1, (hC.cell (p := ⟨w.heap.size + 1, 0, none⟩) (by show w.heap.size + 1 < _; omega) (hn (w.heap.size + 1) (by omega))).trans e2, (hC.cell (p := ⟨w.heap.size + 1 + 1, 0, none⟩) (by show w.heap.size + 1 + 1 < _; omega) (hn (w.heap.size + 1 + 1) (by omega))).trans e3⟩

def beE (s : St) (a n : Int) : Int := if handB s a = true then (if Hdr.okB (cls s a : Nat) n = true then 0 else 8) else 1
def beS (s : St) (a n : Nat) : St := { s with ws := s.ws.set (a - 1) (Hdr.obI (cls s a : Nat) (n : Nat)) }
set_option maxRecDepth 100000 in
set_option maxHeartbeats 1000000 in
theorem begin1_bad (k : Nat) (n : Int) (p o q : Nat) (w : World) (ht : SizTab w) (hok : Hdr.okB (k : Nat) n = false) (hp : w.cell? ⟨p, 0, none⟩ = some (.int .i64 n)) :
    Calls Tryz.prog 314 #[.int .i64 k, .pointer (some ⟨p, 0, none⟩), .pointer (some ⟨o, 0, none⟩), .pointer (some ⟨q, 0, none⟩)] w fun e w' => e = .returned (.int .i64 8) ∧ w = w' := by
  have HO := Lib.hid (Hdr.object_any k n w ht)
  rw [hok] at HO
  generalize Hdr.obI (k : Nat) n = x at *
  go_enter Tryz.func314, Tryz.ntmps314
  go_wp2_with (go_at_call 315; refine HO.out.mono ?_; rintro e w1 ⟨rfl, rfl⟩)
  go_ret
  exact ⟨rfl, rfl⟩
set_option maxRecDepth 100000 in
set_option maxHeartbeats 2000000 in
theorem begin1_any {H : Nat} {d : Ids} {s : St} {m : Nat} (a n : Nat) (p o q : Nat) (w : World) (h : Is w H d s m) (ht : Tabs w) (hm : m < 900000) (ho : handB s a = true) (hok : Hdr.okB (cls s a : Nat) (n : Nat) = true)
    (hp : w.cell? ⟨p, 0, none⟩ = some (.int .i64 n)) (hq : w.cell? ⟨o, 0, none⟩ = some (.pointer (some ⟨H, 0, none⟩))) (hr : w.cell? ⟨q, 0, none⟩ = some (.int .i64 a)) (hpo : ¬ Mine H d o) (hqo : ¬ Mine H d q) :
    Calls Tryz.prog 314 #[.int .i64 (cls s a), .pointer (some ⟨p, 0, none⟩), .pointer (some ⟨o, 0, none⟩), .pointer (some ⟨q, 0, none⟩)] w fun e w' => e = .returned (.int .i64 0) ∧ To w w' H d (beS s a n) (m + 1) := by
  obtain ⟨o1, o2, o3⟩ := handB_parts ho
  rw [bnI_nat] at o2
  rw [frI_nat] at o3
  have hbd := h.wf.own_bd o1
  have hcA := h.cA
  have hsm := h.sit.ar.small
  have HO := Lib.hid (Hdr.object_any (cls s a : Nat) (n : Nat) w ht.siz)
  rw [hok] at HO
  have hwf := h.wf.begin o1 o2 o3 hok
  have hxl := Hdr.obI_lt (cls s a : Nat) (n : Nat)
  have HS := Lib.hid (fun j => arena_store a (Hdr.obI (cls s a : Nat) (n : Nat)) _ (h.drewN j) (by omega) (by omega) (by omega) (fr_false.1 o3) hxl hwf)
  have hpl : o < w.heap.size := World.block_lt_of_cell? w _ hq
  have hql : q < w.heap.size := World.block_lt_of_cell? w _ hr
  have hHl := h.ltH
  have hnA : H ≠ d.A := fun e => h.ap H (.inr (.inl e)) (.inl rfl)
  have hnG : H ≠ d.G := fun e => h.ap H (.inr (.inr (.inl e))) (.inl rfl)
  have HK0 := Lib.hid (show w.drew.cell? ⟨o, 0, none⟩ = some (.pointer (some ⟨H, 0, none⟩)) ∧ w.drew.cell? ⟨q, 0, none⟩ = some (.int .i64 a) ∧ w.drew.cell? ⟨H, 0, none⟩ = some (.pointer (some ⟨d.A, 0, none⟩)) from ⟨hq, hr, hcA⟩)
  have HK3 := Lib.hid (fun (W : World) (h2 : Two d.A d.G (w.drewN 1) W) => (⟨(h2.cell (p := ⟨o, 0, none⟩) hpl (fun e => hpo (.inl (.inr (.inl e)))) (fun e => hpo (.inl (.inr (.inr (.inl e)))))).trans hq, (h2.cell (p := ⟨q, 0, none⟩) hql (fun e => hqo (.inl (.inr (.inl e)))) (fun e => hqo (.inl (.inr (.inr (.inl e)))))).trans hr, (h2.cell (p := ⟨H, 0, none⟩) hHl hnA hnG).trans hcA⟩ : W.cell? ⟨o, 0, none⟩ = some (.pointer (some ⟨H, 0, none⟩)) ∧ W.cell? ⟨q, 0, none⟩ = some (.int .i64 a) ∧ W.cell? ⟨H, 0, none⟩ = some (.pointer (some ⟨d.A, 0, none⟩))))
  unfold beS
  have HT := Lib.hid (fun (w2 : World) (h2 : To (w.drewN 1) w2 H d { s with ws := s.ws.set (a - 1) (Hdr.obI (cls s a : Nat) (n : Nat)) } (m + 1)) => (h2.alloc (w := w) (below_drewN (Below.refl _ _) 1)))
  clear h hwf hpo hqo ho o1 o2 o3 hok ht
  generalize Hdr.obI (cls s a : Nat) (n : Nat) = x at *
  generalize cls s a = k at *
  go_enter Tryz.func314, Tryz.ntmps314
  go_wp2_with (go_at_call 315; refine HO.out.mono ?_; rintro e w1 ⟨rfl, rfl⟩)
  go_region_held3 (fun W => W.cell? ⟨o, 0, none⟩ = some (.pointer (some ⟨H, 0, none⟩)) ∧ W.cell? ⟨q, 0, none⟩ = some (.int .i64 a) ∧ W.cell? ⟨H, 0, none⟩ = some (.pointer (some ⟨d.A, 0, none⟩)))
    (first | exact HK0.out | assumption | exact HK3.out _ h23)
    (first | (go_at_call 263; refine (HS.out _).mono ?_; rintro e w3 ⟨rfl, hT3, h23⟩))
  all_goals go_wp2
  all_goals go_ret
  all_goals exact ⟨rfl, HT.out _ (by assumption)⟩
set_option maxRecDepth 100000 in
set_option maxHeartbeats 2000000 in
theorem begin_any {H : Nat} {d : Ids} {s : St} {m : Nat} (a n : Int) (w : World) (h : Is w H d s m) (ht : Tabs w) (hm : m < 900000) :
    Calls Tryz.prog 286 #[.pointer (some ⟨H, 0, none⟩), .int .i64 a, .int .i64 n] w fun e w' => e = .returned (.int .i64 (beE s a n)) ∧ To w w' H d (if beE s a n = 0 then beS s a.toNat n.toNat else s) (m + 1) := by
  have hb0 : Below w.heap.size w (((w.alloc (.cells #[.pointer (some ⟨H, 0, none⟩)] 76)).alloc (.cells #[.int .i64 a] 3)).alloc (.cells #[.int .i64 n] 3)) := three_new _ _ _ _ _ _
  have HB0 := Lib.hid hb0
  have HH := Lib.hid h
  have HI := Lib.hid (h.later hb0)
  have HN := Lib.hid (show ∀ k, w.heap.size ≤ k → ¬ Mine H d k from fun k hk => not_mine h hk)
  have HD := Lib.hid (hand_any a _ (h.later hb0) (ht.later hb0))
  have HTB := Lib.hid (ht.later hb0)
  have H3 := Lib.hid (fun (w1 : World) (hC : Below (((w.alloc (.cells #[.pointer (some ⟨H, 0, none⟩)] 76)).alloc (.cells #[.int .i64 a] 3)).alloc (.cells #[.int .i64 n] 3)).heap.size (((w.alloc (.cells #[.pointer (some ⟨H, 0, none⟩)] 76)).alloc (.cells #[.int .i64 a] 3)).alloc (.cells #[.int .i64 n] 3)) w1) => three_kept (S := Mine H d) HN.out (Chg.of_below hC))
  unfold beE
  cases ho : handB s a with
  | false =>
    rw [ho] at HD
    rw [if_neg (by simp), if_neg (by omega)]
    clear h ht hb0
    go_enter Tryz.func286, Tryz.ntmps286
    go_wp2_with (first
      | go_enter Tryz.func313, Tryz.ntmps313
      | (go_at_call 325; refine HD.out.mono ?_; rintro e w1 ⟨rfl, hb1⟩))
    go_ret
    exact ⟨rfl, To.of_below (HH.out.more (Nat.le_succ _)) (HB0.out.trans (hb1.mono HB0.out.size))⟩
  | true =>
    rw [ho] at HD
    rw [if_pos rfl] at HD
    rw [if_pos rfl]
    have hbd := h.wf.own_bd (handB_parts ho).1
    obtain ⟨b, rfl⟩ := Int.eq_ofNat_of_zero_le (show 0 ≤ a by omega)
    cases hok : Hdr.okB (cls s b : Nat) n with
    | false =>
      rw [if_neg (by simp), if_neg (by omega)]
      have HC := Lib.hid (fun (w1 : World) (p o q : Nat) ht hp => begin1_bad (cls s b) n p o q w1 ht hok hp)
      clear h ht hb0
      generalize cls s b = k at *
      go_enter Tryz.func286, Tryz.ntmps286
      go_wp2_with (first
        | go_enter Tryz.func313, Tryz.ntmps313
        | (go_at_call 325; refine HD.out.mono ?_; rintro e w1 ⟨rfl, hb1⟩)
        | (go_at_call 314; refine (HC.out _ _ _ _ (HTB.out.later hb1).siz (H3.out _ hb1).2.2).mono ?_; rintro e w2 ⟨rfl, rfl⟩))
      go_ret
      exact ⟨rfl, To.of_below (HH.out.more (Nat.le_succ _)) (HB0.out.trans (hb1.mono HB0.out.size))⟩
    | true =>
      rw [if_pos rfl, if_pos rfl]
      have hn0 := (Hdr.okB_true.1 hok).2.1
      obtain ⟨f, rfl⟩ := Int.eq_ofNat_of_zero_le hn0
      rw [Int.toNat_natCast, Int.toNat_natCast]
      have HC := Lib.hid (fun (w1 : World) (p o q : Nat) hI ht hp hq hr n1 n2 => begin1_any (H := H) (d := d) (m := m) b f p o q w1 hI ht hm ho hok hp hq hr n1 n2)
      clear h ht hb0
      generalize cls s b = k at *
      go_enter Tryz.func286, Tryz.ntmps286
      go_wp2_with (first
        | go_enter Tryz.func313, Tryz.ntmps313
        | (go_at_call 325; refine HD.out.mono ?_; rintro e w1 ⟨rfl, hb1⟩)
        | (go_at_call 314; refine (HC.out _ _ _ _ (HI.out.later hb1) (HTB.out.later hb1) (H3.out _ hb1).2.2 (H3.out _ hb1).1 (H3.out _ hb1).2.1 (HN.out _ (by simp)) (HN.out _ (by simp))).mono ?_; rintro e w2 ⟨rfl, hT2⟩))
      go_ret
      exact ⟨rfl, To.alloc (HB0.out.trans (hb1.mono HB0.out.size)) hT2⟩
end Go.Proofs.YtipifkgmhgkleaaGreatDoor.Hp

namespace Go.Proofs.YtipifkgmhgkleaaGreatDoor.Hp
open Go.RowKit
open Class (isB isB_true isB_false is_any sizI sizI_bd roomI SizTab quiet_left below_drewN)
open Blk (Cfg TbIs ownB ownB_true blk kAt rowB)
open Go.Proofs.YtipifkgmhgkleaaGreatDoor.Row (Chg Rd)
open Arena (ArIs Two)
open Bits (SetIs)
open Lis (Sit Five Held upd upd_same upd_other set_kept lastN)
open Go.Proofs.YtipifkgmhgkleaaGreatDoor.Addr (Tabs adrB adrB_true)

def colB (c : Int) : Bool := (c == 0) || (c == 1)
theorem color_any (c : Int) (w : World) : Calls Tryz.prog 308 #[.int .i64 c] w fun e w' => e = .returned (.bool (colB c)) ∧ w = w' := by
  unfold colB
  by_cases h0 : c = 0
  · subst h0
    go_enter Tryz.func308, Tryz.ntmps308
    go_wp2
    go_ret
    exact ⟨rfl, rfl⟩
  · have hb : (c == 0) = false := by simpa using h0
    rw [hb]
    go_enter Tryz.func308, Tryz.ntmps308
    go_wp2
    go_ret
    exact ⟨rfl, rfl⟩

theorem putS_has {size : Nat} {ws : List Nat} (hs : SetW size ws) {a : Nat} (ha : a < size) (x : Bool) (b : Nat) : hasB (Bits.putS size ws a x) b = if b = a then x else hasB ws b := by
  have hm : Bits.mayB (a : Int) size = true := by simp [Bits.mayB]; omega
  unfold Bits.putS Bits.putR
  rw [hm, Bool.true_and, Int.toNat_natCast]
  by_cases hx : hasB ws a = x
  · rw [if_neg (by simp [hx])]
    split
    · rename_i e; rw [e, hx]
    · rfl
  · have hne : (hasB ws a != x) = true := by simpa using hx
    rw [if_pos hne, hs.has_put ha]
    split
    · cases x <;> cases h : hasB ws a <;> simp_all
    · rfl

theorem ones_put {H : Nat} {d : Ids} {s : St} {m : Nat} (a : Int) (x : Bool) (w : World) (h : Is w H d s m) :
    Calls Tryz.prog 309 #[.pointer (some ⟨d.O, 0, none⟩), .int .i64 a, .bool x] w fun e w' => e = .returned (.bool (Bits.putR (s.ws.length + 1) s.os a x)) ∧ Is w' H d { s with os := Bits.putS (s.ws.length + 1) s.os a x } m ∧ Chg (Mine H d) w w' ∧ ∀ k, k ≠ d.Ow → w'.heap[k]? = w.heap[k]? := by
  have hnd := h.nd
  simp only [List.nodup_cons, List.mem_cons, List.not_mem_nil, or_false, not_or] at hnd
  refine (Bits.put_any d.O d.Ow _ d.capO s.os a x w h.ones (by omega)).mono ?_
  rintro e w' ⟨rfl, hs, hg, hsz⟩
  have hb : ∀ k, k ≠ d.Ow → w'.heap[k]? = w.heap[k]? := fun k hk => by
    by_cases hk2 : k < w.heap.size
    · exact hg.block k hk2 (fun e => hk (Option.some.inj e))
    · rw [Array.getElem?_eq_none (by omega), Array.getElem?_eq_none (by omega)]
  exact ⟨rfl, h.ones' hs hb (Nat.le_of_eq hsz.symm), ⟨hg.os, hg.tape, hg.output, Nat.le_of_eq hsz.symm, fun k _ hn => hb k (fun e => hn (.inr (.inl (.inr (.inr (.inr (.inr (.inr (.inl e)))))))))⟩, hb⟩
theorem born_put {H : Nat} {d : Ids} {s : St} {m : Nat} (a : Int) (x : Bool) (w : World) (h : Is w H d s m) (hw : Wf { s with bs := Bits.putS (s.ws.length + 1) s.bs a x }) :
    Calls Tryz.prog 309 #[.pointer (some ⟨d.B, 0, none⟩), .int .i64 a, .bool x] w fun e w' => e = .returned (.bool (Bits.putR (s.ws.length + 1) s.bs a x)) ∧ Is w' H d { s with bs := Bits.putS (s.ws.length + 1) s.bs a x } m ∧ Chg (Mine H d) w w' ∧ ∀ k, k ≠ d.Bw → w'.heap[k]? = w.heap[k]? := by
  have hnd := h.nd
  simp only [List.nodup_cons, List.mem_cons, List.not_mem_nil, or_false, not_or] at hnd
  refine (Bits.put_any d.B d.Bw _ d.capB s.bs a x w h.born (by omega)).mono ?_
  rintro e w' ⟨rfl, hs, hg, hsz⟩
  have hb : ∀ k, k ≠ d.Bw → w'.heap[k]? = w.heap[k]? := fun k hk => by
    by_cases hk2 : k < w.heap.size
    · exact hg.block k hk2 (fun e => hk (Option.some.inj e))
    · rw [Array.getElem?_eq_none (by omega), Array.getElem?_eq_none (by omega)]
  exact ⟨rfl, h.born' hs hb (Nat.le_of_eq hsz.symm) hw, ⟨hg.os, hg.tape, hg.output, Nat.le_of_eq hsz.symm, fun k _ hn => hb k (fun e => hn (.inr (.inl (.inr (.inr (.inr (.inl e)))))))⟩, hb⟩

/-- What Bear tells, and leaves. -/
def baE (s : St) (a c : Int) : Int := if handB s a = true then (if colB c = true then (if Hdr.isOb (wdA s a.toNat) = true then 0 else 11) else 1) else 1
def baS (s : St) (a : Nat) (c : Int) : St := { s with os := Bits.putS (s.ws.length + 1) s.os a (c == 1), bs := Bits.putS (s.ws.length + 1) s.bs a true }
theorem bear1_bad (k : Nat) (c : Int) (p o q : Nat) (w : World) (hc : colB c = false) (hp : w.cell? ⟨p, 0, none⟩ = some (.int .i64 c)) :
    Calls Tryz.prog 329 #[.int .i64 k, .pointer (some ⟨p, 0, none⟩), .pointer (some ⟨o, 0, none⟩), .pointer (some ⟨q, 0, none⟩)] w fun e w' => e = .returned (.int .i64 1) ∧ w = w' := by
  have HC := Lib.hid (color_any c w)
  rw [hc] at HC
  go_enter Tryz.func329, Tryz.ntmps329
  go_wp2_with (go_at_call 308; refine HC.out.mono ?_; rintro e w1 ⟨rfl, rfl⟩)
  go_ret
  exact ⟨rfl, rfl⟩
set_option maxRecDepth 100000 in
set_option maxHeartbeats 1000000 in
theorem bear1_no {H : Nat} {d : Ids} {s : St} {m : Nat} (k a : Nat) (c : Int) (p o q : Nat) (w : World) (h : Is w H d s m) (ht : Tabs w) (hm : m < 900000) (hc : colB c = true) (h1 : 1 ≤ a) (h2 : a ≤ s.ws.length) (hi : Hdr.isOb (wdA s a) = false)
    (hp : w.cell? ⟨p, 0, none⟩ = some (.int .i64 c)) (hq : w.cell? ⟨o, 0, none⟩ = some (.pointer (some ⟨H, 0, none⟩))) (hr : w.cell? ⟨q, 0, none⟩ = some (.int .i64 a)) :
    Calls Tryz.prog 329 #[.int .i64 k, .pointer (some ⟨p, 0, none⟩), .pointer (some ⟨o, 0, none⟩), .pointer (some ⟨q, 0, none⟩)] w fun e w' => e = .returned (.int .i64 11) ∧ To w w' H d s (m + 1) := by
  have HC := Lib.hid (color_any c w)
  rw [hc] at HC
  have HB := Lib.hid (begun_any a w h ht (by omega) h1 h2)
  rw [hi] at HB
  clear h ht
  generalize Hdr.obF (wdA s a) = y at *
  go_enter Tryz.func329, Tryz.ntmps329
  go_wp2_with (first
    | (go_at_call 308; refine HC.out.mono ?_; rintro e w1 ⟨rfl, rfl⟩)
    | (go_at_call 299; refine HB.out.mono ?_; rintro e w1 ⟨rfl, hT1⟩))
  go_ret
  exact ⟨rfl, hT1⟩
set_option maxRecDepth 100000 in
set_option maxHeartbeats 4000000 in
theorem bear1_any {H : Nat} {d : Ids} {s : St} {m : Nat} (k a : Nat) (c : Int) (p o q : Nat) (w : World) (h : Is w H d s m) (ht : Tabs w) (hm : m < 900000) (hc : colB c = true) (h1 : 1 ≤ a) (h2 : a ≤ s.ws.length) (hi : Hdr.isOb (wdA s a) = true) (ho : handB s a = true)
    (hp : w.cell? ⟨p, 0, none⟩ = some (.int .i64 c)) (hq : w.cell? ⟨o, 0, none⟩ = some (.pointer (some ⟨H, 0, none⟩))) (hr : w.cell? ⟨q, 0, none⟩ = some (.int .i64 a)) (hpp : ¬ Mine H d p) (hpo : ¬ Mine H d o) (hqo : ¬ Mine H d q) :
    Calls Tryz.prog 329 #[.int .i64 k, .pointer (some ⟨p, 0, none⟩), .pointer (some ⟨o, 0, none⟩), .pointer (some ⟨q, 0, none⟩)] w fun e w' => e = .returned (.int .i64 0) ∧ To w w' H d (baS s a c) (m + 1) := by
  have HC := Lib.hid (color_any c w)
  rw [hc] at HC
  have HB := Lib.hid (begun_any a w h ht (by omega) h1 h2)
  rw [hi] at HB
  obtain ⟨o1, o2, o3⟩ := handB_parts ho
  rw [frI_nat] at o3
  have hpl : p < w.heap.size := World.block_lt_of_cell? w _ hp
  have hol : o < w.heap.size := World.block_lt_of_cell? w _ hq
  have hql : q < w.heap.size := World.block_lt_of_cell? w _ hr
  have hwf : Wf { s with bs := Bits.putS (s.ws.length + 1) s.bs a true } := h.wf.bear o1 o3 hi (fun b => by rw [putS_has h.born.row (by omega)]; rfl)
  have HWF := Lib.hid (show Wf { s with os := Bits.putS (s.ws.length + 1) s.os a (c == 1), bs := Bits.putS (s.ws.length + 1) s.bs a true } from ⟨hwf.right, hwf.words, hwf.full, hwf.free, hwf.born, hwf.room, hwf.fresh⟩)
  have HX : Hid (∀ w1 : World, To w w1 H d s (m + 1) → ∃ d1, Is w1 H d1 s (m + 1) ∧ Chg (Mine H d) w w1 ∧ (∀ j, Mine H d1 j → Mine H d j ∨ w.heap.size ≤ j) ∧ w1.cell? ⟨p, 0, none⟩ = some (.int .i64 c) ∧ w1.cell? ⟨o, 0, none⟩ = some (.pointer (some ⟨H, 0, none⟩)) ∧ w1.cell? ⟨q, 0, none⟩ = some (.int .i64 a) ∧ ¬ Mine H d1 p ∧ ¬ Mine H d1 o ∧ ¬ Mine H d1 q) := Lib.hid fun w1 hT => by
    have c1 := hT.cell hp hpp
    have c2 := hT.cell hq hpo
    have c3 := hT.cell hr hqo
    obtain ⟨d1, hI, hC, hR⟩ := hT
    exact ⟨d1, hI, hC, hR, c1, c2, c3, To.not_mine hR hpp hpl, To.not_mine hR hpo hol, To.not_mine hR hqo hql⟩
  clear h ht hwf o1 o2 o3 ho hpp hpo hqo
  unfold baS
  generalize Hdr.obF (wdA s a) = y at *
  go_enter Tryz.func329, Tryz.ntmps329
  go_wp2_with (first
    | (go_at_call 308; refine HC.out.mono ?_; rintro e w1 ⟨rfl, rfl⟩)
    | (go_at_call 299; refine HB.out.mono ?_; rintro e w1 ⟨rfl, hT1⟩; obtain ⟨d1, hI1, hC1, hR1, c1, c2, c3, n1, n2, n3⟩ := HX.out _ hT1; have hcO1 := hI1.cO; have hcB1 := hI1.cB; have HI1 := Lib.hid hI1; have HC1 := Lib.hid hC1; have HR1 := Lib.hid hR1; clear hI1 hC1 hR1 hT1 hp hq hr))
  have hc1 : ((c == 1) : Bool) = (c == 1) := rfl
  have hH1 : H < w1.heap.size := HI1.out.ltH
  have hpl1 : p < w1.heap.size := World.block_lt_of_cell? w1 _ c1
  have hol1 : o < w1.heap.size := World.block_lt_of_cell? w1 _ c2
  have hql1 : q < w1.heap.size := World.block_lt_of_cell? w1 _ c3
  have HND := Lib.hid HI1.out.nd
  have hHO : H ≠ d1.Ow := by have := HI1.out.nd; simp at this; omega
  have hHB : H ≠ d1.Bw := by have := HI1.out.nd; simp at this; omega
  have sO : ∀ k, ¬ Mine H d1 k → k ≠ d1.Ow := fun k hk e => hk (.inr (.inl (by unfold seven; omega)))
  have sB : ∀ k, ¬ Mine H d1 k → k ≠ d1.Bw := fun k hk e => hk (.inr (.inl (by unfold seven; omega)))
  have HK0 := Lib.hid (show w1.drew.cell? ⟨o, 0, none⟩ = some (.pointer (some ⟨H, 0, none⟩)) ∧ w1.drew.cell? ⟨q, 0, none⟩ = some (.int .i64 a) ∧ w1.drew.cell? ⟨p, 0, none⟩ = some (.int .i64 c) ∧ w1.drew.cell? ⟨H, 4, none⟩ = some (.pointer (some ⟨d1.O, 0, none⟩)) from ⟨c2, c3, c1, hcO1⟩)
  have HK4 := Lib.hid (fun (W : World) (h2 : ∀ j, j ≠ d1.Ow → W.heap[j]? = (w1.drewN 1).heap[j]?) => (⟨(Row.cell_of_block (a := ⟨o, 0, none⟩) (h2 o (sO o n2))).trans c2, (Row.cell_of_block (a := ⟨q, 0, none⟩) (h2 q (sO q n3))).trans c3, (Row.cell_of_block (a := ⟨p, 0, none⟩) (h2 p (sO p n1))).trans c1, (Row.cell_of_block (a := ⟨H, 4, none⟩) (h2 H hHO)).trans hcO1⟩ : W.cell? ⟨o, 0, none⟩ = some (.pointer (some ⟨H, 0, none⟩)) ∧ W.cell? ⟨q, 0, none⟩ = some (.int .i64 a) ∧ W.cell? ⟨p, 0, none⟩ = some (.int .i64 c) ∧ W.cell? ⟨H, 4, none⟩ = some (.pointer (some ⟨d1.O, 0, none⟩))))
  have HP1 := Lib.hid (fun n => ones_put (a : Int) (c == 1) _ (HI1.out.drewN n))
  have HKB := Lib.hid (fun (W : World) (h2 : ∀ j, j ≠ d1.Ow → W.heap[j]? = (w1.drewN 1).heap[j]?) => (Row.cell_of_block (a := ⟨H, 3, none⟩) (h2 H hHO)).trans hcB1)
  have HSO := Lib.hid sO
  have HSB := Lib.hid sB
  clear sO sB
  go_region_held3 (fun W => W.cell? ⟨o, 0, none⟩ = some (.pointer (some ⟨H, 0, none⟩)) ∧ W.cell? ⟨q, 0, none⟩ = some (.int .i64 a) ∧ W.cell? ⟨p, 0, none⟩ = some (.int .i64 c) ∧ W.cell? ⟨H, 4, none⟩ = some (.pointer (some ⟨d1.O, 0, none⟩)))
    (first | exact HK0.out | assumption | exact HK4.out _ h24)
    (first | (go_at_call 309; refine (HP1.out _).mono ?_; rintro e w4 ⟨rfl, hI4, hC4, h24⟩))
  have hS4 : w4.cell? ⟨o, 0, none⟩ = some (.pointer (some ⟨H, 0, none⟩)) ∧ w4.cell? ⟨q, 0, none⟩ = some (.int .i64 a) ∧ w4.cell? ⟨p, 0, none⟩ = some (.int .i64 c) ∧ w4.cell? ⟨H, 4, none⟩ = some (.pointer (some ⟨d1.O, 0, none⟩)) := by assumption
  have hcB4 := HKB.out _ h24
  clear HK0 HK4 HKB HP1
  obtain ⟨d2, d3, d4, _⟩ := hS4
  have HI4 := Lib.hid hI4
  have HC4 := Lib.hid (HC1.out.trans ((Chg.refl (Mine H d1) w1).drewN 1 |>.trans hC4 (fun _ e => .inl e)) HR1.out)
  clear hI4 hC4 h24 c1 c2 c3 hcO1 hcB1 hpl1 hol1 hql1 hH1
  go_wp2
  have HK0 := Lib.hid (show w4.drew.cell? ⟨o, 0, none⟩ = some (.pointer (some ⟨H, 0, none⟩)) ∧ w4.drew.cell? ⟨q, 0, none⟩ = some (.int .i64 a) ∧ w4.drew.cell? ⟨H, 3, none⟩ = some (.pointer (some ⟨d1.B, 0, none⟩)) from ⟨d2, d3, hcB4⟩)
  have HK4 := Lib.hid (fun (W : World) (h2 : ∀ j, j ≠ d1.Bw → W.heap[j]? = (w4.drewN 1).heap[j]?) => (⟨(Row.cell_of_block (a := ⟨o, 0, none⟩) (h2 o (HSB.out o n2))).trans d2, (Row.cell_of_block (a := ⟨q, 0, none⟩) (h2 q (HSB.out q n3))).trans d3, (Row.cell_of_block (a := ⟨H, 3, none⟩) (h2 H hHB)).trans hcB4⟩ : W.cell? ⟨o, 0, none⟩ = some (.pointer (some ⟨H, 0, none⟩)) ∧ W.cell? ⟨q, 0, none⟩ = some (.int .i64 a) ∧ W.cell? ⟨H, 3, none⟩ = some (.pointer (some ⟨d1.B, 0, none⟩))))
  have HP2 := Lib.hid (fun n => born_put (a : Int) true _ (HI4.out.drewN n) HWF.out)
  go_region_held3 (fun W => W.cell? ⟨o, 0, none⟩ = some (.pointer (some ⟨H, 0, none⟩)) ∧ W.cell? ⟨q, 0, none⟩ = some (.int .i64 a) ∧ W.cell? ⟨H, 3, none⟩ = some (.pointer (some ⟨d1.B, 0, none⟩)))
    (first | exact HK0.out | assumption | exact HK4.out _ h25)
    (first | (go_at_call 309; refine (HP2.out _).mono ?_; rintro e w5 ⟨rfl, hI5, hC5, h25⟩))
  have HI5 := Lib.hid hI5
  have HC5 := Lib.hid (HC4.out.trans ((Chg.refl (Mine H d1) w4).drewN 1 |>.trans hC5 (fun _ e => .inl e)) HR1.out)
  clear hI5 hC5 h25
  all_goals go_wp2
  all_goals go_ret
  all_goals exact ⟨rfl, d1, HI5.out, HC5.out, HR1.out⟩

set_option maxRecDepth 100000 in
set_option maxHeartbeats 2000000 in
theorem bear_any {H : Nat} {d : Ids} {s : St} {m : Nat} (a c : Int) (w : World) (h : Is w H d s m) (ht : Tabs w) (hm : m < 900000) :
    Calls Tryz.prog 317 #[.pointer (some ⟨H, 0, none⟩), .int .i64 a, .int .i64 c] w fun e w' => e = .returned (.int .i64 (baE s a c)) ∧ To w w' H d (if baE s a c = 0 then baS s a.toNat c else s) (m + 1) := by
  have hb0 : Below w.heap.size w (((w.alloc (.cells #[.pointer (some ⟨H, 0, none⟩)] 76)).alloc (.cells #[.int .i64 a] 3)).alloc (.cells #[.int .i64 c] 3)) := three_new _ _ _ _ _ _
  have HB0 := Lib.hid hb0
  have HH := Lib.hid h
  have HI := Lib.hid (h.later hb0)
  have HN := Lib.hid (show ∀ k, w.heap.size ≤ k → ¬ Mine H d k from fun k hk => not_mine h hk)
  have HD := Lib.hid (hand_any a _ (h.later hb0) (ht.later hb0))
  have HTB := Lib.hid (ht.later hb0)
  have H3 := Lib.hid (fun (w1 : World) (hC : Below (((w.alloc (.cells #[.pointer (some ⟨H, 0, none⟩)] 76)).alloc (.cells #[.int .i64 a] 3)).alloc (.cells #[.int .i64 c] 3)).heap.size (((w.alloc (.cells #[.pointer (some ⟨H, 0, none⟩)] 76)).alloc (.cells #[.int .i64 a] 3)).alloc (.cells #[.int .i64 c] 3)) w1) => three_kept (S := Mine H d) HN.out (Chg.of_below hC))
  unfold baE
  cases ho : handB s a with
  | false =>
    rw [ho] at HD
    rw [if_neg (by simp), if_neg (by omega)]
    clear h ht hb0
    go_enter Tryz.func317, Tryz.ntmps317
    go_wp2_with (first
      | go_enter Tryz.func313, Tryz.ntmps313
      | (go_at_call 325; refine HD.out.mono ?_; rintro e w1 ⟨rfl, hb1⟩))
    go_ret
    exact ⟨rfl, To.of_below (HH.out.more (Nat.le_succ _)) (HB0.out.trans (hb1.mono HB0.out.size))⟩
  | true =>
    rw [ho] at HD
    rw [if_pos rfl] at HD
    rw [if_pos rfl]
    have hbd := h.wf.own_bd (handB_parts ho).1
    obtain ⟨b, rfl⟩ := Int.eq_ofNat_of_zero_le (show 0 ≤ a by omega)
    rw [Int.toNat_natCast]
    cases hc : colB c with
    | false =>
      rw [if_neg (by simp), if_neg (by omega)]
      have HC := Lib.hid (fun (w1 : World) (p o q : Nat) hp => bear1_bad (cls s b) c p o q w1 hc hp)
      clear h ht hb0
      generalize cls s b = k at *
      go_enter Tryz.func317, Tryz.ntmps317
      go_wp2_with (first
        | go_enter Tryz.func313, Tryz.ntmps313
        | (go_at_call 325; refine HD.out.mono ?_; rintro e w1 ⟨rfl, hb1⟩)
        | (go_at_call 329; refine (HC.out _ _ _ _ (H3.out _ hb1).2.2).mono ?_; rintro e w2 ⟨rfl, rfl⟩))
      go_ret
      exact ⟨rfl, To.of_below (HH.out.more (Nat.le_succ _)) (HB0.out.trans (hb1.mono HB0.out.size))⟩
    | true =>
      rw [if_pos rfl]
      cases hi : Hdr.isOb (wdA s b) with
      | false =>
        rw [if_neg (by simp), if_neg (by omega)]
        have HC := Lib.hid (fun (w1 : World) (p o q : Nat) hI ht hp hq hr => bear1_no (H := H) (d := d) (m := m) (cls s b) b c p o q w1 hI ht hm hc (by omega) (by omega) hi hp hq hr)
        clear h ht hb0
        generalize cls s b = k at *
        go_enter Tryz.func317, Tryz.ntmps317
        go_wp2_with (first
          | go_enter Tryz.func313, Tryz.ntmps313
          | (go_at_call 325; refine HD.out.mono ?_; rintro e w1 ⟨rfl, hb1⟩)
          | (go_at_call 329; refine (HC.out _ _ _ _ (HI.out.later hb1) (HTB.out.later hb1) (H3.out _ hb1).2.2 (H3.out _ hb1).1 (H3.out _ hb1).2.1).mono ?_; rintro e w2 ⟨rfl, hT2⟩))
        go_ret
        exact ⟨rfl, To.alloc (HB0.out.trans (hb1.mono HB0.out.size)) hT2⟩
      | true =>
        rw [if_pos rfl, if_pos rfl]
        have HC := Lib.hid (fun (w1 : World) (p o q : Nat) hI ht hp hq hr n0 n1 n2 => bear1_any (H := H) (d := d) (m := m) (cls s b) b c p o q w1 hI ht hm hc (by omega) (by omega) hi ho hp hq hr n0 n1 n2)
        clear h ht hb0
        generalize cls s b = k at *
        go_enter Tryz.func317, Tryz.ntmps317
        go_wp2_with (first
          | go_enter Tryz.func313, Tryz.ntmps313
          | (go_at_call 325; refine HD.out.mono ?_; rintro e w1 ⟨rfl, hb1⟩)
          | (go_at_call 329; refine (HC.out _ _ _ _ (HI.out.later hb1) (HTB.out.later hb1) (H3.out _ hb1).2.2 (H3.out _ hb1).1 (H3.out _ hb1).2.1 (HN.out _ (by omega)) (HN.out _ (by omega)) (HN.out _ (by omega))).mono ?_; rintro e w2 ⟨rfl, hT2⟩))
        go_ret
        exact ⟨rfl, To.alloc (HB0.out.trans (hb1.mono HB0.out.size)) hT2⟩
end Go.Proofs.YtipifkgmhgkleaaGreatDoor.Hp
