/-
  Store, Begin of a heap.
-/
import Derived.Test.YtcoolapancdioaaGreatDoorHpD
namespace Go.Proofs.YtcoolapancdioaaGreatDoor.Hp
open Go.RowKit
open Class (isB isB_true isB_false is_any sizI sizI_bd roomI SizTab quiet_left below_drewN)
open Blk (Cfg TbIs ownB ownB_true blk kAt rowB adr perN seg)
open Go.Proofs.YtcoolapancdioaaGreatDoor.Row (Chg Rd)
open Arena (ArIs Two)
open Bits (SetIs)
open Lis (Sit Five Held upd upd_same upd_other set_kept lastN)
open Go.Proofs.YtcoolapancdioaaGreatDoor.Addr (Tabs adrB adrB_true)

theorem held_lay {ws sw : List Nat} {hv : Nat → List Nat} (h : Held ws sw hv) {x v : Nat} (h1 : 1 ≤ x) (hx : ∀ k, k < 4 → x ∉ hv k) (hvv : v < 18446744073709551616) : Held (ws.set (x - 1) v) sw hv := by
  refine ⟨fun k hk => (h.chain k hk).set h1 (hx k hk), fun a ha => h.isIn a (by rw [List.length_set] at ha; exact ha), h.once, h.apart, fun j => ?_⟩
  rw [Arena.wd_set]
  split
  · exact hvv
  · exact h.word j
/-- A word that is laid. -/
theorem Is.stored {w w' : World} {H : Nat} {d : Ids} {s : St} {m : Nat} (h : Is w H d s m) {x v : Nat} (h1 : 1 ≤ x) (hx : ∀ k, k < 4 → x ∉ s.hv k) (hvv : v < 18446744073709551616) (ha : ArIs w' d.A d.G d.cap (s.ws.set (x - 1) v) d.ld (d.st + 1)) (ht : Two d.A d.G w w')
    (hw : Wf { s with ws := s.ws.set (x - 1) v }) : To w w' H d { s with ws := s.ws.set (x - 1) v } (m + 1) := by
  have F := h.sit.five
  have hl : ∀ k, lo d k → k ≠ d.A → k ≠ d.G → w'.heap[k]? = w.heap[k]? := fun k hk n1 n2 => ht.block k (h.lt (.inl hk)) n1 n2
  have hs : Sit w' d.L d.A d.G d.T d.I d.J d.cap d.capS d.base d.ps d.cs (fun k => (s.hv k).reverse) (s.ws.set (x - 1) v) d.sw d.ld (d.st + 1) :=
    ⟨h.sit.ls.kept (hl _ (.inl rfl) F.la F.lg) (fun k hk g hg => hl g (.inr (.inr (.inr (.inr (.inr ⟨k, hk, hg⟩))))) (h.sit.rows k hk g hg).1 (h.sit.rows k hk g hg).2.1), ha, by rw [List.length_set]; exact set_kept h.sit.si (hl _ (.inr (.inr (.inr (.inl rfl)))) (Ne.symm F.ai) (Ne.symm F.gi)) (hl _ (.inr (.inr (.inr (.inr (.inl rfl))))) (Ne.symm F.aj) (Ne.symm F.gj)), F,
      Nat.lt_of_lt_of_le h.sit.ltG ht.size, Nat.lt_of_lt_of_le h.sit.ltJ ht.size, h.sit.rows, Nat.le_trans h.sit.bs ht.size⟩
  have hc := Lis.own_two (L := d.L) (I := d.I) (J := d.J) (ps := d.ps) ht
  obtain ⟨c1, c2, c3⟩ := h.cnt
  exact ⟨_, h.lists hs (held_lay h.held h1 hx hvv) (by rw [List.length_set]) hc (fun _ e => .inl e) ⟨by omega, by omega, fun k hk => by have := c3 k hk; omega⟩ hw, hc.mono (fun _ e => .inl e), fun _ e => .inl e⟩
theorem arena_store {H : Nat} {d : Ids} {s : St} {m : Nat} (x v : Nat) (w : World) (h : Is w H d s m) (hm : m < 1000000) (h1 : 1 ≤ x) (h2 : x ≤ s.ws.length) (hx : ∀ k, k < 4 → x ∉ s.hv k) (hvv : v < 18446744073709551616) (hw : Wf { s with ws := s.ws.set (x - 1) v }) :
    Calls Tryz.prog 84 #[.pointer (some ⟨d.A, 0, none⟩), .int .i64 x, .int .u64 v] w fun e w' => e = .returned (.int .i64 0) ∧ To w w' H d { s with ws := s.ws.set (x - 1) v } (m + 1) ∧ Two d.A d.G w w' := by
  have hz : Arena.codeN s.ws.length (x : Int) = 0 := by unfold Arena.codeN; rw [if_neg (by omega), if_neg (by omega)]
  have e1 : Arena.putS s.ws (x : Int) v = s.ws.set (x - 1) v := by rw [Arena.putS, if_pos hz, Int.toNat_natCast]
  have e2 : Arena.oneN s.ws.length (x : Int) = 1 := if_pos hz
  have hst := h.cnt.2.1
  have hs := Arena.store_any w h.sit.ar h.sit.ltG (by omega) (x : Int) v
  rw [e1, e2, hz] at hs
  refine hs.mono ?_
  rintro e w' ⟨rfl, ha, ht⟩
  exact ⟨rfl, h.stored h1 hx hvv ha ht hw, ht⟩

/-- May a field, or a cell, have a value? -/
def mayV (s : St) (v : Int) : Bool := decide (0 ≤ v) && decide (v ≤ (s.ws.length : Int))
theorem mayV_true {s : St} {v : Int} : mayV s v = true ↔ 0 ≤ v ∧ v ≤ (s.ws.length : Int) := by simp [mayV]
theorem may_any {H : Nat} {d : Ids} {s : St} {m : Nat} (v : Int) (w : World) (h : Is w H d s m) : Calls Tryz.prog 88 #[.pointer (some ⟨H, 0, none⟩), .int .i64 v] w fun e w' => e = .returned (.bool (mayV s v)) ∧ w = w' := by
  have hcA := h.cA
  have HL := Lib.hid (Arena.len_any w h.sit.ar)
  unfold mayV
  clear h
  by_cases h0 : 0 ≤ v
  · go_enter Tryz.func88, Tryz.ntmps88
    go_wp2_with (go_at_call 99; refine HL.out.mono ?_; rintro e w1 ⟨rfl, rfl⟩)
    go_ret
    exact ⟨by rw [decide_eq_true (by omega : 0 ≤ v), Bool.true_and]; rfl, rfl⟩
  · go_enter Tryz.func88, Tryz.ntmps88
    go_wp2_with (go_at_call 99; refine HL.out.mono ?_; rintro e w1 ⟨rfl, rfl⟩)
    go_ret
    exact ⟨by rw [decide_eq_false (by omega : ¬ 0 ≤ v), Bool.false_and]; rfl, rfl⟩

/-- A field laid: what is there then. -/
def stS (s : St) (a f v : Nat) : St := { s with ws := s.ws.set (a + f) v }
def sE (s : St) (a f v : Int) : Int := if lE s a f = 0 then (if mayV s v = true then 0 else 4) else lE s a f
set_option maxRecDepth 100000 in
set_option maxHeartbeats 1000000 in
theorem store1_bad {H : Nat} {d : Ids} {s : St} {m : Nat} (i v : Int) (p q : Nat) (w : World) (h : Is w H d s m) (hv : mayV s v = false) (hp : w.cell? ⟨p, 0, none⟩ = some (.pointer (some ⟨H, 0, none⟩))) (hq : w.cell? ⟨q, 0, none⟩ = some (.int .i64 v)) :
    Calls Tryz.prog 87 #[.int .i64 i, .pointer (some ⟨p, 0, none⟩), .pointer (some ⟨q, 0, none⟩)] w fun e w' => e = .returned (.int .i64 4) ∧ w = w' := by
  have HM := Lib.hid (may_any v w h)
  rw [hv] at HM
  clear h
  go_enter Tryz.func87, Tryz.ntmps87
  go_wp2_with (go_at_call 88; refine HM.out.mono ?_; rintro e w1 ⟨rfl, rfl⟩)
  go_ret
  exact ⟨rfl, rfl⟩
set_option maxRecDepth 100000 in
set_option maxHeartbeats 2000000 in
theorem store1_any {H : Nat} {d : Ids} {s : St} {m : Nat} (i v : Nat) (p q : Nat) (w : World) (h : Is w H d s m) (hm : m < 1000000) (h1 : 1 ≤ i) (h2 : i ≤ s.ws.length) (hx : ∀ k, k < 4 → i ∉ s.hv k) (hvv : v ≤ s.ws.length) (hw : Wf { s with ws := s.ws.set (i - 1) v })
    (hp : w.cell? ⟨p, 0, none⟩ = some (.pointer (some ⟨H, 0, none⟩))) (hq : w.cell? ⟨q, 0, none⟩ = some (.int .i64 v)) (hpo : ¬ Mine H d p) (hqo : ¬ Mine H d q) :
    Calls Tryz.prog 87 #[.int .i64 i, .pointer (some ⟨p, 0, none⟩), .pointer (some ⟨q, 0, none⟩)] w fun e w' => e = .returned (.int .i64 0) ∧ To w w' H d { s with ws := s.ws.set (i - 1) v } (m + 1) := by
  have hcA := h.cA
  have hsm := h.sit.ar.small
  have hmv : mayV s (v : Int) = true := mayV_true.2 ⟨by omega, by omega⟩
  have HM := Lib.hid (may_any (v : Int) w h)
  rw [hmv] at HM
  have hc : IntKind.u64.wrap (v : Int) = (v : Int) := by rw [IntKind.wrap_u64]; omega
  have hpl : p < w.heap.size := World.block_lt_of_cell? w _ hp
  have hql : q < w.heap.size := World.block_lt_of_cell? w _ hq
  have hHl := h.ltH
  have HS := Lib.hid (fun n => arena_store i v _ (h.drewN n) hm h1 h2 hx (by omega) hw)
  have HK0 := Lib.hid (show w.drew.cell? ⟨p, 0, none⟩ = some (.pointer (some ⟨H, 0, none⟩)) ∧ w.drew.cell? ⟨q, 0, none⟩ = some (.int .i64 v) ∧ w.drew.cell? ⟨H, 0, none⟩ = some (.pointer (some ⟨d.A, 0, none⟩)) from ⟨hp, hq, hcA⟩)
  have hnA : H ≠ d.A := fun e => h.ap H (.inr (.inl e)) (.inl rfl)
  have hnG : H ≠ d.G := fun e => h.ap H (.inr (.inr (.inl e))) (.inl rfl)
  have HK3 := Lib.hid (fun (W : World) (h2 : Two d.A d.G (w.drewN 1) W) => (⟨(h2.cell (p := ⟨p, 0, none⟩) hpl (fun e => hpo (.inl (.inr (.inl e)))) (fun e => hpo (.inl (.inr (.inr (.inl e)))))).trans hp, (h2.cell (p := ⟨q, 0, none⟩) hql (fun e => hqo (.inl (.inr (.inl e)))) (fun e => hqo (.inl (.inr (.inr (.inl e)))))).trans hq, (h2.cell (p := ⟨H, 0, none⟩) hHl hnA hnG).trans hcA⟩ : W.cell? ⟨p, 0, none⟩ = some (.pointer (some ⟨H, 0, none⟩)) ∧ W.cell? ⟨q, 0, none⟩ = some (.int .i64 v) ∧ W.cell? ⟨H, 0, none⟩ = some (.pointer (some ⟨d.A, 0, none⟩))))
  have HT := Lib.hid (fun (w2 : World) (h2 : To (w.drewN 1) w2 H d { s with ws := s.ws.set (i - 1) v } (m + 1)) => (h2.alloc (w := w) (below_drewN (Below.refl _ _) 1) : To w w2 H d { s with ws := s.ws.set (i - 1) v } (m + 1)))
  clear h hw hmv hpo hqo
  go_enter Tryz.func87, Tryz.ntmps87
  go_wp2_with (go_at_call 88; refine HM.out.mono ?_; rintro e w1 ⟨rfl, rfl⟩)
  go_region_held3 (fun W => W.cell? ⟨p, 0, none⟩ = some (.pointer (some ⟨H, 0, none⟩)) ∧ W.cell? ⟨q, 0, none⟩ = some (.int .i64 v) ∧ W.cell? ⟨H, 0, none⟩ = some (.pointer (some ⟨d.A, 0, none⟩)))
    (first | exact HK0.out | assumption | exact HK3.out _ h23)
    (first | (go_at_call 84; refine (HS.out _).mono ?_; rintro e w3 ⟨rfl, hT3, h23⟩))
  all_goals go_wp2
  all_goals go_ret
  all_goals exact ⟨rfl, HT.out _ (by assumption)⟩

theorem Wf.field_free {s : St} (h : Wf s) {a f : Nat} (ho : own s a = true) (hf : (f : Int) + 1 < sizI (cls s a)) : ∀ k, k < 4 → a + 1 + f ∉ s.hv k := fun k hk hm => by
  obtain ⟨c1, c2, c3, c4⟩ := h.free k hk _ hm
  have := h.in_ws c1
  have := h.apart (a := (a : Int)) (b := ((a + 1 + f : Nat) : Int)) ho c1 (i := 1 + f) (j := 0) (by omega) (by omega) (by omega) (by omega) (by omega)
  omega
set_option maxRecDepth 100000 in
set_option maxHeartbeats 1000000 in
theorem store_nil (a f v : Int) (w : World) : Calls Tryz.prog 32 #[.pointer none, .int .i64 a, .int .i64 f, .int .i64 v] w fun e w' => e = .returned (.int .i64 11) ∧ Below w.heap.size w w' := by
  go_enter Tryz.func32, Tryz.ntmps32
  go_wp2_with (first
    | go_enter Tryz.func61, Tryz.ntmps61
    | (go_at_call 14; refine (fields_nil _ _).mono ?_; rintro e w' ⟨rfl, rfl⟩))
  go_ret
  exact ⟨rfl, ((Below.refl _ _).alloc (Nat.le_refl _) _).alloc (by simp) _⟩
set_option maxRecDepth 100000 in
set_option maxHeartbeats 2000000 in
theorem storeF_any {H : Nat} {d : Ids} {s : St} {m : Nat} (a f v : Int) (w : World) (h : Is w H d s m) (ht : Tabs w) (hm : m < 900000) :
    Calls Tryz.prog 32 #[.pointer (some ⟨H, 0, none⟩), .int .i64 a, .int .i64 f, .int .i64 v] w fun e w' => e = .returned (.int .i64 (sE s a f v)) ∧ To w w' H d (if sE s a f v = 0 then stS s a.toNat f.toNat v.toNat else s) (m + 2) := by
  have hb0 : Below w.heap.size w ((w.alloc (.cells #[.pointer (some ⟨H, 0, none⟩)] 27)).alloc (.cells #[.int .i64 v] 3)) := two_new _ _ _ _
  have HB0 := Lib.hid hb0
  have HF := Lib.hid (fields_any a _ (h.later hb0) (ht.later hb0) (by omega))
  have HN := Lib.hid (show ∀ k, w.heap.size ≤ k → ¬ Mine H d k from fun k hk => not_mine h hk)
  have H2 := Lib.hid (fun (w1 : World) (d1 : Ids) hC hR => two_kept (w := w) (w1 := w1) (d1 := d1) (u := .pointer (some ⟨H, 0, none⟩)) (v := .int .i64 v) (r := 27) (t := 3) (m1 := m) h hC hR)
  rcases fE_cases s a with ⟨h1, h2, h3⟩ | ⟨h1, h3⟩
  · rw [h1, h3] at HF
    by_cases hf : 0 ≤ f ∧ f < (Hdr.obF (wdA s a.toNat) : Int)
    · have hE : lE s a f = 0 := by rw [lE, if_pos h1, h3, if_pos hf]
      obtain ⟨b1, b2, b3, b4, b5⟩ := h.wf.in_arena h2
      obtain ⟨n, rfl⟩ := Int.eq_ofNat_of_zero_le (show 0 ≤ a by omega)
      obtain ⟨g, rfl⟩ := Int.eq_ofNat_of_zero_le hf.1
      have hsm := h.sit.ar.small
      simp only [Int.toNat_natCast] at *
      have i1 : (0 : Int) ≤ (g : Int) := Int.natCast_nonneg _
      have i2 : (g : Int) < (Hdr.obF (wdA s n) : Int) := hf.2
      have i3 : (Hdr.obF (wdA s n) : Int) ≤ 15 := by have := Hdr.obF_le (wdA s n); omega
      have i4 : (n : Int) ≤ 1048576 := by omega
      have i5 : (0 : Int) ≤ (n : Int) := Int.natCast_nonneg _
      cases hv : mayV s v with
      | false =>
        have hs : sE s n g v = 4 := by rw [sE, if_pos hE, hv]; rfl
        rw [hs, if_neg (by omega)]
        have HL := Lib.hid (fun (W : World) (d1 : Ids) (hI : Is W H d1 s (m + 1)) (p q : Nat) (hp : W.cell? ⟨p, 0, none⟩ = some (.pointer (some ⟨H, 0, none⟩))) (hq : W.cell? ⟨q, 0, none⟩ = some (.int .i64 v)) => store1_bad ((n : Int) + 1 + (g : Int)) v p q _ hI hv hp hq)
        clear h ht h1 h2 h3 hE b1 b2 b3 b4 b5 hf hs
        generalize Hdr.obF (wdA s n) = y at *
        go_enter Tryz.func32, Tryz.ntmps32
        go_wp2_with (first
          | go_enter Tryz.func61, Tryz.ntmps61
          | (go_at_call 14; refine HF.out.mono ?_; rintro e w1 ⟨rfl, hT1⟩; have HT1 := Lib.hid hT1; obtain ⟨d1, hI1, hC1, hR1⟩ := hT1; have HI1 := Lib.hid hI1; have HC1 := Lib.hid hC1; have HR1 := Lib.hid hR1; clear hI1 hC1 hR1)
          | (go_at_call 87; have HK := Lib.hid (H2.out _ _ HC1.out HR1.out); refine (HL.out _ _ HI1.out _ _ HK.out.1 HK.out.2.1).mono ?_; rintro e w3 ⟨rfl, rfl⟩))
        go_ret
        exact ⟨rfl, (To.alloc HB0.out HT1.out).more (by omega)⟩
      | true =>
        obtain ⟨v0, v1⟩ := mayV_true.1 hv
        obtain ⟨u, rfl⟩ := Int.eq_ofNat_of_zero_le v0
        have hs : sE s n g u = 0 := by rw [sE, if_pos hE, hv]; rfl
        rw [hs, if_pos rfl]
        have e9 : n + 1 + g - 1 = n + g := by omega
        have hno := h.wf.field_free b4 (f := g) (by omega)
        have hwf := h.wf.store b4 (f := g) (v := u) (by omega)
        have HL := Lib.hid (fun (W : World) (d1 : Ids) (hI : Is W H d1 s (m + 1)) (p q : Nat) (hp : W.cell? ⟨p, 0, none⟩ = some (.pointer (some ⟨H, 0, none⟩))) (hq : W.cell? ⟨q, 0, none⟩ = some (.int .i64 u)) (n1 : ¬ Mine H d1 p) (n2 : ¬ Mine H d1 q) => store1_any (n + 1 + g) u p q _ hI (by omega) (by omega) (by omega) hno (by omega) (by rw [e9]; exact hwf) hp hq n1 n2)
        rw [e9, show ((n + 1 + g : Nat) : Int) = (n : Int) + 1 + (g : Int) by omega] at HL
        rw [Int.toNat_natCast]
        unfold stS
        clear h ht h1 h2 h3 hE b1 b2 b3 b4 b5 hf hs hno hwf e9 hv
        generalize Hdr.obF (wdA s n) = y at *
        go_enter Tryz.func32, Tryz.ntmps32
        go_wp2_with (first
          | go_enter Tryz.func61, Tryz.ntmps61
          | (go_at_call 14; refine HF.out.mono ?_; rintro e w1 ⟨rfl, hT1⟩; have HT1 := Lib.hid hT1; obtain ⟨d1, hI1, hC1, hR1⟩ := hT1; have HI1 := Lib.hid hI1; have HC1 := Lib.hid hC1; have HR1 := Lib.hid hR1; clear hI1 hC1 hR1)
          | (go_at_call 87; have HK := Lib.hid (H2.out _ _ HC1.out HR1.out); refine (HL.out _ _ HI1.out _ _ HK.out.1 HK.out.2.1 HK.out.2.2.2.1 HK.out.2.2.2.2).mono ?_; rintro e w3 ⟨rfl, hT3⟩))
        go_ret
        exact ⟨rfl, To.alloc HB0.out (To.step HC1.out HR1.out hT3)⟩
    · have hE : lE s a f = 7 := by rw [lE, if_pos h1, h3, if_neg hf]
      have hs : sE s a f v = 7 := by rw [sE, if_neg (by omega), hE]
      rw [hs, if_neg (by omega)]
      generalize Hdr.obF (wdA s a.toNat) = y at *
      clear h ht h1 h2 h3 hE hs
      by_cases hf0 : f < 0
      · go_enter Tryz.func32, Tryz.ntmps32
        go_wp2_with (first
          | go_enter Tryz.func61, Tryz.ntmps61
          | (go_at_call 14; refine HF.out.mono ?_; rintro e w1 ⟨rfl, hT1⟩; have HT1 := Lib.hid hT1; clear hT1))
        go_ret
        exact ⟨rfl, (To.alloc HB0.out HT1.out).more (by omega)⟩
      · have hf1 : (y : Int) ≤ f := by omega
        go_enter Tryz.func32, Tryz.ntmps32
        go_wp2_with (first
          | go_enter Tryz.func61, Tryz.ntmps61
          | (go_at_call 14; refine HF.out.mono ?_; rintro e w1 ⟨rfl, hT1⟩; have HT1 := Lib.hid hT1; clear hT1))
        go_ret
        exact ⟨rfl, (To.alloc HB0.out HT1.out).more (by omega)⟩
  · have hE : lE s a f = fE s a := by rw [lE, if_neg (by omega)]
    have hs : sE s a f v = fE s a := by rw [sE, if_neg (by omega), hE]
    rw [hs, if_neg (by omega)]
    have hne : ((fE s a) != 0) = true := by simp; omega
    rw [h3] at HF
    clear h ht hE h1 h3 hs
    generalize fE s a = x at *
    go_enter Tryz.func32, Tryz.ntmps32
    go_wp2_with (first
      | go_enter Tryz.func61, Tryz.ntmps61
      | (go_at_call 14; refine HF.out.mono ?_; rintro e w1 ⟨rfl, hT1⟩; have HT1 := Lib.hid hT1; clear hT1))
    go_ret
    exact ⟨rfl, (To.alloc HB0.out HT1.out).more (by omega)⟩
end Go.Proofs.YtcoolapancdioaaGreatDoor.Hp
