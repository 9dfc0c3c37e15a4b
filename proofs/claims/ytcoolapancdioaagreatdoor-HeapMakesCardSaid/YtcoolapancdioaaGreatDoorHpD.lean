/-
  Fields, Load, Cell, Color of a heap.
-/
import Derived.Test.YtcoolapancdioaaGreatDoorHpG
namespace Go.Proofs.YtcoolapancdioaaGreatDoor.Hp
open Go.RowKit
open Class (isB isB_true isB_false is_any sizI sizI_bd roomI SizTab quiet_left below_drewN)
open Blk (Cfg TbIs ownB ownB_true blk kAt rowB adr perN seg)
open Go.Proofs.YtcoolapancdioaaGreatDoor.Row (Chg Rd)
open Arena (ArIs Two)
open Bits (SetIs)
open Lis (Sit Five Held upd upd_same upd_other set_kept lastN)
open Go.Proofs.YtcoolapancdioaaGreatDoor.Addr (Tabs adrB adrB_true)

/-- What Fields tells: an error; how many. -/
def takB (s : St) (a : Int) : Bool := (bnI s a || handB s a) && Hdr.isOb (wdA s a.toNat)
def fE (s : St) (a : Int) : Int := if a = 0 then 6 else if takB s a = true then 0 else 1
def fN (s : St) (a : Int) : Nat := if a = 0 then 0 else if takB s a = true then Hdr.obF (wdA s a.toNat) else 0
theorem Wf.bnI_own {s : St} (h : Wf s) {a : Int} (hb : bnI s a = true) : own s a = true := by
  unfold bnI at hb
  rw [Bool.and_eq_true, decide_eq_true_eq] at hb
  have := (h.born a.toNat hb.2).1
  rwa [Int.toNat_of_nonneg hb.1] at this
theorem Wf.taken_own {s : St} (h : Wf s) {a : Int} (hb : (bnI s a || handB s a) = true) : own s a = true := by
  rcases Bool.or_eq_true _ _ ▸ hb with e | e
  · exact h.bnI_own e
  · unfold handB at e; rw [Bool.and_eq_true] at e; exact e.1
theorem fE_ok {s : St} {a : Int} (h : fE s a = 0) : a ≠ 0 ∧ takB s a = true := by
  unfold fE at h
  split at h
  · omega
  · split at h
    · rename_i h1 h2; exact ⟨h1, h2⟩
    · omega

set_option maxHeartbeats 400000 in
theorem fields_nil (a : Int) (w : World) : Calls Tryz.prog 14 #[.pointer none, .int .i64 a] w fun e w' => e = .returned (.tuple #[.int .i64 0, .int .i64 11]) ∧ w = w' := by
  go_enter Tryz.func14, Tryz.ntmps14
  go_wp2
  go_ret2
  exact ⟨rfl, rfl⟩
set_option maxHeartbeats 1000000 in
theorem fields_any {H : Nat} {d : Ids} {s : St} {m : Nat} (a : Int) (w : World) (h : Is w H d s m) (ht : Tabs w) (hm : m < 1000000) :
    Calls Tryz.prog 14 #[.pointer (some ⟨H, 0, none⟩), .int .i64 a] w fun e w' => e = .returned (.tuple #[.int .i64 (fN s a), .int .i64 (fE s a)]) ∧ To w w' H d s (m + 1) := by
  have HH := Lib.hid h
  have HT := Lib.hid ht
  by_cases h0 : a = 0
  · rw [fN, fE, if_pos h0, if_pos h0]
    subst h0
    clear h ht
    go_enter Tryz.func14, Tryz.ntmps14
    go_wp2
    go_ret2
    exact ⟨rfl, To.of_below (HH.out.more (Nat.le_succ _)) (Below.refl _ _)⟩
  · have h0b : (a == 0) = false := by simpa using h0
    have HK := Lib.hid (taken_any a w h ht)
    rw [fN, fE, if_neg h0, if_neg h0]
    cases hk : (bnI s a || handB s a) with
    | false =>
      have e : takB s a = false := by simp only [takB, hk, Bool.false_and]
      rw [if_neg (by simp [e]), if_neg (by simp [e])]
      rw [hk] at HK
      clear h ht e
      go_enter Tryz.func14, Tryz.ntmps14
      go_wp2_with (go_at_call 58; refine HK.out.mono ?_; rintro e w' ⟨rfl, hb1⟩)
      go_ret2
      exact ⟨rfl, To.of_below (HH.out.more (Nat.le_succ _)) hb1⟩
    | true =>
      have ho := h.wf.own_bd (h.wf.taken_own hk)
      obtain ⟨n, rfl⟩ := Int.eq_ofNat_of_zero_le (show 0 ≤ a by omega)
      have HB := Lib.hid (fun W : World => fun hb : Below w.heap.size w W => begun_any n W (h.later hb) (ht.later hb) hm (by omega) (by omega))
      have e : takB s n = Hdr.isOb (wdA s n) := by simp only [takB, hk, Bool.true_and, Int.toNat_natCast]
      have hto : ∀ (w1 w2 : World), Below w.heap.size w w1 → To w1 w2 H d s (m + 1) → To w w2 H d s (m + 1) := fun w1 w2 hb h2 => To.trans (Chg.of_below hb) (fun _ e => .inl e) h2
      have HTO := Lib.hid hto
      rw [e, Int.toNat_natCast]
      rw [hk] at HK
      clear h ht e hto ho
      generalize wdA s n = x at *
      cases hx : Hdr.isOb x with
      | false =>
        rw [hx] at HB
        go_enter Tryz.func14, Tryz.ntmps14
        go_wp2_with (first
          | (go_at_call 58; refine HK.out.mono ?_; rintro e w1 ⟨rfl, hb1⟩)
          | (go_at_call 59; refine (HB.out _ hb1).mono ?_; rintro e w2 ⟨rfl, h2⟩))
        go_ret2
        exact ⟨rfl, HTO.out _ _ hb1 h2⟩
      | true =>
        rw [hx] at HB
        go_enter Tryz.func14, Tryz.ntmps14
        go_wp2_with (first
          | (go_at_call 58; refine HK.out.mono ?_; rintro e w1 ⟨rfl, hb1⟩)
          | (go_at_call 59; refine (HB.out _ hb1).mono ?_; rintro e w2 ⟨rfl, h2⟩))
        go_ret2
        exact ⟨rfl, HTO.out _ _ hb1 h2⟩

/-- What Load tells. -/
def lE (s : St) (a f : Int) : Int := if fE s a = 0 then (if 0 ≤ f ∧ f < (fN s a : Int) then 0 else 7) else fE s a
def fl (s : St) (a f : Nat) : Nat := Arena.wd s.ws (a + f)
def lV (s : St) (a f : Int) : Int := if lE s a f = 0 then wrap64 (fl s a.toNat f.toNat : Nat) else 0
/-- What a slot that is begun has room for lies in the arena. -/
theorem Wf.in_arena {s : St} (h : Wf s) {a : Int} (hk : takB s a = true) : 1 ≤ a ∧ a + Hdr.obF (wdA s a.toNat) ≤ s.ws.length ∧ (Hdr.obF (wdA s a.toNat) : Int) + 1 ≤ sizI (cls s a) ∧ own s a = true ∧ Hdr.isOb (wdA s a.toNat) = true := by
  unfold takB at hk
  rw [Bool.and_eq_true] at hk
  have ho := h.taken_own hk.1
  have hb := h.own_bd ho
  obtain ⟨n, rfl⟩ := Int.eq_ofNat_of_zero_le (show 0 ≤ a by omega)
  rw [Int.toNat_natCast] at hk ⊢
  have hr2 := (Hdr.isOb_room hk.2).1
  rw [h.room n ho hk.2, Class.roomI_yes (h.geo ho).cl] at hr2
  have hi := h.in_ws ho
  exact ⟨by omega, by omega, by omega, ho, hk.2⟩

theorem lo_mine {H : Nat} {d : Ids} {k : Nat} (h : ¬ Mine H d k) : ¬ lo d k := fun e => h (.inl e)
set_option maxHeartbeats 1000000 in
theorem load1_any {H : Nat} {d : Ids} {s : St} {m : Nat} (i : Nat) (p q : Nat) (u : Value) (w : World) (h : Is w H d s m) (hm : m < 1000000) (h1 : 1 ≤ i) (h2 : i ≤ s.ws.length) (hp : w.cell? ⟨p, 0, none⟩ = some (.pointer (some ⟨H, 0, none⟩))) (hq : w.cell? ⟨q, 0, none⟩ = some u) (hqf : w.frozen? ⟨q, 0, none⟩ = false)
    (hpo : ¬ Mine H d p) (hqo : ¬ Mine H d q) :
    Calls Tryz.prog 62 #[.int .i64 i, .pointer (some ⟨p, 0, none⟩), .pointer (some ⟨q, 0, none⟩)] w fun e w' => e = .returned (.int .i64 0) ∧
      ∃ w1, To w w1 H d s (m + 1) ∧ w1.cell? ⟨q, 0, none⟩ = some u ∧ w1.frozen? ⟨q, 0, none⟩ = false ∧ w' = w1.setCell ⟨q, 0, none⟩ (.int .i64 (wrap64 (Arena.wd s.ws (i - 1) : Nat))) := by
  have hcA := h.cA
  have hz : Arena.codeN s.ws.length (i : Int) = 0 := by unfold Arena.codeN; rw [if_neg (by omega), if_neg (by omega)]
  have e1 : Arena.getR s.ws (i : Int) = Arena.wd s.ws (i - 1) := by rw [Arena.getR, if_pos hz, Int.toNat_natCast]
  have e2 : Arena.oneN s.ws.length (i : Int) = 1 := if_pos hz
  have hld := h.cnt.1
  have hl := Arena.load_any w h.sit.ar h.sit.ltG (by omega) (i : Int)
  rw [e1, e2, hz] at hl
  have HL := Lib.hid hl
  have HX : Hid (∀ w1 : World, ArIs w1 d.A d.G d.cap s.ws (d.ld + 1) d.st → Two d.A d.G w w1 → To w w1 H d s (m + 1) ∧ w1.cell? ⟨q, 0, none⟩ = some u ∧ w1.frozen? ⟨q, 0, none⟩ = false) := Lib.hid fun w1 ha h2 => by
    have hql := World.block_lt_of_cell? w _ hq
    exact ⟨h.loaded ha h2, (h2.cell (p := ⟨q, 0, none⟩) hql (fun e => hqo (.inl (.inr (.inl e)))) (fun e => hqo (.inl (.inr (.inr (.inl e)))))).trans hq, (h2.frozen (p := ⟨q, 0, none⟩) hql (fun e => hqo (.inl (.inr (.inl e)))) (fun e => hqo (.inl (.inr (.inr (.inl e)))))).trans hqf⟩
  clear h hl e1 e2 hz hpo hqo
  generalize Arena.wd s.ws (i - 1) = x at *
  go_enter Tryz.func62, Tryz.ntmps62
  go_wp2_with (go_at_call 63; refine HL.out.mono ?_; rintro e w1 ⟨rfl, ha, h2⟩; have HX1 := Lib.hid (HX.out _ ha h2); have hq1 := HX1.out.2.1; have hqf1 := HX1.out.2.2; clear hq hqf)
  all_goals go_ret
  all_goals exact ⟨rfl, w1, HX1.out.1, HX1.out.2.1, HX1.out.2.2, rfl⟩

set_option maxRecDepth 100000 in
set_option maxHeartbeats 1000000 in
theorem load_nil (a f : Int) (w : World) : Calls Tryz.prog 16 #[.pointer none, .int .i64 a, .int .i64 f] w fun e w' => e = .returned (.tuple #[.int .i64 0, .int .i64 11]) ∧ Below w.heap.size w w' := by
  go_enter Tryz.func16, Tryz.ntmps16
  go_wp2_with (first
    | go_enter Tryz.func61, Tryz.ntmps61
    | (go_at_call 14; refine (fields_nil _ _).mono ?_; rintro e w' ⟨rfl, rfl⟩))
  go_ret2
  exact ⟨rfl, ((Below.refl _ _).alloc (Nat.le_refl _) _).alloc (by simp) _⟩

theorem fE_cases (s : St) (a : Int) : (fE s a = 0 ∧ takB s a = true ∧ fN s a = Hdr.obF (wdA s a.toNat)) ∨ ((fE s a = 1 ∨ fE s a = 6) ∧ fN s a = 0) := by
  unfold fE fN
  by_cases h0 : a = 0
  · rw [if_pos h0, if_pos h0]; exact .inr ⟨.inr rfl, rfl⟩
  · rw [if_neg h0, if_neg h0]
    cases hk : takB s a with
    | true => rw [if_pos rfl, if_pos rfl]; exact .inl ⟨rfl, rfl, rfl⟩
    | false => rw [if_neg (by simp), if_neg (by simp)]; exact .inr ⟨.inl rfl, rfl⟩
theorem To.alloc {w w1 : World} {H : Nat} {d : Ids} {s : St} {m : Nat} (hb : Below w.heap.size w w1) {w2 : World} (h : To w1 w2 H d s m) : To w w2 H d s m := To.trans (Chg.of_below hb) (fun _ e => .inl e) h
/-- A cell of somebody else's, laid. -/
theorem To.other {w w1 : World} {H : Nat} {d : Ids} {s : St} {m : Nat} {p : Addr} (hp : w.heap.size ≤ p.block) {w0 : World} (h0 : To w0 w1 H d s m) (hp0 : p.block < w0.heap.size) (hn : ¬ Mine H d p.block) (hq : Below w.heap.size w w0) (v : Value) : To w (w1.setCell p v) H d s m := by
  obtain ⟨d', h1, h2, h3⟩ := h0
  have hno : ¬ Mine H d' p.block := fun e => (h3 _ e).elim hn (fun e => by omega)
  refine ⟨d', h1.kept (fun k hk => Lis.heap_set (fun e => hno (e ▸ hk))) (by rw [Row.size_setCell]; exact Nat.le_refl _), ?_, fun j hj => (h3 j hj).imp id (fun e => Nat.le_trans hq.size e)⟩
  exact ((Chg.of_below hq).trans h2 (fun _ e => .inl e)).set (.inr hp) v
theorem To.more {w w1 : World} {H : Nat} {d : Ids} {s : St} {m m' : Nat} (h : To w w1 H d s m) (hm : m ≤ m') : To w w1 H d s m' := by
  obtain ⟨d', h1, h2⟩ := h
  exact ⟨d', h1.more hm, h2⟩
theorem not_mine {w : World} {H : Nat} {d : Ids} {s : St} {m : Nat} (h : Is w H d s m) {k : Nat} (hk : w.heap.size ≤ k) : ¬ Mine H d k := fun e => by have := h.lt e; omega
theorem two_new {w : World} (u v : Value) (s t : TypeId) : Below w.heap.size w ((w.alloc (.cells #[u] s)).alloc (.cells #[v] t)) := ((Below.refl _ _).alloc (Nat.le_refl _) _).alloc (by simp) _
theorem To.cell {w w1 : World} {H : Nat} {d : Ids} {s : St} {m : Nat} (h : To w w1 H d s m) {p : Addr} {v : Value} (hc : w.cell? p = some v) (hn : ¬ Mine H d p.block) : w1.cell? p = some v := by
  obtain ⟨d', h1, h2, h3⟩ := h
  exact (h2.cell (World.block_lt_of_cell? w _ hc) hn).trans hc
theorem To.fz {w w1 : World} {H : Nat} {d : Ids} {s : St} {m : Nat} (h : To w w1 H d s m) {p : Addr} {v : Value} (hc : w.cell? p = some v) (hn : ¬ Mine H d p.block) {b : Bool} (hf : w.frozen? p = b) : w1.frozen? p = b := by
  obtain ⟨d', h1, h2, h3⟩ := h
  exact (h2.frozen (World.block_lt_of_cell? w _ hc) hn).trans hf
theorem To.not_mine {w : World} {H : Nat} {d d1 : Ids} (h3 : ∀ j, Mine H d1 j → Mine H d j ∨ w.heap.size ≤ j) {k : Nat} (h1 : ¬ Mine H d k) (h2 : k < w.heap.size) : ¬ Mine H d1 k := fun e => (h3 k e).elim h1 (fun e => by omega)

theorem two_kept {w w1 : World} {H : Nat} {d d1 : Ids} {s : St} {m m1 : Nat} {u v : Value} {r t : TypeId} (h : Is w H d s m) (hC : Chg (Mine H d) ((w.alloc (.cells #[u] r)).alloc (.cells #[v] t)) w1) (hR : ∀ j, Mine H d1 j → Mine H d j ∨ ((w.alloc (.cells #[u] r)).alloc (.cells #[v] t)).heap.size ≤ j) :
    w1.cell? ⟨w.heap.size, 0, none⟩ = some u ∧ w1.cell? ⟨w.heap.size + 1, 0, none⟩ = some v ∧ w1.frozen? ⟨w.heap.size + 1, 0, none⟩ = false ∧ ¬ Mine H d1 w.heap.size ∧ ¬ Mine H d1 (w.heap.size + 1) := by
  have n1 := not_mine h (Nat.le_refl _)
  have n2 := not_mine h (Nat.le_succ w.heap.size)
  refine ⟨(hC.cell (p := ⟨w.heap.size, 0, none⟩) (by simp; omega) n1).trans (by simp), (hC.cell (p := ⟨w.heap.size + 1, 0, none⟩) (by simp) n2).trans (by simp), (hC.frozen (p := ⟨w.heap.size + 1, 0, none⟩) (by simp) n2).trans (by simp), fun e => (hR _ e).elim n1 (fun e => by simp at e; omega), fun e => (hR _ e).elim n2 (fun e => by simp at e; omega)⟩
theorem To.step {w0 w1 w2 : World} {H : Nat} {d d1 : Ids} {s1 : St} {m : Nat} (hC : Chg (Mine H d) w0 w1) (hR : ∀ j, Mine H d1 j → Mine H d j ∨ w0.heap.size ≤ j) (h2 : To w1 w2 H d1 s1 m) : To w0 w2 H d s1 m := To.trans hC hR h2
set_option maxRecDepth 100000 in
set_option maxHeartbeats 2000000 in
theorem load_any {H : Nat} {d : Ids} {s : St} {m : Nat} (a f : Int) (w : World) (h : Is w H d s m) (ht : Tabs w) (hm : m < 900000) :
    Calls Tryz.prog 16 #[.pointer (some ⟨H, 0, none⟩), .int .i64 a, .int .i64 f] w fun e w' => e = .returned (.tuple #[.int .i64 (lV s a f), .int .i64 (lE s a f)]) ∧ To w w' H d s (m + 2) := by
  have hb0 : Below w.heap.size w ((w.alloc (.cells #[.pointer (some ⟨H, 0, none⟩)] 27)).alloc (.cells #[.int .i64 0] 3)) := two_new _ _ _ _
  have HB0 := Lib.hid hb0
  have HF := Lib.hid (fields_any a _ (h.later hb0) (ht.later hb0) (by omega))
  have HN := Lib.hid (show ∀ k, w.heap.size ≤ k → ¬ Mine H d k from fun k hk => not_mine h hk)
  rcases fE_cases s a with ⟨h1, h2, h3⟩ | ⟨h1, h3⟩
  · rw [h1, h3] at HF
    by_cases hf : 0 ≤ f ∧ f < (Hdr.obF (wdA s a.toNat) : Int)
    · have hE : lE s a f = 0 := by rw [lE, if_pos h1, h3, if_pos hf]
      rw [lV, hE, if_pos rfl]
      obtain ⟨b1, b2, b3, b4, b5⟩ := h.wf.in_arena h2
      obtain ⟨n, rfl⟩ := Int.eq_ofNat_of_zero_le (show 0 ≤ a by omega)
      obtain ⟨g, rfl⟩ := Int.eq_ofNat_of_zero_le hf.1
      have hsm := h.sit.ar.small
      rw [Int.toNat_natCast] at *
      rw [Int.toNat_natCast]
      have HL := Lib.hid (fun (W : World) (d1 : Ids) (hI : Is W H d1 s (m + 1)) (p q : Nat) (hp : W.cell? ⟨p, 0, none⟩ = some (.pointer (some ⟨H, 0, none⟩))) (hq : W.cell? ⟨q, 0, none⟩ = some (.int .i64 0)) (hqf : W.frozen? ⟨q, 0, none⟩ = false) (n1 : ¬ Mine H d1 p) (n2 : ¬ Mine H d1 q) => load1_any (n + 1 + g) p q _ W hI (by omega) (by omega) (by omega) hp hq hqf n1 n2)
      have H2 := Lib.hid (fun (w1 : World) (d1 : Ids) hC hR => two_kept (w := w) (w1 := w1) (d1 := d1) (u := .pointer (some ⟨H, 0, none⟩)) (v := .int .i64 0) (r := 27) (t := 3) (m1 := m) h hC hR)
      rw [show ((n + 1 + g : Nat) : Int) = (n : Int) + 1 + (g : Int) by omega] at HL
      have i1 : (0 : Int) ≤ (g : Int) := Int.natCast_nonneg _
      have i2 : (g : Int) < (Hdr.obF (wdA s n) : Int) := hf.2
      have i3 : (Hdr.obF (wdA s n) : Int) ≤ 15 := by have := Hdr.obF_le (wdA s n); omega
      have i4 : (n : Int) ≤ 1048576 := by omega
      have i5 : (0 : Int) ≤ (n : Int) := Int.natCast_nonneg _
      have e9 : n + 1 + g - 1 = n + g := by omega
      rw [e9] at HL
      unfold fl
      clear h ht h1 h2 h3 hE b1 b2 b3 b4 b5 hf e9
      generalize Arena.wd s.ws (n + g) = x at *
      generalize Hdr.obF (wdA s n) = y at *
      go_enter Tryz.func16, Tryz.ntmps16
      go_wp2_with (first
        | go_enter Tryz.func61, Tryz.ntmps61
        | (go_at_call 14; refine HF.out.mono ?_; rintro e w1 ⟨rfl, hT1⟩; have HT1 := Lib.hid hT1; obtain ⟨d1, hI1, hC1, hR1⟩ := hT1; have HI1 := Lib.hid hI1; have HC1 := Lib.hid hC1; have HR1 := Lib.hid hR1; clear hI1 hC1 hR1)
        | (go_at_call 62; have HK := Lib.hid (H2.out _ _ HC1.out HR1.out); refine (HL.out _ _ HI1.out _ _ HK.out.1 HK.out.2.1 HK.out.2.2.1 HK.out.2.2.2.1 HK.out.2.2.2.2).mono ?_; rintro e w3 ⟨rfl, w2, hT2, hq2, hf2, rfl⟩; have HT2 := Lib.hid hT2; clear hT2))
      go_ret2
      exact ⟨rfl, To.other (p := ⟨w.heap.size + 1, 0, none⟩) (by simp) (To.step HC1.out HR1.out HT2.out) (by simp) (HN.out _ (by simp)) HB0.out _⟩
    · have hE : lE s a f = 7 := by rw [lE, if_pos h1, h3, if_neg hf]
      rw [lV, hE, if_neg (by omega)]
      generalize Hdr.obF (wdA s a.toNat) = y at *
      clear h ht h1 h2 h3 hE
      by_cases hf0 : f < 0
      · go_enter Tryz.func16, Tryz.ntmps16
        go_wp2_with (first
          | go_enter Tryz.func61, Tryz.ntmps61
          | (go_at_call 14; refine HF.out.mono ?_; rintro e w1 ⟨rfl, hT1⟩; have hk1 := hT1.cell (p := ⟨w.heap.size + 1, 0, none⟩) (v := .int .i64 0) (by simp) (HN.out _ (by simp)); have HT1 := Lib.hid hT1; clear hT1))
        go_ret2
        exact ⟨rfl, (To.alloc HB0.out HT1.out).more (by omega)⟩
      · have hf1 : (y : Int) ≤ f := by omega
        go_enter Tryz.func16, Tryz.ntmps16
        go_wp2_with (first
          | go_enter Tryz.func61, Tryz.ntmps61
          | (go_at_call 14; refine HF.out.mono ?_; rintro e w1 ⟨rfl, hT1⟩; have hk1 := hT1.cell (p := ⟨w.heap.size + 1, 0, none⟩) (v := .int .i64 0) (by simp) (HN.out _ (by simp)); have HT1 := Lib.hid hT1; clear hT1))
        go_ret2
        exact ⟨rfl, (To.alloc HB0.out HT1.out).more (by omega)⟩
  · have hE : lE s a f = fE s a := by rw [lE, if_neg (by omega)]
    rw [lV, hE, if_neg (by omega)]
    have hne : ((fE s a) != 0) = true := by simp; omega
    rw [h3] at HF
    clear h ht hE h1 h3
    generalize fE s a = x at *
    go_enter Tryz.func16, Tryz.ntmps16
    go_wp2_with (first
      | go_enter Tryz.func61, Tryz.ntmps61
      | (go_at_call 14; refine HF.out.mono ?_; rintro e w1 ⟨rfl, hT1⟩; have hk1 := hT1.cell (p := ⟨w.heap.size + 1, 0, none⟩) (v := .int .i64 0) (by simp) (HN.out _ (by simp)); have HT1 := Lib.hid hT1; clear hT1))
    go_ret2
    exact ⟨rfl, (To.alloc HB0.out HT1.out).more (by omega)⟩
end Go.Proofs.YtcoolapancdioaaGreatDoor.Hp
