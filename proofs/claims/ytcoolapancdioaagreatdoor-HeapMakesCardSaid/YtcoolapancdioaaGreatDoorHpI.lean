/-
  Begin, Bear, Free of a heap.
-/
import Derived.Test.YtcoolapancdioaaGreatDoorHpH
namespace Go.Proofs.YtcoolapancdioaaGreatDoor.Hp
open Go.RowKit
open Class (isB isB_true isB_false is_any sizI sizI_bd roomI SizTab quiet_left below_drewN)
open Blk (Cfg TbIs ownB ownB_true blk kAt rowB)
open Go.Proofs.YtcoolapancdioaaGreatDoor.Row (Chg Rd)
open Arena (ArIs Two)
open Bits (SetIs)
open Lis (Sit Five Held upd upd_same upd_other set_kept lastN)
open Go.Proofs.YtcoolapancdioaaGreatDoor.Addr (Tabs adrB adrB_true)

theorem handB_parts {s : St} {a : Int} (h : handB s a = true) : own s a = true ∧ bnI s a = false ∧ frI s a = false := by
  unfold handB at h
  simp only [Bool.and_eq_true, Bool.not_eq_true'] at h
  exact ⟨h.1, h.2.1, h.2.2⟩
/-- Three boxes. -/
theorem three_new {w : World} (u v x : Value) (r s t : TypeId) : Below w.heap.size w (((w.alloc (.cells #[u] r)).alloc (.cells #[v] s)).alloc (.cells #[x] t)) := (((Below.refl _ _).alloc (Nat.le_refl _) _).alloc (by simp) _).alloc (by simp; omega) _
theorem three_kept {w w1 : World} {S : Nat → Prop} {u v x : Value} {r s t : TypeId} (hn : ∀ k, w.heap.size ≤ k → ¬ S k) (hC : Chg S (((w.alloc (.cells #[u] r)).alloc (.cells #[v] s)).alloc (.cells #[x] t)) w1) :
    w1.cell? ⟨w.heap.size, 0, none⟩ = some u ∧ w1.cell? ⟨w.heap.size + 1, 0, none⟩ = some v ∧ w1.cell? ⟨w.heap.size + 1 + 1, 0, none⟩ = some x := by
  have e1 : (((w.alloc (.cells #[u] r)).alloc (.cells #[v] s)).alloc (.cells #[x] t)).cell? ⟨w.heap.size, 0, none⟩ = some u := (World.cell?_alloc_lt _ _ _ (by simp; omega)).trans (by simp)
  have e2 : (((w.alloc (.cells #[u] r)).alloc (.cells #[v] s)).alloc (.cells #[x] t)).cell? ⟨w.heap.size + 1, 0, none⟩ = some v := (World.cell?_alloc_lt _ _ _ (by simp)).trans (by simp)
  have e3 : (((w.alloc (.cells #[u] r)).alloc (.cells #[v] s)).alloc (.cells #[x] t)).cell? ⟨w.heap.size + 1 + 1, 0, none⟩ = some x := by
    have e : w.heap.size + 1 + 1 = ((w.alloc (.cells #[u] r)).alloc (.cells #[v] s)).heap.size := by simp
    rw [e, World.cell?_alloc_new]
    rfl
  have hs : (((w.alloc (.cells #[u] r)).alloc (.cells #[v] s)).alloc (.cells #[x] t)).heap.size = w.heap.size + 3 := by simp
  generalize (((w.alloc (.cells #[u] r)).alloc (.cells #[v] s)).alloc (.cells #[x] t)) = W at *
  exact ⟨(hC.cell (p := ⟨w.heap.size, 0, none⟩) (by show w.heap.size < _; omega) (hn w.heap.size (Nat.le_refl _))).trans e1, (hC.cell (p := ⟨w.heap.size + 1, 0, none⟩) (by show w.heap.size + 1 < _; omega) (hn (w.heap.size + 1) (by omega))).trans e2, (hC.cell (p := ⟨w.heap.size + 1 + 1, 0, none⟩) (by show w.heap.size + 1 + 1 < _; omega) (hn (w.heap.size + 1 + 1) (by omega))).trans e3⟩

def beE (s : St) (a n : Int) : Int := if handB s a = true then (if Hdr.okB (cls s a : Nat) n = true then 0 else 8) else 1
def beS (s : St) (a n : Nat) : St := { s with ws := s.ws.set (a - 1) (Hdr.obI (cls s a : Nat) (n : Nat)) }
set_option maxRecDepth 100000 in
set_option maxHeartbeats 1000000 in
theorem begin_nil (a n : Int) (w : World) : Calls Tryz.prog 29 #[.pointer none, .int .i64 a, .int .i64 n] w fun e w' => e = .returned (.int .i64 11) ∧ Below w.heap.size w w' := by
  go_enter Tryz.func29, Tryz.ntmps29
  go_wp2_with (go_enter Tryz.func81, Tryz.ntmps81)
  go_ret
  exact ⟨rfl, three_new _ _ _ _ _ _⟩
set_option maxRecDepth 100000 in
set_option maxHeartbeats 1000000 in
theorem begin1_bad (k : Nat) (n : Int) (p o q : Nat) (w : World) (ht : SizTab w) (hok : Hdr.okB (k : Nat) n = false) (hp : w.cell? ⟨p, 0, none⟩ = some (.int .i64 n)) :
    Calls Tryz.prog 82 #[.int .i64 k, .pointer (some ⟨p, 0, none⟩), .pointer (some ⟨o, 0, none⟩), .pointer (some ⟨q, 0, none⟩)] w fun e w' => e = .returned (.int .i64 8) ∧ w = w' := by
  have HO := Lib.hid (Hdr.object_any k n w ht)
  rw [hok] at HO
  generalize Hdr.obI (k : Nat) n = x at *
  go_enter Tryz.func82, Tryz.ntmps82
  go_wp2_with (go_at_call 83; refine HO.out.mono ?_; rintro e w1 ⟨rfl, rfl⟩)
  go_ret
  exact ⟨rfl, rfl⟩
set_option maxRecDepth 100000 in
set_option maxHeartbeats 2000000 in
theorem begin1_any {H : Nat} {d : Ids} {s : St} {m : Nat} (a n : Nat) (p o q : Nat) (w : World) (h : Is w H d s m) (ht : Tabs w) (hm : m < 900000) (ho : handB s a = true) (hok : Hdr.okB (cls s a : Nat) (n : Nat) = true)
    (hp : w.cell? ⟨p, 0, none⟩ = some (.int .i64 n)) (hq : w.cell? ⟨o, 0, none⟩ = some (.pointer (some ⟨H, 0, none⟩))) (hr : w.cell? ⟨q, 0, none⟩ = some (.int .i64 a)) (hpo : ¬ Mine H d o) (hqo : ¬ Mine H d q) :
    Calls Tryz.prog 82 #[.int .i64 (cls s a), .pointer (some ⟨p, 0, none⟩), .pointer (some ⟨o, 0, none⟩), .pointer (some ⟨q, 0, none⟩)] w fun e w' => e = .returned (.int .i64 0) ∧ To w w' H d (beS s a n) (m + 1) := by
  obtain ⟨o1, o2, o3⟩ := handB_parts ho
  rw [bnI_nat] at o2
  rw [frI_nat] at o3
  have hbd := h.wf.own_bd o1
  have hcA := h.cA
  have hsm := h.sit.ar.small
  have HO := Lib.hid (Hdr.object_any (cls s a : Nat) (n : Nat) w ht.siz)
  rw [hok] at HO
  have hwf := h.wf.begin o1 o2 o3 hok
  have hxl := Hdr.obI_lt (cls s a : Nat) (n : Nat)
  have HS := Lib.hid (fun j => arena_store a (Hdr.obI (cls s a : Nat) (n : Nat)) _ (h.drewN j) (by omega) (by omega) (by omega) (fr_false.1 o3) hxl hwf)
  have hpl : o < w.heap.size := World.block_lt_of_cell? w _ hq
  have hql : q < w.heap.size := World.block_lt_of_cell? w _ hr
  have hHl := h.ltH
  have hnA : H ≠ d.A := fun e => h.ap H (.inr (.inl e)) (.inl rfl)
  have hnG : H ≠ d.G := fun e => h.ap H (.inr (.inr (.inl e))) (.inl rfl)
  have HK0 := Lib.hid (show w.drew.cell? ⟨o, 0, none⟩ = some (.pointer (some ⟨H, 0, none⟩)) ∧ w.drew.cell? ⟨q, 0, none⟩ = some (.int .i64 a) ∧ w.drew.cell? ⟨H, 0, none⟩ = some (.pointer (some ⟨d.A, 0, none⟩)) from ⟨hq, hr, hcA⟩)
  have HK3 := Lib.hid (fun (W : World) (h2 : Two d.A d.G (w.drewN 1) W) => (⟨(h2.cell (p := ⟨o, 0, none⟩) hpl (fun e => hpo (.inl (.inr (.inl e)))) (fun e => hpo (.inl (.inr (.inr (.inl e)))))).trans hq, (h2.cell (p := ⟨q, 0, none⟩) hql (fun e => hqo (.inl (.inr (.inl e)))) (fun e => hqo (.inl (.inr (.inr (.inl e)))))).trans hr, (h2.cell (p := ⟨H, 0, none⟩) hHl hnA hnG).trans hcA⟩ : W.cell? ⟨o, 0, none⟩ = some (.pointer (some ⟨H, 0, none⟩)) ∧ W.cell? ⟨q, 0, none⟩ = some (.int .i64 a) ∧ W.cell? ⟨H, 0, none⟩ = some (.pointer (some ⟨d.A, 0, none⟩))))
  unfold beS
  have HT := Lib.hid (fun (w2 : World) (h2 : To (w.drewN 1) w2 H d { s with ws := s.ws.set (a - 1) (Hdr.obI (cls s a : Nat) (n : Nat)) } (m + 1)) => (h2.alloc (w := w) (below_drewN (Below.refl _ _) 1)))
  clear h hwf hpo hqo ho o1 o2 o3 hok ht
  generalize Hdr.obI (cls s a : Nat) (n : Nat) = x at *
  generalize cls s a = k at *
  go_enter Tryz.func82, Tryz.ntmps82
  go_wp2_with (go_at_call 83; refine HO.out.mono ?_; rintro e w1 ⟨rfl, rfl⟩)
  go_region_held3 (fun W => W.cell? ⟨o, 0, none⟩ = some (.pointer (some ⟨H, 0, none⟩)) ∧ W.cell? ⟨q, 0, none⟩ = some (.int .i64 a) ∧ W.cell? ⟨H, 0, none⟩ = some (.pointer (some ⟨d.A, 0, none⟩)))
    (first | exact HK0.out | assumption | exact HK3.out _ h23)
    (first | (go_at_call 84; refine (HS.out _).mono ?_; rintro e w3 ⟨rfl, hT3, h23⟩))
  all_goals go_wp2
  all_goals go_ret
  all_goals exact ⟨rfl, HT.out _ (by assumption)⟩
set_option maxRecDepth 100000 in
set_option maxHeartbeats 2000000 in
theorem begin_any {H : Nat} {d : Ids} {s : St} {m : Nat} (a n : Int) (w : World) (h : Is w H d s m) (ht : Tabs w) (hm : m < 900000) :
    Calls Tryz.prog 29 #[.pointer (some ⟨H, 0, none⟩), .int .i64 a, .int .i64 n] w fun e w' => e = .returned (.int .i64 (beE s a n)) ∧ To w w' H d (if beE s a n = 0 then beS s a.toNat n.toNat else s) (m + 1) := by
  have hb0 : Below w.heap.size w (((w.alloc (.cells #[.pointer (some ⟨H, 0, none⟩)] 27)).alloc (.cells #[.int .i64 a] 3)).alloc (.cells #[.int .i64 n] 3)) := three_new _ _ _ _ _ _
  have HB0 := Lib.hid hb0
  have HH := Lib.hid h
  have HI := Lib.hid (h.later hb0)
  have HN := Lib.hid (show ∀ k, w.heap.size ≤ k → ¬ Mine H d k from fun k hk => not_mine h hk)
  have HD := Lib.hid (hand_any a _ (h.later hb0) (ht.later hb0))
  have HTB := Lib.hid (ht.later hb0)
  have H3 := Lib.hid (fun (w1 : World) (hC : Below (((w.alloc (.cells #[.pointer (some ⟨H, 0, none⟩)] 27)).alloc (.cells #[.int .i64 a] 3)).alloc (.cells #[.int .i64 n] 3)).heap.size (((w.alloc (.cells #[.pointer (some ⟨H, 0, none⟩)] 27)).alloc (.cells #[.int .i64 a] 3)).alloc (.cells #[.int .i64 n] 3)) w1) => three_kept (S := Mine H d) HN.out (Chg.of_below hC))
  unfold beE
  cases ho : handB s a with
  | false =>
    rw [ho] at HD
    rw [if_neg (by simp), if_neg (by omega)]
    clear h ht hb0
    go_enter Tryz.func29, Tryz.ntmps29
    go_wp2_with (first
      | go_enter Tryz.func81, Tryz.ntmps81
      | (go_at_call 105; refine HD.out.mono ?_; rintro e w1 ⟨rfl, hb1⟩))
    go_ret
    exact ⟨rfl, To.of_below (HH.out.more (Nat.le_succ _)) (HB0.out.trans (hb1.mono HB0.out.size))⟩
  | true =>
    rw [ho] at HD
    rw [if_pos rfl] at HD
    rw [if_pos rfl]
    have hbd := h.wf.own_bd (handB_parts ho).1
    obtain ⟨b, rfl⟩ := Int.eq_ofNat_of_zero_le (show 0 ≤ a by omega)
    cases hok : Hdr.okB (cls s b : Nat) n with
    | false =>
      rw [if_neg (by simp), if_neg (by omega)]
      have HC := Lib.hid (fun (w1 : World) (p o q : Nat) ht hp => begin1_bad (cls s b) n p o q w1 ht hok hp)
      clear h ht hb0
      generalize cls s b = k at *
      go_enter Tryz.func29, Tryz.ntmps29
      go_wp2_with (first
        | go_enter Tryz.func81, Tryz.ntmps81
        | (go_at_call 105; refine HD.out.mono ?_; rintro e w1 ⟨rfl, hb1⟩)
        | (go_at_call 82; refine (HC.out _ _ _ _ (HTB.out.later hb1).siz (H3.out _ hb1).2.2).mono ?_; rintro e w2 ⟨rfl, rfl⟩))
      go_ret
      exact ⟨rfl, To.of_below (HH.out.more (Nat.le_succ _)) (HB0.out.trans (hb1.mono HB0.out.size))⟩
    | true =>
      rw [if_pos rfl, if_pos rfl]
      have hn0 := (Hdr.okB_true.1 hok).2.1
      obtain ⟨f, rfl⟩ := Int.eq_ofNat_of_zero_le hn0
      rw [Int.toNat_natCast, Int.toNat_natCast]
      have HC := Lib.hid (fun (w1 : World) (p o q : Nat) hI ht hp hq hr n1 n2 => begin1_any (H := H) (d := d) (m := m) b f p o q w1 hI ht hm ho hok hp hq hr n1 n2)
      clear h ht hb0
      generalize cls s b = k at *
      go_enter Tryz.func29, Tryz.ntmps29
      go_wp2_with (first
        | go_enter Tryz.func81, Tryz.ntmps81
        | (go_at_call 105; refine HD.out.mono ?_; rintro e w1 ⟨rfl, hb1⟩)
        | (go_at_call 82; refine (HC.out _ _ _ _ (HI.out.later hb1) (HTB.out.later hb1) (H3.out _ hb1).2.2 (H3.out _ hb1).1 (H3.out _ hb1).2.1 (HN.out _ (by simp)) (HN.out _ (by simp))).mono ?_; rintro e w2 ⟨rfl, hT2⟩))
      go_ret
      exact ⟨rfl, To.alloc (HB0.out.trans (hb1.mono HB0.out.size)) hT2⟩
end Go.Proofs.YtcoolapancdioaaGreatDoor.Hp
