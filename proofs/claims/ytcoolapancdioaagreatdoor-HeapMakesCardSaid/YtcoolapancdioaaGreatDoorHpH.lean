/-
  Take, Assign, Put of a heap.
-/
import Derived.Test.YtcoolapancdioaaGreatDoorHpE
namespace Go.Proofs.YtcoolapancdioaaGreatDoor.Hp
open Go.RowKit
open Class (isB isB_true isB_false is_any sizI sizI_bd roomI SizTab quiet_left below_drewN)
open Blk (Cfg TbIs ownB ownB_true blk kAt rowB adr perN perN_eq perN_pos perN_le seg cellsF)
open Go.Proofs.YtcoolapancdioaaGreatDoor.Row (Chg Rd)
open Arena (ArIs Two)
open Bits (SetIs)
open Lis (Sit Five Held upd upd_same upd_other set_kept lastN lastN_rev rev_upd)
open Go.Proofs.YtcoolapancdioaaGreatDoor.Addr (Tabs adrB adrB_true)

/-- A list's first slot, taken. -/
theorem ltake_good {H : Nat} {d : Ids} {s : St} {m : Nat} (k a : Nat) (l : List Nat) (w : World) (h : Is w H d s m) (hk : k < 4) (he : s.hv k = a :: l) :
    Calls Tryz.prog 73 #[.pointer (some ⟨d.L, 0, none⟩), .int .i64 k] w fun e w' => e = .returned (.tuple #[.int .i64 a, .int .i64 0]) ∧ To w w' H d { s with hv := upd s.hv k l } m := by
  obtain ⟨c2, c3, c5, c6⟩ := h.held.take h.sit.si.row hk he
  refine (Lis.take_good w h.sit k a hk (l := l.reverse) (by simp [he]) c3 c5).mono ?_
  rintro e w' ⟨rfl, p', c', hS, hC, hO⟩
  rw [rev_upd] at hS
  obtain ⟨m1, m2, m3⟩ := h.cnt
  refine ⟨rfl, _, h.lists hS c6 rfl hC hO ⟨m1, m2, fun j hj => ?_⟩ (h.wf.take he), hC.mono (fun _ e => .inl e), fun j hj => ?_⟩
  · by_cases e : j = k
    · subst e; rw [upd_same]; have := m3 _ hj; rw [he, List.length_cons] at this; omega
    · rw [upd_other _ _ e]; exact m3 j hj
  · rcases hj with e | e | e
    · exact (hO j e).imp (fun e => .inl e) id
    · exact .inl (.inr (.inl e))
    · exact .inl (.inr (.inr e))
theorem ltake_none {H : Nat} {d : Ids} {s : St} {m : Nat} (k : Nat) (w : World) (h : Is w H d s m) (hk : k < 4) (he : s.hv k = []) :
    Calls Tryz.prog 73 #[.pointer (some ⟨d.L, 0, none⟩), .int .i64 k] w fun e w' => e = .returned (.tuple #[.int .i64 0, .int .i64 12]) ∧ Below w.heap.size w w' :=
  Lis.take_none w h.sit k hk (by simp [he])
theorem take_nil (k : Int) (w : World) : Calls Tryz.prog 24 #[.pointer none, .int .i64 k] w fun e w' => e = .returned (.tuple #[.int .i64 0, .int .i64 11]) ∧ w = w' := by
  go_enter Tryz.func24, Tryz.ntmps24
  go_wp2
  go_ret2
  exact ⟨rfl, rfl⟩
theorem take_bad {H : Nat} {d : Ids} {s : St} {m : Nat} (k : Int) (w : World) (h : Is w H d s m) (hk : isB k = false) :
    Calls Tryz.prog 24 #[.pointer (some ⟨H, 0, none⟩), .int .i64 k] w fun e w' => e = .returned (.tuple #[.int .i64 0, .int .i64 1]) ∧ To w w' H d s m := by
  have hcL := h.cL
  have HH := Lib.hid h
  clear h
  go_enter Tryz.func24, Tryz.ntmps24
  go_wp2_with (go_at_call 73; refine (Lis.take_bad k _ hk).mono ?_; rintro e w1 ⟨rfl, hb⟩)
  go_ret2
  exact ⟨rfl, To.of_below HH.out hb⟩
theorem take_good {H : Nat} {d : Ids} {s : St} {m : Nat} (k a : Nat) (l : List Nat) (w : World) (h : Is w H d s m) (hk : k < 4) (he : s.hv k = a :: l) :
    Calls Tryz.prog 24 #[.pointer (some ⟨H, 0, none⟩), .int .i64 k] w fun e w' => e = .returned (.tuple #[.int .i64 a, .int .i64 0]) ∧ To w w' H d { s with hv := upd s.hv k l } m := by
  have hcL := h.cL
  have HT := Lib.hid (ltake_good k a l w h hk he)
  clear h
  go_enter Tryz.func24, Tryz.ntmps24
  go_wp2_with (go_at_call 73; refine HT.out.mono ?_; rintro e w1 ⟨rfl, hT⟩)
  go_ret2
  exact ⟨rfl, hT⟩
theorem take_none {H : Nat} {d : Ids} {s : St} {m : Nat} (k : Nat) (w : World) (h : Is w H d s m) (hk : k < 4) (he : s.hv k = []) :
    Calls Tryz.prog 24 #[.pointer (some ⟨H, 0, none⟩), .int .i64 k] w fun e w' => e = .returned (.tuple #[.int .i64 0, .int .i64 12]) ∧ To w w' H d s m := by
  have hcL := h.cL
  have HH := Lib.hid h
  have HT := Lib.hid (ltake_none k w h hk he)
  clear h
  go_enter Tryz.func24, Tryz.ntmps24
  go_wp2_with (go_at_call 73; refine HT.out.mono ?_; rintro e w1 ⟨rfl, hb⟩)
  go_ret2
  exact ⟨rfl, To.of_below HH.out hb⟩

/-- What a slot that is put leaves. -/
def puS (s : St) (a : Nat) : St := { s with hv := upd s.hv (cls s a) (a :: s.hv (cls s a)), ws := s.ws.set (a - 1) (Hdr.lk ((s.hv (cls s a)).headD 0)) }
theorem cls_lt {w : World} {H : Nat} {d : Ids} {s : St} {m : Nat} (h : Is w H d s m) (a : Int) : cls s a < 4 := h.tb.kLt _
theorem Is.sw_fr {w : World} {H : Nat} {d : Ids} {s : St} {m : Nat} (h : Is w H d s m) {a : Nat} (ha : a ≤ s.ws.length) : hasB d.sw a = fr s a := by
  rw [Bool.eq_iff_iff, fr_true]; exact h.held.isIn a ha
theorem lput_new {H : Nat} {d : Ids} {s : St} {m : Nat} (a : Nat) (w : World) (h : Is w H d s m) (ht : Tabs w) (hm : m < 900000) (ho : own s a = true) (hn : bn s a = false) (hf : fr s a = false) :
    Calls Tryz.prog 80 #[.pointer (some ⟨d.L, 0, none⟩), .int .i64 a] w fun e w' => e = .returned (.int .i64 0) ∧ To w w' H d (puS s a) (m + 1) := by
  have hbd := h.wf.own_bd ho
  have hsm := h.sit.ar.small
  have hkl := cls_lt h a
  obtain ⟨m1, m2, m3⟩ := h.cnt
  have hin : hasB d.sw a = false := by rw [h.sw_fr (by omega)]; exact hf
  have hhd : ∀ j, j < 4 → (s.hv j).headD 0 ≤ 1048576 := fun j hj => by have := h.held.head_le hj; omega
  refine (Lis.put_new w h.sit h.tb ht h.wf.right a ho (by omega) (by omega) (by omega) (fun j hj => by rw [lastN_rev]; exact hhd j hj) (fun j hj => by have := m3 j hj; simp; omega) hin).mono ?_
  rintro e w' ⟨rfl, p', c', hS, hC, hO⟩
  rw [lastN_rev, ← List.reverse_cons, rev_upd] at hS
  have hheld := h.held.put h.sit.si.row hkl (by omega) (by omega) (hhd _ hkl) hin
  refine ⟨rfl, _, h.lists hS hheld (by rw [List.length_set]) hC hO ⟨by omega, by omega, fun j hj => ?_⟩ (h.wf.put ho hn (hhd _ hkl)), hC.mono (fun _ e => .inl e), fun j hj => ?_⟩
  · show ((upd s.hv (cls s a) (a :: s.hv (cls s a))) j).length ≤ m + 1
    by_cases e : j = cls s a
    · subst e; rw [upd_same, List.length_cons]; have := m3 _ hj; omega
    · rw [upd_other _ _ e]; have := m3 j hj; omega
  · rcases hj with e | e | e
    · exact (hO j e).imp (fun e => .inl e) id
    · exact .inl (.inr (.inl e))
    · exact .inl (.inr (.inr e))
theorem lput_have {H : Nat} {d : Ids} {s : St} {m : Nat} (a : Nat) (w : World) (h : Is w H d s m) (ht : Tabs w) (ho : own s a = true) (hf : fr s a = true) :
    Calls Tryz.prog 80 #[.pointer (some ⟨d.L, 0, none⟩), .int .i64 a] w fun e w' => e = .returned (.int .i64 11) ∧ Below w.heap.size w w' := by
  have hbd := h.wf.own_bd ho
  exact Lis.put_have w h.sit h.tb ht h.wf.right a ho (by omega) (by rw [h.sw_fr (by omega)]; exact hf)
theorem lput_odd {H : Nat} {d : Ids} {s : St} {m : Nat} (a : Int) (w : World) (h : Is w H d s m) (ht : Tabs w) (ho : own s a = false) :
    Calls Tryz.prog 80 #[.pointer (some ⟨d.L, 0, none⟩), .int .i64 a] w fun e w' => e = .returned (.int .i64 1) ∧ Below w.heap.size w w' :=
  Lis.put_odd w h.sit h.tb ht h.wf.right a ho

def puE (s : St) (a : Int) : Int := if bnI s a = true then 11 else if own s a = true then (if frI s a = true then 11 else 0) else 1
theorem put_nil (a : Int) (w : World) : Calls Tryz.prog 28 #[.pointer none, .int .i64 a] w fun e w' => e = .returned (.int .i64 11) ∧ w = w' := by
  go_enter Tryz.func28, Tryz.ntmps28
  go_wp2
  go_ret
  exact ⟨rfl, rfl⟩
set_option maxHeartbeats 1000000 in
theorem put_any {H : Nat} {d : Ids} {s : St} {m : Nat} (a : Int) (w : World) (h : Is w H d s m) (ht : Tabs w) (hm : m < 900000) :
    Calls Tryz.prog 28 #[.pointer (some ⟨H, 0, none⟩), .int .i64 a] w fun e w' => e = .returned (.int .i64 (puE s a)) ∧ To w w' H d (if puE s a = 0 then puS s a.toNat else s) (m + 1) := by
  have hcL := h.cL
  have HI := Lib.hid (isO_any a w h)
  have HH := Lib.hid h
  have HT := Lib.hid ht
  unfold puE
  cases hb : bnI s a with
  | true =>
    rw [hb] at HI
    rw [if_pos rfl, if_neg (by omega)]
    clear h ht
    go_enter Tryz.func28, Tryz.ntmps28
    go_wp2_with (go_at_call 20; refine HI.out.mono ?_; rintro e w1 ⟨rfl, q, rfl⟩)
    go_ret
    exact ⟨rfl, To.of_below (HH.out.more (Nat.le_succ _)) (below_drewN (Below.refl _ _) _)⟩
  | false =>
    rw [hb] at HI
    rw [if_neg (by simp)]
    cases ho : own s a with
    | false =>
      rw [if_neg (by simp), if_neg (by omega)]
      have HP := Lib.hid (fun n => lput_odd a _ (h.drewN n) (ht.drewN n) ho)
      clear h ht
      go_enter Tryz.func28, Tryz.ntmps28
      go_wp2_with (first
        | (go_at_call 20; refine HI.out.mono ?_; rintro e w1 ⟨rfl, q, rfl⟩)
        | (go_at_call 80; refine (HP.out _).mono ?_; rintro e w2 ⟨rfl, hb2⟩))
      go_ret
      exact ⟨rfl, To.of_below (HH.out.more (Nat.le_succ _)) ((below_drewN (Below.refl _ _) _).trans hb2)⟩
    | true =>
      rw [if_pos rfl]
      have hbd := h.wf.own_bd ho
      obtain ⟨n, rfl⟩ := Int.eq_ofNat_of_zero_le (show 0 ≤ a by omega)
      rw [frI_nat, Int.toNat_natCast]
      rw [bnI_nat] at hb
      cases hf : fr s n with
      | true =>
        rw [if_pos rfl, if_neg (by omega)]
        have HP := Lib.hid (fun q => lput_have n _ (h.drewN q) (ht.drewN q) ho hf)
        clear h ht
        go_enter Tryz.func28, Tryz.ntmps28
        go_wp2_with (first
          | (go_at_call 20; refine HI.out.mono ?_; rintro e w1 ⟨rfl, q, rfl⟩)
          | (go_at_call 80; refine (HP.out _).mono ?_; rintro e w2 ⟨rfl, hb2⟩))
        go_ret
        exact ⟨rfl, To.of_below (HH.out.more (Nat.le_succ _)) ((below_drewN (Below.refl _ _) _).trans hb2)⟩
      | false =>
        rw [if_neg (by simp), if_pos rfl]
        have HP := Lib.hid (fun q => lput_new n _ (h.drewN q) (ht.drewN q) hm ho hb hf)
        clear h ht
        go_enter Tryz.func28, Tryz.ntmps28
        go_wp2_with (first
          | (go_at_call 20; refine HI.out.mono ?_; rintro e w1 ⟨rfl, q, rfl⟩)
          | (go_at_call 80; refine (HP.out _).mono ?_; rintro e w2 ⟨rfl, hT2⟩))
        go_ret
        exact ⟨rfl, To.alloc (below_drewN (Below.refl _ _) _) hT2⟩

/-- A block assigned. -/
def asS (s : St) (k : Nat) : St := { s with ks := s.ks ++ [k] }
theorem assign_nil (k : Int) (w : World) : Calls Tryz.prog 25 #[.pointer none, .int .i64 k] w fun e w' => e = .returned (.tuple #[.slice none 0 0, .int .i64 11]) ∧ w = w' := by
  go_enter Tryz.func25, Tryz.ntmps25
  go_wp2
  go_ret2
  exact ⟨rfl, rfl⟩
theorem assign_bad {H : Nat} {d : Ids} {s : St} {m : Nat} (k : Int) (w : World) (h : Is w H d s m) (hk : isB k = false) :
    Calls Tryz.prog 25 #[.pointer (some ⟨H, 0, none⟩), .int .i64 k] w fun e w' => e = .returned (.tuple #[.slice none 0 0, .int .i64 1]) ∧ w = w' := by
  have hcT := h.cT
  have HP := Lib.hid (Blk.assign_bad k w h.tb hk)
  clear h
  go_enter Tryz.func25, Tryz.ntmps25
  go_wp2_with (go_at_call 74; refine HP.out.mono ?_; rintro e w1 ⟨rfl, rfl⟩)
  go_ret2
  exact ⟨rfl, rfl⟩
theorem assign_full {H : Nat} {d : Ids} {s : St} {m : Nat} (k : Int) (w : World) (h : Is w H d s m) (hk : isB k = true) (hf : (s.ks.length : Int) = s.c.b) :
    Calls Tryz.prog 25 #[.pointer (some ⟨H, 0, none⟩), .int .i64 k] w fun e w' => e = .returned (.tuple #[.slice none 0 0, .int .i64 10]) ∧ To w w' H d s m := by
  have hcT := h.cT
  have HH := Lib.hid h
  have HP := Lib.hid (Blk.assign_full k w h.tb hk hf)
  clear h
  go_enter Tryz.func25, Tryz.ntmps25
  go_wp2_with (go_at_call 74; refine HP.out.mono ?_; rintro e w1 ⟨rfl, q, rfl⟩)
  go_ret2
  exact ⟨rfl, To.of_below HH.out (below_drewN (Below.refl _ _) _)⟩
set_option maxHeartbeats 1000000 in
theorem assign_good {H : Nat} {d : Ids} {s : St} {m : Nat} (k : Nat) (w : World) (h : Is w H d s m) (ht : Tabs w) (hk : k < 4) (hf : (s.ks.length : Int) < s.c.b) :
    Calls Tryz.prog 25 #[.pointer (some ⟨H, 0, none⟩), .int .i64 k] w fun e w' => ∃ p cap d1, e = .returned (.tuple #[.slice p (perN s.c k) cap, .int .i64 0]) ∧ w'.ownsRow w.heap.size 3 1 (.slice p (perN s.c k) cap) (perN s.c k) (cellsF (adr s.c k s.ks.length) (perN s.c k)) ∧
      Is w' H d1 (asS s k) m ∧ Chg (Mine H d) w w' ∧ (∀ j, Mine H d1 j → Mine H d j ∨ w.heap.size ≤ j) ∧ ∀ g, rowB p g → ¬ Mine H d1 g := by
  have hRC := Blk.slots_bd h.wf.right
  have hcT := h.cT
  have HP := Lib.hid (Blk.assign_good k w h.tb hk hf hRC.b1 h.bt)
  have HX : Hid (∀ (w1 : World) (p' : Option Addr) (cap' : Nat), TbIs w1 d.T d.baseT s.c (s.ks ++ [k]) p' cap' → Chg (fun i => i = d.T ∨ rowB d.pt i) w w1 → (∀ i, rowB p' i → rowB d.pt i ∨ w.heap.size ≤ i) →
      ∃ d1, Is w1 H d1 (asS s k) m ∧ d1.T = d.T ∧ Chg (Mine H d) w w1 ∧ (∀ j, Mine H d1 j → Mine H d j ∨ w.heap.size ≤ j) ∧ Tabs w1) := Lib.hid fun w1 p' cap' hT hC hR => by
    have hI := h.table hT hC hR (Nat.le_trans h.bt hC.size) (h.wf.assign hk hf)
    have hC2 : Chg (Mine H d) w w1 := hC.mono fun i e => e.elim (fun e => .inr (.inl (.inr (.inl e)))) (fun e => .inr (.inr e))
    refine ⟨_, hI, rfl, hC2, fun j hj => ?_, h.tabs hC2 ht⟩
    rcases hj with e | e | e
    · exact .inl (.inl e)
    · exact .inl (.inr (.inl e))
    · exact (hR j e).imp (fun e => .inr (.inr e)) id
  have hkl : kAt (s.ks ++ [k]) s.ks.length = k := kAt_last
  have hN : Class.perI s.c.wd (kAt (s.ks ++ [k]) s.ks.length) = (perN s.c k : Int) := by rw [hkl]; exact perN_eq s.c k
  have HS := Lib.hid (fun (w1 : World) (d1 : Ids) (hI : Is w1 H d1 (asS s k) m) (hT : d1.T = d.T) (ht1 : Tabs w1) => (by
    have := Blk.slots_in (b := s.ks.length) w1 hI.tb hI.wf.right (by show s.ks.length < (s.ks ++ [k]).length; simp) hf hN (perN_pos h.wf.right hk) ht1
    rw [hT] at this
    have e : kAt (asS s k).ks s.ks.length = k := hkl
    rw [e] at this
    exact this : Calls Tryz.prog 71 #[.pointer (some ⟨d.T, 0, none⟩), .int .i64 s.ks.length] w1 fun e w' => ∃ p' cap', e = .returned (.slice p' (perN s.c k) cap') ∧ w'.ownsRow w1.heap.size 3 1 (.slice p' (perN s.c k) cap') (perN s.c k) (cellsF (adr s.c k s.ks.length) (perN s.c k)) ∧ Below w1.heap.size w1 w'))
  have HcT := Lib.hid (fun (w1 : World) (d1 : Ids) (hI : Is w1 H d1 (asS s k) m) (hT : d1.T = d.T) => (by rw [← hT]; exact hI.cT : w1.cell? ⟨H, 1, none⟩ = some (.pointer (some ⟨d.T, 0, none⟩))))
  clear h ht hN hkl
  go_enter Tryz.func25, Tryz.ntmps25
  go_wp2_with (first
    | (go_at_call 74; refine HP.out.mono ?_; rintro e w1 ⟨rfl, p', cap', hT1, hC1, hR1⟩; obtain ⟨d1, hI1, hd1, hC, hR, ht1⟩ := HX.out _ _ _ hT1 ⟨hC1.os, hC1.tape, hC1.output, hC1.size, hC1.block⟩ hR1; have hcT1 := HcT.out _ _ hI1 hd1; have HI1 := Lib.hid hI1; have HC := Lib.hid hC; have HR := Lib.hid hR; have HT1 := Lib.hid ht1; clear hT1 hC1 hR1 hI1 hC hR ht1 hcT)
    | (go_at_call 71; refine (HS.out _ _ HI1.out hd1 HT1.out).mono ?_; rintro e w2 ⟨p2, cap2, rfl, ho, hb2⟩))
  go_ret2
  refine ⟨p2, cap2, d1, rfl, Row.owns_base HC.out.size ho, HI1.out.later hb2, HC.out.trans (Chg.of_below (S := Mine H d) hb2) (fun _ e => .inl e), HR.out, fun g hg hm => ?_⟩
  have h1 := HI1.out.lt hm
  have h2 := (Blk.owns_lt ho hg).1
  omega
end Go.Proofs.YtcoolapancdioaaGreatDoor.Hp
