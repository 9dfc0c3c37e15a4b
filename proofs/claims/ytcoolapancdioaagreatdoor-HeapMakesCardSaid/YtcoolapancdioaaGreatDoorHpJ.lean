/-
  Bear, Free of a heap.
-/
import Derived.Test.YtcoolapancdioaaGreatDoorHpI
namespace Go.Proofs.YtcoolapancdioaaGreatDoor.Hp
open Go.RowKit
open Class (isB isB_true isB_false is_any sizI sizI_bd roomI SizTab quiet_left below_drewN)
open Blk (Cfg TbIs ownB ownB_true blk kAt rowB)
open Go.Proofs.YtcoolapancdioaaGreatDoor.Row (Chg Rd)
open Arena (ArIs Two)
open Bits (SetIs)
open Lis (Sit Five Held upd upd_same upd_other set_kept lastN)
open Go.Proofs.YtcoolapancdioaaGreatDoor.Addr (Tabs adrB adrB_true)

def colB (c : Int) : Bool := (c == 0) || (c == 1)
theorem color_any (c : Int) (w : World) : Calls Tryz.prog 76 #[.int .i64 c] w fun e w' => e = .returned (.bool (colB c)) ∧ w = w' := by
  unfold colB
  by_cases h0 : c = 0
  · subst h0
    go_enter Tryz.func76, Tryz.ntmps76
    go_wp2
    go_ret
    exact ⟨rfl, rfl⟩
  · have hb : (c == 0) = false := by simpa using h0
    rw [hb]
    go_enter Tryz.func76, Tryz.ntmps76
    go_wp2
    go_ret
    exact ⟨rfl, rfl⟩

theorem putS_has {size : Nat} {ws : List Nat} (hs : SetW size ws) {a : Nat} (ha : a < size) (x : Bool) (b : Nat) : hasB (Bits.putS size ws a x) b = if b = a then x else hasB ws b := by
  have hm : Bits.mayB (a : Int) size = true := by simp [Bits.mayB]; omega
  unfold Bits.putS Bits.putR
  rw [hm, Bool.true_and, Int.toNat_natCast]
  by_cases hx : hasB ws a = x
  · rw [if_neg (by simp [hx])]
    split
    · rename_i e; rw [e, hx]
    · rfl
  · have hne : (hasB ws a != x) = true := by simpa using hx
    rw [if_pos hne, hs.has_put ha]
    split
    · cases x <;> cases h : hasB ws a <;> simp_all
    · rfl

theorem ones_put {H : Nat} {d : Ids} {s : St} {m : Nat} (a : Int) (x : Bool) (w : World) (h : Is w H d s m) :
    Calls Tryz.prog 77 #[.pointer (some ⟨d.O, 0, none⟩), .int .i64 a, .bool x] w fun e w' => e = .returned (.bool (Bits.putR (s.ws.length + 1) s.os a x)) ∧ Is w' H d { s with os := Bits.putS (s.ws.length + 1) s.os a x } m ∧ Chg (Mine H d) w w' ∧ ∀ k, k ≠ d.Ow → w'.heap[k]? = w.heap[k]? := by
  have hnd := h.nd
  simp only [List.nodup_cons, List.mem_cons, List.not_mem_nil, or_false, not_or] at hnd
  refine (Bits.put_any d.O d.Ow _ d.capO s.os a x w h.ones (by omega)).mono ?_
  rintro e w' ⟨rfl, hs, hg, hsz⟩
  have hb : ∀ k, k ≠ d.Ow → w'.heap[k]? = w.heap[k]? := fun k hk => by
    by_cases hk2 : k < w.heap.size
    · exact hg.block k hk2 (fun e => hk (Option.some.inj e))
    · rw [Array.getElem?_eq_none (by omega), Array.getElem?_eq_none (by omega)]
  exact ⟨rfl, h.ones' hs hb (Nat.le_of_eq hsz.symm), ⟨hg.os, hg.tape, hg.output, Nat.le_of_eq hsz.symm, fun k _ hn => hb k (fun e => hn (.inr (.inl (.inr (.inr (.inr (.inr (.inr (.inl e)))))))))⟩, hb⟩
theorem born_put {H : Nat} {d : Ids} {s : St} {m : Nat} (a : Int) (x : Bool) (w : World) (h : Is w H d s m) (hw : Wf { s with bs := Bits.putS (s.ws.length + 1) s.bs a x }) :
    Calls Tryz.prog 77 #[.pointer (some ⟨d.B, 0, none⟩), .int .i64 a, .bool x] w fun e w' => e = .returned (.bool (Bits.putR (s.ws.length + 1) s.bs a x)) ∧ Is w' H d { s with bs := Bits.putS (s.ws.length + 1) s.bs a x } m ∧ Chg (Mine H d) w w' ∧ ∀ k, k ≠ d.Bw → w'.heap[k]? = w.heap[k]? := by
  have hnd := h.nd
  simp only [List.nodup_cons, List.mem_cons, List.not_mem_nil, or_false, not_or] at hnd
  refine (Bits.put_any d.B d.Bw _ d.capB s.bs a x w h.born (by omega)).mono ?_
  rintro e w' ⟨rfl, hs, hg, hsz⟩
  have hb : ∀ k, k ≠ d.Bw → w'.heap[k]? = w.heap[k]? := fun k hk => by
    by_cases hk2 : k < w.heap.size
    · exact hg.block k hk2 (fun e => hk (Option.some.inj e))
    · rw [Array.getElem?_eq_none (by omega), Array.getElem?_eq_none (by omega)]
  exact ⟨rfl, h.born' hs hb (Nat.le_of_eq hsz.symm) hw, ⟨hg.os, hg.tape, hg.output, Nat.le_of_eq hsz.symm, fun k _ hn => hb k (fun e => hn (.inr (.inl (.inr (.inr (.inr (.inl e)))))))⟩, hb⟩

/-- What Bear tells, and leaves. -/
def baE (s : St) (a c : Int) : Int := if handB s a = true then (if colB c = true then (if Hdr.isOb (wdA s a.toNat) = true then 0 else 11) else 1) else 1
def baS (s : St) (a : Nat) (c : Int) : St := { s with os := Bits.putS (s.ws.length + 1) s.os a (c == 1), bs := Bits.putS (s.ws.length + 1) s.bs a true }
set_option maxRecDepth 100000 in
set_option maxHeartbeats 1000000 in
theorem bear_nil (a n : Int) (w : World) : Calls Tryz.prog 30 #[.pointer none, .int .i64 a, .int .i64 n] w fun e w' => e = .returned (.int .i64 11) ∧ Below w.heap.size w w' := by
  go_enter Tryz.func30, Tryz.ntmps30
  go_wp2_with (go_enter Tryz.func81, Tryz.ntmps81)
  go_ret
  exact ⟨rfl, three_new _ _ _ _ _ _⟩
theorem bear1_bad (k : Nat) (c : Int) (p o q : Nat) (w : World) (hc : colB c = false) (hp : w.cell? ⟨p, 0, none⟩ = some (.int .i64 c)) :
    Calls Tryz.prog 85 #[.int .i64 k, .pointer (some ⟨p, 0, none⟩), .pointer (some ⟨o, 0, none⟩), .pointer (some ⟨q, 0, none⟩)] w fun e w' => e = .returned (.int .i64 1) ∧ w = w' := by
  have HC := Lib.hid (color_any c w)
  rw [hc] at HC
  go_enter Tryz.func85, Tryz.ntmps85
  go_wp2_with (go_at_call 76; refine HC.out.mono ?_; rintro e w1 ⟨rfl, rfl⟩)
  go_ret
  exact ⟨rfl, rfl⟩
set_option maxRecDepth 100000 in
set_option maxHeartbeats 1000000 in
theorem bear1_no {H : Nat} {d : Ids} {s : St} {m : Nat} (k a : Nat) (c : Int) (p o q : Nat) (w : World) (h : Is w H d s m) (ht : Tabs w) (hm : m < 900000) (hc : colB c = true) (h1 : 1 ≤ a) (h2 : a ≤ s.ws.length) (hi : Hdr.isOb (wdA s a) = false)
    (hp : w.cell? ⟨p, 0, none⟩ = some (.int .i64 c)) (hq : w.cell? ⟨o, 0, none⟩ = some (.pointer (some ⟨H, 0, none⟩))) (hr : w.cell? ⟨q, 0, none⟩ = some (.int .i64 a)) :
    Calls Tryz.prog 85 #[.int .i64 k, .pointer (some ⟨p, 0, none⟩), .pointer (some ⟨o, 0, none⟩), .pointer (some ⟨q, 0, none⟩)] w fun e w' => e = .returned (.int .i64 11) ∧ To w w' H d s (m + 1) := by
  have HC := Lib.hid (color_any c w)
  rw [hc] at HC
  have HB := Lib.hid (begun_any a w h ht (by omega) h1 h2)
  rw [hi] at HB
  clear h ht
  generalize Hdr.obF (wdA s a) = y at *
  go_enter Tryz.func85, Tryz.ntmps85
  go_wp2_with (first
    | (go_at_call 76; refine HC.out.mono ?_; rintro e w1 ⟨rfl, rfl⟩)
    | (go_at_call 59; refine HB.out.mono ?_; rintro e w1 ⟨rfl, hT1⟩))
  go_ret
  exact ⟨rfl, hT1⟩
set_option maxRecDepth 100000 in
set_option maxHeartbeats 4000000 in
theorem bear1_any {H : Nat} {d : Ids} {s : St} {m : Nat} (k a : Nat) (c : Int) (p o q : Nat) (w : World) (h : Is w H d s m) (ht : Tabs w) (hm : m < 900000) (hc : colB c = true) (h1 : 1 ≤ a) (h2 : a ≤ s.ws.length) (hi : Hdr.isOb (wdA s a) = true) (ho : handB s a = true)
    (hp : w.cell? ⟨p, 0, none⟩ = some (.int .i64 c)) (hq : w.cell? ⟨o, 0, none⟩ = some (.pointer (some ⟨H, 0, none⟩))) (hr : w.cell? ⟨q, 0, none⟩ = some (.int .i64 a)) (hpp : ¬ Mine H d p) (hpo : ¬ Mine H d o) (hqo : ¬ Mine H d q) :
    Calls Tryz.prog 85 #[.int .i64 k, .pointer (some ⟨p, 0, none⟩), .pointer (some ⟨o, 0, none⟩), .pointer (some ⟨q, 0, none⟩)] w fun e w' => e = .returned (.int .i64 0) ∧ To w w' H d (baS s a c) (m + 1) := by
  have HC := Lib.hid (color_any c w)
  rw [hc] at HC
  have HB := Lib.hid (begun_any a w h ht (by omega) h1 h2)
  rw [hi] at HB
  obtain ⟨o1, o2, o3⟩ := handB_parts ho
  rw [frI_nat] at o3
  have hpl : p < w.heap.size := World.block_lt_of_cell? w _ hp
  have hol : o < w.heap.size := World.block_lt_of_cell? w _ hq
  have hql : q < w.heap.size := World.block_lt_of_cell? w _ hr
  have hwf : Wf { s with bs := Bits.putS (s.ws.length + 1) s.bs a true } := h.wf.bear o1 o3 hi (fun b => by rw [putS_has h.born.row (by omega)]; rfl)
  have HWF := Lib.hid (show Wf { s with os := Bits.putS (s.ws.length + 1) s.os a (c == 1), bs := Bits.putS (s.ws.length + 1) s.bs a true } from ⟨hwf.right, hwf.words, hwf.full, hwf.free, hwf.born, hwf.room, hwf.fresh⟩)
  have HX : Hid (∀ w1 : World, To w w1 H d s (m + 1) → ∃ d1, Is w1 H d1 s (m + 1) ∧ Chg (Mine H d) w w1 ∧ (∀ j, Mine H d1 j → Mine H d j ∨ w.heap.size ≤ j) ∧ w1.cell? ⟨p, 0, none⟩ = some (.int .i64 c) ∧ w1.cell? ⟨o, 0, none⟩ = some (.pointer (some ⟨H, 0, none⟩)) ∧ w1.cell? ⟨q, 0, none⟩ = some (.int .i64 a) ∧ ¬ Mine H d1 p ∧ ¬ Mine H d1 o ∧ ¬ Mine H d1 q) := Lib.hid fun w1 hT => by
    have c1 := hT.cell hp hpp
    have c2 := hT.cell hq hpo
    have c3 := hT.cell hr hqo
    obtain ⟨d1, hI, hC, hR⟩ := hT
    exact ⟨d1, hI, hC, hR, c1, c2, c3, To.not_mine hR hpp hpl, To.not_mine hR hpo hol, To.not_mine hR hqo hql⟩
  clear h ht hwf o1 o2 o3 ho hpp hpo hqo
  unfold baS
  generalize Hdr.obF (wdA s a) = y at *
  go_enter Tryz.func85, Tryz.ntmps85
  go_wp2_with (first
    | (go_at_call 76; refine HC.out.mono ?_; rintro e w1 ⟨rfl, rfl⟩)
    | (go_at_call 59; refine HB.out.mono ?_; rintro e w1 ⟨rfl, hT1⟩; obtain ⟨d1, hI1, hC1, hR1, c1, c2, c3, n1, n2, n3⟩ := HX.out _ hT1; have hcO1 := hI1.cO; have hcB1 := hI1.cB; have HI1 := Lib.hid hI1; have HC1 := Lib.hid hC1; have HR1 := Lib.hid hR1; clear hI1 hC1 hR1 hT1 hp hq hr))
  have hc1 : ((c == 1) : Bool) = (c == 1) := rfl
  have hH1 : H < w1.heap.size := HI1.out.ltH
  have hpl1 : p < w1.heap.size := World.block_lt_of_cell? w1 _ c1
  have hol1 : o < w1.heap.size := World.block_lt_of_cell? w1 _ c2
  have hql1 : q < w1.heap.size := World.block_lt_of_cell? w1 _ c3
  have HND := Lib.hid HI1.out.nd
  have hHO : H ≠ d1.Ow := by have := HI1.out.nd; simp at this; omega
  have hHB : H ≠ d1.Bw := by have := HI1.out.nd; simp at this; omega
  have sO : ∀ k, ¬ Mine H d1 k → k ≠ d1.Ow := fun k hk e => hk (.inr (.inl (by unfold seven; omega)))
  have sB : ∀ k, ¬ Mine H d1 k → k ≠ d1.Bw := fun k hk e => hk (.inr (.inl (by unfold seven; omega)))
  have HK0 := Lib.hid (show w1.drew.cell? ⟨o, 0, none⟩ = some (.pointer (some ⟨H, 0, none⟩)) ∧ w1.drew.cell? ⟨q, 0, none⟩ = some (.int .i64 a) ∧ w1.drew.cell? ⟨p, 0, none⟩ = some (.int .i64 c) ∧ w1.drew.cell? ⟨H, 4, none⟩ = some (.pointer (some ⟨d1.O, 0, none⟩)) from ⟨c2, c3, c1, hcO1⟩)
  have HK4 := Lib.hid (fun (W : World) (h2 : ∀ j, j ≠ d1.Ow → W.heap[j]? = (w1.drewN 1).heap[j]?) => (⟨(Row.cell_of_block (a := ⟨o, 0, none⟩) (h2 o (sO o n2))).trans c2, (Row.cell_of_block (a := ⟨q, 0, none⟩) (h2 q (sO q n3))).trans c3, (Row.cell_of_block (a := ⟨p, 0, none⟩) (h2 p (sO p n1))).trans c1, (Row.cell_of_block (a := ⟨H, 4, none⟩) (h2 H hHO)).trans hcO1⟩ : W.cell? ⟨o, 0, none⟩ = some (.pointer (some ⟨H, 0, none⟩)) ∧ W.cell? ⟨q, 0, none⟩ = some (.int .i64 a) ∧ W.cell? ⟨p, 0, none⟩ = some (.int .i64 c) ∧ W.cell? ⟨H, 4, none⟩ = some (.pointer (some ⟨d1.O, 0, none⟩))))
  have HP1 := Lib.hid (fun n => ones_put (a : Int) (c == 1) _ (HI1.out.drewN n))
  have HKB := Lib.hid (fun (W : World) (h2 : ∀ j, j ≠ d1.Ow → W.heap[j]? = (w1.drewN 1).heap[j]?) => (Row.cell_of_block (a := ⟨H, 3, none⟩) (h2 H hHO)).trans hcB1)
  have HSO := Lib.hid sO
  have HSB := Lib.hid sB
  clear sO sB
  go_region_held3 (fun W => W.cell? ⟨o, 0, none⟩ = some (.pointer (some ⟨H, 0, none⟩)) ∧ W.cell? ⟨q, 0, none⟩ = some (.int .i64 a) ∧ W.cell? ⟨p, 0, none⟩ = some (.int .i64 c) ∧ W.cell? ⟨H, 4, none⟩ = some (.pointer (some ⟨d1.O, 0, none⟩)))
    (first | exact HK0.out | assumption | exact HK4.out _ h24)
    (first | (go_at_call 77; refine (HP1.out _).mono ?_; rintro e w4 ⟨rfl, hI4, hC4, h24⟩))
  have hS4 : w4.cell? ⟨o, 0, none⟩ = some (.pointer (some ⟨H, 0, none⟩)) ∧ w4.cell? ⟨q, 0, none⟩ = some (.int .i64 a) ∧ w4.cell? ⟨p, 0, none⟩ = some (.int .i64 c) ∧ w4.cell? ⟨H, 4, none⟩ = some (.pointer (some ⟨d1.O, 0, none⟩)) := by assumption
  have hcB4 := HKB.out _ h24
  clear HK0 HK4 HKB HP1
  obtain ⟨d2, d3, d4, _⟩ := hS4
  have HI4 := Lib.hid hI4
  have HC4 := Lib.hid (HC1.out.trans ((Chg.refl (Mine H d1) w1).drewN 1 |>.trans hC4 (fun _ e => .inl e)) HR1.out)
  clear hI4 hC4 h24 c1 c2 c3 hcO1 hcB1 hpl1 hol1 hql1 hH1
  go_wp2
  have HK0 := Lib.hid (show w4.drew.cell? ⟨o, 0, none⟩ = some (.pointer (some ⟨H, 0, none⟩)) ∧ w4.drew.cell? ⟨q, 0, none⟩ = some (.int .i64 a) ∧ w4.drew.cell? ⟨H, 3, none⟩ = some (.pointer (some ⟨d1.B, 0, none⟩)) from ⟨d2, d3, hcB4⟩)
  have HK4 := Lib.hid (fun (W : World) (h2 : ∀ j, j ≠ d1.Bw → W.heap[j]? = (w4.drewN 1).heap[j]?) => (⟨(Row.cell_of_block (a := ⟨o, 0, none⟩) (h2 o (HSB.out o n2))).trans d2, (Row.cell_of_block (a := ⟨q, 0, none⟩) (h2 q (HSB.out q n3))).trans d3, (Row.cell_of_block (a := ⟨H, 3, none⟩) (h2 H hHB)).trans hcB4⟩ : W.cell? ⟨o, 0, none⟩ = some (.pointer (some ⟨H, 0, none⟩)) ∧ W.cell? ⟨q, 0, none⟩ = some (.int .i64 a) ∧ W.cell? ⟨H, 3, none⟩ = some (.pointer (some ⟨d1.B, 0, none⟩))))
  have HP2 := Lib.hid (fun n => born_put (a : Int) true _ (HI4.out.drewN n) HWF.out)
  go_region_held3 (fun W => W.cell? ⟨o, 0, none⟩ = some (.pointer (some ⟨H, 0, none⟩)) ∧ W.cell? ⟨q, 0, none⟩ = some (.int .i64 a) ∧ W.cell? ⟨H, 3, none⟩ = some (.pointer (some ⟨d1.B, 0, none⟩)))
    (first | exact HK0.out | assumption | exact HK4.out _ h25)
    (first | (go_at_call 77; refine (HP2.out _).mono ?_; rintro e w5 ⟨rfl, hI5, hC5, h25⟩))
  have HI5 := Lib.hid hI5
  have HC5 := Lib.hid (HC4.out.trans ((Chg.refl (Mine H d1) w4).drewN 1 |>.trans hC5 (fun _ e => .inl e)) HR1.out)
  clear hI5 hC5 h25
  all_goals go_wp2
  all_goals go_ret
  all_goals exact ⟨rfl, d1, HI5.out, HC5.out, HR1.out⟩

set_option maxRecDepth 100000 in
set_option maxHeartbeats 2000000 in
theorem bear_any {H : Nat} {d : Ids} {s : St} {m : Nat} (a c : Int) (w : World) (h : Is w H d s m) (ht : Tabs w) (hm : m < 900000) :
    Calls Tryz.prog 30 #[.pointer (some ⟨H, 0, none⟩), .int .i64 a, .int .i64 c] w fun e w' => e = .returned (.int .i64 (baE s a c)) ∧ To w w' H d (if baE s a c = 0 then baS s a.toNat c else s) (m + 1) := by
  have hb0 : Below w.heap.size w (((w.alloc (.cells #[.pointer (some ⟨H, 0, none⟩)] 27)).alloc (.cells #[.int .i64 a] 3)).alloc (.cells #[.int .i64 c] 3)) := three_new _ _ _ _ _ _
  have HB0 := Lib.hid hb0
  have HH := Lib.hid h
  have HI := Lib.hid (h.later hb0)
  have HN := Lib.hid (show ∀ k, w.heap.size ≤ k → ¬ Mine H d k from fun k hk => not_mine h hk)
  have HD := Lib.hid (hand_any a _ (h.later hb0) (ht.later hb0))
  have HTB := Lib.hid (ht.later hb0)
  have H3 := Lib.hid (fun (w1 : World) (hC : Below (((w.alloc (.cells #[.pointer (some ⟨H, 0, none⟩)] 27)).alloc (.cells #[.int .i64 a] 3)).alloc (.cells #[.int .i64 c] 3)).heap.size (((w.alloc (.cells #[.pointer (some ⟨H, 0, none⟩)] 27)).alloc (.cells #[.int .i64 a] 3)).alloc (.cells #[.int .i64 c] 3)) w1) => three_kept (S := Mine H d) HN.out (Chg.of_below hC))
  unfold baE
  cases ho : handB s a with
  | false =>
    rw [ho] at HD
    rw [if_neg (by simp), if_neg (by omega)]
    clear h ht hb0
    go_enter Tryz.func30, Tryz.ntmps30
    go_wp2_with (first
      | go_enter Tryz.func81, Tryz.ntmps81
      | (go_at_call 105; refine HD.out.mono ?_; rintro e w1 ⟨rfl, hb1⟩))
    go_ret
    exact ⟨rfl, To.of_below (HH.out.more (Nat.le_succ _)) (HB0.out.trans (hb1.mono HB0.out.size))⟩
  | true =>
    rw [ho] at HD
    rw [if_pos rfl] at HD
    rw [if_pos rfl]
    have hbd := h.wf.own_bd (handB_parts ho).1
    obtain ⟨b, rfl⟩ := Int.eq_ofNat_of_zero_le (show 0 ≤ a by omega)
    rw [Int.toNat_natCast]
    cases hc : colB c with
    | false =>
      rw [if_neg (by simp), if_neg (by omega)]
      have HC := Lib.hid (fun (w1 : World) (p o q : Nat) hp => bear1_bad (cls s b) c p o q w1 hc hp)
      clear h ht hb0
      generalize cls s b = k at *
      go_enter Tryz.func30, Tryz.ntmps30
      go_wp2_with (first
        | go_enter Tryz.func81, Tryz.ntmps81
        | (go_at_call 105; refine HD.out.mono ?_; rintro e w1 ⟨rfl, hb1⟩)
        | (go_at_call 85; refine (HC.out _ _ _ _ (H3.out _ hb1).2.2).mono ?_; rintro e w2 ⟨rfl, rfl⟩))
      go_ret
      exact ⟨rfl, To.of_below (HH.out.more (Nat.le_succ _)) (HB0.out.trans (hb1.mono HB0.out.size))⟩
    | true =>
      rw [if_pos rfl]
      cases hi : Hdr.isOb (wdA s b) with
      | false =>
        rw [if_neg (by simp), if_neg (by omega)]
        have HC := Lib.hid (fun (w1 : World) (p o q : Nat) hI ht hp hq hr => bear1_no (H := H) (d := d) (m := m) (cls s b) b c p o q w1 hI ht hm hc (by omega) (by omega) hi hp hq hr)
        clear h ht hb0
        generalize cls s b = k at *
        go_enter Tryz.func30, Tryz.ntmps30
        go_wp2_with (first
          | go_enter Tryz.func81, Tryz.ntmps81
          | (go_at_call 105; refine HD.out.mono ?_; rintro e w1 ⟨rfl, hb1⟩)
          | (go_at_call 85; refine (HC.out _ _ _ _ (HI.out.later hb1) (HTB.out.later hb1) (H3.out _ hb1).2.2 (H3.out _ hb1).1 (H3.out _ hb1).2.1).mono ?_; rintro e w2 ⟨rfl, hT2⟩))
        go_ret
        exact ⟨rfl, To.alloc (HB0.out.trans (hb1.mono HB0.out.size)) hT2⟩
      | true =>
        rw [if_pos rfl, if_pos rfl]
        have HC := Lib.hid (fun (w1 : World) (p o q : Nat) hI ht hp hq hr n0 n1 n2 => bear1_any (H := H) (d := d) (m := m) (cls s b) b c p o q w1 hI ht hm hc (by omega) (by omega) hi ho hp hq hr n0 n1 n2)
        clear h ht hb0
        generalize cls s b = k at *
        go_enter Tryz.func30, Tryz.ntmps30
        go_wp2_with (first
          | go_enter Tryz.func81, Tryz.ntmps81
          | (go_at_call 105; refine HD.out.mono ?_; rintro e w1 ⟨rfl, hb1⟩)
          | (go_at_call 85; refine (HC.out _ _ _ _ (HI.out.later hb1) (HTB.out.later hb1) (H3.out _ hb1).2.2 (H3.out _ hb1).1 (H3.out _ hb1).2.1 (HN.out _ (by omega)) (HN.out _ (by omega)) (HN.out _ (by omega))).mono ?_; rintro e w2 ⟨rfl, hT2⟩))
        go_ret
        exact ⟨rfl, To.alloc (HB0.out.trans (hb1.mono HB0.out.size)) hT2⟩
end Go.Proofs.YtcoolapancdioaaGreatDoor.Hp
