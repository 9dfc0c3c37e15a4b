/-
  What Take does with a list that is there; Take.
-/
import Derived.Test.YtooojajagkbhiaaDoorLisC
namespace Go.Proofs.YtooojajagkbhiaaDoor.Lis
open Go.RowKit
open Class (isB isB_true isB_false is_any)
open Blk (ret_int ret_bool rowB cellsK owns_block owns_lt owns_cell other same cell_of_block frozen_of_block)
open Go.Proofs.YtooojajagkbhiaaDoor.Row (Chg)
open Arena (ArIs Two)
open Bits (SetIs)

theorem take1_none {L A G T I J cap capS base : Nat} {ps : Nat → Option Addr} {cs : Nat → Nat} {rv : Nat → List Nat} {ws sw : List Nat} {ld st : Nat} (w : World) (h : Sit w L A G T I J cap capS base ps cs rv ws sw ld st) {k : Nat} (hk : k < 4) (h0 : rv k = []) (u v : Value) :
    Calls Tryd.prog 28 #[.pointer (some ⟨L, 3 + k, none⟩), u, v] w fun e w' => e = .returned (.int .i64 12) ∧ w = w' := by
  have hcv := h.ls.cv k hk
  rw [h0, List.length_nil] at hcv
  clear h
  go_enter Tryd.func28, Tryd.ntmps28
  go_wp2
  go_ret
  exact ⟨rfl, rfl⟩

/-- Less of a list's row. -/
theorem take_row {w : World} {base cap n m : Nat} {g : Addr} {l : List Nat} {a : Nat} (h : w.ownsRow base 3 1 (.slice (some g) n cap) n (cellsK (l ++ [a]))) (hn : n = l.length + 1) (hm : m = l.length) :
    w.ownsRow base 3 1 (.slice (some g) m cap) m (cellsK l) := by
  subst hm hn
  have h2 := Row.owns_less h (Nat.le_succ l.length)
  have e : (cellsK (l ++ [a])).take l.length = cellsK l := by simp [cellsK]
  rw [e] at h2
  exact h2

set_option maxRecDepth 100000 in
set_option maxHeartbeats 2000000 in
theorem take1_out {L A G T I J cap capS base : Nat} {ps : Nat → Option Addr} {cs : Nat → Nat} {rv : Nat → List Nat} {ws sw : List Nat} {ld st : Nat} {l : List Nat} (w : World) (h : Sit w L A G T I J cap capS base ps cs rv ws sw ld st) {k a p q : Nat} {u : Value} (hk : k < 4) (hfa : rv k = l ++ [a]) (ha : a ≤ ws.length)
    (hlp : ¬ Own L A G I J ps p) (hlq : ¬ Own L A G I J ps q) (hpq : p ≠ q)
    (hp : w.cell? ⟨p, 0, none⟩ = some (.pointer (some ⟨L, 0, none⟩))) (hq : w.cell? ⟨q, 0, none⟩ = some u) (hqf : w.frozen? ⟨q, 0, none⟩ = false) (hin : hasB sw a = true) :
    Calls Tryd.prog 28 #[.pointer (some ⟨L, 3 + k, none⟩), .pointer (some ⟨q, 0, none⟩), .pointer (some ⟨p, 0, none⟩)] w fun e w' => e = .returned (.int .i64 0) ∧
      ∃ p' c', Sit w' L A G T I J cap capS base (upd ps k p') (upd cs k c') (upd rv k l) ws (putW sw a) ld st ∧ w'.cell? ⟨q, 0, none⟩ = some (.int .i64 a) ∧ Chg (fun j => Own L A G I J ps j ∨ j = q) w w' ∧ ∀ j, Own L A G I J (upd ps k p') j → Own L A G I J ps j ∨ w.heap.size ≤ j := by
  have hcv := h.ls.cv k hk
  have hfr := front_any (rv k) w (by have := h.ls.len k hk; omega) (h.ls.own k hk)
  have hll := h.ls.len k hk
  have hlen : (rv k).length = l.length + 1 := by rw [hfa]; simp
  have hsome : ∃ g, ps k = some g ∧ (rv k).length ≤ cs k := by
    obtain ⟨_, ⟨_, h2⟩ | ⟨g, c, cur, e1, e2, e3, e4, r⟩⟩ := h.ls.own k hk
    · omega
    · simp only [Value.slice.injEq] at e1
      exact ⟨_, e1.1, by omega⟩
  obtain ⟨g, hg, hcap⟩ := hsome
  rw [hfa, lastN_snoc, ← hfa] at hfr
  rw [hlen] at hcv hfr hcap hll
  have hpl : p < w.heap.size := World.block_lt_of_cell? w _ hp
  have hql : q < w.heap.size := World.block_lt_of_cell? w _ hq
  have hLq : L ≠ q := fun e => hlq (.inl e.symm)
  have hC1 : Chg (fun j => j = q) w (w.setCell ⟨q, 0, none⟩ (.int .i64 a)) := Chg.set (S := fun j => j = q) (Chg.refl _ w) (.inl rfl) _
  have HT1 := Lib.hid (h.chg hC1 (fun j hj e => hlq (e ▸ hj)))
  have hp1 : (w.setCell ⟨q, 0, none⟩ (.int .i64 a)).cell? ⟨p, 0, none⟩ = some (.pointer (some ⟨L, 0, none⟩)) := by rw [other (by first | (simp; done) | (simp; omega))]; exact hp
  have hq1 : (w.setCell ⟨q, 0, none⟩ (.int .i64 a)).cell? ⟨q, 0, none⟩ = some (.int .i64 a) := same hq
  have HC1 := Lib.hid (hC1.mono (T := fun j => Own L A G I J ps j ∨ j = q) fun _ e => .inr e)
  have HFR := Lib.hid hfr
  have HFA := Lib.hid hfa
  have HLEN := Lib.hid hlen
  have HG := Lib.hid hg
  clear h hC1 hfr hfa hlen hg
  go_enter Tryd.func28, Tryd.ntmps28
  go_wp2_with (go_at_call 29; refine HFR.out.mono ?_; rintro e w' ⟨rfl, rfl⟩)
  generalize w.setCell ⟨q, 0, none⟩ (.int .i64 a) = w1 at *
  have hci1 := HT1.out.ls.ci
  have HK0 := Lib.hid (show w1.drew.cell? ⟨p, 0, none⟩ = some (.pointer (some ⟨L, 0, none⟩)) ∧ w1.drew.cell? ⟨q, 0, none⟩ = some (.int .i64 a) ∧ w1.drew.cell? ⟨L, 2, none⟩ = some (.pointer (some ⟨I, 0, none⟩)) from ⟨hp1, hq1, hci1⟩)
  have HK4 := Lib.hid (fun (W : World) (h2 : ∀ j, j ≠ J → W.heap[j]? = (w1.drewN 1).heap[j]?) => (⟨(cell_of_block (a := ⟨p, 0, none⟩) (h2 p (fun e => hlp (.inr (.inr (.inr (.inr (.inl e)))))))).trans hp1, (cell_of_block (a := ⟨q, 0, none⟩) (h2 q (fun e => hlq (.inr (.inr (.inr (.inr (.inl e)))))))).trans hq1, (cell_of_block (a := ⟨L, 2, none⟩) (h2 L HT1.out.five.lj)).trans hci1⟩ : W.cell? ⟨p, 0, none⟩ = some (.pointer (some ⟨L, 0, none⟩)) ∧ W.cell? ⟨q, 0, none⟩ = some (.int .i64 a) ∧ W.cell? ⟨L, 2, none⟩ = some (.pointer (some ⟨I, 0, none⟩))))
  go_region_held3 (fun W => W.cell? ⟨p, 0, none⟩ = some (.pointer (some ⟨L, 0, none⟩)) ∧ W.cell? ⟨q, 0, none⟩ = some (.int .i64 a) ∧ W.cell? ⟨L, 2, none⟩ = some (.pointer (some ⟨I, 0, none⟩)))
    (first | exact HK0.out | assumption | exact HK4.out _ h24)
    (first | (go_at_call 30; refine (in_sit _ (HT1.out.drewN _) a false ha (by rw [hin]; rfl)).mono ?_; rintro e w4 ⟨rfl, hT4, hg4, h24⟩))
  have hS4 : w4.cell? ⟨p, 0, none⟩ = some (.pointer (some ⟨L, 0, none⟩)) ∧ w4.cell? ⟨q, 0, none⟩ = some (.int .i64 a) ∧ w4.cell? ⟨L, 2, none⟩ = some (.pointer (some ⟨I, 0, none⟩)) := by assumption
  obtain ⟨hp4, hq4, _⟩ := hS4
  clear HK0 HK4
  have hcv4 := hT4.ls.cv k hk
  have hfv4 := hT4.ls.fv k hk
  rw [HLEN.out, HG.out] at hcv4
  have HF := Lib.hid (hT4.lay hk (p' := some g) (c' := cs k) (l := l) (by omega) (Chg.refl _ w4) (take_row (a := a) (by have := hT4.ls.own k hk; rw [HG.out, HFA.out] at this; exact this) (by simp) rfl) (fun j hj => by rw [HG.out]; exact .inl hj))
  have HC4 := Lib.hid (own_trans (HC1.out.drewN 1) (hg4.mono (T := fun j => Own L A G I J ps j ∨ j = q) fun _ e => .inl e))
  clear hT4 hg4 h24 hq1 hp1 hci1 HFR HT1
  rw [HG.out]
  generalize hm : l.length = m at *
  have hlast : ((m + 1 : Nat) : Int) - 1 = m := by omega
  have i1 : (0 : Int) ≤ (m : Int) := Int.natCast_nonneg _
  go_wp2_with fail
  go_region
  all_goals go_wp2
  all_goals go_ret
  all_goals exact ⟨rfl, some g, cs k, HF.out.1.drewN 1, (other (by first | (simp [hLq]; done) | (simp; omega))).trans hq4, (own_trans HC4.out (HF.out.2.1.mono (T := fun j => Own L A G I J ps j ∨ j = q) fun _ e => .inl e)).drewN 1, fun j hj => (HF.out.2.2.1 j hj).imp id (fun h => by have := HC4.out.size; omega)⟩

theorem two_new' {w : World} (u v : Value) (s t : TypeId) : Below w.heap.size w ((w.alloc (.cells #[u] s)).alloc (.cells #[v] t)) := ((Below.refl _ _).alloc (Nat.le_refl _) _).alloc (by simp) _
set_option maxRecDepth 100000 in
set_option maxHeartbeats 1000000 in
theorem take_none {L A G T I J cap capS base : Nat} {ps : Nat → Option Addr} {cs : Nat → Nat} {rv : Nat → List Nat} {ws sw : List Nat} {ld st : Nat} (w : World) (h : Sit w L A G T I J cap capS base ps cs rv ws sw ld st) (k : Nat) (hk : k < 4) (h0 : rv k = []) :
    Calls Tryd.prog 9 #[.pointer (some ⟨L, 0, none⟩), .int .i64 k] w fun e w' => e = .returned (.tuple #[.int .i64 0, .int .i64 12]) ∧ Below w.heap.size w w' := by
  have hi := isB_true.2 ⟨Int.natCast_nonneg k, by omega⟩
  have i1 : (0 : Int) ≤ (k : Int) := Int.natCast_nonneg _
  have i2 : (k : Int) < 4 := by omega
  have HS := Lib.hid h
  have H0 := Lib.hid h0
  clear h h0
  go_enter Tryd.func9, Tryd.ntmps9
  go_wp2_with (first
    | (go_at_call 28; refine (take1_none _ (HS.out.later (two_new' ..)) hk H0.out _ _).mono ?_; rintro e w' ⟨rfl, rfl⟩)
    | (go_at_call 50; refine (is_any k _).mono ?_; rintro e w' ⟨rfl, rfl⟩; rw [hi])
    | go_enter Tryd.func27, Tryd.ntmps27)
  go_ret2
  exact ⟨rfl, two_new' ..⟩
set_option maxRecDepth 100000 in
set_option maxHeartbeats 1000000 in
theorem take_good {L A G T I J cap capS base : Nat} {ps : Nat → Option Addr} {cs : Nat → Nat} {rv : Nat → List Nat} {ws sw : List Nat} {ld st : Nat} {l : List Nat} (w : World) (h : Sit w L A G T I J cap capS base ps cs rv ws sw ld st) (k a : Nat) (hk : k < 4) (hfa : rv k = l ++ [a]) (ha : a ≤ ws.length) (hin : hasB sw a = true) :
    Calls Tryd.prog 9 #[.pointer (some ⟨L, 0, none⟩), .int .i64 k] w fun e w' => e = .returned (.tuple #[.int .i64 a, .int .i64 0]) ∧
      ∃ p' c', Sit w' L A G T I J cap capS base (upd ps k p') (upd cs k c') (upd rv k l) ws (putW sw a) ld st ∧ Chg (Own L A G I J ps) w w' ∧ ∀ j, Own L A G I J (upd ps k p') j → Own L A G I J ps j ∨ w.heap.size ≤ j := by
  have hi := isB_true.2 ⟨Int.natCast_nonneg k, by omega⟩
  have i1 : (0 : Int) ≤ (k : Int) := Int.natCast_nonneg _
  have i2 : (k : Int) < 4 := by omega
  have HS := Lib.hid h
  have HFA := Lib.hid hfa
  have HIN := Lib.hid hin
  have HO := Lib.hid (show ∀ j, w.heap.size ≤ j → ¬ Own L A G I J ps j from fun j hj ho => by have := HS.out.ltO ho; omega)
  clear h hfa hin
  go_enter Tryd.func9, Tryd.ntmps9
  go_wp2_with (first
    | (go_at_call 28; refine (take1_out _ (HS.out.later (two_new' ..)) (u := .int .i64 0) hk HFA.out ha (HO.out _ (by omega)) (HO.out _ (by omega)) (by omega) (by simp) (by simp) (by simp) HIN.out).mono ?_; rintro e w3 ⟨rfl, p3, c3, hT3, hq3, hC3, hR3⟩)
    | (go_at_call 50; refine (is_any k _).mono ?_; rintro e w' ⟨rfl, rfl⟩; rw [hi])
    | go_enter Tryd.func27, Tryd.ntmps27)
  go_ret2
  have hB := two_new' (w := w) (.pointer (some ⟨L, 0, none⟩)) (.int .i64 0) 30 3
  exact ⟨rfl, _, _, hT3, ⟨hC3.os.trans hB.os, hC3.tape.trans hB.tape, hC3.output.trans hB.output, Nat.le_trans hB.size hC3.size, fun i hi hn => (hC3.block i (Nat.lt_of_lt_of_le hi hB.size) (fun e => e.elim hn (fun e => by omega))).trans (hB.block i hi)⟩, fun j hj => (hR3 j hj).imp id (fun h => Nat.le_trans hB.size h)⟩
end Go.Proofs.YtooojajagkbhiaaDoor.Lis
