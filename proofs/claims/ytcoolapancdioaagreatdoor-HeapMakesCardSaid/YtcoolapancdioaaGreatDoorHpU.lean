/-
  Color and Paint of a heap; its config, its table, its free slots.
-/
import Derived.Test.YtcoolapancdioaaGreatDoorHpT
import Derived.Test.YtcoolapancdioaaGreatDoorHpQ
namespace Go.Proofs.YtcoolapancdioaaGreatDoor.Hp
open Go.RowKit Go.Shelf
open Class (isB isB_true isB_false sizI roomI below_drewN)
open Blk (Cfg TbIs kAt cellsF collect_any cellsK)
open Go.Proofs.YtcoolapancdioaaGreatDoor.Row (Chg cellsZ)
open Bits (SetIs)
open Go.Proofs.YtcoolapancdioaaGreatDoor.Addr (Tabs)

/-- What Color tells. -/
def coE (s : St) (a : Int) : Int := if bnI s a = true then 0 else 1
def coV (s : St) (a : Int) : Int := if bnI s a = true then (if hasB s.os a.toNat = true then 1 else 0) else 0
set_option maxRecDepth 100000 in
set_option maxHeartbeats 2000000 in
theorem color1_any {H : Nat} {d : Ids} {s : St} {m : Nat} (a : Nat) (o q r : Nat) (w : World) (h : Is w H d s m) (h2 : a ≤ s.ws.length)
    (hq : w.cell? ⟨o, 0, none⟩ = some (.pointer (some ⟨H, 0, none⟩))) (hr : w.cell? ⟨q, 0, none⟩ = some (.int .i64 a)) (hc : w.cell? ⟨r, 0, none⟩ = some (.int .i64 0)) (hf : w.frozen? ⟨r, 0, none⟩ = false) :
    Calls Tryz.prog 65 #[.pointer (some ⟨o, 0, none⟩), .pointer (some ⟨q, 0, none⟩), .pointer (some ⟨r, 0, none⟩)] w fun e w' => e = .returned (.int .i64 0) ∧ ∃ n, w' = if hasB s.os a = true then (w.drewN n).setCell ⟨r, 0, none⟩ (.int .i64 1) else w.drewN n := by
  have hcO := h.cO
  have hm : Bits.mayB (a : Int) (s.ws.length + 1 : Nat) = true := by simp [Bits.mayB]; omega
  have HH : ∀ n, Calls Tryz.prog 66 #[.pointer (some ⟨d.O, 0, none⟩), .int .i64 (a : Nat)] (w.drewN n) fun e w' => e = .returned (.bool (hasB s.os a)) ∧ ∃ m, w' = w.drewN m := fun n => by
    refine (Bits.has_any _ _ _ _ _ (a : Int) _ (h.drewN n).ones).mono ?_
    rintro e w' ⟨rfl, m, rfl⟩
    exact ⟨by rw [hm, Int.toNat_natCast, Bool.true_and], n + m, World.drewN_drewN ..⟩
  clear h hm
  cases hb : hasB s.os a with
  | false =>
    rw [hb] at HH
    go_enter Tryz.func65, Tryz.ntmps65
    go_wp2
    go_quiet ((go_at_call 66; exact HH _))
    go_wp2
    go_ret
    exact ⟨rfl, _, rfl⟩
  | true =>
    rw [hb] at HH
    go_enter Tryz.func65, Tryz.ntmps65
    go_wp2
    go_quiet ((go_at_call 66; exact HH _))
    go_wp2
    all_goals go_ret
    all_goals exact ⟨rfl, _, rfl⟩

theorem three_cells {w : World} {u v x : Value} {r s t : TypeId} : (((w.alloc (.cells #[u] r)).alloc (.cells #[v] s)).alloc (.cells #[x] t)).cell? ⟨w.heap.size, 0, none⟩ = some u ∧ (((w.alloc (.cells #[u] r)).alloc (.cells #[v] s)).alloc (.cells #[x] t)).cell? ⟨w.heap.size + 1, 0, none⟩ = some v ∧ (((w.alloc (.cells #[u] r)).alloc (.cells #[v] s)).alloc (.cells #[x] t)).cell? ⟨w.heap.size + 1 + 1, 0, none⟩ = some x ∧ (((w.alloc (.cells #[u] r)).alloc (.cells #[v] s)).alloc (.cells #[x] t)).frozen? ⟨w.heap.size + 1 + 1, 0, none⟩ = false := by
  obtain ⟨e1, e2, e3⟩ := three_kept (S := fun _ => False) (fun _ _ => id) (Chg.refl _ (((w.alloc (.cells #[u] r)).alloc (.cells #[v] s)).alloc (.cells #[x] t)))
  refine ⟨e1, e2, e3, ?_⟩
  have e : w.heap.size + 1 + 1 = ((w.alloc (.cells #[u] r)).alloc (.cells #[v] s)).heap.size := by simp
  rw [e]
  unfold World.frozen?
  rw [show (⟨((w.alloc (.cells #[u] r)).alloc (.cells #[v] s)).heap.size, 0, none⟩ : Addr).block = ((w.alloc (.cells #[u] r)).alloc (.cells #[v] s)).heap.size from rfl, World.alloc_heap_new]
  rfl
set_option maxRecDepth 100000 in
set_option maxHeartbeats 2000000 in
theorem color_any' {H : Nat} {d : Ids} {s : St} {m : Nat} (a : Int) (w : World) (h : Is w H d s m) :
    Calls Tryz.prog 18 #[.pointer (some ⟨H, 0, none⟩), .int .i64 a] w fun e w' => e = .returned (.tuple #[.int .i64 (coV s a), .int .i64 (coE s a)]) ∧ Below w.heap.size w w' := by
  have hb0 : Below w.heap.size w (((w.alloc (.cells #[.pointer (some ⟨H, 0, none⟩)] 27)).alloc (.cells #[.int .i64 a] 3)).alloc (.cells #[.int .i64 0] 3)) := three_new _ _ _ _ _ _
  have HB0 := Lib.hid hb0
  have HI := Lib.hid (h.later hb0)
  have HIS := Lib.hid (isO_any a _ (h.later hb0))
  have HC3 := Lib.hid (three_cells (w := w) (u := .pointer (some ⟨H, 0, none⟩)) (v := .int .i64 a) (x := .int .i64 0) (r := 27) (s := 3) (t := 3))
  unfold coV coE
  cases hb : bnI s a with
  | false =>
    rw [hb] at HIS
    rw [if_neg (by simp), if_neg (by simp)]
    have c3 := HC3.out.2.2.1
    clear h hb0
    go_enter Tryz.func18, Tryz.ntmps18
    go_wp2_with (first
      | go_enter Tryz.func64, Tryz.ntmps64
      | (go_at_call 20; refine HIS.out.mono ?_; rintro e w1 ⟨rfl, q, rfl⟩))
    go_ret2
    exact ⟨rfl, below_drewN HB0.out _⟩
  | true =>
    rw [hb] at HIS
    rw [if_pos rfl, if_pos rfl]
    obtain ⟨n, rfl⟩ : ∃ n : Nat, a = (n : Int) := by
      have hb2 := hb
      unfold bnI at hb2
      rw [Bool.and_eq_true, decide_eq_true_eq] at hb2
      exact ⟨a.toNat, by omega⟩
    rw [bnI_nat] at hb
    rw [Int.toNat_natCast]
    have hbd := h.wf.bn_bd hb
    have HC := Lib.hid (fun (j : Nat) (o q r : Nat) hq hr hc hf => color1_any (m := m) n o q r _ (HI.out.drewN j) hbd.2 hq hr hc hf)
    clear h hb0
    have c3 := HC3.out.2.2.1
    cases hbb : hasB s.os n with
    | false =>
      rw [hbb] at HC
      rw [if_neg (by simp)]
      go_enter Tryz.func18, Tryz.ntmps18
      go_wp2_with (first
        | go_enter Tryz.func64, Tryz.ntmps64
        | (go_at_call 20; refine HIS.out.mono ?_; rintro e w1 ⟨rfl, q, rfl⟩)
        | (go_at_call 65; refine (HC.out q _ _ _ HC3.out.1 HC3.out.2.1 HC3.out.2.2.1 HC3.out.2.2.2).mono ?_; rintro e w2 ⟨rfl, k, hw2⟩; rw [if_neg (by simp), World.drewN_drewN] at hw2; subst hw2))
      go_ret2
      exact ⟨rfl, below_drewN HB0.out _⟩
    | true =>
      rw [hbb] at HC
      rw [if_pos rfl]
      have HSB := Lib.hid (fun (q k : Nat) => (⟨(below_drewN HB0.out (q + k)).setCell (p := ⟨w.heap.size + 1 + 1, 0, none⟩) (by show w.heap.size ≤ w.heap.size + 1 + 1; omega) (.int .i64 1), Row.same (u := .int .i64 0) HC3.out.2.2.1⟩ : Below w.heap.size w (((((w.alloc (.cells #[.pointer (some ⟨H, 0, none⟩)] 27)).alloc (.cells #[.int .i64 n] 3)).alloc (.cells #[.int .i64 0] 3)).drewN (q + k)).setCell ⟨w.heap.size + 1 + 1, 0, none⟩ (.int .i64 1)) ∧ (((((w.alloc (.cells #[.pointer (some ⟨H, 0, none⟩)] 27)).alloc (.cells #[.int .i64 n] 3)).alloc (.cells #[.int .i64 0] 3)).drewN (q + k)).setCell ⟨w.heap.size + 1 + 1, 0, none⟩ (.int .i64 1)).cell? ⟨w.heap.size + 1 + 1, 0, none⟩ = some (.int .i64 1)))
      go_enter Tryz.func18, Tryz.ntmps18
      go_wp2_with (first
        | go_enter Tryz.func64, Tryz.ntmps64
        | (go_at_call 20; refine HIS.out.mono ?_; rintro e w1 ⟨rfl, q, rfl⟩))
      refine (HC.out q _ _ _ HC3.out.1 HC3.out.2.1 HC3.out.2.2.1 HC3.out.2.2.2).mono ?_
      rintro e w2 ⟨rfl, k, hw2⟩
      rw [if_pos (by first | trivial | rfl), World.drewN_drewN] at hw2
      have hX := HSB.out q k
      rw [← hw2] at hX
      obtain ⟨hX1, hX2⟩ := hX
      have HX1 := Lib.hid hX1
      clear hX1 hw2
      go_wp2
      go_ret2
      exact ⟨rfl, HX1.out⟩
end Go.Proofs.YtcoolapancdioaaGreatDoor.Hp
