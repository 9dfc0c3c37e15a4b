/-
  What the calls of package bits tell of a set that isn't there: nothing; the law's list of none is empty.
-/
import Derived.Test.YtahhenbphnejiaaDoorBitsG
namespace Go.Proofs.YtahhenbphnejiaaDoor.Bits
open Go.RowKit Go.Shelf
attribute [local go_sem] Oper.semAt_some

theorem fill_nil (x : Bool) (w : World) : Calls Tryd.prog 27 #[.pointer none, .bool x] w fun e w' => e = .returned (.tuple #[]) ∧ w = w' := by
  go_enter Tryd.func27, Tryd.ntmps27
  go_wp2
  refine bodyPost_ret (results_none rfl _ _ _) rfl ?_
  exact ⟨rfl, rfl⟩
theorem count_nil (w : World) : Calls Tryd.prog 22 #[.pointer none] w fun e w' => e = .returned (.int .i64 0) ∧ w = w' := by
  go_enter Tryd.func22, Tryd.ntmps22
  go_wp2
  go_ret
  exact ⟨rfl, rfl⟩
theorem copy_nil (w : World) : Calls Tryd.prog 25 #[.pointer none] w fun e w' => e = .returned (.pointer none) ∧ w = w' := by
  go_enter Tryd.func25, Tryd.ntmps25
  go_wp2
  go_ret
  exact ⟨rfl, rfl⟩

theorem all_any (p : Option Addr) (w : World) : Calls Tryd.prog 50 #[.pointer p] w fun e w' => e = .returned (.func (.func 69) #[] #[.pointer (some ⟨w.heap.size, 0, none⟩)]) ∧ w.alloc (.cells #[.pointer p] 25) = w' := by
  go_enter Tryd.func50, Tryd.ntmps50
  go_wp2
  go_ret
  exact ⟨rfl, rfl⟩

theorem all_stops_nil (n : Nat) (Br : Nat) (encs : Nat → Array Value) (Kp : World → World → Prop) (w : World) (hBr : w.cell? ⟨Br, 0, none⟩ = some (.pointer none)) (hl : Br < w.heap.size) :
    SeqStopsK Fence.wide n Tryd.prog 69 #[.pointer (some ⟨Br, 0, none⟩)] encs Kp (fun ys => ys = []) (fun _ => False) 0 w := fun l J Jx W hW hJ _ _ h0 => by
  have hb := (hW.cell (p := ⟨Br, 0, none⟩) hl).trans hBr
  have hlt : Br < W.heap.size := Nat.lt_of_lt_of_le hl hW.size
  have hJ1 : ∀ o, J [] (W.alloc o) := fun o => hJ [] W (W.alloc o) none h0 (World.grownBy_alloc W o none) (fun r e => by cases e)
  refine callsIn_of_wp Tryd.func69 rfl trivial ?_ rfl
  simp only [Tryd.ntmps69, List.size_toArray, List.length_cons, List.length_nil, Nat.reduceAdd, Nat.reduceSub, Array.replicate_succ, Array.replicate_zero, List.push_toArray, List.append_toArray, List.nil_append, List.cons_append]
  gi_wp2
  refine bodyPost_ret (results_none rfl _ _ _) rfl ?_
  exact ⟨⟨_, rfl⟩, .inl ⟨[], rfl, hJ1 _⟩⟩

theorem eql_func_nil (f : Fn) (xs ys : Array Value) (w : World) : (binOp .eql 73 (.func f xs ys) .nilFunc).run Tryd.prog w = .ok (.bool false) w := by
  have hu := Tryd.underlying73
  have h : ∀ d : Nat, (Op.equalIn (d + 1) 73 (.func f xs ys) .nilFunc).run Tryd.prog w = .ok false w := fun d => by
    simp [Op.equalIn, run_underlying hu]
  simp only [binOp]
  simp [Op.equal, Op.maxDepth, h 9999]

set_option maxRecDepth 100000 in
set_option maxHeartbeats 2000000 in
theorem list_nil (z : Int) (w : World) : Calls Tryd.prog 24 #[.pointer none, .int .i64 z] w fun e w' => e = .returned (.slice none 0 0) ∧ Below w.heap.size w w' := by
  have heq := fun f xs ys w => eql_func_nil f xs ys w
  refine (callsIn_wide (n := 5)).1 ?_
  refine callsIn_of_wp_marks Tryd.func24 rfl trivial ?_ rfl
  simp only [Tryd.ntmps24, List.size_toArray, List.length_cons, List.length_nil, Nat.reduceAdd, Nat.reduceSub, Array.replicate_succ, Array.replicate_zero, List.push_toArray, List.append_toArray, List.nil_append, List.cons_append]
  gi_wp2_with (refine ⟨trivial, ?_⟩; gi_at_call 50; refine (callsIn_wide.2 (all_any _ _)).mono ?_; rintro e w' ⟨rfl, rfl⟩)
  clear heq
  generalize hW : World.alloc _ _ = W0
  have c5 : Boxed W0 (w.heap.size + 1) 35 (.slice none 0 0) := by
    have h := Boxed.new (w.alloc (.cells #[.int .i64 z] 3)) 35 (.slice none 0 0)
    simp only [World.size_alloc] at h
    rw [← hW]; exact h.alloc _
  have c6 : Boxed W0 (w.heap.size + 1 + 1) 25 (.pointer none) := by
    have h := Boxed.new ((w.alloc (.cells #[.int .i64 z] 3)).alloc (.cells #[.slice none 0 0] 35)) 25 (.pointer none)
    simp only [World.size_alloc] at h
    rw [← hW]; exact h
  have hsz : w.heap.size ≤ W0.heap.size := by have := c5.lt; omega
  have hB0 : Below w.heap.size w W0 := by
    rw [← hW]
    exact (((Below.refl _ w).alloc (Nat.le_refl _) _).alloc (by simp) _).alloc (by simp; omega) _
  clear hW
  refine wpIn_rangeFunc_ownG rfl (by decide) (gf := 69) (lb := #[.pointer (some ⟨w.heap.size + 1 + 1, 0, none⟩)]) rfl trivial (enters_of Tryd.func69 (by kernel_rfl) rfl)
    (all_stops_nil 4 (w.heap.size + 1 + 1) (fun x => #[.int .i64 x]) (Below w.heap.size) _ c6.cell c6.lt) belowK_t (belowK_b hsz) (Below.refl _ _) (fun _ => rfl)
    (fun _ W => Boxed W (w.heap.size + 1) 35 (.slice none 0 0) ∧ Below w.heap.size w W) (fun _ _ _ => False)
    (fun s X Y row hx hg hr => ⟨boxed_keep hx.1 hg (fun r e => (hr r e).2), hx.2.grown hg hx.2.size (fun k e => Nat.le_trans hsz (hr k e).1)⟩)
    (fun _ _ _ _ _ hs _ _ => hs)
    ⟨c5, hB0⟩
    (fun x => { tmps := #[.pointer none, .int .i64 z, undef, .pointer (some ⟨w.heap.size, 0, none⟩), .slice none 0 0, .pointer (some ⟨w.heap.size + 1, 0, none⟩), .func (.func 69) #[] #[.pointer (some ⟨w.heap.size + 1 + 1, 0, none⟩)], .int .i64 x,
      .pointer none, .func (.func 69) #[] #[.pointer (some ⟨w.heap.size + 1 + 1, 0, none⟩)], .func (.func 69) #[] #[.pointer (some ⟨w.heap.size + 1 + 1, 0, none⟩)], .bool false, undef, .func (.func 69) #[] #[.pointer (some ⟨w.heap.size + 1 + 1, 0, none⟩)], .int .i64 x, undef, undef, undef, undef, undef, undef, undef, undef, undef], defers := [] }) ?assign ?body ?done ?stop
  case assign =>
    intro l x W K hK
    gi_wp2
    exact hK
  case body =>
    intro l pre x W _ hlt
    exact absurd hlt (Nat.not_lt_zero _)
  case done =>
    rintro D ys W hD rfl ⟨b5, hB⟩ hK
    have k5 := b5.cell
    gi_wp2
    refine ⟨by simp, .inl ⟨_, _, rfl, run_takeDeferred hK, ?_⟩⟩
    exact ⟨_, results_tmp rfl _ _ _, rfl, hB.trans (belowK_b (w := w) (Nat.le_refl _) W D _ _ (by omega) hK rfl rfl)⟩
  case stop =>
    rintro D c pre W _ _ h _
    exact h.elim
end Go.Proofs.YtahhenbphnejiaaDoor.Bits
