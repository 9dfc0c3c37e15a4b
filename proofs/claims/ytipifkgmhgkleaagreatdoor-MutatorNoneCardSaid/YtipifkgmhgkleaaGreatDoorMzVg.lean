/-
  Texts one behind the other: MvR MvS (theorems that nobody names are left out).
-/
import Derived.Test.YtipifkgmhgkleaaGreatDoorMzVf
import Derived.MapKept
namespace Go.Proofs.YtipifkgmhgkleaaGreatDoor.Mv
open Go.RowKit
open Class (clsI)
open Mu (Sy Sd Ml Md lt_of_cell O4 CellsL mutA)
open Go.Proofs.YtipifkgmhgkleaaGreatDoor.Row (Chg rowB Rd other same)
section
variable {b : Ba} {z : Ml} {m : Md} {w : World} {x : Sd} {L : List (Nat × Nat × Value)} {Q : List (K × Value)}
set_option maxRecDepth 100000 in
set_option maxHeartbeats 1000000 in
/-- get. -/
theorem dd_get (o : O4) (h : Cx b (mxR b.y z m) w x L Q) (hf : Fits b z) :
    Calls Tryz.prog 148 #[.pointer (some ⟨z.M, 0, none⟩), .agg #[.int .i64 o.1, .int .i64 o.2.1, .int .i64 o.2.2.1, .int .i64 o.2.2.2]] w fun e w' => ∃ g c2, e = .returned (.func (.func g) #[] c2) ∧ Cx b (mxR b.y z m) w' x L ((.take o.2.1 (.get o), fn g c2) :: Q) := by
  obtain ⟨W1, hW1⟩ : ∃ W1, ((w.alloc (.cells #[pt z.M] 30)).alloc (.cells #[.int .i64 o.1, .int .i64 o.2.1, .int .i64 o.2.2.1, .int .i64 o.2.2.2] 72)) = W1 := ⟨_, rfl⟩
  obtain ⟨LL, hLL⟩ : ∃ LL, bxs w.heap.size [([pt z.M], 30), ([.int .i64 o.1, .int .i64 o.2.1, .int .i64 o.2.2.1, .int .i64 o.2.2.2], 72)] ++ L = LL := ⟨_, rfl⟩
  have H : Cx b (mxR b.y z m) W1 x LL Q := by rw [← hW1, ← hLL]; exact h.allocs [([pt z.M], 30), ([.int .i64 o.1, .int .i64 o.2.1, .int .i64 o.2.2.1, .int .i64 o.2.2.2], 72)]
  have A0_0 : (w.heap.size, 0, pt z.M) ∈ LL := by rw [← hLL]; simp [bxs, cellsOf]
  have A1_0 : (w.heap.size + 1, 0, .int .i64 o.1) ∈ LL := by rw [← hLL]; simp [bxs, cellsOf]
  have A1_1 : (w.heap.size + 1, 1, .int .i64 o.2.1) ∈ LL := by rw [← hLL]; simp [bxs, cellsOf]
  have A1_2 : (w.heap.size + 1, 2, .int .i64 o.2.2.1) ∈ LL := by rw [← hLL]; simp [bxs, cellsOf]
  have A1_3 : (w.heap.size + 1, 3, .int .i64 o.2.2.2) ∈ LL := by rw [← hLL]; simp [bxs, cellsOf]
  have hsub : ∀ p ∈ L, p ∈ LL := fun p hp => by rw [← hLL]; exact List.mem_append_right _ hp
  have e0_0 := H.at A0_0
  have e1_1 := H.at A1_1
  have HH := Lib.hid H
  have HT := Lib.hid (mk_take o.2.1 (.get o) (H.push (q := .rk (.get o)) (v := fn 205 #[pt w.heap.size, pt (w.heap.size + 1)]) fun O hL hQ => ⟨_, _, rfl, by rw [hf.a]; exact hL _ A0_0, ⟨hL _ A1_0, hL _ A1_1, hL _ A1_2, hL _ A1_3⟩⟩) (List.mem_cons_self ..))
  rw [hf.a] at HT
  have HS := Lib.hid hsub
  clear h H hLL hsub hf A0_0 A1_0 A1_1 A1_2 A1_3
  go_enter Tryz.func148, Tryz.ntmps148
  go_wp2_with (go_at_call 197; fail)
  refine HT.out.mono ?_
  rintro e w2 ⟨g, c2, rfl, h2⟩
  have H2 := Lib.hid h2
  clear h2
  go_wp2_with fail
  go_ret
  refine ⟨_, _, rfl, H2.out.less HS.out (fun p hp => ?_)⟩
  rcases List.mem_cons.1 hp with rfl | hp
  · exact List.mem_cons_self ..
  · exact List.mem_cons_of_mem _ (List.mem_cons_of_mem _ hp)
set_option maxRecDepth 100000 in
set_option maxHeartbeats 1000000 in
/-- move. -/
theorem dd_move (o : O4) (h : Cx b (mxR b.y z m) w x L Q) (hf : Fits b z) :
    Calls Tryz.prog 151 #[.pointer (some ⟨z.M, 0, none⟩), .agg #[.int .i64 o.1, .int .i64 o.2.1, .int .i64 o.2.2.1, .int .i64 o.2.2.2]] w fun e w' => ∃ g c2, e = .returned (.func (.func g) #[] c2) ∧ Cx b (mxR b.y z m) w' x L ((.take o.2.1 (.move o), fn g c2) :: Q) := by
  obtain ⟨W1, hW1⟩ : ∃ W1, ((w.alloc (.cells #[pt z.M] 30)).alloc (.cells #[.int .i64 o.1, .int .i64 o.2.1, .int .i64 o.2.2.1, .int .i64 o.2.2.2] 72)) = W1 := ⟨_, rfl⟩
  obtain ⟨LL, hLL⟩ : ∃ LL, bxs w.heap.size [([pt z.M], 30), ([.int .i64 o.1, .int .i64 o.2.1, .int .i64 o.2.2.1, .int .i64 o.2.2.2], 72)] ++ L = LL := ⟨_, rfl⟩
  have H : Cx b (mxR b.y z m) W1 x LL Q := by rw [← hW1, ← hLL]; exact h.allocs [([pt z.M], 30), ([.int .i64 o.1, .int .i64 o.2.1, .int .i64 o.2.2.1, .int .i64 o.2.2.2], 72)]
  have A0_0 : (w.heap.size, 0, pt z.M) ∈ LL := by rw [← hLL]; simp [bxs, cellsOf]
  have A1_0 : (w.heap.size + 1, 0, .int .i64 o.1) ∈ LL := by rw [← hLL]; simp [bxs, cellsOf]
  have A1_1 : (w.heap.size + 1, 1, .int .i64 o.2.1) ∈ LL := by rw [← hLL]; simp [bxs, cellsOf]
  have A1_2 : (w.heap.size + 1, 2, .int .i64 o.2.2.1) ∈ LL := by rw [← hLL]; simp [bxs, cellsOf]
  have A1_3 : (w.heap.size + 1, 3, .int .i64 o.2.2.2) ∈ LL := by rw [← hLL]; simp [bxs, cellsOf]
  have hsub : ∀ p ∈ L, p ∈ LL := fun p hp => by rw [← hLL]; exact List.mem_append_right _ hp
  have e0_0 := H.at A0_0
  have e1_1 := H.at A1_1
  have HH := Lib.hid H
  have HT := Lib.hid (mk_take o.2.1 (.move o) (H.push (q := .rk (.move o)) (v := fn 211 #[pt w.heap.size, pt (w.heap.size + 1)]) fun O hL hQ => ⟨_, _, rfl, by rw [hf.a]; exact hL _ A0_0, ⟨hL _ A1_0, hL _ A1_1, hL _ A1_2, hL _ A1_3⟩⟩) (List.mem_cons_self ..))
  rw [hf.a] at HT
  have HS := Lib.hid hsub
  clear h H hLL hsub hf A0_0 A1_0 A1_1 A1_2 A1_3
  go_enter Tryz.func151, Tryz.ntmps151
  go_wp2_with (go_at_call 197; fail)
  refine HT.out.mono ?_
  rintro e w2 ⟨g, c2, rfl, h2⟩
  have H2 := Lib.hid h2
  clear h2
  go_wp2_with fail
  go_ret
  refine ⟨_, _, rfl, H2.out.less HS.out (fun p hp => ?_)⟩
  rcases List.mem_cons.1 hp with rfl | hp
  · exact List.mem_cons_self ..
  · exact List.mem_cons_of_mem _ (List.mem_cons_of_mem _ hp)
set_option maxRecDepth 100000 in
set_option maxHeartbeats 1000000 in
/-- drop. -/
theorem dd_drop (o : O4) (h : Cx b (mxR b.y z m) w x L Q) (hf : Fits b z) :
    Calls Tryz.prog 150 #[.pointer (some ⟨z.M, 0, none⟩), .agg #[.int .i64 o.1, .int .i64 o.2.1, .int .i64 o.2.2.1, .int .i64 o.2.2.2]] w fun e w' => ∃ g c2, e = .returned (.func (.func g) #[] c2) ∧ Cx b (mxR b.y z m) w' x L ((.take o.2.1 .drop, fn g c2) :: Q) := by
  obtain ⟨W1, hW1⟩ : ∃ W1, (w.alloc (.cells #[.int .i64 o.1, .int .i64 o.2.1, .int .i64 o.2.2.1, .int .i64 o.2.2.2] 72)) = W1 := ⟨_, rfl⟩
  obtain ⟨LL, hLL⟩ : ∃ LL, bxs w.heap.size [([.int .i64 o.1, .int .i64 o.2.1, .int .i64 o.2.2.1, .int .i64 o.2.2.2], 72)] ++ L = LL := ⟨_, rfl⟩
  have H : Cx b (mxR b.y z m) W1 x LL Q := by rw [← hW1, ← hLL]; exact h.allocs [([.int .i64 o.1, .int .i64 o.2.1, .int .i64 o.2.2.1, .int .i64 o.2.2.2], 72)]
  have A0_0 : (w.heap.size, 0, .int .i64 o.1) ∈ LL := by rw [← hLL]; simp [bxs, cellsOf]
  have A0_1 : (w.heap.size, 1, .int .i64 o.2.1) ∈ LL := by rw [← hLL]; simp [bxs, cellsOf]
  have A0_2 : (w.heap.size, 2, .int .i64 o.2.2.1) ∈ LL := by rw [← hLL]; simp [bxs, cellsOf]
  have A0_3 : (w.heap.size, 3, .int .i64 o.2.2.2) ∈ LL := by rw [← hLL]; simp [bxs, cellsOf]
  have hsub : ∀ p ∈ L, p ∈ LL := fun p hp => by rw [← hLL]; exact List.mem_append_right _ hp
  have e0_1 := H.at A0_1
  have HH := Lib.hid H
  have HT := Lib.hid (mk_take o.2.1 .drop (H.push (q := .rk .drop) (v := fn 210 #[]) fun O hL hQ => rfl) (List.mem_cons_self ..))
  rw [hf.a] at HT
  have HS := Lib.hid hsub
  clear h H hLL hsub hf A0_0 A0_1 A0_2 A0_3
  go_enter Tryz.func150, Tryz.ntmps150
  go_wp2_with (go_at_call 197; fail)
  refine HT.out.mono ?_
  rintro e w2 ⟨g, c2, rfl, h2⟩
  have H2 := Lib.hid h2
  clear h2
  go_wp2_with fail
  go_ret
  refine ⟨_, _, rfl, H2.out.less HS.out (fun p hp => ?_)⟩
  rcases List.mem_cons.1 hp with rfl | hp
  · exact List.mem_cons_self ..
  · exact List.mem_cons_of_mem _ (List.mem_cons_of_mem _ hp)
set_option maxRecDepth 100000 in
set_option maxHeartbeats 1000000 in
/-- load. -/
theorem dd_load (o : O4) (h : Cx b (mxR b.y z m) w x L Q) (hf : Fits b z) :
    Calls Tryz.prog 146 #[.pointer (some ⟨z.M, 0, none⟩), .agg #[.int .i64 o.1, .int .i64 o.2.1, .int .i64 o.2.2.1, .int .i64 o.2.2.2]] w fun e w' => ∃ g c2, e = .returned (.func (.func g) #[] c2) ∧ Cx b (mxR b.y z m) w' x L ((.object o.2.2.1 o.2.2.2 (.ld o), fn g c2) :: Q) := by
  obtain ⟨W1, hW1⟩ : ∃ W1, ((w.alloc (.cells #[pt z.M] 30)).alloc (.cells #[.int .i64 o.1, .int .i64 o.2.1, .int .i64 o.2.2.1, .int .i64 o.2.2.2] 72)) = W1 := ⟨_, rfl⟩
  obtain ⟨LL, hLL⟩ : ∃ LL, bxs w.heap.size [([pt z.M], 30), ([.int .i64 o.1, .int .i64 o.2.1, .int .i64 o.2.2.1, .int .i64 o.2.2.2], 72)] ++ L = LL := ⟨_, rfl⟩
  have H : Cx b (mxR b.y z m) W1 x LL Q := by rw [← hW1, ← hLL]; exact h.allocs [([pt z.M], 30), ([.int .i64 o.1, .int .i64 o.2.1, .int .i64 o.2.2.1, .int .i64 o.2.2.2], 72)]
  have A0_0 : (w.heap.size, 0, pt z.M) ∈ LL := by rw [← hLL]; simp [bxs, cellsOf]
  have A1_0 : (w.heap.size + 1, 0, .int .i64 o.1) ∈ LL := by rw [← hLL]; simp [bxs, cellsOf]
  have A1_1 : (w.heap.size + 1, 1, .int .i64 o.2.1) ∈ LL := by rw [← hLL]; simp [bxs, cellsOf]
  have A1_2 : (w.heap.size + 1, 2, .int .i64 o.2.2.1) ∈ LL := by rw [← hLL]; simp [bxs, cellsOf]
  have A1_3 : (w.heap.size + 1, 3, .int .i64 o.2.2.2) ∈ LL := by rw [← hLL]; simp [bxs, cellsOf]
  have hsub : ∀ p ∈ L, p ∈ LL := fun p hp => by rw [← hLL]; exact List.mem_append_right _ hp
  have e0_0 := H.at A0_0
  have e1_2 := H.at A1_2
  have e1_3 := H.at A1_3
  have HH := Lib.hid H
  have HT := Lib.hid (mk_object o.2.2.1 o.2.2.2 (.ld o) (H.push (q := .th (.ld o)) (v := fn 196 #[pt w.heap.size, pt (w.heap.size + 1)]) fun O hL hQ => ⟨_, _, rfl, by rw [hf.a]; exact hL _ A0_0, ⟨hL _ A1_0, hL _ A1_1, hL _ A1_2, hL _ A1_3⟩⟩) (List.mem_cons_self ..))
  rw [hf.a] at HT
  have HS := Lib.hid hsub
  clear h H hLL hsub hf A0_0 A1_0 A1_1 A1_2 A1_3
  go_enter Tryz.func146, Tryz.ntmps146
  go_wp2_with (go_at_call 195; fail)
  refine HT.out.mono ?_
  rintro e w2 ⟨g, c2, rfl, h2⟩
  have H2 := Lib.hid h2
  clear h2
  go_wp2_with fail
  go_ret
  refine ⟨_, _, rfl, H2.out.less HS.out (fun p hp => ?_)⟩
  rcases List.mem_cons.1 hp with rfl | hp
  · exact List.mem_cons_self ..
  · exact List.mem_cons_of_mem _ (List.mem_cons_of_mem _ hp)
set_option maxRecDepth 100000 in
set_option maxHeartbeats 1000000 in
/-- store. -/
theorem dd_store (o : O4) (h : Cx b (mxR b.y z m) w x L Q) (hf : Fits b z) :
    Calls Tryz.prog 147 #[.pointer (some ⟨z.M, 0, none⟩), .agg #[.int .i64 o.1, .int .i64 o.2.1, .int .i64 o.2.2.1, .int .i64 o.2.2.2]] w fun e w' => ∃ g c2, e = .returned (.func (.func g) #[] c2) ∧ Cx b (mxR b.y z m) w' x L ((.object o.2.1 o.2.2.1 (.st o), fn g c2) :: Q) := by
  obtain ⟨W1, hW1⟩ : ∃ W1, ((w.alloc (.cells #[pt z.M] 30)).alloc (.cells #[.int .i64 o.1, .int .i64 o.2.1, .int .i64 o.2.2.1, .int .i64 o.2.2.2] 72)) = W1 := ⟨_, rfl⟩
  obtain ⟨LL, hLL⟩ : ∃ LL, bxs w.heap.size [([pt z.M], 30), ([.int .i64 o.1, .int .i64 o.2.1, .int .i64 o.2.2.1, .int .i64 o.2.2.2], 72)] ++ L = LL := ⟨_, rfl⟩
  have H : Cx b (mxR b.y z m) W1 x LL Q := by rw [← hW1, ← hLL]; exact h.allocs [([pt z.M], 30), ([.int .i64 o.1, .int .i64 o.2.1, .int .i64 o.2.2.1, .int .i64 o.2.2.2], 72)]
  have A0_0 : (w.heap.size, 0, pt z.M) ∈ LL := by rw [← hLL]; simp [bxs, cellsOf]
  have A1_0 : (w.heap.size + 1, 0, .int .i64 o.1) ∈ LL := by rw [← hLL]; simp [bxs, cellsOf]
  have A1_1 : (w.heap.size + 1, 1, .int .i64 o.2.1) ∈ LL := by rw [← hLL]; simp [bxs, cellsOf]
  have A1_2 : (w.heap.size + 1, 2, .int .i64 o.2.2.1) ∈ LL := by rw [← hLL]; simp [bxs, cellsOf]
  have A1_3 : (w.heap.size + 1, 3, .int .i64 o.2.2.2) ∈ LL := by rw [← hLL]; simp [bxs, cellsOf]
  have hsub : ∀ p ∈ L, p ∈ LL := fun p hp => by rw [← hLL]; exact List.mem_append_right _ hp
  have e0_0 := H.at A0_0
  have e1_1 := H.at A1_1
  have e1_2 := H.at A1_2
  have HH := Lib.hid H
  have HT := Lib.hid (mk_object o.2.1 o.2.2.1 (.st o) (H.push (q := .th (.st o)) (v := fn 200 #[pt w.heap.size, pt (w.heap.size + 1)]) fun O hL hQ => ⟨_, _, rfl, by rw [hf.a]; exact hL _ A0_0, ⟨hL _ A1_0, hL _ A1_1, hL _ A1_2, hL _ A1_3⟩⟩) (List.mem_cons_self ..))
  rw [hf.a] at HT
  have HS := Lib.hid hsub
  clear h H hLL hsub hf A0_0 A1_0 A1_1 A1_2 A1_3
  go_enter Tryz.func147, Tryz.ntmps147
  go_wp2_with (go_at_call 195; fail)
  refine HT.out.mono ?_
  rintro e w2 ⟨g, c2, rfl, h2⟩
  have H2 := Lib.hid h2
  clear h2
  go_wp2_with fail
  go_ret
  refine ⟨_, _, rfl, H2.out.less HS.out (fun p hp => ?_)⟩
  rcases List.mem_cons.1 hp with rfl | hp
  · exact List.mem_cons_self ..
  · exact List.mem_cons_of_mem _ (List.mem_cons_of_mem _ hp)
set_option maxRecDepth 100000 in
set_option maxHeartbeats 1000000 in
/-- safe. -/
theorem dd_safe (o : O4) (h : Cx b (mxR b.y z m) w x L Q) (hf : Fits b z) :
    Calls Tryz.prog 152 #[.pointer (some ⟨z.M, 0, none⟩), .agg #[.int .i64 o.1, .int .i64 o.2.1, .int .i64 o.2.2.1, .int .i64 o.2.2.2]] w fun e w' => ∃ g c2, e = .returned (.func (.func g) #[] c2) ∧ Cx b (mxR b.y z m) w' x L ((.safe, fn g c2) :: Q) := by
  obtain ⟨W1, hW1⟩ : ∃ W1, ((w.alloc (.cells #[pt z.M] 30)).alloc (.cells #[.int .i64 o.1, .int .i64 o.2.1, .int .i64 o.2.2.1, .int .i64 o.2.2.2] 72)) = W1 := ⟨_, rfl⟩
  obtain ⟨LL, hLL⟩ : ∃ LL, bxs w.heap.size [([pt z.M], 30), ([.int .i64 o.1, .int .i64 o.2.1, .int .i64 o.2.2.1, .int .i64 o.2.2.2], 72)] ++ L = LL := ⟨_, rfl⟩
  have H : Cx b (mxR b.y z m) W1 x LL Q := by rw [← hW1, ← hLL]; exact h.allocs [([pt z.M], 30), ([.int .i64 o.1, .int .i64 o.2.1, .int .i64 o.2.2.1, .int .i64 o.2.2.2], 72)]
  have A0_0 : (w.heap.size, 0, pt z.M) ∈ LL := by rw [← hLL]; simp [bxs, cellsOf]
  have A1_0 : (w.heap.size + 1, 0, .int .i64 o.1) ∈ LL := by rw [← hLL]; simp [bxs, cellsOf]
  have A1_1 : (w.heap.size + 1, 1, .int .i64 o.2.1) ∈ LL := by rw [← hLL]; simp [bxs, cellsOf]
  have A1_2 : (w.heap.size + 1, 2, .int .i64 o.2.2.1) ∈ LL := by rw [← hLL]; simp [bxs, cellsOf]
  have A1_3 : (w.heap.size + 1, 3, .int .i64 o.2.2.2) ∈ LL := by rw [← hLL]; simp [bxs, cellsOf]
  have hsub : ∀ p ∈ L, p ∈ LL := fun p hp => by rw [← hLL]; exact List.mem_append_right _ hp
  have HH := Lib.hid H
  have HA := Lib.hid A0_0
  have HF := Lib.hid hf
  have HS := Lib.hid hsub
  clear h H hLL hsub hf A0_0 A1_0 A1_1 A1_2 A1_3
  go_enter Tryz.func152, Tryz.ntmps152
  go_wp2_with fail
  go_ret
  exact ⟨_, _, rfl, (HH.out.push (q := .safe) (v := fn 212 #[pt w.heap.size]) fun O hL hQ => ⟨_, rfl, by rw [HF.out.a]; exact hL _ HA.out⟩).less HS.out (fun p hp => hp)⟩
set_option maxRecDepth 100000 in
set_option maxHeartbeats 1000000 in
/-- set. -/
theorem dd_set_off (o : O4) (n : Nat) (h : Cx b (mxR b.y z m) w x L Q) (hf : Fits b z) (h0m : m.mo = 0) (hr : o.2.2.1 = (n : Nat)) (hn : n < m.rg.length) (hl64 : m.rg.length ≤ 64) :
    Calls Tryz.prog 149 #[.pointer (some ⟨z.M, 0, none⟩), .agg #[.int .i64 o.1, .int .i64 o.2.1, .int .i64 o.2.2.1, .int .i64 o.2.2.2]] w fun e w' => ∃ g c2, e = .returned (.func (.func g) #[] c2) ∧ Cx b (mxR b.y z m) w' x L ((.lay (m.rg.getD n 0) (.cel o), fn g c2) :: Q) := by
  obtain ⟨W1, hW1⟩ : ∃ W1, ((w.alloc (.cells #[pt z.M] 30)).alloc (.cells #[.int .i64 o.1, .int .i64 o.2.1, .int .i64 o.2.2.1, .int .i64 o.2.2.2] 72)) = W1 := ⟨_, rfl⟩
  obtain ⟨LL, hLL⟩ : ∃ LL, bxs w.heap.size [([pt z.M], 30), ([.int .i64 o.1, .int .i64 o.2.1, .int .i64 o.2.2.1, .int .i64 o.2.2.2], 72)] ++ L = LL := ⟨_, rfl⟩
  have H : Cx b (mxR b.y z m) W1 x LL Q := by rw [← hW1, ← hLL]; exact h.allocs [([pt z.M], 30), ([.int .i64 o.1, .int .i64 o.2.1, .int .i64 o.2.2.1, .int .i64 o.2.2.2], 72)]
  have A0_0 : (w.heap.size, 0, pt z.M) ∈ LL := by rw [← hLL]; simp [bxs, cellsOf]
  have A1_0 : (w.heap.size + 1, 0, .int .i64 o.1) ∈ LL := by rw [← hLL]; simp [bxs, cellsOf]
  have A1_1 : (w.heap.size + 1, 1, .int .i64 o.2.1) ∈ LL := by rw [← hLL]; simp [bxs, cellsOf]
  have A1_2 : (w.heap.size + 1, 2, .int .i64 o.2.2.1) ∈ LL := by rw [← hLL]; simp [bxs, cellsOf]
  have A1_3 : (w.heap.size + 1, 3, .int .i64 o.2.2.2) ∈ LL := by rw [← hLL]; simp [bxs, cellsOf]
  have hsub : ∀ p ∈ L, p ∈ LL := fun p hp => by rw [← hLL]; exact List.mem_append_right _ hp
  have HH := Lib.hid H
  have H2 := H.push (q := .rk (.set o)) (v := fn 207 #[pt w.heap.size, pt (w.heap.size + 1)]) fun O hL hQ => ⟨_, _, rfl, by rw [hf.a]; exact hL _ A0_0, ⟨hL _ A1_0, hL _ A1_1, hL _ A1_2, hL _ A1_3⟩⟩
  have H3 := H2.push (q := .lk (.cel o)) (v := fn 208 #[pt w.heap.size, pt (w.heap.size + 1)]) fun O hL hQ => ⟨_, _, rfl, by rw [hf.a]; exact hL _ A0_0, ⟨hL _ A1_0, hL _ A1_1, hL _ A1_2, hL _ A1_3⟩⟩
  have HT := Lib.hid (mk_over_off (m.rg.getD n 0) (.set o) (.cel o) hf.a H3.drew (List.mem_cons_of_mem _ (List.mem_cons_self ..)) (List.mem_cons_self ..) h0m)
  have HN := Lib.hid hn
  have HH3 := Lib.hid H3
  have A12 : (w.heap.size + 1, 2, Value.int .i64 (n : Nat)) ∈ LL := hr ▸ A1_2
  have g0 : (0 : Int) ≤ (n : Int) := by omega
  have g1 : (n : Int) < (m.rg.length : Int) := by omega
  have g2 : (m.rg.length : Int) ≤ 64 := by omega
  have lG : z.G < W1.heap.size := lt_of_cell (H3.mg hn)
  have k1 := H.at A0_0
  have k2 := H3.m2
  have k3 := H.at A12
  have k4 := H3.mg hn
  have HA0 := Lib.hid A0_0
  have HA1 := Lib.hid A12
  have HS := Lib.hid hsub
  have KK := Lib.hid (fun W xx QQ (h : Cx b (mxR b.y z m) W xx LL QQ) => (⟨h.at HA0.out, h.m2, h.at HA1.out, h.mg HN.out⟩ : W.cell? ⟨w.heap.size, 0, none⟩ = some (pt z.M) ∧ W.cell? ⟨z.M, 2, none⟩ = some (.slice (some ⟨z.G, 0, none⟩) m.rg.length m.rg.length) ∧ W.cell? ⟨w.heap.size + 1, 2, none⟩ = some (.int .i64 (n : Nat)) ∧ W.cell? ⟨z.G, n, none⟩ = some (.int .i64 (m.rg.getD n 0))))
  clear h H H2 H3 hLL hsub hf hr hn h0m A0_0 A1_0 A1_1 A1_2 A1_3 A12 hl64
  generalize m.rg.getD n 0 = rv at *
  go_enter Tryz.func149, Tryz.ntmps149
  go_wp2_with fail
  go_region_held3 (fun W => W.cell? ⟨w.heap.size, 0, none⟩ = some (pt z.M) ∧ W.cell? ⟨z.M, 2, none⟩ = some (.slice (some ⟨z.G, 0, none⟩) m.rg.length m.rg.length) ∧ W.cell? ⟨w.heap.size + 1, 2, none⟩ = some (.int .i64 (n : Nat)) ∧ W.cell? ⟨z.G, n, none⟩ = some (.int .i64 rv))
    (first | exact KK.out _ _ _ HH3.out.drew | exact KK.out _ _ _ h2)
    ((go_at_call 202; refine HT.out.mono ?_; rintro e w2 ⟨g, c2, rfl, h2⟩))
  have H2 := Lib.hid h2
  clear h2 k1 k2 k3 k4
  go_wp2_with fail
  go_ret
  refine ⟨_, _, rfl, H2.out.less HS.out (fun p hp => ?_)⟩
  rcases List.mem_cons.1 hp with rfl | hp
  · exact List.mem_cons_self ..
  · exact List.mem_cons_of_mem _ (List.mem_cons_of_mem _ (List.mem_cons_of_mem _ hp))
set_option maxRecDepth 100000 in
set_option maxHeartbeats 1000000 in
/-- set. -/
theorem dd_set (o : O4) (n : Nat) (h : Cx b (mxR b.y z m) w x L Q) (hf : Fits b z) (h0m : m.mo ≠ 0) (hr : o.2.2.1 = (n : Nat)) (hn : n < m.rg.length) (hl64 : m.rg.length ≤ 64) :
    Calls Tryz.prog 149 #[.pointer (some ⟨z.M, 0, none⟩), .agg #[.int .i64 o.1, .int .i64 o.2.1, .int .i64 o.2.2.1, .int .i64 o.2.2.2]] w fun e w' => ∃ g c2, e = .returned (.func (.func g) #[] c2) ∧ Cx b (mxR b.y z m) w' x L ((.over (m.rg.getD n 0) (.set o) (.cel o), fn g c2) :: Q) := by
  obtain ⟨W1, hW1⟩ : ∃ W1, ((w.alloc (.cells #[pt z.M] 30)).alloc (.cells #[.int .i64 o.1, .int .i64 o.2.1, .int .i64 o.2.2.1, .int .i64 o.2.2.2] 72)) = W1 := ⟨_, rfl⟩
  obtain ⟨LL, hLL⟩ : ∃ LL, bxs w.heap.size [([pt z.M], 30), ([.int .i64 o.1, .int .i64 o.2.1, .int .i64 o.2.2.1, .int .i64 o.2.2.2], 72)] ++ L = LL := ⟨_, rfl⟩
  have H : Cx b (mxR b.y z m) W1 x LL Q := by rw [← hW1, ← hLL]; exact h.allocs [([pt z.M], 30), ([.int .i64 o.1, .int .i64 o.2.1, .int .i64 o.2.2.1, .int .i64 o.2.2.2], 72)]
  have A0_0 : (w.heap.size, 0, pt z.M) ∈ LL := by rw [← hLL]; simp [bxs, cellsOf]
  have A1_0 : (w.heap.size + 1, 0, .int .i64 o.1) ∈ LL := by rw [← hLL]; simp [bxs, cellsOf]
  have A1_1 : (w.heap.size + 1, 1, .int .i64 o.2.1) ∈ LL := by rw [← hLL]; simp [bxs, cellsOf]
  have A1_2 : (w.heap.size + 1, 2, .int .i64 o.2.2.1) ∈ LL := by rw [← hLL]; simp [bxs, cellsOf]
  have A1_3 : (w.heap.size + 1, 3, .int .i64 o.2.2.2) ∈ LL := by rw [← hLL]; simp [bxs, cellsOf]
  have hsub : ∀ p ∈ L, p ∈ LL := fun p hp => by rw [← hLL]; exact List.mem_append_right _ hp
  have HH := Lib.hid H
  have H2 := H.push (q := .rk (.set o)) (v := fn 207 #[pt w.heap.size, pt (w.heap.size + 1)]) fun O hL hQ => ⟨_, _, rfl, by rw [hf.a]; exact hL _ A0_0, ⟨hL _ A1_0, hL _ A1_1, hL _ A1_2, hL _ A1_3⟩⟩
  have H3 := H2.push (q := .lk (.cel o)) (v := fn 208 #[pt w.heap.size, pt (w.heap.size + 1)]) fun O hL hQ => ⟨_, _, rfl, by rw [hf.a]; exact hL _ A0_0, ⟨hL _ A1_0, hL _ A1_1, hL _ A1_2, hL _ A1_3⟩⟩
  have HT := Lib.hid (mk_over (m.rg.getD n 0) (.set o) (.cel o) hf.a H3.drew (List.mem_cons_of_mem _ (List.mem_cons_self ..)) (List.mem_cons_self ..) h0m)
  have HN := Lib.hid hn
  have HH3 := Lib.hid H3
  have A12 : (w.heap.size + 1, 2, Value.int .i64 (n : Nat)) ∈ LL := hr ▸ A1_2
  have g0 : (0 : Int) ≤ (n : Int) := by omega
  have g1 : (n : Int) < (m.rg.length : Int) := by omega
  have g2 : (m.rg.length : Int) ≤ 64 := by omega
  have lG : z.G < W1.heap.size := lt_of_cell (H3.mg hn)
  have k1 := H.at A0_0
  have k2 := H3.m2
  have k3 := H.at A12
  have k4 := H3.mg hn
  have HA0 := Lib.hid A0_0
  have HA1 := Lib.hid A12
  have HS := Lib.hid hsub
  have KK := Lib.hid (fun W xx QQ (h : Cx b (mxR b.y z m) W xx LL QQ) => (⟨h.at HA0.out, h.m2, h.at HA1.out, h.mg HN.out⟩ : W.cell? ⟨w.heap.size, 0, none⟩ = some (pt z.M) ∧ W.cell? ⟨z.M, 2, none⟩ = some (.slice (some ⟨z.G, 0, none⟩) m.rg.length m.rg.length) ∧ W.cell? ⟨w.heap.size + 1, 2, none⟩ = some (.int .i64 (n : Nat)) ∧ W.cell? ⟨z.G, n, none⟩ = some (.int .i64 (m.rg.getD n 0))))
  clear h H H2 H3 hLL hsub hf hr hn h0m A0_0 A1_0 A1_1 A1_2 A1_3 A12 hl64
  generalize m.rg.getD n 0 = rv at *
  go_enter Tryz.func149, Tryz.ntmps149
  go_wp2_with fail
  go_region_held3 (fun W => W.cell? ⟨w.heap.size, 0, none⟩ = some (pt z.M) ∧ W.cell? ⟨z.M, 2, none⟩ = some (.slice (some ⟨z.G, 0, none⟩) m.rg.length m.rg.length) ∧ W.cell? ⟨w.heap.size + 1, 2, none⟩ = some (.int .i64 (n : Nat)) ∧ W.cell? ⟨z.G, n, none⟩ = some (.int .i64 rv))
    (first | exact KK.out _ _ _ HH3.out.drew | exact KK.out _ _ _ h2)
    ((go_at_call 202; refine HT.out.mono ?_; rintro e w2 ⟨g, c2, rfl, h2⟩))
  have H2 := Lib.hid h2
  clear h2 k1 k2 k3 k4
  go_wp2_with fail
  go_ret
  refine ⟨_, _, rfl, H2.out.less HS.out (fun p hp => ?_)⟩
  rcases List.mem_cons.1 hp with rfl | hp
  · exact List.mem_cons_self ..
  · exact List.mem_cons_of_mem _ (List.mem_cons_of_mem _ (List.mem_cons_of_mem _ hp))
set_option maxRecDepth 100000 in
set_option maxHeartbeats 1000000 in
/-- alloc. -/
theorem dd_alloc (o : O4) (k : Nat) (hz : Tz b.y) (h : Cx b (mxR b.y z m) w x L Q) (hf : Fits b z) (h0 : 0 ≤ o.2.2.1) (h1 : o.2.2.1 ≤ 15) (hk : clsI o.2.2.1 = (k : Nat)) :
    Calls Tryz.prog 145 #[.pointer (some ⟨z.M, 0, none⟩), .agg #[.int .i64 o.1, .int .i64 o.2.1, .int .i64 o.2.2.1, .int .i64 o.2.2.2]] w fun e w' => ∃ g c2, e = .returned (.func (.func g) #[] c2) ∧ Cx b (mxR b.y z m) w' x L ((.slotA k o, fn g c2) :: Q) := by
  obtain ⟨W1, hW1⟩ : ∃ W1, ((w.alloc (.cells #[pt z.M] 30)).alloc (.cells #[.int .i64 o.1, .int .i64 o.2.1, .int .i64 o.2.2.1, .int .i64 o.2.2.2] 72)) = W1 := ⟨_, rfl⟩
  obtain ⟨LL, hLL⟩ : ∃ LL, bxs w.heap.size [([pt z.M], 30), ([.int .i64 o.1, .int .i64 o.2.1, .int .i64 o.2.2.1, .int .i64 o.2.2.2], 72)] ++ L = LL := ⟨_, rfl⟩
  have H : Cx b (mxR b.y z m) W1 x LL Q := by rw [← hW1, ← hLL]; exact h.allocs [([pt z.M], 30), ([.int .i64 o.1, .int .i64 o.2.1, .int .i64 o.2.2.1, .int .i64 o.2.2.2], 72)]
  have A0_0 : (w.heap.size, 0, pt z.M) ∈ LL := by rw [← hLL]; simp [bxs, cellsOf]
  have A1_0 : (w.heap.size + 1, 0, .int .i64 o.1) ∈ LL := by rw [← hLL]; simp [bxs, cellsOf]
  have A1_1 : (w.heap.size + 1, 1, .int .i64 o.2.1) ∈ LL := by rw [← hLL]; simp [bxs, cellsOf]
  have A1_2 : (w.heap.size + 1, 2, .int .i64 o.2.2.1) ∈ LL := by rw [← hLL]; simp [bxs, cellsOf]
  have A1_3 : (w.heap.size + 1, 3, .int .i64 o.2.2.2) ∈ LL := by rw [← hLL]; simp [bxs, cellsOf]
  have hsub : ∀ p ∈ L, p ∈ LL := fun p hp => by rw [← hLL]; exact List.mem_append_right _ hp
  have e0_0 := H.at A0_0
  have e1_2 := H.at A1_2
  have HH := Lib.hid H
  obtain ⟨W2, hW2⟩ : ∃ W2, W1.alloc (.cells #[.int .i64 (k : Nat)] 3) = W2 := ⟨_, rfl⟩
  have H2 : Cx b (mxR b.y z m) W2 x (cellsOf W1.heap.size 0 [.int .i64 (k : Nat)] ++ LL) Q := by rw [← hW2]; exact H.alloc1 [.int .i64 (k : Nat)] 3
  obtain ⟨LK, hLK⟩ : ∃ LK, cellsOf W1.heap.size 0 [.int .i64 (k : Nat)] ++ LL = LK := ⟨_, rfl⟩
  rw [hLK] at H2
  have BK : (W1.heap.size, 0, Value.int .i64 (k : Nat)) ∈ LK := by rw [← hLK]; simp [cellsOf]
  have BS : ∀ p ∈ LL, p ∈ LK := fun p hp => by rw [← hLK]; exact List.mem_append_right _ hp
  have H3 := H2.push (q := .ref o) (v := fn 190 #[pt w.heap.size]) fun O hL hQ => ⟨_, rfl, by rw [hf.a]; exact hL _ (BS _ A0_0)⟩
  have CO := Class.of_yes o.2.2.1 W1 (H.tabs hz).siz h0 h1
  rw [hk] at CO
  have CO := Lib.hid CO
  have CS := mk_slotR k o H3 (List.mem_cons_self ..)
  rw [hf.a] at CS
  have CS := Lib.hid CS
  have HF := Lib.hid hf
  have HL := Lib.hid (And.intro (BS _ A0_0) (And.intro BK (And.intro (BS _ A1_0) (And.intro (BS _ A1_1) (And.intro (BS _ A1_2) (BS _ A1_3))))))
  have HS := Lib.hid (fun p (hp : p ∈ L) => BS p (hsub p hp))
  have k1 := H2.at (BS _ A0_0)
  have k2 := H2.at BK
  have k3 := H2.at (BS _ A1_0)
  have k4 := H2.at (BS _ A1_1)
  have k5 := H2.at (BS _ A1_2)
  have k6 := H2.at (BS _ A1_3)
  clear h H H2 H3 HH hLL hLK hsub hf h0 h1 hk BK BS A0_0 A1_0 A1_1 A1_2 A1_3
  go_enter Tryz.func145, Tryz.ntmps145
  go_wp2_with (go_at_call 189; refine CO.out.mono ?_; rintro e w9 ⟨rfl, hw9⟩; obtain rfl : W1 = w9 := hw9)
  refine CS.out.mono ?_
  rintro e w3 ⟨g3, d3, rfl, h3⟩
  have H := Lib.hid h3
  clear k1 k2 k3 k4 k5 k6 CO CS h3
  have k1 := H.out.at HL.out.1
  have k2 := H.out.at HL.out.2.1
  have CL := mk_late k o H.out (List.mem_cons_self ..)
  rw [HF.out.a] at CL
  have CL := Lib.hid CL
  go_wp2_with (go_at_call 192; fail)
  refine CL.out.mono ?_
  rintro e w4 ⟨g4, d4, rfl, h4⟩
  obtain ⟨W5, hW5⟩ : ∃ W5, w4.alloc (.cells #[.func (.func g4) #[] d4] 104) = W5 := ⟨_, rfl⟩
  have H5 := h4.alloc1 [fn g4 d4] 104
  rw [show w4.alloc (.cells [fn g4 d4].toArray 104) = W5 from hW5] at H5
  have H6 := H5.push (q := .asg k o) (v := fn 193 #[pt w.heap.size, pt W1.heap.size, pt (w.heap.size + 1), pt w4.heap.size]) fun O hL hQ => ⟨_, _, _, _, _, rfl, by rw [HF.out.a]; exact hL _ (List.mem_append_right _ HL.out.1), hL _ (List.mem_append_right _ HL.out.2.1), ⟨hL _ (List.mem_append_right _ HL.out.2.2.1), hL _ (List.mem_append_right _ HL.out.2.2.2.1), hL _ (List.mem_append_right _ HL.out.2.2.2.2.1), hL _ (List.mem_append_right _ HL.out.2.2.2.2.2)⟩, hL (w4.heap.size, 0, fn g4 d4) (by simp [cellsOf]), hQ _ (List.mem_cons_self ..)⟩
  have j1 := H6.at (List.mem_append_right _ HL.out.1)
  have j2 := H6.at (List.mem_append_right _ HL.out.2.1)
  have j3 := H6.at (List.mem_append_right _ HL.out.2.2.1)
  have j4 := H6.at (List.mem_append_right _ HL.out.2.2.2.1)
  have j5 := H6.at (List.mem_append_right _ HL.out.2.2.2.2.1)
  have j6 := H6.at (List.mem_append_right _ HL.out.2.2.2.2.2)
  have CT := mk_slotA k o H6 (List.mem_cons_self ..)
  rw [HF.out.a] at CT
  have CT := Lib.hid CT
  clear h4 H5 H6 H k1 k2 CL
  go_wp2_with (go_at_call 191; fail)
  refine CT.out.mono ?_
  rintro e w6 ⟨g6, d6, rfl, h6⟩
  have H6 := Lib.hid h6
  clear h6
  go_wp2_with fail
  go_ret
  refine ⟨_, _, rfl, H6.out.less (fun p hp => List.mem_append_right _ (HS.out p hp)) (fun p hp => ?_)⟩
  rcases List.mem_cons.1 hp with rfl | hp
  · exact List.mem_cons_self ..
  · exact List.mem_cons_of_mem _ (List.mem_cons_of_mem _ (List.mem_cons_of_mem _ (List.mem_cons_of_mem _ (List.mem_cons_of_mem _ hp))))
end
end Go.Proofs.YtipifkgmhgkleaaGreatDoor.Mv

namespace Go.Proofs.YtipifkgmhgkleaaGreatDoor.Mv
open Go.RowKit Go.MapKept

theorem push_set (w : World) (o m : Obj) : ({ w.alloc m with heap := (w.alloc m).heap.setIfInBounds w.heap.size o } : World) = w.alloc o := by
  have e : (w.heap.push m).setIfInBounds w.heap.size o = w.heap.push o := by
    apply Array.ext_getElem?
    intro i
    rw [Array.getElem?_setIfInBounds, Array.getElem?_push, Array.getElem?_push]
    by_cases h : i = w.heap.size
    · subst h; simp
    · rw [if_neg (fun e => h e.symm), if_neg h, if_neg h]
  show ({ w.alloc m with heap := (w.heap.push m).setIfInBounds w.heap.size o } : World) = _
  rw [e]; rfl
theorem run_put (w : World) (es : Array MapEntry) (clock : Nat) (k : Int) (v : Value) (h : Instr.findNow (.int .i64) (.int .i64 k) es.toList 0 = some none) :
    (Instr.mapUpdate 224 (.map (some w.heap.size)) (.int .i64 k) v).run Tryz.prog (w.alloc (.map es clock)) = .ok () (w.alloc (.map (es.push ⟨.int .i64 k, v, clock⟩) (clock + 1))) := by
  have hb := (heap_alloc w (.map es clock)).1
  have hd := Tryz.underlying3
  simp [Instr.mapUpdate, run_underlying Tryz.underlying224, Go.MapKept.run_getObj_map hb, run_checkKey hd (k := .int .i64 k) rfl, run_findKey hd h, Go.MapKept.run_setObj_map _ hb, Result.andThen]
  exact push_set w _ _
theorem run_got (W : World) (r : Nat) (es : Array MapEntry) (clock : Nat) (k : Int) (i : Nat) (v : Value) (hb : W.heap[r]? = some (.map es clock)) (h : Instr.findNow (.int .i64) (.int .i64 k) es.toList 0 = some (some (i, v))) :
    (Instr.lookup 224 (.map (some r)) (.int .i64 k) false).run Tryz.prog W = .ok v W := by
  have hd := Tryz.underlying3
  simp [Instr.lookup, run_underlying Tryz.underlying224, Go.MapKept.run_getObj_map hb, run_checkKey hd (k := .int .i64 k) rfl, run_findKey hd h, Result.andThen]
/-- The map of deeds. -/
def deedsM : Array MapEntry := #[⟨.int .i64 1, .func (.func 145) #[] #[], 0⟩, ⟨.int .i64 2, .func (.func 146) #[] #[], 1⟩, ⟨.int .i64 3, .func (.func 147) #[] #[], 2⟩, ⟨.int .i64 4, .func (.func 148) #[] #[], 3⟩, ⟨.int .i64 5, .func (.func 149) #[] #[], 4⟩, ⟨.int .i64 6, .func (.func 150) #[] #[], 5⟩, ⟨.int .i64 7, .func (.func 151) #[] #[], 6⟩, ⟨.int .i64 8, .func (.func 152) #[] #[], 7⟩]
set_option maxRecDepth 100000 in
set_option maxHeartbeats 2000000 in
theorem deeds_any (w : World) :
    Calls Tryz.prog 114 #[] w fun e w' => e = .returned (.map (some w.heap.size)) ∧ w' = w.alloc (.map deedsM 8) := by
  have hmm := @run_makeMap Tryz.prog
  have h1 : ∀ w : World, (Instr.mapUpdate 224 (.map (some w.heap.size)) (.int .i64 1) (.func (.func 145) #[] #[])).run Tryz.prog (w.alloc (.map #[] 0)) = .ok () (w.alloc (.map #[⟨.int .i64 1, .func (.func 145) #[] #[], 0⟩] 1)) := fun w => run_put w _ _ _ _ (by rfl)
  have h2 : ∀ w : World, (Instr.mapUpdate 224 (.map (some w.heap.size)) (.int .i64 2) (.func (.func 146) #[] #[])).run Tryz.prog (w.alloc (.map #[⟨.int .i64 1, .func (.func 145) #[] #[], 0⟩] 1)) = .ok () (w.alloc (.map #[⟨.int .i64 1, .func (.func 145) #[] #[], 0⟩, ⟨.int .i64 2, .func (.func 146) #[] #[], 1⟩] 2)) := fun w => run_put w _ _ _ _ (by rfl)
  have h3 : ∀ w : World, (Instr.mapUpdate 224 (.map (some w.heap.size)) (.int .i64 3) (.func (.func 147) #[] #[])).run Tryz.prog (w.alloc (.map #[⟨.int .i64 1, .func (.func 145) #[] #[], 0⟩, ⟨.int .i64 2, .func (.func 146) #[] #[], 1⟩] 2)) = .ok () (w.alloc (.map #[⟨.int .i64 1, .func (.func 145) #[] #[], 0⟩, ⟨.int .i64 2, .func (.func 146) #[] #[], 1⟩, ⟨.int .i64 3, .func (.func 147) #[] #[], 2⟩] 3)) := fun w => run_put w _ _ _ _ (by rfl)
  have h4 : ∀ w : World, (Instr.mapUpdate 224 (.map (some w.heap.size)) (.int .i64 4) (.func (.func 148) #[] #[])).run Tryz.prog (w.alloc (.map #[⟨.int .i64 1, .func (.func 145) #[] #[], 0⟩, ⟨.int .i64 2, .func (.func 146) #[] #[], 1⟩, ⟨.int .i64 3, .func (.func 147) #[] #[], 2⟩] 3)) = .ok () (w.alloc (.map #[⟨.int .i64 1, .func (.func 145) #[] #[], 0⟩, ⟨.int .i64 2, .func (.func 146) #[] #[], 1⟩, ⟨.int .i64 3, .func (.func 147) #[] #[], 2⟩, ⟨.int .i64 4, .func (.func 148) #[] #[], 3⟩] 4)) := fun w => run_put w _ _ _ _ (by rfl)
  have h5 : ∀ w : World, (Instr.mapUpdate 224 (.map (some w.heap.size)) (.int .i64 5) (.func (.func 149) #[] #[])).run Tryz.prog (w.alloc (.map #[⟨.int .i64 1, .func (.func 145) #[] #[], 0⟩, ⟨.int .i64 2, .func (.func 146) #[] #[], 1⟩, ⟨.int .i64 3, .func (.func 147) #[] #[], 2⟩, ⟨.int .i64 4, .func (.func 148) #[] #[], 3⟩] 4)) = .ok () (w.alloc (.map #[⟨.int .i64 1, .func (.func 145) #[] #[], 0⟩, ⟨.int .i64 2, .func (.func 146) #[] #[], 1⟩, ⟨.int .i64 3, .func (.func 147) #[] #[], 2⟩, ⟨.int .i64 4, .func (.func 148) #[] #[], 3⟩, ⟨.int .i64 5, .func (.func 149) #[] #[], 4⟩] 5)) := fun w => run_put w _ _ _ _ (by rfl)
  have h6 : ∀ w : World, (Instr.mapUpdate 224 (.map (some w.heap.size)) (.int .i64 6) (.func (.func 150) #[] #[])).run Tryz.prog (w.alloc (.map #[⟨.int .i64 1, .func (.func 145) #[] #[], 0⟩, ⟨.int .i64 2, .func (.func 146) #[] #[], 1⟩, ⟨.int .i64 3, .func (.func 147) #[] #[], 2⟩, ⟨.int .i64 4, .func (.func 148) #[] #[], 3⟩, ⟨.int .i64 5, .func (.func 149) #[] #[], 4⟩] 5)) = .ok () (w.alloc (.map #[⟨.int .i64 1, .func (.func 145) #[] #[], 0⟩, ⟨.int .i64 2, .func (.func 146) #[] #[], 1⟩, ⟨.int .i64 3, .func (.func 147) #[] #[], 2⟩, ⟨.int .i64 4, .func (.func 148) #[] #[], 3⟩, ⟨.int .i64 5, .func (.func 149) #[] #[], 4⟩, ⟨.int .i64 6, .func (.func 150) #[] #[], 5⟩] 6)) := fun w => run_put w _ _ _ _ (by rfl)
  have h7 : ∀ w : World, (Instr.mapUpdate 224 (.map (some w.heap.size)) (.int .i64 7) (.func (.func 151) #[] #[])).run Tryz.prog (w.alloc (.map #[⟨.int .i64 1, .func (.func 145) #[] #[], 0⟩, ⟨.int .i64 2, .func (.func 146) #[] #[], 1⟩, ⟨.int .i64 3, .func (.func 147) #[] #[], 2⟩, ⟨.int .i64 4, .func (.func 148) #[] #[], 3⟩, ⟨.int .i64 5, .func (.func 149) #[] #[], 4⟩, ⟨.int .i64 6, .func (.func 150) #[] #[], 5⟩] 6)) = .ok () (w.alloc (.map #[⟨.int .i64 1, .func (.func 145) #[] #[], 0⟩, ⟨.int .i64 2, .func (.func 146) #[] #[], 1⟩, ⟨.int .i64 3, .func (.func 147) #[] #[], 2⟩, ⟨.int .i64 4, .func (.func 148) #[] #[], 3⟩, ⟨.int .i64 5, .func (.func 149) #[] #[], 4⟩, ⟨.int .i64 6, .func (.func 150) #[] #[], 5⟩, ⟨.int .i64 7, .func (.func 151) #[] #[], 6⟩] 7)) := fun w => run_put w _ _ _ _ (by rfl)
  have h8 : ∀ w : World, (Instr.mapUpdate 224 (.map (some w.heap.size)) (.int .i64 8) (.func (.func 152) #[] #[])).run Tryz.prog (w.alloc (.map #[⟨.int .i64 1, .func (.func 145) #[] #[], 0⟩, ⟨.int .i64 2, .func (.func 146) #[] #[], 1⟩, ⟨.int .i64 3, .func (.func 147) #[] #[], 2⟩, ⟨.int .i64 4, .func (.func 148) #[] #[], 3⟩, ⟨.int .i64 5, .func (.func 149) #[] #[], 4⟩, ⟨.int .i64 6, .func (.func 150) #[] #[], 5⟩, ⟨.int .i64 7, .func (.func 151) #[] #[], 6⟩] 7)) = .ok () (w.alloc (.map #[⟨.int .i64 1, .func (.func 145) #[] #[], 0⟩, ⟨.int .i64 2, .func (.func 146) #[] #[], 1⟩, ⟨.int .i64 3, .func (.func 147) #[] #[], 2⟩, ⟨.int .i64 4, .func (.func 148) #[] #[], 3⟩, ⟨.int .i64 5, .func (.func 149) #[] #[], 4⟩, ⟨.int .i64 6, .func (.func 150) #[] #[], 5⟩, ⟨.int .i64 7, .func (.func 151) #[] #[], 6⟩, ⟨.int .i64 8, .func (.func 152) #[] #[], 7⟩] 8)) := fun w => run_put w _ _ _ _ (by rfl)
  go_enter Tryz.func114, Tryz.ntmps114
  go_wp2_with fail
  go_ret
  exact ⟨rfl, rfl⟩
/-- The map of replies. -/
def repliesM : Array MapEntry := #[⟨.int .i64 1, .func (.func 138) #[] #[], 0⟩, ⟨.int .i64 2, .func (.func 110) #[] #[], 1⟩, ⟨.int .i64 3, .func (.func 139) #[] #[], 2⟩, ⟨.int .i64 5, .func (.func 140) #[] #[], 3⟩, ⟨.int .i64 7, .func (.func 141) #[] #[], 4⟩]
end Go.Proofs.YtipifkgmhgkleaaGreatDoor.Mv
