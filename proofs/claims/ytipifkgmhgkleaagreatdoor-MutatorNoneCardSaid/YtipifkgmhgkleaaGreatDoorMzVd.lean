/-
  Texts one behind the other: MvK MvL (theorems that nobody names are left out).
-/
import Derived.Test.YtipifkgmhgkleaaGreatDoorMzVc
import Derived.BigQuiet
import Derived.Laws.EntriesVeiled
namespace Go.Proofs.YtipifkgmhgkleaaGreatDoor.Mv
open Go.RowKit
open Hp (Ids St Is To Mine bnI coE coV fE fN lV lE sE stS ccE cV scE scS puE puS beE beS baE baS asS colB)
open Mu (Sy Sd Ml Md lt_of_cell O4 CellsL mutA)
open Go.Proofs.YtipifkgmhgkleaaGreatDoor.Row (Chg rowB Rd)
section
variable {b : Ba} {z : Ml} {m : Md} {w : World} {x : Sd} {L : List (Nat × Nat × Value)} {Q : List (K × Value)}
set_option maxRecDepth 100000 in
theorem st_take (r : Int) (rd : Rk) (n : Nat) (hE : rkE x m rd = 0) (hr : r = (n : Nat)) (hn : n < m.rg.length) (hok : rkOk b.y m rd) (hl64 : m.rg.length ≤ 64) (hmm : x.m < 800000) (hf : Fits b z) (hlen : m.rs.length ≤ 100000) (h : Cx b (mxR b.y z m) w x L Q) {v : Value} (hm : (K.take r rd, v) ∈ Q) :
    ∃ f cap, v = fn f cap ∧ Calls Tryz.prog f cap w fun e w' => ∃ v', e = .returned v' ∧ Out b z w' (rkX x m rd) (endM z.id { m with rg := m.rg.set n (rkV x m rd) } (rkV x m rd) 0) (none) v' := by
  obtain ⟨O, d, ps, cs, h⟩ := h
  obtain ⟨b0, b1, b2, rv, rfl, h0, h1, h2, h3⟩ := h.Q _ hm
  obtain ⟨f1, c1, rfl⟩ := h3.isFn
  have hcf : ∀ V, (callFunc f1 c1).run Tryz.prog V = .ok (.enter f1 c1) V := fun V => h3.enters c1 V
  rw [hf.a] at h1
  refine ⟨255, #[.pointer (some ⟨b0, 0, none⟩), .pointer (some ⟨b1, 0, none⟩), .pointer (some ⟨b2, 0, none⟩)], rfl, ?_⟩
  obtain ⟨LL, hLL⟩ : ∃ LL : List (Nat × Nat × Value), LL = [(b0, 0, fn f1 c1), (b1, 0, pt z.M), (b2, 0, .int .i64 (n : Nat))] := ⟨_, rfl⟩
  obtain ⟨QQ, hQQ⟩ : ∃ QQ : List (K × Value), QQ = [(.rk rd, fn f1 c1)] := ⟨_, rfl⟩
  have H := Lib.hid (h.sub (L' := LL) (Q' := QQ) (by rw [hLL]; exact (List.forall_mem_cons.2 ⟨h0, (List.forall_mem_cons.2 ⟨h1, (List.forall_mem_cons.2 ⟨(hr ▸ h2), (fun _ e => by cases e)⟩)⟩)⟩)) (by rw [hQQ]; exact (List.forall_mem_cons.2 ⟨h3, (fun _ e => by cases e)⟩)))
  have A0 : Hid ((b0, 0, fn f1 c1) ∈ LL) := Lib.hid (by rw [hLL]; simp)
  have A1 : Hid ((b1, 0, pt z.M) ∈ LL) := Lib.hid (by rw [hLL]; simp)
  have A2 : Hid ((b2, 0, .int .i64 (n : Nat)) ∈ LL) := Lib.hid (by rw [hLL]; simp)
  have B0 : Hid ((.rk rd, fn f1 c1) ∈ QQ) := Lib.hid (by rw [hQQ]; simp)
  clear hLL hQQ
  have hb : (rkE x m rd != 0) = false := by rw [hE]; rfl
  have g0 : (0 : Int) ≤ (n : Int) := by omega
  have g1 : (n : Int) < (m.rg.length : Int) := by omega
  have g2 : (m.rg.length : Int) ≤ 64 := by omega
  have HN := Lib.hid hn
  have e0 := H.out.at A0.out
  clear h hm h0 h1 h2 h3 hE hr hn
  go_enter Tryz.func255, Tryz.ntmps255
  have C2 := Lib.hid (rk_any rd hok hl64 hmm hf H.out B0.out)
  go_wp2_with fail
  refine C2.out.mono ?_
  rintro e w2 ⟨rfl, h2⟩
  clear e0
  have H2 := Lib.hid h2
  clear h2
  clear hcf
  have e2 := H2.out.at A1.out
  have e3 := H2.out.m2
  have e4 := H2.out.at A2.out
  have e5 := H2.out.mg HN.out
  have e6 := H2.out.mgf n
  have lG : z.G < w2.heap.size := lt_of_cell e5
  go_wp2_with fail
  go_region
  clear e2 e3 e4 e5 e6
  have HZ := Lib.hid ((H2.out.reg hf.P HN.out (rkV x m rd)).drew)
  have e7 := HZ.out.at A1.out
  have C9 := Lib.hid (cx_end (m := { m with rg := m.rg.set n (rkV x m rd) }) (rkV x m rd) 0 hf.P hlen HZ.out)
  go_wp2_with (go_at_call 113; fail)
  refine C9.out.mono ?_
  rintro e w9 ⟨rfl, h9⟩
  clear e7
  have H9 := Lib.hid h9
  clear h9
  go_wp2_with fail
  go_ret
  exact ⟨_, rfl, rfl, H9.out.less (fun _ e => by cases e) (fun _ e => by cases e)⟩
theorem Thv.isFn {O : Nat → Nat} {w : World} {a : Nat} {t : Th} {v : Value} (h : Thv O w a t v) : isFn v := by
  cases t with
  | ld o => obtain ⟨b0, b1, e, _⟩ := h; exact ⟨_, _, e⟩
  | st o => obtain ⟨b0, b1, e, _⟩ := h; exact ⟨_, _, e⟩
end
end Go.Proofs.YtipifkgmhgkleaaGreatDoor.Mv

namespace Go.Proofs.YtipifkgmhgkleaaGreatDoor.Mv
open Go.RowKit
open Hp (Ids St Is To Mine bnI coE coV fE fN lV lE sE stS ccE cV scE scS puE puS beE beS baE baS asS colB)
open Rf (paE paF paS)
open Mu (Sy Sd Ml Md lt_of_cell O4 CellsL mutA)
open Go.Proofs.YtipifkgmhgkleaaGreatDoor.Row (Chg rowB Rd)
section
variable {b : Ba} {z : Ml} {m : Md} {w : World} {x : Sd} {L : List (Nat × Nat × Value)} {Q : List (K × Value)}
theorem Cx.n0 (h : Cx b (mxR b.y z m) w x L Q) : w.cell? ⟨z.N, 0, none⟩ = some (.pointer (some ⟨b.y.H, 0, none⟩)) := by obtain ⟨_, _, _, h⟩ := h.mi; exact h.n0
theorem Cx.n1 (h : Cx b (mxR b.y z m) w x L Q) : w.cell? ⟨z.N, 1, none⟩ = some (.pointer (some ⟨z.B, 0, none⟩)) := by obtain ⟨_, _, _, h⟩ := h.mi; exact h.n1
theorem Cx.n2 (h : Cx b (mxR b.y z m) w x L Q) : w.cell? ⟨z.N, 2, none⟩ = some (.pointer (some ⟨b.y.X z.id, 0, none⟩)) := by obtain ⟨_, _, _, h⟩ := h.mi; exact h.n2
theorem Cx.n3 (h : Cx b (mxR b.y z m) w x L Q) : w.cell? ⟨z.N, 3, none⟩ = some (.pointer (some ⟨b.y.F, 0, none⟩)) := by obtain ⟨_, _, _, h⟩ := h.mi; exact h.n3
theorem Cx.len (h : Cx b (mxR b.y z m) w x L Q) : m.xs.length ≤ m.room ∧ 1 ≤ m.room ∧ m.room ≤ 256 := by obtain ⟨_, h, _⟩ := h.bf; exact ⟨h.len, h.r1, h.r2⟩
set_option maxRecDepth 100000 in
set_option maxHeartbeats 1000000 in
/-- Note, of nothing. -/
theorem mk_note_zero (c : Int) {f : FuncId} {cap : Array Value} (h : Cx b (mxR b.y z m) w x L Q) :
    Calls Tryz.prog 181 #[.pointer (some ⟨z.N, 0, none⟩), .int .i64 0, .int .i64 c, .func (.func f) #[] cap] w fun e w' => e = .returned (.func (.func f) #[] cap) ∧ Cx b (mxR b.y z m) w' x L Q := by
  obtain ⟨W1, hW1⟩ : ∃ W1, ((((w.alloc (.cells #[pt z.N] 99)).alloc (.cells #[.int .i64 0] 3)).alloc (.cells #[.int .i64 c] 3)).alloc (.cells #[fn f cap] 104)) = W1 := ⟨_, rfl⟩
  obtain ⟨LL, hLL⟩ : ∃ LL, bxs w.heap.size [([pt z.N], 99), ([.int .i64 0], 3), ([.int .i64 c], 3), ([fn f cap], 104)] ++ L = LL := ⟨_, rfl⟩
  have H : Cx b (mxR b.y z m) W1 x LL Q := by rw [← hW1, ← hLL]; exact h.allocs [([pt z.N], 99), ([.int .i64 0], 3), ([.int .i64 c], 3), ([fn f cap], 104)]
  have A0_0 : (w.heap.size, 0, pt z.N) ∈ LL := by rw [← hLL]; simp [bxs, cellsOf]
  have A1_0 : (w.heap.size + 1, 0, .int .i64 0) ∈ LL := by rw [← hLL]; simp [bxs, cellsOf]
  have A2_0 : (w.heap.size + 1 + 1, 0, .int .i64 c) ∈ LL := by rw [← hLL]; simp [bxs, cellsOf]
  have A3_0 : (w.heap.size + 1 + 1 + 1, 0, fn f cap) ∈ LL := by rw [← hLL]; simp [bxs, cellsOf]
  have hsub : ∀ p ∈ L, p ∈ LL := fun p hp => by rw [← hLL]; exact List.mem_append_right _ hp
  have e0_0 := H.at A0_0
  have e1_0 := H.at A1_0
  have e3_0 := H.at A3_0
  have HH := Lib.hid H
  have HS := Lib.hid hsub
  clear h H hLL hsub A0_0 A1_0 A2_0 A3_0
  go_enter Tryz.func181, Tryz.ntmps181
  go_wp2_with fail
  go_ret
  exact ⟨rfl, HH.out.less HS.out (fun p hp => hp)⟩
set_option maxRecDepth 100000 in
set_option maxHeartbeats 1000000 in
/-- Note. -/
theorem mk_note (y c : Int) {f : FuncId} {cap : Array Value} (q : K) (h : Cx b (mxR b.y z m) w x L Q) (hf : Fits b z) (hq : (q, fn f cap) ∈ Q) (h0 : y ≠ 0) :
    Calls Tryz.prog 181 #[.pointer (some ⟨z.N, 0, none⟩), .int .i64 y, .int .i64 c, .func (.func f) #[] cap] w fun e w' => ∃ g c2, e = .returned (.func (.func g) #[] c2) ∧ Cx b (mxR b.y z m) w' x L ((.note y c q, fn g c2) :: Q) := by
  obtain ⟨W1, hW1⟩ : ∃ W1, (((((w.alloc (.cells #[pt z.N] 99)).alloc (.cells #[.int .i64 y] 3)).alloc (.cells #[.int .i64 c] 3)).alloc (.cells #[fn f cap] 104)).alloc (.cells #[fn 230 #[pt w.heap.size, pt (w.heap.size + 1), pt (w.heap.size + 1 + 1 + 1)]] 103)) = W1 := ⟨_, rfl⟩
  obtain ⟨LL, hLL⟩ : ∃ LL, bxs w.heap.size [([pt z.N], 99), ([.int .i64 y], 3), ([.int .i64 c], 3), ([fn f cap], 104), ([fn 230 #[pt w.heap.size, pt (w.heap.size + 1), pt (w.heap.size + 1 + 1 + 1)]], 103)] ++ L = LL := ⟨_, rfl⟩
  have H : Cx b (mxR b.y z m) W1 x LL Q := by rw [← hW1, ← hLL]; exact h.allocs [([pt z.N], 99), ([.int .i64 y], 3), ([.int .i64 c], 3), ([fn f cap], 104), ([fn 230 #[pt w.heap.size, pt (w.heap.size + 1), pt (w.heap.size + 1 + 1 + 1)]], 103)]
  have A0_0 : (w.heap.size, 0, pt z.N) ∈ LL := by rw [← hLL]; simp [bxs, cellsOf]
  have A1_0 : (w.heap.size + 1, 0, .int .i64 y) ∈ LL := by rw [← hLL]; simp [bxs, cellsOf]
  have A2_0 : (w.heap.size + 1 + 1, 0, .int .i64 c) ∈ LL := by rw [← hLL]; simp [bxs, cellsOf]
  have A3_0 : (w.heap.size + 1 + 1 + 1, 0, fn f cap) ∈ LL := by rw [← hLL]; simp [bxs, cellsOf]
  have A4_0 : (w.heap.size + 1 + 1 + 1 + 1, 0, fn 230 #[pt w.heap.size, pt (w.heap.size + 1), pt (w.heap.size + 1 + 1 + 1)]) ∈ LL := by rw [← hLL]; simp [bxs, cellsOf]
  have hsub : ∀ p ∈ L, p ∈ LL := fun p hp => by rw [← hLL]; exact List.mem_append_right _ hp
  have e0_0 := H.at A0_0
  have e1_0 := H.at A1_0
  have HH := Lib.hid H
  have HA0 := Lib.hid A0_0
  have HA1 := Lib.hid A1_0
  have HA2 := Lib.hid A2_0
  have HA3 := Lib.hid A3_0
  have HA4 := Lib.hid A4_0
  have HS := Lib.hid hsub
  have HF := Lib.hid hf
  have HQ := Lib.hid hq
  have hb0 : (y == 0) = false := by rw [beq_eq_false_iff_ne]; exact h0
  clear h H hLL hsub hf hq A0_0 A1_0 A2_0 A3_0 A4_0
  clear h0
  go_enter Tryz.func181, Tryz.ntmps181
  go_wp2_with fail
  go_ret
  refine ⟨_, _, rfl, (HH.out.push (q := .note y c q) (v := fn 232 #[pt w.heap.size, pt (w.heap.size + 1), pt (w.heap.size + 1 + 1), pt (w.heap.size + 1 + 1 + 1), pt (w.heap.size + 1 + 1 + 1 + 1)]) fun O hL hQ => ?_).less HS.out (fun p hp => hp)⟩
  exact ⟨_, _, _, _, _, _, rfl, by rw [HF.out.N]; exact hL _ HA0.out, hL _ HA1.out, hL _ HA2.out, hL _ HA3.out, hL _ HA4.out, hQ _ HQ.out⟩
/-- What noting comes to. -/
def noteK (y c : Int) (q : K) : K := if y = 0 then q else .note y c q
theorem mk_note_any (y c : Int) {f : FuncId} {cap : Array Value} (q : K) (h : Cx b (mxR b.y z m) w x L Q) (hf : Fits b z) (hq : (q, fn f cap) ∈ Q) :
    Calls Tryz.prog 181 #[.pointer (some ⟨z.N, 0, none⟩), .int .i64 y, .int .i64 c, .func (.func f) #[] cap] w fun e w' => ∃ g c2, e = .returned (.func (.func g) #[] c2) ∧ Cx b (mxR b.y z m) w' x L ((noteK y c q, fn g c2) :: Q) := by
  unfold noteK
  by_cases h0 : y = 0
  · subst h0
    rw [if_pos rfl]
    refine (mk_note_zero c h).mono ?_
    rintro e w' ⟨rfl, h2⟩
    exact ⟨f, cap, rfl, h2.less (fun p hp => hp) (fun p hp => (List.mem_cons.1 hp).elim (fun e => e ▸ hq) id)⟩
  · rw [if_neg h0]
    exact mk_note y c q h hf hq h0
/-- What pouring, and painting, comes to. -/
def pourK (xs : List Int) (c : Int) (q : K) : K := if xs = [] then q else .pour c q
def paintK (xs : List Int) (c : Int) (an : Bool) (q : K) : K := if xs = [] then (if an = true then .raise q else q) else .paint c an q
end
end Go.Proofs.YtipifkgmhgkleaaGreatDoor.Mv
