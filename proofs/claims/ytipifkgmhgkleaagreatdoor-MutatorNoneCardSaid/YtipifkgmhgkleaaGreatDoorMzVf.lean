/-
  Texts one behind the other: MvO MvP MvQ (theorems that nobody names are left out).
-/
import Derived.Test.YtipifkgmhgkleaaGreatDoorMzVe
import Derived.Lib.QuietBelow
namespace Go.Proofs.YtipifkgmhgkleaaGreatDoor.Mv
open Go.RowKit
open Hp (Ids St Is To Mine bnI coE coV fE fN lV lE sE stS ccE cV scE scS puE puS beE beS baE baS asS colB)
open Blk (perN adr cellsF)
open Mu (Sy Sd Ml Md lt_of_cell O4 CellsL mutA)
open Go.Proofs.YtipifkgmhgkleaaGreatDoor.Row (Chg rowB Rd other same cellsZ)
section
variable {b : Ba} {z : Ml} {m : Md} {w : World} {x : Sd} {L : List (Nat × Nat × Value)} {Q : List (K × Value)}
set_option maxRecDepth 100000 in
theorem st_slotA (k : Nat) (o : O4) {a : Nat} {l : List Nat} (hk : k < 4) (he : x.s.hv k = a :: l) (hf : Fits b z) (h : Cx b (mxR b.y z m) w x L Q) {v : Value} (hm : (K.slotA k o, v) ∈ Q) :
    ∃ f cap, v = fn f cap ∧ Calls Tryz.prog f cap w fun e w' => ∃ v', e = .returned v' ∧ Out b z w' (hp x { x.s with hv := Lis.upd x.s.hv k l } x.m) (m) (some (.begin a o)) v' := by
  obtain ⟨O, d, ps, cs, h⟩ := h
  obtain ⟨b0, b1, b2, b3, c0, c1, c2, c3, tv, rfl, h0, h1, h2, h3, h4, h5, h6, h7, h8⟩ := h.Q _ hm
  rw [hf.a] at h0
  refine ⟨241, #[.pointer (some ⟨b0, 0, none⟩), .pointer (some ⟨b1, 0, none⟩), .pointer (some ⟨b2, 0, none⟩), .pointer (some ⟨b3, 0, none⟩)], rfl, ?_⟩
  obtain ⟨LL, hLL⟩ : ∃ LL : List (Nat × Nat × Value), LL = [(b0, 0, pt z.M), (b1, 0, .int .i64 k), (b3, 0, .int .i64 o.1), (b3, 1, .int .i64 o.2.1), (b3, 2, .int .i64 o.2.2.1), (b3, 3, .int .i64 o.2.2.2)] := ⟨_, rfl⟩
  obtain ⟨QQ, hQQ⟩ : ∃ QQ : List (K × Value), QQ = [] := ⟨_, rfl⟩
  have H := Lib.hid (h.sub (L' := LL) (Q' := QQ) (by rw [hLL]; exact (List.forall_mem_cons.2 ⟨h0, (List.forall_mem_cons.2 ⟨h1, (List.forall_mem_cons.2 ⟨h3.1, (List.forall_mem_cons.2 ⟨h3.2.1, (List.forall_mem_cons.2 ⟨h3.2.2.1, (List.forall_mem_cons.2 ⟨h3.2.2.2, (fun _ e => by cases e)⟩)⟩)⟩)⟩)⟩)⟩)) (by rw [hQQ]; exact (fun _ e => by cases e)))
  have A0 : Hid ((b0, 0, pt z.M) ∈ LL) := Lib.hid (by rw [hLL]; simp)
  have A1 : Hid ((b1, 0, .int .i64 k) ∈ LL) := Lib.hid (by rw [hLL]; simp)
  have A2 : Hid ((b3, 0, .int .i64 o.1) ∈ LL) := Lib.hid (by rw [hLL]; simp)
  have A3 : Hid ((b3, 1, .int .i64 o.2.1) ∈ LL) := Lib.hid (by rw [hLL]; simp)
  have A4 : Hid ((b3, 2, .int .i64 o.2.2.1) ∈ LL) := Lib.hid (by rw [hLL]; simp)
  have A5 : Hid ((b3, 3, .int .i64 o.2.2.2) ∈ LL) := Lib.hid (by rw [hLL]; simp)
  clear hLL hQQ
  clear h hm h0 h1 h2 h3 h4 h5 h6 h7 h8
  go_enter Tryz.func241, Tryz.ntmps241
  have e1 := H.out.at A0.out
  have e2 := H.out.m0
  have e3 := H.out.s0
  have e4 := H.out.at A1.out
  have K1 := Lib.hid (fun W xx m QQ (h : Cx b (mxR b.y z m) W xx LL QQ) => (⟨h.at A0.out, h.m0, h.s0, h.at A1.out⟩ : W.cell? ⟨b0, 0, none⟩ = some (pt z.M) ∧ W.cell? ⟨z.M, 0, none⟩ = some (.pointer (some ⟨b.y.S, 0, none⟩)) ∧ W.cell? ⟨b.y.S, 0, none⟩ = some (.pointer (some ⟨b.y.H, 0, none⟩)) ∧ W.cell? ⟨b1, 0, none⟩ = some (.int .i64 k)))
  have C1 := Lib.hid (cx_take_good k a l hk he (H.out.drew))
  go_wp2_with fail
  go_region_held3 (fun W => W.cell? ⟨b0, 0, none⟩ = some (pt z.M) ∧ W.cell? ⟨z.M, 0, none⟩ = some (.pointer (some ⟨b.y.S, 0, none⟩)) ∧ W.cell? ⟨b.y.S, 0, none⟩ = some (.pointer (some ⟨b.y.H, 0, none⟩)) ∧ W.cell? ⟨b1, 0, none⟩ = some (.int .i64 k))
    (first | exact K1.out _ _ _ _ H.out.drew | exact K1.out _ _ _ _ h1)
    ((go_at_call 242; refine C1.out.mono ?_; rintro e w1 ⟨rfl, h1⟩))
  clear e1 e2 e3 e4
  have H1 := Lib.hid h1
  clear h1
  have e5 := H1.out.at A0.out
  have e6 := H1.out.at A2.out
  have e7 := H1.out.at A3.out
  have e8 := H1.out.at A4.out
  have e9 := H1.out.at A5.out
  have C11 := Lib.hid (hf.a ▸ mk_begin (a : Int) o H1.out)
  go_wp2_with (go_at_call 243; fail)
  refine C11.out.mono ?_
  rintro e w11 ⟨g, c2, rfl, h11⟩
  clear e5 e6 e7 e8 e9
  have H11 := Lib.hid h11
  clear h11
  go_wp2_with fail
  go_ret
  exact ⟨_, rfl, ⟨_, _, rfl⟩, H11.out.less (fun _ e => by cases e) (fun p hp => List.mem_cons.2 (.inl (List.mem_singleton.1 hp)))⟩
set_option maxRecDepth 100000 in
/-- Assigning comes. -/
theorem asg_any {c0 c1 c2 c3 : Nat} (k : Nat) (o : O4) {f1 : FuncId} {d1 : Array Value} (hf : Fits b z) (h : Cx b (mxR b.y z m) w x L Q) (h0 : (c0, 0, pt z.M) ∈ L) (h1 : (c1, 0, .int .i64 k) ∈ L) (h2 : (c2, 0, .int .i64 o.1) ∈ L) (h3 : (c2, 1, .int .i64 o.2.1) ∈ L) (h4 : (c2, 2, .int .i64 o.2.2.1) ∈ L) (h5 : (c2, 3, .int .i64 o.2.2.2) ∈ L) (h6 : (c3, 0, fn f1 d1) ∈ L) (hq : (K.late k o, fn f1 d1) ∈ Q) :
    Calls Tryz.prog 193 #[.pointer (some ⟨c0, 0, none⟩), .pointer (some ⟨c1, 0, none⟩), .pointer (some ⟨c2, 0, none⟩), .pointer (some ⟨c3, 0, none⟩)] w fun e w' => ∃ g c9, e = .returned (.func (.func g) #[] c9) ∧ Cx b (mxR b.y z m) w' x L ((.assign k o, fn g c9) :: Q) := by
  have e0 := h.at h0
  have e1 := h.at h1
  have e2 := h.at h2
  have e3 := h.at h3
  have e4 := h.at h4
  have e5 := h.at h5
  have e6 := h.at h6
  have HE := Lib.hid (mk_assign k o h hq)
  rw [hf.a] at HE
  clear h hf h0 h1 h2 h3 h4 h5 h6 hq
  go_enter Tryz.func193, Tryz.ntmps193
  go_wp2_with (go_at_call 194; fail)
  refine HE.out.mono ?_
  rintro e w2 ⟨g, c9, rfl, h2⟩
  have H2 := Lib.hid h2
  clear h2
  go_wp2_with fail
  go_ret
  exact ⟨_, _, rfl, H2.out⟩
set_option maxRecDepth 100000 in
theorem st_slotA_none (k : Nat) (o : O4) (hk : k < 4) (he : x.s.hv k = []) (hf : Fits b z) (h : Cx b (mxR b.y z m) w x L Q) {v : Value} (hm : (K.slotA k o, v) ∈ Q) :
    ∃ f cap, v = fn f cap ∧ Calls Tryz.prog f cap w fun e w' => ∃ v', e = .returned v' ∧ Out b z w' (x) (m) (some (.assign k o)) v' := by
  obtain ⟨O, d, ps, cs, h⟩ := h
  obtain ⟨b0, b1, b2, b3, c0, c1, c2, c3, tv, rfl, h0, h1, h2, h3, h4, h5, h6, h7, h8⟩ := h.Q _ hm
  obtain ⟨f1, d1, rfl⟩ := Ls.isFn (q := .late k o) (N := 0) h8 rfl
  rw [hf.a] at h0 h4
  refine ⟨241, #[.pointer (some ⟨b0, 0, none⟩), .pointer (some ⟨b1, 0, none⟩), .pointer (some ⟨b2, 0, none⟩), .pointer (some ⟨b3, 0, none⟩)], rfl, ?_⟩
  obtain ⟨LL, hLL⟩ : ∃ LL : List (Nat × Nat × Value), LL = [(b0, 0, pt z.M), (b1, 0, .int .i64 k), (b2, 0, fn 193 #[pt c0, pt c1, pt c2, pt c3]), (c0, 0, pt z.M), (c1, 0, .int .i64 k), (c3, 0, fn f1 d1), (c2, 0, .int .i64 o.1), (c2, 1, .int .i64 o.2.1), (c2, 2, .int .i64 o.2.2.1), (c2, 3, .int .i64 o.2.2.2)] := ⟨_, rfl⟩
  obtain ⟨QQ, hQQ⟩ : ∃ QQ : List (K × Value), QQ = [(.late k o, fn f1 d1)] := ⟨_, rfl⟩
  have H := Lib.hid (h.sub (L' := LL) (Q' := QQ) (by rw [hLL]; exact (List.forall_mem_cons.2 ⟨h0, (List.forall_mem_cons.2 ⟨h1, (List.forall_mem_cons.2 ⟨h2, (List.forall_mem_cons.2 ⟨h4, (List.forall_mem_cons.2 ⟨h5, (List.forall_mem_cons.2 ⟨h7, (List.forall_mem_cons.2 ⟨h6.1, (List.forall_mem_cons.2 ⟨h6.2.1, (List.forall_mem_cons.2 ⟨h6.2.2.1, (List.forall_mem_cons.2 ⟨h6.2.2.2, (fun _ e => by cases e)⟩)⟩)⟩)⟩)⟩)⟩)⟩)⟩)⟩)⟩)) (by rw [hQQ]; exact (List.forall_mem_cons.2 ⟨h8, (fun _ e => by cases e)⟩)))
  have A0 : Hid ((b0, 0, pt z.M) ∈ LL) := Lib.hid (by rw [hLL]; simp)
  have A1 : Hid ((b1, 0, .int .i64 k) ∈ LL) := Lib.hid (by rw [hLL]; simp)
  have A2 : Hid ((b2, 0, fn 193 #[pt c0, pt c1, pt c2, pt c3]) ∈ LL) := Lib.hid (by rw [hLL]; simp)
  have A3 : Hid ((c0, 0, pt z.M) ∈ LL) := Lib.hid (by rw [hLL]; simp)
  have A4 : Hid ((c1, 0, .int .i64 k) ∈ LL) := Lib.hid (by rw [hLL]; simp)
  have A5 : Hid ((c3, 0, fn f1 d1) ∈ LL) := Lib.hid (by rw [hLL]; simp)
  have A6 : Hid ((c2, 0, .int .i64 o.1) ∈ LL) := Lib.hid (by rw [hLL]; simp)
  have A7 : Hid ((c2, 1, .int .i64 o.2.1) ∈ LL) := Lib.hid (by rw [hLL]; simp)
  have A8 : Hid ((c2, 2, .int .i64 o.2.2.1) ∈ LL) := Lib.hid (by rw [hLL]; simp)
  have A9 : Hid ((c2, 3, .int .i64 o.2.2.2) ∈ LL) := Lib.hid (by rw [hLL]; simp)
  have B0 : Hid ((.late k o, fn f1 d1) ∈ QQ) := Lib.hid (by rw [hQQ]; simp)
  clear hLL hQQ
  clear h hm h0 h1 h2 h3 h4 h5 h6 h7 h8
  go_enter Tryz.func241, Tryz.ntmps241
  have e1 := H.out.at A0.out
  have e2 := H.out.m0
  have e3 := H.out.s0
  have e4 := H.out.at A1.out
  have K1 := Lib.hid (fun W xx m QQ (h : Cx b (mxR b.y z m) W xx LL QQ) => (⟨h.at A0.out, h.m0, h.s0, h.at A1.out⟩ : W.cell? ⟨b0, 0, none⟩ = some (pt z.M) ∧ W.cell? ⟨z.M, 0, none⟩ = some (.pointer (some ⟨b.y.S, 0, none⟩)) ∧ W.cell? ⟨b.y.S, 0, none⟩ = some (.pointer (some ⟨b.y.H, 0, none⟩)) ∧ W.cell? ⟨b1, 0, none⟩ = some (.int .i64 k)))
  have C1 := Lib.hid (cx_take_none k hk he (H.out.drew))
  go_wp2_with fail
  go_region_held3 (fun W => W.cell? ⟨b0, 0, none⟩ = some (pt z.M) ∧ W.cell? ⟨z.M, 0, none⟩ = some (.pointer (some ⟨b.y.S, 0, none⟩)) ∧ W.cell? ⟨b.y.S, 0, none⟩ = some (.pointer (some ⟨b.y.H, 0, none⟩)) ∧ W.cell? ⟨b1, 0, none⟩ = some (.int .i64 k))
    (first | exact K1.out _ _ _ _ H.out.drew | exact K1.out _ _ _ _ h1)
    ((go_at_call 242; refine C1.out.mono ?_; rintro e w1 ⟨rfl, h1⟩))
  clear e1 e2 e3 e4
  have H1 := Lib.hid h1
  clear h1
  have e5 := H1.out.at A2.out
  have C7 := Lib.hid (asg_any k o hf H1.out A3.out A4.out A6.out A7.out A8.out A9.out A5.out B0.out)
  go_wp2_with (go_at_call 193; fail)
  refine C7.out.mono ?_
  rintro e w7 ⟨g, c9, rfl, h7⟩
  clear e5
  have H7 := Lib.hid h7
  clear h7
  go_wp2_with fail
  go_ret
  exact ⟨_, rfl, ⟨_, _, rfl⟩, H7.out.less (fun _ e => by cases e) (fun p hp => List.mem_cons.2 (.inl (List.mem_singleton.1 hp)))⟩
/-- What laying fields comes to. -/
def blankK (y : Int) (f : Nat) (o : O4) : K := if (f : Int) = o.2.2.1 then .take o.2.1 (.born y) else .blank y f o
theorem mk_blank_any {R : Rs} (y : Int) (f : Nat) (o : O4) (h : Cx b R w x L Q) :
    Calls Tryz.prog 287 #[.pointer (some ⟨b.a, 0, none⟩), .int .i64 y, .int .i64 f, .agg #[.int .i64 o.1, .int .i64 o.2.1, .int .i64 o.2.2.1, .int .i64 o.2.2.2]] w fun e w' => ∃ g c2, e = .returned (.func (.func g) #[] c2) ∧ Cx b R w' x L ((blankK y f o, fn g c2) :: Q) := by
  unfold blankK
  by_cases h0 : (f : Int) = o.2.2.1
  · rw [if_pos h0]; exact mk_blank_yes y f o h h0
  · rw [if_neg h0]; exact mk_blank_no y f o h h0
set_option maxRecDepth 100000 in
theorem st_begin (y : Int) (o : O4) (hz : Tz b.y) (hmm : x.m < 800000) (hf : Fits b z) (h : Cx b (mxR b.y z m) w x L Q) {v : Value} (hm : (K.begin y o, v) ∈ Q) :
    ∃ f cap, v = fn f cap ∧ Calls Tryz.prog f cap w fun e w' => ∃ v', e = .returned v' ∧ Out b z w' (hp x (beX x.s y o.2.2.1) (x.m + 1)) (m) (some (blankK y 0 o)) v' := by
  obtain ⟨O, d, ps, cs, h⟩ := h
  obtain ⟨b0, b1, b2, rfl, h0, h1, h2⟩ := h.Q _ hm
  rw [hf.a] at h0
  refine ⟨285, #[.pointer (some ⟨b0, 0, none⟩), .pointer (some ⟨b1, 0, none⟩), .pointer (some ⟨b2, 0, none⟩)], rfl, ?_⟩
  obtain ⟨LL, hLL⟩ : ∃ LL : List (Nat × Nat × Value), LL = [(b0, 0, pt z.M), (b1, 0, .int .i64 y), (b2, 0, .int .i64 o.1), (b2, 1, .int .i64 o.2.1), (b2, 2, .int .i64 o.2.2.1), (b2, 3, .int .i64 o.2.2.2)] := ⟨_, rfl⟩
  obtain ⟨QQ, hQQ⟩ : ∃ QQ : List (K × Value), QQ = [] := ⟨_, rfl⟩
  have H := Lib.hid (h.sub (L' := LL) (Q' := QQ) (by rw [hLL]; exact (List.forall_mem_cons.2 ⟨h0, (List.forall_mem_cons.2 ⟨h1, (List.forall_mem_cons.2 ⟨h2.1, (List.forall_mem_cons.2 ⟨h2.2.1, (List.forall_mem_cons.2 ⟨h2.2.2.1, (List.forall_mem_cons.2 ⟨h2.2.2.2, (fun _ e => by cases e)⟩)⟩)⟩)⟩)⟩)⟩)) (by rw [hQQ]; exact (fun _ e => by cases e)))
  have A0 : Hid ((b0, 0, pt z.M) ∈ LL) := Lib.hid (by rw [hLL]; simp)
  have A1 : Hid ((b1, 0, .int .i64 y) ∈ LL) := Lib.hid (by rw [hLL]; simp)
  have A2 : Hid ((b2, 0, .int .i64 o.1) ∈ LL) := Lib.hid (by rw [hLL]; simp)
  have A3 : Hid ((b2, 1, .int .i64 o.2.1) ∈ LL) := Lib.hid (by rw [hLL]; simp)
  have A4 : Hid ((b2, 2, .int .i64 o.2.2.1) ∈ LL) := Lib.hid (by rw [hLL]; simp)
  have A5 : Hid ((b2, 3, .int .i64 o.2.2.2) ∈ LL) := Lib.hid (by rw [hLL]; simp)
  clear hLL hQQ
  clear h hm h0 h1 h2
  go_enter Tryz.func285, Tryz.ntmps285
  have e1 := H.out.at A0.out
  have e2 := H.out.m0
  have e3 := H.out.s0
  have e4 := H.out.at A1.out
  have e5 := H.out.at A4.out
  have K1 := Lib.hid (fun W xx m QQ (h : Cx b (mxR b.y z m) W xx LL QQ) => (⟨h.at A0.out, h.m0, h.s0, h.at A1.out, h.at A4.out⟩ : W.cell? ⟨b0, 0, none⟩ = some (pt z.M) ∧ W.cell? ⟨z.M, 0, none⟩ = some (.pointer (some ⟨b.y.S, 0, none⟩)) ∧ W.cell? ⟨b.y.S, 0, none⟩ = some (.pointer (some ⟨b.y.H, 0, none⟩)) ∧ W.cell? ⟨b1, 0, none⟩ = some (.int .i64 y) ∧ W.cell? ⟨b2, 2, none⟩ = some (.int .i64 o.2.2.1)))
  have C1 := Lib.hid (cx_begin y o.2.2.1 (by omega) hz (H.out.drew))
  go_wp2_with fail
  go_region_held3 (fun W => W.cell? ⟨b0, 0, none⟩ = some (pt z.M) ∧ W.cell? ⟨z.M, 0, none⟩ = some (.pointer (some ⟨b.y.S, 0, none⟩)) ∧ W.cell? ⟨b.y.S, 0, none⟩ = some (.pointer (some ⟨b.y.H, 0, none⟩)) ∧ W.cell? ⟨b1, 0, none⟩ = some (.int .i64 y) ∧ W.cell? ⟨b2, 2, none⟩ = some (.int .i64 o.2.2.1))
    (first | exact K1.out _ _ _ _ H.out.drew | exact K1.out _ _ _ _ h1)
    ((go_at_call 286; refine C1.out.mono ?_; rintro e w1 ⟨rfl, h1⟩))
  clear e1 e2 e3 e4 e5
  have H1 := Lib.hid h1
  clear h1
  have e6 := H1.out.at A0.out
  have e7 := H1.out.at A1.out
  have e8 := H1.out.at A2.out
  have e9 := H1.out.at A3.out
  have e10 := H1.out.at A4.out
  have e11 := H1.out.at A5.out
  have C13 := Lib.hid (hf.a ▸ mk_blank_any y 0 o H1.out)
  go_wp2_with (go_at_call 287; fail)
  refine C13.out.mono ?_
  rintro e w13 ⟨g, c2, rfl, h13⟩
  clear e6 e7 e8 e9 e10 e11
  have H13 := Lib.hid h13
  clear h13
  go_wp2_with fail
  go_ret
  exact ⟨_, rfl, ⟨_, _, rfl⟩, H13.out.less (fun _ e => by cases e) (fun p hp => List.mem_cons.2 (.inl (List.mem_singleton.1 hp)))⟩
set_option maxRecDepth 100000 in
theorem st_blank (y : Int) (n : Nat) (o : O4) (hz : Tz b.y) (hmm : x.m < 800000) (hf15 : n ≤ 100) (hf : Fits b z) (h : Cx b (mxR b.y z m) w x L Q) {v : Value} (hm : (K.blank y n o, v) ∈ Q) :
    ∃ f cap, v = fn f cap ∧ Calls Tryz.prog f cap w fun e w' => ∃ v', e = .returned v' ∧ Out b z w' (hp x (stX x.s y n 0) (x.m + 2)) (m) (some (blankK y (n + 1) o)) v' := by
  obtain ⟨O, d, ps, cs, h⟩ := h
  obtain ⟨b0, b1, b2, b3, rfl, h0, h1, h2, h3⟩ := h.Q _ hm
  rw [hf.a] at h0
  refine ⟨318, #[.pointer (some ⟨b0, 0, none⟩), .pointer (some ⟨b1, 0, none⟩), .pointer (some ⟨b2, 0, none⟩), .pointer (some ⟨b3, 0, none⟩)], rfl, ?_⟩
  obtain ⟨LL, hLL⟩ : ∃ LL : List (Nat × Nat × Value), LL = [(b0, 0, pt z.M), (b1, 0, .int .i64 y), (b2, 0, .int .i64 n), (b3, 0, .int .i64 o.1), (b3, 1, .int .i64 o.2.1), (b3, 2, .int .i64 o.2.2.1), (b3, 3, .int .i64 o.2.2.2)] := ⟨_, rfl⟩
  obtain ⟨QQ, hQQ⟩ : ∃ QQ : List (K × Value), QQ = [] := ⟨_, rfl⟩
  have H := Lib.hid (h.sub (L' := LL) (Q' := QQ) (by rw [hLL]; exact (List.forall_mem_cons.2 ⟨h0, (List.forall_mem_cons.2 ⟨h1, (List.forall_mem_cons.2 ⟨h2, (List.forall_mem_cons.2 ⟨h3.1, (List.forall_mem_cons.2 ⟨h3.2.1, (List.forall_mem_cons.2 ⟨h3.2.2.1, (List.forall_mem_cons.2 ⟨h3.2.2.2, (fun _ e => by cases e)⟩)⟩)⟩)⟩)⟩)⟩)⟩)) (by rw [hQQ]; exact (fun _ e => by cases e)))
  have A0 : Hid ((b0, 0, pt z.M) ∈ LL) := Lib.hid (by rw [hLL]; simp)
  have A1 : Hid ((b1, 0, .int .i64 y) ∈ LL) := Lib.hid (by rw [hLL]; simp)
  have A2 : Hid ((b2, 0, .int .i64 n) ∈ LL) := Lib.hid (by rw [hLL]; simp)
  have A3 : Hid ((b3, 0, .int .i64 o.1) ∈ LL) := Lib.hid (by rw [hLL]; simp)
  have A4 : Hid ((b3, 1, .int .i64 o.2.1) ∈ LL) := Lib.hid (by rw [hLL]; simp)
  have A5 : Hid ((b3, 2, .int .i64 o.2.2.1) ∈ LL) := Lib.hid (by rw [hLL]; simp)
  have A6 : Hid ((b3, 3, .int .i64 o.2.2.2) ∈ LL) := Lib.hid (by rw [hLL]; simp)
  clear hLL hQQ
  have g0 : (0 : Int) ≤ (n : Int) := by omega
  have g1 : (n : Int) ≤ 100 := by omega
  clear h hm h0 h1 h2 h3
  go_enter Tryz.func318, Tryz.ntmps318
  have e1 := H.out.at A0.out
  have e2 := H.out.m0
  have e3 := H.out.s0
  have e4 := H.out.at A1.out
  have e5 := H.out.at A2.out
  have K1 := Lib.hid (fun W xx m QQ (h : Cx b (mxR b.y z m) W xx LL QQ) => (⟨h.at A0.out, h.m0, h.s0, h.at A1.out, h.at A2.out⟩ : W.cell? ⟨b0, 0, none⟩ = some (pt z.M) ∧ W.cell? ⟨z.M, 0, none⟩ = some (.pointer (some ⟨b.y.S, 0, none⟩)) ∧ W.cell? ⟨b.y.S, 0, none⟩ = some (.pointer (some ⟨b.y.H, 0, none⟩)) ∧ W.cell? ⟨b1, 0, none⟩ = some (.int .i64 y) ∧ W.cell? ⟨b2, 0, none⟩ = some (.int .i64 n)))
  have C1 := Lib.hid (cx_store y n 0 (by omega) hz (H.out.drew))
  go_wp2_with fail
  go_region_held3 (fun W => W.cell? ⟨b0, 0, none⟩ = some (pt z.M) ∧ W.cell? ⟨z.M, 0, none⟩ = some (.pointer (some ⟨b.y.S, 0, none⟩)) ∧ W.cell? ⟨b.y.S, 0, none⟩ = some (.pointer (some ⟨b.y.H, 0, none⟩)) ∧ W.cell? ⟨b1, 0, none⟩ = some (.int .i64 y) ∧ W.cell? ⟨b2, 0, none⟩ = some (.int .i64 n))
    (first | exact K1.out _ _ _ _ H.out.drew | exact K1.out _ _ _ _ h1)
    ((go_at_call 204; refine C1.out.mono ?_; rintro e w1 ⟨rfl, h1⟩))
  clear e1 e2 e3 e4 e5
  have H1 := Lib.hid h1
  clear h1
  have e6 := H1.out.at A0.out
  have e7 := H1.out.at A1.out
  have e8 := H1.out.at A2.out
  have e9 := H1.out.at A3.out
  have e10 := H1.out.at A4.out
  have e11 := H1.out.at A5.out
  have e12 := H1.out.at A6.out
  have C14 := Lib.hid (hf.a ▸ mk_blank_any y (n + 1) o H1.out)
  go_wp2_with (go_at_call 287; fail)
  refine C14.out.mono ?_
  rintro e w14 ⟨g, c2, rfl, h14⟩
  clear e6 e7 e8 e9 e10 e11 e12
  have H14 := Lib.hid h14
  clear h14
  go_wp2_with fail
  go_ret
  exact ⟨_, rfl, ⟨_, _, rfl⟩, H14.out.less (fun _ e => by cases e) (fun p hp => List.mem_cons.2 (.inl (List.mem_singleton.1 hp)))⟩
end
end Go.Proofs.YtipifkgmhgkleaaGreatDoor.Mv

namespace Go.Proofs.YtipifkgmhgkleaaGreatDoor.Mv
open Go.RowKit
open Hp (Ids St Is To Mine bnI coE coV fE fN lV lE sE stS ccE cV scE scS puE puS beE beS baE baS asS colB)
open Blk (perN adr cellsF)
open Mu (Sy Sd Ml Md lt_of_cell O4 CellsL mutA)
open Go.Proofs.YtipifkgmhgkleaaGreatDoor.Row (Chg rowB Rd other same cellsZ owns_lt owns_cap)

/-- The slots of the block that is assigned next. -/
def asL (s : St) (k : Nat) : List Int := (List.range (perN s.c k)).map fun i => adr s.c k s.ks.length i
theorem asL_len (s : St) (k : Nat) : (asL s k).length = perN s.c k := by simp [asL]
theorem asL_cells (s : St) (k : Nat) : cellsF (adr s.c k s.ks.length) (perN s.c k) = cellsZ (asL s k) := by simp [cellsF, cellsZ, asL]
section
variable {b : Ba} {R : Rs} {w : World} {x : Sd} {L : List (Nat × Nat × Value)} {Q : List (K × Value)}
theorem cx_assign (k : Nat) (hz : Tz b.y) (hk : k < 4) (hf : (x.s.ks.length : Int) < x.s.c.b) (h : Cx b R w x L Q) :
    Calls Tryz.prog 251 #[.pointer (some ⟨b.y.H, 0, none⟩), .int .i64 k] w fun e w' => ∃ g off cap, e = .returned (.tuple #[.slice (some ⟨g, off, none⟩) (asL x.s k).length cap, .int .i64 0]) ∧ (asL x.s k).length ≤ cap ∧ cap ≤ maxLen ∧
      Cx b R w' (hp x (asS x.s k) x.m) ((g, off, .int .i64 ((asL x.s k).getD 0 0)) :: L) ((.row (asL x.s k), .slice (some ⟨g, off, none⟩) (asL x.s k).length cap) :: Q) := by
  obtain ⟨O, d, ps, cs, h⟩ := h
  refine (Hp.assign_good k w h.sx.sh.hp (h.tabs hz) hk hf).mono ?_
  rintro e w' ⟨p, cap, d', rfl, hown, h1, h2, h3, h4⟩
  have hpos : 1 ≤ perN x.s.c k := Blk.perN_pos h.sx.sh.hp.wf.right hk
  rw [asL_cells] at hown
  rw [← asL_len] at hown ⊢
  have hrd := Rd.of_owns hown
  obtain ⟨g, off, rfl, hc⟩ := hrd.at (j := 0) (by rw [asL_len]; omega)
  have hg : rowB (some ⟨g, off, none⟩) g := rfl
  obtain ⟨O', hm, hs, hz⟩ := h.sx.heapD h.ok h1 h2 h3
  have hO : O' g = 0 := hz g (owns_lt hown hg).1 (h4 g hg)
  have hX := h.move (R' := R) hm (fun _ e => e ▸ b.p1) hs (R.st hm h.r)
  refine ⟨g, off, cap, rfl, (owns_cap hown).1, (owns_cap hown).2, O', d', ps, cs, hX.mv, hX.ok, hX.sx, hX.r, fun p hp => ?_, fun p hp => ?_⟩
  · rcases List.mem_cons.1 hp with rfl | hp
    · exact ⟨by rw [Nat.add_zero] at hc; exact hc, hO⟩
    · exact hX.L p hp
  · rcases List.mem_cons.1 hp with rfl | hp
    · exact ⟨_, cap, rfl, hrd, (owns_cap hown).1, fun g' hg' => ⟨hz g' (owns_lt hown hg').1 (h4 g' hg'), (owns_lt hown hg').2⟩⟩
    · exact hX.Q p hp
/-- What putting comes to. -/
def putK (sl : List Int) (y : Int) (o : O4) : K := if sl = [] then .begin y o else .put sl y o
theorem mk_put_any {p : Option Addr} {cp : Nat} (sl : List Int) (y : Int) (o : O4) {f : FuncId} {cap : Array Value} (h : Cx b R w x L Q) (hs : (K.row sl, .slice p sl.length cp) ∈ Q) (hr : (K.begin y o, fn f cap) ∈ Q) (hl2 : sl.length ≤ 100000) :
    Calls Tryz.prog 252 #[.pointer (some ⟨b.a, 0, none⟩), .slice p sl.length cp, .func (.func f) #[] cap] w fun e w' => ∃ g c2, e = .returned (.func (.func g) #[] c2) ∧ Cx b R w' x L ((putK sl y o, fn g c2) :: Q) := by
  unfold putK
  by_cases h0 : sl = []
  · subst h0
    rw [if_pos rfl]
    refine (mk_put_nil (p := p) (cp := cp) (f := f) (cap := cap) h).mono ?_
    rintro e w' ⟨rfl, h2⟩
    exact ⟨f, cap, rfl, h2.less (fun p hp => hp) (fun p hp => (List.mem_cons.1 hp).elim (fun e => e ▸ hr) id)⟩
  · rw [if_neg h0]
    exact mk_put sl y o h hs hr (List.length_pos_iff.2 h0) hl2
end
-- GENERATED
section
variable {b : Ba} {z : Ml} {m : Md} {w : World} {x : Sd} {L : List (Nat × Nat × Value)} {Q : List (K × Value)}
set_option maxRecDepth 100000 in
theorem st_put (sl : List Int) (y : Int) (o : O4) (n : Nat) {av : Int} {s2 : List Int} (hz : Tz b.y) (hsl : sl.length = n + 1) (hav : sl.getD n 0 = av) (hs2 : sl.take n = s2) (hn : n ≤ 1000) (hmm : x.m < 800000) (hf : Fits b z) (h : Cx b (mxR b.y z m) w x L Q) {v : Value} (hm : (K.put sl y o, v) ∈ Q) :
    ∃ f cap, v = fn f cap ∧ Calls Tryz.prog f cap w fun e w' => ∃ v', e = .returned v' ∧ Out b z w' (hp x (puX x.s av) (x.m + 1)) (m) (some (putK s2 y o)) v' := by
  obtain ⟨O, d, ps, cs, h⟩ := h
  obtain ⟨b0, b1, b2, b3, p, cap, tv, rfl, h0, h1, h2, h3, h4, h5⟩ := h.Q _ hm
  obtain ⟨f1, d1, rfl⟩ := Ls.isFn (q := .begin y o) (N := 0) h5 rfl
  have e2 : ((sl.length : Int) - 1) = (n : Nat) := by omega
  obtain ⟨g0, off, rfl, hcell⟩ := h4.1.at (j := n) (by omega)
  have hle := h4.2.1
  have hrow : Ls O w b.a b.N (.row (sl.take n)) (.slice (some ⟨g0, off, none⟩) (sl.take n).length cap) := ⟨_, cap, rfl, .inr ⟨g0, off, rfl, fun j hj => by rw [List.length_take] at hj; obtain ⟨g2, o2, e3, hc2⟩ := h4.1.at (j := j) (by omega); cases e3; rw [hc2]; simp [List.getD_eq_getElem?_getD, show j < n by omega]⟩, by rw [List.length_take]; omega, h4.2.2⟩
  rw [hf.a] at h0
  refine ⟨296, #[.pointer (some ⟨b0, 0, none⟩), .pointer (some ⟨b1, 0, none⟩), .pointer (some ⟨b2, 0, none⟩), .pointer (some ⟨b3, 0, none⟩)], rfl, ?_⟩
  obtain ⟨LL, hLL⟩ : ∃ LL : List (Nat × Nat × Value), LL = [(b0, 0, pt z.M), (b1, 0, .slice (some ⟨g0, off, none⟩) (n + 1 : Nat) cap), (b2, 0, .int .i64 (n : Nat)), (b3, 0, fn f1 d1), (g0, off + n, .int .i64 av)] := ⟨_, rfl⟩
  obtain ⟨QQ, hQQ⟩ : ∃ QQ : List (K × Value), QQ = [(.begin y o, fn f1 d1), (.row s2, .slice (some ⟨g0, off, none⟩) s2.length cap)] := ⟨_, rfl⟩
  have H := Lib.hid (h.sub (L' := LL) (Q' := QQ) (by rw [hLL]; exact (List.forall_mem_cons.2 ⟨h0, (List.forall_mem_cons.2 ⟨(hsl ▸ h1), (List.forall_mem_cons.2 ⟨(e2 ▸ h2), (List.forall_mem_cons.2 ⟨h3, (List.forall_mem_cons.2 ⟨⟨hav ▸ hcell, (h4.2.2 g0 rfl).1⟩, (fun _ e => by cases e)⟩)⟩)⟩)⟩)⟩)) (by rw [hQQ]; exact (List.forall_mem_cons.2 ⟨h5, (List.forall_mem_cons.2 ⟨hs2 ▸ hrow, (fun _ e => by cases e)⟩)⟩)))
  have A0 : Hid ((b0, 0, pt z.M) ∈ LL) := Lib.hid (by rw [hLL]; simp)
  have A1 : Hid ((b1, 0, .slice (some ⟨g0, off, none⟩) (n + 1 : Nat) cap) ∈ LL) := Lib.hid (by rw [hLL]; simp)
  have A2 : Hid ((b2, 0, .int .i64 (n : Nat)) ∈ LL) := Lib.hid (by rw [hLL]; simp)
  have A3 : Hid ((b3, 0, fn f1 d1) ∈ LL) := Lib.hid (by rw [hLL]; simp)
  have A4 : Hid ((g0, off + n, .int .i64 av) ∈ LL) := Lib.hid (by rw [hLL]; simp)
  have B0 : Hid ((.begin y o, fn f1 d1) ∈ QQ) := Lib.hid (by rw [hQQ]; simp)
  have B1 : Hid ((.row s2, .slice (some ⟨g0, off, none⟩) s2.length cap) ∈ QQ) := Lib.hid (by rw [hQQ]; simp)
  clear hLL hQQ
  have hln : s2.length = n := by rw [← hs2, List.length_take]; omega
  have g0i : (0 : Int) ≤ (n : Int) := by omega
  have g1i : (n : Int) ≤ 1000 := by omega
  have g2i : (n : Int) ≤ (cap : Int) := by omega
  have g3i : (n : Int) < ((n + 1 : Nat) : Int) := by omega
  obtain ⟨N1, hN1⟩ : ∃ N1, n + 1 = N1 := ⟨_, rfl⟩
  rw [hN1] at A1 g3i
  have g4i : (n : Int) ≤ (N1 : Int) := by omega
  clear hN1
  have HLN := Lib.hid hln
  clear h hm h0 h1 h2 h3 h4 h5 hcell hrow e2 hle hs2 hav hsl hln
  go_enter Tryz.func296, Tryz.ntmps296
  have e1 := H.out.at A0.out
  have e2 := H.out.m0
  have e3 := H.out.s0
  have e4 := H.out.at A1.out
  have e5 := H.out.at A2.out
  have e6 := H.out.at A4.out
  have K1 := Lib.hid (fun W xx m QQ (h : Cx b (mxR b.y z m) W xx LL QQ) => (⟨h.at A0.out, h.m0, h.s0, h.at A1.out, h.at A2.out, h.at A4.out⟩ : W.cell? ⟨b0, 0, none⟩ = some (pt z.M) ∧ W.cell? ⟨z.M, 0, none⟩ = some (.pointer (some ⟨b.y.S, 0, none⟩)) ∧ W.cell? ⟨b.y.S, 0, none⟩ = some (.pointer (some ⟨b.y.H, 0, none⟩)) ∧ W.cell? ⟨b1, 0, none⟩ = some (.slice (some ⟨g0, off, none⟩) N1 cap) ∧ W.cell? ⟨b2, 0, none⟩ = some (.int .i64 (n : Nat)) ∧ W.cell? ⟨g0, off + n, none⟩ = some (.int .i64 av)))
  have C1 := Lib.hid (cx_put av (by omega) hz (H.out.drew))
  go_wp2_with fail
  go_region_held3 (fun W => W.cell? ⟨b0, 0, none⟩ = some (pt z.M) ∧ W.cell? ⟨z.M, 0, none⟩ = some (.pointer (some ⟨b.y.S, 0, none⟩)) ∧ W.cell? ⟨b.y.S, 0, none⟩ = some (.pointer (some ⟨b.y.H, 0, none⟩)) ∧ W.cell? ⟨b1, 0, none⟩ = some (.slice (some ⟨g0, off, none⟩) N1 cap) ∧ W.cell? ⟨b2, 0, none⟩ = some (.int .i64 (n : Nat)) ∧ W.cell? ⟨g0, off + n, none⟩ = some (.int .i64 av))
    (first | exact K1.out _ _ _ _ H.out.drew | exact K1.out _ _ _ _ h1)
    ((go_at_call 297; refine C1.out.mono ?_; rintro e w1 ⟨rfl, h1⟩))
  clear e1 e2 e3 e4 e5 e6
  have H1 := Lib.hid h1
  clear h1
  have CP := Lib.hid (mk_put_any s2 y o H1.out.drew B1.out B0.out (by have := HLN.out; omega))
  rw [HLN.out, hf.a] at CP
  have e7 := H1.out.at A0.out
  have e8 := H1.out.at A1.out
  have e9 := H1.out.at A2.out
  have e10 := H1.out.at A3.out
  have KK := Lib.hid (fun W xx QQ (h : Cx b (mxR b.y z m) W xx LL QQ) => (⟨h.at A0.out, h.at A1.out, h.at A2.out, h.at A3.out⟩ : W.cell? ⟨b0, 0, none⟩ = some (pt z.M) ∧ W.cell? ⟨b1, 0, none⟩ = some (.slice (some ⟨g0, off, none⟩) N1 cap) ∧ W.cell? ⟨b2, 0, none⟩ = some (.int .i64 (n : Nat)) ∧ W.cell? ⟨b3, 0, none⟩ = some (fn f1 d1)))
  go_wp2_with fail
  go_region_held3 (fun W => W.cell? ⟨b0, 0, none⟩ = some (pt z.M) ∧ W.cell? ⟨b1, 0, none⟩ = some (.slice (some ⟨g0, off, none⟩) N1 cap) ∧ W.cell? ⟨b2, 0, none⟩ = some (.int .i64 (n : Nat)) ∧ W.cell? ⟨b3, 0, none⟩ = some (fn f1 d1))
    (first | exact KK.out _ _ _ H1.out.drew | exact KK.out _ _ _ h9)
    ((go_at_call 252; refine CP.out.mono ?_; rintro e w9 ⟨g9, c9, rfl, h9⟩))
  clear e7 e8 e9 e10
  have H99 := Lib.hid h9
  clear h9
  go_wp2_with fail
  go_ret
  exact ⟨_, rfl, ⟨_, _, rfl⟩, H99.out.less (fun _ e => by cases e) (fun p hp => List.mem_cons.2 (.inl (List.mem_singleton.1 hp)))⟩
set_option maxRecDepth 100000 in
set_option maxHeartbeats 1000000 in
theorem st_assign (k : Nat) (o : O4) {a0 : Int} {al : List Int} {N : Nat} (hz : Tz b.y) (hk : k < 4) (hfr : (x.s.ks.length : Int) < x.s.c.b) (hal : asL x.s k = a0 :: al) (hN : al.length = N) (hN2 : N ≤ 1000) (hf : Fits b z) (h : Cx b (mxR b.y z m) w x L Q) {v : Value} (hm : (K.assign k o, v) ∈ Q) :
    ∃ f cap, v = fn f cap ∧ Calls Tryz.prog f cap w fun e w' => ∃ v', e = .returned v' ∧ Out b z w' (hp x (asS x.s k) x.m) (m) (some (putK al a0 o)) v' := by
  obtain ⟨O, d, ps, cs, h⟩ := h
  obtain ⟨b0, b1, b2, b3, tv, rfl, h0, h1, h2, h3, h4⟩ := h.Q _ hm
  obtain ⟨f1, d1, rfl⟩ := Ls.isFn (q := .late k o) (N := 0) h4 rfl
  rw [hf.a] at h0
  refine ⟨250, #[.pointer (some ⟨b0, 0, none⟩), .pointer (some ⟨b1, 0, none⟩), .pointer (some ⟨b2, 0, none⟩), .pointer (some ⟨b3, 0, none⟩)], rfl, ?_⟩
  obtain ⟨LL, hLL⟩ : ∃ LL : List (Nat × Nat × Value), LL = [(b0, 0, pt z.M), (b1, 0, .int .i64 k), (b2, 0, fn f1 d1), (b3, 0, .int .i64 o.1), (b3, 1, .int .i64 o.2.1), (b3, 2, .int .i64 o.2.2.1), (b3, 3, .int .i64 o.2.2.2)] := ⟨_, rfl⟩
  obtain ⟨QQ, hQQ⟩ : ∃ QQ : List (K × Value), QQ = [(.late k o, fn f1 d1)] := ⟨_, rfl⟩
  have H := Lib.hid (h.sub (L' := LL) (Q' := QQ) (by rw [hLL]; exact (List.forall_mem_cons.2 ⟨h0, (List.forall_mem_cons.2 ⟨h1, (List.forall_mem_cons.2 ⟨h2, (List.forall_mem_cons.2 ⟨h3.1, (List.forall_mem_cons.2 ⟨h3.2.1, (List.forall_mem_cons.2 ⟨h3.2.2.1, (List.forall_mem_cons.2 ⟨h3.2.2.2, (fun _ e => by cases e)⟩)⟩)⟩)⟩)⟩)⟩)⟩)) (by rw [hQQ]; exact (List.forall_mem_cons.2 ⟨h4, (fun _ e => by cases e)⟩)))
  have A0 : Hid ((b0, 0, pt z.M) ∈ LL) := Lib.hid (by rw [hLL]; simp)
  have A1 : Hid ((b1, 0, .int .i64 k) ∈ LL) := Lib.hid (by rw [hLL]; simp)
  have A2 : Hid ((b2, 0, fn f1 d1) ∈ LL) := Lib.hid (by rw [hLL]; simp)
  have A3 : Hid ((b3, 0, .int .i64 o.1) ∈ LL) := Lib.hid (by rw [hLL]; simp)
  have A4 : Hid ((b3, 1, .int .i64 o.2.1) ∈ LL) := Lib.hid (by rw [hLL]; simp)
  have A5 : Hid ((b3, 2, .int .i64 o.2.2.1) ∈ LL) := Lib.hid (by rw [hLL]; simp)
  have A6 : Hid ((b3, 3, .int .i64 o.2.2.2) ∈ LL) := Lib.hid (by rw [hLL]; simp)
  have B0 : Hid ((.late k o, fn f1 d1) ∈ QQ) := Lib.hid (by rw [hQQ]; simp)
  clear hLL hQQ
  have CA := cx_assign k hz hk hfr H.out.drew
  rw [hal] at CA
  simp only [List.length_cons, hN, List.getD_cons_zero] at CA
  have CA := Lib.hid CA
  have HN := Lib.hid hN
  have HN2 := Lib.hid hN2
  clear h hm h0 h1 h2 h3 h4 hal hN hN2
  go_enter Tryz.func250, Tryz.ntmps250
  have e0 := H.out.at A0.out
  have e1 := H.out.m0
  have e2 := H.out.s0
  have e3 := H.out.at A1.out
  have KK := Lib.hid (fun W xx LX QX (h : Cx b (mxR b.y z m) W xx LX QX) (hL : ∀ p ∈ LL, p ∈ LX) => (⟨h.at (hL _ A0.out), h.m0, h.s0, h.at (hL _ A1.out)⟩ : W.cell? ⟨b0, 0, none⟩ = some (pt z.M) ∧ W.cell? ⟨z.M, 0, none⟩ = some (.pointer (some ⟨b.y.S, 0, none⟩)) ∧ W.cell? ⟨b.y.S, 0, none⟩ = some (.pointer (some ⟨b.y.H, 0, none⟩)) ∧ W.cell? ⟨b1, 0, none⟩ = some (.int .i64 k)))
  go_wp2_with fail
  go_region_held3 (fun W => W.cell? ⟨b0, 0, none⟩ = some (pt z.M) ∧ W.cell? ⟨z.M, 0, none⟩ = some (.pointer (some ⟨b.y.S, 0, none⟩)) ∧ W.cell? ⟨b.y.S, 0, none⟩ = some (.pointer (some ⟨b.y.H, 0, none⟩)) ∧ W.cell? ⟨b1, 0, none⟩ = some (.int .i64 k))
    (first | exact KK.out _ _ _ _ H.out.drew (fun _ h => h) | exact KK.out _ _ _ _ h2 (fun _ h => List.mem_cons_of_mem _ h))
    ((go_at_call 251; refine CA.out.mono ?_; rintro e w2 ⟨g0, off, cap, rfl, hcl, hcm, h2⟩))
  clear e0 e1 e2 e3
  clear KK CA H
  have BL : Hid (∀ p ∈ LL, p ∈ (g0, off, Value.int .i64 a0) :: LL) := Lib.hid (fun _ h => List.mem_cons_of_mem _ h)
  have KK := Lib.hid (fun W xx QX (h : Cx b (mxR b.y z m) W xx ((g0, off, Value.int .i64 a0) :: LL) QX) => (⟨h.at (BL.out _ A0.out), h.at (BL.out _ A3.out), h.at (BL.out _ A4.out), h.at (BL.out _ A5.out), h.at (BL.out _ A6.out), h.at (List.mem_cons_self ..)⟩ : W.cell? ⟨b0, 0, none⟩ = some (pt z.M) ∧ W.cell? ⟨b3, 0, none⟩ = some (.int .i64 o.1) ∧ W.cell? ⟨b3, 1, none⟩ = some (.int .i64 o.2.1) ∧ W.cell? ⟨b3, 2, none⟩ = some (.int .i64 o.2.2.1) ∧ W.cell? ⟨b3, 3, none⟩ = some (.int .i64 o.2.2.2) ∧ W.cell? ⟨g0, off, none⟩ = some (.int .i64 a0)))
  have k0 := KK.out _ _ _ h2
  obtain ⟨k1, k2, k3, k4, k5, k6⟩ := k0
  have n0 : (0 : Int) ≤ (N : Int) := by omega
  have n1 : (N : Int) ≤ 1000 := by have := HN2.out; omega
  clear hcm
  by_cases hc1 : cap = 1
  · subst hc1
    obtain rfl : N = 0 := by omega
    simp only [Nat.zero_add] at h2
    clear n0 n1 hcl
    have h3 := h2.push (q := .row al) (v := .slice (some ⟨g0, off, none⟩) al.length 0) fun O hL hQ => by
      obtain ⟨p9, cp9, e9, hr⟩ := hQ _ (List.mem_cons_self ..)
      injection e9 with q1 q2 q3
      subst q1
      have hz : al.length = 0 := by have := HN.out; omega
      have hnil := List.eq_nil_of_length_eq_zero hz
      subst hnil
      exact ⟨some ⟨g0, off, none⟩, 0, rfl, .inr ⟨g0, off, rfl, fun j hj => by simp at hj⟩, Nat.le_refl _, hr.2.2⟩
    rw [HN.out] at h3
    have HH := Lib.hid h3
    have CB := Lib.hid (mk_begin a0 o h3.drew)
    rw [hf.a] at CB
    have CP := Lib.hid (fun W g c (h : Cx b (mxR b.y z m) W (hp x (asS x.s k) x.m) ((g0, off, Value.int .i64 a0) :: LL) ((.begin a0 o, fn g c) :: (.row al, .slice (some ⟨g0, off, none⟩) 0 0) :: (.row (a0 :: al), .slice (some ⟨g0, off, none⟩) 1 1) :: QQ)) => mk_put_any al a0 o h (by rw [← HN.out]; exact List.mem_cons_of_mem _ (List.mem_cons_self ..)) (List.mem_cons_self ..) (by have := HN.out; have := HN2.out; omega))
    rw [hf.a, HN.out] at CP
    clear h2 h3
    go_wp2_with fail
    go_region_held3 (fun W => W.cell? ⟨b0, 0, none⟩ = some (pt z.M) ∧ W.cell? ⟨b3, 0, none⟩ = some (.int .i64 o.1) ∧ W.cell? ⟨b3, 1, none⟩ = some (.int .i64 o.2.1) ∧ W.cell? ⟨b3, 2, none⟩ = some (.int .i64 o.2.2.1) ∧ W.cell? ⟨b3, 3, none⟩ = some (.int .i64 o.2.2.2) ∧ W.cell? ⟨g0, off, none⟩ = some (.int .i64 a0))
      (first | exact KK.out _ _ _ HH.out.drew | exact KK.out _ _ _ h5 | exact KK.out _ _ _ h6)
      (first | (go_at_call 243; refine CB.out.mono ?_; rintro e w5 ⟨g5, c5, rfl, h5⟩) | (go_at_call 252; refine (CP.out _ _ _ h5).mono ?_; rintro e w6 ⟨g6, c6, rfl, h6⟩))
    have H6 := Lib.hid h6
    clear h6
    go_wp2_with fail
    go_ret
    exact ⟨_, rfl, ⟨_, _, rfl⟩, H6.out.less (fun _ e => by cases e) (fun p hp => List.mem_cons.2 (.inl (List.mem_singleton.1 hp)))⟩
  · have hl0 : (0 : Int) < (N : Int) + 1 := by omega
    have hl1 : (1 : Int) ≤ (N : Int) + 1 := by omega
    have h3 := h2.push (q := .row al) (v := .slice (some ⟨g0, off + 1, none⟩) al.length (cap - 1)) fun O hL hQ => by
      obtain ⟨p9, cp9, e9, hr⟩ := hQ _ (List.mem_cons_self ..)
      injection e9 with q1 q2 q3
      subst q1
      exact ⟨some ⟨g0, off + 1, none⟩, cap - 1, rfl, .inr ⟨g0, off + 1, rfl, fun j hj => by obtain ⟨g2, o2, e3, hc3⟩ := hr.1.at (j := j + 1) (by rw [List.length_cons]; omega); cases e3; rw [show off + 1 + j = off + (j + 1) by omega, hc3, List.getD_cons_succ]⟩, by have := HN.out; omega, fun g hg => hr.2.2 g (by cases hg; rfl)⟩
    rw [HN.out] at h3
    have HH := Lib.hid h3
    have CB := Lib.hid (mk_begin a0 o h3.drew)
    rw [hf.a] at CB
    have CP := Lib.hid (fun W g c (h : Cx b (mxR b.y z m) W (hp x (asS x.s k) x.m) ((g0, off, Value.int .i64 a0) :: LL) ((.begin a0 o, fn g c) :: (.row al, .slice (some ⟨g0, off + 1, none⟩) N (cap - 1)) :: (.row (a0 :: al), .slice (some ⟨g0, off, none⟩) (N + 1) cap) :: QQ)) => mk_put_any al a0 o h (by rw [← HN.out]; exact List.mem_cons_of_mem _ (List.mem_cons_self ..)) (List.mem_cons_self ..) (by have := HN.out; have := HN2.out; omega))
    rw [hf.a, HN.out] at CP
    clear h2 h3
    go_wp2_with fail
    go_region_held3 (fun W => W.cell? ⟨b0, 0, none⟩ = some (pt z.M) ∧ W.cell? ⟨b3, 0, none⟩ = some (.int .i64 o.1) ∧ W.cell? ⟨b3, 1, none⟩ = some (.int .i64 o.2.1) ∧ W.cell? ⟨b3, 2, none⟩ = some (.int .i64 o.2.2.1) ∧ W.cell? ⟨b3, 3, none⟩ = some (.int .i64 o.2.2.2) ∧ W.cell? ⟨g0, off, none⟩ = some (.int .i64 a0))
      (first | exact KK.out _ _ _ HH.out.drew | exact KK.out _ _ _ h5 | exact KK.out _ _ _ h6)
      (first | (go_at_call 243; refine CB.out.mono ?_; rintro e w5 ⟨g5, c5, rfl, h5⟩) | (go_at_call 252; refine (CP.out _ _ _ h5).mono ?_; rintro e w6 ⟨g6, c6, rfl, h6⟩))
    have H6 := Lib.hid h6
    clear h6
    go_wp2_with fail
    go_ret
    exact ⟨_, rfl, ⟨_, _, rfl⟩, H6.out.less (fun _ e => by cases e) (fun p hp => List.mem_cons.2 (.inl (List.mem_singleton.1 hp)))⟩
end
end Go.Proofs.YtipifkgmhgkleaaGreatDoor.Mv

namespace Go.Proofs.YtipifkgmhgkleaaGreatDoor.Mv
open Go.RowKit
open Mu (Sy Sd Ml Md lt_of_cell O4 CellsL mutA)
open Go.Proofs.YtipifkgmhgkleaaGreatDoor.Row (Chg rowB Rd other same)
/-- What an answer does of its own. -/
def anM (m : Md) : An → Md
  | .arm => { m with xs := [], mo := 2, tb := 1 - m.co }
  | .sync => m
  | .scan => { m with co := m.tb }
  | .drain => { m with mo := 1 }
  | .off => { m with xs := [], mo := 0 }
section
variable {b : Ba} {z : Ml} {m : Md} {w : World} {x : Sd} {L : List (Nat × Nat × Value)} {Q : List (K × Value)}
end
end Go.Proofs.YtipifkgmhgkleaaGreatDoor.Mv
