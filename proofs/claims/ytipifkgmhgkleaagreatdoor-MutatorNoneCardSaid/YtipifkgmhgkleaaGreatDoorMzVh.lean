/-
  Texts one behind the other: MvT MvU MvV (theorems that nobody names are left out).
-/
import Derived.Test.YtipifkgmhgkleaaGreatDoorMzVg
import Derived.Deep.RegionLaw
import Derived.Deep.CutBlock
namespace Go.Proofs.YtipifkgmhgkleaaGreatDoor.Mv
open Go.RowKit
open Class (clsI)
open Mu (Sy Sd Ml Md lt_of_cell O4 CellsL mutA)
open Go.Proofs.YtipifkgmhgkleaaGreatDoor.Row (Chg rowB Rd other same)
/-- What Check tells. -/
def ckE (x : Sd) (o : O4) : Int := Opr.checkE x.s.c.b x.s.c.wd x.s.c.m x.s.c.r x.s.c.ce x.s.c.lg x.s.c.st o.1 o.2.1 o.2.2.1 o.2.2.2
section
variable {b : Ba} {w : World} {x : Sd} {L : List (Nat × Nat × Value)} {Q : List (K × Value)}
theorem cx_checkB {R : Rs} (o : O4) (h : Cx b R w x L Q) :
    Calls Tryz.prog 111 #[.agg #[.int .i64 x.s.c.b, .int .i64 x.s.c.wd, .int .i64 x.s.c.m, .int .i64 x.s.c.r, .int .i64 x.s.c.ce, .int .i64 x.s.c.lg, .int .i64 x.s.c.st], .agg #[.int .i64 o.1, .int .i64 o.2.1, .int .i64 o.2.2.1, .int .i64 o.2.2.2]] w fun e w' => e = .returned (.int .i64 (ckE x o)) ∧ Below w.heap.size w w' := by
  obtain ⟨O, d, ps, cs, h⟩ := h
  exact Opr.check_any _ _ _ _ _ _ _ _ _ _ _ w h.ok.fm h.ok.lim
/-- A box that came since. -/
theorem Cx.laterBox {R : Rs} {V : World} {nb : Nat} {v : Value} (h : Cx b R w x L Q) (hb : Below w.heap.size w V) (hn : w.heap.size ≤ nb) (hc : V.cell? ⟨nb, 0, none⟩ = some v) : Cx b R V x ((nb, 0, v) :: L) Q := by
  obtain ⟨O, d, ps, cs, h⟩ := h
  have h2 := h.later hb
  refine ⟨O, d, ps, cs, h2.mv, h2.ok, h2.sx, h2.r, fun p hp => ?_, h2.Q⟩
  rcases List.mem_cons.1 hp with rfl | hp
  · exact ⟨hc, Classical.byContradiction fun e => by have := h.ok.lt _ e; omega⟩
  · exact h2.L p hp
variable {z : Ml} {m : Md}
set_option maxRecDepth 100000 in
set_option maxHeartbeats 1000000 in
/-- operate. -/
theorem op_gen (o : O4) (q : K) (h : Cx b (mxR b.y z m) w x L Q) (hf : Fits b z) (hq : (ckE x o ≠ 0 ∧ q = .fail (ckE x o)) ∨ (ckE x o = 0 ∧ ∃ F, (∀ args W, (callFunc F args).run Tryz.prog W = .ok (.enter F args) W) ∧ (∀ W : World, (Instr.lookup 224 (.map (some W.heap.size)) (.int .i64 o.1) false).run Tryz.prog (W.alloc (.map deedsM 8)).drew = .ok (.func (.func F) #[] #[]) (W.alloc (.map deedsM 8)).drew) ∧ ∀ (V : World) (L' : List (Nat × Nat × Value)), Cx b (mxR b.y z m) V x L' Q → Calls Tryz.prog F #[.pointer (some ⟨z.M, 0, none⟩), .agg #[.int .i64 o.1, .int .i64 o.2.1, .int .i64 o.2.2.1, .int .i64 o.2.2.2]] V fun e w' => ∃ g c2, e = .returned (.func (.func g) #[] c2) ∧ Cx b (mxR b.y z m) w' x L' ((q, fn g c2) :: Q))) :
    Calls Tryz.prog 85 #[.pointer (some ⟨z.M, 0, none⟩), .agg #[.int .i64 o.1, .int .i64 o.2.1, .int .i64 o.2.2.1, .int .i64 o.2.2.2]] w fun e w' => ∃ g c2, e = .returned (.func (.func g) #[] c2) ∧ Cx b (mxR b.y z m) w' x L ((q, fn g c2) :: Q) := by
  obtain ⟨W1, hW1⟩ : ∃ W1, ((w.alloc (.cells #[pt z.M] 30)).alloc (.cells #[.int .i64 o.1, .int .i64 o.2.1, .int .i64 o.2.2.1, .int .i64 o.2.2.2] 72)) = W1 := ⟨_, rfl⟩
  obtain ⟨LL, hLL⟩ : ∃ LL, bxs w.heap.size [([pt z.M], 30), ([.int .i64 o.1, .int .i64 o.2.1, .int .i64 o.2.2.1, .int .i64 o.2.2.2], 72)] ++ L = LL := ⟨_, rfl⟩
  have H : Cx b (mxR b.y z m) W1 x LL Q := by rw [← hW1, ← hLL]; exact h.allocs [([pt z.M], 30), ([.int .i64 o.1, .int .i64 o.2.1, .int .i64 o.2.2.1, .int .i64 o.2.2.2], 72)]
  have A0_0 : (w.heap.size, 0, pt z.M) ∈ LL := by rw [← hLL]; simp [bxs, cellsOf]
  have A1_0 : (w.heap.size + 1, 0, .int .i64 o.1) ∈ LL := by rw [← hLL]; simp [bxs, cellsOf]
  have A1_1 : (w.heap.size + 1, 1, .int .i64 o.2.1) ∈ LL := by rw [← hLL]; simp [bxs, cellsOf]
  have A1_2 : (w.heap.size + 1, 2, .int .i64 o.2.2.1) ∈ LL := by rw [← hLL]; simp [bxs, cellsOf]
  have A1_3 : (w.heap.size + 1, 3, .int .i64 o.2.2.2) ∈ LL := by rw [← hLL]; simp [bxs, cellsOf]
  have hsub : ∀ p ∈ L, p ∈ LL := fun p hp => by rw [← hLL]; exact List.mem_append_right _ hp
  have HH := Lib.hid H
  have HF := Lib.hid hf
  have HS := Lib.hid hsub
  have HA0_0 := Lib.hid A0_0
  have HA1_0 := Lib.hid A1_0
  have HA1_1 := Lib.hid A1_1
  have HA1_2 := Lib.hid A1_2
  have HA1_3 := Lib.hid A1_3
  have k1 := H.at A0_0
  have k2 := H.m0
  have k3 := H.s0
  have k4 := H.at A1_0
  have k5 := H.at A1_1
  have k6 := H.at A1_2
  have k7 := H.at A1_3
  have KK := Lib.hid (fun W (hb : Below W1.heap.size W1 W) => (⟨(hb.cell (p := ⟨_, 0, none⟩) (lt_of_cell k1)).trans k1, (hb.cell (p := ⟨_, 0, none⟩) (lt_of_cell k2)).trans k2, (hb.cell (p := ⟨_, 0, none⟩) (lt_of_cell k3)).trans k3, (hb.cell (p := ⟨_, 0, none⟩) (lt_of_cell k4)).trans k4, (hb.cell (p := ⟨_, 1, none⟩) (lt_of_cell k5)).trans k5, (hb.cell (p := ⟨_, 2, none⟩) (lt_of_cell k6)).trans k6, (hb.cell (p := ⟨_, 3, none⟩) (lt_of_cell k7)).trans k7⟩ : W.cell? ⟨w.heap.size, 0, none⟩ = some (pt z.M) ∧ W.cell? ⟨z.M, 0, none⟩ = some (.pointer (some ⟨b.y.S, 0, none⟩)) ∧ W.cell? ⟨b.y.S, 0, none⟩ = some (.pointer (some ⟨b.y.H, 0, none⟩)) ∧ W.cell? ⟨w.heap.size + 1, 0, none⟩ = some (.int .i64 o.1) ∧ W.cell? ⟨w.heap.size + 1, 1, none⟩ = some (.int .i64 o.2.1) ∧ W.cell? ⟨w.heap.size + 1, 2, none⟩ = some (.int .i64 o.2.2.1) ∧ W.cell? ⟨w.heap.size + 1, 3, none⟩ = some (.int .i64 o.2.2.2)))
  have CG := Lib.hid (fun W (hb : Below W1.heap.size W1 W) => (cx_config (HH.out.later hb)).mono fun _ _ hq => (⟨hq.1, hb.trans (hq.2.mono hb.size), hq.2⟩ : _ ∧ Below W1.heap.size W1 _ ∧ Below W.heap.size W _))
  have CK := Lib.hid (fun W (hb : Below W1.heap.size W1 W) => (cx_checkB o (HH.out.later hb)).mono fun _ _ hq => (⟨hq.1, hb.trans (hq.2.mono hb.size), hq.2⟩ : _ ∧ Below W1.heap.size W1 _ ∧ Below W.heap.size W _))
  have l1 := lt_of_cell k1
  have l2 := lt_of_cell k2
  have l3 := lt_of_cell k3
  have l4 := lt_of_cell k4
  simp only at l1 l2 l3 l4
  have B0 : Hid (Below W1.heap.size W1 W1.drew) := Lib.hid (Below.refl _ _).drew
  clear h H hLL hsub A0_0 A1_0 A1_1 A1_2 A1_3
  go_enter Tryz.func85, Tryz.ntmps85
  go_upto_region 1 with (fail)
  go_cut [5] from 5 to 15 (fun t wx => ∃ nb : Nat, t = .pointer (some ⟨nb, 0, none⟩) ∧ Below W1.heap.size W1 wx ∧ W1.heap.size ≤ nb ∧ wx.cell? ⟨nb, 0, none⟩ = some (.int .i64 (ckE x o)))
  case first =>
    go_region_law (first
      | (go_simp; go_at_call 45; refine (CG.out _ (by first | exact B0.out | exact B0.out.alloc B0.out.size _ | exact h3 | exact h4 | exact h3.alloc h3.size _ | exact h4.alloc h4.size _ | exact h4.setCell (Nat.le_refl _) _ | exact h4.setCell h3.size _)).mono ?_; rintro e w3 ⟨rfl, h3, h3v⟩; obtain ⟨j1, j2, j3, j4, j5, j6, j7⟩ := KK.out _ h3; have l1 := lt_of_cell j1; have l2 := lt_of_cell j2; have l3 := lt_of_cell j3; have l4 := lt_of_cell j4; simp only at l1 l2 l3 l4
         try (have bx3 : w3.cell? ⟨W1.heap.size, 0, none⟩ = some (.int .i64 0) := (h3v.cell (p := ⟨W1.heap.size, 0, none⟩) (show W1.heap.size < (W1.alloc (.cells #[.int .i64 0] 25)).heap.size by rw [World.size_alloc]; exact Nat.lt_succ_self _)).trans (show (W1.alloc (.cells #[.int .i64 0] 25)).cell? ⟨W1.heap.size, 0, none⟩ = some (.int .i64 0) by rw [World.cell?_alloc_new]; rfl)
              have bf3 : w3.frozen? ⟨W1.heap.size, 0, none⟩ = false := (h3v.frozen (p := ⟨W1.heap.size, 0, none⟩) (show W1.heap.size < (W1.alloc (.cells #[.int .i64 0] 25)).heap.size by rw [World.size_alloc]; exact Nat.lt_succ_self _)).trans (show (W1.alloc (.cells #[.int .i64 0] 25)).frozen? ⟨W1.heap.size, 0, none⟩ = false from World.frozen?_alloc_at _ _ _ _ rfl))
         try go_simp)
      | (go_simp; go_at_call 111; refine (CK.out _ (by first | exact B0.out | exact B0.out.alloc B0.out.size _ | exact h3 | exact h4 | exact h3.alloc h3.size _ | exact h4.alloc h4.size _ | exact h4.setCell (Nat.le_refl _) _ | exact h4.setCell h3.size _)).mono ?_; rintro e w4 ⟨rfl, h4, h4v⟩; obtain ⟨j1, j2, j3, j4, j5, j6, j7⟩ := KK.out _ h4; have l1 := lt_of_cell j1; have l2 := lt_of_cell j2; have l3 := lt_of_cell j3; have l4 := lt_of_cell j4; simp only at l1 l2 l3 l4
         try (have bx4 : w4.cell? ⟨W1.heap.size, 0, none⟩ = some (.int .i64 0) := (h4v.cell (p := ⟨W1.heap.size, 0, none⟩) (lt_of_cell bx3)).trans bx3
              have bf4 : w4.frozen? ⟨W1.heap.size, 0, none⟩ = false := (h4v.frozen (p := ⟨W1.heap.size, 0, none⟩) (lt_of_cell bx3)).trans bf3)
         try (have by4 : w4.cell? ⟨w3.heap.size, 0, none⟩ = some (.int .i64 0) := (h4v.cell (p := ⟨w3.heap.size, 0, none⟩) (by rw [World.size_alloc]; exact Nat.lt_succ_self _)).trans ((World.cell?_alloc_new ..).trans rfl)
              have bg4 : w4.frozen? ⟨w3.heap.size, 0, none⟩ = false := (h4v.frozen (p := ⟨w3.heap.size, 0, none⟩) (by rw [World.size_alloc]; exact Nat.lt_succ_self _)).trans (World.frozen?_alloc_at _ _ _ _ rfl))
         try go_simp))
    all_goals go_wp2_with fail
    all_goals go_meet
    all_goals first
      | exact ⟨_, rfl, h4.alloc h4.size _, h4.size, by rw [World.cell?_alloc_new]; rfl⟩
      | exact ⟨_, rfl, h4.setCell h3.size _, h3.size, Row.same by4⟩
      | exact ⟨_, rfl, h4.setCell (Nat.le_refl _) _, Nat.le_refl _, Row.same bx4⟩
  case rest =>
    obtain ⟨nb, rfl, hb, hn, hc⟩ := hcut
    have HW := Lib.hid (HH.out.laterBox hb hn hc)
    have HK := Lib.hid hb
    have bn := hc
    clear k1 k2 k3 k4 k5 k6 k7 l1 l2 l3 l4 hb hn hc CG CK B0
    rcases hq with ⟨hE, rfl⟩ | ⟨hE, F, hent, hgot, hd⟩
    · have hb0 : (ckE x o != 0) = true := by rw [bne_iff_ne]; exact hE
      clear hE
      go_wp2_with fail
      go_ret
      exact ⟨_, _, rfl, (HW.out.push (q := .fail (ckE x o)) (v := fn 112 #[pt w.heap.size, pt nb]) fun O hL hQ => ⟨_, _, rfl, by rw [HF.out.a]; exact hL _ (List.mem_cons_of_mem _ HA0_0.out), hL _ (List.mem_cons_self ..)⟩).less (fun p hp => List.mem_cons_of_mem _ (HS.out p hp)) (fun p hp => hp)⟩
    · have hb0 : (ckE x o != 0) = false := by rw [hE]; rfl
      have HD := Lib.hid (hd (wc.alloc (.map deedsM 8)).drew _ (HW.out.later ((Below.refl _ _).alloc (Nat.le_refl _) (.map deedsM 8))).drew)
      obtain ⟨j1, j2, j3, j4, j5, j6, j7⟩ := KK.out _ HK.out
      have g1 : (Instr.lookup 224 (.map (some wc.heap.size)) (.int .i64 o.1) false).run Tryz.prog (wc.alloc (.map deedsM 8)).drew = .ok (.func (.func F) #[] #[]) (wc.alloc (.map deedsM 8)).drew := hgot wc
      have hcf : ∀ V, (callFunc F #[.pointer (some ⟨z.M, 0, none⟩), .agg #[.int .i64 o.1, .int .i64 o.2.1, .int .i64 o.2.2.1, .int .i64 o.2.2.2]]).run Tryz.prog V = .ok (.enter F #[.pointer (some ⟨z.M, 0, none⟩), .agg #[.int .i64 o.1, .int .i64 o.2.1, .int .i64 o.2.2.1, .int .i64 o.2.2.2]]) V := fun V => hent _ V
      have BD := Lib.hid (HK.out.drew)
      clear hE hd hgot hent
      go_wp2_with fail
      go_region_held3 (fun W => W.cell? ⟨w.heap.size, 0, none⟩ = some (pt z.M) ∧ W.cell? ⟨z.M, 0, none⟩ = some (.pointer (some ⟨b.y.S, 0, none⟩)) ∧ W.cell? ⟨b.y.S, 0, none⟩ = some (.pointer (some ⟨b.y.H, 0, none⟩)) ∧ W.cell? ⟨w.heap.size + 1, 0, none⟩ = some (.int .i64 o.1) ∧ W.cell? ⟨w.heap.size + 1, 1, none⟩ = some (.int .i64 o.2.1) ∧ W.cell? ⟨w.heap.size + 1, 2, none⟩ = some (.int .i64 o.2.2.1) ∧ W.cell? ⟨w.heap.size + 1, 3, none⟩ = some (.int .i64 o.2.2.2))
        (first | exact KK.out _ BD.out | exact KK.out _ (HK.out.alloc HK.out.size _).drew | exact KK.out _ (HK.out.alloc HK.out.size _) | exact KK.out _ (BD.out.alloc BD.out.size _) | exact ⟨h7.at (List.mem_cons_of_mem _ HA0_0.out), h7.m0, h7.s0, h7.at (List.mem_cons_of_mem _ HA1_0.out), h7.at (List.mem_cons_of_mem _ HA1_1.out), h7.at (List.mem_cons_of_mem _ HA1_2.out), h7.at (List.mem_cons_of_mem _ HA1_3.out)⟩ | (have h9 := KK.out _ HK.out; exact h9))
        (first | (go_at_call 114; refine (deeds_any _).mono ?_; rintro e w6 ⟨rfl, rfl⟩) | (refine HD.out.mono ?_; rintro e w7 ⟨g7, c7, rfl, h7⟩))
      have H7 := Lib.hid h7
      clear h7
      go_wp2_with fail
      go_ret
      exact ⟨_, _, rfl, H7.out.less (fun p hp => List.mem_cons_of_mem _ (HS.out p hp)) (fun p hp => hp)⟩
end
end Go.Proofs.YtipifkgmhgkleaaGreatDoor.Mv

namespace Go.Proofs.YtipifkgmhgkleaaGreatDoor.Mv
open Go.RowKit Go.MapKept
open Class (clsI)
open Mu (Sy Sd Ml Md lt_of_cell O4)

/-- What laying comes to. -/
def ovK (m : Md) (v : Int) (rd : Rk) (la : Lk) : K := if m.mo = 0 then .lay v la else .over v rd la
/-- The first step of an operation. -/
def opK (x : Sd) (m : Md) (o : O4) : K :=
  if ckE x o ≠ 0 then .fail (ckE x o)
  else match o.1.toNat with
    | 1 => .slotA (clsI o.2.2.1).toNat o
    | 2 => .object o.2.2.1 o.2.2.2 (.ld o)
    | 3 => .object o.2.1 o.2.2.1 (.st o)
    | 4 => .take o.2.1 (.get o)
    | 5 => ovK m (rgV m o.2.2.1) (.set o) (.cel o)
    | 6 => .take o.2.1 .drop
    | 7 => .take o.2.1 (.move o)
    | _ => .safe
theorem firstF_zero {r ce : Int} {k : Nat} {f : Nat → Int} : ∀ n p, Opr.firstF r ce k f n p = 0 → ∀ j, j < n → Opr.faultE r ce (Opr.useK k (p + j)) (f (p + j)) = 0 := by
  intro n
  induction n with
  | zero => intro p _ j hj; omega
  | succ n ih =>
    intro p h j hj
    rw [Opr.firstF] at h
    by_cases h0 : Opr.faultE r ce (Opr.useK k p) (f p) = 0
    · rw [if_pos h0] at h
      cases j with
      | zero => exact h0
      | succ j =>
        have := ih (p + 1) h j (by omega)
        rw [show p + 1 + j = p + (j + 1) by omega] at this
        exact this
    · rw [if_neg h0] at h
      exact absurd h h0
theorem ck_zero {x : Sd} {o : O4} (h : ckE x o = 0) : ∃ n : Nat, o.1 = n ∧ 1 ≤ n ∧ n ≤ 8 ∧ ∀ j, j < Opr.usesK n → Opr.faultE x.s.c.r x.s.c.ce (Opr.useK n j) (Opr.numAt o.2.1 o.2.2.1 o.2.2.2 j) = 0 := by
  unfold ckE Opr.checkE at h
  split at h
  · rename_i hc
    obtain ⟨n, hn, h1, h8⟩ := Opr.isK_nat hc.2
    refine ⟨n, hn, h1, h8, fun j hj => ?_⟩
    rw [hn, Int.toNat_natCast] at h
    have := firstF_zero _ _ h j hj
    rwa [Nat.zero_add] at this
  · omega
theorem fault_reg {r ce n : Int} (h : Opr.faultE r ce 1 n = 0) : 0 ≤ n ∧ n < r := by
  unfold Opr.faultE at h
  by_cases hb : Opr.belowB n r = false
  · simp [hb] at h
  · simp only [Opr.belowB, Bool.and_eq_false_iff, decide_eq_false_iff_not, not_or, Int.not_le, Int.not_lt] at hb
    omega
theorem fault_size {r ce n : Int} (h : Opr.faultE r ce 3 n = 0) : 0 ≤ n ∧ n < 16 := by
  unfold Opr.faultE at h
  by_cases hb : Opr.belowB n 16 = false
  · simp [hb] at h
  · simp only [Opr.belowB, Bool.and_eq_false_iff, decide_eq_false_iff_not, not_or, Int.not_le, Int.not_lt] at hb
    omega
theorem cls_nat {f : Int} (_h0 : 0 ≤ f) (_h1 : f ≤ 15) : clsI f = ((clsI f).toNat : Nat) := by
  have : 0 ≤ clsI f := by unfold clsI; split <;> (try split) <;> (try split) <;> (try split) <;> omega
  omega
theorem ent_dd_alloc : ∀ args W, (callFunc 145 args).run Tryz.prog W = .ok (.enter 145 args) W := enters_of Tryz.func145 (by kernel_rfl) rfl
theorem got_alloc (W : World) : (Instr.lookup 224 (.map (some W.heap.size)) (.int .i64 1) false).run Tryz.prog (W.alloc (.map deedsM 8)).drew = .ok (.func (.func 145) #[] #[]) (W.alloc (.map deedsM 8)).drew := run_got _ _ deedsM 8 _ _ _ (Go.MapKept.heap_alloc W _).1 (by rfl)
theorem ent_dd_load : ∀ args W, (callFunc 146 args).run Tryz.prog W = .ok (.enter 146 args) W := enters_of Tryz.func146 (by kernel_rfl) rfl
theorem got_load (W : World) : (Instr.lookup 224 (.map (some W.heap.size)) (.int .i64 2) false).run Tryz.prog (W.alloc (.map deedsM 8)).drew = .ok (.func (.func 146) #[] #[]) (W.alloc (.map deedsM 8)).drew := run_got _ _ deedsM 8 _ _ _ (Go.MapKept.heap_alloc W _).1 (by rfl)
theorem ent_dd_store : ∀ args W, (callFunc 147 args).run Tryz.prog W = .ok (.enter 147 args) W := enters_of Tryz.func147 (by kernel_rfl) rfl
theorem got_store (W : World) : (Instr.lookup 224 (.map (some W.heap.size)) (.int .i64 3) false).run Tryz.prog (W.alloc (.map deedsM 8)).drew = .ok (.func (.func 147) #[] #[]) (W.alloc (.map deedsM 8)).drew := run_got _ _ deedsM 8 _ _ _ (Go.MapKept.heap_alloc W _).1 (by rfl)
theorem ent_dd_get : ∀ args W, (callFunc 148 args).run Tryz.prog W = .ok (.enter 148 args) W := enters_of Tryz.func148 (by kernel_rfl) rfl
theorem got_get (W : World) : (Instr.lookup 224 (.map (some W.heap.size)) (.int .i64 4) false).run Tryz.prog (W.alloc (.map deedsM 8)).drew = .ok (.func (.func 148) #[] #[]) (W.alloc (.map deedsM 8)).drew := run_got _ _ deedsM 8 _ _ _ (Go.MapKept.heap_alloc W _).1 (by rfl)
theorem ent_dd_set : ∀ args W, (callFunc 149 args).run Tryz.prog W = .ok (.enter 149 args) W := enters_of Tryz.func149 (by kernel_rfl) rfl
theorem got_set (W : World) : (Instr.lookup 224 (.map (some W.heap.size)) (.int .i64 5) false).run Tryz.prog (W.alloc (.map deedsM 8)).drew = .ok (.func (.func 149) #[] #[]) (W.alloc (.map deedsM 8)).drew := run_got _ _ deedsM 8 _ _ _ (Go.MapKept.heap_alloc W _).1 (by rfl)
theorem ent_dd_drop : ∀ args W, (callFunc 150 args).run Tryz.prog W = .ok (.enter 150 args) W := enters_of Tryz.func150 (by kernel_rfl) rfl
theorem got_drop (W : World) : (Instr.lookup 224 (.map (some W.heap.size)) (.int .i64 6) false).run Tryz.prog (W.alloc (.map deedsM 8)).drew = .ok (.func (.func 150) #[] #[]) (W.alloc (.map deedsM 8)).drew := run_got _ _ deedsM 8 _ _ _ (Go.MapKept.heap_alloc W _).1 (by rfl)
theorem ent_dd_move : ∀ args W, (callFunc 151 args).run Tryz.prog W = .ok (.enter 151 args) W := enters_of Tryz.func151 (by kernel_rfl) rfl
theorem got_move (W : World) : (Instr.lookup 224 (.map (some W.heap.size)) (.int .i64 7) false).run Tryz.prog (W.alloc (.map deedsM 8)).drew = .ok (.func (.func 151) #[] #[]) (W.alloc (.map deedsM 8)).drew := run_got _ _ deedsM 8 _ _ _ (Go.MapKept.heap_alloc W _).1 (by rfl)
theorem ent_dd_safe : ∀ args W, (callFunc 152 args).run Tryz.prog W = .ok (.enter 152 args) W := enters_of Tryz.func152 (by kernel_rfl) rfl
theorem got_safe (W : World) : (Instr.lookup 224 (.map (some W.heap.size)) (.int .i64 8) false).run Tryz.prog (W.alloc (.map deedsM 8)).drew = .ok (.func (.func 152) #[] #[]) (W.alloc (.map deedsM 8)).drew := run_got _ _ deedsM 8 _ _ _ (Go.MapKept.heap_alloc W _).1 (by rfl)
section
variable {b : Ba} {z : Ml} {m : Md} {w : World} {x : Sd} {L : List (Nat × Nat × Value)} {Q : List (K × Value)}
theorem mk_operate (o : O4) (hz : o.1 = 1 → Tz b.y) (hf : Fits b z) (hr : x.s.c.r = (m.rg.length : Int)) (hl64 : m.rg.length ≤ 64) (h : Cx b (mxR b.y z m) w x L Q) :
    Calls Tryz.prog 85 #[.pointer (some ⟨z.M, 0, none⟩), .agg #[.int .i64 o.1, .int .i64 o.2.1, .int .i64 o.2.2.1, .int .i64 o.2.2.2]] w fun e w' => ∃ g c2, e = .returned (.func (.func g) #[] c2) ∧ Cx b (mxR b.y z m) w' x L ((opK x m o, fn g c2) :: Q) := by
  refine op_gen o (opK x m o) h hf ?_
  by_cases hE : ckE x o = 0
  case neg => exact .inl ⟨hE, by unfold opK; rw [if_pos hE]⟩
  right
  refine ⟨hE, ?_⟩
  obtain ⟨n, hn, h1, h8, hu⟩ := ck_zero hE
  have hn0 : o.1.toNat = n := by omega
  rw [hr] at hu
  unfold opK
  rw [if_neg (fun e => e hE), hn0]
  have hc : n = 1 ∨ n = 2 ∨ n = 3 ∨ n = 4 ∨ n = 5 ∨ n = 6 ∨ n = 7 ∨ n = 8 := by omega
  rcases hc with rfl | rfl | rfl | rfl | rfl | rfl | rfl | rfl
  · have hs := fault_size (hu 1 (by decide))
    exact ⟨_, ent_dd_alloc, fun W => by rw [hn]; exact got_alloc W, fun V L' hV => dd_alloc o (clsI o.2.2.1).toNat (hz (by rw [hn]; rfl)) hV hf hs.1 (by have : o.2.2.1 < 16 := hs.2; omega) (cls_nat hs.1 (by have : o.2.2.1 < 16 := hs.2; omega))⟩
  · exact ⟨_, ent_dd_load, fun W => by rw [hn]; exact got_load W, fun V L' hV => dd_load o hV hf⟩
  · exact ⟨_, ent_dd_store, fun W => by rw [hn]; exact got_store W, fun V L' hV => dd_store o hV hf⟩
  · exact ⟨_, ent_dd_get, fun W => by rw [hn]; exact got_get W, fun V L' hV => dd_get o hV hf⟩
  · have hs : 0 ≤ o.2.2.1 ∧ o.2.2.1 < (m.rg.length : Int) := fault_reg (hu 1 (by decide))
    refine ⟨_, ent_dd_set, fun W => by rw [hn]; exact got_set W, fun V L' hV => ?_⟩
    show Calls _ _ _ _ (fun e w' => ∃ g c2, e = .returned (.func (.func g) #[] c2) ∧ Cx b (mxR b.y z m) w' x L' ((ovK m (rgV m o.2.2.1) (.set o) (.cel o), fn g c2) :: Q))
    unfold ovK
    by_cases h0 : m.mo = 0
    · rw [if_pos h0]
      exact dd_set_off o o.2.2.1.toNat hV hf h0 (by omega) (by omega) hl64
    · rw [if_neg h0]
      exact dd_set o o.2.2.1.toNat hV hf h0 (by omega) (by omega) hl64
  · exact ⟨_, ent_dd_drop, fun W => by rw [hn]; exact got_drop W, fun V L' hV => dd_drop o hV hf⟩
  · exact ⟨_, ent_dd_move, fun W => by rw [hn]; exact got_move W, fun V L' hV => dd_move o hV hf⟩
  · exact ⟨_, ent_dd_safe, fun W => by rw [hn]; exact got_safe W, fun V L' hV => dd_safe o hV hf⟩
end
end Go.Proofs.YtipifkgmhgkleaaGreatDoor.Mv

namespace Go.Proofs.YtipifkgmhgkleaaGreatDoor.Mv
open Go.RowKit
open Mu (Sy Sd Ml Md lt_of_cell O4)
section
variable {b : Ba} {z : Ml} {m : Md} {w : World} {x : Sd} {L : List (Nat × Nat × Value)} {Q : List (K × Value)}
end
end Go.Proofs.YtipifkgmhgkleaaGreatDoor.Mv
