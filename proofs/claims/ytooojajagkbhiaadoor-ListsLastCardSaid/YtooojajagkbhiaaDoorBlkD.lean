/-
  (*block.Table).slots: what whoever ranges over a block's slots is told.
-/
import Derived.Test.YtooojajagkbhiaaDoorBlkC
import Derived.Test.YtooojajagkbhiaaDoorStartsT
import Derived.Deep.RegionHeld3
namespace Go.Proofs.YtooojajagkbhiaaDoor.Blk
open Go.RowKit Go.Shelf
open Class (isB isB_true isB_false sizI perI encS starts_told starts_any SizTab)
open Go.Proofs.YtooojajagkbhiaaDoor.Addr (Tabs slot_any slotI slotI_yes sltB sltB_true blkB blkB_true)
attribute [local go_sem] Oper.semAt_some

/-- An address of a block's slot. -/
def adr (c : Cfg) (k b : Nat) (i : Nat) : Int := (b : Int) * c.wd + 1 + (i : Int) * sizI k

theorem adr_bd {c : Cfg} {k : Int} {b i : Nat} (hR : rightB c.b c.wd c.m c.r c.ce c.lg c.st = true) (hb : (b : Int) < c.b) (hi : (i : Int) < perI c.wd k) : (0 ≤ (b : Int) * c.wd ∧ (b : Int) * c.wd ≤ 1048576) ∧ 0 ≤ (i : Int) * sizI k ∧ (i : Int) * sizI k + sizI k ≤ c.wd ∧ c.wd ≤ 256 ∧ 2 ≤ sizI k := by
  have hRC : RightC c.b c.wd c.m c.r c.ce c.lg c.st := refRightB_true.1 ((rightB_ref ..).symm.trans hR)
  obtain ⟨_, s0, s1, m0, m1, m2⟩ := Addr.slot_bd (by omega) hi
  exact ⟨Addr.first_bd hRC (blkB_true.2 ⟨by omega, hb⟩), m0, m1, m2, s0⟩

/-- A block that isn't assigned has no slots. -/
theorem slots1_none (m Bt Bb : Nat) (t : Value) (b : Int) (T : World → Prop) (w : World) (hBt : w.cell? ⟨Bt, 0, none⟩ = some t) (hBb : w.cell? ⟨Bb, 0, none⟩ = some (.int .i64 b))
    (hcl : ∀ W : World, Below w.heap.size w W → Calls Tryd.prog 34 #[t, .int .i64 b] W fun e w' => e = .returned (.tuple #[.int .i64 0, .bool false]) ∧ W = w') :
    SeqTold Fence.wide m Tryd.prog 66 #[.pointer (some ⟨Bt, 0, none⟩), .pointer (some ⟨Bb, 0, none⟩)] 0 (fun _ => #[.int .i64 0]) T w := by
  refine SeqTold.any (n := 5) ?_
  intro l J Jx W hW hJ _ _ _ h0
  obtain ⟨O0, hj0, hO0⟩ := h0
  have cBt : W.cell? ⟨Bt, 0, none⟩ = some t := (hW.cell (p := ⟨Bt, 0, none⟩) (World.block_lt_of_cell? w _ hBt)).trans hBt
  have cBb : W.cell? ⟨Bb, 0, none⟩ = some (.int .i64 b) := (hW.cell (p := ⟨Bb, 0, none⟩) (World.block_lt_of_cell? w _ hBb)).trans hBb
  have lBt := World.block_lt_of_cell? W _ cBt
  have lBb := World.block_lt_of_cell? W _ cBb
  simp only at lBt lBb
  have hCL := Lib.hid hcl
  have HJ := Lib.hid (hJ.alloc hj0 hO0 (Nat.le_refl _) ((Below.refl _ _).alloc (Nat.le_refl _) (.cells #[.func (.yield l) #[] #[]] 40)))
  have HO := Lib.hid hO0
  have HW := Lib.hid (hW.alloc hW.size (.cells #[.func (.yield l) #[] #[]] 40))
  clear hj0 hO0 hcl hJ hW
  refine callsIn_of_wp_marks Tryd.func66 rfl trivial ?_ rfl
  simp only [Tryd.ntmps66, List.size_toArray, List.length_cons, List.length_nil, Nat.reduceAdd, Nat.reduceSub, Array.replicate_succ, Array.replicate_zero, List.push_toArray, List.append_toArray, List.nil_append, List.cons_append]
  gi_wp2_with (refine ⟨trivial, ?_⟩; gi_at_call 34; refine (callsIn_wide.2 (hCL.out _ HW.out)).mono ?_; rintro e w' ⟨rfl, rfl⟩)
  exact ⟨_, results_none rfl _ _ _, ⟨_, rfl⟩, O0, fun k hk => by have := HO.out k hk; simp; omega, by simp, .inl HJ.out⟩

set_option maxRecDepth 100000 in
set_option maxHeartbeats 4000000 in
theorem slots1_told (m Bt Bb B base cap b N : Nat) (c : Cfg) (ks : List Nat) (p : Option Addr) (w : World) (h : TbIs w B base c ks p cap) (hR : rightB c.b c.wd c.m c.r c.ce c.lg c.st = true) (hb : b < ks.length) (hbb : (b : Int) < c.b) (hN : perI c.wd (kAt ks b) = (N : Int)) (hN1 : 1 ≤ N)
    (hBt : w.cell? ⟨Bt, 0, none⟩ = some (.pointer (some ⟨B, 0, none⟩))) (hBb : w.cell? ⟨Bb, 0, none⟩ = some (.int .i64 b)) (ht : Tabs w) :
    SeqTold Fence.wide m Tryd.prog 66 #[.pointer (some ⟨Bt, 0, none⟩), .pointer (some ⟨Bb, 0, none⟩)] N (fun i => #[.int .i64 (adr c (kAt ks b) b i)]) SizTab w := by
  refine SeqTold.any (n := 5) ?_
  intro l J Jx W hW hJ hJx hT hY h0
  obtain ⟨O0, hj0, hO0⟩ := h0
  have cBt : W.cell? ⟨Bt, 0, none⟩ = some (.pointer (some ⟨B, 0, none⟩)) := (hW.cell (p := ⟨Bt, 0, none⟩) (World.block_lt_of_cell? w _ hBt)).trans hBt
  have cBb : W.cell? ⟨Bb, 0, none⟩ = some (.int .i64 b) := (hW.cell (p := ⟨Bb, 0, none⟩) (World.block_lt_of_cell? w _ hBb)).trans hBb
  have hTW : TbIs W B base c ks p cap := h.later hW
  have hTab : Tabs W := ht.later hW
  have lBt := World.block_lt_of_cell? W _ cBt
  have lBb := World.block_lt_of_cell? W _ cBb
  have lB := hTW.ltB
  simp only at lBt lBb
  have c0 := hTW.c0
  have c1 := hTW.c1
  have c2 := hTW.c2
  have c3 := hTW.c3
  have c4 := hTW.c4
  have c5 := hTW.c5
  have c6 := hTW.c6
  have HT := Lib.hid hTW
  have HTB := Lib.hid hTab
  clear hTW hTab h ht hBt hBb hW
  refine callsIn_of_wp_marks Tryd.func66 rfl trivial ?_ rfl
  simp only [Tryd.ntmps66, List.size_toArray, List.length_cons, List.length_nil, Nat.reduceAdd, Nat.reduceSub, Array.replicate_succ, Array.replicate_zero, List.push_toArray, List.append_toArray, List.nil_append, List.cons_append]
  have HCL := Lib.hid (fun W1 h1 => class_in b W1 (HT.out.later (w' := W1) h1) hb)
  gi_wp2_with (refine ⟨trivial, ?_⟩; gi_at_call 34; refine (callsIn_wide.2 (HCL.out _ ((Below.refl _ _).alloc (Nat.le_refl _) _))).mono ?_; rintro e w' ⟨rfl, rfl⟩)
  have hsl : slotI (rightB c.b c.wd c.m c.r c.ce c.lg c.st) c.b c.wd (kAt ks b) b 0 = (b : Int) * c.wd + 1 := by
    rw [slotI_yes (sltB_true.2 ⟨hR, blkB_true.2 ⟨by omega, hbb⟩, by omega, by omega⟩)]; simp
  have HSL := Lib.hid hsl
  have HTB1 := Lib.hid (HTB.out.alloc (.cells #[.func (.yield l) #[] #[]] 40))
  generalize hW1 : World.alloc _ _ = W1
  rw [hW1] at HTB1
  have hsz1 : W1.heap.size = W.heap.size + 1 := by rw [← hW1]; simp
  have hb01 : Below W.heap.size W W1 := by rw [← hW1]; exact (Below.refl _ _).alloc (Nat.le_refl _) _
  have cY : Boxed W1 W.heap.size 40 (.func (.yield l) #[] #[]) := by rw [← hW1]; exact Boxed.new W _ _
  obtain ⟨hcW, hfW⟩ := bcell hb01
  have d1 : W1.cell? ⟨Bt, 0, none⟩ = some (.pointer (some ⟨B, 0, none⟩)) := (hcW _ _ lBt).trans cBt
  have d2 : W1.cell? ⟨Bb, 0, none⟩ = some (.int .i64 b) := (hcW _ _ lBb).trans cBb
  have e0 := (hcW _ 0 lB).trans c0
  have e1 := (hcW _ 1 lB).trans c1
  have e2 := (hcW _ 2 lB).trans c2
  have e3 := (hcW _ 3 lB).trans c3
  have e4 := (hcW _ 4 lB).trans c4
  have e5 := (hcW _ 5 lB).trans c5
  have e6 := (hcW _ 6 lB).trans c6
  have l1 : Bt < W1.heap.size := by omega
  have l2 : Bb < W1.heap.size := by omega
  have l3 : B < W1.heap.size := by omega
  have l1a : Bt < W1.heap.size + 1 := by omega
  have l2a : Bb < W1.heap.size + 1 := by omega
  have l3a : B < W1.heap.size + 1 := by omega
  have HB01 := Lib.hid hb01
  have HJ := Lib.hid hJ
  have HJX := Lib.hid hJx
  have HTT := Lib.hid hT
  have HY := Lib.hid hY
  have HO := Lib.hid hO0
  have HJ0 := Lib.hid hj0
  have HCY := Lib.hid cY
  have HN := Lib.hid hN
  clear hW1 hcW hfW c0 c1 c2 c3 c4 c5 c6 cBt cBb hb01 hJ hJx hT hY hO0 hj0 cY hN hsl
  obtain ⟨QM, hQM⟩ : ∃ QM : Exit → Act → World → Prop, QM = (fun e a' w' => e = .normal ∧ ∃ Sb, a' = ({ tmps := #[.func (.yield l) #[] #[], .pointer (some ⟨Bt, 0, none⟩), .pointer (some ⟨Bb, 0, none⟩), .pointer (some ⟨W.heap.size, 0, none⟩), .int .i64 (kAt ks b), .bool true, .pointer (some ⟨Sb, 0, none⟩), undef, undef,
      .tuple #[.int .i64 (kAt ks b), .bool true], .pointer (some ⟨B, 0, none⟩), .int .i64 b, .tuple #[.int .i64 (kAt ks b), .bool true], .int .i64 (kAt ks b), .bool true, .bool true, .bool false, .pointer (some ⟨B, 0, none⟩), .pointer (some ⟨B, 0, none⟩), .pointer (some ⟨B, 0, none⟩), (.agg #[.int .i64 c.b, .int .i64 c.wd, .int .i64 c.m, .int .i64 c.r, .int .i64 c.ce, .int .i64 c.lg, .int .i64 c.st]), .int .i64 (kAt ks b), .int .i64 b, .int .i64 ((b : Int) * c.wd + 1),
      undef, undef, undef, undef, undef, undef, undef, undef, undef, undef, undef, undef, undef, undef, undef], defers := [] } : Act) ∧ W1.heap.size ≤ Sb ∧ Boxed w' Sb 3 (.int .i64 ((b : Int) * c.wd + 1)) ∧ Below W1.heap.size W1 w') := ⟨_, rfl⟩
  have HQ := Lib.hid hQM
  clear hQM
  have HK := Lib.hid (fun (w' : World) (h : Below W1.heap.size W1 w') => (⟨(h.cell (p := ⟨Bt, 0, none⟩) l1).trans d1, (h.cell (p := ⟨Bb, 0, none⟩) l2).trans d2, (h.cell (p := ⟨B, 0, none⟩) l3).trans e0, (h.cell (p := ⟨B, 1, none⟩) l3).trans e1, (h.cell (p := ⟨B, 2, none⟩) l3).trans e2,
      (h.cell (p := ⟨B, 3, none⟩) l3).trans e3, (h.cell (p := ⟨B, 4, none⟩) l3).trans e4, (h.cell (p := ⟨B, 5, none⟩) l3).trans e5, (h.cell (p := ⟨B, 6, none⟩) l3).trans e6⟩ :
    w'.cell? ⟨Bt, 0, none⟩ = some (.pointer (some ⟨B, 0, none⟩)) ∧ w'.cell? ⟨Bb, 0, none⟩ = some (.int .i64 b) ∧ w'.cell? ⟨B, 0, none⟩ = some (.int .i64 c.b) ∧ w'.cell? ⟨B, 1, none⟩ = some (.int .i64 c.wd) ∧ w'.cell? ⟨B, 2, none⟩ = some (.int .i64 c.m)
     ∧ w'.cell? ⟨B, 3, none⟩ = some (.int .i64 c.r) ∧ w'.cell? ⟨B, 4, none⟩ = some (.int .i64 c.ce) ∧ w'.cell? ⟨B, 5, none⟩ = some (.int .i64 c.lg) ∧ w'.cell? ⟨B, 6, none⟩ = some (.int .i64 c.st)))
  refine wpIn_mono (Q := QM) (wpIn_wide.2 ?region) ?rest
  case region =>
    go_region_held3 (fun w' => w'.cell? ⟨Bt, 0, none⟩ = some (.pointer (some ⟨B, 0, none⟩)) ∧ w'.cell? ⟨Bb, 0, none⟩ = some (.int .i64 b) ∧ w'.cell? ⟨B, 0, none⟩ = some (.int .i64 c.b) ∧ w'.cell? ⟨B, 1, none⟩ = some (.int .i64 c.wd) ∧ w'.cell? ⟨B, 2, none⟩ = some (.int .i64 c.m)
     ∧ w'.cell? ⟨B, 3, none⟩ = some (.int .i64 c.r) ∧ w'.cell? ⟨B, 4, none⟩ = some (.int .i64 c.ce) ∧ w'.cell? ⟨B, 5, none⟩ = some (.int .i64 c.lg) ∧ w'.cell? ⟨B, 6, none⟩ = some (.int .i64 c.st))
      ((refine HK.out _ ?_; repeat (first | exact Below.refl _ _ | refine below_drew ?_ | refine Below.alloc ?_ (by first | (simp; done) | (have := hb.size; simp at this ⊢; omega)) _ | refine Below.setCell ?_ (by first | (simp; done) | (have := hb.size; simp at this ⊢; omega)) _ | refine Below.trans ?_ (hb.mono (by simp)))))
      (first
      | (go_at_call 67; refine (slot_any _ _ _ _ _ _ _ _ _ _ _ (by repeat (first | exact HTB1.out | apply Tabs.drewN | apply Tabs.drew | apply Tabs.alloc))).mono ?_; rintro e w3 ⟨rfl, hb⟩; rw [HSL.out]; obtain ⟨hc, hf⟩ := bcell hb))
    · rw [HQ.out]
      have hs3 : W1.heap.size ≤ w3.heap.size := by simpa using hb.size
      exact ⟨rfl, _, rfl, hs3, Boxed.new w3 _ _, ((below_drew (Below.refl _ W1)).trans (hb.mono (by simp))).alloc hs3 _⟩
    · rw [HQ.out]
      have hs3 : W1.heap.size + 1 ≤ w3.heap.size := by simpa using hb.size
      have hbx : Boxed w3 W1.heap.size 3 (.int .i64 0) := (hb.block _ (by simp)).trans (Boxed.new W1.drew _ _)
      have hbs := hbx.set (.int .i64 ((b : Int) * c.wd + 1))
      rw [hsz1] at hbs
      exact ⟨rfl, _, rfl, by omega, hbs, ((((below_drew (Below.refl _ W1)).alloc (by simp) _).trans (hb.mono (by simp))).setCell (by simp; omega) _)⟩
  case rest =>
    intro e a' w' hq
    rw [HQ.out] at hq
    obtain ⟨rfl, Sb, rfl, hSb, cS, hb3⟩ := hq
    have HB3 := Lib.hid hb3
    have CS := Lib.hid cS
    have hs3 := hb3.size
    have f1 := (hb3.cell (p := ⟨Bt, 0, none⟩) l1).trans d1
    have g1 := (hb3.cell (p := ⟨B, 1, none⟩) l3).trans e1
    clear HQ HK hb3 cS
    gi_wp2_with (refine ⟨trivial, ?_⟩; gi_at_call 68; refine (callsIn_wide.2 (starts_any _ _ _)).mono ?_; rintro e w'' ⟨rfl, rfl⟩)
    generalize hX : World.alloc _ _ = X
    have bX : Below w'.heap.size w' X := by rw [← hX]; exact ((Below.refl _ _).alloc (Nat.le_refl _) _).alloc (by simp) _
    have hsX : X.heap.size = w'.heap.size + 2 := by rw [← hX]; simp
    have xw : Boxed X w'.heap.size 3 (.int .i64 c.wd) := by rw [← hX]; exact (Boxed.new _ _ _).alloc _
    have xk : Boxed X (w'.heap.size + 1) 3 (.int .i64 (kAt ks b)) := by rw [← hX]; exact boxed_new (by simp)
    have bWX : Below W.heap.size W X := (HB01.out.trans (HB3.out.mono (by omega))).trans (bX.mono (by omega))
    clear hX
    refine wpIn_rangeFunc_told rfl (by decide) (gf := 74) (lb := #[.pointer (some ⟨w'.heap.size, 0, none⟩), .pointer (some ⟨w'.heap.size + 1, 0, none⟩)]) rfl trivial (enters_of Tryd.func74 (by kernel_rfl) rfl)
      (starts_told 4 w'.heap.size (w'.heap.size + 1) c.wd (kAt ks b) N HN.out X xw.cell (by omega)) (Below.refl _ _) (fun _ => rfl)
      (fun O i Y => J O i Y ∧ X.heap.size ≤ Y.heap.size ∧ Boxed Y W.heap.size 40 (.func (.yield l) #[] #[]) ∧ Boxed Y Sb 3 (.int .i64 ((b : Int) * c.wd + 1)) ∧ Boxed Y (w'.heap.size + 1) 3 (.int .i64 (kAt ks b)) ∧ (∀ k, O k → k < W.heap.size ∨ X.heap.size ≤ k))
      (fun cc O i Y => cc = .ret ∧ Jx O i Y ∧ W.heap.size ≤ Y.heap.size)
      ?hI ?hIx ?hT ?h0
      (fun i => { tmps := #[.func (.yield l) #[] #[], .pointer (some ⟨Bt, 0, none⟩), .pointer (some ⟨Bb, 0, none⟩), .pointer (some ⟨W.heap.size, 0, none⟩), .int .i64 (kAt ks b), .bool true, .pointer (some ⟨Sb, 0, none⟩), undef, .int .i64 ((i : Int) * sizI (kAt ks b)),
      .tuple #[.int .i64 (kAt ks b), .bool true], .pointer (some ⟨B, 0, none⟩), .int .i64 b, .tuple #[.int .i64 (kAt ks b), .bool true], .int .i64 (kAt ks b), .bool true, .bool true, .bool false, .pointer (some ⟨B, 0, none⟩), .pointer (some ⟨B, 0, none⟩), .pointer (some ⟨B, 0, none⟩), (.agg #[.int .i64 c.b, .int .i64 c.wd, .int .i64 c.m, .int .i64 c.r, .int .i64 c.ce, .int .i64 c.lg, .int .i64 c.st]), .int .i64 (kAt ks b), .int .i64 b, .int .i64 ((b : Int) * c.wd + 1),
      .pointer (some ⟨B, 0, none⟩), .pointer (some ⟨B, 0, none⟩), .pointer (some ⟨B, 0, none⟩), .pointer (some ⟨B, 1, none⟩), .int .i64 c.wd, .int .i64 (kAt ks b), .func (.func 74) #[] #[.pointer (some ⟨w'.heap.size, 0, none⟩), .pointer (some ⟨w'.heap.size + 1, 0, none⟩)], .int .i64 (i : Int), .int .i64 ((i : Int) * sizI (kAt ks b)),
      undef, undef, undef, undef, undef, undef], defers := [] }) ?assign ?body ?done ?stop
    case hI =>
      rintro O i X' Y ⟨h1, h2, h3, h4, h5, h6⟩ hb hk
      exact ⟨HJ.out O i X' Y h1 (hb.mono (by omega)) hk, Nat.le_trans h2 hb.size, Boxed.below h3 hb (by omega), Boxed.below h4 hb (by have := CS.out.lt; omega), Boxed.below h5 hb (by omega), h6⟩
    case hIx =>
      rintro cc O i X' Y ⟨h1, h2, h3⟩ hb hk
      exact ⟨h1, HJX.out O i X' Y h2 (hb.mono (by omega)) hk, Nat.le_trans h3 hb.size⟩
    case hT =>
      rintro O i Y ⟨h1, h2, h3, h4, h5, h6⟩
      exact ⟨HTT.out O i Y h1, h5.cell⟩
    case h0 =>
      exact ⟨O0, ⟨HJ.out.alloc HJ0.out HO.out (Nat.le_refl _) bWX, Nat.le_refl _, Boxed.below (Boxed.below HCY.out HB3.out (by omega)) bX (by omega), Boxed.below CS.out bX CS.out.lt, xk, fun k hk => .inl (HO.out k hk)⟩, fun k hk => by have := HO.out k hk; omega⟩
    case assign =>
      intro l' i Y K hi hK
      unfold encS
      gi_wp2
      exact hK
    case body =>
      rintro l' O i Y _ _ hi ⟨h1, h2, h3, h4, h5, h6⟩ hlt _
      have k3 := h3.cell
      have k4 := h4.cell
      obtain ⟨fn, tmps, asg, bdy, hy, hR'⟩ := yieldAt_any (m := 2) (HY.out O i Y hi h1 hlt (by omega))
      have hbd := adr_bd hR hbb (i := i) (by rw [HN.out]; exact Int.ofNat_lt.2 hi)
      unfold adr at hy
      obtain ⟨⟨p0, p1⟩, p2, p3, p4, p5⟩ := hbd
      gi_wp2
      refine RoundIn.mono (F := Fence.wide.inRound l') hR' ?_
      rintro e Y' ⟨O', ht, (⟨rfl, hj⟩ | ⟨rfl, hj⟩)⟩
      · have hfin : toldPost X.heap.size (fun O i Y => J O i Y ∧ X.heap.size ≤ Y.heap.size ∧ Boxed Y W.heap.size 40 (.func (.yield l) #[] #[]) ∧ Boxed Y Sb 3 (.int .i64 ((b : Int) * c.wd + 1)) ∧ Boxed Y (w'.heap.size + 1) 3 (.int .i64 (kAt ks b)) ∧ (∀ k, O k → k < W.heap.size ∨ X.heap.size ≤ k))
            (fun cc O i Y => cc = .ret ∧ Jx O i Y ∧ W.heap.size ≤ Y.heap.size) O i Y .normal { tmps := #[], defers := [] } Y' := by
          have hn : ∀ k, W.heap.size ≤ k → k < X.heap.size → ¬ O k := fun k a1 a2 a3 => by have := h6 k a3; omega
          refine ⟨O', ht.mono (by omega), hj, Nat.le_trans h2 ht.size, ht.boxed h3 (Nat.le_refl _) (hn _ (by omega) (by omega)), ht.boxed h4 (by omega) (hn _ (by omega) (by have := CS.out.lt; omega)), ht.boxed h5 (by omega) (hn _ (by omega) (by omega)), fun k hk => ?_⟩
          rcases ht.grow k hk with h | h
          · exact h6 k h
          · exact .inr (Nat.le_trans h2 h)
        have HF := Lib.hid hfin
        clear hfin ht hj h1 h2 h3 h4 h5 h6 hlt hy hR'
        gi_wp2
        exact HF.out
      · have hfin : toldPost X.heap.size (fun O i Y => J O i Y ∧ X.heap.size ≤ Y.heap.size ∧ Boxed Y W.heap.size 40 (.func (.yield l) #[] #[]) ∧ Boxed Y Sb 3 (.int .i64 ((b : Int) * c.wd + 1)) ∧ Boxed Y (w'.heap.size + 1) 3 (.int .i64 (kAt ks b)) ∧ (∀ k, O k → k < W.heap.size ∨ X.heap.size ≤ k))
            (fun cc O i Y => cc = .ret ∧ Jx O i Y ∧ W.heap.size ≤ Y.heap.size) O i Y .ret { tmps := #[], defers := [] } Y' :=
          ⟨O', ht.mono (by omega), rfl, hj, by have := ht.size; omega⟩
        have HF := Lib.hid hfin
        clear hfin ht hj h1 h2 h3 h4 h5 h6 hlt hy hR'
        gi_wp2
        exact HF.out
    case done =>
      rintro D O Y hD ⟨h1, h2, h3, h4, h5, h6⟩ hn hlt hK
      have hj3 : J O N (Y.putObj D (.deferred none)) := HJ.out.putObj h1 (by omega) hn _
      have HX := Lib.hid hj3
      clear hj3 h1 h3 h4 h5 h6
      gi_wp2
      refine ⟨by simp, .inl ⟨_, _, rfl, run_takeDeferred hK, ?_⟩⟩
      exact ⟨_, results_none rfl _ _ _, ⟨_, rfl⟩, O, fun k hk => by simpa using hlt k hk, by simp; omega, .inl HX.out⟩
    case stop =>
      rintro D cc O i Y hD hi ⟨rfl, h1, h2⟩ hn hlt hK
      have hj3 : Jx O (i + 1) (Y.putObj D (.deferred none)) := HJX.out.putObj h1 (by omega) hn _
      have HX := Lib.hid hj3
      clear hj3 h1
      gi_wp2
      refine ⟨by simp, .inl ⟨_, _, rfl, run_takeDeferred hK, ?_⟩⟩
      exact ⟨_, results_none rfl _ _ _, ⟨_, rfl⟩, O, fun k hk => by simpa using hlt k hk, by simpa using h2, .inr ⟨i, hi, HX.out⟩⟩

/-- slots: two boxes are laid; the function value captures them. -/
theorem slots_fn (q : Option Addr) (b : Int) (w : World) : Calls Tryd.prog 49 #[.pointer q, .int .i64 b] w fun e w' => e = .returned (.func (.func 66) #[] #[.pointer (some ⟨w.heap.size, 0, none⟩), .pointer (some ⟨w.heap.size + 1, 0, none⟩)])
    ∧ (w.alloc (.cells #[.pointer q] 29)).alloc (.cells #[.int .i64 b] 3) = w' := by
  go_enter Tryd.func49, Tryd.ntmps49
  go_wp2
  go_ret
  exact ⟨rfl, rfl⟩
end Go.Proofs.YtooojajagkbhiaaDoor.Blk
