/-
  (*bits.Set).Next, of every set that there is, from every number on: the least one; or that there is none.
-/
import Derived.Test.YtahhenbphnejiaaDoorBitsD
import Derived.Test.YtahhenbphnejiaaDoorBitsN
namespace Go.Proofs.YtahhenbphnejiaaDoor.Bits
open Go.RowKit Go.Shelf
attribute [local go_sem] Oper.semAt_some

theorem wpIn_scope {n : Nat} {P : Program} {c : Code} {Q : Exit → Act → World → Prop} {a : Act} {w : World} (h : c.wpIn Fence.wide n P (Exit.noGoto Q) a w) : (Code.scope c).wpIn Fence.wide n P Q a w :=
  wpIn_wide.2 (wp_scope_straight (wpIn_wide.1 h))

theorem boxed_keep {W W' : World} {row : Option Nat} {B : Nat} {t : TypeId} {v : Value} (h : Boxed W B t v) (hg : W.grownBy W' row) (hr : ∀ r, row = some r → ∃ o : Obj, W.heap[r]? = some o ∧ o.isCells = false) : Boxed W' B t v :=
  h.kept hg (fun e => by obtain ⟨o, ho, hc⟩ := hr B e.symm; rw [show W.heap[B]? = _ from h] at ho; cases ho; cases hc)
theorem TzTab.below {n : Nat} {w w' : World} (h : TzTab w) (hb : Below n w w') (hn : 1 < n) : TzTab w' := fun j hj => (hb.cell (p := ⟨_, j, none⟩) hn).trans (h j hj)

theorem below_val (n : Nat) : IntKind.u64.wrap ((2 : Int) ^ (n % 64) - 1) = ((belowN n 0 : Nat) : Int) := by
  have h1 := Nat.pow_pos (n := n % 64) (show 0 < 2 by decide)
  have h2 := pow_lt64 n
  have e2 : ((2 ^ (n % 64) : Nat) : Int) = 2 ^ (n % 64) := by simp
  unfold belowN
  rw [if_pos rfl, ← e2, IntKind.wrap_u64]
  clear e2
  generalize 2 ^ (n % 64) = x at *
  omega

theorem mask_val (ws : List Nat) (n k x : Nat) (h : wd ws x < 18446744073709551616) : bits BinOp.andNot IntKind.u64 ((wd ws x : Nat) : Int) ((belowN n k : Nat) : Int) = ((maskN ws n k x : Nat) : Int) := by
  rw [u64_andNot_nat _ _ h (belowN_lt n k)]
  rfl

set_option maxRecDepth 100000 in
set_option maxHeartbeats 4000000 in
theorem next_in (B G size cap : Nat) (ws : List Nat) (z : Int) (n : Nat) (w : World) (hs : SetIs w B G size cap ws) (hmx : (if z < 0 then 0 else z) = (n : Int)) (hn : n < size) (hT : TzTab w) (hBl : B < w.heap.size) (hGl : G < w.heap.size) (hTl : 1 < w.heap.size) :
    Calls Tryd.prog 19 #[.pointer (some ⟨B, 0, none⟩), .int .i64 z] w fun e w' => ∃ v ok, e = .returned (.tuple #[.int .i64 v, .bool ok]) ∧ NextIs ws n v ok ∧ Below w.heap.size w w' := by
  have hm : mayB n size = true := by simp [mayB, hn]
  have hc := hs.cs
  have hcw := hs.cw
  have hsm := hs.small
  have hl := Lib.hid hs.row.len
  have HS := Lib.hid hs
  have hlen : ws.length ≤ 2097152 := by have := hs.row.len; omega
  have hat := hs.at_
  have HT := Lib.hid hT
  have hn0 : (0 : Int) ≤ (n : Int) := Int.natCast_nonneg _
  have hq := below_val n
  have B1 : B < w.heap.size + 1 := by omega
  have B2 : B < w.heap.size + 1 + 1 := by omega
  have B3 : B < w.heap.size + 1 + 1 + 1 := by omega
  refine (callsIn_wide (n := 5)).1 ?_
  refine callsIn_of_wp_marks Tryd.func19 rfl trivial ?_ rfl
  simp only [Tryd.ntmps19, List.size_toArray, List.length_cons, List.length_nil, Nat.reduceAdd, Nat.reduceSub, Array.replicate_succ, Array.replicate_zero, List.push_toArray, List.append_toArray, List.nil_append, List.cons_append]
  gi_wp2
  refine wpIn_scope ?_
  gi_wp2_with (first
    | (refine ⟨trivial, ?_⟩; gi_at_call 45; refine (callsIn_wide.2 (may_in B n size _ hc hm)).mono ?_; rintro e w' ⟨rfl, rfl⟩)
    | (refine ⟨trivial, ?_⟩; gi_at_call 46; refine (callsIn_wide.2 (bit_any _ hn0 _)).mono ?_; rintro e w' ⟨rfl, rfl⟩)
    | (refine ⟨trivial, ?_⟩; gi_at_call 47; refine (callsIn_wide.2 (from_any _ _ _ _ _)).mono ?_; rintro e w' ⟨rfl, rfl⟩)
    | (refine wpIn_label ?_))
  clear hq hc hcw hat hs hT hmx
  generalize hW : World.alloc _ _ = W0
  have c6 : Boxed W0 w.heap.size 66 (.int .u64 (belowN n 0)) := by rw [← hW]; exact ((((Boxed.new w _ _).alloc _).alloc _).alloc _).alloc _
  have c7 : Boxed W0 (w.heap.size + 1) 3 (.int .i64 0) := by
    have h := Boxed.new (w.alloc (.cells #[.int .u64 (belowN n 0)] 66)) 3 (.int .i64 0)
    simp only [World.size_alloc] at h
    rw [← hW]; exact ((h.alloc _).alloc _).alloc _
  have c8 : Boxed W0 (w.heap.size + 1 + 1) 4 (.bool false) := by
    have h := Boxed.new ((w.alloc (.cells #[.int .u64 (belowN n 0)] 66)).alloc (.cells #[.int .i64 0] 3)) 4 (.bool false)
    simp only [World.size_alloc] at h
    rw [← hW]; exact (h.alloc _).alloc _
  have c9 : Boxed W0 (w.heap.size + 1 + 1 + 1) 60 (.slice (some ⟨G, 0, none⟩) ws.length cap) := by
    have h := Boxed.new (((w.alloc (.cells #[.int .u64 (belowN n 0)] 66)).alloc (.cells #[.int .i64 0] 3)).alloc (.cells #[.bool false] 4)) 60 (.slice (some ⟨G, 0, none⟩) ws.length cap)
    simp only [World.size_alloc] at h
    rw [← hW]; exact h.alloc _
  have c10 : Boxed W0 (w.heap.size + 1 + 1 + 1 + 1) 3 (.int .i64 ((n / 64 : Nat) : Int)) := by
    have h := Boxed.new ((((w.alloc (.cells #[.int .u64 (belowN n 0)] 66)).alloc (.cells #[.int .i64 0] 3)).alloc (.cells #[.bool false] 4)).alloc (.cells #[.slice (some ⟨G, 0, none⟩) ws.length cap] 60)) 3 (.int .i64 ((n : Int) / 64))
    simp only [World.size_alloc] at h
    rw [← hW]; exact h
  have hsz : w.heap.size ≤ W0.heap.size := Nat.le_of_lt c6.lt
  have hB0 : Below w.heap.size w W0 := by
    rw [← hW]
    exact (((((Below.refl _ w).alloc (Nat.le_refl _) _).alloc (by simp) _).alloc (by simp; omega) _).alloc (by simp; omega) _).alloc (by simp; omega) _
  clear hW
  refine wpIn_rangeFunc_ownG rfl (by decide) (gf := 68) (lb := #[.pointer (some ⟨w.heap.size + 1 + 1 + 1 + 1, 0, none⟩), .pointer (some ⟨w.heap.size + 1 + 1 + 1, 0, none⟩)]) rfl trivial (enters_of Tryd.func68 (by kernel_rfl) rfl)
    (from_stops 4 (by decide) (w.heap.size + 1 + 1 + 1 + 1) (w.heap.size + 1 + 1 + 1) w.heap.size G (n / 64) cap ws hlen hGl _ hsz c10.cell c9.cell c10.lt c9.lt (fun j hj => (hB0.cell (p := ⟨G, j, none⟩) hGl).trans (HS.out.at_ j hj))) kpF_t (kpF_b hsz) (Below.refl _ _) (fun _ => rfl)
    (fun pre W => (Boxed W w.heap.size 66 (.int .u64 (belowN n pre.length)) ∧ Boxed W (w.heap.size + 1) 3 (.int .i64 0) ∧ Boxed W (w.heap.size + 1 + 1) 4 (.bool false)) ∧ clearP ws n pre ∧ Below w.heap.size w W)
    (fun c pre W => ∃ pre0 x, pre = pre0 ++ [x] ∧ c = Code.exit 0 ∧ clearP ws n pre0 ∧ maskN ws n pre0.length x ≠ 0 ∧ Boxed W (w.heap.size + 1) 3 (.int .i64 ((x : Int) * 64 + (Lib.ctz 64 (maskN ws n pre0.length x) : Nat))) ∧ Boxed W (w.heap.size + 1 + 1) 4 (.bool true) ∧ Below w.heap.size w W)
    (fun s X Y row hx hg hr => ⟨⟨boxed_keep hx.1.1 hg (fun r e => (hr r e).2), boxed_keep hx.1.2.1 hg (fun r e => (hr r e).2), boxed_keep hx.1.2.2 hg (fun r e => (hr r e).2)⟩, hx.2.1, hx.2.2.grown hg hx.2.2.size (fun k e => Nat.le_trans hsz (hr k e).1)⟩)
    (fun c s X Y row hx hg hr => by
      obtain ⟨pre0, x, e1, e2, e3, e4, e5, e6, e7⟩ := hx
      exact ⟨pre0, x, e1, e2, e3, e4, boxed_keep e5 hg (fun r e => (hr r e).2), boxed_keep e6 hg (fun r e => (hr r e).2), e7.grown hg e7.size (fun k e => Nat.le_trans hsz (hr k e).1)⟩)
    ⟨⟨c6, c7, c8⟩, (fun i x h => by simp at h), hB0⟩
    (fun x => { tmps := #[.pointer (some ⟨B, 0, none⟩), .int .i64 n, undef, undef, .int .i64 0, .bool false, .pointer (some ⟨w.heap.size, 0, none⟩), .pointer (some ⟨w.heap.size + 1, 0, none⟩), .pointer (some ⟨w.heap.size + 1 + 1, 0, none⟩), .int .i64 ((x : Int) * 64), .int .u64 (wd ws x), undef,
      .int .i64 z, .int .i64 n, .pointer (some ⟨B, 0, none⟩), .int .i64 n, .bool true, .bool false, .int .i64 n, .int .u64 (2 ^ (n % 64)), .int .u64 (belowN n 0), .pointer (some ⟨B, 0, none⟩), .pointer (some ⟨B, 0, none⟩), .pointer (some ⟨B, 1, none⟩), .slice (some ⟨G, 0, none⟩) ws.length cap, .int .i64 n, .int .i64 ((n : Int) / 64),
      .func (.func 68) #[] #[.pointer (some ⟨w.heap.size + 1 + 1 + 1 + 1, 0, none⟩), .pointer (some ⟨w.heap.size + 1 + 1 + 1, 0, none⟩)], .int .i64 ((x : Int) * 64), .int .u64 (wd ws x), undef, undef, undef, undef, undef, undef, undef, undef, undef, undef, undef, undef], defers := [] }) ?assign ?body ?done ?stop
  case assign =>
    intro l x W K hK
    unfold encW
    gi_wp2
    exact hK
  case body =>
    rintro l pre x W ⟨⟨b6, b7, b8⟩, hcl, hB⟩ hlt
    have hv := mask_val ws n pre.length x (HS.out.row.lt x)
    have k6 := b6.cell
    have f6 := b6.frozen
    have k7 := b7.cell
    have f7 := b7.frozen
    have k8 := b8.cell
    have f8 := b8.frozen
    have htz : TzTab W := HT.out.below hB hTl
    have hml : maskN ws n pre.length x < 18446744073709551616 := Nat.lt_of_le_of_lt (maskN_le _ _ _ _) (HS.out.row.lt _)
    by_cases hz : maskN ws n pre.length x = 0
    · have hzb : (((maskN ws n pre.length x : Nat) : Int) == 0) = true := by rw [hz]; rfl
      have HZ := Lib.hid hz
      have HTZ := Lib.hid htz
      clear hz htz
      gi_wp2
      refine ⟨(KeepsOthers.setCell _ _ _).from _, ⟨(Below.refl _ W).setCell (p := ⟨w.heap.size, 0, none⟩) (Nat.le_refl _) _, fun v hv => ?_⟩, ⟨?_, b7.other (by omega) _, b8.other (by omega) _⟩, clear_snoc hcl HZ.out, hB.setCell (p := ⟨w.heap.size, 0, none⟩) (Nat.le_refl _) _⟩
      · rw [other (a := ⟨w.heap.size, 0, none⟩) (b := ⟨w.heap.size + 1 + 1 + 1, 0, none⟩) (fun e => by have := congrArg Addr.block e; simp at this; omega)]
        exact hv
      · have := b6.set (.int .u64 0)
        simpa [belowN] using this
    · have hzb : (((maskN ws n pre.length x : Nat) : Int) == 0) = false := by simp; exact hz
      have hx : x < ws.length := maskN_pos hz
      have hct := (ctz_spec _ hz hml).2.2
      have HZ := Lib.hid hz
      have HTZ := Lib.hid htz
      have s0 : (0 : Int) ≤ (x : Int) * 64 := by omega
      have s1 : (x : Int) * 64 ≤ 134217728 := by omega
      clear hz htz
      gi_wp2_with (refine ⟨trivial, ?_⟩; gi_at_call 48; refine (CallsIn.inRound l (callsIn_wide.2 (tz_any _ hml HZ.out _ HTZ.out))).mono ?_; rintro e w' ⟨rfl, rfl⟩)
      exact ⟨((KeepsOthers.setCell _ _ _).trans (KeepsOthers.setCell _ _ _)).from _, pre, x, rfl, rfl, hcl, HZ.out, (b7.set _).other (by omega) _, (b8.other (by omega) _).set _, (hB.setCell (p := ⟨w.heap.size + 1, 0, none⟩) (by simp) _).setCell (p := ⟨w.heap.size + 1 + 1, 0, none⟩) (by simp; omega) _⟩
  case done =>
    rintro D ys W hD rfl ⟨⟨b6, b7, b8⟩, hcl, hB⟩ hK
    have k7 := b7.cell
    have k8 := b8.cell
    gi_wp2
    refine wpIn_wide.2 ?_
    go_quiet (fail)
    gi_wp2
    rw [Exit.noGoto_ret]
    have hBd : Below w.heap.size w (W.drewN nq) := ⟨hB.os, hB.tape, hB.output, hB.size, hB.block⟩
    refine ⟨by simp, .inl ⟨_, _, rfl, run_takeDeferred (w := W.drewN nq) hK, ?_⟩⟩
    exact ⟨_, results_tmp2 rfl _ _ _, 0, false, rfl, next_none HS.out.row hcl, hBd.trans (belowK_b (w := w) (Nat.le_refl _) (W.drewN nq) D _ _ (by omega) hK rfl rfl)⟩
  case stop =>
    rintro D c pre W hD ⟨k, hk, rfl⟩ ⟨pre0, x, e1, rfl, e3, e4, b7, b8, hB⟩ hK
    have hp0 : pre0 = upto (n / 64) pre0.length ∧ x = n / 64 + pre0.length := by
      have h1 := congrArg List.length e1
      rw [upto_length, List.length_append, List.length_singleton] at h1
      subst h1
      rw [upto_succ] at e1
      have h2 := List.append_inj e1 (by rw [upto_length])
      exact ⟨h2.1.symm, by simpa using h2.2.symm⟩
    obtain ⟨h1, rfl⟩ := hp0
    have hfin := next_some HS.out.row (k := pre0.length) (by rw [h1] at e3; exact e3) e4
    have k7 := b7.cell
    have k8 := b8.cell
    have HE := Lib.hid h1
    clear h1 e1
    gi_wp2
    refine wpIn_wide.2 ?_
    go_quiet (fail)
    gi_wp2
    rw [Exit.noGoto_ret]
    have hBd : Below w.heap.size w (W.drewN nq) := ⟨hB.os, hB.tape, hB.output, hB.size, hB.block⟩
    refine ⟨by simp, .inl ⟨_, _, rfl, run_takeDeferred (w := W.drewN nq) hK, ?_⟩⟩
    exact ⟨_, results_tmp2 rfl _ _ _, _, true, rfl, by simpa using hfin, hBd.trans (belowK_b (w := w) (Nat.le_refl _) (W.drewN nq) D _ _ (by omega) hK rfl rfl)⟩

theorem next_nil (z : Int) (w : World) : Calls Tryd.prog 19 #[.pointer none, .int .i64 z] w fun e w' => e = .returned (.tuple #[.int .i64 0, .bool false]) ∧ w = w' := by
  obtain ⟨y, hy⟩ : ∃ y, (if z < 0 then 0 else z) = y := ⟨_, rfl⟩
  go_enter Tryd.func19, Tryd.ntmps19
  go_wp2
  go_step3
  go_wp2_with (go_at_call 45; refine (may_nil _ _).mono ?_; rintro e w' ⟨rfl, rfl⟩)
  rw [Exit.noGoto_ret]
  go_ret2
  exact ⟨rfl, rfl⟩
theorem next_out (B : Nat) (z y size : Int) (w : World) (hc : w.cell? ⟨B, 0, none⟩ = some (.int .i64 size)) (hy : (if z < 0 then 0 else z) = y) (hm : mayB y size = false) :
    Calls Tryd.prog 19 #[.pointer (some ⟨B, 0, none⟩), .int .i64 z] w fun e w' => e = .returned (.tuple #[.int .i64 0, .bool false]) ∧ w = w' := by
  go_enter Tryd.func19, Tryd.ntmps19
  go_wp2
  go_step3
  go_wp2_with (go_at_call 45; refine (may_out B y size _ hc hm).mono ?_; rintro e w' ⟨rfl, rfl⟩)
  rw [Exit.noGoto_ret]
  go_ret2
  exact ⟨rfl, rfl⟩

/-- The least one from a number on, of whatever number is asked. -/
theorem next_any (B G size cap : Nat) (ws : List Nat) (z : Int) (w : World) (hs : SetIs w B G size cap ws) (hT : TzTab w) (hBl : B < w.heap.size) (hGl : G < w.heap.size) (hTl : 1 < w.heap.size) :
    Calls Tryd.prog 19 #[.pointer (some ⟨B, 0, none⟩), .int .i64 z] w fun e w' => ∃ v ok, e = .returned (.tuple #[.int .i64 v, .bool ok]) ∧ NextIs ws z.toNat v ok ∧ Below w.heap.size w w' := by
  have hy : (if z < 0 then 0 else z) = ((z.toNat : Nat) : Int) := by split <;> omega
  by_cases hn : z.toNat < size
  · exact next_in B G size cap ws z z.toNat w hs hy hn hT hBl hGl hTl
  · refine (next_out B z _ size w hs.cs hy (by simp [mayB]; omega)).mono fun e w' ⟨he, hw⟩ => ?_
    subst hw
    exact ⟨0, false, he, .inl ⟨rfl, rfl, fun m hm => hs.row.top m (by omega)⟩, Below.refl _ _⟩
end Go.Proofs.YtahhenbphnejiaaDoor.Bits
