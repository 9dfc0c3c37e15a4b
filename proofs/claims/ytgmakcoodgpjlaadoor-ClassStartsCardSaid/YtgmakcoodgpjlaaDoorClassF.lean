/-
  The law ClassStarts answers true, for every block, class and stop, wherever the table of sizes lies as it was laid.
-/
import Derived.Test.YtgmakcoodgpjlaaDoorClassE
import Derived.Test.YtgmakcoodgpjlaaDoorRound
namespace Go.Proofs.YtgmakcoodgpjlaaDoor.Class
open Go.RowKit Go.Shelf
attribute [local go_sem] Oper.semAt_some wide_fn

theorem quietR_left {l : Nat} {n : Nat} {P : Program} {f : FuncId} {args : Array Value} {w : World} {k : Nat} {v : Value}
    (h : Calls P f args (w.drewN k) fun e w' => e = .returned v ∧ w.drewN k = w') : CallsIn (Fence.wide.inRound l) n P f args (w.drewN k) fun e w'' => e = .returned v ∧ ∃ m, w'' = w.drewN m :=
  (CallsIn.inRound l (callsIn_wide.2 h)).mono fun _ _ ⟨he, hm⟩ => ⟨he, k, hm.symm⟩

theorem eql_func_nil (f : Fn) (xs ys : Array Value) (w : World) : (binOp .eql 30 (.func f xs ys) .nilFunc).run Tryd.prog w = .ok (.bool false) w := by
  have hu := Tryd.underlying30
  have h : ∀ d : Nat, (Op.equalIn (d + 1) 30 (.func f xs ys) .nilFunc).run Tryd.prog w = .ok false w := fun d => by
    simp [Op.equalIn, run_underlying hu]
  simp only [binOp]
  simp [Op.equal, Op.maxDepth, h 9999]

theorem boxed_new {W : World} {B : Nat} {t : TypeId} {v : Value} (h : B = W.heap.size) : Boxed (W.alloc (.cells #[v] t)) B t v := by rw [h]; exact Boxed.new W t v

theorem other {W : World} {a b : Addr} {v : Value} (h : a ≠ b) : (W.setCell a v).cell? b = W.cell? b := World.cell?_setCell_other (h := h) ..
theorem keepsOthers_drewN (W : World) (n : Nat) : KeepsOthers W (W.drewN n) := ⟨Nat.le_refl _, fun _ _ h _ => h⟩

/-- The law's boxes. -/
structure SI (S : Nat) (words k : Int) (stop : Nat) (w : World) (next : Nat) (W : World) : Prop where
  b0 : Boxed W S 3 (.int .i64 words)
  b1 : Boxed W (S + 1) 3 (.int .i64 k)
  b2 : Boxed W (S + 1 + 1) 5 (.int .u8 (stop : Int))
  b3 : Boxed W (S + 1 + 1 + 1) 4 (.bool false)
  b6 : Boxed W (S + 1 + 1 + 1 + 1 + 1 + 1) 3 (.int .i64 (next : Int))
  bel : Below S w W
theorem SI.keep {S : Nat} {words k : Int} {stop next : Nat} {w W W' : World} {row : Option Nat} (h : SI S words k stop w next W) (hg : W.grownBy W' row) (hr : ∀ r, row = some r → S ≤ r ∧ ∃ o : Obj, W.heap[r]? = some o ∧ o.isCells = false) : SI S words k stop w next W' :=
  ⟨boxed_keep h.b0 hg (fun r e => (hr r e).2), boxed_keep h.b1 hg (fun r e => (hr r e).2), boxed_keep h.b2 hg (fun r e => (hr r e).2), boxed_keep h.b3 hg (fun r e => (hr r e).2), boxed_keep h.b6 hg (fun r e => (hr r e).2),
    h.bel.grown hg (Nat.le_of_lt h.b0.lt) (fun k e => (hr k e).1)⟩
theorem SI.drewN {S : Nat} {words k : Int} {stop next : Nat} {w W : World} (h : SI S words k stop w next W) (m : Nat) : SI S words k stop w next (W.drewN m) := ⟨h.b0, h.b1, h.b2, h.b3, h.b6, below_drewN h.bel m⟩
theorem SI.next {S : Nat} {words k : Int} {stop next : Nat} {w W : World} (h : SI S words k stop w next W) (n' : Nat) : SI S words k stop w n' (W.setCell ⟨S + 1 + 1 + 1 + 1 + 1 + 1, 0, none⟩ (.int .i64 (n' : Int))) :=
  ⟨h.b0.other (by omega) _, h.b1.other (by omega) _, h.b2.other (by omega) _, h.b3.other (by omega) _, h.b6.set _, h.bel.setCell (by show S ≤ S + 1 + 1 + 1 + 1 + 1 + 1; omega) _⟩

theorem fits {words k : Int} {N x : Nat} (hN : perI words k = (N : Int)) (hx : x < N) : isB k = true ∧ (x : Int) * sizI k + sizI k ≤ words ∧ words ≤ 256 := by
  have hk : isB k = true := by
    cases h : isB k with
    | true => rfl
    | false => rw [perI_noC h] at hN; omega
  have hw : wordsB words = true := by
    cases h : wordsB words with
    | true => rfl
    | false => rw [perI_noW h] at hN; omega
  obtain ⟨s0, s1⟩ := sizI_bd hk
  obtain ⟨n0, n1⟩ := wordsB_true.1 hw
  rw [perI_yes hk hw] at hN
  refine ⟨hk, ?_, n1⟩
  have h1 : ((x : Int) + 1) * sizI k ≤ (words / sizI k) * sizI k := Int.mul_le_mul_of_nonneg_right (by omega) (by omega)
  have h2 : words / sizI k * sizI k ≤ words := Int.ediv_mul_le _ (by omega)
  have h3 : ((x : Int) + 1) * sizI k = (x : Int) * sizI k + sizI k := by rw [Int.add_mul, Int.one_mul]
  omega

set_option maxRecDepth 100000 in
set_option maxHeartbeats 4000000 in
theorem starts_walk (words k : Int) (stop : Nat) (hs : stop < 256) (w : World) (ht : SizTab w) :
    Calls Tryd.prog 4 #[.int .i64 words, .int .i64 k, .int .u8 stop] w fun e w' => e = .returned (.bool true) ∧ Below w.heap.size w w' := by
  obtain ⟨N, hN⟩ : ∃ N : Nat, perI words k = (N : Int) := ⟨(perI words k).toNat, by have := (per_bd words k).1; omega⟩
  have hNb : (N : Int) ≤ 128 := by rw [← hN]; exact (per_bd words k).2
  have heq := fun f xs ys w => eql_func_nil f xs ys w
  have HT := Lib.hid ht
  have HN := Lib.hid hN
  have hblk := ht.blk
  clear ht hN
  refine (callsIn_wide (n := 5)).1 ?_
  refine callsIn_of_wp_marks Tryd.func4 rfl trivial ?_ rfl
  simp only [Tryd.ntmps4, List.size_toArray, List.length_cons, List.length_nil, Nat.reduceAdd, Nat.reduceSub, Array.replicate_succ, Array.replicate_zero, List.push_toArray, List.append_toArray, List.nil_append, List.cons_append]
  gi_wp2_with (first
    | (gi_at_call 18; refine (callsIn_wide.2 (per_any _ _ _ (by repeat (first | exact HT.out | apply SizTab.alloc)))).mono ?_; rintro e w' ⟨rfl, rfl⟩; rw [HN.out])
    | (gi_at_call 19; refine (callsIn_wide.2 (refper_any _ _ _)).mono ?_; rintro e w' ⟨rfl, rfl⟩; rw [HN.out])
    | (gi_at_call 20; refine (callsIn_wide.2 (starts_any _ _ _)).mono ?_; rintro e w' ⟨rfl, rfl⟩))
  clear heq
  generalize hW : World.alloc _ _ = W0
  have c4 : Boxed W0 (w.heap.size + 1 + 1 + 1 + 1) 3 (.int .i64 words) := by rw [← hW]; repeat (first | (refine boxed_new ?_; simp; done) | refine Boxed.alloc ?_ _)
  have c5 : Boxed W0 (w.heap.size + 1 + 1 + 1 + 1 + 1) 3 (.int .i64 k) := by rw [← hW]; repeat (first | (refine boxed_new ?_; simp; done) | refine Boxed.alloc ?_ _)
  have hsi : SI w.heap.size words k stop w 0 W0 := by
    rw [← hW]
    refine ⟨?_, ?_, ?_, ?_, ?_, ?_⟩
    · repeat (first | (refine boxed_new ?_; simp; done) | refine Boxed.alloc ?_ _)
    · repeat (first | (refine boxed_new ?_; simp; done) | refine Boxed.alloc ?_ _)
    · repeat (first | (refine boxed_new ?_; simp; done) | refine Boxed.alloc ?_ _)
    · repeat (first | (refine boxed_new ?_; simp; done) | refine Boxed.alloc ?_ _)
    · repeat (first | (refine boxed_new ?_; simp; done) | refine Boxed.alloc ?_ _)
    · exact (((((((Below.refl _ w).alloc (Nat.le_refl _) _).alloc (by simp) _).alloc (by simp; omega) _).alloc (by simp; omega) _).alloc (by simp; omega) _).alloc (by simp; omega) _).alloc (by simp; omega) _
  have hsz : w.heap.size ≤ W0.heap.size := Nat.le_of_lt hsi.b0.lt
  have HSW := Lib.hid (show w.heap.size + 6 < W0.heap.size from hsi.b6.lt)
  clear hW
  refine wpIn_rangeFunc_ownG rfl (by decide) (gf := 31) (lb := #[.pointer (some ⟨w.heap.size + 1 + 1 + 1 + 1, 0, none⟩), .pointer (some ⟨w.heap.size + 1 + 1 + 1 + 1 + 1, 0, none⟩)]) rfl trivial (enters_of Tryd.func31 (by kernel_rfl) rfl)
    (starts_stops 4 (by decide) (w.heap.size + 1 + 1 + 1 + 1) (w.heap.size + 1 + 1 + 1 + 1 + 1) w.heap.size words k hblk N HN.out W0 hsz c4.cell c5.cell c4.lt c5.lt (HT.out.below hsi.bel hblk)) kpF_t (kpF_b hsz) (Below.refl _ _) (fun _ => rfl)
    (fun pre W => SI w.heap.size words k stop w pre.length W ∧ (stop = 0 ∨ pre.length < stop))
    (fun c pre W => (c = .ret ∧ ∃ pre0 x, pre = pre0 ++ [x] ∧ x ≠ pre0.length) ∨ (c = Code.exit 0 ∧ SI w.heap.size words k stop w pre.length W ∧ pre.length = stop ∧ 0 < stop))
    (fun s X Y row hx hg hr => ⟨hx.1.keep hg (fun r e => ⟨Nat.le_trans hsz (hr r e).1, (hr r e).2⟩), hx.2⟩)
    (fun c s X Y row hx hg hr => by
      rcases hx with h | ⟨h1, h2, h3⟩
      · exact .inl h
      · exact .inr ⟨h1, h2.keep hg (fun r e => ⟨Nat.le_trans hsz (hr r e).1, (hr r e).2⟩), h3⟩)
    ⟨hsi, by simp; omega⟩
    (fun x => { tmps := #[.int .i64 words, .int .i64 k, .int .u8 stop, .pointer (some ⟨w.heap.size, 0, none⟩), .pointer (some ⟨w.heap.size + 1, 0, none⟩), .pointer (some ⟨w.heap.size + 1 + 1, 0, none⟩), .pointer (some ⟨w.heap.size + 1 + 1 + 1, 0, none⟩), .int .i64 N, (.func (.func 31) #[] #[.pointer (some ⟨w.heap.size + 1 + 1 + 1 + 1, 0, none⟩), .pointer (some ⟨w.heap.size + 1 + 1 + 1 + 1 + 1, 0, none⟩)]), .pointer (some ⟨w.heap.size + 1 + 1 + 1 + 1 + 1 + 1, 0, none⟩), .int .i64 (x : Int), .int .i64 ((x : Int) * sizI k), undef, .int .i64 words, .int .i64 k, .int .i64 N, .int .i64 N, .int .i64 words, .int .i64 k, .int .i64 N, .bool false, .int .i64 words, .int .i64 k, (.func (.func 31) #[] #[.pointer (some ⟨w.heap.size + 1 + 1 + 1 + 1, 0, none⟩), .pointer (some ⟨w.heap.size + 1 + 1 + 1 + 1 + 1, 0, none⟩)]), (.func (.func 31) #[] #[.pointer (some ⟨w.heap.size + 1 + 1 + 1 + 1, 0, none⟩), .pointer (some ⟨w.heap.size + 1 + 1 + 1 + 1 + 1, 0, none⟩)]), .bool false, (.func (.func 31) #[] #[.pointer (some ⟨w.heap.size + 1 + 1 + 1 + 1, 0, none⟩), .pointer (some ⟨w.heap.size + 1 + 1 + 1 + 1 + 1, 0, none⟩)]), .int .i64 (x : Int), .int .i64 ((x : Int) * sizI k), undef, undef, undef, undef, undef, undef, undef, undef, undef, undef, undef, undef, undef, undef, undef, undef, undef, undef, undef, undef, undef, undef, undef, undef, undef, undef, undef, undef, undef, undef, undef, undef, undef, undef, undef, undef, undef, undef], defers := [] }) ?assign ?body ?done ?stop
  case assign =>
    intro l x W K hK
    unfold encS
    gi_wp2
    exact hK
  case body =>
    rintro l pre x W ⟨hsi, hst⟩ hlt
    have k0 := hsi.b0.cell
    have k1 := hsi.b1.cell
    have k2 := hsi.b2.cell
    have k3 := hsi.b3.cell
    have f3 := hsi.b3.frozen
    have k6 := hsi.b6.cell
    have f6 := hsi.b6.frozen
    have HS := Lib.hid hsi
    have hstl : stop = 0 ∨ pre.length < stop := hst
    clear hst hsi
    by_cases hx : x = pre.length
    · obtain ⟨hk, hf, hw⟩ := fits HN.out hlt
      obtain ⟨m0, m1⟩ := mul_bd k (i := pre.length) (by omega)
      obtain ⟨s0, s1⟩ := sizI_bd hk
      have hxb : (((x : Nat) : Int) != ((pre.length : Nat) : Int)) = false := by simp; omega
      have hpl : pre.length < 128 := by omega
      have hxl : x < 128 := by omega
      rw [← hx] at m0 m1 hf
      have hfb : decide (words < (x : Int) * sizI k + sizI k) = false := by simp; omega
      have hnx := fun W (h : SI w.heap.size words k stop w pre.length W) => h.next (pre.length + 1)
      have HX := Lib.hid hx
      have HNX := Lib.hid hnx
      have HK := Lib.hid hk
      have HST := Lib.hid hstl
      have hlen : (pre ++ [x]).length = pre.length + 1 := by simp
      have HL := Lib.hid hlen
      have hcast : ((pre.length + 1 : Nat) : Int) = (pre.length : Int) + 1 := by omega
      have HC := Lib.hid hcast
      clear hx hnx hk hf hcast hlen
      by_cases hsb : pre.length + 1 = stop
      · have hsb' : (((pre.length : Nat) : Int) + 1 == ((stop : Nat) : Int)) = true := by simp; omega
        have HSB := Lib.hid hsb
        clear hsb hstl
        gi_wp2
        refine region_quietR (by kernel_rfl) (by kernel_rfl) (by kernel_rfl) ?_
        repeat (gi_big_quiet_step ((gi_at_call 15; exact quietR_left (refsize_any _ _))))
        refine wpQuietIn_nil ?_
        intro _ hw'
        obtain ⟨nq, hw''⟩ := hw'
        subst hw''
        gi_wp2
        have h6 := (HS.out.drewN nq).next (pre.length + 1)
        rw [HC.out] at h6
        exact ⟨((keepsOthers_drewN W nq).trans (KeepsOthers.setCell _ _ _)).from _, .inr ⟨rfl, by rw [HL.out]; exact h6, by rw [HL.out]; exact HSB.out, by have := HSB.out; omega⟩⟩
      · have hsb' : (((pre.length : Nat) : Int) + 1 == ((stop : Nat) : Int)) = false := by simp; omega
        have HSB := Lib.hid hsb
        clear hsb hstl
        gi_wp2
        refine region_quietR (by kernel_rfl) (by kernel_rfl) (by kernel_rfl) ?_
        repeat (gi_big_quiet_step ((gi_at_call 15; exact quietR_left (refsize_any _ _))))
        refine wpQuietIn_nil ?_
        intro _ hw'
        obtain ⟨nq, hw''⟩ := hw'
        subst hw''
        gi_wp2
        have h6 := (HS.out.drewN nq).next (pre.length + 1)
        rw [HC.out] at h6
        refine ⟨((keepsOthers_drewN W nq).trans (KeepsOthers.setCell _ _ _)).from _, ⟨(below_drewN (Below.refl _ W) nq).setCell (by show w.heap.size ≤ w.heap.size + 1 + 1 + 1 + 1 + 1 + 1; omega) _, fun v hv => ?_⟩, by rw [HL.out]; exact h6, by have h1 := HST.out; have h2 := HSB.out; rw [HL.out]; omega⟩
        rw [other (a := ⟨w.heap.size + 1 + 1 + 1 + 1 + 1 + 1, 0, none⟩) (b := ⟨w.heap.size + 1 + 1 + 1 + 1 + 1, 0, none⟩) (fun e => by have := congrArg Addr.block e; simp at this)]
        exact hv
    · have hxb : (((x : Nat) : Int) != ((pre.length : Nat) : Int)) = true := by simp; omega
      have HX := Lib.hid hx
      clear hx
      gi_wp2
      refine region_quietR (by kernel_rfl) (by kernel_rfl) (by kernel_rfl) ?_
      repeat (gi_big_quiet_step ((gi_at_call 15; exact quietR_left (refsize_any _ _))))
      refine wpQuietIn_nil ?_
      intro _ hw'
      obtain ⟨nq, hw''⟩ := hw'
      subst hw''
      gi_wp2
      exact ⟨((keepsOthers_drewN W nq).trans (KeepsOthers.setCell _ _ _)).from _, .inl ⟨rfl, pre, x, rfl, HX.out⟩⟩
  case done =>
    rintro D ys W hD rfl ⟨hsi, hst⟩ hK
    rw [List.length_range] at hsi hst
    have k0 := hsi.b0.cell
    have k2 := hsi.b2.cell
    have k3 := hsi.b3.cell
    have f3 := hsi.b3.frozen
    have k6 := hsi.b6.cell
    have HS := Lib.hid hsi
    have HSZ := Lib.hid (HT.out.below hsi.bel hblk)
    have HD := Lib.hid hK
    have HC3 := Lib.hid ((hsi.b3.set (.bool true)).kept (grownBy_putObj' (W.setCell ⟨w.heap.size + 1 + 1 + 1, 0, none⟩ (.bool true)) D (.deferred none)) (fun e => by injection e with e; have := HSW.out; omega)).cell
    have HBL := Lib.hid ((hsi.bel.setCell (p := ⟨w.heap.size + 1 + 1 + 1, 0, none⟩) (by show w.heap.size ≤ w.heap.size + 1 + 1 + 1; omega) (.bool true)).trans (belowK_b (w := w) (Nat.le_refl _) (W.setCell ⟨w.heap.size + 1 + 1 + 1, 0, none⟩ (.bool true)) D _ (.deferred none) (by omega) ((KeepsOthers.setCell W _ _).same D _ hK rfl) rfl rfl))
    have HD2 : Hid ((W.setCell ⟨w.heap.size + 1 + 1 + 1, 0, none⟩ (.bool true)).heap[D]? = some (.deferred (some []))) := Lib.hid ((KeepsOthers.setCell W _ _).same D _ HD.out rfl)
    clear hsi hK
    rcases hst with h0 | h0
    · have hg : ¬ 0 < stop := by omega
      clear h0
      gi_wp2_with (gi_at_call 17; refine (callsIn_wide.2 (awake_any _ HSZ.out)).mono ?_; rintro e w' ⟨rfl, rfl⟩)
      refine ⟨by simp, .inl ⟨_, _, rfl, run_takeDeferred (w := W.setCell ⟨w.heap.size + 1 + 1 + 1, 0, none⟩ (.bool true)) HD2.out, ?_⟩⟩
      refine ⟨.bool true, ?_, rfl, HBL.out⟩
      simp [results, Tryd.results4, go_sem, HC3.out]
    · have hg : 0 < stop := by omega
      have hm : ¬ stop < N := by omega
      have hm' : N < stop := h0
      gi_wp2_with (gi_at_call 17; refine (callsIn_wide.2 (awake_any _ HSZ.out)).mono ?_; rintro e w' ⟨rfl, rfl⟩)
      refine ⟨by simp, .inl ⟨_, _, rfl, run_takeDeferred (w := W.setCell ⟨w.heap.size + 1 + 1 + 1, 0, none⟩ (.bool true)) HD2.out, ?_⟩⟩
      refine ⟨.bool true, ?_, rfl, HBL.out⟩
      simp [results, Tryd.results4, go_sem, HC3.out]
  case stop =>
    rintro D c pre W hD ⟨m, hm, rfl⟩ hIx hK
    rcases hIx with ⟨rfl, pre0, x, he, hx⟩ | ⟨rfl, hsi, hp, hg⟩
    · exfalso
      have hl := congrArg List.length he
      rw [List.length_range, List.length_append, List.length_singleton] at hl
      subst hl
      rw [List.range_succ] at he
      have := List.append_inj he (by rw [List.length_range])
      exact hx (by simpa using this.2.symm)
    · rw [List.length_range] at hsi hp
      subst hp
      have k0 := hsi.b0.cell
      have k2 := hsi.b2.cell
      have k3 := hsi.b3.cell
      have f3 := hsi.b3.frozen
      have k6 := hsi.b6.cell
      have HS := Lib.hid hsi
      have HSZ := Lib.hid (HT.out.below hsi.bel hblk)
      have HD := Lib.hid hK
      have HC3 := Lib.hid ((hsi.b3.set (.bool true)).kept (grownBy_putObj' (W.setCell ⟨w.heap.size + 1 + 1 + 1, 0, none⟩ (.bool true)) D (.deferred none)) (fun e => by injection e with e; have := HSW.out; omega)).cell
      have HBL := Lib.hid ((hsi.bel.setCell (p := ⟨w.heap.size + 1 + 1 + 1, 0, none⟩) (by show w.heap.size ≤ w.heap.size + 1 + 1 + 1; omega) (.bool true)).trans (belowK_b (w := w) (Nat.le_refl _) (W.setCell ⟨w.heap.size + 1 + 1 + 1, 0, none⟩ (.bool true)) D _ (.deferred none) (by omega) ((KeepsOthers.setCell W _ _).same D _ hK rfl) rfl rfl))
      have HD2 : Hid ((W.setCell ⟨w.heap.size + 1 + 1 + 1, 0, none⟩ (.bool true)).heap[D]? = some (.deferred (some []))) := Lib.hid ((KeepsOthers.setCell W _ _).same D _ HD.out rfl)
      clear hsi hK
      by_cases h0 : m = N
      · subst h0
        gi_wp2_with (gi_at_call 17; refine (callsIn_wide.2 (awake_any _ HSZ.out)).mono ?_; rintro e w' ⟨rfl, rfl⟩)
        refine ⟨by simp, .inl ⟨_, _, rfl, run_takeDeferred (w := W.setCell ⟨w.heap.size + 1 + 1 + 1, 0, none⟩ (.bool true)) HD2.out, ?_⟩⟩
        refine ⟨.bool true, ?_, rfl, HBL.out⟩
        simp [results, Tryd.results4, go_sem, HC3.out]
      · have hm1 : m < N := by omega
        gi_wp2_with (gi_at_call 17; refine (callsIn_wide.2 (awake_any _ HSZ.out)).mono ?_; rintro e w' ⟨rfl, rfl⟩)
        refine ⟨by simp, .inl ⟨_, _, rfl, run_takeDeferred (w := W.setCell ⟨w.heap.size + 1 + 1 + 1, 0, none⟩ (.bool true)) HD2.out, ?_⟩⟩
        refine ⟨.bool true, ?_, rfl, HBL.out⟩
        simp [results, Tryd.results4, go_sem, HC3.out]
end Go.Proofs.YtgmakcoodgpjlaaDoor.Class
