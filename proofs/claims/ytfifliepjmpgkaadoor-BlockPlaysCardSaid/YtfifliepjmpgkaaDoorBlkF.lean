/-
  (*block.Table).All: what whoever ranges over a table's slots is told.
-/
import Derived.Test.YtfifliepjmpgkaaDoorBlkE
namespace Go.Proofs.YtfifliepjmpgkaaDoor.Blk
open Go.RowKit Go.Shelf
open Class (isB isB_true isB_false sizI perI SizTab)
open Go.Proofs.YtfifliepjmpgkaaDoor.Addr (Tabs)
attribute [local go_sem] Oper.semAt_some

/-- How many slots a block of a class has. -/
def perN (c : Cfg) (k : Nat) : Nat := (perI c.wd k).toNat
theorem perN_eq (c : Cfg) (k : Nat) : perI c.wd k = (perN c k : Int) := by have := (Class.per_bd c.wd k).1; unfold perN; omega
theorem perN_le (c : Cfg) (k : Nat) : perN c k ≤ 128 := by have := (Class.per_bd c.wd k).2; have := perN_eq c k; omega
theorem perN_pos {c : Cfg} {k : Nat} (hR : rightB c.b c.wd c.m c.r c.ce c.lg c.st = true) (hk : k < 4) : 1 ≤ perN c k := by
  have hRC : RightC c.b c.wd c.m c.r c.ce c.lg c.st := refRightB_true.1 ((rightB_ref ..).symm.trans hR)
  have hB : isB (k : Int) = true := isB_true.2 ⟨by omega, by omega⟩
  have h := perN_eq c k
  rw [Class.perI_yes hB (Class.wordsB_true.2 ⟨hRC.wd0, hRC.wd1⟩)] at h
  obtain ⟨s0, s1⟩ := Class.sizI_bd hB
  have : 1 ≤ c.wd / sizI k := by rw [Int.le_ediv_iff_mul_le (by omega)]; have := hRC.wd0; omega
  omega

theorem wpIn_scope {n : Nat} {P : Program} {c : Code} {Q : Exit → Act → World → Prop} {a : Act} {w : World} (h : c.wpIn Fence.wide n P (Exit.noGoto Q) a w) : (Code.scope c).wpIn Fence.wide n P Q a w :=
  wpIn_wide.2 (wp_scope_straight (wpIn_wide.1 h))

/-- The addresses of a block's slots. -/
def seg (c : Cfg) (ks : List Nat) (b : Nat) : List Int := (List.range (perN c (kAt ks b))).map (adr c (kAt ks b) b)
theorem seg_length (c : Cfg) (ks : List Nat) (b : Nat) : (seg c ks b).length = perN c (kAt ks b) := by simp [seg]
/-- The addresses of the first blocks' slots. -/
def allP (c : Cfg) (ks : List Nat) (b : Nat) : List Int := (List.range b).flatMap (seg c ks)
theorem allP_succ (c : Cfg) (ks : List Nat) (b : Nat) : allP c ks (b + 1) = allP c ks b ++ seg c ks b := by simp [allP, List.range_succ]
theorem allP_prefix (c : Cfg) (ks : List Nat) {a b : Nat} (h : a ≤ b) : allP c ks a <+: allP c ks b := by
  induction b with
  | zero => rw [show a = 0 from by omega]; exact List.prefix_refl _
  | succ b ih =>
    rcases Nat.lt_or_ge b a with h1 | h1
    · rw [show a = b + 1 from by omega]; exact List.prefix_refl _
    · rw [allP_succ]; exact (ih h1).trans (List.prefix_append _ _)
theorem allP_len (c : Cfg) (ks : List Nat) (b : Nat) : (allP c ks b).length ≤ 128 * b := by
  induction b with
  | zero => simp [allP]
  | succ b ih => rw [allP_succ, List.length_append, seg_length]; have := perN_le c (kAt ks b); omega
/-- What is told at a place. -/
def valA (c : Cfg) (ks : List Nat) (j : Nat) : Int := (allP c ks ks.length).getD j 0
theorem valA_at (c : Cfg) (ks : List Nat) {b i : Nat} (hb : b < ks.length) (hi : i < perN c (kAt ks b)) : valA c ks ((allP c ks b).length + i) = adr c (kAt ks b) b i := by
  obtain ⟨t, ht⟩ := allP_prefix c ks (show b + 1 ≤ ks.length from hb)
  unfold valA
  rw [← ht, allP_succ, List.getD_eq_getElem?_getD, List.append_assoc, List.getElem?_append_right (by omega), Nat.add_sub_cancel_left, List.getElem?_append_left (by rw [seg_length]; exact hi)]
  simp [seg, hi]
theorem offs_lt (c : Cfg) (ks : List Nat) {b i : Nat} (hb : b < ks.length) (hi : i < perN c (kAt ks b)) : (allP c ks b).length + i < (allP c ks ks.length).length := by
  have h := (allP_prefix c ks (show b + 1 ≤ ks.length from hb)).length_le
  rw [allP_succ, List.length_append, seg_length] at h
  omega

/-- A loop that ranges over functions leaves a mark for each: all are taken. -/
abbrev markOf (D : Nat) : Deferred := { target := .collected D, args := #[] }
theorem leaves_marks {F : Fence} {n : Nat} {P : Program} {fn : Func} {tmps : Array Value} {R : Ending → World → Prop} (G : World → Prop) (hG : ∀ w, G w → LeavesInM F n P fn tmps R [] .returning w) :
    ∀ (ds : List Nat) (w : World), ds.Nodup → (∀ D ∈ ds, w.heap[D]? = some (.deferred (some []))) → (∀ w D, D ∈ ds → G w → G (w.putObj D (.deferred none))) → G w → LeavesInM F n P fn tmps R (ds.map markOf) .returning w
  | [], w, _, _, _, h => hG w h
  | D :: ds, w, hnd, hd, hp, h => by
    obtain ⟨h1, h2⟩ := List.nodup_cons.1 hnd
    refine ⟨by simp, .inl ⟨D, w.putObj D (.deferred none), rfl, run_takeDeferred (hd D (by simp)), ?_⟩⟩
    exact leaves_marks G hG ds _ h2 (fun E hE => (World.putObj_heap_other (fun e => h1 (by rw [← e]; exact hE))).trans (hd E (by simp [hE]))) (fun w E hE => hp w E (by simp [hE])) (hp w D (by simp) h)

theorem all_fn (q : Option Addr) (w : World) : Calls Tryd.prog 53 #[.pointer q] w fun e w' => e = .returned (.func (.func 81) #[] #[.pointer (some ⟨w.heap.size, 0, none⟩)]) ∧ w.alloc (.cells #[.pointer q] 27) = w' := by
  go_enter Tryd.func53, Tryd.ntmps53
  go_wp2
  go_ret
  exact ⟨rfl, rfl⟩

/-- Of no table nothing is told. -/
theorem all1_nil (m Bt : Nat) (T : World → Prop) (w : World) (hBt : w.cell? ⟨Bt, 0, none⟩ = some (.pointer none)) :
    SeqTold Fence.wide m Tryd.prog 81 #[.pointer (some ⟨Bt, 0, none⟩)] 0 (fun _ => #[.int .i64 0]) T w := by
  refine SeqTold.any (n := 5) ?_
  intro l J Jx W hW hJ _ _ _ h0
  obtain ⟨O0, hj0, hO0⟩ := h0
  have cBt : W.cell? ⟨Bt, 0, none⟩ = some (.pointer none) := (hW.cell (p := ⟨Bt, 0, none⟩) (World.block_lt_of_cell? w _ hBt)).trans hBt
  have lBt := World.block_lt_of_cell? W _ cBt
  simp only at lBt
  have HJ := Lib.hid (hJ.alloc hj0 hO0 (Nat.le_refl _) ((Below.refl _ _).alloc (Nat.le_refl _) (.cells #[.func (.yield l) #[] #[]] 34)))
  have HO := Lib.hid hO0
  clear hj0 hO0 hJ hW
  refine callsIn_of_wp_marks Tryd.func81 rfl trivial ?_ rfl
  simp only [Tryd.ntmps81, List.size_toArray, List.length_cons, List.length_nil, Nat.reduceAdd, Nat.reduceSub, Array.replicate_succ, Array.replicate_zero, List.push_toArray, List.append_toArray, List.nil_append, List.cons_append]
  gi_wp2
  refine wpIn_scope ?_
  gi_wp2
  exact ⟨_, results_none rfl _ _ _, ⟨_, rfl⟩, O0, fun k hk => by have := HO.out k hk; simp; omega, by simp, .inl HJ.out⟩

/-- Between two rounds of an iterator that ranges over others itself: its box lies as it lay, and all marks. -/
structure Marked (J : (Nat → Prop) → Nat → World → Prop) (S : Nat) (t : TypeId) (v : Value) (j : Nat) (ds : List Nat) (O : Nat → Prop) (wr : World) : Prop where
  inv : J O j wr
  lt : ∀ k, O k → k < wr.heap.size
  box : Boxed wr S t v
  own : ¬ O S
  nodup : ds.Nodup
  behind : ∀ D ∈ ds, S < D
  mark : ∀ D ∈ ds, wr.heap[D]? = some (.deferred (some []))
  free : ∀ D ∈ ds, ¬ O D
theorem Marked.later {J : (Nat → Prop) → Nat → World → Prop} {S j : Nat} {t : TypeId} {v : Value} {ds : List Nat} {O : Nat → Prop} {wr w' : World} (h : Marked J S t v j ds O wr) (hJ : Stab S J) (hb : Below wr.heap.size wr w') : Marked J S t v j ds O w' :=
  ⟨hJ.alloc h.inv h.lt (Nat.le_of_lt h.box.lt) hb, fun k hk => Nat.lt_of_lt_of_le (h.lt k hk) hb.size, Boxed.below h.box hb h.box.lt, h.own, h.nodup, h.behind, fun D hD => (hb.block D (Array.getElem?_eq_some_iff.1 (h.mark D hD)).1).trans (h.mark D hD), h.free⟩
theorem Marked.turn {J J' : (Nat → Prop) → Nat → World → Prop} {S j j' : Nat} {t : TypeId} {v : Value} {ds : List Nat} {O O' : Nat → Prop} {wr w' : World} (h : Marked J S t v j ds O wr) (hj : J' O' j' w') (ht : Turn S O O' wr w') : Marked J' S t v j' ds O' w' :=
  ⟨hj, ht.lt, ht.boxed h.box (Nat.le_refl _) h.own, fun e => (ht.grow _ e).elim h.own (by have := h.box.lt; omega), h.nodup, h.behind,
   fun D hD => (ht.keep D (Nat.le_of_lt (h.behind D hD)) (Array.getElem?_eq_some_iff.1 (h.mark D hD)).1 (h.free D hD)).trans (h.mark D hD),
   fun D hD e => (ht.grow _ e).elim (h.free D hD) (by have := (Array.getElem?_eq_some_iff.1 (h.mark D hD)).1; omega)⟩
theorem Marked.stab {J : (Nat → Prop) → Nat → World → Prop} {S j B : Nat} {t : TypeId} {v : Value} {ds : List Nat} {O : Nat → Prop} {X Y : World} (h : Marked J S t v j ds O X) (hJ : Stab S J) (hS : S < B) (hD : ∀ D ∈ ds, D < B) (hb : Below B X Y) (hk : ∀ k, O k → Y.heap[k]? = X.heap[k]?) : Marked J S t v j ds O Y :=
  ⟨hJ O j X Y h.inv (hb.mono (by omega)) hk, fun k hk' => Nat.lt_of_lt_of_le (h.lt k hk') hb.size, Boxed.below h.box hb hS, h.own, h.nodup, h.behind, fun D hD' => (hb.block D (hD D hD')).trans (h.mark D hD'), h.free⟩
theorem Marked.more {J : (Nat → Prop) → Nat → World → Prop} {S j D : Nat} {t : TypeId} {v : Value} {ds : List Nat} {O : Nat → Prop} {wr : World} (h : Marked J S t v j ds O wr) (hD : ∀ E ∈ ds, E < D) (hS : S < D) (hK : wr.heap[D]? = some (.deferred (some []))) (hn : ¬ O D) : Marked J S t v j (D :: ds) O wr :=
  ⟨h.inv, h.lt, h.box, h.own, List.nodup_cons.2 ⟨fun e => by have := hD D e; omega, h.nodup⟩, fun E hE => (List.mem_cons.1 hE).elim (fun e => e ▸ hS) (h.behind E), fun E hE => (List.mem_cons.1 hE).elim (fun e => e ▸ hK) (h.mark E),
   fun E hE => (List.mem_cons.1 hE).elim (fun e => e ▸ hn) (h.free E)⟩
/-- At the end all marks are taken. -/
theorem Marked.leaves {F : Fence} {n : Nat} {P : Program} {fn : Func} {tmps : Array Value} {R : Ending → World → Prop} {J : (Nat → Prop) → Nat → World → Prop} {S j : Nat} {t : TypeId} {v : Value} {ds : List Nat} {O : Nat → Prop} {wr : World} (h : Marked J S t v j ds O wr) (hJ : Stab S J)
    (hG : ∀ w, J O j w → wr.heap.size ≤ w.heap.size → (∀ k, O k → k < w.heap.size) → LeavesInM F n P fn tmps R [] .returning w) : LeavesInM F n P fn tmps R (ds.map markOf) .returning wr :=
  leaves_marks (fun w => J O j w ∧ wr.heap.size ≤ w.heap.size ∧ ∀ k, O k → k < w.heap.size) (fun w hw => hG w hw.1 hw.2.1 hw.2.2) ds wr h.nodup h.mark
    (fun w D hD hw => ⟨hJ.putObj hw.1 (Nat.le_of_lt (h.behind D hD)) (h.free D hD) _, by simpa using hw.2.1, fun k hk => by simpa using hw.2.2 k hk⟩) ⟨h.inv, Nat.le_refl _, h.lt⟩

/-- The table, at a box. -/
def TbAt (Bt B base cap : Nat) (c : Cfg) (ks : List Nat) (p : Option Addr) (W : World) : Prop := Tabs W ∧ TbIs W B base c ks p cap ∧ W.cell? ⟨Bt, 0, none⟩ = some (.pointer (some ⟨B, 0, none⟩))

set_option maxRecDepth 100000 in
set_option maxHeartbeats 4000000 in
theorem all1_told (m Bt B base cap : Nat) (c : Cfg) (ks : List Nat) (p : Option Addr) (w : World) (hR : rightB c.b c.wd c.m c.r c.ce c.lg c.st = true) (hk : (ks.length : Int) ≤ c.b) :
    SeqTold Fence.wide m Tryd.prog 81 #[.pointer (some ⟨Bt, 0, none⟩)] (allP c ks ks.length).length (fun j => #[.int .i64 (valA c ks j)]) (TbAt Bt B base cap c ks p) w := by
  refine SeqTold.any (n := 6) ?_
  intro l J Jx W hW hJ hJx hT hY h0
  obtain ⟨O0, hj0, hO0⟩ := h0
  obtain ⟨hTab, hTW, cBt⟩ := hT _ _ _ hj0
  have lBt := World.block_lt_of_cell? W _ cBt
  simp only at lBt
  have lB := hTW.ltB
  have cv := hTW.cv
  have hl := hTW.len
  have HJ := Lib.hid hJ
  have HJX := Lib.hid hJx
  have HTT := Lib.hid hT
  have HY := Lib.hid hY
  have HO := Lib.hid hO0
  have HJ0 := Lib.hid hj0
  clear hTW hTab hW hJ hJx hT hY hO0 hj0
  refine callsIn_of_wp_marks Tryd.func81 rfl trivial ?_ rfl
  simp only [Tryd.ntmps81, List.size_toArray, List.length_cons, List.length_nil, Nat.reduceAdd, Nat.reduceSub, Array.replicate_succ, Array.replicate_zero, List.push_toArray, List.append_toArray, List.nil_append, List.cons_append]
  gi_wp2
  refine wpIn_scope ?_
  gi_wp2
  refine wpIn_label ?_
  gi_wp2
  generalize hX : World.alloc _ _ = X
  have bX : Below W.heap.size W X := by rw [← hX]; exact (Below.refl _ _).alloc (Nat.le_refl _) _
  have xY : Boxed X W.heap.size 34 (.func (.yield l) #[] #[]) := by rw [← hX]; exact Boxed.new _ _ _
  have hm0 : Marked J W.heap.size 34 (.func (.yield l) #[] #[]) 0 [] O0 X :=
    ⟨HJ.out.alloc HJ0.out HO.out (Nat.le_refl _) bX, fun k hk => Nat.lt_of_lt_of_le (HO.out k hk) bX.size, xY, fun e => by have := HO.out _ e; omega, List.nodup_nil, by simp, by simp, by simp⟩
  clear hX bX xY
  refine wpIn_loop (fun a wr => ∃ (b : Nat) (ds : List Nat) (O : Nat → Prop) (u3 u4 u13 u14 u15 u16 u17 u18 u19 u20 u21 u22 u23 : Value), a = ({ tmps := #[.func (.yield l) #[] #[], .pointer (some ⟨Bt, 0, none⟩), .pointer (some ⟨W.heap.size, 0, none⟩), u3, u4, .pointer (some ⟨B, 0, none⟩), .bool false, .pointer (some ⟨B, 0, none⟩), .pointer (some ⟨B, 0, none⟩), .pointer (some ⟨B, 7, none⟩), .slice p ks.length cap, .int .i64 ks.length, .int .i64 (b : Int), u13, u14, u15, u16, u17, u18, u19, u20, u21, u22, u23], defers := ds.map markOf } : Act) ∧ b ≤ ks.length ∧ Marked J W.heap.size 34 (.func (.yield l) #[] #[]) (allP c ks b).length ds O wr)
    (fun a _ => ks.length - (intOf (a.tmps.getD 12 undef)).toNat) ⟨0, [], O0, _, _, _, _, _, _, _, _, _, _, _, _, _, rfl, Nat.zero_le _, hm0⟩ ?_
  rintro a wr ⟨b, ds, O, u3, u4, u13, u14, u15, u16, u17, u18, u19, u20, u21, u22, u23, rfl, hb, hm⟩
  have HM := Lib.hid hm
  obtain ⟨hTab, hTb, cBt'⟩ := HTT.out _ _ _ hm.inv
  have kY := hm.box.cell
  have hsW := hm.box.lt
  clear hm hm0
  by_cases hlt : b < ks.length
  · obtain ⟨Z, hZ, bZ, z0, z1, hsZ⟩ := two_new (w := wr) (q := some ⟨B, 0, none⟩) (b := (b : Int))
    gi_wp2_with (refine ⟨trivial, ?_⟩; gi_at_call 45; refine (callsIn_wide.2 (slots_fn _ _ _)).mono ?_; rintro e w'' ⟨rfl, rfl⟩; rw [hZ])
    have hk4 : kAt ks b < 4 := hTb.kLt b
    have hmZ := HM.out.later HJ.out bZ
    have HTS := Lib.hid (slots1_told 5 wr.heap.size (wr.heap.size + 1) B base cap b (perN c (kAt ks b)) c ks p Z (hTb.later bZ) hR hlt (by omega) (perN_eq c _) (perN_pos hR hk4) z0 z1 (hTab.later bZ))
    have HMZ := Lib.hid hmZ
    have hDZ : ∀ D ∈ ds, D < Z.heap.size := fun D hD => by have := (Array.getElem?_eq_some_iff.1 (HM.out.mark D hD)).1; omega
    clear hmZ hZ z0 z1 hTb hTab cBt' kY
    refine wpIn_rangeFunc_told rfl (by decide) (gf := 75) (lb := #[.pointer (some ⟨wr.heap.size, 0, none⟩), .pointer (some ⟨wr.heap.size + 1, 0, none⟩)]) rfl trivial (enters_of Tryd.func75 (by kernel_rfl) rfl)
      HTS.out (Below.refl _ _) (fun _ => rfl)
      (fun O i Y => Marked J W.heap.size 34 (.func (.yield l) #[] #[]) ((allP c ks b).length + i) ds O Y)
      (fun cc O i Y => cc = .exit 0 ∧ Marked Jx W.heap.size 34 (.func (.yield l) #[] #[]) ((allP c ks b).length + i) ds O Y)
      ?hI ?hIx ?hT ?h0
      (fun i => { tmps := #[.func (.yield l) #[] #[], .pointer (some ⟨Bt, 0, none⟩), .pointer (some ⟨W.heap.size, 0, none⟩), .int .i64 (b : Int), .int .i64 (adr c (kAt ks b) b i), .pointer (some ⟨B, 0, none⟩), .bool false, .pointer (some ⟨B, 0, none⟩), .pointer (some ⟨B, 0, none⟩), .pointer (some ⟨B, 7, none⟩), .slice p ks.length cap, .int .i64 ks.length, .int .i64 (b : Int), .bool true, .int .i64 (b : Int), .pointer (some ⟨B, 0, none⟩), .int .i64 (b : Int), .func (.func 75) #[] #[.pointer (some ⟨wr.heap.size, 0, none⟩), .pointer (some ⟨wr.heap.size + 1, 0, none⟩)], .int .i64 (adr c (kAt ks b) b i), u19, u20, u21, u22, u23], defers := [] }) ?assign ?body ?done ?stop
    case hI => exact fun O i X' Y h hb hk => h.stab HJ.out (by omega) hDZ hb hk
    case hIx => exact fun cc O i X' Y h hb hk => ⟨h.1, h.2.stab HJX.out (by omega) hDZ hb hk⟩
    case hT => exact fun O i Y h => (HTT.out _ _ _ h.inv).1.siz
    case h0 => exact ⟨O, HMZ.out, HMZ.out.lt⟩
    case assign =>
      intro l' i Y K hi hK
      gi_wp2
      exact hK
    case body =>
      rintro l' O' i Y _ _ hi h hltY hsY
      have kY := h.box.cell
      have hat := valA_at c ks hlt hi
      obtain ⟨fn, tmps, asg, bdy, hy, hR'⟩ := yieldAt_any (m := 3) (HY.out O' _ Y (offs_lt c ks hlt hi) h.inv h.lt (by omega))
      rw [hat] at hy
      have H := Lib.hid h
      clear h
      gi_wp2
      refine RoundIn.mono (F := Fence.wide.inRound l') hR' ?_
      rintro e Y' ⟨O'', ht, (⟨rfl, hj⟩ | ⟨rfl, hj⟩)⟩
      all_goals
        have HX := Lib.hid (And.intro ht hj)
        clear ht hj hy hR' hat
        gi_wp2
      · exact ⟨O'', HX.out.1.mono (by omega), H.out.turn HX.out.2 HX.out.1⟩
      · exact ⟨O'', HX.out.1.mono (by omega), rfl, H.out.turn HX.out.2 HX.out.1⟩
    case done =>
      rintro D O' Y hD h hn _ hK
      have hm2 := h.more (fun E hE => by have := hDZ E hE; omega) (by omega) hK hn
      have hlen : (allP c ks b).length + perN c (kAt ks b) = (allP c ks (b + 1)).length := by rw [allP_succ, List.length_append, seg_length]
      rw [hlen] at hm2
      have H := Lib.hid hm2
      clear hm2 h hlen
      gi_wp2
      refine ⟨⟨b + 1, D :: ds, O', _, _, _, _, _, _, _, _, _, _, _, _, _, rfl, hlt, H.out⟩, ?_⟩
      simp [intOf]
      omega
    case stop =>
      rintro D cc O' i Y hD hi ⟨rfl, h⟩ hn _ hK
      have hm2 := h.more (fun E hE => by have := hDZ E hE; omega) (by omega) hK hn
      have H := Lib.hid hm2
      have hoff := offs_lt c ks hlt hi
      clear hm2 h
      gi_wp2
      exact H.out.leaves HJX.out (fun w hj hs hlt => ⟨_, results_none rfl _ _ _, ⟨_, rfl⟩, O', hlt, by have := H.out.box.lt; omega, .inr ⟨_, hoff, hj⟩⟩)
  · gi_wp2
    obtain rfl : b = ks.length := by omega
    exact HM.out.leaves HJ.out (fun w hj hs hlt => ⟨_, results_none rfl _ _ _, ⟨_, rfl⟩, O, hlt, by omega, .inl hj⟩)
end Go.Proofs.YtfifliepjmpgkaaDoor.Blk
