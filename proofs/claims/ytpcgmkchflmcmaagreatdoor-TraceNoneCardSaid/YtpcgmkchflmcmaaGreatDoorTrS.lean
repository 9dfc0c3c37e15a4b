/-
  Without a heap: nothing is reached, nothing is garbage; the law TraceNone answers true.
-/
import Derived.Test.YtpcgmkchflmcmaaGreatDoorTrQ3
namespace Go.Proofs.YtpcgmkchflmcmaaGreatDoor.Tr
open Go.RowKit Go.Shelf
open Class (below_drewN)
open Blk (Cfg allP kAt cellsF collect_any)
open Bits (SetIs TzTab)
open Hp (is_nil objects_nil)
open Go.Proofs.YtpcgmkchflmcmaaGreatDoor.Row (Chg Rd Rd0 rowB rowB_none cell_of_block frozen_of_block other same cellsZ cellsZ_length cellsZ_at owns_block owns_chg owns_lt owns_base owns_cell owns_slice)
open Go.Proofs.YtpcgmkchflmcmaaGreatDoor.Addr (Tabs)
attribute [local go_sem] Oper.semAt_some

theorem cfg0_nil (w : World) : Calls Tryz.prog 78 #[.pointer none] w fun e w' => e = .returned (.agg #[.int .i64 0, .int .i64 0, .int .i64 0, .int .i64 0, .int .i64 0, .int .i64 0, .int .i64 0]) ∧ Below w.heap.size w w' := by
  go_enter Tryz.func78, Tryz.ntmps78
  go_wp2
  exact bodyPost_ret (v := .agg #[.int .i64 0, .int .i64 0, .int .i64 0, .int .i64 0, .int .i64 0, .int .i64 0, .int .i64 0]) (by simp [results, Tryz.results78, go_sem]) rfl ⟨rfl, (Below.refl _ _).alloc (Nat.le_refl _) _⟩
theorem rightB_zero : rightB 0 0 0 0 0 0 0 = false := by decide
theorem none_nil (w : World) (ht : Tabs w) : Calls Tryz.prog 43 #[.pointer none] w fun e w' => ∃ B G, e = .returned (.pointer (some ⟨B, 0, none⟩)) ∧
    SetIs w' B G 1 1 [0] ∧ w.heap.size ≤ B ∧ w.heap.size ≤ G ∧ B < w'.heap.size ∧ G < w'.heap.size ∧ B ≠ G ∧ Below w.heap.size w w' := by
  have HC := Lib.hid (cfg0_nil w)
  have HW := Lib.hid (fun (W : World) (hb : Below w.heap.size w W) => words_no 0 0 0 0 0 0 0 W (ht.later hb).lim rightB_zero)
  have HN := Lib.hid (fun (W : World) => Bits.new_good 1 W (by omega))
  clear ht
  go_enter Tryz.func43, Tryz.ntmps43
  go_wp2_with (first
    | (go_at_call 78; refine HC.out.mono ?_; rintro e w1 ⟨rfl, hb1⟩)
    | (go_at_call 77; refine (HW.out _ hb1).mono ?_; rintro e w2 ⟨rfl, hb2⟩)
    | (go_at_call 76; refine (HN.out _).mono ?_; rintro e w3 ⟨B, G, rfl, h1, h2, h3, h4, h5, h6, h7⟩))
  go_ret
  exact ⟨B, G, rfl, h1, by have := hb1.size; have := hb2.size; omega, by have := hb1.size; have := hb2.size; omega, h4, h5, h6, (hb1.trans (hb2.mono hb1.size)).trans (h7.mono (by have := hb1.size; have := hb2.size; omega))⟩

theorem met_nil (a : Int) (b1 b2 b3 : Nat) (X : World) (hH : X.cell? ⟨b1, 0, none⟩ = some (.pointer none)) : Calls Tryz.prog 60 #[.int .i64 a, .pointer (some ⟨b1, 0, none⟩), .pointer (some ⟨b2, 0, none⟩), .pointer (some ⟨b3, 0, none⟩)] X fun e w' => (∃ u, e = .returned u) ∧ X = w' := by
  go_enter Tryz.func60, Tryz.ntmps60
  go_wp2_with (go_at_call 39; refine (is_nil _ _).mono ?_; rintro e w' ⟨rfl, rfl⟩)
  go_end0
  exact ⟨⟨_, rfl⟩, rfl⟩
def FoundN (w : World) (e : Ending) (w' : World) : Prop := ∃ B G, e = .returned (.pointer (some ⟨B, 0, none⟩)) ∧ SetIs w' B G 1 1 [0] ∧ w.heap.size ≤ B ∧ w.heap.size ≤ G ∧ B < w'.heap.size ∧ G < w'.heap.size ∧ Below w.heap.size w w'
set_option maxRecDepth 100000 in
set_option maxHeartbeats 2000000 in
theorem reached_nil (a : Int) (g : Nat) (w : World) (ht : Tabs w) (hg : w.cell? ⟨g, 0, none⟩ = some (.int .i64 a)) : Calls Tryz.prog 29 #[.pointer none, .slice (some ⟨g, 0, none⟩) 1 1] w (FoundN w) := by
  have hb0 : Below w.heap.size w (w.alloc (.cells #[.pointer none] 32)) := (Below.refl _ _).alloc (Nat.le_refl _) _
  have HN := Lib.hid (none_nil _ (ht.later hb0))
  have HB0 := Lib.hid hb0
  have hgl : g < w.heap.size := World.block_lt_of_cell? w _ hg
  clear ht hb0
  go_enter Tryz.func29, Tryz.ntmps29
  go_wp2_with (go_at_call 43; refine HN.out.mono ?_; rintro e w1 ⟨B, G, rfl, h1, h2, h3, h4, h5, h6, h7⟩)
  generalize hX : World.alloc _ _ = X
  simp only [World.size_alloc] at h2 h3 h7
  have hbX : Below w1.heap.size w1 X := by rw [← hX]; exact ((Below.refl _ _).alloc (Nat.le_refl _) _).alloc (by simp) _
  have hs1 : w.heap.size + 1 ≤ w1.heap.size := by have := h7.size; simpa using this
  have cO : X.cell? ⟨w1.heap.size + 1, 0, none⟩ = some (.slice none 0 0) := by rw [← hX]; exact World.cell?_alloc_at _ _ _ _ (by simp)
  have cF : X.cell? ⟨w1.heap.size, 0, none⟩ = some (.pointer (some ⟨B, 0, none⟩)) := by rw [← hX]; exact ((Boxed.new w1 _ _).alloc _).cell
  have cH : X.cell? ⟨w.heap.size, 0, none⟩ = some (.pointer none) := by
    refine (hbX.cell (p := ⟨w.heap.size, 0, none⟩) (show w.heap.size < w1.heap.size by omega)).trans ((h7.cell (p := ⟨w.heap.size, 0, none⟩) (show w.heap.size < w.heap.size + 1 by omega)).trans ?_)
    exact World.cell?_alloc_at _ _ _ _ rfl
  have cA : X.cell? ⟨g, 0, none⟩ = some (.int .i64 a) := by
    refine (hbX.cell (p := ⟨g, 0, none⟩) (show g < w1.heap.size by omega)).trans ((h7.cell (p := ⟨g, 0, none⟩) (show g < w.heap.size + 1 by omega)).trans ?_)
    exact (World.cell?_alloc_past _ _ _ (by exact hgl)).trans hg
  have HS := Lib.hid (show SetIs X B G 1 1 [0] ∧ w.heap.size ≤ B ∧ w.heap.size ≤ G ∧ B < X.heap.size ∧ G < X.heap.size ∧ Below w.heap.size w X from
    ⟨h1.below hbX h4 h5, by omega, by omega, Nat.lt_of_lt_of_le h4 hbX.size, Nat.lt_of_lt_of_le h5 hbX.size, (HB0.out.trans (h7.mono (by omega))).trans (hbX.mono (by omega))⟩)
  clear hX h1 h2 h3 h4 h5 h6 h7 hbX HN HB0 hs1
  go_loopw [17] (fun x wr => ∃ i : Nat, i ≤ 1 ∧ x = .int .i64 (i : Int) ∧ X = wr) (fun x _ => 1 - (intOf x).toNat)
  case atStart => exact ⟨0, by omega, rfl, rfl⟩
  case round =>
    obtain ⟨i, hi, rfl, rfl⟩ := hrel
    match i, hi with
    | 0, _ =>
      have HM := Lib.hid (met_nil a w.heap.size w1.heap.size (w1.heap.size + 1) X cH)
      go_wp2_with (refine HM.out.mono ?_; rintro e w' ⟨⟨u, rfl⟩, rfl⟩)
      go_roundw
      case rel => exact ⟨1, by omega, by go_num, trivial⟩
      case measure => simp [intOf]
    | 1, _ =>
      go_wp2
      go_loopg [11] 0 (fun _ _ wr => X = wr)
      case atStart => rfl
      case round =>
        subst hrel
        go_wp2
        go_ret
        exact ⟨B, G, rfl, HS.out⟩

theorem elems_none : elems [0] 1 = [] := by decide
set_option maxRecDepth 100000 in
set_option maxHeartbeats 2000000 in
theorem reach_nil (a : Int) (w : World) (ht : Tabs w) (hz : TzTab w) (hvb : vB ≤ w.heap.size) : Calls Tryz.prog 13 #[.pointer none, .slice (some ⟨w.heap.size, 0, none⟩) 1 1] (w.alloc (.cells #[.int .i64 a] 3)) fun e w' => ∃ p cap, e = .returned (.slice p 0 cap) ∧ Below w.heap.size w w' := by
  have HR := Lib.hid (reached_nil a w.heap.size (w.alloc (.cells #[.int .i64 a] 3)) (ht.later ((Below.refl _ _).alloc (Nat.le_refl _) _)) (by simp))
  have HC := Lib.hid (show ∀ (w1 : World) (B G : Nat), SetIs w1 B G 1 1 [0] → w.heap.size ≤ B → w.heap.size ≤ G → B < w1.heap.size → G < w1.heap.size → Below w.heap.size w w1 →
      Calls Tryz.prog 28 #[.func (.func 63) #[] #[.pointer (some ⟨w1.heap.size, 0, none⟩)]] (w1.alloc (.cells #[.pointer (some ⟨B, 0, none⟩)] 69)) fun e w' => ∃ p cap, e = .returned (.slice p 0 cap) ∧ Below w.heap.size w w' from fun w1 B G hs h1 h2 h3 h4 hb1 => by
    have hb : Below w1.heap.size w1 (w1.alloc (.cells #[.pointer (some ⟨B, 0, none⟩)] 69)) := (Below.refl _ _).alloc (Nat.le_refl _) _
    have hsz := hb1.size
    have htz := tz_vb hz ((hb1.mono hvb).trans (hb.mono (by omega)))
    refine (collect_any 63 #[.pointer (some ⟨w1.heap.size, 0, none⟩)] (elems [0] 1).length (fun i => (((elems [0] 1).getD i 0 : Nat) : Int)) (fun W => Below _ _ W) _ (by rw [elems_none]; exact Nat.zero_le _) (enters_of Tryz.func63 (by kernel_rfl) rfl)
      (Bits.all1_told 4 w1.heap.size B G 1 1 [0] _ _ (hs.below hb h3 h4) htz (by simp) (by rw [World.size_alloc]; omega) (by rw [World.size_alloc]; omega) (by rw [World.size_alloc]; unfold vB at hvb; omega)) (fun _ h => h)).mono ?_
    rintro e w' ⟨p, cap, rfl, _, hb2⟩
    rw [elems_none]
    exact ⟨p, cap, rfl, (hb1.trans (hb.mono hsz)).trans (hb2.mono (by rw [World.size_alloc]; omega))⟩)
  clear ht hz
  go_enter Tryz.func13, Tryz.ntmps13
  go_wp2_with (first
    | (go_at_call 29; refine HR.out.mono ?_; rintro e w1 ⟨B, G, rfl, h1, h2, h3, h4, h5, h6⟩; have HCC := Lib.hid (HC.out w1 B G h1 (by simp at h2; omega) (by simp at h3; omega) h4 h5 (((Below.refl w.heap.size w).alloc (Nat.le_refl _) _).trans (h6.mono (by simp)))); clear h1 h2 h3 h4 h5 h6)
    | go_enter Tryz.func30, Tryz.ntmps30
    | (go_at_call 28; refine HCC.out.mono ?_; rintro e w2 ⟨p, cap, rfl, hb⟩))
  go_ret
  exact ⟨p, cap, rfl, hb⟩
set_option maxRecDepth 100000 in
set_option maxHeartbeats 2000000 in
theorem delete_empty {pf : Nat} {bs : Array Value} {P : Int → Bool} {K : World → Prop} (hL : Looks pf bs P K) (p : Option Addr) (cap : Nat) (w : World) (hk : K w) :
    Calls Tryz.prog 31 #[.slice p 0 cap, .func (.func pf) bs #[]] w fun e w' => e = .returned (.slice p 0 cap) ∧ ∃ q, w' = w.drewN q := by
  have HI := Lib.hid (index_any hL p cap [] w hk (fun j hj => by cases hj) (by simp))
  clear hL hk
  go_enter Tryz.func31, Tryz.ntmps31
  go_wp2_with fail
  refine HI.out.mono ?_
  rintro e w1 ⟨⟨q, rfl⟩, ⟨rfl, _⟩ | ⟨j, hj, _⟩⟩
  · go_wp2
    go_ret
    exact ⟨rfl, q, rfl⟩
  · cases hj
set_option maxRecDepth 100000 in
set_option maxHeartbeats 2000000 in
theorem garbage_nil (a : Int) (g : Nat) (w : World) (ht : Tabs w) (hg : w.cell? ⟨g, 0, none⟩ = some (.int .i64 a)) : Calls Tryz.prog 15 #[.pointer none, .slice (some ⟨g, 0, none⟩) 1 1] w fun e w' => ∃ p cap, e = .returned (.slice p 0 cap) ∧ Below w.heap.size w w' := by
  have HO := Lib.hid (objects_nil w)
  have hgl : g < w.heap.size := World.block_lt_of_cell? w _ hg
  have HR := Lib.hid (show ∀ w1, Below w.heap.size w w1 → Calls Tryz.prog 29 #[.pointer none, .slice (some ⟨g, 0, none⟩) 1 1] w1 (FoundN w1) from fun w1 hb => reached_nil a g w1 (ht.later hb) ((hb.cell (p := ⟨g, 0, none⟩) hgl).trans hg))
  clear ht hg
  go_enter Tryz.func15, Tryz.ntmps15
  go_wp2_with (first
    | (go_at_call 21; refine HO.out.mono ?_; rintro e w1 ⟨p, cap, rfl, hb1⟩)
    | (go_at_call 29; refine (HR.out w1 hb1).mono ?_; rintro e w2 ⟨B, G, rfl, h1, h2, h3, h4, h5, h6⟩; have HB2 := Lib.hid (hb1.trans (h6.mono hb1.size)); have HDD := Lib.hid (delete_empty (looks_has B G 1 1 [0]) p cap w2 h1); clear h1 h2 h3 h4 h5 h6)
    | (go_at_call 31; refine HDD.out.mono ?_; rintro e w3 ⟨rfl, q, rfl⟩))
  go_ret
  exact ⟨p, cap, rfl, below_drewN HB2.out q⟩
set_option maxRecDepth 100000 in
set_option maxHeartbeats 2000000 in
theorem reaches_nil (a b : Int) (w : World) (ht : Tabs w) : Calls Tryz.prog 17 #[.pointer none, .int .i64 a, .int .i64 b] w fun e w' => e = .returned (.bool false) ∧ Below w.heap.size w w' := by
  have HR := Lib.hid (reached_nil a w.heap.size (w.alloc (.cells #[.int .i64 a] 3)) (ht.later ((Below.refl _ _).alloc (Nat.le_refl _) _)) (by simp))
  have hn : ∀ b : Int, (Bits.mayB b (1 : Nat) && hasB [0] b.toNat) = false := fun b => by
    have h1 : hasB [0] b.toNat = false := by
      have := hasB_zero 1 b.toNat
      exact this
    rw [h1, Bool.and_false]
  have HB := Lib.hid (hn b)
  clear ht hn
  go_enter Tryz.func17, Tryz.ntmps17
  go_wp2_with (first
    | (go_at_call 29; refine HR.out.mono ?_; rintro e w2 ⟨B, G, rfl, h1, h2, h3, h4, h5, h6⟩; have HS := Lib.hid (And.intro h1 (((Below.refl w.heap.size w).alloc (Nat.le_refl _) (.cells #[.int .i64 a] 3)).trans (h6.mono (by simp)))); clear h1 h2 h3 h4 h5 h6)
    | (go_at_call 32; refine (Bits.has_any B G 1 1 [0] b _ HS.out.1).mono ?_; rintro e w3 ⟨rfl, q, rfl⟩; rw [HB.out]))
  go_ret
  exact ⟨rfl, below_drewN HS.out.2 q⟩
theorem mark_nil (c r : Int) (p : Option Addr) (n k : Nat) (w : World) : Calls Tryz.prog 22 #[.pointer none, .int .i64 c, .int .i64 r, .slice p n k] w fun e w' => e = .returned (.tuple #[.int .i64 0, .int .i64 0, .int .i64 11]) ∧ Below w.heap.size w w' := by
  go_enter Tryz.func22, Tryz.ntmps22
  go_wp2
  go_ret3
  exact ⟨rfl, Below.refl _ _⟩
theorem fields_nil (a : Int) (w : World) : Calls Tryz.prog 34 #[.pointer none, .int .i64 a] w fun e w' => e = .returned (.slice none 0 0) ∧ w = w' := by
  go_enter Tryz.func34, Tryz.ntmps34
  go_wp2_with (go_at_call 39; refine (is_nil _ _).mono ?_; rintro e w' ⟨rfl, rfl⟩)
  go_ret
  exact ⟨rfl, rfl⟩

set_option maxRecDepth 100000 in
set_option maxHeartbeats 2000000 in
theorem edges1_nil (m Bh Ba : Nat) (a : Int) (T : World → Prop) (w : World) (hBh : w.cell? ⟨Bh, 0, none⟩ = some (.pointer none)) (hBa : w.cell? ⟨Ba, 0, none⟩ = some (.int .i64 a)) :
    SeqTold Fence.wide m Tryz.prog 33 #[.pointer (some ⟨Bh, 0, none⟩), .pointer (some ⟨Ba, 0, none⟩)] 0 (fun _ => #[.int .i64 0, .int .i64 0]) T w := by
  refine SeqTold.any (n := 4) ?_
  intro l J Jx W hW hJ hJx hT hY h0
  obtain ⟨O0, hj0, hO0⟩ := h0
  have cH : W.cell? ⟨Bh, 0, none⟩ = some (.pointer none) := (hW.cell (p := ⟨Bh, 0, none⟩) (World.block_lt_of_cell? w _ hBh)).trans hBh
  have cA : W.cell? ⟨Ba, 0, none⟩ = some (.int .i64 a) := (hW.cell (p := ⟨Ba, 0, none⟩) (World.block_lt_of_cell? w _ hBa)).trans hBa
  have HJ := Lib.hid (And.intro hj0 hO0)
  clear hJ hJx hT hY hW hj0 hO0 hBh hBa
  refine callsIn_of_wp Tryz.func33 rfl trivial ?_ rfl
  simp only [Tryz.ntmps33, List.size_toArray, List.length_cons, List.length_nil, Nat.reduceAdd, Nat.reduceSub, Array.replicate_succ, Array.replicate_zero, List.push_toArray, List.append_toArray, List.nil_append, List.cons_append]
  gi_wp2_with (refine ⟨trivial, ?_⟩; gi_at_call 34; refine (callsIn_wide.2 (fields_nil _ _)).mono ?_; rintro e w' ⟨rfl, rfl⟩)
  gi_loopw [10] (fun x wr => x = .int .i64 0 ∧ W = wr) (fun _ _ => 0)
  case atStart => exact ⟨rfl, rfl⟩
  case round =>
    obtain ⟨rfl, rfl⟩ := hrel
    gi_wp2
    go_end0
    exact ⟨⟨_, rfl⟩, O0, HJ.out.2, Nat.le_refl _, .inl HJ.out.1⟩

theorem eql_func2_nil (f : Fn) (xs ys : Array Value) (w : World) : (binOp .eql 44 (.func f xs ys) .nilFunc).run Tryz.prog w = .ok (.bool false) w := by
  have hu := Tryz.underlying44
  have h : ∀ d : Nat, (Op.equalIn (d + 1) 44 (.func f xs ys) .nilFunc).run Tryz.prog w = .ok false w := fun d => by
    simp [Op.equalIn, run_underlying hu]
  simp only [binOp]
  simp [Op.equal, Op.maxDepth, h 9999]
set_option maxRecDepth 100000 in
set_option maxHeartbeats 4000000 in
theorem none_walk (c r a : Int) (w : World) (ht : Tabs w) (hz : TzTab w) (hvb : vB ≤ w.heap.size) :
    Calls Tryz.prog 5 #[.int .i64 c, .int .i64 r, .int .i64 a] w fun e w' => e = .returned (.bool true) ∧ Below w.heap.size w w' := by
  have HT := Lib.hid ht
  have HZ := Lib.hid hz
  have htz : ∀ W : World, Below w.heap.size w W → TzTab W := fun W hb => hz.below hb (by unfold vB at hvb; omega)
  have HTZ := Lib.hid htz
  clear ht hz htz
  refine (callsIn_wide (n := 8)).1 ?_
  refine callsIn_of_wp_marks Tryz.func5 rfl trivial ?_ rfl
  simp only [Tryz.ntmps5, List.size_toArray, List.length_cons, List.length_nil, Nat.reduceAdd, Nat.reduceSub, Array.replicate_succ, Array.replicate_zero, List.push_toArray, List.append_toArray, List.nil_append, List.cons_append]
  have hqf := eql_func2_nil
  gi_wp2_with (first
    | (refine ⟨trivial, ?_⟩; gi_at_call 22; refine (callsIn_wide.2 (mark_nil _ _ _ _ _ _)).mono ?_; rintro e w1 ⟨rfl, hb1⟩)
    | (refine ⟨trivial, ?_⟩; gi_at_call 19; refine (callsIn_wide.2 (edges_any _ _ _)).mono ?_; rintro e w'' ⟨rfl, rfl⟩))
  generalize hX : World.alloc _ _ = X
  have hb1' : Below (w.heap.size + 1 + 1) ((w.alloc (.cells #[.bool false] 4)).alloc (.cells #[.int .i64 a] 3)) w1 := by simpa using hb1
  have hs1 : w.heap.size + 2 ≤ w1.heap.size := by have := hb1.size; simpa using this
  have bX1 : Below w1.heap.size w1 X := by rw [← hX]; exact ((Below.refl _ _).alloc (Nat.le_refl _) _).alloc (by simp) _
  have hsX : X.heap.size = w1.heap.size + 2 := by rw [← hX]; simp
  have xr : Boxed X w.heap.size 4 (.bool false) := Boxed.below (Boxed.below ((Boxed.new w _ _).alloc _) hb1' (by omega)) bX1 (by omega)
  have xh : X.cell? ⟨w1.heap.size, 0, none⟩ = some (.pointer none) := by rw [← hX]; exact ((Boxed.new w1 _ _).alloc _).cell
  have xa : X.cell? ⟨w1.heap.size + 1, 0, none⟩ = some (.int .i64 a) := by rw [← hX]; exact World.cell?_alloc_at _ _ _ _ (by simp)
  have bX : Below w.heap.size w X := ((((Below.refl _ w).alloc (Nat.le_refl _) _).alloc (by simp) _).trans (hb1'.mono (by omega))).trans (bX1.mono (by omega))
  have HX := Lib.hid (And.intro bX xr)
  clear hX hb1 hb1' bX1 bX xr
  refine wpIn_rangeFunc_told rfl (by decide) (gf := 33) (lb := #[.pointer (some ⟨w1.heap.size, 0, none⟩), .pointer (some ⟨w1.heap.size + 1, 0, none⟩)]) rfl trivial (enters_of Tryz.func33 (by kernel_rfl) rfl) (edges1_nil 7 w1.heap.size (w1.heap.size + 1) a (fun _ => True) X xh xa) (Below.refl _ _) (fun _ => rfl)
    (fun O i Y => (∀ k, ¬ O k) ∧ Below X.heap.size X Y) (fun _ _ _ _ => False) ?hI (fun _ _ _ _ _ h => h.elim) (fun _ _ _ _ => trivial) ⟨fun _ => False, ⟨fun _ h => h, Below.refl _ _⟩, fun _ h => h.elim⟩
    (fun i => { tmps := #[], defers := [] }) (fun _ _ _ _ hi => absurd hi (Nat.not_lt_zero _)) (fun _ _ _ _ _ _ hi => absurd hi (Nat.not_lt_zero _)) ?done (fun _ _ _ _ _ _ _ h => h.elim)
  case hI =>
    rintro O i X' Y ⟨h1, h2⟩ hb hk
    exact ⟨h1, h2.trans hb⟩
  case done =>
    rintro D O Y hD ⟨_, hbY⟩ _ _ hK
    have HK := Lib.hid hK
    have HBY := Lib.hid (HX.out.1.trans (hbY.mono HX.out.1.size))
    have HRY := Lib.hid (Boxed.below HX.out.2 hbY HX.out.2.lt)
    have hDl : D < Y.heap.size := (Array.getElem?_eq_some_iff.1 hK).1
    have HR1 := Lib.hid (reach_nil a Y (HT.out.later HBY.out) (HTZ.out _ HBY.out) (Nat.le_trans hvb HBY.out.size))
    clear hbY hK xh xa HX
    gi_wp2_with (refine ⟨trivial, ?_⟩; gi_at_call 13; refine (callsIn_wide.2 HR1.out).mono ?_; rintro e w3 ⟨p3, c3, rfl, hb3⟩)
    have HB3 := Lib.hid (show Below w.heap.size w w3 from HBY.out.trans (hb3.mono HBY.out.size))
    have HYB3 := Lib.hid hb3
    have HG3 := Lib.hid (garbage_nil a w3.heap.size (w3.alloc (.cells #[.int .i64 a] 3)) (HT.out.later (HB3.out.trans ((Below.refl _ _).alloc HB3.out.size _))) (by simp))
    clear hb3 HR1
    gi_wp2_with (refine ⟨trivial, ?_⟩; gi_at_call 15; refine (callsIn_wide.2 HG3.out).mono ?_; rintro e w4 ⟨p4, c4, rfl, hb4⟩; rw [World.size_alloc] at hb4)
    have hb4' : Below w3.heap.size w3 w4 := ((Below.refl _ _).alloc (Nat.le_refl _) _).trans (hb4.mono (Nat.le_succ _))
    have HB4 := Lib.hid (show Below w.heap.size w w4 from HB3.out.trans (hb4'.mono HB3.out.size))
    have HYB4 := Lib.hid (show Below Y.heap.size Y w4 from HYB3.out.trans (hb4'.mono HYB3.out.size))
    have HR4 := Lib.hid (reaches_nil a a w4 (HT.out.later HB4.out))
    clear hb4 hb4' HG3 HYB3 HB3
    gi_wp2_with (refine ⟨trivial, ?_⟩; gi_at_call 17; refine (callsIn_wide.2 HR4.out).mono ?_; rintro e w5 ⟨rfl, hb5⟩)
    have HB5 := Lib.hid (show Below w.heap.size w w5 from HB4.out.trans (hb5.mono HB4.out.size))
    have HYB5 := Lib.hid (show Below Y.heap.size Y w5 from HYB4.out.trans (hb5.mono HYB4.out.size))
    have HA5 := Lib.hid (awake_any w5 (HT.out.later HB5.out) (HTZ.out _ HB5.out) (Nat.le_trans hvb HB5.out.size))
    clear hb5 HR4 HYB4 HB4
    gi_wp2_with (refine ⟨trivial, ?_⟩; gi_at_call 9; refine (callsIn_wide.2 HA5.out).mono ?_; rintro e w6 ⟨rfl, hb6⟩; have hr6 := Boxed.below HRY.out (HYB5.out.trans (hb6.mono HYB5.out.size)) HRY.out.lt; have hc6 := hr6.cell; have hf6 := hr6.frozen)
    have hDne : D ≠ w.heap.size := by omega
    have hD7 : (w6.setCell ⟨w.heap.size, 0, none⟩ (.bool true)).heap[D]? = some (.deferred (some [])) := (Below.heap_setCell _ _ _ _ (by exact hDne)).trans (((HYB5.out.trans (hb6.mono HYB5.out.size)).block D hDl).trans HK.out)
    have hr7 : ((w6.setCell ⟨w.heap.size, 0, none⟩ (.bool true)).putObj D (.deferred none)).cell? ⟨w.heap.size, 0, none⟩ = some (.bool true) := (World.cell?_of_block (World.putObj_heap_other (Ne.symm hDne))).trans (same hc6)
    have hb7 : Below w.heap.size w ((w6.setCell ⟨w.heap.size, 0, none⟩ (.bool true)).putObj D (.deferred none)) := ((HB5.out.trans (hb6.mono HB5.out.size)).setCell (p := ⟨w.heap.size, 0, none⟩) (Nat.le_refl _) _).trans (below_putObj (by omega) _ _)
    refine ⟨by simp, .inl ⟨_, _, rfl, run_takeDeferred hD7, ?_⟩⟩
    refine ⟨.bool true, ?_, rfl, hb7⟩
    simp [results, Tryz.results5, go_sem, hr7]
end Go.Proofs.YtpcgmkchflmcmaaGreatDoor.Tr
