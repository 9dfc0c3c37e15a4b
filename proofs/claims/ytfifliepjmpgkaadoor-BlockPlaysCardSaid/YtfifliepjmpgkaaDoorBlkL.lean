/-
  The law BlockCopies answers true, for every config, class and stop.
-/
import Derived.Test.YtfifliepjmpgkaaDoorBlkJ
namespace Go.Proofs.YtfifliepjmpgkaaDoor.Blk
open Go.RowKit Go.Shelf
open Go.Proofs.YtfifliepjmpgkaaDoor.Addr (Tabs)

/-- A config laid into its box. -/
structure BoxIs (W : World) (S : Nat) (d : Cfg) : Prop where
  b0 : W.cell? ⟨S, 0, none⟩ = some (.int .i64 d.b)
  b1 : W.cell? ⟨S, 1, none⟩ = some (.int .i64 d.wd)
  b2 : W.cell? ⟨S, 2, none⟩ = some (.int .i64 d.m)
  b3 : W.cell? ⟨S, 3, none⟩ = some (.int .i64 d.r)
  b4 : W.cell? ⟨S, 4, none⟩ = some (.int .i64 d.ce)
  b5 : W.cell? ⟨S, 5, none⟩ = some (.int .i64 d.lg)
  b6 : W.cell? ⟨S, 6, none⟩ = some (.int .i64 d.st)
theorem BoxIs.below {n S : Nat} {W W' : World} {d : Cfg} (h : BoxIs W S d) (hb : Below n W W') (hS : S < n) : BoxIs W' S d :=
  ⟨(hb.cell (p := ⟨S, 0, none⟩) hS).trans h.b0, (hb.cell (p := ⟨S, 1, none⟩) hS).trans h.b1, (hb.cell (p := ⟨S, 2, none⟩) hS).trans h.b2, (hb.cell (p := ⟨S, 3, none⟩) hS).trans h.b3, (hb.cell (p := ⟨S, 4, none⟩) hS).trans h.b4, (hb.cell (p := ⟨S, 5, none⟩) hS).trans h.b5, (hb.cell (p := ⟨S, 6, none⟩) hS).trans h.b6⟩
theorem BoxIs.lt {S : Nat} {W : World} {d : Cfg} (h : BoxIs W S d) : S < W.heap.size := World.block_lt_of_cell? W _ h.b0
theorem BoxIs.later {S : Nat} {W W' : World} {d : Cfg} (h : BoxIs W S d) (hb : Below W.heap.size W W') : BoxIs W' S d := h.below hb h.lt
theorem box7 {w w1 W2 : World} {d : Cfg} {a0 a1 a2 a3 a4 a5 a6 : Value} {t : TypeId} (hb : Below (w.heap.size + 1) (w.alloc (.cells #[a0, a1, a2, a3, a4, a5, a6] t)) w1)
    (hW : (((((((w1.setCell ⟨w.heap.size, 0, none⟩ (.int .i64 d.b)).setCell ⟨w.heap.size, 1, none⟩ (.int .i64 d.wd)).setCell ⟨w.heap.size, 2, none⟩ (.int .i64 d.m)).setCell ⟨w.heap.size, 3, none⟩ (.int .i64 d.r)).setCell ⟨w.heap.size, 4, none⟩ (.int .i64 d.ce)).setCell ⟨w.heap.size, 5, none⟩ (.int .i64 d.lg)).setCell ⟨w.heap.size, 6, none⟩ (.int .i64 d.st)) = W2) :
    BoxIs W2 w.heap.size d ∧ Below w.heap.size w W2 := by
  have hblk : w1.heap[w.heap.size]? = some (.cells #[a0, a1, a2, a3, a4, a5, a6] t) := (hb.block w.heap.size (by omega)).trans (World.alloc_heap_new w _)
  have hcell : ∀ j v, (#[a0, a1, a2, a3, a4, a5, a6] : Array Value)[j]? = some v → w1.cell? ⟨w.heap.size, j, none⟩ = some v := fun j v h => by
    unfold World.cell?
    rw [show (⟨w.heap.size, j, none⟩ : Addr).block = w.heap.size from rfl, hblk]
    exact h
  have h0 := hcell 0 _ rfl
  have h1 := hcell 1 _ rfl
  have h2 := hcell 2 _ rfl
  have h3 := hcell 3 _ rfl
  have h4 := hcell 4 _ rfl
  have h5 := hcell 5 _ rfl
  have h6 := hcell 6 _ rfl
  have o : ∀ (W : World) (i j : Nat) (v : Value), i ≠ j → (W.setCell ⟨w.heap.size, i, none⟩ v).cell? ⟨w.heap.size, j, none⟩ = W.cell? ⟨w.heap.size, j, none⟩ := fun W i j v h => other (fun e => h (by injection e))
  subst hW
  refine ⟨⟨?_, ?_, ?_, ?_, ?_, ?_, ?_⟩, ?_⟩
  · rw [o _ 6 0 _ (by decide), o _ 5 0 _ (by decide), o _ 4 0 _ (by decide), o _ 3 0 _ (by decide), o _ 2 0 _ (by decide), o _ 1 0 _ (by decide)]; exact same h0
  · rw [o _ 6 1 _ (by decide), o _ 5 1 _ (by decide), o _ 4 1 _ (by decide), o _ 3 1 _ (by decide), o _ 2 1 _ (by decide)]; exact same (by rw [o _ 0 1 _ (by decide)]; exact h1)
  · rw [o _ 6 2 _ (by decide), o _ 5 2 _ (by decide), o _ 4 2 _ (by decide), o _ 3 2 _ (by decide)]; exact same (by rw [o _ 1 2 _ (by decide), o _ 0 2 _ (by decide)]; exact h2)
  · rw [o _ 6 3 _ (by decide), o _ 5 3 _ (by decide), o _ 4 3 _ (by decide)]; exact same (by rw [o _ 2 3 _ (by decide), o _ 1 3 _ (by decide), o _ 0 3 _ (by decide)]; exact h3)
  · rw [o _ 6 4 _ (by decide), o _ 5 4 _ (by decide)]; exact same (by rw [o _ 3 4 _ (by decide), o _ 2 4 _ (by decide), o _ 1 4 _ (by decide), o _ 0 4 _ (by decide)]; exact h4)
  · rw [o _ 6 5 _ (by decide)]; exact same (by rw [o _ 4 5 _ (by decide), o _ 3 5 _ (by decide), o _ 2 5 _ (by decide), o _ 1 5 _ (by decide), o _ 0 5 _ (by decide)]; exact h5)
  · exact same (by rw [o _ 5 6 _ (by decide), o _ 4 6 _ (by decide), o _ 3 6 _ (by decide), o _ 2 6 _ (by decide), o _ 1 6 _ (by decide), o _ 0 6 _ (by decide)]; exact h6)
  · have hb0 : Below w.heap.size w w1 := ((Below.refl _ w).alloc (Nat.le_refl _) _).trans (hb.mono (by omega))
    exact ((((((hb0.setCell (by simp) _).setCell (by simp) _).setCell (by simp) _).setCell (by simp) _).setCell (by simp) _).setCell (by simp) _).setCell (by simp) _

/-- What is kept of a table that nobody turns. -/
theorem TbIs.chg {S : Nat → Prop} {w w' : World} {B base cap : Nat} {c : Cfg} {ks : List Nat} {p : Option Addr} (h : TbIs w B base c ks p cap) (hc : Chg S w w') (hS : ∀ k, S k → k < base) : TbIs w' B base c ks p cap :=
  h.kept (hc.block B h.ltB (fun e => by have := hS _ e; have := h.base; omega)) (fun g hg => hc.block g (h.ltG hg).2 (fun e => by have := hS _ e; have := (h.ltG hg).1; omega))
theorem little_b (c : Cfg) : 1 ≤ (little c).b ∧ (little c).b ≤ 4 := by
  have h1 := Int.emod_nonneg c.b (show (4 : Int) ≠ 0 by decide)
  have h2 := Int.emod_lt_of_pos c.b (show (0 : Int) < 4 by decide)
  unfold little
  exact ⟨by dsimp only; omega, by dsimp only; omega⟩

theorem assign_goodZ {B base cap : Nat} {c : Cfg} {ks : List Nat} {p : Option Addr} (z : Int) (k : Nat) (hz : z = (k : Int)) (w : World) (h : TbIs w B base c ks p cap) (hk : k < 4) (hf : (ks.length : Int) < c.b) (hcb : c.b ≤ 4096) (hbase : base ≤ w.heap.size) :
    Calls Tryd.prog 14 #[.pointer (some ⟨B, 0, none⟩), .int .i64 z] w fun e w' => e = .returned (.tuple #[.int .i64 ks.length, .int .i64 0]) ∧
      ∃ p' cap', TbIs w' B base c (ks ++ [k]) p' cap' ∧ Chg (fun i => i = B ∨ rowB p i) w w' ∧ ∀ i, rowB p' i → rowB p i ∨ w.heap.size ≤ i := by
  subst hz
  exact assign_good k w h hk hf hcb hbase
/-- Assign, whatever comes of it: another table that lies behind is as it was. -/
theorem assign_some {B base cap : Nat} {c : Cfg} {ks : List Nat} {p : Option Addr} (z : Int) (k : Nat) (hz : z = (k : Int)) (w : World) (h : TbIs w B base c ks p cap) (hk : k < 4) (hl : (ks.length : Int) ≤ c.b) (hcb : c.b ≤ 4096) (hbase : base ≤ w.heap.size) :
    Calls Tryd.prog 14 #[.pointer (some ⟨B, 0, none⟩), .int .i64 z] w fun e w' => (∃ v, e = .returned v) ∧ Chg (fun i => i = B ∨ rowB p i) w w' := by
  subst hz
  by_cases hf : (ks.length : Int) = c.b
  · exact (assign_full k w h (Class.isB_true.2 ⟨by omega, by omega⟩) hf).mono fun e w' ⟨he, n, hw⟩ => ⟨⟨_, he⟩, by rw [hw]; exact (Chg.refl _ _).drewN n⟩
  · exact (assign_good k w h hk (by omega) hcb hbase).mono fun e w' ⟨he, p', cap', h1, h2, h3⟩ => ⟨⟨_, he⟩, h2⟩

theorem list_anyZ {B base cap : Nat} {c : Cfg} {ks : List Nat} {p : Option Addr} (z : Int) (most : Nat) (hz : z = (most : Int)) (w : World) (h : TbIs w B base c ks p cap) (ht : Tabs w) (hR : rightB c.b c.wd c.m c.r c.ce c.lg c.st = true) (hk : (ks.length : Int) ≤ c.b) :
    Calls Tryd.prog 24 #[.pointer (some ⟨B, 0, none⟩), .int .i64 z] w fun e w' => ∃ p cap, e = .returned (.slice p (min (allP c ks ks.length).length most) cap) ∧ Below w.heap.size w w' := by
  subst hz
  exact (list_any most w h ht hR hk).mono fun e w' ⟨p, cap, h1, _, h3⟩ => ⟨p, cap, h1, h3⟩
theorem unK_len (c : Cfg) (ks : List Nat) : (unK c ks).length = c.b.toNat - ks.length := by
  unfold unK
  generalize c.b.toNat = n
  induction n with
  | zero => simp [pick]
  | succ n ih =>
    by_cases h : ks.length ≤ n
    · rw [pick_yes (by simpa using h), List.length_append, ih]; simp; omega
    · rw [pick_no (by simpa using h), ih]; omega

set_option maxRecDepth 100000 in
set_option maxHeartbeats 4000000 in
theorem copies_any (c : Cfg) (k stop : Nat) (hk : k < 256) (hs : stop < 256) (w : World) (ht : Tabs w) :
    Calls Tryd.prog 4 #[(.agg #[.int .i64 c.b, .int .i64 c.wd, .int .i64 c.m, .int .i64 c.r, .int .i64 c.ce, .int .i64 c.lg, .int .i64 c.st]), .int .u8 k, .int .u8 stop] w fun e w' => e = .returned (.bool true) ∧ Below w.heap.size w w' := by
  have HT := Lib.hid ht
  have HR := Lib.hid (little_right c)
  obtain ⟨hb0, hb1⟩ := little_b c
  clear ht
  go_enter Tryd.func4, Tryd.ntmps4
  go_wp2_with fail
  refine (little_any c _).mono ?_
  rintro e w1 ⟨rfl, hb⟩
  have HW := Lib.hid (fun W2 hW => box7 (d := little c) (W2 := W2) (by simpa using hb) hW)
  obtain ⟨hc1, hf1⟩ := bcell hb
  have hz1 : w.heap.size < w1.heap.size := by have := hb.size; simp at this; omega
  clear hb
  generalize hL : little c = d at *
  go_wp2_with fail
  generalize hW : World.setCell _ _ _ = W2
  obtain ⟨hbox, hb2⟩ := HW.out W2 hW
  have HT2 := Lib.hid (HT.out.later hb2)
  have HB2 := Lib.hid hb2
  have HX2 := Lib.hid hbox
  have c0 := hbox.b0
  clear hW HW hc1 hf1 hz1 hb2 hbox
  refine (new_good d _ HT2.out.lim HR.out).mono ?_
  rintro e w3 ⟨B, rfl, h3, hb3⟩
  have HS3 := Lib.hid h3
  have HB3 := Lib.hid hb3
  clear h3 hb3
  go_wp2_with fail
  refine (assign_goodZ _ (k % 4) (by omega) _ HS3.out (Nat.mod_lt _ (by decide)) (by simp; omega) (by omega) HB3.out.size).mono ?_
  rintro e w4 ⟨rfl, p4, cap4, h4, hc4, hr4⟩
  have HS4 := Lib.hid h4
  have HB4 := Lib.hid (HB3.out.trans (hc4.below (fun i hi => hi.elim (fun e => by rw [e]; exact HS3.out.base) (fun e => by cases e)) HB3.out.size))
  clear h4 hc4 hr4
  go_wp2_with fail
  refine (copy_any _ HS4.out).mono ?_
  rintro e w5 ⟨U, p5, cap5, rfl, h5, hb5⟩
  have HU5 := Lib.hid h5
  have HS5 := Lib.hid (HS4.out.later hb5)
  have HB5 := Lib.hid (HB4.out.trans (hb5.mono HB4.out.size))
  have HD := Lib.hid (show ∀ i, (i = B ∨ rowB p4 i) → i < w4.heap.size from fun i hi => hi.elim (fun e => by rw [e]; exact HS4.out.ltB) (fun e => (HS4.out.ltG e).2))
  have hz45 := hb5.size
  clear h5 hb5
  go_wp2_with fail
  refine (list_any 10000 _ HU5.out (HT2.out.later HB5.out) HR.out (by simp; omega)).mono ?_
  rintro e w6 ⟨p6, cap6, rfl, ho6, hb6⟩
  have htot : (allP d ([] ++ [k % 4]) ([] ++ [k % 4] : List Nat).length).length ≤ 128 := by have := allP_len d ([] ++ [k % 4]) ([] ++ [k % 4] : List Nat).length; simpa using this
  have hmin : min (allP d ([] ++ [k % 4]) ([] ++ [k % 4] : List Nat).length).length 10000 = (allP d ([] ++ [k % 4]) ([] ++ [k % 4] : List Nat).length).length := by omega
  rw [hmin]
  have HU6 := Lib.hid (HU5.out.later hb6)
  have HS6 := Lib.hid (HS5.out.later hb6)
  have HB6 := Lib.hid (HB5.out.trans (hb6.mono HB5.out.size))
  have hz56 := hb6.size
  clear hb6 ho6 hmin
  generalize hN : (allP d ([] ++ [k % 4]) ([] ++ [k % 4] : List Nat).length).length = N at *
  go_wp2_with fail
  refine (assign_some _ (k / 4 % 4) (by omega) _ HS6.out (Nat.mod_lt _ (by decide)) (by simp; omega) (by omega) HB6.out.size).mono ?_
  rintro e w7 ⟨⟨v7, rfl⟩, hc7⟩
  have HU7 := Lib.hid (HU6.out.chg hc7 HD.out)
  have HB7 := Lib.hid (HB6.out.trans (hc7.below (fun i hi => hi.elim (fun e => by rw [e]; exact HS6.out.base) (fun e => (HS6.out.ltG e).1)) HB6.out.size))
  clear hc7
  go_wp2_with fail
  have hw7 : w.heap.size < w7.heap.size := Nat.lt_of_lt_of_le HX2.out.lt HB7.out.size
  have c7 := (HX2.out.later HB7.out).b0
  have hwr : IntKind.i64.wrap (stop : Int) = (stop : Int) := IntWalk.i64_in _ (by omega)
  have HL := Lib.hid (fun (W : World) (z : Int) (n : Nat) (hz : z = (n : Int)) (h : Below w7.heap.size w7 W) => list_anyZ z n hz W (HU7.out.later h) (HT2.out.later (HB7.out.trans (h.mono HB7.out.size))) HR.out (by simp; omega))
  have HUN := Lib.hid (fun (W : World) (h : Below w7.heap.size w7 W) => unassigned_any W (HU7.out.later h) (by omega) (by omega))
  have HAW := Lib.hid (fun (W : World) (h : Below w7.heap.size w7 W) => awake_any W (HT2.out.later (HB7.out.trans (h.mono HB7.out.size))))
  have HK := Lib.hid (fun (W : World) (h : Below w7.heap.size w7 W) => (⟨h, (h.cell (p := ⟨w.heap.size, 0, none⟩) hw7).trans c7⟩ : Below w7.heap.size w7 W ∧ W.cell? ⟨w.heap.size, 0, none⟩ = some (.int .i64 d.b)))
  have HK0 := Lib.hid (HK.out _ (below_drew (Below.refl _ w7)))
  have HK2 := Lib.hid (fun (wc W : World) (hb : Below wc.heap.size wc W) (h : Below w7.heap.size w7 wc ∧ wc.cell? ⟨w.heap.size, 0, none⟩ = some (.int .i64 d.b)) => HK.out W (h.1.trans (hb.mono h.1.size)))
  rw [hN] at HL
  have HT10 := Lib.hid (fun (W : World) (h : Below w7.heap.size w7 W) => (HL.out W 10000 10000 rfl h))
  rw [show min N 10000 = N from by omega] at HT10
  obtain ⟨m, hm, hmi⟩ : ∃ m : Nat, min N stop = m ∧ min (N : Int) (stop : Int) = (m : Int) := ⟨min N stop, rfl, by omega⟩
  have HLS := Lib.hid (fun (W : World) (h : Below w7.heap.size w7 W) => (HL.out W stop stop rfl h))
  rw [hm] at HLS
  clear HL hm
  have hun : (unK d ([] ++ [k % 4])).length = d.b.toNat - 1 := by rw [unK_len]; rfl
  obtain ⟨n1, hn1, hni⟩ : ∃ n : Nat, d.b.toNat - 1 = n ∧ d.b - 1 = (n : Int) := ⟨d.b.toNat - 1, rfl, by omega⟩
  rw [hun, hn1] at HUN
  clear hun hn1
  have hwn : IntKind.i64.wrap (n1 : Int) = (n1 : Int) := IntWalk.i64_in _ (by omega)
  go_region_held3 (fun W => Below w7.heap.size w7 W ∧ W.cell? ⟨w.heap.size, 0, none⟩ = some (.int .i64 d.b))
    (first | exact HK0.out | exact HK2.out _ _ hb8 (by assumption))
    (first
      | (go_at_call 24; with_reducible refine Calls.mono (HLS.out _ (And.left (by assumption))) ?_; rintro e w8 ⟨p8, cap8, rfl, hb8⟩)
      | (go_at_call 24; with_reducible refine Calls.mono (HT10.out _ (And.left (by assumption))) ?_; rintro e w8 ⟨p8, cap8, rfl, hb8⟩)
      | (go_at_call 23; refine (HUN.out _ (And.left (by assumption))).mono ?_; rintro e w8 ⟨p8, cap8, rfl, _, hb8⟩)
      | (go_at_call 11; refine (HAW.out _ (And.left (by assumption))).mono ?_; rintro e w8 ⟨rfl, hb8⟩))
  all_goals
    have hS : Below w7.heap.size w7 w8 := (show Below w7.heap.size w7 w8 ∧ w8.cell? ⟨w.heap.size, 0, none⟩ = some (.int .i64 d.b) by assumption).1
    have HF := Lib.hid (HB2.out.trans ((HB7.out.trans (hS.mono HB7.out.size)).mono HB2.out.size))
    clear hS hb8
    go_wp2
    go_ret
    exact ⟨rfl, HF.out⟩
end Go.Proofs.YtfifliepjmpgkaaDoor.Blk
