/-
  New, of a right config: the walk.
-/
import Derived.Test.YtcdnbheoelnghaaDoorGrM
import Derived.Deep.RegionWith
namespace Go.Proofs.YtcdnbheoelnghaaDoor.Gra
open Go.RowKit Go.Proofs.YtcdnbheoelnghaaDoor.Opr
open Go.Proofs.YtcdnbheoelnghaaDoor.Row (rowB rowB_none Chg owns_chg owns_cell owns_lt owns_block owns_slice owns_cap cellsZ cellsZ_length cellsZ_at push_row step_append_own info_parts one_at infoInt)

/-- What a new graph has, with so many rows of registers. -/
def s0 (nc r : Nat) : Nat → GSt
  | 0 => { nO := 0, nR := 0, E := fun i => if i = 2 then List.replicate nc 0 else [] }
  | j + 1 => (s0 nc r j).addR r
theorem s0_nR (nc r : Nat) : ∀ j, (s0 nc r j).nR = j
  | 0 => rfl
  | j + 1 => by show (s0 nc r j).nR + 1 = _; rw [s0_nR nc r j]
theorem s0_nO (nc r : Nat) : ∀ j, (s0 nc r j).nO = 0
  | 0 => rfl
  | j + 1 => s0_nO nc r j
theorem s0_two (nc r : Nat) : ∀ j, (s0 nc r j).E 2 = List.replicate nc 0
  | 0 => rfl
  | j + 1 => by show ((s0 nc r j).addR r).E 2 = _; rw [GSt.addR_old _ _ (by omega)]; exact s0_two nc r j
theorem s0_reg (nc r : Nat) : ∀ j m, m < j → (s0 nc r j).E (4 + 2 * m) = List.replicate r 0
  | 0, m, h => by omega
  | j + 1, m, h => by
    show ((s0 nc r j).addR r).E (4 + 2 * m) = _
    by_cases e : m = j
    · subst e
      have := GSt.addR_new (s0 nc r m) r
      rw [s0_nR] at this
      exact this
    · rw [GSt.addR_old _ _ (by rw [s0_nR]; omega)]
      exact s0_reg nc r j m (by omega)

def P0 (b : Nat) : Nat → Option Addr := fun j => if j = 2 then some ⟨b, 0, none⟩ else none
def K0 (nc : Nat) : Nat → Nat := fun j => if j = 2 then nc else 0
theorem P0_row {b j x : Nat} (h : rowB (P0 b j) x) : j = 2 ∧ x = b := by
  unfold P0 at h
  by_cases e : j = 2
  · rw [if_pos e] at h
    exact ⟨e, by cases h; rfl⟩
  · rw [if_neg e] at h
    exact absurd h (rowB_none x)
theorem GIs.fresh (c : C7) (w1 : World) (r nc : Nat) (h : nc ≤ 1048576) :
    GIs c ((w1.alloc (.cells (zeroInts nc) 3)).alloc (.cells #[.int .i64 c.b, .int .i64 c.wd, .int .i64 c.m, .int .i64 c.r, .int .i64 c.ce, .int .i64 c.lg, .int .i64 c.st, .slice none 0 0, .slice none 0 0, .slice (some ⟨w1.heap.size, 0, none⟩) nc nc] 60)) (w1.heap.size + 1) (P0 w1.heap.size) (K0 nc) (s0 nc r 0) := by
  have hC := (CellsAt.new (w1.alloc (.cells (zeroInts nc) 3)) #[.int .i64 c.b, .int .i64 c.wd, .int .i64 c.m, .int .i64 c.r, .int .i64 c.ce, .int .i64 c.lg, .int .i64 c.st, .slice none 0 0, .slice none 0 0, .slice (some ⟨w1.heap.size, 0, none⟩) nc nc] 60).at (g' := w1.heap.size + 1) (by simp)
  have hmk := owns_made w1 0 3 (zeroInts nc) nc (Nat.zero_le _) (by unfold maxLen; omega) (zeroInts_size nc)
  have hmk2 := owns_chg hmk (Chg.of_below (S := fun _ => False) ((Below.refl _ _).alloc (Nat.le_refl _) (.cells #[.int .i64 c.b, .int .i64 c.wd, .int .i64 c.m, .int .i64 c.r, .int .i64 c.ce, .int .i64 c.lg, .int .i64 c.st, .slice none 0 0, .slice none 0 0, .slice (some ⟨w1.heap.size, 0, none⟩) nc nc] 60))) (fun _ _ e => e)
  rw [zeroInts_list] at hmk2
  refine ⟨?_, hC 7 _ rfl, hC 8 _ rfl, ?_, ?_, ⟨rfl, .inl ⟨rfl, rfl⟩⟩, ⟨rfl, .inl ⟨rfl, rfl⟩⟩, ?_, ?_, ?_, ?_⟩
  · intro j v hv
    have hj : j < 7 := (List.getElem?_eq_some_iff.1 hv).1
    refine hC j v ?_
    rw [← hv]
    have h7 : j = 0 ∨ j = 1 ∨ j = 2 ∨ j = 3 ∨ j = 4 ∨ j = 5 ∨ j = 6 := by omega
    rcases h7 with rfl | rfl | rfl | rfl | rfl | rfl | rfl <;> rfl
  · rw [s0_two, List.length_replicate]
    exact hC 9 _ rfl
  · intro j
    rw [show w1.heap.size + 1 = (w1.alloc (.cells (zeroInts nc) 3)).heap.size by simp]
    simp
  · rintro j (rfl | ⟨i, hi, _⟩ | ⟨i, hi, _⟩)
    · rw [s0_two, List.length_replicate]
      exact hmk2
    · exact absurd hi (Nat.not_lt_zero _)
    · exact absurd hi (Nat.not_lt_zero _)
  · intro i j x hij hi hj
    have h1 := P0_row hi
    have h2 := P0_row hj
    omega
  · intro j hj
    have h1 := P0_row hj
    omega
  · intro j x hx
    have h1 := P0_row hx
    simp only [World.alloc, Array.size_push]
    omega
/-- What a round keeps. -/
def NewI (c : C7) (r nc : Nat) (w : World) (G j : Nat) (wr : World) : Prop :=
  ∃ P K, GIs c wr G P K (s0 nc r j) ∧ Below w.heap.size w wr ∧ (∀ x, mine G P x → w.heap.size < x) ∧ CellsAt wr w.heap.size [.int .i64 c.b, .int .i64 c.wd, .int .i64 c.m, .int .i64 c.r, .int .i64 c.ce, .int .i64 c.lg, .int .i64 c.st]

/-- What New leaves. -/
def NewP (c : C7) (r nc M : Nat) (w : World) (G : Nat) (w' : World) : Prop := ∃ P K, GIs c w' G P K (s0 nc r M) ∧ Below w.heap.size w w' ∧ ∀ x, mine G P x → w.heap.size ≤ x
set_option maxRecDepth 100000 in
set_option maxHeartbeats 4000000 in
theorem new_any (b wd lg st : Int) (M r nc : Nat) (hR : rightB b wd M r nc lg st = true) (hM : M ≤ 1048576) (hr : r ≤ 1048576) (hnc : nc ≤ 1048576) (w : World) (hm : LimTab w) :
    Calls Tryd.prog 8 #[.agg #[.int .i64 b, .int .i64 wd, .int .i64 M, .int .i64 r, .int .i64 nc, .int .i64 lg, .int .i64 st]] w fun e w' => ∃ G, e = .returned (.tuple #[.pointer (some ⟨G, 0, none⟩), .int .i64 0]) ∧ NewP ⟨b, wd, M, r, nc, lg, st⟩ r nc M w G w' := by
  have hA : Below w.heap.size w (w.alloc (.cells #[.int .i64 b, .int .i64 wd, .int .i64 M, .int .i64 r, .int .i64 nc, .int .i64 lg, .int .i64 st] 23)) := (Below.refl _ _).alloc (Nat.le_refl _) _
  have HR := Lib.hid (right_any b wd M r nc lg st _ (hm.later hA))
  have HA := Lib.hid hA
  have HC0 : Hid (CellsAt (w.alloc (.cells #[.int .i64 b, .int .i64 wd, .int .i64 M, .int .i64 r, .int .i64 nc, .int .i64 lg, .int .i64 st] 23)) w.heap.size [.int .i64 b, .int .i64 wd, .int .i64 M, .int .i64 r, .int .i64 nc, .int .i64 lg, .int .i64 st]) := Lib.hid (CellsAt.new _ _ _)
  clear hA
  rw [hR] at HR
  have hmc := make_ints nc hnc
  have hmr := make_ints r hr
  have HRL := Lib.hid hr
  have HNC := Lib.hid hnc
  go_enter Tryd.func8, Tryd.ntmps8
  clear hR hm hr hnc
  have HHM := Lib.hid hM
  clear hM
  go_wp2_with (go_at_call 24; fail)
  refine HR.out.mono ?_
  rintro e w1 ⟨rfl, hb1⟩
  have HB1 := Lib.hid (HA.out.trans (hb1.mono HA.out.size))
  have HC1 := Lib.hid (HC0.out.later hb1)
  clear hb1
  have c0 := HC1.out 0 _ rfl
  have c1 := HC1.out 1 _ rfl
  have c2 := HC1.out 2 _ rfl
  have c3 := HC1.out 3 _ rfl
  have c4 := HC1.out 4 _ rfl
  have c5 := HC1.out 5 _ rfl
  have c6 := HC1.out 6 _ rfl
  have hlt : w.heap.size < w1.heap.size := lt_of_cell c0
  go_wp2_with fail
  go_region
  obtain ⟨W2, hW2⟩ : ∃ W2, ((w1.alloc (.cells (zeroInts nc) 3)).alloc (.cells #[.int .i64 b, .int .i64 wd, .int .i64 M, .int .i64 r, .int .i64 nc, .int .i64 lg, .int .i64 st, .slice none 0 0, .slice none 0 0, .slice (some ⟨w1.heap.size, 0, none⟩) nc nc] 60)).drew = W2 := ⟨_, rfl⟩
  rw [hW2]
  have hG := GIs.fresh ⟨b, wd, M, r, nc, lg, st⟩ w1 r nc HNC.out
  have hG2 := hG.later (Below.refl _ _).drew
  rw [hW2] at hG2
  have hb2 : Below w1.heap.size w1 W2 := by rw [← hW2]; exact (((Below.refl _ _).alloc (Nat.le_refl _) _).alloc (by simp) _).drew
  have HIN : Hid (NewI ⟨b, wd, M, r, nc, lg, st⟩ r nc w (w1.heap.size + 1) 0 W2) := Lib.hid ⟨_, _, hG2, HB1.out.trans (hb2.mono HB1.out.size), (by
    rintro x (rfl | ⟨j, hj⟩)
    · omega
    · have := P0_row hj; omega), HC1.out.later hb2⟩
  have HCC := Lib.hid (HC1.out.later hb2)
  clear hG hG2 hb2 hW2 c0 c1 c2 c3 c4 c5 c6
  have c2 := HCC.out 2 _ rfl
  have hltx : w.heap.size < W2.heap.size := lt_of_cell c2
  go_wp2_with fail
  go_loopw [16] (fun i wr => ∃ j : Nat, j ≤ M ∧ i = .int .i64 j ∧ NewI ⟨b, wd, M, r, nc, lg, st⟩ r nc w (w1.heap.size + 1) j wr) (fun i _ => M - (intOf i).toNat)
  case atStart => exact ⟨0, Nat.zero_le _, rfl, HIN.out⟩
  case round =>
    obtain ⟨j, hj, rfl, P, K, hG, hB, hmi, hcc⟩ := hrel
    have j0 : (0 : Int) ≤ (j : Int) := by omega
    have HMI := Lib.hid hmi
    have HBW := Lib.hid hB
    have HCR := Lib.hid hcc
    have HG := Lib.hid hG
    clear hmi hB hcc
    generalize w1.heap.size + 1 = G at *
    by_cases hlt : j < M
    · have j1 : (j : Int) < (M : Int) := by omega
      have g8 := hG.r
      have f8 := hG.fz 8
      have hl8 : G < wr.heap.size := hG.ltG
      have hown := Lib.hid hG.oR
      obtain ⟨i0, hinf, hz0, hz1, hz2⟩ := info_parts infoRow
      have HFIN : Hid (∀ w3 p' cap', w3.ownsRow 0 32 1 (.slice p' (j + 1) cap') (j + 1) (valsR P K (s0 nc r j).E fR j ++ [.slice (some ⟨wr.heap.size, 0, none⟩) r r]) → Chg (rowB (P 1)) ((wr.alloc (.cells (zeroInts r) 3)).alloc (.cells #[.slice (some ⟨wr.heap.size, 0, none⟩) r r] 32)) w3 →
          (∀ k, rowB p' k → rowB (P 1) k ∨ ((wr.alloc (.cells (zeroInts r) 3)).alloc (.cells #[.slice (some ⟨wr.heap.size, 0, none⟩) r r] 32)).heap.size ≤ k) →
          NewI ⟨b, wd, M, r, nc, lg, st⟩ r nc w G (j + 1) (w3.setCell ⟨G, 8, none⟩ (.slice p' (j + 1) cap'))) := Lib.hid fun w3 p' cap' h1 h2 h3 => by
        have h4 := GIs.addR HG.out (x := r) (cap' := cap') (p' := p') (w3 := w3) HRL.out (by rw [s0_nR]; exact h1) h2 h3
        rw [s0_nR] at h4
        obtain ⟨h5, h6, h7⟩ := h4
        have hsz := HBW.out.size
        refine ⟨_, _, h5, ?_, ?_, ?_⟩
        · exact HBW.out.trans (h6.below (fun k hk => by have := HMI.out k hk; omega) hsz)
        · intro x hx
          rcases h7 x hx with h | h
          · exact HMI.out x h
          · have : w.heap.size < wr.heap.size := lt_of_cell (HCR.out 0 _ rfl)
            omega
        · intro i v hv
          have hc := HCR.out i v hv
          exact (h6.cell (p := ⟨w.heap.size, i, none⟩) (lt_of_cell hc) (fun e => absurd (HMI.out _ e) (Nat.lt_irrefl _))).trans hc
      rw [s0_nR] at g8 hown
      generalize hvs : valsR P K (s0 nc r j).E fR j = vs at *
      have hpG : ¬ rowB (P 1) G := hG.ag 1
      have hcc3 := HCR.out 3 _ rfl
      generalize hp : P 1 = p at *
      generalize hc : K 1 = cap at *
      clear hG HG HMI hvs hp hc
      have hb1 : Below wr.heap.size wr (wr.alloc (.cells (zeroInts r) 3)) := (Below.refl _ wr).alloc (Nat.le_refl _) _
      have hb2 : Below wr.heap.size wr ((wr.alloc (.cells (zeroInts r) 3)).alloc (.cells #[.slice (some ⟨wr.heap.size, 0, none⟩) r r] 32)) := hb1.alloc hb1.size _
      have g8a := (hb1.cell (p := ⟨G, 8, none⟩) hl8).trans g8
      have g8b := (hb2.cell (p := ⟨G, 8, none⟩) hl8).trans g8
      have HOW : Hid (((wr.alloc (.cells (zeroInts r) 3)).alloc (.cells #[.slice (some ⟨wr.heap.size, 0, none⟩) r r] 32)).ownsRow 0 32 1 (.slice p j cap) j vs) := Lib.hid (owns_chg hown.out (Chg.of_below (S := fun _ => False) hb2) (fun _ _ e => e))
      have HOW2 : Hid (((wr.alloc (.cells (zeroInts r) 3)).alloc (.cells #[.slice (some ⟨wr.heap.size, 0, none⟩) r r] 32)).drew.ownsRow 0 32 1 (.slice p j cap) j vs) := Lib.hid HOW.out
      have HBY : Hid (Below ((wr.alloc (.cells (zeroInts r) 3)).alloc (.cells #[.slice (some ⟨wr.heap.size, 0, none⟩) r r] 32)).heap.size ((wr.alloc (.cells (zeroInts r) 3)).alloc (.cells #[.slice (some ⟨wr.heap.size, 0, none⟩) r r] 32)) ((wr.alloc (.cells (zeroInts r) 3)).alloc (.cells #[.slice (some ⟨wr.heap.size, 0, none⟩) r r] 32)).drew) := Lib.hid (Below.refl _ _).drew
      have HB20 := Lib.hid hb2
      have x0 : (0 : Int) ≤ (r : Int) := by omega
      have hMM := HHM.out
      have nO1 : j + 1 ≤ maxLen := by unfold maxLen; omega
      have nO2 : (j + 1) * 24 ≤ 140737488355328 := by omega
      clear hb1 hb2 hMM
      go_wp2_with fail
      go_region_law (refine step_append_own rfl (.tmp 22) (.tmp 26) 58 rfl 0 32 i0 (.slice none 0 0) 1 24 Tryd.underlying58 hinf hz0 hz1 hz2 rfl (by decide) (.slice p j cap) j vs rfl (by first | exact HOW2.out | exact HOW.out) ⟨wr.heap.size + 1, 0, none⟩ 1 1 [.slice (some ⟨wr.heap.size, 0, none⟩) r r] rfl rfl (one_at (by simp)) (by simp [Value.oneCell']) nO1 nO2 (by simp) ?_; intro v' w3 hown hgrow hat; obtain ⟨p', cap', rfl, hC, hR⟩ := push_row (Y := (wr.alloc (.cells (zeroInts r) 3)).alloc (.cells #[.slice (some ⟨wr.heap.size, 0, none⟩) r r] 32)) (p := p) (cap := cap) (n := j) HBY.out hown hgrow hat; have hC1 := (Chg.of_below (S := rowB p) HB20.out).trans hC (fun _ e => .inl e); have g8' := (hC1.cell (p := ⟨G, 8, none⟩) hl8 hpG).trans g8; have f8' := (hC1.frozen (p := ⟨G, 8, none⟩) hl8 hpG).trans f8; have HOWN := Lib.hid hown; have HCG := Lib.hid hC; have HRR := Lib.hid hR; clear hown hgrow hat hC hR hC1)
      all_goals (have HNI := Lib.hid (HFIN.out w3 p' cap' HOWN.out HCG.out HRR.out))
      all_goals (clear HFIN HOWN HCG HRR HOW HOW2 HBY HB20 g8 g8a g8b f8 g8' f8')
      all_goals (generalize w3.setCell ⟨G, 8, none⟩ (.slice p' (j + 1) cap') = W3 at *)
      all_goals go_wp2_with fail
      all_goals go_roundw
      all_goals first
        | exact ⟨j + 1, by omega, by go_num, HNI.out⟩
        | (simp [intOf]; omega)
        | trace_state
    · obtain rfl : j = M := by omega
      go_wp2_with fail
      go_ret2
      exact ⟨G, rfl, P, K, HG.out, HBW.out, fun x hx => Nat.le_of_lt (HMI.out x hx)⟩
end Go.Proofs.YtcdnbheoelnghaaDoor.Gra
