/-
  Reach, Garbage, Reaches, of a heap that is there.
-/
import Derived.Test.YtpcgmkchflmcmaaGreatDoorTrJ
import Derived.Test.YtpcgmkchflmcmaaGreatDoorRfY
namespace Go.Proofs.YtpcgmkchflmcmaaGreatDoor.Tr
open Go.RowKit Go.Shelf
open Class (below_drewN)
open Blk (Cfg allP kAt cellsF collect_any)
open Bits (SetIs TzTab)
open Hp (Ids St Wf Is To Mine bn bnI bnI_nat objL not_mine pkA_len objects_any NewRow pkA_eq pkA_sorted cellsF_list)
open Go.Proofs.YtpcgmkchflmcmaaGreatDoor.Row (Chg Rd Rd0 rowB rowB_none cell_of_block frozen_of_block other same cellsZ cellsZ_length cellsZ_at owns_block owns_chg owns_lt owns_base owns_cell owns_slice)
open Go.Proofs.YtpcgmkchflmcmaaGreatDoor.Addr (Tabs)

/-- A set's numbers, as whole numbers. -/
def elI (F : List Nat) (n : Nat) : List Int := (elems F n).map fun x : Nat => (x : Int)
theorem elI_sorted (F : List Nat) (n : Nat) : (elI F n).Pairwise (· < ·) := by
  unfold elI elems
  rw [List.pairwise_map]
  exact (List.pairwise_lt_range.filter _).imp (fun h => by omega)
theorem elI_mem {F : List Nat} {n : Nat} (h : SetW n F) {x : Int} : x ∈ elI F n ↔ 0 ≤ x ∧ hasI F x = true := by
  unfold elI hasI
  rw [List.mem_map]
  constructor
  · rintro ⟨y, hy, rfl⟩
    exact ⟨by omega, by rw [Int.toNat_natCast]; exact (mem_elems h y).1 hy⟩
  · rintro ⟨h1, h2⟩
    exact ⟨x.toNat, (mem_elems h _).2 h2, by omega⟩
open Classical in
theorem rcL_eq {s : St} {R : List Int} {F : List Nat} (hw : Wf s) (hk : ∀ j, kAt s.ks j < 4) (hs : SetW (s.ws.length + 1) F) (hF : ∀ u, 0 ≤ u → (hasI F u = true ↔ Rch s R u)) : elI F (s.ws.length + 1) = rcL s R := by
  refine Rf.sorted_eq _ _ (elI_sorted _ _) ((pkA_sorted hw hk _).filter _) fun x => ?_
  unfold rcL
  rw [elI_mem hs, List.mem_filter, objL_mem hw hk, decide_eq_true_iff]
  constructor
  · rintro ⟨h1, h2⟩
    have := (hF x h1).1 h2
    exact ⟨this.born, this⟩
  · rintro ⟨h1, h2⟩
    have := (bnI_pos h1).1
    exact ⟨this, (hF x this).2 h2⟩
open Classical in
theorem gbL_eq {s : St} {R : List Int} {F : List Nat} (hw : Wf s) (hk : ∀ j, kAt s.ks j < 4) (hF : ∀ u, 0 ≤ u → (hasI F u = true ↔ Rch s R u)) : ((objL s).filter fun a => !(Bits.mayB a (s.ws.length + 1 : Nat) && hasB F a.toNat)) = gbL s R := by
  unfold gbL
  apply List.filter_congr
  intro a ha
  have hb := (objL_mem hw hk).1 ha
  have h0 := (bnI_pos hb).1
  have hl := bnI_lt hw hb
  have hm : Bits.mayB a (s.ws.length + 1 : Nat) = true := by simp [Bits.mayB]; omega
  rw [hm, Bool.true_and]
  by_cases h : Rch s R a
  · rw [decide_eq_true h, show hasB F a.toNat = true from (hF a h0).2 h]
  · rw [decide_eq_false h, show hasB F a.toNat = false from eq_false_of_ne_true (fun e => h ((hF a h0).1 e))]

/-- A row that a call tells, a heap that has turned by loads. -/
def RowT (w : World) (H : Nat) (d : Ids) (s : St) (m : Nat) (l : List Int) (e : Ending) (w' : World) : Prop := ∃ p cap d', e = .returned (.slice p l.length cap) ∧ Rd w' p l ∧ Tn w H d w' d' s m ∧ ∀ g, rowB p g → w.heap.size ≤ g ∧ ¬ Mine H d' g

/-- What a call of reached asks. -/
structure Ask (w : World) (H : Nat) (d : Ids) (s : St) (m : Nat) (pr : Option Addr) (R : List Int) : Prop where
  is : Is w H d s m
  tabs : Tabs w
  tz : TzTab w
  hm : m + 40 * (objL s).length < 800000
  rd : Rd0 w pr R
  row : ∀ g, rowB pr g → 0 < R.length → g < w.heap.size ∧ ¬ Mine H d g
  len : R.length ≤ maxLen
  vb : vB ≤ w.heap.size
  hi : ∀ k, Mine H d k → vB ≤ k

set_option maxRecDepth 100000 in
set_option maxHeartbeats 2000000 in
theorem reach_any {H : Nat} {d : Ids} {s : St} {m : Nat} (pr : Option Addr) (cr : Nat) (R : List Int) (w : World) (h : Ask w H d s m pr R) :
    Calls Tryz.prog 13 #[.pointer (some ⟨H, 0, none⟩), .slice pr R.length cr] w (RowT w H d s (m + 40 * (objL s).length) (rcL s R)) := by
  have HR := Lib.hid (reached_any pr cr R w h.is h.tabs h.hm h.rd h.row h.len h.vb h.hi)
  have HA := Lib.hid h
  have HC := Lib.hid (show ∀ (w1 : World) (B G cap : Nat) (F : List Nat) (d' : Ids), SetIs w1 B G (s.ws.length + 1) cap F → (∀ u, 0 ≤ u → (hasI F u = true ↔ Rch s R u)) → Tn w H d w1 d' s (m + 40 * (objL s).length) → (w.heap.size ≤ B ∧ w.heap.size ≤ G ∧ B < w1.heap.size ∧ G < w1.heap.size ∧ B ≠ G) →
      Calls Tryz.prog 28 #[.func (.func 63) #[] #[.pointer (some ⟨w1.heap.size, 0, none⟩)]] (w1.alloc (.cells #[.pointer (some ⟨B, 0, none⟩)] 69)) (RowT w H d s (m + 40 * (objL s).length) (rcL s R)) from fun w1 B G cap F d' hs hF hT hz => by
    have hb : Below w1.heap.size w1 (w1.alloc (.cells #[.pointer (some ⟨B, 0, none⟩)] 69)) := (Below.refl _ _).alloc (Nat.le_refl _) _
    have hbv : Below vB w (w1.alloc (.cells #[.pointer (some ⟨B, 0, none⟩)] 69)) := (hT.chg.below h.hi h.vb).trans (hb.mono (by have := h.vb; have := hT.chg.size; omega))
    have htz := tz_vb h.tz hbv
    have hvb := h.vb
    have hsz := hT.chg.size
    have hNe : (elems F (s.ws.length + 1)).length ≤ 1048576 := by
      have h1 := rcL_eq h.is.wf h.is.tb.kLt hs.row hF
      have h2 : (elI F (s.ws.length + 1)).length = (elems F (s.ws.length + 1)).length := by simp [elI]
      rw [← h2, h1]
      exact Nat.le_trans (List.length_filter_le _ _) (pkA_len h.is.wf (bnI s))
    refine (collect_any 63 #[.pointer (some ⟨w1.heap.size, 0, none⟩)] (elems F (s.ws.length + 1)).length (fun i => (((elems F (s.ws.length + 1)).getD i 0 : Nat) : Int)) (fun W => Below _ _ W) _ hNe (enters_of Tryz.func63 (by kernel_rfl) rfl)
      (Bits.all1_told 4 w1.heap.size B G (s.ws.length + 1) cap F _ _ (hs.below hb hz.2.2.1 hz.2.2.2.1) htz (by simp) (by rw [World.size_alloc]; omega) (by rw [World.size_alloc]; omega) (by rw [World.size_alloc]; unfold vB at hvb; omega)) (fun _ h => h)).mono ?_
    rintro e w' ⟨p, cap', rfl, ho, hb2⟩
    have e1 : elI F (s.ws.length + 1) = rcL s R := rcL_eq h.is.wf h.is.tb.kLt hs.row hF
    have e2 : cellsF (fun i => (((elems F (s.ws.length + 1)).getD i 0 : Nat) : Int)) (elems F (s.ws.length + 1)).length = cellsZ (rcL s R) := by
      rw [← e1, ← cellsF_list]
      unfold elI
      rw [List.length_map]
      congr 1
      funext i
      rw [List.getD_eq_getElem?_getD, List.getD_eq_getElem?_getD, List.getElem?_map]
      cases (elems F (s.ws.length + 1))[i]? <;> rfl
    have e3 : (elems F (s.ws.length + 1)).length = (rcL s R).length := by rw [← e1]; simp [elI]
    rw [e2, e3] at ho
    refine ⟨p, cap', d', by rw [e3], Rd.of_owns ho, hT.later (hb.trans (hb2.mono (by simp))), fun g hg => ?_⟩
    have h1 := (owns_lt ho hg).1
    simp only [World.size_alloc] at h1
    exact ⟨by omega, fun e => by have := hT.is.lt e; omega⟩)
  clear h
  go_enter Tryz.func13, Tryz.ntmps13
  go_wp2_with (first
    | (go_at_call 29; refine HR.out.mono ?_; rintro e w1 ⟨B, G, cap, F, d', rfl, h1, h2, h3, h4, h5, h6⟩; have HCC := Lib.hid (HC.out w1 B G cap F d' h1 h2 h3 h4); clear h1 h2 h3 h4 h5 h6)
    | go_enter Tryz.func30, Tryz.ntmps30
    | (go_at_call 28; refine HCC.out.mono ?_; rintro e w2 ⟨p, cap2, d2, rfl, g1, g2, g3⟩))
  go_ret
  exact ⟨p, cap2, d2, rfl, g1, g2, g3⟩

/-- A set, asked whether it has a number. -/
theorem looks_has (B G size cap : Nat) (F : List Nat) : Looks 32 #[.pointer (some ⟨B, 0, none⟩)] (fun a => Bits.mayB a (size : Nat) && hasB F a.toNat) (fun W => SetIs W B G size cap F) :=
  ⟨enters_of Tryz.func32 (by kernel_rfl) rfl, fun W q h => h.drewN q, fun a W h => Bits.has_any B G size cap F a W h⟩

set_option maxRecDepth 100000 in
set_option maxHeartbeats 2000000 in
theorem garbage_any {H : Nat} {d : Ids} {s : St} {m : Nat} (pr : Option Addr) (cr : Nat) (R : List Int) (w : World) (h : Ask w H d s m pr R) :
    Calls Tryz.prog 15 #[.pointer (some ⟨H, 0, none⟩), .slice pr R.length cr] w (RowT w H d s (m + 40 * (objL s).length) (gbL s R)) := by
  have HO := Lib.hid (objects_any w h.is h.tabs)
  have HA := Lib.hid h
  have HR := Lib.hid (show ∀ w1, Below w.heap.size w w1 → Calls Tryz.prog 29 #[.pointer (some ⟨H, 0, none⟩), .slice pr R.length cr] w1 (Found w1 H d s m R) from fun w1 hb => by
    have hs := hb.size
    exact reached_any pr cr R w1 (h.is.later hb) (h.tabs.later hb) h.hm (fun j hj => by
      obtain ⟨g, off, e, hc⟩ := h.rd j hj
      exact ⟨g, off, e, (hb.cell (p := ⟨g, off + j, none⟩) (h.row g (by rw [e]; rfl) (by omega)).1).trans hc⟩) (fun g hg hl => ⟨by have := (h.row g hg hl).1; omega, (h.row g hg hl).2⟩) h.len (by have := h.vb; omega) h.hi)
  have HD := Lib.hid (show ∀ (w1 w2 : World) (p : Option Addr) (cap : Nat) (B G capF : Nat) (F : List Nat) (d' : Ids), w1.ownsRow w.heap.size 3 1 (.slice p (objL s).length cap) (objL s).length (cellsZ (objL s)) → Below w.heap.size w w1 → SetIs w2 B G (s.ws.length + 1) capF F → (∀ u, 0 ≤ u → (hasI F u = true ↔ Rch s R u)) → Tn w1 H d w2 d' s (m + 40 * (objL s).length) →
      w1.heap.size ≤ B ∧ w1.heap.size ≤ G ∧ B < w2.heap.size ∧ G < w2.heap.size ∧ B ≠ G → Calls Tryz.prog 31 #[.slice p (objL s).length cap, .func (.func 32) #[.pointer (some ⟨B, 0, none⟩)] #[]] w2 (RowT w H d s (m + 40 * (objL s).length) (gbL s R)) from fun w1 w2 p cap B G capF F d' ho hb hs hF hT hz => by
    have hd1 : ∀ g, rowB p g → w.heap.size ≤ g ∧ g < w1.heap.size := fun g hg => owns_lt ho hg
    have hdm : ∀ g, rowB p g → ¬ Mine H d g := fun g hg e => by have := h.is.lt e; have := (hd1 g hg).1; omega
    have hdm' : ∀ g, rowB p g → ¬ Mine H d' g := fun g hg e => (hT.grow g e).elim (hdm g hg) (fun e => by have := (hd1 g hg).2; omega)
    have ho2 := owns_chg ho hT.chg hdm
    have hT0 : Tn w H d w2 d' s (m + 40 * (objL s).length) := ⟨hT.is, (Chg.of_below hb).trans hT.chg (fun _ e => .inl e), fun j hj => (hT.grow j hj).imp id (fun e => by have := hb.size; omega)⟩
    have hp : p = none ∧ objL s = [] ∨ ∃ g, p = some ⟨g, 0, none⟩ ∧ Rc w2 g (objL s) ∧ ∀ W, Chg (fun k => k = g) w2 W → SetIs W B G (s.ws.length + 1) capF F := by
      obtain ⟨_, ⟨h2, h3⟩ | ⟨g, c, cur, e1, e2, e3, e4, e5, e6, e7⟩⟩ := id ho2
      · simp only [Value.slice.injEq] at h2
        exact .inl ⟨h2.1, List.eq_nil_of_length_eq_zero h2.2.1⟩
      · cases e1
        refine .inr ⟨g, rfl, fun k hk => ⟨owns_cell ho2 k _ (cellsZ_at _ hk), ?_⟩, fun W hc => hs.kept' (hc.block B hz.2.2.1 (fun e => ?_)) (hc.block G hz.2.2.2.1 (fun e => ?_))⟩
        · simp [World.frozen?, e3]
        · have := (hd1 g rfl).2; omega
        · have := (hd1 g rfl).2; omega
    refine (delete_any (looks_has B G (s.ws.length + 1) capF F) p cap (objL s) w2 hp hs (Row.owns_cap ho2).1 (pkA_len h.is.wf (bnI s))).mono ?_
    rintro e w' ⟨rfl, hrd, hc⟩
    rw [gbL_eq h.is.wf h.is.tb.kLt hF] at hrd ⊢
    exact ⟨p, cap, d', rfl, hrd, ⟨hT0.is.chg hc (fun k hk e => hdm' k e hk), hT0.chg.trans hc (fun k hk => .inr (hd1 k hk).1), hT0.grow⟩, fun g hg => ⟨(hd1 g hg).1, hdm' g hg⟩⟩)
  clear h
  go_enter Tryz.func15, Tryz.ntmps15
  go_wp2_with (first
    | (go_at_call 21; refine HO.out.mono ?_; rintro e w1 ⟨p, cap, rfl, ho, hb1⟩)
    | (go_at_call 29; refine (HR.out w1 hb1).mono ?_; rintro e w2 ⟨B, G, capF, F, d', rfl, h1, h2, h3, h4, h5, h6⟩; have HDD := Lib.hid (HD.out w1 w2 p cap B G capF F d' ho hb1 h1 h2 h3 h4); clear h1 h2 h3 h4 h5 h6 ho)
    | (go_at_call 31; refine HDD.out.mono ?_; rintro e w3 ⟨p2, cap2, d2, rfl, g1, g2, g3⟩))
  go_ret
  exact ⟨p2, cap2, d2, rfl, g1, g2, g3⟩

set_option maxRecDepth 100000 in
set_option maxHeartbeats 2000000 in
open Classical in
theorem reaches_any {H : Nat} {d : Ids} {s : St} {m : Nat} (a b : Int) (w : World) (h : Ask w H d s m none []) :
    Calls Tryz.prog 17 #[.pointer (some ⟨H, 0, none⟩), .int .i64 a, .int .i64 b] w fun e w' => e = .returned (.bool (decide (Rch s [a] b))) ∧ ∃ d', Tn w H d w' d' s (m + 40 * (objL s).length) := by
  have hb0 : Below w.heap.size w (w.alloc (.cells #[.int .i64 a] 3)) := (Below.refl _ _).alloc (Nat.le_refl _) _
  have HR := Lib.hid (reached_any (some ⟨w.heap.size, 0, none⟩) 1 [a] _ (h.is.later hb0) (h.tabs.later hb0) h.hm (fun j hj => by
      obtain rfl : j = 0 := by simp at hj; omega
      exact ⟨w.heap.size, 0, rfl, by simp⟩) (fun g hg _ => by
      obtain rfl : w.heap.size = g := by simpa [rowB] using hg
      exact ⟨by simp, not_mine h.is (Nat.le_refl _)⟩) (by simp [maxLen]) (by have := h.vb; rw [World.size_alloc]; omega) h.hi)
  have HA := Lib.hid h
  have HB0 := Lib.hid hb0
  clear h hb0
  go_enter Tryz.func17, Tryz.ntmps17
  go_wp2_with (first
    | (go_at_call 29; refine HR.out.mono ?_; rintro e w2 ⟨B, G, capF, F, d', rfl, h1, h2, h3, h4, h5, h6⟩; have HS := Lib.hid (And.intro h1 (And.intro h2 (And.intro h3 h4))); clear h1 h2 h3 h4 h5 h6)
    | (go_at_call 32; refine (Bits.has_any B G _ capF F b _ HS.out.1).mono ?_; rintro e w3 ⟨rfl, q, rfl⟩))
  go_ret
  refine ⟨?_, d', ?_⟩
  · have hw := HA.out.is.wf
    have hF := HS.out.2.1
    have e : (Bits.mayB b (s.ws.length + 1 : Nat) && hasB F b.toNat) = decide (Rch s [a] b) := by
      by_cases hr : Rch s [a] b
      · have h0 := (bnI_pos hr.born).1
        have hl := bnI_lt hw hr.born
        have hm : Bits.mayB b (s.ws.length + 1 : Nat) = true := by simp [Bits.mayB]; omega
        rw [decide_eq_true hr, hm, show hasB F b.toNat = true from (hF b h0).2 hr]; rfl
      · rw [decide_eq_false hr]
        by_cases h0 : 0 ≤ b
        · rw [show hasB F b.toNat = false from eq_false_of_ne_true (fun e => hr ((hF b h0).1 e)), Bool.and_false]
        · have hm : Bits.mayB b (s.ws.length + 1 : Nat) = false := by simp [Bits.mayB]; omega
          rw [hm, Bool.false_and]
    rw [← e]
    rfl
  · have h3 := HS.out.2.2.1
    exact Tn.later ⟨h3.is, (Chg.of_below HB0.out).trans h3.chg (fun _ e => .inl e), fun j hj => (h3.grow j hj).imp id (fun e => by rw [World.size_alloc] at e; omega)⟩ (below_drewN (Below.refl _ _) q)
end Go.Proofs.YtpcgmkchflmcmaaGreatDoor.Tr
