/-
  StatsAdds answers true.
-/
import Derived.Test.YtodfkklkgcoddaaDoorSsP
namespace Go.Proofs.YtodfkklkgcoddaaDoor.Ss
open Go.RowKit
open Go.Proofs.YtodfkklkgcoddaaDoor.Row

theorem cops_add (a b : List Ev) : cOps (a ++ b) = cOps a + cOps b := List.countP_append
theorem cerr_add (a b : List Ev) : cErr (a ++ b) = cErr a + cErr b := List.countP_append
theorem cal_add (L : List (List Int)) (a b : List Ev) : cAl L (a ++ b) = cAl L a + cAl L b := List.countP_append
theorem cfr_add (a b : List Ev) : cFr (a ++ b) = cFr a + cFr b := List.countP_append
theorem ccy_add (a b : List Ev) : cCy (a ++ b) = cCy a + cCy b := List.countP_append
theorem ck_add (j : Nat) (a b : List Ev) : cK j (a ++ b) = cK j a + cK j b := List.countP_append
/-- What there is in all of a row. -/
def tot (L : List (List Int)) (l : List Ev) : Nat → Nat := fT L l (cErr l) (cK 10 l)
theorem tot_add (L : List (List Int)) (a b : List Ev) (j : Nat) (hj : j < 6) : tot L (a ++ b) j = tot L a j + tot L b j := by
  match j, hj with
  | 0, _ => exact cops_add a b
  | 1, _ => exact cerr_add a b
  | 2, _ => exact cal_add L a b
  | 3, _ => exact cfr_add a b
  | 4, _ => exact ccy_add a b
  | 5, _ => exact ck_add 10 a b
theorem tot_le (L : List (List Int)) (l : List Ev) (j : Nat) (hj : j < 6) : tot L l j ≤ l.length := by
  match j, hj with
  | 0, _ => exact cops_le l
  | 1, _ => exact cerr_le l
  | 2, _ => exact cal_le L l
  | 3, _ => exact cfr_le l
  | 4, _ => exact ccy_le l
  | 5, _ => exact ck_le 10 l

set_option maxRecDepth 100000 in
set_option maxHeartbeats 8000000 in
theorem adds_walk (pp : Option Addr) (cp : Nat) (L : List (List Int)) (pa : Option Addr) (ca : Nat) (la : List Ev) (pb : Option Addr) (cb : Nat) (lb : List Ev) (W : World) (ht : LibTab W) (hp : PrAt W pp L) (ha : EvAt W pa la) (hb : EvAt W pb lb)
    (hla : la.length ≤ maxLen) (hlb : lb.length ≤ maxLen) (hLl : L.length ≤ maxLen) :
    Calls Tryd.prog 6 #[.slice pp L.length cp, .slice pa la.length ca, .slice pb lb.length cb] W fun x w' => x = .returned (.bool true) ∧ Below W.heap.size W w' := by
  unfold maxLen at hla hlb hLl
  have HAW : Hid (∀ w, Below W.heap.size W w → Calls Tryd.prog 7 #[] w fun x w' => x = .returned (.bool true) ∧ Below w.heap.size w w') := Lib.hid fun w h => awake_any w (ht.later h)
  have HOA := Lib.hid ha
  have HOB := Lib.hid hb
  have HP := Lib.hid hp
  clear ha hb hp ht
  by_cases hbP : 10 < L.length
  · have g1 : (10 : Int) < (L.length : Int) := by omega
    go_enter Tryd.func6, Tryd.ntmps6
    go_wp2_with (go_at_call 7; refine (HAW.out _ (Below.refl _ _)).mono ?_; rintro e w1 ⟨rfl, hb1⟩; have HB1 := Lib.hid hb1; clear hb1)
    go_ret
    exact ⟨rfl, HB1.out⟩
  have g1 : (L.length : Int) ≤ 10 := by omega
  by_cases hbigA : 100 < la.length
  · have g2 : (100 : Int) < (la.length : Int) := by omega
    go_enter Tryd.func6, Tryd.ntmps6
    go_wp2_with (go_at_call 7; refine (HAW.out _ (Below.refl _ _)).mono ?_; rintro e w1 ⟨rfl, hb1⟩; have HB1 := Lib.hid hb1; clear hb1)
    go_ret
    exact ⟨rfl, HB1.out⟩
  have hA : la.length ≤ 100 := by omega
  have g2 : (la.length : Int) ≤ 100 := by omega
  by_cases hbigB : 100 < lb.length
  · have g3 : (100 : Int) < (lb.length : Int) := by omega
    go_enter Tryd.func6, Tryd.ntmps6
    go_wp2_with (go_at_call 7; refine (HAW.out _ (Below.refl _ _)).mono ?_; rintro e w1 ⟨rfl, hb1⟩; have HB1 := Lib.hid hb1; clear hb1)
    go_ret
    exact ⟨rfl, HB1.out⟩
  have hB : lb.length ≤ 100 := by omega
  have g3 : (lb.length : Int) ≤ 100 := by omega
  have HTO : Hid (∀ w p l c n, Below W.heap.size W w → EvAt w p l → l.length = n → n ≤ 200 → Calls Tryd.prog 15 #[.slice pp L.length cp, .slice p n c] w fun x w' => x = .returned (smV (tot L l)) ∧ Below w.heap.size w w') := Lib.hid fun w p l c n h1 h2 h3 h4 => by subst h3; exact total_any pp cp L p c l w (HP.out.later h1) h2 (by omega)
  have HCD : Hid (∀ w p l c n, EvAt w p l → l.length = n → n ≤ 200 → Calls Tryd.prog 16 #[.slice p n c] w fun x w' => x = .returned (ctV fun j => cK j l) ∧ Below w.heap.size w w') := Lib.hid fun w p l c n h2 h3 h4 => by subst h3; exact codes_any p c l w h2 (by omega)
  have HLA := Lib.hid hA
  have HLB := Lib.hid hB
  go_enter Tryd.func6, Tryd.ntmps6
  go_wp2_with (go_at_call 15; fail)
  refine (HTO.out W pa la ca la.length (Below.refl _ _) HOA.out rfl (by omega)).mono ?_
  rintro e w1 ⟨rfl, hb1⟩
  have HB1 := Lib.hid hb1
  clear hb1
  go_wp2_with (go_at_call 15; fail)
  refine (HTO.out w1 pb lb cb lb.length HB1.out (HOB.out.later HB1.out) rfl (by omega)).mono ?_
  rintro e w2 ⟨rfl, hb2⟩
  have HB2 := Lib.hid (HB1.out.trans (hb2.mono HB1.out.size))
  clear hb2 HB1
  obtain ⟨FA, hFA⟩ : ∃ F : Nat → Nat, tot L la = F := ⟨_, rfl⟩
  obtain ⟨FB, hFB⟩ : ∃ F : Nat → Nat, tot L lb = F := ⟨_, rfl⟩
  have HFZ : Hid (∀ j, j < 6 → tot L (la ++ lb) j = FA j + FB j) := Lib.hid fun j hj => by rw [tot_add _ _ _ j hj, hFA, hFB]
  have HFAL : Hid (∀ j, j < 6 → FA j ≤ 100 ∧ FB j ≤ 100) := Lib.hid fun j hj => ⟨by rw [← hFA]; exact Nat.le_trans (tot_le L la j hj) hA, by rw [← hFB]; exact Nat.le_trans (tot_le L lb j hj) hB⟩
  rw [hFA, hFB]
  clear hFA hFB
  unfold smV
  obtain ⟨w3, hw3⟩ : ∃ w3, (w2.alloc (.cells #[.int .i64 (FA 0), .int .i64 (FA 1), .int .i64 (FA 2), .int .i64 (FA 3), .int .i64 (FA 4), .int .i64 (FA 5)] 40)).alloc (.cells #[.int .i64 (FB 0), .int .i64 (FB 1), .int .i64 (FB 2), .int .i64 (FB 3), .int .i64 (FB 4), .int .i64 (FB 5)] 40) = w3 := ⟨_, rfl⟩
  have HB3 : Hid (Below W.heap.size W w3) := Lib.hid (by rw [← hw3]; exact (HB2.out.alloc HB2.out.size _).alloc (by have := HB2.out.size; simp; omega) _)
  obtain ⟨g, hg⟩ : ∃ g, w2.heap.size = g := ⟨_, rfl⟩
  have HSA : Hid (SmAt w3 g FA) := Lib.hid (by rw [← hw3, ← hg]; exact (SmAt.new w2 _ FA).later ((Below.refl _ _).alloc (Nat.le_refl _) _))
  have HSB : Hid (SmAt w3 (g + 1) FB) := Lib.hid (by
    rw [← hw3, ← hg]
    have := SmAt.new (w2.alloc (.cells #[.int .i64 (FA 0), .int .i64 (FA 1), .int .i64 (FA 2), .int .i64 (FA 3), .int .i64 (FA 4), .int .i64 (FA 5)] 40)) 40 FB
    rw [show (w2.alloc (.cells #[.int .i64 (FA 0), .int .i64 (FA 1), .int .i64 (FA 2), .int .i64 (FA 3), .int .i64 (FA 4), .int .i64 (FA 5)] 40)).heap.size = w2.heap.size + 1 by simp] at this
    exact this)
  have HM3 : Hid ((w3.alloc (.cells #[] 44)).ownsRow w3.heap.size 44 6 (.slice (some ⟨w3.heap.size, 0, none⟩) 0 0) 0 (cellsE [])) := Lib.hid (World.ownsRow_made w3 #[] 0 (Nat.le_refl _) (Nat.zero_le _) rfl)
  have HA3 : Hid (Below W.heap.size W (w3.alloc (.cells #[] 44))) := Lib.hid (HB3.out.alloc HB3.out.size _)
  have HGS := Lib.hid hg
  go_wp2_with (first
    | (at_builtin; refine wpList_append_row rfl (.tmp 35) (.tmp 36) rfl w3.heap.size (some ⟨w3.heap.size, 0, none⟩) 0 [] rfl HM3.out pa ca la rfl (HOA.out.later HA3.out) (by have := HLA.out; simp only [List.length_nil]; omega) (by simp) ?_; intro p5 c5 w5 ho5 hb5; have HO5 := Lib.hid ho5; have HX5 := Lib.hid (((Below.refl w3.heap.size w3).alloc (Nat.le_refl _) _).trans hb5); clear ho5 hb5)
    | (at_builtin; refine wpList_append_row rfl (.tmp 37) (.tmp 38) rfl w3.heap.size p5 c5 ([] ++ la) rfl HO5.out pb cb lb rfl (HOB.out.later (HB3.out.trans (HX5.out.mono HB3.out.size))) (by have := HLA.out; have := HLB.out; simp only [List.nil_append]; omega) HX5.out.size ?_; intro p6 c6 w6 ho6 hb6; have HO6 := Lib.hid ho6; have HB6 := Lib.hid hb6; clear ho6 hb6))
  have HLZ : Hid (([] ++ la ++ lb).length = la.length + lb.length) := Lib.hid (by simp)
  have HX6 : Hid (Below w3.heap.size w3 w6) := Lib.hid (HX5.out.trans HB6.out)
  have HB6W := Lib.hid (HB3.out.trans (HX6.out.mono HB3.out.size))
  refine (HTO.out w6 p6 ([] ++ la ++ lb) c6 _ HB6W.out (EvAt.of_owns HO6.out) HLZ.out (by have := HLA.out; have := HLB.out; omega)).mono ?_
  rintro e w7 ⟨rfl, hb7⟩
  have HX7 : Hid (Below w3.heap.size w3 w7) := Lib.hid (HX6.out.trans (hb7.mono HX6.out.size))
  have HB7 := Lib.hid (HB3.out.trans (HX7.out.mono HB3.out.size))
  have HSA7 := Lib.hid (HSA.out.later HX7.out)
  have HSB7 := Lib.hid (HSB.out.later HX7.out)
  clear hb7 HX5 HX6 HB6 HO5 HO6 HB6W HX7 HSA HSB HM3 HA3 hw3 hg HGS
  obtain ⟨FZ, hFZ⟩ : ∃ F : Nat → Nat, tot L ([] ++ la ++ lb) = F := ⟨_, rfl⟩
  have HFY : Hid (∀ j, j < 6 → ((FA j : Nat) : Int) + (FB j : Nat) = (FZ j : Nat)) := Lib.hid fun j hj => by have h1 := HFZ.out j hj; have h2 := congrFun hFZ j; rw [List.nil_append] at h2; omega
  rw [hFZ]
  clear hFZ HFZ
  unfold smV
  obtain ⟨w8, hw8⟩ : ∃ w8, w7.alloc (.cells #[.int .i64 (FZ 0), .int .i64 (FZ 1), .int .i64 (FZ 2), .int .i64 (FZ 3), .int .i64 (FZ 4), .int .i64 (FZ 5)] 40) = w8 := ⟨_, rfl⟩
  have hb8 : Below w7.heap.size w7 w8 := by rw [← hw8]; exact (Below.refl _ _).alloc (Nat.le_refl _) _
  have HSA8 := Lib.hid (HSA7.out.later hb8)
  have HSB8 := Lib.hid (HSB7.out.later hb8)
  have HB8 := Lib.hid (HB7.out.trans (hb8.mono HB7.out.size))
  obtain ⟨gz, hgz⟩ : ∃ g, w7.heap.size = g := ⟨_, rfl⟩
  have HSZ8 : Hid (SmAt w8 gz FZ) := Lib.hid (by rw [← hw8, ← hgz]; exact SmAt.new w7 _ FZ)
  clear hb8 HSA7 HSB7
  go_wp2_with (go_at_call 16; fail)
  refine (HCD.out w8 pa la ca la.length (HOA.out.later HB8.out) rfl (by omega)).mono ?_
  rintro e w9 ⟨rfl, hb9⟩
  have HX9 := Lib.hid hb9
  have HB9 := Lib.hid (HB8.out.trans (hb9.mono HB8.out.size))
  clear hb9
  go_wp2_with (go_at_call 16; fail)
  refine (HCD.out w9 pb lb cb lb.length (HOB.out.later HB9.out) rfl (by omega)).mono ?_
  rintro e w10 ⟨rfl, hb10⟩
  have HX10 : Hid (Below w8.heap.size w8 w10) := Lib.hid (HX9.out.trans (hb10.mono HX9.out.size))
  have HB10 := Lib.hid (HB8.out.trans (HX10.out.mono HB8.out.size))
  have HSA10 := Lib.hid (HSA8.out.later HX10.out)
  have HSB10 := Lib.hid (HSB8.out.later HX10.out)
  have HSZ10 := Lib.hid (HSZ8.out.later HX10.out)
  clear hb10 HX9 HX10 HB9 HSA8 HSB8 HSZ8 hw8 hgz
  obtain ⟨CA, hCA⟩ : ∃ F : Nat → Nat, (fun j => cK j la) = F := ⟨_, rfl⟩
  obtain ⟨CB, hCB⟩ : ∃ F : Nat → Nat, (fun j => cK j lb) = F := ⟨_, rfl⟩
  have HCAB : Hid (∀ j, CA j = cK j la ∧ CB j = cK j lb) := Lib.hid fun j => ⟨(congrFun hCA j).symm, (congrFun hCB j).symm⟩
  rw [hCA, hCB]
  clear hCA hCB
  unfold ctV
  obtain ⟨w11, hw11⟩ : ∃ w11, (w10.alloc (.cells #[.int .i64 (CA 0), .int .i64 (CA 1), .int .i64 (CA 2), .int .i64 (CA 3), .int .i64 (CA 4), .int .i64 (CA 5), .int .i64 (CA 6), .int .i64 (CA 7), .int .i64 (CA 8), .int .i64 (CA 9), .int .i64 (CA 10), .int .i64 (CA 11), .int .i64 (CA 12), .int .i64 (CA 13), .int .i64 (CA 14)] 41)).alloc (.cells #[.int .i64 (CB 0), .int .i64 (CB 1), .int .i64 (CB 2), .int .i64 (CB 3), .int .i64 (CB 4), .int .i64 (CB 5), .int .i64 (CB 6), .int .i64 (CB 7), .int .i64 (CB 8), .int .i64 (CB 9), .int .i64 (CB 10), .int .i64 (CB 11), .int .i64 (CB 12), .int .i64 (CB 13), .int .i64 (CB 14)] 41) = w11 := ⟨_, rfl⟩
  have hx11 : Below w10.heap.size w10 w11 := by rw [← hw11]; exact ((Below.refl _ _).alloc (Nat.le_refl _) _).alloc (by simp) _
  have HB11 := Lib.hid (HB10.out.trans (hx11.mono HB10.out.size))
  have HSA11 := Lib.hid (HSA10.out.later hx11)
  have HSB11 := Lib.hid (HSB10.out.later hx11)
  have HSZ11 := Lib.hid (HSZ10.out.later hx11)
  obtain ⟨k, hk⟩ : ∃ g, w10.heap.size = g := ⟨_, rfl⟩
  have HCA11 : Hid (CtAt w11 k CA) := Lib.hid (by rw [← hw11, ← hk]; exact (CtAt.of w10 _ CA).later ((Below.refl _ _).alloc (Nat.le_refl _) _))
  have HCB11 : Hid (CtAt w11 (k + 1) CB) := Lib.hid (by
    rw [← hw11, ← hk]
    have := CtAt.of (w10.alloc (.cells #[.int .i64 (CA 0), .int .i64 (CA 1), .int .i64 (CA 2), .int .i64 (CA 3), .int .i64 (CA 4), .int .i64 (CA 5), .int .i64 (CA 6), .int .i64 (CA 7), .int .i64 (CA 8), .int .i64 (CA 9), .int .i64 (CA 10), .int .i64 (CA 11), .int .i64 (CA 12), .int .i64 (CA 13), .int .i64 (CA 14)] 41)) 41 CB
    rw [show (w10.alloc (.cells #[.int .i64 (CA 0), .int .i64 (CA 1), .int .i64 (CA 2), .int .i64 (CA 3), .int .i64 (CA 4), .int .i64 (CA 5), .int .i64 (CA 6), .int .i64 (CA 7), .int .i64 (CA 8), .int .i64 (CA 9), .int .i64 (CA 10), .int .i64 (CA 11), .int .i64 (CA 12), .int .i64 (CA 13), .int .i64 (CA 14)] 41)).heap.size = w10.heap.size + 1 by simp] at this
    exact this)
  have HM11 : Hid ((w11.alloc (.cells #[] 44)).ownsRow w11.heap.size 44 6 (.slice (some ⟨w11.heap.size, 0, none⟩) 0 0) 0 (cellsE [])) := Lib.hid (World.ownsRow_made w11 #[] 0 (Nat.le_refl _) (Nat.zero_le _) rfl)
  have HA11 : Hid (Below W.heap.size W (w11.alloc (.cells #[] 44))) := Lib.hid (HB11.out.alloc HB11.out.size _)
  clear hx11 HSA10 HSB10 HSZ10
  go_wp2_with (first
    | (at_builtin; refine wpList_append_row rfl (.tmp 45) (.tmp 46) rfl w11.heap.size (some ⟨w11.heap.size, 0, none⟩) 0 [] rfl HM11.out pa ca la rfl (HOA.out.later HA11.out) (by have := HLA.out; simp only [List.length_nil]; omega) (by simp) ?_; intro p5 c5 w5 ho5 hb5; have HO5 := Lib.hid ho5; have HX5 := Lib.hid (((Below.refl w11.heap.size w11).alloc (Nat.le_refl _) _).trans hb5); clear ho5 hb5)
    | (at_builtin; refine wpList_append_row rfl (.tmp 47) (.tmp 48) rfl w11.heap.size p5 c5 ([] ++ la) rfl HO5.out pb cb lb rfl (HOB.out.later (HB11.out.trans (HX5.out.mono HB11.out.size))) (by have := HLA.out; have := HLB.out; simp only [List.nil_append]; omega) HX5.out.size ?_; intro p6 c6 w6 ho6 hb6; have HO6 := Lib.hid ho6; have HB6 := Lib.hid hb6; clear ho6 hb6))
  have HX6 : Hid (Below w11.heap.size w11 w6) := Lib.hid (HX5.out.trans HB6.out)
  have HB6W := Lib.hid (HB11.out.trans (HX6.out.mono HB11.out.size))
  refine (HCD.out w6 p6 ([] ++ la ++ lb) c6 _ (EvAt.of_owns HO6.out) HLZ.out (by have := HLA.out; have := HLB.out; omega)).mono ?_
  rintro e w12 ⟨rfl, hb12⟩
  have HX12 : Hid (Below w11.heap.size w11 w12) := Lib.hid (HX6.out.trans (hb12.mono HX6.out.size))
  have HB12 := Lib.hid (HB11.out.trans (HX12.out.mono HB11.out.size))
  have HSA12 := Lib.hid (HSA11.out.later HX12.out)
  have HSB12 := Lib.hid (HSB11.out.later HX12.out)
  have HSZ12 := Lib.hid (HSZ11.out.later HX12.out)
  have HCA12 := Lib.hid (HCA11.out.later HX12.out)
  have HCB12 := Lib.hid (HCB11.out.later HX12.out)
  clear hb12 HX5 HX6 HB6 HO5 HO6 HB6W HX12 HSA11 HSB11 HSZ11 HCA11 HCB11 HM11 HA11 hw11 hk
  obtain ⟨CZ, hCZ⟩ : ∃ F : Nat → Nat, (fun j => cK j ([] ++ la ++ lb)) = F := ⟨_, rfl⟩
  have HCY : Hid (∀ j, ((CA j : Nat) : Int) + (CB j : Nat) = (CZ j : Nat) ∧ CZ j ≤ 200) := Lib.hid fun j => by
    have h1 := congrFun hCZ j
    simp only [List.nil_append] at h1
    have h2 := ck_add j la lb
    obtain ⟨h3, h4⟩ := HCAB.out j
    have h5 := ck_le j (la ++ lb)
    rw [List.length_append] at h5
    have := HLA.out
    have := HLB.out
    omega
  rw [hCZ]
  clear hCZ HCAB
  unfold ctV
  obtain ⟨w13, hw13⟩ : ∃ w13, w12.alloc (.cells #[.int .i64 (CZ 0), .int .i64 (CZ 1), .int .i64 (CZ 2), .int .i64 (CZ 3), .int .i64 (CZ 4), .int .i64 (CZ 5), .int .i64 (CZ 6), .int .i64 (CZ 7), .int .i64 (CZ 8), .int .i64 (CZ 9), .int .i64 (CZ 10), .int .i64 (CZ 11), .int .i64 (CZ 12), .int .i64 (CZ 13), .int .i64 (CZ 14)] 41) = w13 := ⟨_, rfl⟩
  have hx13 : Below w12.heap.size w12 w13 := by rw [← hw13]; exact (Below.refl _ _).alloc (Nat.le_refl _) _
  have HB13 := Lib.hid (HB12.out.trans (hx13.mono HB12.out.size))
  have HSA13 := Lib.hid (HSA12.out.later hx13)
  have HSB13 := Lib.hid (HSB12.out.later hx13)
  have HSZ13 := Lib.hid (HSZ12.out.later hx13)
  have HCA13 := Lib.hid (HCA12.out.later hx13)
  have HCB13 := Lib.hid (HCB12.out.later hx13)
  obtain ⟨kz, hkz⟩ : ∃ g, w12.heap.size = g := ⟨_, rfl⟩
  have HCZ13 : Hid (CtAt w13 kz CZ) := Lib.hid (by rw [← hw13, ← hkz]; exact CtAt.of w12 _ CZ)
  clear hx13 HSA12 HSB12 HSZ12 HCA12 HCB12
  go_wp2
  clear hw13 hkz
  go_loopw [13] (fun iv wr => ∃ i : Nat, i ≤ 15 ∧ iv = .int .i64 i ∧ Below w13.heap.size w13 wr) (fun iv _ => 15 - (intOf iv).toNat)
  case atStart => exact ⟨0, Nat.zero_le _, rfl, Below.refl _ _⟩
  case round =>
    obtain ⟨i, hil, rfl, hb⟩ := hrel
    have HBR := Lib.hid hb
    clear hb
    have n0 : (0 : Int) ≤ (i : Int) := Int.natCast_nonneg _
    by_cases hlt : i < 15
    · have n1 : (i : Int) < 15 := by omega
      have a1 := (HCA13.out.later HBR.out).c i hlt
      have a2 := (HCB13.out.later HBR.out).c i hlt
      have a3 := (HCZ13.out.later HBR.out).c i hlt
      obtain ⟨y1, y2⟩ := HCY.out i
      generalize CA i = vA at *
      generalize CB i = vB at *
      generalize CZ i = vZ at *
      have y3 : IntKind.i64.wrap ((vA : Int) + (vB : Int)) = (vZ : Int) := by rw [y1, IntKind.wrap_i64]; omega
      clear y1
      have y4 : ((vZ : Int) == (vZ : Int)) = true := by simp
      clear y2
      go_wp2
      go_quiet (fail)
      go_wp2
      go_roundw
      case rel => exact ⟨i + 1, by omega, by go_num, below_drewN HBR.out _⟩
      case measure => simp [intOf]; omega
    · obtain rfl : i = 15 := by omega
      have HBW := Lib.hid (HB13.out.trans (HBR.out.mono HB13.out.size))
      have HAK := Lib.hid (HAW.out wr HBW.out)
      have a0 := (HSA13.out.later HBR.out).c 0 (by decide)
      have b0 := (HSB13.out.later HBR.out).c 0 (by decide)
      have z0 := (HSZ13.out.later HBR.out).c 0 (by decide)
      have y0 := HFY.out 0 (by decide)
      have l0 := HFAL.out 0 (by decide)
      have x0 : (((FZ 0 : Nat) : Int) == ((FZ 0 : Nat) : Int)) = true := by simp
      have v0 : IntKind.i64.wrap (((FA 0 : Nat) : Int) + ((FB 0 : Nat) : Int)) = ((FZ 0 : Nat) : Int) := by rw [y0, IntKind.wrap_i64]; omega
      clear y0 l0
      have a1 := (HSA13.out.later HBR.out).c 1 (by decide)
      have b1 := (HSB13.out.later HBR.out).c 1 (by decide)
      have z1 := (HSZ13.out.later HBR.out).c 1 (by decide)
      have y1 := HFY.out 1 (by decide)
      have l1 := HFAL.out 1 (by decide)
      have x1 : (((FZ 1 : Nat) : Int) == ((FZ 1 : Nat) : Int)) = true := by simp
      have v1 : IntKind.i64.wrap (((FA 1 : Nat) : Int) + ((FB 1 : Nat) : Int)) = ((FZ 1 : Nat) : Int) := by rw [y1, IntKind.wrap_i64]; omega
      clear y1 l1
      have a2 := (HSA13.out.later HBR.out).c 2 (by decide)
      have b2 := (HSB13.out.later HBR.out).c 2 (by decide)
      have z2 := (HSZ13.out.later HBR.out).c 2 (by decide)
      have y2 := HFY.out 2 (by decide)
      have l2 := HFAL.out 2 (by decide)
      have x2 : (((FZ 2 : Nat) : Int) == ((FZ 2 : Nat) : Int)) = true := by simp
      have v2 : IntKind.i64.wrap (((FA 2 : Nat) : Int) + ((FB 2 : Nat) : Int)) = ((FZ 2 : Nat) : Int) := by rw [y2, IntKind.wrap_i64]; omega
      clear y2 l2
      have a3 := (HSA13.out.later HBR.out).c 3 (by decide)
      have b3 := (HSB13.out.later HBR.out).c 3 (by decide)
      have z3 := (HSZ13.out.later HBR.out).c 3 (by decide)
      have y3 := HFY.out 3 (by decide)
      have l3 := HFAL.out 3 (by decide)
      have x3 : (((FZ 3 : Nat) : Int) == ((FZ 3 : Nat) : Int)) = true := by simp
      have v3 : IntKind.i64.wrap (((FA 3 : Nat) : Int) + ((FB 3 : Nat) : Int)) = ((FZ 3 : Nat) : Int) := by rw [y3, IntKind.wrap_i64]; omega
      clear y3 l3
      have a4 := (HSA13.out.later HBR.out).c 4 (by decide)
      have b4 := (HSB13.out.later HBR.out).c 4 (by decide)
      have z4 := (HSZ13.out.later HBR.out).c 4 (by decide)
      have y4 := HFY.out 4 (by decide)
      have l4 := HFAL.out 4 (by decide)
      have x4 : (((FZ 4 : Nat) : Int) == ((FZ 4 : Nat) : Int)) = true := by simp
      have v4 : IntKind.i64.wrap (((FA 4 : Nat) : Int) + ((FB 4 : Nat) : Int)) = ((FZ 4 : Nat) : Int) := by rw [y4, IntKind.wrap_i64]; omega
      clear y4 l4
      have a5 := (HSA13.out.later HBR.out).c 5 (by decide)
      have b5 := (HSB13.out.later HBR.out).c 5 (by decide)
      have z5 := (HSZ13.out.later HBR.out).c 5 (by decide)
      have y5 := HFY.out 5 (by decide)
      have l5 := HFAL.out 5 (by decide)
      have x5 : (((FZ 5 : Nat) : Int) == ((FZ 5 : Nat) : Int)) = true := by simp
      have v5 : IntKind.i64.wrap (((FA 5 : Nat) : Int) + ((FB 5 : Nat) : Int)) = ((FZ 5 : Nat) : Int) := by rw [y5, IntKind.wrap_i64]; omega
      clear y5 l5
      go_wp2_with (go_at_call 7; refine HAK.out.mono ?_; rintro e w14 ⟨rfl, hb14⟩; have HB14 := Lib.hid (HBW.out.trans (hb14.mono HBW.out.size)); clear hb14)
      go_ret
      exact ⟨rfl, HB14.out⟩
end Go.Proofs.YtodfkklkgcoddaaDoor.Ss
