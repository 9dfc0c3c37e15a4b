/-
  What the law looks at: painted; great; New.
-/
import Derived.Test.YtkfgchhlekdpgaaGreatDoorNtH
namespace Go.Proofs.YtkfgchhlekdpgaaGreatDoor.Nt
open Go.RowKit
open Hp (Ids St Is To Mine bnI coE coV colB objL)
open Lg (BfIs BxIs)
open Go.Proofs.YtkfgchhlekdpgaaGreatDoor.Row (Chg rowB Rd Rd0)
open Go.Proofs.YtkfgchhlekdpgaaGreatDoor.Addr (Tabs)

set_option maxRecDepth 100000 in
set_option maxHeartbeats 4000000 in
theorem painted_any {H : Nat} {d : Ids} {s : St} {m : Nat} (cf : Int → Int) (c : Int) (al fr : List Int) (p1 p2 p3 : Option Addr) (c1 c2 c3 : Nat) (V0 : World) (h : Is V0 H d s m) (h1 : Rd V0 p1 al) (h2 : Rd V0 p2 (al.map cf)) (h3 : Rd V0 p3 fr) (hal : al.length ≤ 1000000) (hfr : fr.length ≤ 1000000)
    (hok : ∀ a ∈ al, coE s a = 0 ∧ coV s a = if a ∈ fr then c else cf a) :
    Calls Tryz.prog 26 #[.pointer (some ⟨H, 0, none⟩), .slice p1 al.length c1, .slice p2 al.length c2, .slice p3 fr.length c3, .int .i64 c] V0 fun e w' => e = .returned (.bool true) ∧ Below V0.heap.size V0 w' := by
  have HI := Lib.hid h
  have H1 := Lib.hid h1
  have H2 := Lib.hid h2
  have H3 := Lib.hid h3
  have HAL := Lib.hid hal
  have HFR := Lib.hid hfr
  have HOK := Lib.hid hok
  clear h h1 h2 h3 hal hfr hok
  go_enter Tryz.func26, Tryz.ntmps26
  go_wp2_with fail
  go_loopw [11] (fun i wr => ∃ j : Nat, j ≤ al.length ∧ i = .int .i64 j ∧ Below V0.heap.size V0 wr) (fun i _ => al.length - (intOf i).toNat)
  case atStart => exact ⟨0, Nat.zero_le _, rfl, Below.refl _ _⟩
  case round =>
    obtain ⟨j, hj, rfl, hb⟩ := hrel
    have HB := Lib.hid hb
    clear hb
    have j0 : (0 : Int) ≤ (j : Int) := by omega
    by_cases hlt : j < al.length
    · have j1 : (j : Int) < (al.length : Int) := by omega
      have hj6 : (j : Int) ≤ 1000000 := by have := HAL.out; omega
      have hget : al[j]? = some (al.getD j 0) := by rw [List.getD_eq_getElem?_getD, List.getElem?_eq_getElem hlt]; rfl
      have hmem : al.getD j 0 ∈ al := List.mem_of_getElem? hget
      have hcf : (al.map cf).getD j 0 = cf (al.getD j 0) := by
        rw [List.getD_eq_getElem?_getD, List.getElem?_map, hget]; rfl
      obtain ⟨ho1, ho2⟩ := HOK.out _ hmem
      have HC := Lib.hid (Hp.color_any' (al.getD j 0) wr (HI.out.later HB.out))
      have R1 := (H1.out.later HB.out).at hlt
      have R2 := (H2.out.later HB.out).at (j := j) (by simpa using hlt)
      rw [hcf] at R2
      have HIN := Lib.hid (fun V hV => in_any p3 c3 fr (al.getD j 0) V (H3.out.later (HB.out.trans (Below.mono hV HB.out.size))).rd0 (by have := HFR.out; omega))
      rw [ho1, ho2] at HC
      generalize al.getD j 0 = a at *
      generalize cf a = cv at *
      obtain ⟨g, off, rfl, c0⟩ := R1
      obtain ⟨g2, off2, rfl, c0w⟩ := R2
      clear ho1 ho2 hget hmem hcf
      by_cases hm : a ∈ fr
      · rw [if_pos hm] at HC
        have hdm : decide (a ∈ fr) = true := decide_eq_true hm
        rw [hdm] at HIN
        have hcc : (c != c) = false := by simp
        clear hm hdm
        go_wp2_with (go_at_call 33; fail)
        refine HC.out.mono ?_
        rintro e w2 ⟨rfl, hb2⟩
        have HB2 := Lib.hid hb2
        have d0 := (hb2.cell (p := ⟨g, off + j, none⟩) (World.block_lt_of_cell? _ _ c0)).trans c0
        have d1 := (hb2.cell (p := ⟨g2, off2 + j, none⟩) (World.block_lt_of_cell? _ _ c0w)).trans c0w
        have HI2 := Lib.hid (HIN.out w2 hb2)
        clear hb2 c0 c0w
        go_wp2_with (go_at_call 21; refine HI2.out.mono ?_; rintro e w9 ⟨rfl, hw9⟩; cases hw9)
        go_roundw
        case rel => exact ⟨j + 1, by omega, by go_num, HB.out.trans (HB2.out.mono HB.out.size)⟩
        case measure => simp [intOf]; omega
      · rw [if_neg hm] at HC
        have hdm : decide (a ∈ fr) = false := decide_eq_false hm
        rw [hdm] at HIN
        have hcc : (cv != cv) = false := by simp
        clear hm hdm
        go_wp2_with (go_at_call 33; fail)
        refine HC.out.mono ?_
        rintro e w2 ⟨rfl, hb2⟩
        have HB2 := Lib.hid hb2
        have d0 := (hb2.cell (p := ⟨g, off + j, none⟩) (World.block_lt_of_cell? _ _ c0)).trans c0
        have d1 := (hb2.cell (p := ⟨g2, off2 + j, none⟩) (World.block_lt_of_cell? _ _ c0w)).trans c0w
        have HI2 := Lib.hid (HIN.out w2 hb2)
        clear hb2 c0 c0w
        go_wp2_with (go_at_call 21; refine HI2.out.mono ?_; rintro e w9 ⟨rfl, hw9⟩; cases hw9)
        go_roundw
        case rel => exact ⟨j + 1, by omega, by go_num, HB.out.trans (HB2.out.mono HB.out.size)⟩
        case measure => simp [intOf]; omega
    · obtain rfl : j = al.length := by omega
      go_wp2_with fail
      go_ret
      exact ⟨rfl, HB.out⟩

/-- What a noter has ahead of a noter. -/
structure Pb (w wr : World) (H : Nat) (d : Ids) (s : St) (m B X F room : Nat) (xs ys : List Int) (up : Bool) : Prop where
  is : Is wr H d s m
  lg : ∃ T, BfIs T wr B room xs ∧ BxIs T wr X ys ∧ (∀ k, T k → k < wr.heap.size) ∧ ∀ k, own H d B X F k → T k
  ne : X ≠ B ∧ F ≠ B ∧ F ≠ X
  nm : ¬ Mine H d B ∧ ¬ Mine H d X ∧ ¬ Mine H d F
  fl : wr.cell? ⟨F, 0, none⟩ = some (.bool up)
  ff : wr.frozen? ⟨F, 0, none⟩ = false
  bel : Below w.heap.size w wr
  ge : ∀ k, own H d B X F k → w.heap.size ≤ k
  tb : Tabs w
theorem Pb.later {w wr w' : World} {H : Nat} {d : Ids} {s : St} {m B X F room : Nat} {xs ys : List Int} {up : Bool} (h : Pb w wr H d s m B X F room xs ys up) (hb : Below wr.heap.size wr w') : Pb w w' H d s m B X F room xs ys up := by
  obtain ⟨T, t1, t2, t3, t4⟩ := h.lg
  exact ⟨h.is.later hb, ⟨T, t1.later hb, t2.later hb, fun k hk => Nat.lt_of_lt_of_le (t3 k hk) hb.size, t4⟩, h.ne, h.nm, (hb.cell (p := ⟨F, 0, none⟩) (lt_of_cell h.fl)).trans h.fl, (hb.frozen (p := ⟨F, 0, none⟩) (lt_of_cell h.fl)).trans h.ff, h.bel.trans (hb.mono h.bel.size), h.ge, h.tb⟩
theorem Pb.noter {w wr : World} {H : Nat} {d : Ids} {s : St} {m B X F room : Nat} {xs ys : List Int} {up : Bool} (h : Pb w wr H d s m B X F room xs ys up) {t : TypeId} :
    Nb ⟨w, fun _ => False, fun _ => False⟩ (wr.alloc (.cells #[.pointer (some ⟨H, 0, none⟩), .pointer (some ⟨B, 0, none⟩), .pointer (some ⟨X, 0, none⟩), .pointer (some ⟨F, 0, none⟩)] t)) H d s m B X F wr.heap.size room xs ys up [] := by
  have hb : Below wr.heap.size wr (wr.alloc (.cells #[.pointer (some ⟨H, 0, none⟩), .pointer (some ⟨B, 0, none⟩), .pointer (some ⟨X, 0, none⟩), .pointer (some ⟨F, 0, none⟩)] t)) := (Below.refl _ _).alloc (Nat.le_refl _) _
  have h2 := h.later hb
  obtain ⟨T, t1, t2, t3, t4⟩ := h.lg
  obtain ⟨T2, u1, u2, u3, u4⟩ := h2.lg
  exact ⟨h2.is, ⟨T2, u1, u2, u3, fun k hk => hk.elim (u4 k) (fun e => e.elim)⟩, h2.ne, h2.nm, h2.fl, h2.ff, World.cell?_alloc_new .., World.cell?_alloc_new .., World.cell?_alloc_new .., World.cell?_alloc_new .., fun e => by have := t3 _ (t4 _ e); omega, fun p hp => by simp at hp, Chg.of_below h2.bel, fun k hk => .inr (h2.ge k hk), h2.tb, fun _ _ e => e⟩
theorem new_any {w wr : World} {H : Nat} {d : Ids} {s : St} {m B X F room : Nat} {xs ys : List Int} {up : Bool} (h : Pb w wr H d s m B X F room xs ys up) :
    Calls Tryz.prog 14 #[.pointer (some ⟨H, 0, none⟩), .pointer (some ⟨B, 0, none⟩), .pointer (some ⟨X, 0, none⟩), .pointer (some ⟨F, 0, none⟩)] wr fun e w' => e = .returned (.tuple #[.pointer (some ⟨wr.heap.size, 0, none⟩), .int .i64 0]) ∧ Nb ⟨w, fun _ => False, fun _ => False⟩ w' H d s m B X F wr.heap.size room xs ys up [] := by
  have HN := Lib.hid (h.noter (t := 122))
  clear h
  go_enter Tryz.func14, Tryz.ntmps14
  go_wp2_with fail
  go_ret2
  exact ⟨rfl, HN.out⟩
end Go.Proofs.YtkfgchhlekdpgaaGreatDoor.Nt
