/-
  What a pour paints anew, as the law reckons it.
-/
import Derived.Test.YtkfgchhlekdpgaaGreatDoorNtG
namespace Go.Proofs.YtkfgchhlekdpgaaGreatDoor.Nt
open Go.RowKit
open Go.Proofs.YtkfgchhlekdpgaaGreatDoor.Row (Chg rowB Rd Rd0 cellsZ cellsZ_length cellsZ_at cellsZ_snoc owns_lt owns_slice owns_chg owns_base push_row info_parts infoInt one_at)

set_option maxRecDepth 100000 in
set_option maxHeartbeats 1000000 in
theorem in_any (p : Option Addr) (cp : Nat) (l : List Int) (x : Int) (w : World) (hp : Rd0 w p l) (hl : l.length ≤ 1048576) :
    Calls Tryz.prog 21 #[.slice p l.length cp, .int .i64 x] w fun e w' => e = .returned (.bool (decide (x ∈ l))) ∧ w = w' := by
  have HP := Lib.hid hp
  clear hp
  go_enter Tryz.func21, Tryz.ntmps21
  go_wp2
  go_loopw [5] (fun i wr => ∃ c : Nat, c ≤ l.length ∧ i = .int .i64 c ∧ x ∉ l.take c ∧ w = wr) (fun i _ => l.length - (intOf i).toNat)
  case atStart => exact ⟨0, by omega, rfl, by simp, rfl⟩
  case round =>
    obtain ⟨c, hc, rfl, hno, rfl⟩ := hrel
    have HNO := Lib.hid hno
    clear hno
    by_cases hlt : c < l.length
    · obtain ⟨b, off, rfl, h1⟩ := HP.out c hlt
      have i0 : (0 : Int) ≤ (c : Int) := Int.natCast_nonneg _
      have i1 : (c : Int) < (l.length : Int) := by omega
      have hget : l[c]? = some (l.getD c 0) := by rw [List.getD_eq_getElem?_getD]; simp [hlt]
      have hmem : l.getD c 0 ∈ l := List.mem_of_getElem? hget
      have HGET := Lib.hid hget
      have HMEM := Lib.hid hmem
      clear hget hmem
      generalize l.getD c 0 = y at *
      by_cases he : y = x
      · subst he
        have hyy : (y == y) = true := by simp
        have hd : decide (y ∈ l) = true := by simpa using HMEM.out
        go_wp2
        go_ret
        exact ⟨by rw [hd]; rfl, rfl⟩
      · have hyx : (y == x) = false := by simpa using he
        have hn2 : x ∉ l.take (c + 1) := by
          rw [List.take_add_one, HGET.out]
          simp only [Option.toList_some, List.mem_append, List.mem_singleton]
          exact fun h => h.elim HNO.out (fun e => he e.symm)
        have HN2 := Lib.hid hn2
        clear hn2
        go_wp2
        go_roundw
        case rel => exact ⟨c + 1, by omega, by go_num, HN2.out, trivial⟩
        case measure => simp [intOf]; omega
    · have hd : decide (x ∈ l) = false := by
        have := HNO.out
        rw [List.take_of_length_le (by omega)] at this
        simpa using this
      go_wp2
      go_ret
      exact ⟨by rw [hd]; rfl, rfl⟩


/-- What is painted anew. -/
def frS (cf : Int → Int) (c : Int) (acc : List Int) (a : Int) : List Int := if cf a ≠ c ∧ a ∉ acc then acc ++ [a] else acc
def frL (cf : Int → Int) (c : Int) (xs : List Int) : List Int := xs.foldl (frS cf c) []
theorem frL_len (cf : Int → Int) (c : Int) (xs : List Int) : (frL cf c xs).length ≤ xs.length := by
  have : ∀ (l acc : List Int), (l.foldl (frS cf c) acc).length ≤ acc.length + l.length := by
    intro l
    induction l with
    | nil => intro acc; simp
    | cons a r ih =>
      intro acc
      have h1 := ih (frS cf c acc a)
      have h2 : (frS cf c acc a).length ≤ acc.length + 1 := by unfold frS; split <;> simp
      simp only [List.foldl_cons, List.length_cons]
      omega
  have h := this xs []
  simpa [frL] using h
def poR (cf : Int → Int) (c : Int) (xs : List Int) (n : Nat) : List Int := if xs = [] then [] else if n = 0 then [] else frL cf c xs
def poK (cf : Int → Int) (c : Int) (xs : List Int) (n : Nat) : Nat := if xs = [] then 0 else if n = 0 then 1 else if frL cf c xs = [] then xs.length + 1 else xs.length + 2
/-- What poured tells. -/
def PourP (cf : Int → Int) (c : Int) (xs : List Int) (n : Nat) (V0 : World) (e : Ending) (w' : World) : Prop := ∃ p cap, e = .returned (.tuple #[.slice p (poR cf c xs n).length cap, .int .i64 (poK cf c xs n)]) ∧ Rd w' p (poR cf c xs n) ∧ Below V0.heap.size V0 w'
theorem was_at {al : List Int} {cf : Int → Int} {a : Int} (h : a ∈ al) : plN al a < al.length ∧ (al.map cf).getD (plN al a) 0 = cf a := by
  have h1 := List.idxOf_lt_length_of_mem h
  have e : plN al a = al.idxOf a := by unfold plN; rw [if_pos h]
  rw [e]
  refine ⟨h1, ?_⟩
  rw [List.getD_eq_getElem?_getD, List.getElem?_map, List.getElem?_eq_getElem h1, List.getElem_idxOf]; rfl
set_option maxRecDepth 100000 in
set_option maxHeartbeats 4000000 in
theorem poured_any (cf : Int → Int) (c : Int) (n : Nat) (al xs : List Int) (p1 p2 p3 : Option Addr) (c1 c2 c3 : Nat) (V0 : World) (h1 : Rd V0 p1 al) (h2 : Rd V0 p2 (al.map cf)) (h3 : Rd V0 p3 xs) (hal : al.length ≤ 1000000) (hxs : xs.length ≤ 1000000) (hin : ∀ a ∈ xs, a ∈ al) :
    Calls Tryz.prog 23 #[.slice p1 al.length c1, .slice p2 al.length c2, .slice p3 xs.length c3, .int .i64 n, .int .i64 c] V0 (PourP cf c xs n V0) := by
  obtain ⟨i0, hinf, hz0, hz1, hz2⟩ := info_parts infoInt
  by_cases hx0 : xs = []
  · have HF : Hid (PourP cf c xs n V0 (.returned (.tuple #[.slice none 0 0, .int .i64 0])) V0) := Lib.hid (by
      unfold PourP poR poK; rw [if_pos hx0, if_pos hx0]; exact ⟨none, 0, rfl, Rd.nil _, Below.refl _ _⟩)
    have hl : ((xs.length : Int) == 0) = true := by subst hx0; rfl
    clear h1 h2 h3 hal hxs hin hx0
    generalize xs.length = L at *
    go_enter Tryz.func23, Tryz.ntmps23
    go_wp2_with fail
    go_ret2
    exact HF.out
  · have hl : ((xs.length : Int) == 0) = false := by
      rw [beq_eq_false_iff_ne]
      have := List.length_pos_iff.2 hx0
      omega
    by_cases hn : n = 0
    · have HF : Hid (PourP cf c xs n V0 (.returned (.tuple #[.slice none 0 0, .int .i64 1])) V0) := Lib.hid (by
        unfold PourP poR poK; rw [if_neg hx0, if_neg hx0, if_pos hn, if_pos hn]; exact ⟨none, 0, rfl, Rd.nil _, Below.refl _ _⟩)
      have hl2 : ((n : Int) == 0) = true := by subst hn; rfl
      clear h1 h2 h3 hal hxs hin hx0 hn
      generalize xs.length = L at *
      go_enter Tryz.func23, Tryz.ntmps23
      go_wp2_with fail
      go_ret2
      exact HF.out
    · have hl2 : ((n : Int) == 0) = false := by rw [beq_eq_false_iff_ne]; omega
      have HF1 : Hid (∀ p cap w', Rd w' p (frL cf c xs) → Below V0.heap.size V0 w' → frL cf c xs ≠ [] → PourP cf c xs n V0 (.returned (.tuple #[.slice p (frL cf c xs).length cap, .int .i64 ((xs.length : Int) + 2)])) w') := Lib.hid fun p cap w' a b hne => by
        unfold PourP poR poK; rw [if_neg hx0, if_neg hx0, if_neg hn, if_neg hn, if_neg hne]; exact ⟨p, cap, rfl, a, b⟩
      have HF2 : Hid (∀ w', Below V0.heap.size V0 w' → frL cf c xs = [] → PourP cf c xs n V0 (.returned (.tuple #[.slice none 0 0, .int .i64 ((xs.length : Int) + 1)])) w') := Lib.hid fun w' b he => by
        unfold PourP poR poK; rw [if_neg hx0, if_neg hx0, if_neg hn, if_neg hn, if_pos he, he]; exact ⟨none, 0, rfl, Rd.nil _, b⟩
      have H1 := Lib.hid h1
      have H2 := Lib.hid h2
      have H3 := Lib.hid h3
      have HAL := Lib.hid hal
      have HXS := Lib.hid hxs
      have HIN := Lib.hid hin
      clear h1 h2 h3 hal hxs hin hx0 hn
      go_enter Tryz.func23, Tryz.ntmps23
      go_wp2_with fail
      go_loopw [12, 13] (fun o i wr => ∃ j : Nat, j ≤ xs.length ∧ i = .int .i64 j ∧ ∃ po co, o = .slice po (frL cf c (xs.take j)).length co ∧ wr.ownsRow V0.heap.size 3 1 (.slice po (frL cf c (xs.take j)).length co) (frL cf c (xs.take j)).length (cellsZ (frL cf c (xs.take j))) ∧ Below V0.heap.size V0 wr) (fun _ i _ => xs.length - (intOf i).toNat)
      case atStart => exact ⟨0, Nat.zero_le _, rfl, none, 0, rfl, ⟨rfl, .inl ⟨rfl, rfl⟩⟩, Below.refl _ _⟩
      case round =>
        obtain ⟨j, hj, rfl, po, co, rfl, hown, hb⟩ := hrel
        have HOW := Lib.hid hown
        have HB := Lib.hid hb
        have HLE : Hid ((frL cf c (xs.take j)).length ≤ 1000000) := Lib.hid (by have := frL_len cf c (xs.take j); have := HXS.out; simp at *; omega)
        clear hown hb
        have j0 : (0 : Int) ≤ (j : Int) := by omega
        by_cases hlt : j < xs.length
        · have j1 : (j : Int) < (xs.length : Int) := by omega
          have hj6 : (j : Int) ≤ 1000000 := by have := HXS.out; omega
          obtain ⟨g, off, rfl, c0⟩ := (H3.out.later HB.out).at hlt
          have HMEM : Hid (xs.getD j 0 ∈ al) := Lib.hid (HIN.out _ (by rw [List.getD_eq_getElem?_getD, List.getElem?_eq_getElem hlt]; simp))
          have HTK : Hid (frL cf c (xs.take (j + 1)) = frS cf c (frL cf c (xs.take j)) (xs.getD j 0)) := Lib.hid (by rw [take_snoc hlt]; unfold frL; rw [List.foldl_append]; rfl)
          generalize hf1 : frL cf c (xs.take (j + 1)) = fl1 at HTK
          have HF0 := Lib.hid hf1
          clear hf1
          generalize frL cf c (xs.take j) = fl at *
          generalize xs.getD j 0 = a at *
          obtain ⟨hpl, hgw⟩ := was_at (cf := cf) HMEM.out
          obtain ⟨g2, off2, rfl, c2w⟩ := (H2.out.later HB.out).at (j := plN al a) (by simpa using hpl)
          rw [hgw] at c2w
          have HPL := Lib.hid (place_any p1 c1 al a wr (H1.out.later HB.out) HAL.out)
          have q0 : (0 : Int) ≤ (plN al a : Int) := by omega
          have q1 : (plN al a : Int) < (al.length : Int) := by omega
          generalize plN al a = pl at *
          generalize hcv : cf a = cv at *
          by_cases hc : cv = c
          · have hne : (cv != c) = false := by simp [hc]
            have HEQ : Hid (fl1 = fl) := Lib.hid (by rw [HTK.out]; unfold frS; rw [hcv, if_neg (fun e => e.1 hc)])
            clear hpl hgw hcv hc HTK
            go_wp2_with (go_at_call 22; refine HPL.out.mono ?_; rintro e w9 ⟨rfl, hw9⟩; cases hw9)
            go_roundw
            case rel => exact ⟨j + 1, by omega, by go_num, po, co, by rw [HF0.out, HEQ.out], by rw [HF0.out, HEQ.out]; exact HOW.out, HB.out⟩
            case measure => simp [intOf]; omega
          · have hne : (cv != c) = true := by rw [bne_iff_ne]; exact hc
            have HIA := Lib.hid (in_any po co fl a wr (Rd.of_owns HOW.out).rd0 (by have := HLE.out; omega))
            by_cases hm : a ∈ fl
            · have HEQ : Hid (fl1 = fl) := Lib.hid (by rw [HTK.out]; unfold frS; rw [if_neg (fun e => e.2 hm)])
              have hdm : decide (a ∈ fl) = true := decide_eq_true hm
              rw [hdm] at HIA
              clear hpl hgw hcv hc HTK hm hdm
              go_wp2_with (first
                | (go_at_call 22; refine HPL.out.mono ?_; rintro e w9 ⟨rfl, hw9⟩; cases hw9)
                | (go_at_call 21; refine HIA.out.mono ?_; rintro e w9 ⟨rfl, hw9⟩; cases hw9))
              go_roundw
              case rel => exact ⟨j + 1, by omega, by go_num, po, co, by rw [HF0.out, HEQ.out], by rw [HF0.out, HEQ.out]; exact HOW.out, HB.out⟩
              case measure => simp [intOf]; omega
            · have HEQ : Hid (fl1 = fl ++ [a]) := Lib.hid (by rw [HTK.out]; unfold frS; rw [if_pos ⟨by rw [hcv]; exact hc, hm⟩])
              have hdm : decide (a ∈ fl) = false := decide_eq_false hm
              rw [hdm] at HIA
              have HOV : Hid (∀ V o, Below wr.heap.size wr V → (V.alloc o).ownsRow V0.heap.size 3 1 (.slice po fl.length co) fl.length (cellsZ fl)) := Lib.hid fun V o hV => owns_chg HOW.out (Chg.of_below (S := fun _ => False) (hV.alloc hV.size o)) (fun _ _ e => e)
              have HSZ : Hid (∀ V o, Below wr.heap.size wr V → V0.heap.size ≤ (V.alloc o).heap.size) := Lib.hid fun V o hV => by
                have := hV.size; have := HB.out.size; rw [World.size_alloc]; omega
              have HR0 : Hid (Below wr.heap.size wr wr) := Lib.hid (Below.refl _ _)
              have HLF : Hid (fl.length + 1 ≤ 1000001) := Lib.hid (by have := HLE.out; omega)
              clear hpl hgw hcv hc HTK hm hdm
              have hlf := HLF.out
              generalize hfn : fl.length = fn at *
              have HFN := Lib.hid hfn
              clear hfn
              go_wp2_with (first
                | (go_at_call 22; refine HPL.out.mono ?_; rintro e w9 ⟨rfl, hw9⟩; cases hw9)
                | (go_at_call 21; refine HIA.out.mono ?_; rintro e w9 ⟨rfl, hw9⟩; cases hw9)
                | (at_builtin; refine wpList_append_own_at _ rfl _ _ 40 rfl V0.heap.size 3 i0 (.int .i64 0) 1 8 Tryz.underlying40 hinf hz0 hz1 hz2 rfl (by decide) (.slice po fn co) fn (cellsZ fl) rfl (HOV.out _ _ HR0.out) ⟨wr.heap.size, 0, none⟩ 1 1 [.int .i64 a] rfl rfl (one_at rfl) (by simp [Value.oneCell']) (by unfold maxLen; omega) (by omega) (HSZ.out _ _ HR0.out) ?_; intro v' w3 hown hgrow _ hat; obtain ⟨p', cap', rfl, hC, hR⟩ := push_row (Y := wr.alloc (.cells #[.int .i64 a] 3)) (p := po) (cap := co) (n := fn) (Below.refl _ _) hown hgrow hat; have HO3 := Lib.hid hown; have HC3 := Lib.hid hC; clear hown hgrow hat hC hR))
              go_roundw
              case rel =>
                refine ⟨j + 1, by omega, by go_num, p', cap', by rw [HF0.out, HEQ.out, List.length_append, HFN.out]; rfl, ?_, HB.out.trans (((HR0.out.alloc HR0.out.size _).mono HB.out.size).trans (HC3.out.below (fun k hk => (owns_lt HOW.out hk).1) (HSZ.out _ _ HR0.out)))⟩
                rw [HF0.out, HEQ.out, List.length_append, HFN.out, cellsZ_snoc]
                exact HO3.out
              case measure => simp [intOf]; omega
        · obtain rfl : j = xs.length := by omega
          have hOW := HOW.out
          rw [List.take_length] at hOW
          have HRD := Lib.hid (Rd.of_owns hOW)
          have HTL : Hid (frL cf c (xs.take xs.length) = frL cf c xs) := Lib.hid (by rw [List.take_length])
          have hle6 : (xs.length : Int) ≤ 1000000 := by have := HXS.out; omega
          clear hOW HOW
          generalize hf1 : frL cf c (xs.take xs.length) = f1 at *
          obtain rfl : f1 = frL cf c xs := HTL.out
          by_cases he : frL cf c xs = []
          · have hlz : (frL cf c xs).length = 0 := by rw [he]; rfl
            have HG := Lib.hid (HF2.out wr HB.out he)
            rw [hlz]
            clear he hlz hf1 HLE
            go_wp2_with fail
            go_ret2
            exact HG.out
          · have hlz : (0 : Int) < ((frL cf c xs).length : Int) := by have := List.length_pos_iff.2 he; omega
            have HG := Lib.hid (HF1.out po co wr HRD.out HB.out he)
            clear he hf1 HLE HRD
            generalize (frL cf c xs).length = fn at *
            go_wp2_with fail
            go_ret2
            exact HG.out
end Go.Proofs.YtkfgchhlekdpgaaGreatDoor.Nt
