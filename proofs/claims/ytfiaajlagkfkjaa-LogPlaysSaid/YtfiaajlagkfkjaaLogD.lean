/-
  The law LogPasses answers true, for every room and every row of numbers.
-/
import Derived.Test.YtfiaajlagkfkjaaLogC
namespace Go.Proofs.Ytfiaajlagkfkjaa.Lg
open Go.RowKit
open Go.Proofs.Ytfiaajlagkfkjaa.Row

/-- The numbers of a row that came in, below S. -/
def IntsP (S : Nat) (W : World) (p : Option Addr) (zs : List Int) : Prop := ∀ j, j < zs.length → ∃ b off, p = some ⟨b, off, none⟩ ∧ b < S ∧ W.cell? ⟨b, off + j, none⟩ = some (.int .i64 (zs.getD j 0))
theorem IntsP.below {S : Nat} {W W' : World} {p : Option Addr} {zs : List Int} (h : IntsP S W p zs) (hb : Below S W W') : IntsP S W' p zs := fun j hj => by
  obtain ⟨b, off, e, hb', hc⟩ := h j hj
  exact ⟨b, off, e, hb', (hb.cell (p := ⟨b, off + j, none⟩) hb').trans hc⟩
theorem IntsP.rd0 {S : Nat} {W : World} {p : Option Addr} {zs : List Int} (h : IntsP S W p zs) : Rd0 W p zs := fun j hj => by
  obtain ⟨b, off, e, _, hc⟩ := h j hj
  exact ⟨b, off, e, hc⟩
theorem take_snoc (l : List Int) {c : Nat} (h : c < l.length) : l.take c ++ [l.getD c 0] = l.take (c + 1) := by
  rw [List.take_add_one, List.getD_eq_getElem?_getD]
  simp [h]
/-- How long a row is. -/
def sliceLen : Value → Nat
  | .slice _ n _ => n
  | _ => 0

/-- A buffer's block, a box's, or a row's. -/
def BXR (B X : Nat) (p : Option Addr) (k : Nat) : Prop := k = B ∨ k = X ∨ rowB p k
theorem BfIs.retag {T U : Nat → Prop} {w : World} {B room : Nat} {xs : List Int} (h : BfIs T w B room xs) (hU : ∀ k, U k → k < w.heap.size → T k) (hB : U B) : BfIs U w B room xs := by
  obtain ⟨p, cap, hr⟩ := h.row
  exact ⟨h.r1, h.r2, h.len, h.c1, p, cap, hr.retag hU hB⟩
theorem BxIs.retag {T U : Nat → Prop} {w : World} {X : Nat} {ys : List Int} (h : BxIs T w X ys) (hU : ∀ k, U k → k < w.heap.size → T k) (hB : U X) : BxIs U w X ys := by
  obtain ⟨p, cap, hr⟩ := h
  exact ⟨p, cap, hr.retag hU hB⟩
/-- What is taken from a box that may be empty. -/
theorem Lo.bnext {S : Nat} {T : Nat → Prop} {w wr : World} {B X room : Nat} {xs ys : List Int} (h : Lo S T w wr B X room xs ys) (hS : S ≤ w.heap.size) :
    Calls Try.prog 23 #[.pointer (some ⟨X, 0, none⟩)] wr fun e w' => ∃ (v : Int) (ok : Bool) (ys' : List Int), e = .returned (.tuple #[.int .i64 v, .bool ok]) ∧ Lo S T w w' B X room xs ys' ∧ Chg (BX B X) wr w' ∧ ((ok = true ∧ ys = v :: ys') ∨ (ok = false ∧ ys = [] ∧ ys' = [])) := by
  rcases ys with _ | ⟨y, ys⟩
  · exact (bnext_empty wr h.bx).mono fun e w' ⟨he, hw⟩ => ⟨0, false, [], he, hw ▸ h, hw ▸ Chg.refl _ _, .inr ⟨rfl, rfl, rfl⟩⟩
  · exact (h.btake hS).mono fun e w' ⟨he, hl, hc⟩ => ⟨y, true, ys, he, hl, hc, .inl ⟨rfl, rfl⟩⟩

/-- A buffer, a box, and a row that came out. -/
structure Ps (S : Nat) (w wr : World) (B X room : Nat) (xs ys os : List Int) (po : Option Addr) (co : Nat) : Prop where
  lo : Lo S (BXR B X po) w wr B X room xs ys
  own : wr.ownsRow S 3 1 (.slice po os.length co) os.length (cellsZ os)
  nB : ¬ rowB po B
  nX : ¬ rowB po X
theorem Ps.turn {S : Nat} {w wr w' : World} {B X room : Nat} {xs ys xs' ys' os : List Int} {po : Option Addr} {co : Nat} (h : Ps S w wr B X room xs ys os po co) (hl : Lo S (BXR B X po) w w' B X room xs' ys') (hc : Chg (BX B X) wr w') : Ps S w w' B X room xs' ys' os po co :=
  ⟨hl, owns_chg h.own hc (fun g hg e => e.elim (fun e => h.nB (e ▸ hg)) (fun e => h.nX (e ▸ hg))), h.nB, h.nX⟩
theorem Ps.push {S : Nat} {w wr w3 : World} {B X room : Nat} {xs ys os : List Int} {po : Option Addr} {co : Nat} {a : Int} {v' : Value} (h : Ps S w wr B X room xs ys os po co) (hS : S ≤ w.heap.size)
    (hown : w3.ownsRow S 3 1 v' (os.length + 1) (cellsZ os ++ [.int .i64 a])) (hg : (wr.alloc (.cells #[.int .i64 a] 3)).grownBy w3 (Value.slice po os.length co).ownBlock)
    (hat : v'.ownBlock = (Value.slice po os.length co).ownBlock ∨ v'.ownBlock = some (wr.alloc (.cells #[.int .i64 a] 3)).heap.size) :
    ∃ po' co', v' = .slice po' (os ++ [a]).length co' ∧ Ps S w w3 B X room xs ys (os ++ [a]) po' co' := by
  obtain ⟨po', co', rfl, hC, hR⟩ := push_row ((Below.refl _ wr).alloc (Nat.le_refl _) _) hown hg hat
  have hlen : (os ++ [a]).length = os.length + 1 := by simp
  have hSr : S ≤ wr.heap.size := Nat.le_trans hS h.lo.bel.size
  have hB := h.lo.bf.ltB
  have hX := h.lo.bx.ltX
  have nB' : ¬ rowB po' B := fun e => (hR B e).elim h.nB (by omega)
  have nX' : ¬ rowB po' X := fun e => (hR X e).elim h.nX (by omega)
  refine ⟨po', co', by rw [hlen], ⟨?_, by rw [hlen, cellsZ_snoc]; exact hown, nB', nX'⟩⟩
  have hU : ∀ k, (BXR B X po k ∨ rowB po' k) → k < wr.heap.size → BXR B X po k := fun k hk hlt => hk.elim id fun e => (hR k e).elim (fun e => .inr (.inr e)) (by omega)
  have hV : ∀ k, BXR B X po' k → k < w3.heap.size → (BXR B X po k ∨ rowB po' k) := fun k hk _ => hk.elim (fun e => .inl (.inl e)) fun e => e.elim (fun e => .inl (.inr (.inl e))) .inr
  exact ⟨((h.lo.bf.retag hU (.inl (.inl rfl))).chg hC (fun k e => .inl (.inr (.inr e))) h.nB).retag hV (.inl rfl), ((h.lo.bx.retag hU (.inl (.inr (.inl rfl)))).chg hC (fun k e => .inl (.inr (.inr e))) h.nX).retag hV (.inr (.inl rfl)),
    h.lo.bel.trans (hC.below (fun k e => (owns_lt h.own e).1) hSr), h.lo.ne, h.lo.sB, h.lo.sX, fun k hk => by
      rcases hk with e | e | e
      · exact e ▸ Nat.lt_of_lt_of_le hB hC.size
      · exact e ▸ Nat.lt_of_lt_of_le hX hC.size
      · exact (owns_lt hown e).2⟩

set_option maxRecDepth 100000 in
set_option maxHeartbeats 8000000 in
theorem passes_walk (s : Nat) (hs : s < 256) (pa : Option Addr) (ca : Nat) (l : List Int) (w : World) (ha : IntsP w.heap.size w pa l) (hla : l.length ≤ maxLen) :
    Calls Try.prog 9 #[.int .u8 s, .slice pa l.length ca] w fun e w' => e = .returned (.bool true) ∧ Below w.heap.size w w' := by
  unfold maxLen at hla
  obtain ⟨i0, hinf, hz0, hz1, hz2⟩ := info_parts infoInt
  have HA := Lib.hid ha
  clear ha
  by_cases hbig : 200 < l.length
  · have h1 : (200 : Int) < (l.length : Int) := by omega
    go_enter Try.func9, Try.ntmps9
    go_wp2_with fail
    refine (awake_any _).mono ?_
    rintro e w1 ⟨rfl, hb1⟩
    have HB1 := Lib.hid hb1
    clear hb1
    go_wp2
    go_ret
    exact ⟨rfl, HB1.out⟩
  have h1 : (l.length : Int) ≤ 200 := by omega
  have hd1 : decide ((200 : Int) < (l.length : Int)) = false := by simpa using h1
  obtain ⟨k, hk1, hk2, hk⟩ : ∃ k : Nat, 1 ≤ k ∧ k ≤ 8 ∧ 1 + (s : Int) % 8 = (k : Int) := ⟨1 + s % 8, by omega, by omega, by omega⟩
  go_enter Try.func9, Try.ntmps9
  go_wp2_with fail
  refine (new_good k _ (by omega) _ hk1 (by omega)).mono ?_
  rintro e w1 ⟨rfl, hb, hb1, hz1⟩
  have HB := Lib.hid hb
  have HB1 := Lib.hid hb1
  clear hb hb1
  go_wp2_with fail
  refine (box_new _).mono ?_
  rintro e w2 ⟨rfl, hx, hb2, hz2⟩
  have hlo : Ps w.heap.size w w2 w.heap.size w1.heap.size k [] [] [] none 0 :=
    ⟨⟨(HB.out _ (.inl rfl)).later hb2, hx _ (.inr (.inl rfl)), HB1.out.trans (hb2.mono HB1.out.size), by omega, Nat.le_refl _, by omega, fun k hk => hk.elim (fun e => by omega) (fun e => e.elim (fun e => by omega) (fun e => absurd e (rowB_none _)))⟩, ⟨rfl, .inl ⟨rfl, rfl⟩⟩, rowB_none _, rowB_none _⟩
  have HO := Lib.hid hlo
  clear hx hb2 hlo HB HB1
  generalize hB : w.heap.size = B at *
  have HS : Hid (B = w.heap.size) := Lib.hid hB.symm
  generalize w1.heap.size = X at *
  clear hz1 hz2 hB hk
  go_wp2_with fail
  go_loopw [8, 9] (fun ov i wr => ∃ (c : Nat) (xs ys os : List Int) (po : Option Addr) (co : Nat), c ≤ l.length ∧ i = .int .i64 c ∧ ov = .slice po os.length co ∧ os ++ ys ++ xs = l.take c ∧ Ps B w wr B X k xs ys os po co) (fun _ i _ => l.length - (intOf i).toNat)
  case atStart => exact ⟨0, [], [], [], none, 0, Nat.zero_le _, rfl, rfl, rfl, HO.out⟩
  case round =>
    clear HO
    obtain ⟨c, xs, ys, os, po, co, hc, rfl, rfl, hcat, hst⟩ := hrel
    have HO := Lib.hid hst
    have hshort := hst.lo.bf.len
    clear hst
    by_cases hlt : c < l.length
    · have i1 : (0 : Int) ≤ (c : Int) := Int.natCast_nonneg _
      have i2 : (c : Int) < (l.length : Int) := by omega
      go_wp2_with fail
      refine (HO.out.lo.full (Nat.le_of_eq HS.out)).mono ?_
      rintro e w3 ⟨rfl, h3, c3⟩
      have H3 := Lib.hid (HO.out.turn h3 c3)
      clear h3 c3 HO
      by_cases hf : xs.length = k
      · rw [show decide (xs.length = k) = true by simpa using hf]
        go_wp2_with fail
        refine (H3.out.lo.bnext (Nat.le_of_eq HS.out)).mono ?_
        rintro e w4 ⟨v, ok, ys', rfl, h4, c4, hv⟩
        have H4 := Lib.hid (H3.out.turn h4 c4)
        have HV := Lib.hid hv
        have HC := Lib.hid hcat
        clear h4 c4 H3 hv hcat
        obtain ⟨D, hD⟩ : ∃ D : List Int, os ++ ys = D := ⟨_, rfl⟩
        have hDl : D.length ≤ 200 := by have h := congrArg List.length HC.out; rw [hD] at h; simp at h; omega
        go_wp2_with fail
        go_loopw [8, 10, 11] (fun ov av okv wr => ∃ (oo yy : List Int) (vv : Int) (kk : Bool) (pp : Option Addr) (cc : Nat), ov = .slice pp oo.length cc ∧ av = .int .i64 vv ∧ okv = .bool kk ∧ Ps B w wr B X k xs yy oo pp cc ∧ ((kk = true ∧ oo ++ vv :: yy = D) ∨ (kk = false ∧ yy = [] ∧ oo = D))) (fun ov _ _ _ => D.length - sliceLen ov)
        case atStart => exact ⟨os, ys', v, ok, po, co, rfl, rfl, rfl, H4.out, by
          rcases HV.out with ⟨e1, e2⟩ | ⟨e1, e2, e3⟩
          · exact .inl ⟨e1, by rw [← hD, e2]⟩
          · exact .inr ⟨e1, e3, by rw [← hD, e2]; simp⟩⟩
        case round =>
          clear H4 HV
          obtain ⟨oo, yy, vv, kk, pp, cc, rfl, rfl, rfl, hps, hv⟩ := hrel
          have HP := Lib.hid hps
          clear hps
          rcases hv with ⟨rfl, hcat2⟩ | ⟨rfl, rfl, hcat2⟩
          · have hol : oo.length < D.length := by rw [← hcat2]; simp
            have HC2 := Lib.hid hcat2
            have hSr : B ≤ wr.heap.size := Nat.le_trans (Nat.le_of_eq HS.out) HP.out.lo.bel.size
            have HOW : Hid ((wr.alloc (.cells #[.int .i64 vv] 3)).ownsRow B 3 1 (.slice pp oo.length cc) oo.length (cellsZ oo)) := Lib.hid (owns_block HP.out.own (fun g hg => Below.heap_alloc _ _ _ (owns_lt HP.out.own hg).2))
            clear hcat2
            go_wp2_with (at_builtin; refine wpList_append_own_at _ rfl _ _ 28 rfl B 3 i0 (.int .i64 0) 1 8 Try.underlying28 hinf hz0 hz1 hz2 rfl (by decide) (.slice pp oo.length cc) _ (cellsZ oo) rfl HOW.out ⟨wr.heap.size, 0, none⟩ 1 1 [.int .i64 vv] rfl rfl (one_at rfl) (by simp [Value.oneCell']) (by unfold maxLen; omega) (by omega) (by simp; omega) ?_)
            intro v' w5 hown hgrow _ hat
            obtain ⟨p5, c5, rfl, h5⟩ := HP.out.push (Nat.le_of_eq HS.out) hown hgrow (by simpa using hat)
            have H5 := Lib.hid h5
            clear hown hgrow hat h5 HP HOW
            go_wp2_with fail
            refine (H5.out.lo.bnext (Nat.le_of_eq HS.out)).mono ?_
            rintro e w6 ⟨v6, ok6, y6, rfl, h6, c6, hv6⟩
            have H6 := Lib.hid (H5.out.turn h6 c6)
            have HV6 := Lib.hid hv6
            clear h6 c6 H5 hv6
            go_wp2
            go_roundw
            case rel => exact ⟨oo ++ [vv], y6, v6, ok6, p5, c5, by simp, rfl, rfl, H6.out, by
              rcases HV6.out with ⟨e1, e2⟩ | ⟨e1, e2, e3⟩
              · exact .inl ⟨e1, by rw [← HC2.out, e2]; simp⟩
              · exact .inr ⟨e1, e3, by rw [← HC2.out, e2]⟩⟩
            case measure => simp [sliceLen]; omega
          · subst hcat2
            obtain ⟨bb, off, rfl, hbS, hcx⟩ := HA.out c hlt
            have hw0 := hcx
            go_wp2_with fail
            refine (HP.out.lo.hand (Nat.le_of_eq HS.out)).mono ?_
            rintro e w5 ⟨rfl, h5, c5⟩
            have H5 := Lib.hid (HP.out.turn h5 c5)
            have hcx := (h5.bel.cell (p := ⟨bb, off + c, none⟩) hbS).trans hw0
            have hsn := take_snoc l hlt
            have HSN := Lib.hid hsn
            clear h5 c5 HP hsn hw0
            generalize l.getD c 0 = x at *
            go_wp2_with fail
            refine (H5.out.lo.add (Nat.le_of_eq HS.out) (by simp; omega) x).mono ?_
            rintro e w6 ⟨rfl, h6, c6⟩
            have H6 := Lib.hid (H5.out.turn h6 c6)
            clear h6 c6 H5
            go_wp2
            go_roundw
            case rel => exact ⟨c + 1, [] ++ [x], xs, oo, pp, cc, by omega, by go_num, rfl, by rw [← HSN.out, ← HC.out, ← hD]; simp, H6.out⟩
            case measure => simp [intOf]; omega
      · rw [show decide (xs.length = k) = false by simpa using hf]
        obtain ⟨bb, off, rfl, hbS, hcx⟩ := (HA.out.below H3.out.lo.bel) c hlt
        have HC := Lib.hid hcat
        have hsn := take_snoc l hlt
        have HSN := Lib.hid hsn
        clear hcat hsn
        generalize l.getD c 0 = x at *
        go_wp2_with fail
        refine (H3.out.lo.add (Nat.le_of_eq HS.out) (by omega) x).mono ?_
        rintro e w4 ⟨rfl, h4, c4⟩
        have H4 := Lib.hid (H3.out.turn h4 c4)
        clear h4 c4 H3
        go_wp2
        go_roundw
        case rel => exact ⟨c + 1, xs ++ [x], ys, os, po, co, by omega, by go_num, rfl, by rw [← HSN.out, ← HC.out]; simp, H4.out⟩
        case measure => simp [intOf]; omega
    · obtain rfl : c = l.length := by omega
      rw [List.take_length] at hcat
      generalize wr = wx at *
      clear hlt hc
      go_wp2_with fail
      go_loopw [8, 12] (fun ov nv wr => ∃ (n : Nat) (xs ys os : List Int) (po : Option Addr) (co : Nat), n ≤ 2 ∧ nv = .int .i64 n ∧ ov = .slice po os.length co ∧ os ++ ys ++ xs = l ∧ (1 ≤ n → xs = []) ∧ (n = 2 → ys = []) ∧ Ps B w wr B X k xs ys os po co) (fun _ nv _ => 2 - (intOf nv).toNat)
      case atStart => exact ⟨0, xs, ys, os, po, co, by omega, rfl, rfl, hcat, by omega, by omega, HO.out⟩
      case round =>
        clear HO hcat hshort
        obtain ⟨n, xs, ys, os, po, co, hn, rfl, rfl, hcat, hx1, hy2, hst⟩ := hrel
        have HO := Lib.hid hst
        have HC := Lib.hid hcat
        clear hst hcat
        by_cases hlt : n < 2
        · clear hy2
          go_wp2_with fail
          refine (HO.out.lo.bnext (Nat.le_of_eq HS.out)).mono ?_
          rintro e w4 ⟨v, ok, ys', rfl, h4, c4, hv⟩
          have G4 := Lib.hid (HO.out.turn h4 c4)
          have HV := Lib.hid hv
          clear h4 c4 HO hv
          obtain ⟨D, hD⟩ : ∃ D : List Int, os ++ ys = D := ⟨_, rfl⟩
          have hDl : D.length ≤ 200 := by have h := congrArg List.length HC.out; rw [hD] at h; simp at h; omega
          go_wp2_with fail
          go_loopw [8, 13, 14] (fun ov av okv wr => ∃ (oo yy : List Int) (vv : Int) (kk : Bool) (pp : Option Addr) (cc : Nat), ov = .slice pp oo.length cc ∧ av = .int .i64 vv ∧ okv = .bool kk ∧ Ps B w wr B X k xs yy oo pp cc ∧ ((kk = true ∧ oo ++ vv :: yy = D) ∨ (kk = false ∧ yy = [] ∧ oo = D))) (fun ov _ _ _ => D.length - sliceLen ov)
          case atStart => exact ⟨os, ys', v, ok, po, co, rfl, rfl, rfl, G4.out, by
            rcases HV.out with ⟨e1, e2⟩ | ⟨e1, e2, e3⟩
            · exact .inl ⟨e1, by rw [← hD, e2]⟩
            · exact .inr ⟨e1, e3, by rw [← hD, e2]; simp⟩⟩
          case round =>
            clear G4 HV
            obtain ⟨oo, yy, vv, kk, pp, cc, rfl, rfl, rfl, hps, hv⟩ := hrel
            have HP := Lib.hid hps
            clear hps
            rcases hv with ⟨rfl, hcat2⟩ | ⟨rfl, rfl, hcat2⟩
            · have hol : oo.length < D.length := by rw [← hcat2]; simp
              have HC2 := Lib.hid hcat2
              have hSr : B ≤ wr.heap.size := Nat.le_trans (Nat.le_of_eq HS.out) HP.out.lo.bel.size
              have HOW : Hid ((wr.alloc (.cells #[.int .i64 vv] 3)).ownsRow B 3 1 (.slice pp oo.length cc) oo.length (cellsZ oo)) := Lib.hid (owns_block HP.out.own (fun g hg => Below.heap_alloc _ _ _ (owns_lt HP.out.own hg).2))
              clear hcat2
              go_wp2_with (at_builtin; refine wpList_append_own_at _ rfl _ _ 28 rfl B 3 i0 (.int .i64 0) 1 8 Try.underlying28 hinf hz0 hz1 hz2 rfl (by decide) (.slice pp oo.length cc) _ (cellsZ oo) rfl HOW.out ⟨wr.heap.size, 0, none⟩ 1 1 [.int .i64 vv] rfl rfl (one_at rfl) (by simp [Value.oneCell']) (by unfold maxLen; omega) (by omega) (by simp; omega) ?_)
              intro v' w5 hown hgrow _ hat
              obtain ⟨p5, c5, rfl, h5⟩ := HP.out.push (Nat.le_of_eq HS.out) hown hgrow (by simpa using hat)
              have H5 := Lib.hid h5
              clear hown hgrow hat h5 HP HOW
              go_wp2_with fail
              refine (H5.out.lo.bnext (Nat.le_of_eq HS.out)).mono ?_
              rintro e w6 ⟨v6, ok6, y6, rfl, h6, c6, hv6⟩
              have H6 := Lib.hid (H5.out.turn h6 c6)
              have HV6 := Lib.hid hv6
              clear h6 c6 H5 hv6
              go_wp2
              go_roundw
              case rel => exact ⟨oo ++ [vv], y6, v6, ok6, p5, c5, by simp, rfl, rfl, H6.out, by
                rcases HV6.out with ⟨e1, e2⟩ | ⟨e1, e2, e3⟩
                · exact .inl ⟨e1, by rw [← HC2.out, e2]; simp⟩
                · exact .inr ⟨e1, e3, by rw [← HC2.out, e2]⟩⟩
              case measure => simp [sliceLen]; omega
            · subst hcat2
              rcases n with _ | n
              · go_wp2_with fail
                refine (HP.out.lo.hand (Nat.le_of_eq HS.out)).mono ?_
                rintro e w5 ⟨rfl, h5, c5⟩
                have H5 := Lib.hid (HP.out.turn h5 c5)
                clear h5 c5 HP
                go_wp2
                go_roundw
                case rel => exact ⟨1, [], xs, oo, pp, cc, by omega, rfl, rfl, by rw [← HC.out, ← hD]; simp, fun _ => rfl, by omega, H5.out⟩
                case measure => simp [intOf]
              · obtain rfl : n = 0 := by omega
                obtain rfl : xs = [] := hx1 (by omega)
                go_wp2
                go_roundw
                case rel => exact ⟨2, [], [], oo, pp, cc, by omega, by go_num, rfl, by rw [← HC.out, ← hD]; simp, fun _ => rfl, fun _ => rfl, HP.out⟩
                case measure => simp [intOf]
        · obtain rfl : n = 2 := by omega
          obtain rfl : xs = [] := hx1 (by omega)
          obtain rfl : ys = [] := hy2 rfl
          obtain rfl : os = l := by have := HC.out; simpa using this
          go_wp2_with fail
          refine (same_ints po pa co ca os wr (Rd.of_owns HO.out.own).rd0 (HA.out.below HO.out.lo.bel).rd0 (by omega)).mono ?_
          rintro e w4 ⟨rfl, qn, rfl⟩
          have H4 := Lib.hid (HO.out.lo.drew (Nat.le_of_eq HS.out) qn)
          go_wp2_with fail
          refine H4.out.len.mono ?_
          rintro e wa ⟨rfl, rfl⟩
          have HB3 : Hid (Below w.heap.size w (wr.drewN qn)) := Lib.hid (HS.out ▸ H4.out.bel)
          go_wp2_with fail
          refine (awake_any _).mono ?_
          rintro e w5 ⟨rfl, hb5⟩
          have HB5 := Lib.hid hb5
          clear hb5
          go_wp2
          go_ret
          exact ⟨rfl, HB3.out.trans (HB5.out.mono HB3.out.size)⟩
end Go.Proofs.Ytfiaajlagkfkjaa.Lg
