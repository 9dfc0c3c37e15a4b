/-
  The document's graph: Do, Roots, Reach.
-/
import Derived.Test.YtcdnbheoelnghaaDoorGrZg
namespace Go.Proofs.YtcdnbheoelnghaaDoor.Gra
open Go.RowKit Go.Proofs.YtcdnbheoelnghaaDoor.Opr

theorem sorted_eq : ∀ (l m : List Int), l.Pairwise (· < ·) → m.Pairwise (· < ·) → (∀ x, x ∈ l ↔ x ∈ m) → l = m
  | [], [], _, _, _ => rfl
  | [], b :: m, _, _, h => by have := (h b).2 (by simp); cases this
  | a :: l, [], _, _, h => by have := (h a).1 (by simp); cases this
  | a :: l, b :: m, hl, hm, h => by
    rw [List.pairwise_cons] at hl hm
    have hab : a = b := by
      have h1 := (h a).1 (by simp)
      have h2 := (h b).2 (by simp)
      rcases List.mem_cons.1 h1 with e | e
      · exact e
      · rcases List.mem_cons.1 h2 with e2 | e2
        · exact e2.symm
        · have := hl.1 b e2
          have := hm.1 a e
          omega
    subst hab
    rw [sorted_eq l m hl.2 hm.2 (fun x => ⟨fun hx => ?_, fun hx => ?_⟩)]
    · rcases List.mem_cons.1 ((h x).1 (List.mem_cons_of_mem _ hx)) with e | e
      · have := hl.1 x hx; omega
      · exact e
    · rcases List.mem_cons.1 ((h x).2 (List.mem_cons_of_mem _ hx)) with e | e
      · have := hm.1 x hx; omega
      · exact e

theorem rdo_any {b wd lg st : Int} {M r nc : Nat} {W : World} {B base : Nat} {pz pp : Option Addr} {cz cp : Nat} {zs : List Int} {L : List Pl} {s : GSt} (h : Rg W B base ⟨b, wd, M, r, nc, lg, st⟩ pz cz zs pp cp L) (rel : Rel s zs L) (wf : GWf M r nc s) (hl : L.length ≤ 100000) (hN : s.nO ≤ 100000) (m k a x cc : Int) :
    Calls Tryd.prog 10 #[.pointer (some ⟨B, 0, none⟩), .int .i64 m, .agg #[.int .i64 k, .int .i64 a, .int .i64 x, .int .i64 cc]] W fun e w' => e = .returned (.tuple #[.int .i64 (gV ⟨b, wd, M, r, nc, lg, st⟩ s (m, k, a, x, cc)), .int .i64 (gE ⟨b, wd, M, r, nc, lg, st⟩ s (m, k, a, x, cc))]) ∧ RE W w' B base ⟨b, wd, M, r, nc, lg, st⟩ pz pp L.length (gS ⟨b, wd, M, r, nc, lg, st⟩ s (m, k, a, x, cc)) := by
  by_cases hm : 0 ≤ m ∧ m < (M : Int)
  · by_cases hck : checkE b wd M r nc lg st k a x cc = 0
    · have e1 : gE ⟨b, wd, M, r, nc, lg, st⟩ s (m, k, a, x, cc) = (gd s m k a x cc).2.1 ∧ gV ⟨b, wd, M, r, nc, lg, st⟩ s (m, k, a, x, cc) = (gd s m k a x cc).1 ∧ gS ⟨b, wd, M, r, nc, lg, st⟩ s (m, k, a, x, cc) = (gd s m k a x cc).2.2 := by
        unfold gE gV gS gdo
        simp only
        rw [if_neg (by simpa using hm), if_neg (by simpa using hck)]
        exact ⟨rfl, rfl, rfl⟩
      rw [e1.1, e1.2.1, e1.2.2]
      rcases isK_cases (check_kind hck).1 with rfl | rfl | rfl | rfl | rfl | rfl | rfl | rfl
      · exact rdo_alloc h rel wf hl hN m a x cc hm hck _ _ _ rfl
      · exact rdo_load h rel wf hl hN m a x cc hm hck _ _ _ rfl
      · exact rdo_store h rel wf hl hN m a x cc hm hck _ _ _ rfl
      · exact rdo_get h rel wf hl hN m a x cc hm hck _ _ _ rfl
      · exact rdo_set h rel wf hl hN m a x cc hm hck _ _ _ rfl
      · exact rdo_drop h rel wf hl hN m a x cc hm hck _ _ _ rfl
      · exact rdo_move h rel wf hl hN m a x cc hm hck _ _ _ rfl
      · exact rdo_safe h rel wf hl hN m a x cc hm hck _ _ _ rfl
    · have e1 : gE ⟨b, wd, M, r, nc, lg, st⟩ s (m, k, a, x, cc) = checkE b wd M r nc lg st k a x cc ∧ gV ⟨b, wd, M, r, nc, lg, st⟩ s (m, k, a, x, cc) = 0 ∧ gS ⟨b, wd, M, r, nc, lg, st⟩ s (m, k, a, x, cc) = s := by
        unfold gE gV gS gdo
        simp only
        rw [if_neg (by simpa using hm), if_pos hck]
        exact ⟨rfl, rfl, rfl⟩
      exact rdo_check h rel wf hl hN m k a x cc _ hm rfl hck _ _ _ ⟨e1.2.1, e1.1, e1.2.2⟩
  · exact rdo_out h rel wf hl hN m k a x cc hm

/-- The numbers from 1 on that are so. -/
def selL (p : Int → Bool) (n : Nat) : List Int := ((List.range n).map fun i : Nat => (i : Int) + 1).filter p
theorem selL_succ (p : Int → Bool) (n : Nat) : selL p (n + 1) = if p ((n : Int) + 1) = true then selL p n ++ [(n : Int) + 1] else selL p n := by
  unfold selL
  rw [List.range_succ, List.map_append, List.filter_append]
  by_cases h : p ((n : Int) + 1) = true
  · rw [if_pos h]; simp [h]
  · rw [if_neg h]; simp [h]
theorem mem_selL {p : Int → Bool} {n : Nat} {v : Int} : v ∈ selL p n ↔ 1 ≤ v ∧ v ≤ n ∧ p v = true := by
  unfold selL
  rw [List.mem_filter, List.mem_map]
  constructor
  · rintro ⟨⟨i, hi, rfl⟩, h⟩
    have := List.mem_range.1 hi
    exact ⟨by omega, by omega, h⟩
  · rintro ⟨h1, h2, h⟩
    exact ⟨⟨(v - 1).toNat, List.mem_range.2 (by omega), by omega⟩, h⟩
theorem selL_len (p : Int → Bool) (n : Nat) : (selL p n).length ≤ n := by
  unfold selL
  refine Nat.le_trans (List.length_filter_le _ _) ?_
  simp
theorem selL_sorted (p : Int → Bool) (n : Nat) : (selL p n).Pairwise (· < ·) := by
  unfold selL
  refine List.Pairwise.filter _ ?_
  rw [List.pairwise_map]
  exact (List.pairwise_lt_range (n := n)).imp (fun h => by omega)
theorem srt_sorted (l : List Int) : (srt l).Pairwise (· ≤ ·) := by
  unfold srt
  exact (List.pairwise_mergeSort (le := fun x y => decide (x ≤ y)) (fun a b c h1 h2 => by simp only [decide_eq_true_eq] at *; omega) (fun a b => by simp only [Bool.or_eq_true, decide_eq_true_eq]; omega) l).imp (fun h => by simpa using h)
theorem comp_sorted {l : List Int} (h : l.Pairwise (· ≤ ·)) : (Lib.compact l).Pairwise (· < ·) := by
  unfold Lib.compact Lib.compactUpTo
  rw [List.pairwise_map]
  have hle : ∀ i j : Nat, i ≤ j → j < l.length → l.toArray[i]! ≤ l.toArray[j]! := fun i j hij hj => by
    have hi : i < l.length := by omega
    rw [getElem!_pos l.toArray i (by simpa using hi), getElem!_pos l.toArray j (by simpa using hj)]
    by_cases e : i = j
    · subst e; exact Int.le_refl _
    · exact (List.pairwise_iff_getElem.1 h) i j hi hj (by omega)
  rw [List.pairwise_filter]
  refine List.Pairwise.imp_of_mem (R := fun i j => i < j) (fun {i j} hi hj hij => ?_) List.pairwise_lt_range
  intro _ hk
  have hj2 := List.mem_range.1 hj
  unfold Lib.keeps at hk
  rw [decide_eq_true_eq] at hk
  rcases hk with e | e
  · omega
  · have h1 := hle i (j - 1) (by omega) (by omega)
    have h2 := hle (j - 1) j (by omega) hj2
    omega
theorem rtL_sorted (s : GSt) : (rtL s).Pairwise (· < ·) := by
  unfold rtL nzL
  exact (comp_sorted (srt_sorted _)).filter _
theorem rtL_sel {M r nc : Nat} {s : GSt} (wf : GWf M r nc s) (p : Int → Bool) (h : ∀ v, v ≠ 0 → (p v = true ↔ v ∈ rwL s)) : rtL s = selL p s.nO := by
  refine sorted_eq _ _ (rtL_sorted s) (selL_sorted _ _) fun x => ?_
  rw [mem_selL]
  constructor
  · intro hx
    have h1 := rt_bound wf x hx
    obtain ⟨h2, h3⟩ := mem_rt hx
    exact ⟨h1.1, h1.2, (h x h3).2 h2⟩
  · rintro ⟨h1, h2, h3⟩
    exact mem_rt2 ((h x (by omega)).1 h3) (by omega)
theorem rcS_sel {M r nc : Nat} {s : GSt} (wf : GWf M r nc s) (p : Int → Bool) (h : ∀ v : Int, 1 ≤ v → v ≤ s.nO → (p v = true ↔ Rch (rtL s) (fun u => s.E (ob u)) v)) : rcS s = selL p s.nO := by
  have hs : (rcS s).Pairwise (· < ·) := by
    unfold rcS rchL
    rw [List.pairwise_map]
    refine List.Pairwise.filter _ ((List.pairwise_lt_range (n := s.nO + 1)).imp (fun h => ?_))
    show (_ : Int) < _
    exact Int.ofNat_lt.2 h
  refine sorted_eq _ _ hs (selL_sorted _ _) fun x => ?_
  rw [mem_selL]
  constructor
  · intro hx
    obtain ⟨h1, h2, h3⟩ := mem_rchL.1 hx
    have hb := h3.bound (rt_bound wf) (fd_bound wf)
    exact ⟨hb.1, hb.2, (h x hb.1 hb.2).2 h3⟩
  · rintro ⟨h1, h2, h3⟩
    exact mem_rchL.2 ⟨by omega, h2, (h x h1 h2).1 h3⟩
end Go.Proofs.YtcdnbheoelnghaaDoor.Gra

namespace Go.Proofs.YtcdnbheoelnghaaDoor.Gra
open Go.RowKit Go.Proofs.YtcdnbheoelnghaaDoor.Opr
open Go.Proofs.YtcdnbheoelnghaaDoor.Row (Chg rowB rowB_none Rd Rd0 cellsZ cellsZ_length cellsZ_at info_parts infoInt owns_lt owns_slice owns_chg owns_block owns_base)

def rq (v : Int) (x : Pl) : Bool := decide (x.1 < 3) && x.2.2.2 == v
def rootB (L : List Pl) (v : Int) : Bool := L.any (rq v)
def oL (L : List Pl) (j t : Nat) : List Int := if (L.take t).any (rq ((j : Int) + 1)) = true then selL (rootB L) j ++ [(j : Int) + 1] else selL (rootB L) j
theorem any_succ {L : List Pl} {t : Nat} {x : Pl} (hx : L[t]? = some x) (q : Pl → Bool) : (L.take (t + 1)).any q = ((L.take t).any q || q x) := by
  rw [List.take_add_one, hx, List.any_append]
  simp
theorem oL_zero (L : List Pl) (j : Nat) : oL L j 0 = selL (rootB L) j := by unfold oL; simp
theorem oL_all (L : List Pl) (j : Nat) : oL L j L.length = selL (rootB L) (j + 1) := by
  unfold oL
  rw [selL_succ, List.take_length]
  rfl
theorem oL_len (L : List Pl) (j t : Nat) : (oL L j t).length ≤ j + 1 := by
  unfold oL
  have := selL_len (rootB L) j
  split
  · rw [List.length_append]; simp; omega
  · omega
theorem oL_in (L : List Pl) (j t : Nat) : decide ((j : Int) + 1 ∈ oL L j t) = (L.take t).any (rq ((j : Int) + 1)) := by
  unfold oL
  by_cases h : (L.take t).any (rq ((j : Int) + 1)) = true
  · rw [if_pos h, h]; simp
  · rw [if_neg h]
    have h2 : (L.take t).any (rq ((j : Int) + 1)) = false := by simpa using h
    rw [h2, decide_eq_false_iff_not]
    intro hm
    have := (mem_selL.1 hm).2.1
    omega
theorem oL_skip {L : List Pl} {j t : Nat} {x : Pl} (hx : L[t]? = some x) (h : (L.take t).any (rq ((j : Int) + 1)) = true ∨ rq ((j : Int) + 1) x = false) : oL L j (t + 1) = oL L j t := by
  unfold oL
  rw [any_succ hx]
  rcases h with h | h
  · rw [h, Bool.true_or]
  · rw [h, Bool.or_false]
theorem oL_add {L : List Pl} {j t : Nat} {x : Pl} (hx : L[t]? = some x) (h : (L.take t).any (rq ((j : Int) + 1)) = false) (h2 : rq ((j : Int) + 1) x = true) : oL L j (t + 1) = oL L j t ++ [(j : Int) + 1] := by
  unfold oL
  rw [any_succ hx, h, h2]
  simp
set_option maxRecDepth 100000 in
set_option maxHeartbeats 4000000 in
theorem rroots_any {W : World} {M base : Nat} {c : C7} {pz pp : Option Addr} {cz cp : Nat} {zs : List Int} {L : List Pl} (h : Rg W M base c pz cz zs pp cp L) (hl : L.length ≤ 100000) (hz : zs.length ≤ 1000) :
    Calls Tryd.prog 14 #[.pointer (some ⟨M, 0, none⟩)] W (NewR W (selL (rootB L) zs.length)) := by
  have H := Lib.hid h
  have l6 : (L.length : Int) ≤ 100000 := by omega
  have z6 : (zs.length : Int) ≤ 1000 := by omega
  have hlM : M < W.heap.size := (h.ltM (.inl rfl)).2
  clear h
  go_enter Tryd.func14, Tryd.ntmps14
  go_wp2_with fail
  go_loopw [3, 4] (fun ov i wr => ∃ (j : Nat) (p : Option Addr) (cap : Nat), j ≤ zs.length ∧ i = .int .i64 ((j : Int) + 1) ∧ ov = .slice p (selL (rootB L) j).length cap ∧ wr.ownsRow W.heap.size 3 1 (.slice p (selL (rootB L) j).length cap) (selL (rootB L) j).length (cellsZ (selL (rootB L) j)) ∧ Below W.heap.size W wr) (fun _ i _ => zs.length + 1 - (intOf i).toNat)
  case atStart => exact ⟨0, none, 0, Nat.zero_le _, rfl, rfl, ⟨rfl, .inl ⟨rfl, rfl⟩⟩, Below.refl _ _⟩
  case round =>
    obtain ⟨j, p, cap, hj, rfl, rfl, ho, hb⟩ := hrel
    have HO := Lib.hid ho
    have HB := Lib.hid hb
    have c7 := (H.out.later hb).c7
    have c8 := (H.out.later hb).c8
    have hlM2 : M < wr.heap.size := by have := hb.size; omega
    clear ho hb
    have j0 : (0 : Int) ≤ (j : Int) := by omega
    by_cases hlt : j < zs.length
    · have j1 : (j : Int) + 1 ≤ (zs.length : Int) := by omega
      have hjl : decide ((j : Int) + 1 ≤ (zs.length : Int)) = true := decide_eq_true j1
      have HO2 := HO
      rw [← oL_zero L j] at HO2
      have e0 := Lib.hid (oL_zero L j)
      rw [← e0.out]
      go_wp2_with fail
      go_loopw [3, 5] (fun ov i wr => ∃ (t : Nat) (p : Option Addr) (cap : Nat), t ≤ L.length ∧ i = .int .i64 (t : Int) ∧ ov = .slice p (oL L j t).length cap ∧ wr.ownsRow W.heap.size 3 1 (.slice p (oL L j t).length cap) (oL L j t).length (cellsZ (oL L j t)) ∧ Below W.heap.size W wr) (fun _ i _ => L.length - (intOf i).toNat)
      case atStart => exact ⟨0, p, cap, Nat.zero_le _, rfl, rfl, HO2.out, HB.out⟩
      case round =>
        clear HO HO2 HB c7 c8 hlM2
        obtain ⟨t, p, cap, ht, rfl, rfl, ho, hb⟩ := hrel
        have HO := Lib.hid ho
        have HB := Lib.hid hb
        have HRG := Lib.hid (H.out.later hb)
        have c7 := HRG.out.c7
        have c8 := HRG.out.c8
        have hlM2 : M < wr.heap.size := by have := hb.size; omega
        clear ho hb
        have t0 : (0 : Int) ≤ (t : Int) := by omega
        by_cases hlk : t < L.length
        · have t1 : (t : Int) < (L.length : Int) := by omega
          obtain ⟨g, x, hx, hg, d0, d1, d2, d3⟩ := HRG.out.at hlk
          have HX := Lib.hid hx
          have hlg : g < wr.heap.size := lt_of_cell d0
          subst hg
          clear hx
          obtain ⟨x0, x1, x2, x3⟩ := x
          simp only at d0 d1 d2 d3
          by_cases h3 : x0 < 3
          · have g3 : decide (x0 < 3) = true := decide_eq_true h3
            by_cases h4 : x3 = (j : Int) + 1
            · have g4 : (x3 == (j : Int) + 1) = true := by simp [h4]
              have HQ : Hid (rq ((j : Int) + 1) (x0, x1, x2, x3) = true) := Lib.hid (by unfold rq; simp only; rw [g3, g4]; rfl)
              have HIN := Lib.hid (in_any p cap (oL L j t) ((j : Int) + 1) wr (Rd.of_owns HO.out).rd0 (by have := oL_len L j t; omega))
              rw [oL_in] at HIN
              cases hany : (L.take t).any (rq ((j : Int) + 1)) with
              | true =>
                have HK := Lib.hid (oL_skip HX.out (.inl hany))
                rw [hany] at HIN
                generalize oL L j t = l at *
                clear h3 h4 hany
                go_wp2_with (go_at_call 22; fail)
                refine HIN.out.mono ?_
                rintro e w9 ⟨rfl, hw9⟩
                obtain rfl : w9 = wr := hw9.symm
                clear hw9 HIN
                go_wp2_with fail
                go_roundw
                case rel => exact ⟨t + 1, p, cap, by omega, by go_num, by rw [HK.out], by rw [HK.out]; exact HO.out, HB.out⟩
                case measure => simp [intOf]; omega
              | false =>
                have HK := Lib.hid (oL_add HX.out hany HQ.out)
                have HLL := Lib.hid (oL_len L j t)
                rw [hany] at HIN
                generalize oL L j t = l at *
                have HOW : Hid ((wr.alloc (.cells #[.int .i64 ((j : Int) + 1)] 3)).ownsRow W.heap.size 3 1 (.slice p l.length cap) l.length (cellsZ l)) := Lib.hid (owns_chg HO.out (Chg.of_below (S := fun _ => False) ((Below.refl _ _).alloc (Nat.le_refl _) _)) (fun _ _ e => e))
                have HRO : Hid (Rd0 (wr.alloc (.cells #[.int .i64 ((j : Int) + 1)] 3)) (some ⟨wr.heap.size, 0, none⟩) [(j : Int) + 1]) := Lib.hid (fun i hi => by
                  obtain rfl : i = 0 := by simpa using hi
                  exact ⟨_, 0, rfl, by rw [World.cell?_alloc_new]; rfl⟩)
                have HSZ : Hid (W.heap.size ≤ (wr.alloc (.cells #[.int .i64 ((j : Int) + 1)] 3)).heap.size) := Lib.hid (by have := HB.out.size; rw [World.size_alloc]; omega)
                have HL1 : Hid (l.length + 1 ≤ 1048576) := Lib.hid (by have := HLL.out; omega)
                have HBA : Hid (Below W.heap.size W (wr.alloc (.cells #[.int .i64 ((j : Int) + 1)] 3))) := Lib.hid (HB.out.alloc HB.out.size _)
                clear h3 h4 hany
                go_wp2_with (go_at_call 22; fail)
                refine HIN.out.mono ?_
                rintro e w9 ⟨rfl, hw9⟩
                obtain rfl : w9 = wr := hw9.symm
                clear hw9 HIN
                go_wp2_with (at_builtin; refine wpList_append_row rfl (.tmp 51) (.tmp 53) rfl W.heap.size p cap l rfl HOW.out (some ⟨w9.heap.size, 0, none⟩) 1 [(j : Int) + 1] rfl HRO.out HL1.out HSZ.out ?_; intro p' c' w4 ho3 hb3; have HO3 := Lib.hid ho3; have HB3 := Lib.hid (HBA.out.trans hb3); clear ho3 hb3)
                go_roundw
                case rel => exact ⟨t + 1, p', c', by omega, by go_num, by rw [HK.out]; simp, by rw [HK.out]; exact HO3.out, HB3.out⟩
                case measure => simp [intOf]; omega
            · have g4 : (x3 == (j : Int) + 1) = false := by rw [beq_eq_false_iff_ne]; exact h4
              have HK := Lib.hid (oL_skip HX.out (.inr (show rq ((j : Int) + 1) (x0, x1, x2, x3) = false by unfold rq; simp only; rw [g4, Bool.and_false])))
              generalize oL L j t = l at *
              clear h3 h4
              go_wp2_with fail
              go_roundw
              case rel => exact ⟨t + 1, p, cap, by omega, by go_num, by rw [HK.out], by rw [HK.out]; exact HO.out, HB.out⟩
              case measure => simp [intOf]; omega
          · have g3 : decide (x0 < 3) = false := decide_eq_false h3
            have HK := Lib.hid (oL_skip (j := j) HX.out (.inr (show rq ((j : Int) + 1) (x0, x1, x2, x3) = false by unfold rq; simp only; rw [g3, Bool.false_and])))
            generalize oL L j t = l at *
            clear h3
            go_wp2_with fail
            go_roundw
            case rel => exact ⟨t + 1, p, cap, by omega, by go_num, by rw [HK.out], by rw [HK.out]; exact HO.out, HB.out⟩
            case measure => simp [intOf]; omega
        · obtain rfl : t = L.length := by omega
          have HK := Lib.hid (oL_all L j)
          go_wp2_with fail
          go_roundw
          case rel => exact ⟨j + 1, p, cap, by omega, by go_num, by rw [HK.out], by rw [← HK.out]; exact HO.out, HB.out⟩
          case measure => simp [intOf]; omega
    · obtain rfl : j = zs.length := by omega
      have hjl : decide (((zs.length : Nat) : Int) + 1 ≤ (zs.length : Int)) = false := decide_eq_false (by omega)
      go_wp2_with fail
      go_ret
      exact ⟨p, cap, rfl, HO.out, HB.out⟩
end Go.Proofs.YtcdnbheoelnghaaDoor.Gra

namespace Go.Proofs.YtcdnbheoelnghaaDoor.Gra
open Go.RowKit Go.Proofs.YtcdnbheoelnghaaDoor.Opr
open Go.Proofs.YtcdnbheoelnghaaDoor.Row (Chg rowB rowB_none Rd Rd0 cellsZ cellsZ_length cellsZ_at info_parts infoInt owns_lt owns_slice owns_chg owns_block owns_base)

/-- What is reached so far. -/
structure Ri (s : GSt) (l : List Int) : Prop where
  snd : ∀ v ∈ l, Rch (rtL s) (fun u => s.E (ob u)) v
  rts : ∀ v ∈ rtL s, v ∈ l
def clX (x : Pl) (l : List Int) : Prop := x.1 = 3 → x.2.1 ∈ l → x.2.2.2 ∈ l
/-- How many aren't found. -/
def cnt (n : Nat) (l : List Int) : Nat := (selL (fun v => !decide (v ∈ l)) n).length
theorem cnt_le (n : Nat) (l : List Int) : cnt n l ≤ n := selL_len _ _
theorem cnt_push {n : Nat} {l : List Int} {u : Int} (h1 : 1 ≤ u) (h2 : u ≤ n) (h : u ∉ l) : cnt n (l ++ [u]) < cnt n l := by
  unfold cnt
  have e : selL (fun v => !decide (v ∈ l ++ [u])) n = (selL (fun v => !decide (v ∈ l)) n).filter (fun v => !decide (v = u)) := by
    unfold selL
    rw [List.filter_filter]
    refine List.filter_congr fun v _ => ?_
    by_cases e1 : v ∈ l <;> by_cases e2 : v = u <;> simp [e1, e2]
  rw [e, List.length_filter_lt_length_iff_exists]
  exact ⟨u, mem_selL.2 ⟨h1, h2, by simpa using h⟩, by simp⟩
theorem Ri.start (s : GSt) : Ri s (rtL s) := ⟨fun _ h => .root h, fun _ h => h⟩
theorem Ri.push {M r nc : Nat} {s : GSt} {zs : List Int} {L : List Pl} {l : List Int} (h : Ri s l) (rel : Rel s zs L) (wf : GWf M r nc s) {x : Pl} (hx : x ∈ L) (h3 : x.1 = 3) (h1 : x.2.1 ∈ l) : Ri s (l ++ [x.2.2.2]) ∧ 1 ≤ x.2.2.2 ∧ x.2.2.2 ≤ s.nO := by
  have hr := h.snd _ h1
  have hb := hr.bound (rt_bound wf) (fd_bound wf)
  have hm := (rel.edge wf x.2.1 x.2.2.2 (rel.nz x hx)).1 ⟨x, hx, h3, rfl, rfl⟩
  have e : fdI s x.2.1 = s.E (ob x.2.1) := by unfold fdI; rw [if_pos hb]; rfl
  rw [e] at hm
  have hr2 : Rch (rtL s) (fun u => s.E (ob u)) x.2.2.2 := .step hr hm (rel.nz x hx)
  refine ⟨⟨fun v hv => ?_, fun v hv => List.mem_append.2 (.inl (h.rts v hv))⟩, hr2.bound (rt_bound wf) (fd_bound wf)⟩
  rcases List.mem_append.1 hv with e | e
  · exact h.snd v e
  · rw [List.mem_singleton.1 e]; exact hr2
theorem Ri.fin {M r nc : Nat} {s : GSt} {zs : List Int} {L : List Pl} {l : List Int} (h : Ri s l) (rel : Rel s zs L) (wf : GWf M r nc s) (hc : ∀ x ∈ L, clX x l) : rcS s = selL (fun v => decide (v ∈ l)) s.nO := by
  refine rcS_sel wf _ fun v hv1 hv2 => ?_
  clear hv1 hv2
  rw [decide_eq_true_eq]
  refine ⟨h.snd v, fun hr => ?_⟩
  induction hr with
  | root h1 => exact h.rts _ h1
  | @step u v h1 h2 h3 ih =>
    have hb := h1.bound (rt_bound wf) (fd_bound wf)
    have e : fdI s u = s.E (ob u) := by unfold fdI; rw [if_pos hb]; rfl
    obtain ⟨x, hx, k1, k2, k3⟩ := (rel.edge wf u v h3).2 (by rw [e]; exact h2)
    have := hc x hx k1 (by rw [k2]; exact ih)
    rw [k3] at this
    exact this
theorem rel_roots {M r nc : Nat} {s : GSt} {zs : List Int} {L : List Pl} (rel : Rel s zs L) (wf : GWf M r nc s) : selL (rootB L) zs.length = rtL s := by
  rw [rel.size]
  refine (rtL_sel wf _ fun v hv => ?_).symm
  rw [← rel.root wf v hv]
  unfold rootB rq
  rw [List.any_eq_true]
  constructor
  · rintro ⟨x, hx, h⟩
    simp only [Bool.and_eq_true, decide_eq_true_eq, beq_iff_eq] at h
    exact ⟨x, hx, h.1, h.2⟩
  · rintro ⟨x, hx, h1, h2⟩
    exact ⟨x, hx, by simp [h1, h2]⟩
set_option maxRecDepth 100000 in
set_option maxHeartbeats 8000000 in
theorem rreach_any {W : World} {B base : Nat} {c : C7} {pz pp : Option Addr} {cz cp : Nat} {zs : List Int} {L : List Pl} {M r nc : Nat} {s : GSt} (h : Rg W B base c pz cz zs pp cp L) (rel : Rel s zs L) (wf : GWf M r nc s) (hM : M ≤ 4) (hr : r ≤ 5) (hn : nc ≤ 3) (hl : L.length ≤ 100000) (hN : s.nO ≤ 1000) :
    Calls Tryd.prog 16 #[.pointer (some ⟨B, 0, none⟩)] W (NewR W (rcS s)) := by
  have H := Lib.hid h
  have HREL := Lib.hid rel
  have HWF := Lib.hid wf
  have hzl := rel.size
  have HRR := Lib.hid (rroots_any h hl (by omega))
  rw [rel_roots rel wf] at HRR
  have HRL := Lib.hid (rtL_len wf hM hr hn)
  have HRI := Lib.hid (Ri.start s)
  have l6 : (L.length : Int) ≤ 100000 := by omega
  have n6 : (s.nO : Int) ≤ 1000 := by omega
  have hlM : B < W.heap.size := (h.ltM (.inl rfl)).2
  have HZL := Lib.hid hzl
  clear h rel wf hM hr hn hzl
  generalize rtL s = R at *
  go_enter Tryd.func16, Tryd.ntmps16
  go_wp2_with (go_at_call 14; fail)
  refine HRR.out.mono ?_
  rintro e W1 ⟨p1, k1, rfl, ho1, hb1⟩
  have HO1 := Lib.hid ho1
  have HB1 := Lib.hid hb1
  clear ho1 hb1 HRR
  go_wp2_with fail
  go_loopg [3, 4] (2 * s.nO + 1) (fun k iv mv wr => ∃ (l : List Int) (p : Option Addr) (cap : Nat) (mo : Bool), iv = .slice p l.length cap ∧ mv = .bool mo ∧ Ri s l ∧ (mo = false → ∀ x ∈ L, clX x l) ∧ wr.ownsRow W.heap.size 3 1 (.slice p l.length cap) l.length (cellsZ l) ∧ Below W.heap.size W wr ∧ 2 * cnt s.nO l + (if mo = true then 1 else 0) ≤ k ∧ l.length + cnt s.nO l ≤ s.nO + 23)
  case atStart => exact ⟨R, p1, k1, true, rfl, rfl, HRI.out, (fun e => by cases e), HO1.out, HB1.out, (by have := cnt_le s.nO R; rw [if_pos rfl]; omega), by have := cnt_le s.nO R; have := HRL.out; omega⟩
  case round =>
    clear HO1 HB1 HRI
    obtain ⟨l, p, cap, mo, rfl, rfl, hri, hcl, ho, hb, hk, hd⟩ := hrel
    obtain ⟨gO, rfl⟩ : ∃ gO, gO = gk := ⟨_, rfl⟩
    obtain ⟨wa, rfl⟩ : ∃ wa, wa = wr := ⟨_, rfl⟩
    have HRI := Lib.hid hri
    have HO := Lib.hid ho
    have HB := Lib.hid hb
    have HK := Lib.hid hk
    have HD := Lib.hid hd
    have HCL := Lib.hid hcl
    clear hri ho hb hk hd hcl
    cases mo with
    | false =>
      have HEQ := Lib.hid (HRI.out.fin HREL.out HWF.out (HCL.out rfl))
      have HLB : Hid (l.length ≤ 1048576) := Lib.hid (by have := HD.out; omega)
      go_wp2_with fail
      go_loopw [7, 8] (fun ov i wx => ∃ (j : Nat) (p' : Option Addr) (cap' : Nat), j ≤ zs.length ∧ i = .int .i64 ((j : Int) + 1) ∧ ov = .slice p' (selL (fun v => decide (v ∈ l)) j).length cap' ∧ wx.ownsRow wa.heap.size 3 1 (.slice p' (selL (fun v => decide (v ∈ l)) j).length cap') (selL (fun v => decide (v ∈ l)) j).length (cellsZ (selL (fun v => decide (v ∈ l)) j)) ∧ Below wa.heap.size wa wx) (fun _ i _ => zs.length + 1 - (intOf i).toNat)
      case atStart => exact ⟨0, none, 0, Nat.zero_le _, rfl, rfl, ⟨rfl, .inl ⟨rfl, rfl⟩⟩, Below.refl _ _⟩
      case round =>
        obtain ⟨j, q, qc, hj, rfl, rfl, ho, hb⟩ := hrel
        have HO2 := Lib.hid ho
        have HB2 := Lib.hid hb
        have HRG := Lib.hid (H.out.later (HB.out.trans (hb.mono HB.out.size)))
        have c7 := HRG.out.c7
        have hlM2 : B < wr.heap.size := (HRG.out.ltM (.inl rfl)).2
        have HRD := Lib.hid ((Rd.of_owns HO.out).later hb)
        clear ho hb
        have j0 : (0 : Int) ≤ (j : Int) := by omega
        by_cases hlt : j < zs.length
        · have j1 : (j : Int) + 1 ≤ (zs.length : Int) := by omega
          have hjl : decide ((j : Int) + 1 ≤ (zs.length : Int)) = true := decide_eq_true j1
          have j6 : (j : Int) ≤ 1000 := by have := HZL.out; omega
          have HIN := Lib.hid (in_any p cap l ((j : Int) + 1) wr HRD.out.rd0 HLB.out)
          have HSU := Lib.hid (selL_succ (fun v => decide (v ∈ l)) j)
          have HSL := Lib.hid (selL_len (fun v => decide (v ∈ l)) j)
          by_cases hin : (j : Int) + 1 ∈ l
          · have HK : Hid (selL (fun v => decide (v ∈ l)) (j + 1) = selL (fun v => decide (v ∈ l)) j ++ [(j : Int) + 1]) := Lib.hid (by rw [HSU.out, if_pos (by simpa using hin)])
            rw [decide_eq_true hin] at HIN
            generalize selL (fun v => decide (v ∈ l)) j = o1 at *
            have HOW : Hid ((wr.alloc (.cells #[.int .i64 ((j : Int) + 1)] 3)).ownsRow wa.heap.size 3 1 (.slice q o1.length qc) o1.length (cellsZ o1)) := Lib.hid (owns_chg HO2.out (Chg.of_below (S := fun _ => False) ((Below.refl _ _).alloc (Nat.le_refl _) _)) (fun _ _ e => e))
            have HRO : Hid (Rd0 (wr.alloc (.cells #[.int .i64 ((j : Int) + 1)] 3)) (some ⟨wr.heap.size, 0, none⟩) [(j : Int) + 1]) := Lib.hid (fun i hi => by
              obtain rfl : i = 0 := by simpa using hi
              exact ⟨_, 0, rfl, by rw [World.cell?_alloc_new]; rfl⟩)
            have HSZ : Hid (wa.heap.size ≤ (wr.alloc (.cells #[.int .i64 ((j : Int) + 1)] 3)).heap.size) := Lib.hid (by have := HB2.out.size; rw [World.size_alloc]; omega)
            have HL1 : Hid (o1.length + 1 ≤ 1048576) := Lib.hid (by have := HSL.out; omega)
            have HBA : Hid (Below wa.heap.size wa (wr.alloc (.cells #[.int .i64 ((j : Int) + 1)] 3))) := Lib.hid (HB2.out.alloc HB2.out.size _)
            clear hin HSU HSL
            go_wp2_with (go_at_call 22; fail)
            refine HIN.out.mono ?_
            rintro e w9 ⟨rfl, hw9⟩
            obtain rfl : w9 = wr := hw9.symm
            clear hw9 HIN
            go_wp2_with (at_builtin; refine wpList_append_row rfl (.tmp 61) (.tmp 63) rfl wa.heap.size q qc o1 rfl HOW.out (some ⟨w9.heap.size, 0, none⟩) 1 [(j : Int) + 1] rfl HRO.out HL1.out HSZ.out ?_; intro p' c' w4 ho3 hb3; have HO3 := Lib.hid ho3; have HB3 := Lib.hid (HBA.out.trans hb3); clear ho3 hb3)
            go_roundw
            case rel => exact ⟨j + 1, p', c', by omega, by go_num, by rw [HK.out]; simp, by rw [HK.out]; exact HO3.out, HB3.out⟩
            case measure => simp [intOf]; omega
          · have HK : Hid (selL (fun v => decide (v ∈ l)) (j + 1) = selL (fun v => decide (v ∈ l)) j) := Lib.hid (by rw [HSU.out, if_neg (by simpa using hin)])
            rw [decide_eq_false hin] at HIN
            generalize selL (fun v => decide (v ∈ l)) j = o1 at *
            clear hin HSU HSL
            go_wp2_with (go_at_call 22; fail)
            refine HIN.out.mono ?_
            rintro e w9 ⟨rfl, hw9⟩
            obtain rfl : w9 = wr := hw9.symm
            clear hw9 HIN
            go_wp2_with fail
            go_roundw
            case rel => exact ⟨j + 1, q, qc, by omega, by go_num, by rw [HK.out], by rw [HK.out]; exact HO2.out, HB2.out⟩
            case measure => simp [intOf]; omega
        · obtain rfl : j = zs.length := by omega
          have hjl : decide (((zs.length : Nat) : Int) + 1 ≤ (zs.length : Int)) = false := decide_eq_false (by omega)
          have HE2 : Hid (selL (fun v => decide (v ∈ l)) zs.length = rcS s) := Lib.hid (by rw [HEQ.out, HZL.out])
          have HFB := Lib.hid (HB.out.trans (HB2.out.mono HB.out.size))
          go_wp2_with fail
          go_ret
          exact ⟨q, qc, by rw [← HE2.out]; rfl, owns_base HB.out.size (by rw [← HE2.out]; exact HO2.out), HFB.out⟩
    | true =>
      go_wp2_with fail
      go_loopw [3, 4, 5] (fun iv mv i wx => ∃ (t : Nat) (l2 : List Int) (p2 : Option Addr) (cap2 : Nat) (m2 : Bool), t ≤ L.length ∧ i = .int .i64 (t : Int) ∧ iv = .slice p2 l2.length cap2 ∧ mv = .bool m2 ∧ Ri s l2 ∧ (m2 = false → l2 = l ∧ ∀ j, j < t → ∀ x, L[j]? = some x → clX x l) ∧ (m2 = true → cnt s.nO l2 < cnt s.nO l) ∧ wx.ownsRow W.heap.size 3 1 (.slice p2 l2.length cap2) l2.length (cellsZ l2) ∧ Below W.heap.size W wx ∧ l2.length + cnt s.nO l2 ≤ s.nO + 23) (fun _ _ i _ => L.length - (intOf i).toNat)
      case atStart => exact ⟨0, l, p, cap, false, Nat.zero_le _, rfl, rfl, rfl, HRI.out, (fun _ => ⟨rfl, fun j hj => absurd hj (Nat.not_lt_zero _)⟩), (fun e => by cases e), HO.out, HB.out, HD.out⟩
      case round =>
        obtain ⟨t, l2, p2, cap2, m2, ht, rfl, rfl, rfl, hri, hf, htr, ho, hb, hd⟩ := hrel
        have HRI2 := Lib.hid hri
        have HF2 := Lib.hid hf
        have HT2 := Lib.hid htr
        have HO2 := Lib.hid ho
        have HB2 := Lib.hid hb
        have HD2 := Lib.hid hd
        have HRG := Lib.hid (H.out.later hb)
        have c8 := HRG.out.c8
        have hlM2 : B < wr.heap.size := by have := hb.size; omega
        clear hri hf htr ho hb hd
        have t0 : (0 : Int) ≤ (t : Int) := by omega
        by_cases hlk : t < L.length
        · have t1 : (t : Int) < (L.length : Int) := by omega
          obtain ⟨g, x, hx, hg, d0, d1, d2, d3⟩ := HRG.out.at hlk
          have HX := Lib.hid hx
          have hlg : g < wr.heap.size := lt_of_cell d0
          subst hg
          clear hx
          obtain ⟨x0, x1, x2, x3⟩ := x
          simp only at d0 d1 d2 d3
          obtain ⟨w1, hw1⟩ : ∃ w1, wr.alloc (.cells #[.int .i64 x0, .int .i64 x1, .int .i64 x2, .int .i64 x3] 75) = w1 := ⟨_, rfl⟩
          have HA1 : Hid (Below wr.heap.size wr w1) := Lib.hid (by rw [← hw1]; exact (Below.refl _ _).alloc (Nat.le_refl _) _)
          have HBA := Lib.hid (HB2.out.trans (HA1.out.mono HB2.out.size))
          have HOA := Lib.hid (owns_chg HO2.out (Chg.of_below (S := fun _ => False) HA1.out) (fun _ _ e => e))
          have hC1 : CellsAt w1 wr.heap.size [.int .i64 x0, .int .i64 x1, .int .i64 x2, .int .i64 x3] := by rw [← hw1]; exact CellsAt.new _ _ _
          have b0 := hC1 0 _ rfl
          have b1 := hC1 1 _ rfl
          have b3 := hC1 3 _ rfl
          have hlw : wr.heap.size < w1.heap.size := lt_of_cell b0
          have HFX : Hid (clX (x0, x1, x2, x3) l ∨ m2 = true → m2 = false → l2 = l ∧ ∀ j, j < t + 1 → ∀ x, L[j]? = some x → clX x l) := Lib.hid fun hc e => ⟨(HF2.out e).1, fun j hj x hx => by
            by_cases e2 : j = t
            · subst e2
              rw [HX.out] at hx
              cases hx
              rcases hc with hc | hc
              · exact hc
              · rw [hc] at e; cases e
            · exact (HF2.out e).2 j (by omega) x hx⟩
          have HML : Hid (m2 = false → l2 = l) := Lib.hid fun e => (HF2.out e).1
          have HLB2 : Hid (l2.length ≤ 1048575) := Lib.hid (by have := HD2.out; omega)
          have HRD := Lib.hid (Rd.of_owns HOA.out).rd0
          clear hC1
          by_cases h3 : x0 = 3
          · subst h3
            have HI1 := Lib.hid (in_any p2 cap2 l2 x1 w1 HRD.out (by have := HLB2.out; omega))
            by_cases h1 : x1 ∈ l2
            · have HI3 := Lib.hid (in_any p2 cap2 l2 x3 w1 HRD.out (by have := HLB2.out; omega))
              rw [decide_eq_true h1] at HI1
              by_cases h4 : x3 ∈ l2
              · have HFN := Lib.hid (HFX.out (by
                  cases hm : m2 with
                  | true => exact .inr rfl
                  | false => exact .inl (fun _ _ => by rw [← HML.out hm]; exact h4)))
                rw [decide_eq_true h4] at HI3
                clear h1 h4 HFX
                go_wp2_with (go_at_call 22; fail)
                refine HI1.out.mono ?_
                rintro e w9 ⟨rfl, hw9⟩
                obtain rfl : w1 = w9 := hw9
                clear HI1
                go_wp2_with (go_at_call 22; fail)
                refine HI3.out.mono ?_
                rintro e w9 ⟨rfl, hw9⟩
                obtain rfl : w1 = w9 := hw9
                clear HI3
                go_wp2_with fail
                go_roundw
                case rel => exact ⟨t + 1, l2, p2, cap2, m2, by omega, by go_num, rfl, rfl, HRI2.out, HFN.out, HT2.out, HOA.out, HBA.out, HD2.out⟩
                case measure => simp [intOf]; omega
              · have HPU := Lib.hid (HRI2.out.push HREL.out HWF.out (List.mem_of_getElem? HX.out) rfl h1)
                have HCN := Lib.hid (cnt_push HPU.out.2.1 HPU.out.2.2 h4)
                rw [decide_eq_false h4] at HI3
                have HMM : Hid (cnt s.nO (l2 ++ [x3]) < cnt s.nO l) := Lib.hid (by
                  have h5 := HCN.out
                  simp only at h5
                  cases hm : m2 with
                  | true => have := HT2.out hm; omega
                  | false => rw [HML.out hm] at h5 ⊢; exact h5)
                have HDN : Hid ((l2 ++ [x3]).length + cnt s.nO (l2 ++ [x3]) ≤ s.nO + 23) := Lib.hid (by
                  have h5 := HCN.out
                  simp only at h5
                  have := HD2.out
                  rw [List.length_append]
                  simp only [List.length_singleton]
                  omega)
                have HOW : Hid ((w1.alloc (.cells #[.int .i64 x3] 3)).ownsRow W.heap.size 3 1 (.slice p2 l2.length cap2) l2.length (cellsZ l2)) := Lib.hid (owns_chg HOA.out (Chg.of_below (S := fun _ => False) ((Below.refl _ _).alloc (Nat.le_refl _) _)) (fun _ _ e => e))
                have HRO : Hid (Rd0 (w1.alloc (.cells #[.int .i64 x3] 3)) (some ⟨w1.heap.size, 0, none⟩) [x3]) := Lib.hid (fun i hi => by
                  obtain rfl : i = 0 := by simpa using hi
                  exact ⟨_, 0, rfl, by rw [World.cell?_alloc_new]; rfl⟩)
                have HSZ : Hid (W.heap.size ≤ (w1.alloc (.cells #[.int .i64 x3] 3)).heap.size) := Lib.hid (by have := HBA.out.size; rw [World.size_alloc]; omega)
                have HL1 : Hid (l2.length + 1 ≤ 1048576) := Lib.hid (by have := HLB2.out; omega)
                have HBB : Hid (Below W.heap.size W (w1.alloc (.cells #[.int .i64 x3] 3))) := Lib.hid (HBA.out.alloc HBA.out.size _)
                clear h1 h4 HFX
                go_wp2_with (go_at_call 22; fail)
                refine HI1.out.mono ?_
                rintro e w9 ⟨rfl, hw9⟩
                obtain rfl : w1 = w9 := hw9
                clear HI1
                go_wp2_with (go_at_call 22; fail)
                refine HI3.out.mono ?_
                rintro e w9 ⟨rfl, hw9⟩
                obtain rfl : w1 = w9 := hw9
                clear HI3
                go_wp2_with (at_builtin; refine wpList_append_row rfl (.tmp 44) (.tmp 47) rfl W.heap.size p2 cap2 l2 rfl HOW.out (some ⟨w1.heap.size, 0, none⟩) 1 [x3] rfl HRO.out HL1.out HSZ.out ?_; intro p' c' w4 ho3 hb3; have HO3 := Lib.hid ho3; have HB3 := Lib.hid (HBB.out.trans hb3); clear ho3 hb3)
                go_roundw
                case rel => exact ⟨t + 1, l2 ++ [x3], p', c', true, by omega, by go_num, by simp, rfl, HPU.out.1, (fun e => by cases e), (fun _ => HMM.out), HO3.out, HB3.out, HDN.out⟩
                case measure => simp [intOf]; omega
            · have HFN := Lib.hid (HFX.out (by
                cases hm : m2 with
                | true => exact .inr rfl
                | false => exact .inl (fun _ h5 => absurd (by rw [HML.out hm]; exact h5) h1)))
              rw [decide_eq_false h1] at HI1
              clear h1 HFX
              go_wp2_with (go_at_call 22; fail)
              refine HI1.out.mono ?_
              rintro e w9 ⟨rfl, hw9⟩
              obtain rfl : w1 = w9 := hw9
              clear HI1
              go_wp2_with fail
              go_roundw
              case rel => exact ⟨t + 1, l2, p2, cap2, m2, by omega, by go_num, rfl, rfl, HRI2.out, HFN.out, HT2.out, HOA.out, HBA.out, HD2.out⟩
              case measure => simp [intOf]; omega
          · have g3 : (x0 == 3) = false := by rw [beq_eq_false_iff_ne]; exact h3
            have HFN := Lib.hid (HFX.out (.inl (fun h5 => absurd h5 h3)))
            clear h3 HFX
            go_wp2_with fail
            go_roundw
            case rel => exact ⟨t + 1, l2, p2, cap2, m2, by omega, by go_num, rfl, rfl, HRI2.out, HFN.out, HT2.out, HOA.out, HBA.out, HD2.out⟩
            case measure => simp [intOf]; omega
        · obtain rfl : t = L.length := by omega
          cases m2 with
          | false =>
            obtain ⟨hl2, hcl⟩ := HF2.out rfl
            have HCC : Hid (∀ x ∈ L, clX x l2) := Lib.hid fun x hx => by
              obtain ⟨i, hi, rfl⟩ := List.mem_iff_getElem.1 hx
              rw [hl2]
              exact hcl i hi _ (List.getElem?_eq_getElem hi)
            have HL2 := Lib.hid hl2
            clear hl2 hcl
            go_wp2_with fail
            go_roundg (gO - 1)
            case measure => have h9 := HK.out; simp at h9; omega
            case rel => exact ⟨l2, p2, cap2, false, rfl, rfl, HRI2.out, (fun _ => HCC.out), HO2.out, HB2.out, (by have h9 := HK.out; simp at h9; rw [if_neg (by decide), HL2.out]; omega), HD2.out⟩
          | true =>
            go_wp2_with fail
            go_roundg (gO - 1)
            case measure => have h9 := HK.out; simp at h9; omega
            case rel => exact ⟨l2, p2, cap2, true, rfl, rfl, HRI2.out, (fun e => by cases e), HO2.out, HB2.out, (by have h9 := HK.out; have h8 := HT2.out (by first | rfl | trivial); simp at h9; rw [if_pos rfl]; omega), HD2.out⟩
end Go.Proofs.YtcdnbheoelnghaaDoor.Gra
