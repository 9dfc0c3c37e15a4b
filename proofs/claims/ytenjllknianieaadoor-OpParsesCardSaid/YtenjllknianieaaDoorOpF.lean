/-
  op.Parse.
-/
import Derived.Test.YtenjllknianieaaDoorOpE
import Derived.BigQuiet
namespace Go.Proofs.YtenjllknianieaaDoor.Opr
open Go.RowKit

theorem line_pieces {s : ByteArray} {k : Nat} {a b c : Int} (hs : s = bs (lineK k a b c)) : (pieces s).map (·.data.toList) = wordK k :: (numsK k a b c).map Lib.itoa := by
  refine pieces_line (noB_word k) noB_nums ?_ (by rw [hs]; simp [bs, lineK])
  have := uses_cases k
  unfold numsK
  simp only [List.length_map, List.length_take, List.length_cons, List.length_nil]
  omega
/-- What Parse tells. -/
def ParseB (s : ByteArray) (e : Ending) : Prop :=
  (∃ (k : Nat) (a b c : Int), BareK k a b c ∧ s = bs (lineK k a b c) ∧ e = .returned (.tuple #[opV k a b c, .int .i64 0])) ∨
  (e = .returned (.tuple #[opV 0 0 0 0, .int .i64 2]) ∧ ∀ (k : Nat) (a b c : Int), BareK k a b c → s ≠ bs (lineK k a b c))
theorem nums_len {k : Nat} {a b c : Int} : (numsK k a b c).length = usesK k := by
  have := uses_cases k
  unfold numsK
  simp only [List.length_take, List.length_cons, List.length_nil]
  omega
theorem nums_get {k : Nat} {a b c : Int} {p : Nat} (hp : p < usesK k) : (numsK k a b c)[p]? = some (numAt a b c p) := by
  unfold numsK
  rw [List.getElem?_take, if_pos hp]
  have := uses_cases k
  have h3 : p = 0 ∨ p = 1 ∨ p = 2 := by omega
  rcases h3 with rfl | rfl | rfl <;> rfl
/-- A line's words tell its numbers. -/
theorem wordV_line {s : ByteArray} {k : Nat} {a b c : Int} (h : BareK k a b c) (hs : s = bs (lineK k a b c)) {p : Nat} (hp : p < usesK k) : wordV (pieces s) p = numAt a b c p := by
  have h1 := line_pieces hs
  have h2 : ((pieces s).map (·.data.toList))[1 + p]? = some (Lib.itoa (numAt a b c p)) := by
    rw [h1, Nat.add_comm, List.getElem?_cons_succ, List.getElem?_map, nums_get hp]
    rfl
  rw [List.getElem?_map] at h2
  obtain ⟨x, hx, hx2⟩ := Option.map_eq_some_iff.1 h2
  unfold wordV
  rw [hx]
  show atoiV x.data.toList = _
  rw [hx2]
  exact atoiV_itoa (numAt_in h.2.2.1 h.2.2.2.1 h.2.2.2.2.1 p)
theorem bare_pk {k : Nat} {a b c : Int} (h : BareK k a b c) : pk (usesK k) (numAt a b c) 0 = a ∧ pk (usesK k) (numAt a b c) 1 = b ∧ pk (usesK k) (numAt a b c) 2 = c := by
  obtain ⟨_, _, _, _, _, u3, u2, u1⟩ := h
  refine ⟨?_, ?_, ?_⟩
  · by_cases hu : 0 < usesK k
    · rw [pk_yes hu]; rfl
    · rw [pk_no hu, u1 (by omega)]
  · by_cases hu : 1 < usesK k
    · rw [pk_yes hu]; rfl
    · rw [pk_no hu, u2 (by omega)]
  · by_cases hu : 2 < usesK k
    · rw [pk_yes hu]; rfl
    · rw [pk_no hu, u3 (by omega)]
theorem pk_bare {k : Nat} (k1 : 1 ≤ k) (k8 : k ≤ 8) {f : Nat → Int} (hf : ∀ p, inI (f p)) : BareK k (pk (usesK k) f 0) (pk (usesK k) f 1) (pk (usesK k) f 2) := by
  have hin : ∀ p, inI (pk (usesK k) f p) := fun p => by
    unfold pk
    split
    · exact hf p
    · unfold inI; omega
  exact ⟨k1, k8, hin 0, hin 1, hin 2, fun h => pk_no (by omega), fun h => pk_no (by omega), fun h => pk_no (by omega)⟩
theorem pk_congr {u : Nat} {f g : Nat → Int} (h : ∀ p, p < u → f p = g p) (p : Nat) : pk u f p = pk u g p := by
  unfold pk
  split
  · exact h p (by assumption)
  · rfl

set_option maxRecDepth 100000 in
set_option maxHeartbeats 4000000 in
theorem parse_any (s : ByteArray) (hs : s.size < 4294967281) (w : World) (ht : FormTab w) (hl : LibTab w) :
    Calls Tryd.prog 22 #[.string s] w fun e w' => ParseB s e ∧ Below w.heap.size w w' := by
  have HT := Lib.hid ht
  have HL := Lib.hid hl
  clear ht hl
  have hA : Below w.heap.size w (w.alloc (.cells #[.int .i64 0, .int .i64 0, .int .i64 0, .int .i64 0] 23)) := (Below.refl _ _).alloc (Nat.le_refl _) _
  have HA := Lib.hid hA
  clear hA
  have HSP := Lib.hid (splitn_any s hs _ (HL.out.later HA.out))
  go_enter Tryd.func22, Tryd.ntmps22
  go_wp2_with (go_at_call 51; fail)
  refine HSP.out.mono ?_
  rintro e w1 ⟨rfl, hw1⟩
  have hb1 : Below (w.heap.size + 1) (w.alloc (.cells #[.int .i64 0, .int .i64 0, .int .i64 0, .int .i64 0] 23)) w1 := by
    rw [hw1]; exact (Below.refl _ _).alloc (by simp) _
  have hs1 : w1.heap.size = w.heap.size + 2 := by rw [hw1]; simp
  have hW1 : WordsAt w1 (w.heap.size + 1) (pieces s) := fun j x hx => by
    rw [hw1, show w.heap.size + 1 = (w.alloc (.cells #[.int .i64 0, .int .i64 0, .int .i64 0, .int .i64 0] 23)).heap.size by simp]
    rw [World.cell?_alloc_new]
    exact cellsOf_get hx
  have hr1 : ∀ j, j < 4 → w1.cell? ⟨w.heap.size, j, none⟩ = some (.int .i64 0) ∧ w1.frozen? ⟨w.heap.size, j, none⟩ = false := by
    intro j hj
    have h4 : j = 0 ∨ j = 1 ∨ j = 2 ∨ j = 3 := by omega
    refine ⟨(hb1.cell (p := ⟨w.heap.size, j, none⟩) (by show w.heap.size < w.heap.size + 1; omega)).trans ?_, (hb1.frozen (p := ⟨w.heap.size, j, none⟩) (by show w.heap.size < w.heap.size + 1; omega)).trans (by simp)⟩
    rcases h4 with rfl | rfl | rfl | rfl <;> simp
  have HB1 : Hid (Below w.heap.size w w1) := Lib.hid (HA.out.trans (hb1.mono (by omega)))
  rw [show (w.alloc (.cells #[.int .i64 0, .int .i64 0, .int .i64 0, .int .i64 0] 23)).heap.size = w.heap.size + 1 by simp]
  clear hb1 hw1 HSP
  obtain ⟨x0, hx0⟩ : ∃ x, (pieces s)[0]? = some x := ⟨(pieces s)[0]'(by have := pieces_one s; omega), List.getElem?_eq_getElem _⟩
  have hcx := hW1 0 x0 hx0
  have hlt1 : w.heap.size < w1.heap.size := by omega
  have hlt2 : w.heap.size + 1 < w1.heap.size := by omega
  have HX0 := Lib.hid hx0
  have HW1 := Lib.hid hW1
  have HR1 := Lib.hid hr1
  have hl1 := pieces_one s
  have hl5 : (pieces s).length ≤ 5 := by have := pieces_le s; omega
  have HSZ : Hid (∀ x ∈ pieces s, x.size ≤ 281474976710656) := Lib.hid fun x hx => by have := splitB_sizes _ s x hx; omega
  have HLEN : Hid (∀ (k : Nat) (a b c : Int), s = bs (lineK k a b c) → x0 = bs (wordK k) ∧ (pieces s).length = 1 + usesK k) := Lib.hid (by
    intro k a b c e
    have h1 := line_pieces e
    have h2 : ((pieces s).map (·.data.toList))[0]? = some (wordK k) := by rw [h1]; rfl
    have h3 := congrArg List.length h1
    rw [List.length_map, List.length_cons, List.length_map, nums_len] at h3
    refine ⟨?_, by omega⟩
    rw [List.getElem?_map, HX0.out] at h2
    injection h2 with h2
    rw [← h2]; rfl)
  clear hx0 hW1 hr1
  generalize hcp : min 5 (s.size + 1) = cap
  have hcap : (pieces s).length ≤ cap := by rw [← hcp]; exact pieces_le s
  clear hcp
  go_wp2_with (go_at_call 52; fail)
  generalize hw2 : w1.alloc (.cells #[.slice (some ⟨w.heap.size + 1, 0, none⟩) (pieces s).length cap] 85) = w2
  have hb2 : Below w1.heap.size w1 w2 := by rw [← hw2]; exact (Below.refl _ _).alloc (Nat.le_refl _) _
  have hs2 : w2.heap.size = w.heap.size + 3 := by rw [← hw2]; simp; omega
  have hx2 : w2.cell? ⟨w.heap.size + 2, 0, none⟩ = some (.slice (some ⟨w.heap.size + 1, 0, none⟩) (pieces s).length cap) := by rw [← hw2, show w.heap.size + 2 = w1.heap.size by omega]; simp
  have HB2 : Hid (Below w.heap.size w w2) := Lib.hid (HB1.out.trans (hb2.mono HB1.out.size))
  have HW2 : Hid (WordsAt w2 (w.heap.size + 1) (pieces s)) := Lib.hid (HW1.out.later hb2)
  have HR2 : Hid (∀ W, Below w2.heap.size w2 W → ∀ j, j < 4 → W.cell? ⟨w.heap.size, j, none⟩ = some (.int .i64 0) ∧ W.frozen? ⟨w.heap.size, j, none⟩ = false) := Lib.hid fun W hW j hj =>
    ⟨(hW.cell (p := ⟨w.heap.size, j, none⟩) (by show w.heap.size < w2.heap.size; omega)).trans ((hb2.cell (p := ⟨w.heap.size, j, none⟩) (by show w.heap.size < w1.heap.size; omega)).trans (HR1.out j hj).1),
     (hW.frozen (p := ⟨w.heap.size, j, none⟩) (by show w.heap.size < w2.heap.size; omega)).trans ((hb2.frozen (p := ⟨w.heap.size, j, none⟩) (by show w.heap.size < w1.heap.size; omega)).trans (HR1.out j hj).2)⟩
  clear hb2 hw2 HW1 HR1 HB1 hcx hlt1 hlt2 hs1
  have hlt1 : w.heap.size < w2.heap.size := by omega
  have hlt2 : w.heap.size + 2 < w2.heap.size := by omega
  have HS2 := Lib.hid hs2
  clear hs2
  refine (byName_any x0 _ (HT.out.later HB2.out)).mono ?_
  rintro e w3 ⟨hN, hw3⟩
  obtain rfl : w2 = w3 := hw3.symm
  have HFIN : Hid (∀ W, Below w2.heap.size w2 W → Below w.heap.size w W) := Lib.hid fun W h => HB2.out.trans (h.mono HB2.out.size)
  rcases hN with ⟨k, rfl, k1, k8, hxk⟩ | ⟨rfl, hno⟩
  · have hk := isK_of k1 k8
    have eu : usesI (k : Int) = usesK k := by unfold usesI; rw [hk]; rfl
    have hu3 : usesK k ≤ 3 := by rcases uses_cases k with h | h | h | h <;> omega
    have HK : Hid (isK (k : Int) = true ∧ x0 = bs (wordK k) ∧ 1 ≤ k ∧ k ≤ 8) := Lib.hid ⟨hk, hxk, k1, k8⟩
    have HUS : Hid (∀ n, Calls Tryd.prog 18 #[.int .i64 k] (w2.drewN n) fun e w' => e = .returned (.int .i64 (usesK k)) ∧ w' = w2.drewN n) := Lib.hid fun n => by rw [← eu]; exact uses_any k _ ((HT.out.later HB2.out).drewN n)
    have HEU := Lib.hid eu
    clear hk eu hxk
    by_cases hlen : (pieces s).length = 1 + usesK k
    · have hg : (((pieces s).length : Int) != 1 + (usesK k : Int)) = false := by rw [hlen]; simp
      have HLN := Lib.hid hlen
      clear hlen
      go_wp2_with fail
      go_quiet ((go_at_call 18; exact Calls.quiet_of_same (HUS.out _)))
      go_wp2_with (go_at_call 49; fail)
      have hbq : Below w2.heap.size w2 (w2.drewN nq) := below_drewN (Below.refl _ _) nq
      have HTQ := Lib.hid ((HT.out.later HB2.out).later hbq)
      have HLQ := Lib.hid ((HL.out.later HB2.out).later hbq)
      have HPT := Lib.hid (parseT_any (w.heap.size + 2) (w.heap.size + 1) (usesI (k : Int)) cap (pieces s) (w2.drewN nq) (by rw [HEU.out]; exact HLN.out) (by rw [HEU.out]; exact hu3) HSZ.out hx2 (HW2.out.later hbq) HLQ.out)
      refine (toldP_any ⟨w.heap.size + 2, 0, none⟩ k (wordV (pieces s)) _ HTQ.out HPT.out).mono ?_
      rintro e w3 ⟨rfl, hb3⟩
      have hb3' := hbq.trans (hb3.mono hbq.size)
      have HB3 : Hid (Below w2.heap.size w2 w3) := Lib.hid hb3'
      have HRZ : Hid (∀ W, Below w3.heap.size w3 W → ∀ j, j < 4 → W.cell? ⟨w.heap.size, j, none⟩ = some (.int .i64 0) ∧ W.frozen? ⟨w.heap.size, j, none⟩ = false) := Lib.hid fun W hW => HR2.out W (HB3.out.trans (hW.mono HB3.out.size))
      have hlt3 : w.heap.size < w3.heap.size := Nat.lt_of_lt_of_le hlt1 hb3'.size
      have HT3 := Lib.hid ((HT.out.later HB2.out).later hb3')
      have HL3 := Lib.hid ((HL.out.later HB2.out).later hb3')
      clear hbq hb3 hb3' HPT HTQ HLQ
      have HBA : Hid (BareK k (pk (usesI (k : Int)) (wordV (pieces s)) 0) (pk (usesI (k : Int)) (wordV (pieces s)) 1) (pk (usesI (k : Int)) (wordV (pieces s)) 2)) := Lib.hid (by rw [HEU.out]; exact pk_bare k1 k8 (fun p => atoiV_in _))
      have HNE : Hid (∀ (a b c : Int), BareK k a b c → s = bs (lineK k a b c) → pk (usesI (k : Int)) (wordV (pieces s)) 0 = a ∧ pk (usesI (k : Int)) (wordV (pieces s)) 1 = b ∧ pk (usesI (k : Int)) (wordV (pieces s)) 2 = c) := Lib.hid (by
        intro a b c h e
        rw [HEU.out]
        obtain ⟨e0, e1, e2⟩ := bare_pk h
        refine ⟨(pk_congr (fun p hp => wordV_line h e hp) 0).trans e0, (pk_congr (fun p hp => wordV_line h e hp) 1).trans e1, (pk_congr (fun p hp => wordV_line h e hp) 2).trans e2⟩)
      generalize pk (usesI (k : Int)) (wordV (pieces s)) 0 = x at HBA HNE ⊢
      generalize pk (usesI (k : Int)) (wordV (pieces s)) 1 = y at HBA HNE ⊢
      generalize pk (usesI (k : Int)) (wordV (pieces s)) 2 = z at HBA HNE ⊢
      unfold opV
      have hli : lineI (k : Int) x y z = lineK k x y z := by
        unfold lineI
        rw [HK.out.1]
        simp
      have HAL : Hid (Below w3.heap.size w3 (w3.alloc (.cells #[.int .i64 k, .int .i64 x, .int .i64 y, .int .i64 z] 23))) := Lib.hid ((Below.refl _ _).alloc (Nat.le_refl _) _)
      have HLI := Lib.hid (line_any k x y z HBA.out.2.2.1 HBA.out.2.2.2.1 HBA.out.2.2.2.2.1 _ (HT3.out.later HAL.out) (HL3.out.later HAL.out))
      rw [hli, HK.out.1, if_pos rfl] at HLI
      clear hli
      go_wp2_with (go_at_call 14; fail)
      refine HLI.out.mono ?_
      rintro e w4 ⟨rfl, hb4⟩
      have HB4 : Hid (Below w3.heap.size w3 w4) := Lib.hid (HAL.out.trans (hb4.mono HAL.out.size))
      have ho4 : ∀ j v, (#[Value.int .i64 k, .int .i64 x, .int .i64 y, .int .i64 z] : Array Value)[j]? = some v → w4.cell? ⟨w3.heap.size, j, none⟩ = some v := fun j v hv => (hb4.cell (p := ⟨w3.heap.size, j, none⟩) (by simp)).trans (by rw [World.cell?_alloc_new]; exact hv)
      have o0 := ho4 0 _ rfl
      have o1 := ho4 1 _ rfl
      have o2 := ho4 2 _ rfl
      have o3 := ho4 3 _ rfl
      obtain ⟨r0, f0⟩ := HRZ.out _ HB4.out 0 (by omega)
      obtain ⟨r1, f1⟩ := HRZ.out _ HB4.out 1 (by omega)
      obtain ⟨r2, f2⟩ := HRZ.out _ HB4.out 2 (by omega)
      obtain ⟨r3, f3⟩ := HRZ.out _ HB4.out 3 (by omega)
      have HF4 : Hid (Below w.heap.size w w4) := Lib.hid (HFIN.out _ (HB3.out.trans (HB4.out.mono HB3.out.size)))
      clear hb4 HLI ho4
      by_cases hq : bs (lineK k x y z) = s
      · have hq1 : ((bs (lineK k x y z)).toList == s.toList) = true := (beq_bytes _ _).2 hq
        have HQ := Lib.hid hq
        clear hq
        go_wp2_with fail
        exact bodyPost_ret (v := .tuple #[opV k x y z, .int .i64 0]) (by simp [results, Tryd.results22, go_sem, opV, r0, r1, r2, r3]) rfl
          ⟨.inl ⟨k, x, y, z, HBA.out, HQ.out.symm, rfl⟩, (((HF4.out.setCell (Nat.le_refl _) _).setCell (Nat.le_refl _) _).setCell (Nat.le_refl _) _).setCell (Nat.le_refl _) _⟩
      · have hq1 : ((bs (lineK k x y z)).toList == s.toList) = false := by rw [Bool.eq_false_iff]; exact fun h => hq ((beq_bytes _ _).1 h)
        have HQ := Lib.hid hq
        clear hq
        go_wp2_with fail
        exact bodyPost_ret (v := .tuple #[opV 0 0 0 0, .int .i64 2]) (by simp [results, Tryd.results22, go_sem, opV, r0, r1, r2, r3]) rfl
          ⟨.inr ⟨rfl, fun k' a b c h e => by
            obtain ⟨e1, e2⟩ := HLEN.out k' a b c e
            rw [HK.out.2.1] at e1
            obtain rfl := word_inj HK.out.2.2.1 HK.out.2.2.2 h.1 h.2.1 (bs_inj e1)
            obtain ⟨rfl, rfl, rfl⟩ := HNE.out a b c h e
            exact HQ.out e.symm⟩, (((HF4.out.setCell (Nat.le_refl _) _).setCell (Nat.le_refl _) _).setCell (Nat.le_refl _) _).setCell (Nat.le_refl _) _⟩
    · have hg : (((pieces s).length : Int) != 1 + (usesK k : Int)) = true := by rw [bne_iff_ne]; omega
      have HLN := Lib.hid hlen
      clear hlen
      obtain ⟨r0, f0⟩ := HR2.out _ (Below.refl _ _) 0 (by omega)
      obtain ⟨r1, f1⟩ := HR2.out _ (Below.refl _ _) 1 (by omega)
      obtain ⟨r2, f2⟩ := HR2.out _ (Below.refl _ _) 2 (by omega)
      obtain ⟨r3, f3⟩ := HR2.out _ (Below.refl _ _) 3 (by omega)
      go_wp2_with fail
      go_quiet ((go_at_call 18; exact Calls.quiet_of_same (HUS.out _)))
      go_wp2_with fail
      exact bodyPost_ret (v := .tuple #[opV 0 0 0 0, .int .i64 2]) (by simp [results, Tryd.results22, go_sem, opV, r0, r1, r2, r3]) rfl
        ⟨.inr ⟨rfl, fun k' a b c h e => by
          obtain ⟨e1, e2⟩ := HLEN.out k' a b c e
          rw [HK.out.2.1] at e1
          obtain rfl := word_inj HK.out.2.2.1 HK.out.2.2.2 h.1 h.2.1 (bs_inj e1)
          exact HLN.out e2⟩, ((((HFIN.out _ (below_drewN (Below.refl _ _) _)).setCell (Nat.le_refl _) _).setCell (Nat.le_refl _) _).setCell (Nat.le_refl _) _).setCell (Nat.le_refl _) _⟩
  · have HNO := Lib.hid hno
    clear hno
    obtain ⟨r0, f0⟩ := HR2.out _ (Below.refl _ _) 0 (by omega)
    obtain ⟨r1, f1⟩ := HR2.out _ (Below.refl _ _) 1 (by omega)
    obtain ⟨r2, f2⟩ := HR2.out _ (Below.refl _ _) 2 (by omega)
    obtain ⟨r3, f3⟩ := HR2.out _ (Below.refl _ _) 3 (by omega)
    go_wp2_with fail
    go_quiet (fail)
    go_wp2_with fail
    exact bodyPost_ret (v := .tuple #[opV 0 0 0 0, .int .i64 2]) (by simp [results, Tryd.results22, go_sem, opV, r0, r1, r2, r3]) rfl
      ⟨.inr ⟨rfl, fun k a b c h e => HNO.out k h.1 h.2.1 (HLEN.out k a b c e).1⟩, ((((HFIN.out _ (below_drewN (Below.refl _ _) _)).setCell (Nat.le_refl _) _).setCell (Nat.le_refl _) _).setCell (Nat.le_refl _) _).setCell (Nat.le_refl _) _⟩
end Go.Proofs.YtenjllknianieaaDoor.Opr
