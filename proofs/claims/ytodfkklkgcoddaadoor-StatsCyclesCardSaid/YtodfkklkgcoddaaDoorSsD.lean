/-
  The document's example.
-/
import Derived.Test.YtodfkklkgcoddaaDoorSsC
import Derived.Test.YtodfkklkgcoddaaDoorSsK
namespace Go.Proofs.YtodfkklkgcoddaaDoor.Ss
open Go.RowKit
open Go.Proofs.YtodfkklkgcoddaaDoor.Row

theorem owns_cellN {w : World} {base size cap k g n : Nat} {e : TypeId} {xs : List Value} (h : w.ownsRow base e size (.slice (some ⟨g, 0, none⟩) n cap) k xs) : ∀ (j : Nat) (u : Value), xs[j]? = some u → w.cell? ⟨g, j, none⟩ = some u := fun j u hu => by
  obtain ⟨h1, ⟨h2, _⟩ | ⟨g', c, cur, e1, e2, e3, e4, e5, e6, e7⟩⟩ := h
  · cases h2
  · cases e1
    have hj : j < k * size := by have := (List.getElem?_eq_some_iff.1 hu).1; omega
    have e : cur[j]? = some u := by
      have h3 := congrArg (fun l => l[j]?) e7
      simp only [List.getElem?_take, hj, if_true, Array.getElem?_toList] at h3
      rw [h3, hu]
    simp [World.cell?, e3, e]
/-- Cycles that can be read. -/
def CyR (w : World) (p : Option Addr) (l : List Cy) : Prop := ∀ i, i < l.length → ∃ b off, p = some ⟨b, off, none⟩ ∧ w.cell? ⟨b, off + i * 5, none⟩ = some (.int .i64 (l.getD i cy0).num) ∧
  w.cell? ⟨b, off + i * 5 + 1, none⟩ = some (.int .i64 (l.getD i cy0).start) ∧ w.cell? ⟨b, off + i * 5 + 2, none⟩ = some (.int .i64 (l.getD i cy0).marked) ∧ w.cell? ⟨b, off + i * 5 + 3, none⟩ = some (.int .i64 (l.getD i cy0).rested) ∧
  w.cell? ⟨b, off + i * 5 + 4, none⟩ = some (.int .i64 (l.getD i cy0).freed)
theorem CyR.later {w w' : World} {p : Option Addr} {l : List Cy} (h : CyR w p l) (hb : Below w.heap.size w w') : CyR w' p l := fun i hi => by
  obtain ⟨b, off, e, c0, c1, c2, c3, c4⟩ := h i hi
  exact ⟨b, off, e, (hb.cell (p := ⟨b, _, none⟩) (lt_of_cell c0)).trans c0, (hb.cell (p := ⟨b, _, none⟩) (lt_of_cell c1)).trans c1, (hb.cell (p := ⟨b, _, none⟩) (lt_of_cell c2)).trans c2,
    (hb.cell (p := ⟨b, _, none⟩) (lt_of_cell c3)).trans c3, (hb.cell (p := ⟨b, _, none⟩) (lt_of_cell c4)).trans c4⟩
theorem CyR.of_owns {w : World} {base cap : Nat} {p : Option Addr} {l : List Cy} (h : w.ownsRow base 32 5 (.slice p l.length cap) l.length (cellsC l)) : CyR w p l := fun i hi => by
  have h2 := h
  obtain ⟨_, ⟨e, hn⟩ | ⟨g, c, cur, e, r⟩⟩ := h2
  · omega
  · obtain rfl : p = some ⟨g, 0, none⟩ := by injection e
    have hx : l[i]? = some (l.getD i cy0) := by rw [List.getD_eq_getElem?_getD, List.getElem?_eq_getElem hi]; rfl
    have hc : ∀ t, t < 5 → w.cell? ⟨g, i * 5 + t, none⟩ = (cyC (l.getD i cy0))[t]? := fun t ht => by
      obtain ⟨u, hu⟩ : ∃ u, (cyC (l.getD i cy0))[t]? = some u := ⟨_, List.getElem?_eq_getElem (by exact ht)⟩
      rw [hu]
      exact owns_cellN h _ _ ((cellsC_at ht hx).trans hu)
    refine ⟨g, 0, rfl, ?_, ?_, ?_, ?_, ?_⟩
    · rw [Nat.zero_add]; exact hc 0 (by decide)
    · rw [Nat.zero_add]; exact hc 1 (by decide)
    · rw [Nat.zero_add]; exact hc 2 (by decide)
    · rw [Nat.zero_add]; exact hc 3 (by decide)
    · rw [Nat.zero_add]; exact hc 4 (by decide)

def exE : List Ev := [⟨3, 0, 2, 0, 0, 1⟩, ⟨0, 0, 5, 0, 0, 0⟩, ⟨9, 0, 4, 0, 0, 0⟩]
def exC : Cy := ⟨1, 3, -1, 9, 1⟩
theorem ex_cycs : cycs exE = [exC] := rfl
theorem itoa_dig {d : Nat} (h : d < 10) : Lib.itoa (d : Int) = [UInt8.ofNat (48 + d)] := by
  unfold Lib.itoa
  rw [if_neg (by omega), Int.toNat_natCast, Lib.decDigits, dif_pos h]
theorem itoa_m1 : Lib.itoa (-1) = [45, 49] := by
  unfold Lib.itoa
  rw [if_pos (by decide), show (-1 : Int).natAbs = 1 from rfl, Lib.decDigits, dif_pos (by decide)]
  rfl
theorem ex_line : lineC exC = [99, 121, 99, 108, 101, 32, 49, 32, 115, 116, 97, 114, 116, 32, 51, 32, 109, 97, 114, 107, 101, 100, 32, 45, 49, 32, 114, 101, 115, 116, 101, 100, 32, 57, 32, 102, 114, 101, 101, 100, 32, 49] := by
  rw [lineC_eq]
  show (([99, 121, 99, 108, 101, 32] ++ Lib.itoa 1) ++ [32, 115, 116, 97, 114, 116, 32] ++ Lib.itoa 3 ++ [32, 109, 97, 114, 107, 101, 100, 32] ++ Lib.itoa (-1) ++ [32, 114, 101, 115, 116, 101, 100, 32] ++ Lib.itoa 9 ++ [32, 102, 114, 101, 101, 100, 32] ++ Lib.itoa 1) = _
  rw [show Lib.itoa 1 = [49] from itoa_dig (d := 1) (by decide), show Lib.itoa 3 = [51] from itoa_dig (d := 3) (by decide), show Lib.itoa 9 = [57] from itoa_dig (d := 9) (by decide), itoa_m1]
  rfl
theorem exC_in : CyI exC := ⟨by unfold inI exC; simp, by unfold inI exC; simp, by unfold inI exC; simp, by unfold inI exC; simp, by unfold inI exC; simp⟩

set_option maxRecDepth 100000 in
set_option maxHeartbeats 4000000 in
theorem awake_any (W : World) (ht : LibTab W) : Calls Tryd.prog 7 #[] W fun x w' => x = .returned (.bool true) ∧ Below W.heap.size W w' := by
  have HT := Lib.hid ht
  clear ht
  obtain ⟨w1, hw1⟩ : ∃ w1, W.alloc (.cells #[.int .i64 3, .int .i64 0, .int .i64 2, .int .i64 0, .int .i64 0, .int .i64 1, .int .i64 0, .int .i64 0, .int .i64 5, .int .i64 0, .int .i64 0, .int .i64 0, .int .i64 9, .int .i64 0, .int .i64 4, .int .i64 0, .int .i64 0, .int .i64 0] 44) = w1 := ⟨_, rfl⟩
  have hb1 : Below W.heap.size W w1 := by rw [← hw1]; exact (Below.refl _ _).alloc (Nat.le_refl _) _
  have HB1 := Lib.hid hb1
  have hE : EvAt w1 (some ⟨W.heap.size, 0, none⟩) exE := fun i hi => by
    have hi' : i < 3 := hi
    rw [← hw1]
    refine ⟨W.heap.size, 0, rfl, ?_⟩
    simp only [World.cell?_alloc_new]
    match i, hi' with
    | 0, _ => exact ⟨rfl, rfl, rfl, rfl, rfl, rfl⟩
    | 1, _ => exact ⟨rfl, rfl, rfl, rfl, rfl, rfl⟩
    | 2, _ => exact ⟨rfl, rfl, rfl, rfl, rfl, rfl⟩
  have HCY : Hid (Calls Tryd.prog 8 #[.slice (some ⟨W.heap.size, 0, none⟩) 3 3] w1 fun x w' => ∃ p' c', x = .returned (.slice p' 1 c') ∧ CyR w' p' [exC] ∧ Below w1.heap.size w1 w') := Lib.hid
    ((cycles_any (some ⟨W.heap.size, 0, none⟩) 3 exE w1 hE (by decide) (by decide) (by decide)).mono fun e w' ⟨p', c', he, ho, hb⟩ => ⟨p', c', he, CyR.of_owns ho, hb⟩)
  have HEX := Lib.hid ex_line
  have HLN : Hid (∀ w, Below W.heap.size W w → Calls Tryd.prog 12 #[.agg #[.int .i64 1, .int .i64 3, .int .i64 (-1), .int .i64 9, .int .i64 1]] w fun x w' => x = .returned (.string (bs (lineC exC))) ∧ Below w.heap.size w w') := Lib.hid fun w h => line_any exC exC_in w (HT.out.later h)
  clear hb1 hE
  go_enter Tryd.func7, Tryd.ntmps7
  go_wp2_with (go_at_call 8; fail)
  refine HCY.out.mono ?_
  rintro e w2 ⟨p', c', rfl, hr, hb2⟩
  obtain ⟨b, off, rfl, c0, c1, c2, c3, c4⟩ := hr 0 (by decide)
  have HB2 := Lib.hid (HB1.out.trans (hb2.mono HB1.out.size))
  have c0 : w2.cell? ⟨b, off, none⟩ = some (.int .i64 1) := by simpa [exC] using c0
  have c1 : w2.cell? ⟨b, off + 1, none⟩ = some (.int .i64 3) := by simpa [exC] using c1
  have c2 : w2.cell? ⟨b, off + 2, none⟩ = some (.int .i64 (-1)) := by simpa [exC] using c2
  have c3 : w2.cell? ⟨b, off + 3, none⟩ = some (.int .i64 9) := by simpa [exC] using c3
  have c4 : w2.cell? ⟨b, off + 4, none⟩ = some (.int .i64 1) := by simpa [exC] using c4
  have hs : ((bs (lineC exC)).toList == [99, 121, 99, 108, 101, 32, 49, 32, 115, 116, 97, 114, 116, 32, 51, 32, 109, 97, 114, 107, 101, 100, 32, 45, 49, 32, 114, 101, 115, 116, 101, 100, 32, 57, 32, 102, 114, 101, 101, 100, 32, 49]) = true := by
    rw [HEX.out, beq_iff_eq, ByteArray.toList_eq]; rfl
  clear hb2 hr hw1
  go_wp2_with (go_at_call 12; refine (HLN.out _ HB2.out).mono ?_; rintro e w3 ⟨rfl, hb3⟩; have HB3 := Lib.hid hb3; clear hb3)
  go_ret
  refine ⟨?_, HB2.out.trans (HB3.out.mono HB2.out.size)⟩
  rfl
end Go.Proofs.YtodfkklkgcoddaaDoor.Ss
