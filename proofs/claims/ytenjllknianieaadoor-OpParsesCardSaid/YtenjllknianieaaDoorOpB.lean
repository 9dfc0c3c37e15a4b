/-
  Itoa, Atoi and SplitN, wherever the library's tables lie as they were laid.
-/
import Derived.Test.YtenjllknianieaaDoorOpM
import Derived.Test.YtenjllknianieaaDoorOpSh
import Derived.WalkSmall
namespace Go.Proofs.YtenjllknianieaaDoor.Opr
open Go.RowKit

/-- What lies of the library. -/
structure LibTab (w : World) : Prop where
  pow : w.var? Tryd.prog "internal/strconv.uint64pow10" = some (Lib.pow10Tab.map fun z => Value.int .u64 z).toArray
  ml : ∃ m, w.cell? ⟨5, 0, none⟩ = some (.int .i64 m)
  es : ∃ tp p, w.cell? ⟨2, 0, none⟩ = some (.iface tp p)
  er : ∃ tp p, w.cell? ⟨3, 0, none⟩ = some (.iface tp p)
  blk : 6 ≤ w.heap.size
theorem gPow : Tryd.prog.globalNamed "internal/strconv.uint64pow10" = some 4 := by kernel_rfl
theorem LibTab.later {w w' : World} (h : LibTab w) (hb : Below w.heap.size w w') : LibTab w' := by
  have hB := h.blk
  have e1 : 5 < w.heap.size := by omega
  have e2 : 2 < w.heap.size := by omega
  have e3 : 3 < w.heap.size := by omega
  have e4 : 4 < w.heap.size := by omega
  exact ⟨var?_below hb gPow e4 h.pow, h.ml.imp fun _ hm => (hb.cell (p := ⟨_, 0, none⟩) e1).trans hm, h.es.imp fun _ ⟨p, hm⟩ => ⟨p, (hb.cell (p := ⟨_, 0, none⟩) e2).trans hm⟩, h.er.imp fun _ ⟨p, hm⟩ => ⟨p, (hb.cell (p := ⟨_, 0, none⟩) e3).trans hm⟩, Nat.le_trans hB hb.size⟩

theorem below_growN (w : World) (k : Nat) (os : Array Obj) : Below w.heap.size w (Sort.grow (w.drewN k) os) :=
  ⟨rfl, rfl, rfl, by show w.heap.size ≤ (w.heap ++ os).size; rw [Array.size_append]; omega, fun j hj => by show (w.heap ++ os)[j]? = w.heap[j]?; exact Array.getElem?_append_left hj⟩
theorem itoa_any (n : Int) (hn : inI n) (w : World) (ht : LibTab w) :
    Calls Tryd.prog 48 #[.int .i64 n] w fun e w' => e = .returned (.string (bs (Lib.itoa n))) ∧ Below w.heap.size w w' := by
  refine (Any.strconv_Itoa Tryd.laysM171 n hn.1 hn.2 w ht.pow).mono ?_
  rintro e w' ⟨rfl, k, os, rfl⟩
  exact ⟨rfl, below_growN w k os⟩

theorem lt_of_cell {w : World} {p : Addr} {v : Value} (h : w.cell? p = some v) : p.block < w.heap.size := World.block_lt_of_cell? w _ h
/-- What Atoi tells of whatever text. -/
def atoiV (l : List UInt8) : Int := match Lib.atoiAll l with
  | .ok v => v
  | .range => Lib.atoiSat l
  | _ => 0
theorem atoiV_itoa {m : Int} (h : inI m) : atoiV (Lib.itoa m) = m := by unfold atoiV; rw [atoi_itoa h]
theorem atoiV_in (l : List UInt8) : inI (atoiV l) := by
  unfold atoiV
  rcases h : Lib.atoiAll l with v | _ | _
  · exact Lib.atoiAll_bounds h
  · show inI 0; unfold inI; omega
  · have := Lib.atoiSat_bounds l; show inI (Lib.atoiSat l); unfold inI; omega
theorem atoi_any (s : ByteArray) (hs : s.size ≤ 281474976710656) (w : World) (ht : LibTab w) :
    Calls Tryd.prog 54 #[.string s] w fun e w' => ∃ v, e = .returned (.tuple #[.int .i64 (atoiV s.data.toList), v]) ∧ Below w.heap.size w w' := by
  unfold atoiV
  rcases h : Lib.atoiAll s.data.toList with v | _ | _
  · refine (Any.strconv_Atoi_ok Tryd.laysC172 s (by omega) v h w).mono ?_
    rintro e w' ⟨rfl, hw⟩
    refine ⟨_, rfl, ?_⟩
    rcases hw with rfl | ⟨t, rfl⟩
    · exact Below.refl _ _
    · exact Lib.bytesWorld_below _ _ _
  · obtain ⟨tp, p, he⟩ := ht.es
    refine (Any.strconv_Atoi_syntax Tryd.laysC172 s hs h _ w he (.inr ⟨_, _, rfl⟩)).mono ?_
    rintro e w' ⟨N, rfl, _, _, hb⟩
    exact ⟨_, rfl, hb⟩
  · obtain ⟨tp, p, he⟩ := ht.er
    refine (Any.strconv_Atoi_range Tryd.laysC172 s hs h _ w he (.inr ⟨_, _, rfl⟩)).mono ?_
    rintro e w' ⟨N, rfl, _, _, hb⟩
    exact ⟨_, rfl, hb⟩

/-- The blank. -/
def blank : ByteArray := ⟨#[32]⟩
/-- A text's words, five at most. -/
def pieces (s : ByteArray) : List ByteArray := Lib.splitB blank 0 (min 5 (s.size + 1) - 1) s
theorem splitn_any (s : ByteArray) (hs : s.size < 4294967281) (w : World) (ht : LibTab w) :
    Calls Tryd.prog 51 #[.string s, .string ⟨#[32]⟩, .int .i64 5] w fun e w' =>
      e = .returned (.slice (some ⟨w.heap.size, 0, none⟩) (pieces s).length (min 5 (s.size + 1))) ∧ w' = w.alloc (.cells (Lib.cellsOf (pieces s) (min 5 (s.size + 1))) 9) := by
  obtain ⟨m, hm⟩ := ht.ml
  exact Any.strings_SplitN Tryd.lays147 (by kernel_rfl) s blank 5 m w hs hm (by decide) (by omega) (by omega)
theorem pieces_one (s : ByteArray) : 1 ≤ (pieces s).length := by
  unfold pieces
  generalize min 5 (s.size + 1) - 1 = k
  cases k with
  | zero => exact Nat.le_refl _
  | succ k => unfold Lib.splitB; split <;> simp
theorem extract_size_le (s : ByteArray) (a b : Nat) : (s.extract a b).size ≤ s.size := by
  rw [ByteArray.size_extract]; omega
theorem splitB_sizes : ∀ (k : Nat) (s x : ByteArray), x ∈ Lib.splitB blank 0 k s → x.size ≤ s.size
  | 0, s, x, h => by
    rw [Lib.splitB_zero] at h
    obtain rfl := List.mem_singleton.1 h
    exact Nat.le_refl _
  | k + 1, s, x, h => by
    unfold Lib.splitB at h
    split at h
    · obtain rfl := List.mem_singleton.1 h
      exact Nat.le_refl _
    · rcases List.mem_cons.1 h with rfl | h
      · exact extract_size_le _ _ _
      · exact Nat.le_trans (splitB_sizes k _ x h) (extract_size_le _ _ _)
theorem pieces_le (s : ByteArray) : (pieces s).length ≤ min 5 (s.size + 1) := by
  have := Lib.splitB_length_le blank 0 (min 5 (s.size + 1) - 1) s
  unfold pieces; omega
/-- A line's words. -/
theorem pieces_line {s : ByteArray} {w : List UInt8} {r : List (List UInt8)} (hw : NoB w) (hr : ∀ x ∈ r, NoB x) (h3 : r.length ≤ 3) (h : s.data.toList = joinW w r) : (pieces s).map (·.data.toList) = w :: r := by
  unfold pieces
  rw [Lib.splitB_data, h]
  refine split_join r w _ hw hr ?_
  have h1 := joinT_len r
  have h2 : s.size = (joinW w r).length := by rw [← h, Lib.size_eq]
  unfold joinW at h2
  rw [List.length_append] at h2
  omega
end Go.Proofs.YtenjllknianieaaDoor.Opr
