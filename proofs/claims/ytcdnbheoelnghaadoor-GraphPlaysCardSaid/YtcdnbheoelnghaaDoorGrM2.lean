/-
  Roots of a graph.
-/
import Derived.Test.YtcdnbheoelnghaaDoorGrX
import Derived.Lib.AppendZeros
import Derived.Maps.AppendAt
import Derived.Test.YtcdnbheoelnghaaDoorGrSh
import Derived.Sort.OwnSortedInts
import Derived.Lib.OwnBridge
import Derived.Deep.RegionHeld3
namespace Go.Proofs.YtcdnbheoelnghaaDoor.Gra
open Go.RowKit Go.Proofs.YtcdnbheoelnghaaDoor.Opr
open Go.Proofs.YtcdnbheoelnghaaDoor.Row (Chg rowB Rd Rd0 cellsZ cellsZ_length cellsZ_at info_parts infoInt owns_lt owns_slice)

set_option maxRecDepth 100000 in
theorem grow_any (n : Nat) (hn : n ≤ 1000000) (w : World) : Calls Tryd.prog 52 #[.slice none 0 0, .int .i64 n] w fun e w' => ∃ p cap, e = .returned (.slice p 0 cap) ∧ w'.ownsRow w.heap.size 3 1 (.slice p 0 cap) 0 [] ∧ Below w.heap.size w w' := by
  have n0 : (0 : Int) ≤ (n : Int) := Int.natCast_nonneg _
  have n6 : (n : Int) ≤ 1000000 := by omega
  by_cases hz : n = 0
  · subst hz
    have HF : Hid (w.ownsRow w.heap.size 3 1 (.slice none 0 0) 0 [] ∧ Below w.heap.size w w) := Lib.hid ⟨⟨rfl, .inl ⟨rfl, rfl⟩⟩, Below.refl _ _⟩
    clear n0 n6 hn
    go_enter Tryd.func52, Tryd.ntmps52
    go_wp2_with fail
    go_ret
    exact ⟨none, 0, rfl, HF.out⟩
  · have hp : (0 : Int) < (n : Int) := by omega
    obtain ⟨i0, hi, hz0, hs, hb⟩ := info_parts infoInt
    have hr := Lib.run_append_nil_zeros (P := Tryd.prog) w 32 3 32 3 i0 (.int .i64 0) .i64 .i64 Tryd.underlying32 Tryd.underlying3 hi hz0 n (by omega) (by omega) (by omega) (by rw [hb]; omega)
    have HR := Lib.hid hr
    clear hr
    have hge := grownCap_ge w n 0 3
    have hml := grownCap_le_maxLen w n 0 3 (by unfold maxLen; omega)
    generalize grownCap w n 0 3 = g at *
    obtain ⟨w2, hw2⟩ : ∃ w2, (w.drew.alloc (.cells (Builtin.zeroCells (Value.int .i64 0).cells n ++ Builtin.zeroCells (Value.int .i64 0).cells (g - n)) 3)) = w2 := ⟨_, rfl⟩
    rw [hw2] at HR
    have HB : Hid (Below w.heap.size w w2) := Lib.hid (by rw [← hw2]; exact ((Below.refl _ w).drew).alloc (by simp) _)
    have HO : Hid (w2.ownsRow w.heap.size 3 1 (.slice (some ⟨w.heap.size, 0, none⟩) 0 g) 0 []) := Lib.hid (by
      rw [← hw2]
      refine ⟨rfl, .inr ⟨w.heap.size, g, (Builtin.zeroCells (Value.int .i64 0).cells n ++ Builtin.zeroCells (Value.int .i64 0).cells (g - n)), rfl, Nat.le_refl _, ?_, Nat.zero_le _, hml, ?_, by simp⟩⟩
      · show (w.heap.push _)[w.heap.size]? = _
        simp
      · simp [Builtin.zeroCells, Value.cells]; omega)
    have hg0 : (0 : Int) ≤ (g : Int) := Int.natCast_nonneg _
    clear hw2 hml hi hz0 hs hb hn
    go_enter Tryd.func52, Tryd.ntmps52
    go_wp2_with (at_builtin; refine Lib.wpList_append_run _ rfl _ _ _ _ rfl _ _ rfl rfl _ _ HR.out ?_)
    go_ret
    exact ⟨_, _, rfl, HO.out, HB.out⟩
theorem run_append_none {P : Program} (w : World) (t ty e : TypeId) (i : TypeInfo) (ht : P.underlying t = some (.slice e)) (hi : P.info? e = some i) (b : Addr) (n cap c : Nat) (hle : n ≤ cap) :
    (Builtin.append_ #[t, t] ty #[.slice (some b) n cap, .slice none 0 c]).run P w = .ok (.slice (some b) n cap) w := by
  simp [Builtin.append_, run_underlying ht, sizeOf, typeInfo, hi, Builtin.lenOf, Builtin.firstCells, loadCells, storeCells, hle]
theorem run_append_none0 {P : Program} (w : World) (t ty e : TypeId) (i : TypeInfo) (ht : P.underlying t = some (.slice e)) (hi : P.info? e = some i) (c : Nat) :
    (Builtin.append_ #[t, t] ty #[.slice none 0 0, .slice none 0 c]).run P w = .ok (.slice none 0 0) w := by
  simp [Builtin.append_, run_underlying ht, sizeOf, typeInfo, hi, Builtin.lenOf, Builtin.firstCells]
/-- append of a row of numbers to one that is owned. -/
theorem run_append_row (w : World) (base : Nat) (ty : TypeId) (pl : Option Addr) (cap : Nat) (l : List Int) (hown : w.ownsRow base 3 1 (.slice pl l.length cap) l.length (cellsZ l))
    (pa : Option Addr) (ca : Nat) (za : List Int) (ha : Rd0 w pa za) (hl : l.length + za.length ≤ 1048576) (hbase : base ≤ w.heap.size) :
    ∃ p' c' w', (Builtin.append_ #[32, 32] ty #[.slice pl l.length cap, .slice pa za.length ca]).run Tryd.prog w = .ok (.slice p' (l ++ za).length c') w' ∧ w'.ownsRow base 3 1 (.slice p' (l ++ za).length c') (l ++ za).length (cellsZ (l ++ za)) ∧ Below base w w' := by
  obtain ⟨i, hi, hz, hs, hb⟩ := info_parts infoInt
  have hcz : cellsZ (l ++ za) = cellsZ l ++ cellsZ za := by simp [cellsZ]
  have hbl : ∀ w', w.grownBy w' (Value.slice pl l.length cap).ownBlock → Below base w w' := fun w' hg => (Below.refl base w).grown hg hbase (by
    intro k hk
    cases pl with
    | none => cases hk
    | some ad => simp only [Value.ownBlock, Option.some.injEq] at hk; subst hk; exact (owns_lt hown rfl).1)
  rw [List.length_append, hcz]
  cases pa with
  | none =>
    have hza : za = [] := by
      cases za with
      | nil => rfl
      | cons x xs => obtain ⟨g, off, e, _⟩ := ha 0 (by simp); cases e
    subst hza
    have hself : Below base w w := Below.refl _ _
    obtain ⟨h1, ⟨h2, h3⟩ | ⟨g, c, cur, e1, e2, e3, e4, r⟩⟩ := id hown
    · obtain rfl := List.eq_nil_of_length_eq_zero h3
      cases h2
      exact ⟨none, 0, w, run_append_none0 w _ _ _ i Tryd.underlying32 hi ca, by simpa [cellsZ] using hown, hself⟩
    · cases e1
      exact ⟨_, _, w, run_append_none w _ _ _ i Tryd.underlying32 hi _ _ _ ca e4, by simpa [cellsZ] using hown, hself⟩
  | some ad =>
    obtain ⟨v', w', h1, h2, h3, _, _⟩ := run_append_own_at (P := Tryd.prog) w base 32 ty 3 i (.int .i64 0) 1 8 Tryd.underlying32 hi hz hs hb rfl (by decide) _ _ _ hown ad za.length ca (cellsZ za) (by simp [cellsZ]) (fun j u hj => by
      have hjl : j < za.length := by have := (List.getElem?_eq_some_iff.1 hj).1; simpa [cellsZ] using this
      rw [cellsZ_at za hjl] at hj
      cases hj
      obtain ⟨g, off, e, hc⟩ := ha j hjl
      cases e
      rw [Addr.add_lit]
      exact hc) (fun u hu => by obtain ⟨x, _, rfl⟩ := List.mem_map.1 hu; rfl) (by unfold maxLen; omega) (by omega) hbase
    obtain ⟨p', c', rfl⟩ := owns_slice h2
    exact ⟨p', c', w', h1, h2, hbl w' h3⟩
theorem wpList_append_row {ops : Array Oper} {rest : List Oper} {o : Oper} {a : Act} {w : World} {Q : Exit → Act → World → Prop} (hgd : o.guard = none) (s x : Operand)
    (ho : o.op = .call { callee := .builtin .append, args := #[s, x], argTypes := #[32, 32] })
    (base : Nat) (pl : Option Addr) (cap : Nat) (l : List Int) (he : a.eval s = .slice pl l.length cap) (hown : w.ownsRow base 3 1 (.slice pl l.length cap) l.length (cellsZ l))
    (pa : Option Addr) (ca : Nat) (za : List Int) (hx : a.eval x = .slice pa za.length ca) (ha : Rd0 w pa za) (hl : l.length + za.length ≤ 1048576) (hbase : base ≤ w.heap.size)
    (h : ∀ p' c' w', w'.ownsRow base 3 1 (.slice p' (l ++ za).length c') (l ++ za).length (cellsZ (l ++ za)) → Below base w w' → wpList Tryd.prog ops Q rest (a.put o.dst (.slice p' (l ++ za).length c')) w') :
    wpList Tryd.prog ops Q (o :: rest) a w := by
  refine wpList_plain hgd fun K hK => ?_
  obtain ⟨p', c', w', hr, h2, h3⟩ := run_append_row w base o.type pl cap l hown pa ca za ha hl hbase
  unfold Oper.wp execOp
  simp only [ho, resolve, invoke, builtin, Sem.run_bind, Sem.run_pure, Result.andThen_ok, List.map_toArray, List.map_cons, List.map_nil, he, hx, hr]
  exact hK _ _ (h p' c' w' h2 h3)

/-- Rows of numbers, as they lie. -/
def RowsC (w : World) (pa : Option Addr) (n : Nat) (R : Nat → List Int) : Prop := ∀ i, i < n → ∃ b off p c, pa = some ⟨b, off, none⟩ ∧ w.cell? ⟨b, off + i, none⟩ = some (.slice p (R i).length c) ∧ Rd0 w p (R i)
def catL (R : Nat → List Int) (n : Nat) : List Int := (List.range n).flatMap R
theorem catL_succ (R : Nat → List Int) (n : Nat) : catL R (n + 1) = catL R n ++ R n := by
  unfold catL
  rw [List.range_succ, List.flatMap_append]
  simp
theorem catL_le (R : Nat → List Int) {j n : Nat} (h : j ≤ n) : (catL R j).length ≤ (catL R n).length := by
  induction n with
  | zero => obtain rfl : j = 0 := by omega
            exact Nat.le_refl _
  | succ n ih =>
    by_cases e : j = n + 1
    · subst e; exact Nat.le_refl _
    · have := ih (by omega)
      rw [catL_succ, List.length_append]
      omega
theorem rd0_later {w w' : World} {p : Option Addr} {l : List Int} (h : Rd0 w p l) (hb : Below w.heap.size w w') : Rd0 w' p l := fun j hj => by
  obtain ⟨g, off, e, hc⟩ := h j hj
  exact ⟨g, off, e, (hb.cell (p := ⟨g, off + j, none⟩) (World.block_lt_of_cell? _ _ hc)).trans hc⟩
theorem RowsC.later {w w' : World} {pa : Option Addr} {n : Nat} {R : Nat → List Int} (h : RowsC w pa n R) (hb : Below w.heap.size w w') : RowsC w' pa n R := fun i hi => by
  obtain ⟨b, off, p, c, e, hc, hr⟩ := h i hi
  exact ⟨b, off, p, c, e, (hb.cell (p := ⟨b, off + i, none⟩) (World.block_lt_of_cell? _ _ hc)).trans hc, rd0_later hr hb⟩
set_option maxRecDepth 100000 in
set_option maxHeartbeats 1000000 in
theorem concat_any (pa : Option Addr) (n ca : Nat) (R : Nat → List Int) (w : World) (hr : RowsC w pa n R) (hn : n ≤ 1000) (hl : (catL R n).length ≤ 100000) :
    Calls Tryd.prog 30 #[.slice pa n ca] w fun e w' => ∃ p cap, e = .returned (.slice p (catL R n).length cap) ∧ w'.ownsRow w.heap.size 3 1 (.slice p (catL R n).length cap) (catL R n).length (cellsZ (catL R n)) ∧ Below w.heap.size w w' := by
  have HR := Lib.hid hr
  have HL := Lib.hid hl
  have n0 : (0 : Int) ≤ (n : Int) := Int.natCast_nonneg _
  have n6 : (n : Int) ≤ 1000 := by omega
  clear hr hl
  go_enter Tryd.func30, Tryd.ntmps30
  go_wp2_with fail
  go_loop [3, 11] (fun sz i => ∃ j : Nat, j ≤ n ∧ i = .int .i64 j ∧ sz = .int .i64 (catL R j).length) (fun _ i => n - (intOf i).toNat)
  case atStart => exact ⟨0, Nat.zero_le _, rfl, rfl⟩
  case round =>
    obtain ⟨j, hj, rfl, rfl⟩ := hrel
    have j0 : (0 : Int) ≤ (j : Int) := Int.natCast_nonneg _
    have HS := Lib.hid (catL_succ R j)
    have hb1 : ((catL R j).length : Int) ≤ 100000 := by have := catL_le R hj; have := HL.out; omega
    by_cases hlt : j < n
    · have j1 : (j : Int) < (n : Int) := by omega
      obtain ⟨b, off, p, c, rfl, hc, -⟩ := HR.out j hlt
      have hb2 : ((R j).length : Int) ≤ 100000 := by
        have := catL_le R (show j + 1 ≤ n from hlt)
        have := HL.out
        rw [HS.out, List.length_append] at *
        omega
      have HLS : Hid ((catL R (j + 1)).length = (catL R j).length + (R j).length) := Lib.hid (by rw [HS.out, List.length_append])
      generalize (catL R j).length = a1 at *
      generalize (R j).length = a2 at *
      have a10 : (0 : Int) ≤ (a1 : Int) := Int.natCast_nonneg _
      have a20 : (0 : Int) ≤ (a2 : Int) := Int.natCast_nonneg _
      go_wp2_with fail
      go_round
      case rel => exact ⟨j + 1, by omega, by go_num, by rw [HLS.out]; go_num⟩
      case measure => simp [intOf]; omega
    · obtain rfl : j = n := by omega
      have HG := Lib.hid (grow_any (catL R j).length (by have := HL.out; omega) w)
      go_wp2_with (go_at_call 52; fail)
      refine HG.out.mono ?_
      rintro e w2 ⟨p2, c2, rfl, ho2, hb2⟩
      have HO2 := Lib.hid ho2
      have HB2 := Lib.hid hb2
      clear ho2 hb2 HG
      go_wp2_with fail
      go_loopw [6, 27] (fun v i wr => ∃ (t : Nat) (p : Option Addr) (c : Nat), t ≤ j ∧ i = .int .i64 t ∧ v = .slice p (catL R t).length c ∧ wr.ownsRow w.heap.size 3 1 (.slice p (catL R t).length c) (catL R t).length (cellsZ (catL R t)) ∧ Below w.heap.size w wr) (fun _ i _ => j - (intOf i).toNat)
      case atStart => exact ⟨0, p2, c2, Nat.zero_le _, rfl, rfl, HO2.out, HB2.out⟩
      case round =>
        obtain ⟨t, p, c, ht, rfl, rfl, hot, hbt⟩ := hrel
        have HOT := Lib.hid hot
        have HBT := Lib.hid hbt
        clear hot hbt HO2 HB2
        have t0 : (0 : Int) ≤ (t : Int) := Int.natCast_nonneg _
        by_cases hlt : t < j
        · have t1 : (t : Int) < (j : Int) := by omega
          obtain ⟨b, off, p5, c5, rfl, hc, hrd⟩ := (HR.out.later HBT.out) t hlt
          have HRD := Lib.hid hrd
          have HS2 := Lib.hid (catL_succ R t)
          have hlen : (catL R t).length + (R t).length ≤ 1048576 := by
            have h1 := catL_le R (show t + 1 ≤ j from hlt)
            have h2 := HL.out
            rw [HS2.out, List.length_append] at h1
            omega
          have HLN := Lib.hid hlen
          clear hrd hlen hb1 HS
          have hHO : Hid (w.heap.size ≤ wr.heap.size) := Lib.hid HBT.out.size
          go_wp2_with (at_builtin; refine wpList_append_row rfl (.tmp 31) (.tmp 32) rfl w.heap.size p c (catL R t) rfl HOT.out p5 c5 (R t) rfl HRD.out HLN.out hHO.out ?_; intro p' c' w3 ho3 hb3; have HO3 := Lib.hid ho3; have HB3 := Lib.hid hb3; clear ho3 hb3)
          go_roundw
          case rel => exact ⟨t + 1, p', c', by omega, by go_num, by rw [HS2.out]; simp, by rw [HS2.out]; exact HO3.out, HBT.out.trans HB3.out⟩
          case measure => simp [intOf]; omega
        · obtain rfl : t = j := by omega
          go_wp2_with fail
          go_ret
          exact ⟨p, c, rfl, HOT.out, HBT.out⟩
end Go.Proofs.YtcdnbheoelnghaaDoor.Gra

namespace Go.Proofs.YtcdnbheoelnghaaDoor.Gra
open Go.RowKit Go.Proofs.YtcdnbheoelnghaaDoor.Opr Go.Shelf Go.Sort
open Go.Proofs.YtcdnbheoelnghaaDoor.Row (Chg rowB Rd Rd0 cellsZ cellsZ_length cellsZ_at info_parts infoInt owns_lt owns_slice)

def srt (l : List Int) : List Int := l.mergeSort fun x y => decide (x ≤ y)
theorem srt_len (l : List Int) : (srt l).length = l.length := List.length_mergeSort l
theorem cells_map (l : List Int) : cellsZ l = l.map (Value.int .i64) := rfl
theorem sort_own (base cap : Nat) (p : Option Addr) (l : List Int) (w : World) (ho : w.ownsRow base 3 1 (.slice p l.length cap) l.length (cellsZ l)) (hb : base ≤ w.heap.size) (hl : l.length ≤ 100000) :
    Calls Tryd.prog 31 #[.slice p l.length cap] w fun e w' => e = .returned (.tuple #[]) ∧ w'.ownsRow base 3 1 (.slice p (srt l).length cap) (srt l).length (cellsZ (srt l)) ∧ Below base w w' := by
  rcases ho.2 with ⟨h0, h1⟩ | ⟨g, cap', cur, hv, hbase, hg, h1, h2, h3, h4⟩
  · obtain rfl := List.eq_nil_of_length_eq_zero h1
    refine (Any.slices_Sort_int_none Tryd.lays189 p cap w).mono ?_
    rintro e w' ⟨rfl, rfl⟩
    exact ⟨rfl, by simpa [srt] using ho, Below.refl _ _⟩
  · cases hv
    have hlt : g < w.heap.size := (owns_lt ho rfl).2
    rw [Nat.mul_one] at h4
    refine (Any.slices_Sort_int Tryd.lays189 g 0 cap l w (holds_of_blockI hg h4) hlt (by omega)).mono ?_
    rintro e w' ⟨rfl, n, os, rfl⟩
    refine ⟨rfl, ?_, (Below.refl base w).grown (grownBy_sortedI _) hb (fun j hj => by cases hj; exact hbase)⟩
    have h := ownsRow_sortedI (n := n) (os := os) (ts := srt l) (srt_len l) hbase hg h1 h2 h3
    rw [cells_map, srt_len]
    exact h
theorem compact_own (base cap : Nat) (p : Option Addr) (l : List Int) (w : World) (ho : w.ownsRow base 3 1 (.slice p l.length cap) l.length (cellsZ l)) (hb : base ≤ w.heap.size) (hl : l.length ≤ 100000) :
    Calls Tryd.prog 33 #[.slice p l.length cap] w fun e w' => e = .returned (.slice p (Lib.compact l).length cap) ∧ w'.ownsRow base 3 1 (.slice p (Lib.compact l).length cap) (Lib.compact l).length (cellsZ (Lib.compact l)) ∧ Below base w w' := by
  rcases ho.2 with ⟨h0, h1⟩ | ⟨g, cap', cur, hv, hbase, hg, h1, h2, h3, h4⟩
  · obtain rfl := List.eq_nil_of_length_eq_zero h1
    refine (Any.slices_Compact_int_empty Tryd.laysNm220 p cap w).mono ?_
    rintro e w' ⟨rfl, rfl⟩
    exact ⟨by simp [Lib.compact, Lib.compactUpTo], by simpa [Lib.compact, Lib.compactUpTo] using ho, Below.refl _ _⟩
  · cases hv
    rw [Nat.mul_one] at h4
    have hle := Lib.compact_length_le l
    refine (Any.slices_Compact_int Tryd.laysNm220 g 0 cap l w (holds_of_blockI hg h4) (by omega) h1).mono ?_
    rintro e w' ⟨rfl, q, rfl⟩
    refine ⟨rfl, ?_, Lib.below_putRow (Below.refl base w) hbase⟩
    have h := Lib.ownsRow_putRow (q := q) (k := (Lib.compact l).length) (ys := Lib.compact l ++ List.replicate (l.length - (Lib.compact l).length) 0) (enc := Value.int .i64) (zs := l) ho (by simp; omega) hle
    rw [List.take_left] at h
    exact h
end Go.Proofs.YtcdnbheoelnghaaDoor.Gra

namespace Go.Proofs.YtcdnbheoelnghaaDoor.Gra
open Go.RowKit Go.Proofs.YtcdnbheoelnghaaDoor.Opr Go.Shelf Go.Sort
open Go.Proofs.YtcdnbheoelnghaaDoor.Row (Chg rowB Rd Rd0 cellsZ cellsZ_length cellsZ_at info_parts infoInt owns_lt owns_slice)

theorem zero_any (x : Int) (W : World) : Calls Tryd.prog 34 #[.int .i64 x] W fun e w' => e = .returned (.bool (x == 0)) ∧ w' = W := by
  go_enter Tryd.func34, Tryd.ntmps34
  go_wp2_with fail
  go_ret
  exact ⟨rfl, rfl⟩
def nzL (l : List Int) : List Int := l.filter fun x => !(x == 0)
theorem enters_zero : ∀ args w, (callFunc 34 args).run Tryd.prog w = .ok (.enter 34 args) w := enters_of Tryd.func34 (by kernel_rfl) rfl
set_option maxRecDepth 100000 in
theorem index_nil (f : Value) (w : World) : Calls Tryd.prog 55 #[.slice none 0 0, f] w fun e w' => e = .returned (.int .i64 (-1)) ∧ w' = w := by
  go_enter Tryd.func55, Tryd.ntmps55
  go_wp2_with fail
  go_loop [8] (fun i => i = .int .i64 0) (fun _ => 0)
  case atStart => rfl
  case round =>
    obtain rfl := hrel
    go_wp2_with fail
    go_ret
    exact ⟨rfl, rfl⟩
set_option maxRecDepth 100000 in
theorem del_nil (g : FuncId) (w : World) : Calls Tryd.prog 32 #[.slice none 0 0, .func (.func g) #[] #[]] w fun e w' => e = .returned (.slice none 0 0) ∧ w' = w := by
  have HI := Lib.hid (index_nil (.func (.func g) #[] #[]) w)
  go_enter Tryd.func32, Tryd.ntmps32
  go_wp2_with (go_at_call 55; refine HI.out.mono ?_; rintro e w9 ⟨rfl, hw9⟩; obtain rfl : w = w9 := hw9.symm)
  go_ret
  exact ⟨rfl, rfl⟩
theorem del_own (base cap : Nat) (p : Option Addr) (l : List Int) (w : World) (ho : w.ownsRow base 3 1 (.slice p l.length cap) l.length (cellsZ l)) (hl : l.length ≤ 100000) :
    Calls Tryd.prog 32 #[.slice p l.length cap, .func (.func 34) #[] #[]] w fun e w' => e = .returned (.slice p (nzL l).length cap) ∧ w'.ownsRow base 3 1 (.slice p (nzL l).length cap) (nzL l).length (cellsZ (nzL l)) ∧ Below base w w' := by
  rcases ho.2 with ⟨h0, h1⟩ | ⟨g, cap', cur, hv, hbase, hg, h1, h2, h3, h4⟩
  · obtain rfl := List.eq_nil_of_length_eq_zero h1
    cases h0
    refine (del_nil _ w).mono ?_
    rintro e w' ⟨rfl, rfl⟩
    exact ⟨by simp [nzL], by simpa [nzL] using ho, Below.refl _ _⟩
  · cases hv
    rw [Nat.mul_one] at h4
    have hle : (nzL l).length ≤ l.length := List.length_filter_le _ _
    refine (AnyE.slices_DeleteFunc Tryd.laysDel (Value.int .i64) (fun _ => rfl) (fun x => x == 0) 34 #[] enters_zero 0 (fun w => by kernel_rfl) g 0 cap l.toArray w
      (fun W x _ => (zero_any x W).mono fun e w' h => ⟨h.1, 0, h.2⟩) (fun n os dk x _ => (zero_any x _).mono fun e w' h => ⟨h.1, 0, h.2⟩) (holds_of_blockI hg h4) (by simp; omega) (by simpa using h1)).mono ?_
    rintro e w' ⟨rfl, q, rfl⟩
    refine ⟨rfl, ?_, Lib.below_putRow (Below.refl base w) hbase⟩
    have h := Lib.ownsRow_putRow (q := q) (k := (nzL l).length) (ys := nzL l ++ List.replicate (l.length - (nzL l).length) 0) (enc := Value.int .i64) (zs := l) ho (by simp; omega) hle
    rw [List.take_left] at h
    exact h
end Go.Proofs.YtcdnbheoelnghaaDoor.Gra

namespace Go.Proofs.YtcdnbheoelnghaaDoor.Gra
open Go.RowKit Go.Proofs.YtcdnbheoelnghaaDoor.Opr
open Go.Proofs.YtcdnbheoelnghaaDoor.Row (Chg rowB Rd Rd0 cellsZ cellsZ_length cellsZ_at info_parts infoInt owns_lt owns_slice)

def rwL (s : GSt) : List Int := catL (fun i => s.E (4 + 2 * i)) s.nR ++ s.E 2
def rtL (s : GSt) : List Int := nzL (Lib.compact (srt (rwL s)))
theorem catL_bound {R : Nat → List Int} {n k : Nat} (h : ∀ i, i < n → (R i).length ≤ k) : (catL R n).length ≤ n * k := by
  induction n with
  | zero => simp [catL]
  | succ n ih =>
    have h1 := ih (fun i hi => h i (by omega))
    have h2 := h n (by omega)
    rw [catL_succ, List.length_append, Nat.succ_mul]
    omega
theorem two_rows (w1 : World) (p1 p2 : Option Addr) (c1 c2 : Nat) (l1 l2 : List Int) (t : TypeId) (h1 : Rd0 w1 p1 l1) (h2 : Rd0 w1 p2 l2) : RowsC (w1.alloc (.cells #[.slice p1 l1.length c1, .slice p2 l2.length c2] t)) (some ⟨w1.heap.size, 0, none⟩) 2 (fun i => if i = 0 then l1 else l2) := fun i hi => by
  have hb : Below w1.heap.size w1 (w1.alloc (.cells #[.slice p1 l1.length c1, .slice p2 l2.length c2] t)) := (Below.refl _ _).alloc (Nat.le_refl _) _
  match i, hi with
  | 0, _ => exact ⟨w1.heap.size, 0, p1, c1, rfl, by rw [World.cell?_alloc_new]; rfl, rd0_later h1 hb⟩
  | 1, _ => exact ⟨w1.heap.size, 0, p2, c2, rfl, by rw [World.cell?_alloc_new]; rfl, rd0_later h2 hb⟩
theorem cat_two (l1 l2 : List Int) : catL (fun i => if i = 0 then l1 else l2) 2 = l1 ++ l2 := by
  show List.flatMap _ [0, 1] = _
  simp
theorem GIs.rowsC {c : C7} {W : World} {G : Nat} {P : Nat → Option Addr} {K : Nat → Nat} {s : GSt} (h : GIs c W G P K s) : RowsC W (P 1) s.nR (fun i => s.E (4 + 2 * i)) := fun i hi => by
  obtain ⟨R, h1, h2⟩ := h.rowR hi
  exact ⟨R, 0, _, _, h1, by rw [Nat.zero_add]; exact h2, RowAt.of_owns (h.e _ (V_reg hi))⟩
set_option maxRecDepth 100000 in
set_option maxHeartbeats 2000000 in
theorem roots_any {c : C7} {W : World} {G : Nat} {P : Nat → Option Addr} {K : Nat → Nat} {s : GSt} {M r nc : Nat} (h : GIs c W G P K s) (wf : GWf M r nc s) (hM : M ≤ 4) (hr : r ≤ 5) (hn : nc ≤ 3) :
    Calls Tryd.prog 13 #[.pointer (some ⟨G, 0, none⟩)] W fun e w' => ∃ p cap, e = .returned (.slice p (rtL s).length cap) ∧ w'.ownsRow W.heap.size 3 1 (.slice p (rtL s).length cap) (rtL s).length (cellsZ (rtL s)) ∧ Below W.heap.size W w' := by
  have hc1 : (catL (fun i => s.E (4 + 2 * i)) s.nR).length ≤ 20 := by
    have h1 := catL_bound (R := fun i => s.E (4 + 2 * i)) (n := s.nR) (k := 5) (fun i hi => by rw [wf.reg i (by rw [← wf.nR]; exact hi)]; exact hr)
    have h2 := wf.nR
    omega
  have hraw : (rwL s).length ≤ 23 := by
    unfold rwL
    rw [List.length_append, wf.cel]
    omega
  have HRW := Lib.hid hraw
  have hsr : (srt (rwL s)).length ≤ 23 := by rw [srt_len]; exact hraw
  have HSR := Lib.hid hsr
  have HCL : Hid ((Lib.compact (srt (rwL s))).length ≤ 23) := Lib.hid (Nat.le_trans (Lib.compact_length_le _) hsr)
  have HR2 : Hid (∀ U, Below W.heap.size W U → Rd0 U (P 2) (s.E 2)) := Lib.hid fun U hU => rd0_later (RowAt.of_owns (h.e 2 (V_cells s))) hU
  have HCC : Hid (∀ U, Below W.heap.size W U → Calls Tryd.prog 30 #[.slice (P 1) s.nR (K 1)] U fun e w' => ∃ p cap, e = .returned (.slice p (catL (fun i => s.E (4 + 2 * i)) s.nR).length cap) ∧ w'.ownsRow U.heap.size 3 1 (.slice p (catL (fun i => s.E (4 + 2 * i)) s.nR).length cap) (catL (fun i => s.E (4 + 2 * i)) s.nR).length (cellsZ (catL (fun i => s.E (4 + 2 * i)) s.nR)) ∧ Below U.heap.size U w') :=
    Lib.hid fun U hU => concat_any (P 1) s.nR (K 1) _ U (h.rowsC.later hU) (by rw [wf.nR]; omega) (by omega)
  have HTW : Hid (∀ (p1 : Option Addr) (c1 : Nat) (w1 : World), Below W.heap.size W w1 → Rd0 w1 p1 (catL (fun i => s.E (4 + 2 * i)) s.nR) → Calls Tryd.prog 30 #[.slice (some ⟨w1.heap.size, 0, none⟩) 2 2] (w1.alloc (.cells #[.slice p1 (catL (fun i => s.E (4 + 2 * i)) s.nR).length c1, .slice (P 2) (s.E 2).length (K 2)] 32)) fun e w' => ∃ p cap, e = .returned (.slice p (rwL s).length cap) ∧ w'.ownsRow W.heap.size 3 1 (.slice p (rwL s).length cap) (rwL s).length (cellsZ (rwL s)) ∧ Below W.heap.size W w') :=
    Lib.hid fun p1 c1 w1 hb hrd => by
      have hA : Below W.heap.size W (w1.alloc (.cells #[.slice p1 (catL (fun i => s.E (4 + 2 * i)) s.nR).length c1, .slice (P 2) (s.E 2).length (K 2)] 32)) := hb.alloc hb.size _
      have h2 := concat_any (some ⟨w1.heap.size, 0, none⟩) 2 2 _ _ (two_rows w1 p1 (P 2) c1 (K 2) _ _ 32 hrd (HR2.out w1 hb)) (by decide) (by rw [cat_two]; have := HRW.out; unfold rwL at this; omega)
      rw [cat_two] at h2
      refine h2.mono ?_
      rintro e w' ⟨p, cap, rfl, ho, hb2⟩
      exact ⟨p, cap, rfl, Row.owns_base hA.size ho, hA.trans (hb2.mono hA.size)⟩
  have HK : Hid (∀ U, Below W.heap.size W U → U.cell? ⟨G, 8, none⟩ = some (.slice (P 1) s.nR (K 1)) ∧ U.cell? ⟨G, 9, none⟩ = some (.slice (P 2) (s.E 2).length (K 2))) := Lib.hid fun U hU => ⟨(hU.cell (p := ⟨G, 8, none⟩) (lt_of_cell h.r)).trans h.r, (hU.cell (p := ⟨G, 9, none⟩) (lt_of_cell h.c)).trans h.c⟩
  have HD0 : Hid (Below W.heap.size W W) := Lib.hid (Below.refl _ _)
  have HD1 : Hid (Below W.heap.size W W.drew) := Lib.hid (Below.refl _ _).drew
  clear h wf hc1 hraw hsr
  generalize hx1 : catL (fun i => s.E (4 + 2 * i)) s.nR = A at *
  clear hx1
  go_enter Tryd.func13, Tryd.ntmps13
  go_wp2_with fail
  go_region_held3 (fun U => U.cell? ⟨G, 8, none⟩ = some (.slice (P 1) s.nR (K 1)) ∧ U.cell? ⟨G, 9, none⟩ = some (.slice (P 2) (s.E 2).length (K 2)))
    (first | exact HK.out _ HD0.out | exact HK.out _ HD1.out | exact HK.out _ HB1.out | exact HK.out _ (HB1.out.alloc HB1.out.size _) | exact HK.out _ HB2.out)
    (first
      | (have hq1 := HO1.out; clear hq1; go_at_call 30; refine (HTW.out _ _ _ HB1.out HO1.out).mono ?_; rintro e w2 ⟨p2, c2, rfl, ho2, hb2⟩; have HO2 := Lib.hid ho2; have HB2 := Lib.hid hb2; clear ho2 hb2)
      | (go_at_call 30; refine (HCC.out _ (by first | exact HD0.out | exact HD1.out)).mono ?_; rintro e w1 ⟨p1, c1, rfl, ho1, hb1⟩; have HO1 := Lib.hid (Rd.of_owns ho1).rd0; have HB1 : Hid (Below W.heap.size W w1) := Lib.hid (by first | exact HD1.out.trans hb1 | exact HD0.out.trans hb1); clear ho1 hb1))
  rename_i hdrop
  clear hdrop
  have HSO := Lib.hid (sort_own W.heap.size c2 p2 (rwL s) w2 HO2.out HB2.out.size (by have := HRW.out; omega))
  go_wp2_with (go_at_call 31; fail)
  refine HSO.out.mono ?_
  rintro e w3 ⟨rfl, ho3, hb3⟩
  have HB3 : Hid (Below W.heap.size W w3) := Lib.hid (HB2.out.trans hb3)
  have HCO := Lib.hid (compact_own W.heap.size c2 p2 (srt (rwL s)) w3 ho3 HB3.out.size (by have := HSR.out; omega))
  have HSL : Hid ((srt (rwL s)).length = (rwL s).length) := Lib.hid (srt_len _)
  rw [HSL.out] at HCO
  clear ho3 hb3 HSO
  go_wp2_with (go_at_call 33; fail)
  refine HCO.out.mono ?_
  rintro e w4 ⟨rfl, ho4, hb4⟩
  have HB4 : Hid (Below W.heap.size W w4) := Lib.hid (HB3.out.trans hb4)
  have HDE := Lib.hid (del_own W.heap.size c2 p2 (Lib.compact (srt (rwL s))) w4 ho4 (by have := HCL.out; omega))
  clear ho4 hb4 HCO
  go_wp2_with (go_at_call 32; fail)
  refine HDE.out.mono ?_
  rintro e w5 ⟨rfl, ho5, hb5⟩
  have HO5 := Lib.hid ho5
  have HB5 : Hid (Below W.heap.size W w5) := Lib.hid (HB4.out.trans hb5)
  clear ho5 hb5 HDE
  go_wp2_with fail
  go_ret
  exact ⟨p2, c2, rfl, HO5.out, HB5.out⟩
end Go.Proofs.YtcdnbheoelnghaaDoor.Gra
