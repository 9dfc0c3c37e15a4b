/-
  The law StackPlays answers true, for every room and whatever is done.
-/
import Derived.Test.YtfiaajlagkfkjaaStkE
import Derived.Deep.RegionLawGrows
namespace Go.Proofs.Ytfiaajlagkfkjaa.Stk
open Go.RowKit
open Go.Proofs.Ytfiaajlagkfkjaa.Row

/-- A stack in memory, above what lay, and a row beside it. -/
structure Pl (S : Nat) (w wr : World) (B k : Nat) (ns hs : List Int) (over : Bool) (ph : Option Addr) (ch : Nat) : Prop where
  st : ∃ p cap, StIs wr B S k cap p ns over ∧ ∀ g, rowB ph g → g < wr.heap.size ∧ ¬ rowB p g ∧ g ≠ B
  bel : Below S w wr
  rd : Rd wr ph hs
  nc : ph = none → ch = 0
  le : hs.length ≤ ch
theorem Pl.new {S : Nat} {w wr : World} {B k cap : Nat} (h : StIs wr B S k cap none [] false) (hb : Below S w wr) : Pl S w wr B k [] [] false none 0 := ⟨⟨_, _, h, fun g hg => absurd hg (rowB_none g)⟩, hb, Rd.nil _, fun _ => rfl, Nat.le_refl _⟩
theorem Pl.push {S : Nat} {w wr : World} {B k : Nat} {ns hs : List Int} {over : Bool} {ph : Option Addr} {ch : Nat} (h : Pl S w wr B k ns hs over ph ch) (hS : S ≤ w.heap.size) (hl : ns.length < k) (x : Int) :
    Calls Try.prog 14 #[.pointer (some ⟨B, 0, none⟩), .int .i64 x] wr fun e w' => e = .returned (.bool true) ∧ Pl S w w' B k (ns ++ [x]) hs over ph ch := by
  obtain ⟨⟨p, cap, hst, hg⟩, hb, hrd, hnc, hle⟩ := h
  have hSr : S ≤ wr.heap.size := Nat.le_trans hS hb.size
  refine (push_good x wr hst hSr hl).mono ?_
  rintro e w' ⟨rfl, p', cap', hs', hc, hr⟩
  exact ⟨rfl, ⟨_, _, hs', fun g hg' => ⟨Nat.lt_of_lt_of_le (hg g hg').1 hc.size, fun e => (hr g e).elim (hg g hg').2.1 (by have := (hg g hg').1; omega), (hg g hg').2.2⟩⟩,
    hb.trans (hc.below (fun k hk => hk.elim (fun e => e ▸ hst.base) (fun e => (hst.ltG e).1)) hSr), hrd.chg hc (fun g hg' e => e.elim (hg g hg').2.2 (hg g hg').2.1), hnc, hle⟩
theorem Pl.full {S : Nat} {w wr : World} {B k : Nat} {ns hs : List Int} {over : Bool} {ph : Option Addr} {ch : Nat} (h : Pl S w wr B k ns hs over ph ch) (hS : S ≤ w.heap.size) (hl : ns.length = k) (x : Int) :
    Calls Try.prog 14 #[.pointer (some ⟨B, 0, none⟩), .int .i64 x] wr fun e w' => e = .returned (.bool false) ∧ Pl S w w' B k ns hs true ph ch := by
  have h' := h
  obtain ⟨⟨p, cap, hst, hg⟩, hb, hrd, hnc, hle⟩ := h
  refine (push_full x wr hst hl).mono ?_
  rintro e w' ⟨rfl, hs', hc⟩
  exact ⟨rfl, ⟨_, _, hs', fun g hg' => ⟨Nat.lt_of_lt_of_le (hg g hg').1 hc.size, (hg g hg').2⟩⟩, hb.trans (hc.below (fun k hk => hk ▸ hst.base) (Nat.le_trans hS hb.size)), hrd.chg hc (fun g hg' e => (hg g hg').2.2 e), hnc, hle⟩
theorem Pl.pop {S : Nat} {w wr : World} {B k : Nat} {ns hs : List Int} {x : Int} {over : Bool} {ph : Option Addr} {ch : Nat} (h : Pl S w wr B k (ns ++ [x]) hs over ph ch) (hS : S ≤ w.heap.size) :
    Calls Try.prog 12 #[.pointer (some ⟨B, 0, none⟩)] wr fun e w' => e = .returned (.tuple #[.int .i64 x, .bool true]) ∧ Pl S w w' B k ns hs over ph ch := by
  obtain ⟨⟨p, cap, hst, hg⟩, hb, hrd, hnc, hle⟩ := h
  refine (pop_good wr hst).mono ?_
  rintro e w' ⟨rfl, hs', hc⟩
  exact ⟨rfl, ⟨_, _, hs', fun g hg' => ⟨Nat.lt_of_lt_of_le (hg g hg').1 hc.size, (hg g hg').2⟩⟩, hb.trans (hc.below (fun k hk => hk ▸ hst.base) (Nat.le_trans hS hb.size)), hrd.chg hc (fun g hg' e => (hg g hg').2.2 e), hnc, hle⟩
theorem Pl.later {S : Nat} {w wr w' : World} {B k : Nat} {ns hs : List Int} {over : Bool} {ph : Option Addr} {ch : Nat} (h : Pl S w wr B k ns hs over ph ch) (hS : S ≤ w.heap.size) (hb' : Below wr.heap.size wr w') : Pl S w w' B k ns hs over ph ch := by
  obtain ⟨⟨p, cap, hst, hg⟩, hb, hrd, hnc, hle⟩ := h
  exact ⟨⟨_, _, hst.later hb', fun g hg' => ⟨Nat.lt_of_lt_of_le (hg g hg').1 hb'.size, (hg g hg').2⟩⟩, hb.trans (hb'.mono (Nat.le_trans hS hb.size)), hrd.later hb', hnc, hle⟩
theorem Pl.empty {S : Nat} {w wr : World} {B k : Nat} {hs : List Int} {over : Bool} {ph : Option Addr} {ch : Nat} (h : Pl S w wr B k [] hs over ph ch) (hS : S ≤ w.heap.size) :
    Calls Try.prog 12 #[.pointer (some ⟨B, 0, none⟩)] wr fun e w' => e = .returned (.tuple #[.int .i64 0, .bool false]) ∧ Pl S w w' B k [] hs over ph ch := by
  have h' := h
  obtain ⟨⟨p, cap, hst, hg⟩, hb, hrd, hnc, hle⟩ := h
  refine (pop_none wr hst).mono ?_
  rintro e w' ⟨rfl, hb'⟩
  exact ⟨rfl, h'.later hS hb'⟩
theorem Pl.calm {S : Nat} {w wr : World} {B k : Nat} {ns hs : List Int} {over : Bool} {ph : Option Addr} {ch : Nat} (h : Pl S w wr B k ns hs over ph ch) (hS : S ≤ w.heap.size) :
    Calls Try.prog 13 #[.pointer (some ⟨B, 0, none⟩)] wr fun e w' => e = .returned (.bool over) ∧ Pl S w w' B k ns hs false ph ch := by
  obtain ⟨⟨p, cap, hst, hg⟩, hb, hrd, hnc, hle⟩ := h
  refine (calm_any wr hst).mono ?_
  rintro e w' ⟨rfl, hs', hc, _⟩
  exact ⟨rfl, ⟨_, _, hs', fun g hg' => ⟨Nat.lt_of_lt_of_le (hg g hg').1 hc.size, (hg g hg').2⟩⟩, hb.trans (hc.below (fun k hk => hk ▸ hst.base) (Nat.le_trans hS hb.size)), hrd.chg hc (fun g hg' e => (hg g hg').2.2 e), hnc, hle⟩
theorem Pl.ov {S : Nat} {w wr : World} {B k : Nat} {ns hs : List Int} {over : Bool} {ph : Option Addr} {ch : Nat} (h : Pl S w wr B k ns hs over ph ch) :
    Calls Try.prog 16 #[.pointer (some ⟨B, 0, none⟩)] wr fun e w' => e = .returned (.bool over) ∧ wr = w' := by
  obtain ⟨⟨p, cap, hst, _⟩, _⟩ := h
  exact over_any wr hst
theorem Pl.len {S : Nat} {w wr : World} {B k : Nat} {ns hs : List Int} {over : Bool} {ph : Option Addr} {ch : Nat} (h : Pl S w wr B k ns hs over ph ch) :
    Calls Try.prog 15 #[.pointer (some ⟨B, 0, none⟩)] wr fun e w' => e = .returned (.int .i64 ns.length) ∧ wr = w' := by
  obtain ⟨⟨p, cap, hst, _⟩, _⟩ := h
  exact len_any wr hst
theorem Pl.short {S : Nat} {w wr : World} {B k : Nat} {ns hs : List Int} {over : Bool} {ph : Option Addr} {ch : Nat} (h : Pl S w wr B k ns hs over ph ch) : ns.length ≤ k := by
  obtain ⟨⟨p, cap, hst, _⟩, _⟩ := h
  exact hst.len
/-- The row without its last number. -/
theorem Pl.less {S : Nat} {w wr : World} {B k : Nat} {ns hs : List Int} {x : Int} {over : Bool} {ph : Option Addr} {ch : Nat} (h : Pl S w wr B k ns (hs ++ [x]) over ph ch) : Pl S w wr B k ns hs over ph ch := by
  obtain ⟨hst, hb, hrd, hnc, hle⟩ := h
  refine ⟨hst, hb, ?_, hnc, by simp at hle; omega⟩
  rcases hrd with ⟨_, h2⟩ | ⟨g, off, e, hc⟩
  · simp at h2
  · refine .inr ⟨g, off, e, fun j hj => (hc j (by simp; omega)).trans ?_⟩
    simp [List.getD_eq_getElem?_getD, List.getElem?_append_left hj]
/-- The row with one more, in new memory. -/
theorem Pl.grown {S : Nat} {w wr Y0 w3 : World} {B k : Nat} {ns hs : List Int} {x : Int} {over : Bool} {ph : Option Addr} {ch : Nat} {v' : Value} (h : Pl S w wr B k ns hs over ph ch) (hS : S ≤ w.heap.size) (hb0 : Below wr.heap.size wr Y0)
    (hown : w3.ownsRow Y0.heap.size 3 1 v' (hs.length + 1) (cellsZ hs ++ [.int .i64 x])) (hg3 : Y0.grownBy w3 Option.none) :
    ∃ p' cap', v' = .slice p' (hs.length + 1) cap' ∧ Pl S w w3 B k ns (hs ++ [x]) over p' cap' := by
  obtain ⟨p', cap', rfl, hb3, ho3⟩ := grow_row hb0 hown hg3
  obtain ⟨⟨p, cap, hst, hg⟩, hb, hrd, hnc, hle⟩ := h
  refine ⟨p', cap', rfl, ⟨p, cap, hst.later hb3, fun g hg' => ?_⟩, hb.trans (hb3.mono (Nat.le_trans hS hb.size)), ?_, fun e => ?_, ?_⟩
  · have h1 := owns_lt ho3 hg'
    exact ⟨h1.2, fun e => by have := (hst.ltG e).2; omega, fun e => by have := hst.ltB; omega⟩
  · rw [← cellsZ_snoc] at ho3
    exact Rd.of_owns (base := wr.heap.size) (cap := cap') (by rw [List.length_append]; exact ho3)
  · subst e
    exact owns_none ho3
  · have := (owns_cap ho3).1
    simpa using this

theorem Pl.all {S : Nat} {w wr : World} {B k : Nat} {ns hs : List Int} {over : Bool} {ph : Option Addr} {ch : Nat} (h : Pl S w wr B k ns hs over ph ch) (hS : S ≤ w.heap.size) :
    Calls Try.prog 18 #[.pointer (some ⟨B, 0, none⟩)] wr fun e w' => ∃ p' cap', e = .returned (.slice p' ns.length cap') ∧ Rd w' p' ns ∧ Pl S w w' B k ns hs over ph ch := by
  have h' := h
  obtain ⟨⟨p, cap, hst, _⟩, _⟩ := h
  refine (all_any wr hst).mono ?_
  rintro e w' ⟨p', cap', rfl, ho, hb⟩
  exact ⟨p', cap', rfl, Rd.of_owns ho, h'.later hS hb⟩
/-- A row's cells, for an append. -/
theorem rd_cells {w Y : World} {p : Option Addr} {l : List Int} (h : Rd w p l) (hb : Below w.heap.size w Y) : ∀ b, p = some b → ∀ j u, (cellsZ l)[j]? = some u → Y.cell? (b.add j) = some u := fun b hb' j u hj => by
  have hjl : j < l.length := by have := (List.getElem?_eq_some_iff.1 hj).1; rwa [cellsZ_length] at this
  obtain ⟨g, off, e, hc⟩ := (h.later hb).at hjl
  rw [hb'] at e
  cases e
  rw [cellsZ_at l hjl] at hj
  cases hj
  rw [Addr.add_lit]
  exact hc
theorem rd_nil {w : World} {l : List Int} (h : Rd w Option.none l) : l.length = 0 := by
  rcases h with ⟨_, rfl⟩ | ⟨g, off, e, _⟩
  · rfl
  · cases e

/-- What is done, that came in, below S. -/
def DeedsP (S : Nat) (W : World) (p : Option Addr) (l : List (Nat × Int)) : Prop := ∀ j, j < l.length → ∃ b off, p = some ⟨b, off, none⟩ ∧ b < S ∧ W.cell? ⟨b, off + j * 2, none⟩ = some (.int .u8 ((l.getD j (0, 0)).1 : Nat)) ∧ W.cell? ⟨b, off + j * 2 + 1, none⟩ = some (.int .i64 (l.getD j (0, 0)).2)
theorem DeedsP.below {S : Nat} {W W' : World} {p : Option Addr} {l : List (Nat × Int)} (h : DeedsP S W p l) (hb : Below S W W') : DeedsP S W' p l := fun j hj => by
  obtain ⟨b, off, e, hb', h1, h2⟩ := h j hj
  exact ⟨b, off, e, hb', (hb.cell (p := ⟨b, _, none⟩) hb').trans h1, (hb.cell (p := ⟨b, _, none⟩) hb').trans h2⟩

set_option maxRecDepth 100000 in
set_option maxHeartbeats 4000000 in
theorem plays_walk (s : Nat) (hs : s < 256) (pa : Option Addr) (ca : Nat) (l : List (Nat × Int)) (w : World) (ha : DeedsP w.heap.size w pa l) (hla : l.length ≤ maxLen) :
    Calls Try.prog 3 #[.int .u8 s, .slice pa l.length ca] w fun e w' => e = .returned (.bool true) ∧ Below w.heap.size w w' := by
  unfold maxLen at hla
  obtain ⟨i0, hinf, hz0, hz1, hz2⟩ := info_parts infoInt
  have HA := Lib.hid ha
  clear ha
  by_cases hbig : 200 < l.length
  · have h1 : (200 : Int) < (l.length : Int) := by omega
    go_enter Try.func3, Try.ntmps3
    go_wp2_with fail
    refine (awake_any _).mono ?_
    rintro e w1 ⟨rfl, hb1⟩
    have HB1 := Lib.hid hb1
    clear hb1
    go_wp2
    go_ret
    exact ⟨rfl, HB1.out⟩
  have h1 : (l.length : Int) ≤ 200 := by omega
  have hd1 : decide ((200 : Int) < (l.length : Int)) = false := by simpa using h1
  obtain ⟨k, hk1, hk2, hk⟩ : ∃ k : Nat, 1 ≤ k ∧ k ≤ 20 ∧ 1 + (s : Int) % 20 = (k : Int) := ⟨1 + s % 20, by omega, by omega, by omega⟩
  go_enter Try.func3, Try.ntmps3
  go_wp2_with fail
  refine (new_good k _ (by omega) _ hk1 (by omega)).mono ?_
  rintro e w1 ⟨rfl, hs1, hb1, _⟩
  have HO := Lib.hid (Pl.new hs1 hb1)
  clear hs1 hb1
  generalize hB : w.heap.size = B at *
  have HS : Hid (B = w.heap.size) := Lib.hid hB.symm
  clear hB hk
  go_wp2_with fail
  go_loopw [8, 9, 10] (fun hv ov i wr => ∃ (c : Nat) (ns : List Int) (over : Bool) (ph : Option Addr) (ch : Nat), c ≤ l.length ∧ i = .int .i64 c ∧ hv = .slice ph ns.length ch ∧ ov = .bool over ∧ Pl B w wr B k ns ns over ph ch) (fun _ _ i _ => l.length - (intOf i).toNat)
  case atStart => exact ⟨0, [], false, none, 0, Nat.zero_le _, rfl, rfl, rfl, HO.out⟩
  case round =>
    clear HO
    obtain ⟨c, ns, over, ph, ch, hc, rfl, rfl, rfl, hst⟩ := hrel
    have HO := Lib.hid hst
    by_cases hlt : c < l.length
    · obtain ⟨b, off, rfl, hbS, hw1, hw2⟩ := HA.out c hlt
      have hc1 := (hst.bel.cell (p := ⟨b, _, none⟩) hbS).trans hw1
      have hc2 := (hst.bel.cell (p := ⟨b, _, none⟩) hbS).trans hw2
      have hshort := hst.short
      clear hst
      have i1 : (0 : Int) ≤ (c : Int) := Int.natCast_nonneg _
      have i2 : (c : Int) < (l.length : Int) := by omega
      clear hw1
      generalize l.getD c (0, 0) = d at *
      obtain ⟨q, x⟩ := d
      simp only at hc1 hc2 hw2
      have HW2 := Lib.hid hw2
      clear hw2
      have hoo : (over == over) = true := by simp
      by_cases h0 : q = 0
      · subst h0
        rcases nil_or_snoc ns with rfl | ⟨ms, y, rfl⟩
        · go_wp2_with fail
          refine (HO.out.empty (Nat.le_of_eq HS.out)).mono ?_
          rintro e w3 ⟨rfl, ht3⟩
          have HT3 := Lib.hid ht3
          clear ht3
          go_wp2
          go_roundw
          case rel => exact ⟨c + 1, [], over, ph, ch, by omega, by go_num, rfl, rfl, HT3.out⟩
          case measure => simp [intOf]; omega
        · go_wp2_with fail
          refine (HO.out.pop (Nat.le_of_eq HS.out)).mono ?_
          rintro e w3 ⟨rfl, ht3⟩
          have HT3 := Lib.hid ht3
          clear ht3
          obtain ⟨g, o, rfl, hy⟩ := HT3.out.rd.at (j := ms.length) (by simp)
          have ey : (ms ++ [y]).getD ms.length 0 = y := by simp [List.getD_eq_getElem?_getD]
          rw [ey] at hy
          have hlen : (ms ++ [y]).length = ms.length + 1 := by simp
          have hcap := HT3.out.le
          rw [hlen] at hcap
          have HL := Lib.hid HT3.out.less
          have hyy : (y != y) = false := by simp
          have hll := HL.out.len
          obtain ⟨m, hm⟩ : ∃ m, ms.length = m := ⟨_, rfl⟩
          rw [hm] at hy hcap hll
          first | rw [hlen, hm] | rw [hm]
          have hmk : m ≤ 20 := by rw [hlen, hm] at hshort; omega
          have HM := Lib.hid hm
          have HLL := Lib.hid hll
          have hlast : ((m + 1 : Nat) : Int) - 1 = m := by omega
          have i3 : (0 : Int) ≤ (m : Int) := Int.natCast_nonneg _
          have hmm : ((m : Int) != (m : Int)) = false := by simp
          clear HT3 HO ey hlen hshort hm hll
          go_wp2_with fail
          refine HLL.out.mono ?_
          rintro e wa ⟨rfl, rfl⟩
          go_wp2_with fail
          refine HL.out.ov.mono ?_
          rintro e wa ⟨rfl, rfl⟩
          go_wp2
          go_roundw
          case rel => exact ⟨c + 1, ms, over, _, ch, by omega, by go_num, by rw [HM.out], rfl, HL.out⟩
          case measure => simp [intOf]; omega
      by_cases h1 : q = 1
      · subst h1
        go_wp2_with fail
        refine (HO.out.calm (Nat.le_of_eq HS.out)).mono ?_
        rintro e w3 ⟨rfl, ht3⟩
        have HT3 := Lib.hid ht3
        clear ht3
        go_wp2_with fail
        refine HT3.out.len.mono ?_
        rintro e wa ⟨rfl, rfl⟩
        go_wp2_with fail
        refine HT3.out.ov.mono ?_
        rintro e wa ⟨rfl, rfl⟩
        go_wp2
        go_roundw
        case rel => exact ⟨c + 1, ns, false, ph, ch, by omega, by go_num, rfl, rfl, HT3.out⟩
        case measure => simp [intOf]; omega
      have hq0 : ((q : Int) == 0) = false := by simpa using h0
      have hq1 : ((q : Int) == 1) = false := by simp; omega
      by_cases hl : ns.length < k
      · have i3 : (ns.length : Int) < (k : Int) := by omega
        go_wp2_with fail
        refine (HO.out.push (Nat.le_of_eq HS.out) hl x).mono ?_
        rintro e w3 ⟨rfl, ht3⟩
        have HT3 := Lib.hid ht3
        have hd2 := (ht3.bel.cell (p := ⟨b, _, none⟩) hbS).trans HW2.out
        have RC : Hid (∀ Y, Below w3.heap.size w3 Y → ∀ b, ph = some b → ∀ j u, (cellsZ ns)[j]? = some u → Y.cell? (b.add j) = some u) := Lib.hid fun _ h => rd_cells HT3.out.rd h
        have RN : Hid (ph = Option.none → ns.length = 0 ∧ ns.length = 0) := Lib.hid (by rintro rfl; have := rd_nil HT3.out.rd; omega)
        have hcap := HT3.out.le
        clear ht3
        go_wp2_with fail
        go_region_law (refine step_append_grows rfl (.tmp 64) (.tmp 70) 28 rfl 3 i0 (.int .i64 0) 1 8 Try.underlying28 hinf hz0 hz1 hz2 rfl (by decide) ph ns.length ns.length (cellsZ ns) (by simp [Act.eval, Act.put]) RN.out (by rw [cellsZ_length]; simp) (RC.out _ ((below_drewN (Below.refl _ w3) 1).alloc (Nat.le_refl _) (.cells #[.int .i64 x] 3))) ⟨w3.heap.size, 0, none⟩ 1 1 [.int .i64 x] rfl rfl (one_at rfl) (by simp [Value.oneCell']) (by omega) (by unfold maxLen; omega) (by omega) ?_; intro v' w4 hown hgrow; obtain ⟨p', cap', rfl, hP⟩ := HT3.out.grown (Nat.le_of_eq HS.out) ((below_drewN (Below.refl _ w3) 1).alloc (Nat.le_refl _) (.cells #[.int .i64 x] 3)) hown hgrow; have HP4 := Lib.hid hP; clear hown hgrow hP)
        all_goals go_wp2_with fail
        all_goals
          refine HP4.out.len.mono ?_
          rintro e wa ⟨rfl, rfl⟩
          have e1 : (ns ++ [x]).length = ns.length + 1 := by simp
          rw [e1]
          have hmm : (((ns.length + 1 : Nat) : Int) != ((ns.length + 1 : Nat) : Int)) = false := by simp
          clear e1
          go_wp2_with fail
          refine HP4.out.ov.mono ?_
          rintro e wa ⟨rfl, rfl⟩
          go_wp2
          go_roundw
          case rel => exact ⟨c + 1, ns ++ [x], over, p', cap', by omega, by go_num, by simp, rfl, HP4.out⟩
          case measure => simp [intOf]; omega
      · have i3 : ¬ (ns.length : Int) < (k : Int) := by omega
        go_wp2_with fail
        refine (HO.out.full (Nat.le_of_eq HS.out) (by omega) x).mono ?_
        rintro e w3 ⟨rfl, ht3⟩
        have HT3 := Lib.hid ht3
        clear ht3
        go_wp2_with fail
        refine HT3.out.len.mono ?_
        rintro e wa ⟨rfl, rfl⟩
        go_wp2_with fail
        refine HT3.out.ov.mono ?_
        rintro e wa ⟨rfl, rfl⟩
        go_wp2
        go_roundw
        case rel => exact ⟨c + 1, ns, true, ph, ch, by omega, by go_num, rfl, rfl, HT3.out⟩
        case measure => simp [intOf]; omega
    · have hshort := hst.short
      clear hst
      go_wp2_with fail
      refine (HO.out.all (Nat.le_of_eq HS.out)).mono ?_
      rintro e w3 ⟨p', cap', rfl, hrd, ht3⟩
      have HR := Lib.hid hrd
      have HT3 := Lib.hid ht3
      clear ht3 hrd
      go_wp2_with fail
      refine (same_any p' ph cap' ch ns w3 HR.out HT3.out.rd (by omega)).mono ?_
      rintro e w4 ⟨rfl, qn, rfl⟩
      have HB3 : Hid (Below w.heap.size w (w3.drewN qn)) := Lib.hid (below_drewN (HS.out ▸ HT3.out.bel) qn)
      go_wp2_with fail
      refine (awake_any _).mono ?_
      rintro e w5 ⟨rfl, hb5⟩
      have HB5 := Lib.hid hb5
      clear hb5
      go_wp2
      go_ret
      exact ⟨rfl, HB3.out.trans (HB5.out.mono HB3.out.size)⟩
end Go.Proofs.Ytfiaajlagkfkjaa.Stk
