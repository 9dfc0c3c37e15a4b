/-
  Parted answers true of every heap.
-/
import Derived.Test.YtcoolapancdioaaGreatDoorHpX
import Derived.Test.YtcoolapancdioaaGreatDoorHpY
namespace Go.Proofs.YtcoolapancdioaaGreatDoor.Hp
open Go.RowKit Go.Shelf
open Class (isB isB_true sizI sizI_bd)
open Blk (Cfg TbIs allP allP_succ allP_len seg seg_length perN kAt adr cellsF)
open Go.Proofs.YtcoolapancdioaaGreatDoor.Row (Chg cellsZ cellsZ_length cellsZ_at Rd Rd0 owns_slice owns_block owns_lt info_parts infoInt)
open Lis (intsN run_append_none)
open Go.Proofs.YtcoolapancdioaaGreatDoor.Addr (Tabs)

theorem run_append_none0 {P : Program} (w : World) (t ty e : TypeId) (i : TypeInfo) (ht : P.underlying t = some (.slice e)) (hi : P.info? e = some i) (c : Nat) :
    (Builtin.append_ #[t, t] ty #[.slice none 0 0, .slice none 0 c]).run P w = .ok (.slice none 0 0) w := by
  simp [Builtin.append_, run_underlying ht, sizeOf, typeInfo, hi, Builtin.lenOf, Builtin.firstCells, loadCells, loadCellsFrom, storeCells]
/-- append of a row of numbers to one that is owned. -/
theorem run_append_row (w : World) (base : Nat) (ty : TypeId) (pl : Option Addr) (cap : Nat) (l : List Int) (hown : w.ownsRow base 3 1 (.slice pl l.length cap) l.length (cellsZ l))
    (pa : Option Addr) (ca : Nat) (za : List Int) (ha : Rd0 w pa za) (hl : l.length + za.length ≤ 1048576) (hbase : base ≤ w.heap.size) :
    ∃ p' c' w', (Builtin.append_ #[48, 48] ty #[.slice pl l.length cap, .slice pa za.length ca]).run Tryz.prog w = .ok (.slice p' (l ++ za).length c') w' ∧ w'.ownsRow base 3 1 (.slice p' (l ++ za).length c') (l ++ za).length (cellsZ (l ++ za)) ∧ Below base w w' := by
  obtain ⟨i, hi, hz, hs, hb⟩ := info_parts infoInt
  have hcz : cellsZ (l ++ za) = cellsZ l ++ cellsZ za := by simp [cellsZ]
  have hbl : ∀ w', w.grownBy w' (Value.slice pl l.length cap).ownBlock → Below base w w' := fun w' hg => (Below.refl base w).grown hg hbase (by
    intro k hk
    cases pl with
    | none => cases hk
    | some ad => simp only [Value.ownBlock, Option.some.injEq] at hk; subst hk; exact (owns_lt hown rfl).1)
  rw [List.length_append, hcz]
  cases pa with
  | none =>
    have hza : za = [] := by
      cases za with
      | nil => rfl
      | cons x xs => obtain ⟨g, off, e, _⟩ := ha 0 (by simp); cases e
    subst hza
    have hself : Below base w w := Below.refl _ _
    obtain ⟨h1, ⟨h2, h3⟩ | ⟨g, c, cur, e1, e2, e3, e4, r⟩⟩ := id hown
    · obtain rfl := List.eq_nil_of_length_eq_zero h3
      cases h2
      exact ⟨none, 0, w, run_append_none0 w _ _ _ i Tryz.underlying48 hi ca, by simpa [cellsZ] using hown, hself⟩
    · cases e1
      exact ⟨_, _, w, run_append_none w _ _ _ i Tryz.underlying48 hi _ _ _ ca e4, by simpa [cellsZ] using hown, hself⟩
  | some ad =>
    obtain ⟨v', w', h1, h2, h3, _, _⟩ := run_append_own_at (P := Tryz.prog) w base 48 ty 3 i (.int .i64 0) 1 8 Tryz.underlying48 hi hz hs hb rfl (by decide) _ _ _ hown ad za.length ca (cellsZ za) (by simp [cellsZ]) (fun j u hj => by
      have hjl : j < za.length := by have := (List.getElem?_eq_some_iff.1 hj).1; simpa [cellsZ] using this
      rw [cellsZ_at za hjl] at hj
      cases hj
      obtain ⟨g, off, e, hc⟩ := ha j hjl
      cases e
      rw [Addr.add_lit]
      exact hc) (fun u hu => by obtain ⟨x, _, rfl⟩ := List.mem_map.1 hu; rfl) (by unfold maxLen; omega) (by omega) hbase
    obtain ⟨p', c', rfl⟩ := owns_slice h2
    exact ⟨p', c', w', h1, h2, hbl w' h3⟩
theorem wpList_append_row {ops : Array Oper} {rest : List Oper} {o : Oper} {a : Act} {w : World} {Q : Exit → Act → World → Prop} (hgd : o.guard = none) (s x : Operand)
    (ho : o.op = .call { callee := .builtin .append, args := #[s, x], argTypes := #[48, 48] })
    (base : Nat) (pl : Option Addr) (cap : Nat) (l : List Int) (he : a.eval s = .slice pl l.length cap) (hown : w.ownsRow base 3 1 (.slice pl l.length cap) l.length (cellsZ l))
    (pa : Option Addr) (ca : Nat) (za : List Int) (hx : a.eval x = .slice pa za.length ca) (ha : Rd0 w pa za) (hl : l.length + za.length ≤ 1048576) (hbase : base ≤ w.heap.size)
    (h : ∀ p' c' w', w'.ownsRow base 3 1 (.slice p' (l ++ za).length c') (l ++ za).length (cellsZ (l ++ za)) → Below base w w' → wpList Tryz.prog ops Q rest (a.put o.dst (.slice p' (l ++ za).length c')) w') :
    wpList Tryz.prog ops Q (o :: rest) a w := by
  refine wpList_plain hgd fun K hK => ?_
  obtain ⟨p', c', w', hr, h2, h3⟩ := run_append_row w base o.type pl cap l hown pa ca za ha hl hbase
  unfold Oper.wp execOp
  simp only [ho, resolve, invoke, builtin, Sem.run_bind, Sem.run_pure, Result.andThen_ok, List.map_toArray, List.map_cons, List.map_nil, he, hx, hr]
  exact hK _ _ (h p' c' w' h2 h3)
theorem cellsZ_seg (c : Cfg) (ks : List Nat) (b : Nat) : cellsZ (seg c ks b) = cellsF (adr c (kAt ks b) b) (perN c (kAt ks b)) := by
  simp [cellsZ, seg, cellsF]
theorem owns_below {S : Nat} {w w' : World} {base : Nat} {e : TypeId} {size k cap n : Nat} {p : Option Addr} {xs : List Value} (h : w.ownsRow base e size (.slice p n cap) k xs) (hb : Below S w w') (hS : ∀ g, Row.rowB p g → g < S) : w'.ownsRow base e size (.slice p n cap) k xs :=
  owns_block h fun g hg => hb.block g (hS g hg)

/-- What is seen behind the first k lists. -/
def freP (s : St) (k : Nat) : List Int := (List.range k).flatMap fun k => intsN (s.hv k)
def snP (s : St) (k : Nat) : List Int := objL s ++ hanL s ++ freP s k
theorem snP_zero (s : St) : snP s 0 = objL s ++ hanL s := by simp [snP, freP]
theorem snP_succ (s : St) (k : Nat) : snP s (k + 1) = snP s k ++ intsN (s.hv k) := by simp [snP, freP, List.range_succ]
theorem snP_four (s : St) : snP s 4 = seenL s := by simp [snP, freP, seenL, freL, List.range_succ]
theorem snP_le (s : St) {j k : Nat} (h : j ≤ k) : (snP s j).length ≤ (snP s k).length := by
  induction k with
  | zero => rw [show j = 0 by omega]; exact Nat.le_refl _
  | succ k ih =>
    rcases Nat.lt_or_ge k j with h1 | h1
    · rw [show j = k + 1 by omega]; exact Nat.le_refl _
    · have := ih h1
      rw [snP_succ, List.length_append]; omega
theorem owns_nil (w : World) (base : Nat) (e : TypeId) : w.ownsRow base e 1 (.slice none ([] : List Int).length 0) ([] : List Int).length (cellsZ []) := ⟨by simp [cellsZ], .inl ⟨rfl, rfl⟩⟩

/-- A row of bools that says which numbers are in a list. -/
structure BIs (w : World) (I N : Nat) (l : List Int) : Prop where
  lt : I < w.heap.size
  at_ : ∀ x : Nat, x < N → w.cell? ⟨I, x, none⟩ = some (.bool (decide ((x : Int) ∈ l)))
  fz : ∀ x : Nat, x < N → w.frozen? ⟨I, x, none⟩ = false
theorem BIs.set {w : World} {I N : Nat} {l : List Int} (h : BIs w I N l) {y : Nat} (hy : y < N) : BIs (w.setCell ⟨I, y, none⟩ (.bool true)) I N (l ++ [(y : Int)]) := by
  refine ⟨by simpa [World.setCell] using h.lt, fun x hx => ?_, fun x hx => ?_⟩
  · by_cases e : x = y
    · subst e
      rw [Row.same (h.at_ x hx)]
      simp
    · rw [Row.other (by first | (simp; done) | (simp; omega)), h.at_ x hx]
      have e2 : (x : Int) ≠ (y : Int) := by omega
      simp [e2]
  · rw [World.frozen?_setCell]; exact h.fz x hx
theorem infoBool : (Tryz.prog.info? 4).map (fun i => (i.zero, i.size, i.bytes)) = some (some (.bool false), 1, 1) := by kernel_rfl
theorem make_bools (n : Nat) (h : n ≤ 2000000) (W : World) :
    (Instr.makeSlice 105 (.int .i64 (n : Int)) (.int .i64 (n : Int))).run Tryz.prog W = .ok (.slice (some ⟨W.heap.size, 0, none⟩) n n) (W.alloc (.cells (madeCells #[.bool false] n) 4)) := by
  obtain ⟨i, hi, hz, hs, hb⟩ := info_parts infoBool
  have hr := run_make (P := Tryz.prog) W 105 4 i (.bool false) Tryz.underlying105 hi hz .i64 .i64 n n (by omega) (by omega) (by rw [hb]; omega) (by omega)
  simp only [Int.toNat_natCast, hs, Nat.mul_one] at hr
  exact hr
theorem BIs.start (w : World) (N : Nat) : BIs (w.alloc (.cells (madeCells #[.bool false] N) 4)) w.heap.size N [] := by
  refine ⟨by simp, fun x hx => ?_, fun x hx => by simp⟩
  have := toList_madeCells_one (.bool false) N
  have h2 : (madeCells #[Value.bool false] N)[x]? = some (.bool false) := by
    rw [← Array.getElem?_toList, this, List.getElem?_replicate]
    simp [hx]
  simp [h2]

set_option maxRecDepth 100000 in
set_option maxHeartbeats 8000000 in
theorem parted_any {H : Nat} {d : Ids} {s : St} {m : Nat} (w : World) (h : Is w H d s m) (ht : Tabs w) (hm : m ≤ 1000000) (hb4 : s.c.b ≤ 4) :
    Calls Tryz.prog 22 #[.pointer (some ⟨H, 0, none⟩)] w fun e w' => e = .returned (.bool true) ∧ Below w.heap.size w w' := by
  have HI := Lib.hid (fun (W : World) (hb : Below w.heap.size w W) => h.later hb)
  have HT := Lib.hid (fun (W : World) (hb : Below w.heap.size w W) => ht.later hb)
  have HRC := Lib.hid (Blk.slots_bd h.wf.right)
  have HR := Lib.hid h.wf.right
  have HTB := Lib.hid (table_any w h)
  obtain ⟨nb, hnb⟩ : ∃ nb : Nat, s.c.b = (nb : Int) := ⟨s.c.b.toNat, by have := HRC.out.b0; omega⟩
  have hnb4 : nb ≤ 4 := by omega
  have hL : s.ks.length ≤ nb := by have := h.wf.full; omega
  have HK4 := Lib.hid (fun j => h.tb.kLt j)
  obtain ⟨nw, hnw⟩ : ∃ nw : Nat, s.c.wd = (nw : Int) := ⟨s.c.wd.toNat, by have := HRC.out.wd0; omega⟩
  have hmul : (nb : Int) * (nw : Int) = (s.ws.length : Int) := by rw [← hnb, ← hnw]; exact h.wf.words
  have hws : s.ws.length ≤ 1048576 := by
    obtain ⟨p0, p1⟩ := HRC.out.words
    have := h.wf.words
    omega
  have hal512 : (allP s.c s.ks s.ks.length).length ≤ 512 := by have := allP_len s.c s.ks s.ks.length; omega
  have HPE := Lib.hid (seen_perm h)
  have HWF := Lib.hid h.wf
  have hfd0 : ∀ (x1 x2 x3 x4 x5 x6 : Int) (w : World), (Instr.field 23 (.agg #[.int .i64 (nb : Int), .int .i64 x1, .int .i64 x2, .int .i64 x3, .int .i64 x4, .int .i64 x5, .int .i64 x6]) 0).run Tryz.prog w = .ok (.int .i64 (nb : Int)) w := fun _ _ _ _ _ _ _ => by kernel_rfl
  have hfd1 : ∀ (x0 x2 x3 x4 x5 x6 : Int) (w : World), (Instr.field 23 (.agg #[.int .i64 x0, .int .i64 (nw : Int), .int .i64 x2, .int .i64 x3, .int .i64 x4, .int .i64 x5, .int .i64 x6]) 1).run Tryz.prog w = .ok (.int .i64 (nw : Int)) w := fun _ _ _ _ _ _ _ => by kernel_rfl
  clear h ht
  go_enter Tryz.func22, Tryz.ntmps22
  go_wp2_with fail
  refine HTB.out.mono ?_
  rintro e w1 ⟨B, p, cap, rfl, hT, hb1⟩
  have HB1 := Lib.hid hb1
  have HT1 := Lib.hid (fun (W : World) (hb : Below w1.heap.size w1 W) => hT.later hb)
  clear hT hb1 HTB
  go_wp2_with fail
  go_loopw [4, 6] (fun ov i wr => ∃ (j : Nat) (p : Option Addr) (cap : Nat), j ≤ nb ∧ i = .int .i64 (j : Int) ∧ ov = .slice p (allP s.c s.ks (min j s.ks.length)).length cap ∧ wr.ownsRow w1.heap.size 3 1 (.slice p (allP s.c s.ks (min j s.ks.length)).length cap) (allP s.c s.ks (min j s.ks.length)).length (cellsZ (allP s.c s.ks (min j s.ks.length))) ∧ Below w1.heap.size w1 wr) (fun _ i _ => nb - (intOf i).toNat)
  case atStart => exact ⟨0, none, 0, Nat.zero_le _, rfl, by simp [allP], ⟨by simp [allP, cellsZ], .inl ⟨by simp [allP], by simp [allP]⟩⟩, Below.refl _ _⟩
  case round =>
    obtain ⟨j, pl, cl, hj, rfl, rfl, how, hbr⟩ := hrel
    have hbw : Below w.heap.size w wr := HB1.out.trans (hbr.mono HB1.out.size)
    have HCF := Lib.hid (config_any wr (HI.out wr hbw))
    rw [hnb, hnw] at HCF
    have HOW := Lib.hid how
    have HBR := Lib.hid hbr
    have HBW := Lib.hid hbw
    have i1 : (0 : Int) ≤ (j : Int) := Int.natCast_nonneg _
    clear how hbr hbw
    by_cases hlt : j < nb
    · have i2 : (j : Int) < (nb : Int) := by omega
      go_wp2_with fail
      refine HCF.out.mono ?_
      rintro e w3 ⟨rfl, hb3⟩
      have hb3w : Below w.heap.size w w3 := HBW.out.trans (hb3.mono HBW.out.size)
      have hb31 : Below w1.heap.size w1 w3 := HBR.out.trans (hb3.mono HBR.out.size)
      have ho3 := owns_below HOW.out hb3 (fun _ hg => (owns_lt HOW.out hg).2)
      have hsl : Calls Tryz.prog 71 #[.pointer (some ⟨B, 0, none⟩), .int .i64 (j : Int)] w3 fun e w' => ∃ p' cap', e = .returned (.slice p' (if j < s.ks.length then seg s.c s.ks j else []).length cap') ∧ Rd0 w' p' (if j < s.ks.length then seg s.c s.ks j else []) ∧ Below w3.heap.size w3 w' := by
        by_cases hjL : j < s.ks.length
        · have hN1 := Blk.perN_pos HR.out (HK4.out j)
          refine (Blk.slots_in (b := j) (N := perN s.c (kAt s.ks j)) w3 (HT1.out w3 hb31) HR.out hjL (by omega) (Blk.perN_eq s.c (kAt s.ks j)) hN1 (HT.out w3 hb3w)).mono ?_
          rintro e w' ⟨p', cap', rfl, ho, hb⟩
          rw [if_pos hjL, seg_length]
          refine ⟨p', cap', rfl, ?_, hb⟩
          rw [← cellsZ_seg, ← seg_length] at ho
          exact (Rd.of_owns ho).rd0
        · refine (Blk.slots_out (some ⟨B, 0, none⟩) (j : Int) w3 (fun W hW => Blk.class_out (j : Int) W (HT1.out W (hb31.trans (hW.mono hb31.size))) (.inr (by omega)))).mono ?_
          rintro e w' ⟨p', cap', rfl, hb⟩
          rw [if_neg hjL]
          exact ⟨p', cap', rfl, fun j hj => (by cases hj), hb⟩
      have hseg : allP s.c s.ks (min j s.ks.length) ++ (if j < s.ks.length then seg s.c s.ks j else []) = allP s.c s.ks (min (j + 1) s.ks.length) := by
        by_cases hjL : j < s.ks.length
        · rw [if_pos hjL, show min j s.ks.length = j by omega, show min (j + 1) s.ks.length = j + 1 by omega, allP_succ]
        · rw [if_neg hjL, List.append_nil, show min j s.ks.length = s.ks.length by omega, show min (j + 1) s.ks.length = s.ks.length by omega]
      have hall : ∀ x, (allP s.c s.ks (min x s.ks.length)).length ≤ 512 := fun x => by
        have := allP_len s.c s.ks (min x s.ks.length); omega
      have hl1 := hall j
      have hl2 := hall (j + 1)
      rw [← hseg, List.length_append] at hl2
      have HSL := Lib.hid hsl
      have HSEG := Lib.hid hseg
      have HO3 := Lib.hid ho3
      have HB31 := Lib.hid hb31
      clear hsl hseg ho3 hb31 hb3w hb3 HCF HOW HBW hall
      generalize hza : (if j < s.ks.length then seg s.c s.ks j else []) = za at *
      generalize hla : allP s.c s.ks (min j s.ks.length) = la at *
      clear hza hla
      go_wp2_with fail
      refine HSL.out.mono ?_
      rintro e w4 ⟨p4, c4, rfl, hr4, hb4⟩
      have HO4 := Lib.hid (owns_below HO3.out hb4 (fun _ hg => (owns_lt HO3.out hg).2))
      have HR4 := Lib.hid hr4
      have HB41 := Lib.hid (HB31.out.trans (hb4.mono HB31.out.size))
      clear hr4 hb4 HSL HO3
      go_wp2_with (at_builtin; refine wpList_append_row rfl _ _ rfl w1.heap.size pl cl la rfl HO4.out p4 c4 za rfl HR4.out (by omega) HB41.out.size ?_; intro p5 c5 w5 ho5 hb5; have HO5 := Lib.hid ho5; have HB5 := Lib.hid (HB41.out.trans hb5); clear ho5 hb5)
      go_roundw
      case rel => exact ⟨j + 1, p5, c5, by omega, by go_num, by rw [← HSEG.out, List.length_append], by rw [← HSEG.out]; exact HO5.out, HB5.out⟩
      case measure => simp [intOf]; omega
    · obtain rfl : j = nb := by omega
      rw [show min j s.ks.length = s.ks.length by omega] at HOW
      rw [show min j s.ks.length = s.ks.length by omega]
      go_wp2_with fail
      refine HCF.out.mono ?_
      rintro e w3 ⟨rfl, hb3⟩
      have HB3 := Lib.hid (HBW.out.trans (hb3.mono HBW.out.size))
      have hrd := Rd.of_owns (owns_below HOW.out hb3 (fun _ hg => (owns_lt HOW.out hg).2))
      have HAL := Lib.hid (fun (W : World) (hb : Below w3.heap.size w3 W) => hrd.later hb)
      have HOB := Lib.hid (objects_any w3 (HI.out w3 HB3.out) (HT.out w3 HB3.out))
      clear hb3 hrd HCF HOW HBR HBW HT1
      generalize hal : allP s.c s.ks s.ks.length = al at *
      go_wp2_with fail
      refine HOB.out.mono ?_
      rintro e w4 ⟨p4, c4, rfl, ho4, hb4⟩
      have HR4 := Lib.hid (Rd.of_owns ho4).rd0
      have HB4 := Lib.hid hb4
      clear ho4 hb4 HOB
      have hsl4 : (snP s 4).length ≤ 512 := by rw [snP_four, HPE.out.length_eq]; exact hal512
      have hsl0 : (objL s).length + (hanL s).length ≤ 512 := by have := snP_le s (show 0 ≤ 4 by omega); rw [snP_zero, List.length_append] at this; omega
      go_wp2_with (at_builtin; refine wpList_append_row rfl _ _ rfl w3.heap.size none 0 [] rfl (owns_nil _ _ _) p4 c4 (objL s) rfl HR4.out (by simp; omega) HB4.out.size ?_; intro p5 c5 w5 ho5 hb5; rw [List.nil_append] at ho5; rw [List.nil_append]; have HO5 := Lib.hid ho5; have HB5 := Lib.hid (HB4.out.trans hb5); clear ho5 hb5)
      have HHA := Lib.hid (hands_any w5 (HI.out w5 (HB3.out.trans (HB5.out.mono HB3.out.size))) (HT.out w5 (HB3.out.trans (HB5.out.mono HB3.out.size))))
      clear HR4 HB4
      refine HHA.out.mono ?_
      rintro e w6 ⟨p6, c6, rfl, ho6, hb6⟩
      have HR6 := Lib.hid (Rd.of_owns ho6).rd0
      have HO6 := Lib.hid (owns_below HO5.out hb6 (fun _ hg => (owns_lt HO5.out hg).2))
      have HB6 := Lib.hid (HB5.out.trans (hb6.mono HB5.out.size))
      clear ho6 hb6 HHA HO5 HB5
      go_wp2_with (at_builtin; refine wpList_append_row rfl _ _ rfl w3.heap.size p5 c5 (objL s) rfl HO6.out p6 c6 (hanL s) rfl HR6.out (by omega) HB6.out.size ?_; intro p7 c7 w7 ho7 hb7; rw [← snP_zero] at ho7; rw [← snP_zero]; have HO7 := Lib.hid ho7; have HB7 := Lib.hid (HB6.out.trans hb7); clear ho7 hb7)
      clear HR6 HO6 HB6
      go_loopw [5, 7] (fun ov i wr => ∃ (k : Nat) (p : Option Addr) (cap : Nat), k ≤ 4 ∧ i = .int .i64 (k : Int) ∧ ov = .slice p (snP s k).length cap ∧ wr.ownsRow w3.heap.size 3 1 (.slice p (snP s k).length cap) (snP s k).length (cellsZ (snP s k)) ∧ Below w3.heap.size w3 wr) (fun _ i _ => 4 - (intOf i).toNat)
      case atStart => exact ⟨0, p7, c7, Nat.zero_le _, rfl, rfl, HO7.out, HB7.out⟩
      case round =>
        clear HO7 HB7
        obtain ⟨k, ps, cs, hk, rfl, rfl, how, hbr⟩ := hrel
        have hbw : Below w.heap.size w wr := HB3.out.trans (hbr.mono HB3.out.size)
        have HOW := Lib.hid how
        have HBR := Lib.hid hbr
        have k1 : (0 : Int) ≤ (k : Int) := Int.natCast_nonneg _
        by_cases hk4 : k < 4
        · have k2 : (k : Int) < (4 : Int) := by omega
          have HFR := Lib.hid (frees_any k wr (HI.out wr hbw) hm hk4)
          have hs1 := snP_le s (show k + 1 ≤ 4 by omega)
          rw [snP_succ, List.length_append] at hs1
          clear how hbr hbw
          go_wp2_with fail
          refine HFR.out.mono ?_
          rintro e w8 ⟨p8, c8, rfl, ho8, hb8⟩
          have HR8 := Lib.hid (Rd.of_owns ho8).rd0
          have HO8 := Lib.hid (owns_below HOW.out hb8 (fun _ hg => (owns_lt HOW.out hg).2))
          have HB8 := Lib.hid (HBR.out.trans (hb8.mono HBR.out.size))
          clear ho8 hb8 HFR HOW HBR
          go_wp2_with (at_builtin; refine wpList_append_row rfl _ _ rfl w3.heap.size ps cs (snP s k) rfl HO8.out p8 c8 (intsN (s.hv k)) rfl HR8.out (by omega) HB8.out.size ?_; intro p9 c9 w9 ho9 hb9; rw [← snP_succ] at ho9; rw [← snP_succ]; have HO9 := Lib.hid ho9; have HB9 := Lib.hid (HB8.out.trans hb9); clear ho9 hb9)
          go_roundw
          case rel => exact ⟨k + 1, p9, c9, by omega, by go_num, rfl, HO9.out, HB9.out⟩
          case measure => simp [intOf]; omega
        · obtain rfl : k = 4 := by omega
          rw [snP_four] at HOW
          rw [snP_four]
          have hlen := HPE.out.length_eq
          have hall : ∀ y ∈ seenL s, 1 ≤ y ∧ y ≤ (s.ws.length : Int) := fun y hy => by
            have := HPE.out.mem_iff.1 hy
            rw [← hal] at this
            exact HWF.out.own_bd ((mem_allP HWF.out HK4.out).1 this)
          have hnd : (seenL s).Nodup := HPE.out.nodup_iff.2 (by rw [← hal]; exact (allP_sorted HWF.out HK4.out).imp (fun hab e => by subst e; omega))
          have hrd := Rd.of_owns HOW.out
          have HSN := Lib.hid (fun (W : World) (hb : Below wr.heap.size wr W) => (hrd.later hb).rd0)
          have HAL2 := Lib.hid (fun (W : World) (hb : Below wr.heap.size wr W) => (HAL.out W (HBR.out.trans (hb.mono HBR.out.size))).rd0)
          have HBD := Lib.hid hall
          have HND := Lib.hid hnd
          have HPM := Lib.hid (fun y => HPE.out.mem_iff (a := y))
          have HBW := Lib.hid hbw
          have HCF1 := Lib.hid (config_any wr (HI.out wr hbw))
          rw [hnb, hnw] at HCF1
          clear hall hnd hrd how hbr hbw HPE HAL HOW HBR hal hsl4
          generalize seenL s = sn at *
          generalize hsl : s.ws.length = N at *
          have hmk : ∀ W : World, (Instr.makeSlice 105 (.int .i64 ((N : Int) + 1)) (.int .i64 ((N : Int) + 1))).run Tryz.prog W = .ok (.slice (some ⟨W.heap.size, 0, none⟩) (N + 1) (N + 1)) (W.alloc (.cells (madeCells #[.bool false] (N + 1)) 4)) := fun W => make_bools (N + 1) (by omega) W
          have hw1 : IntKind.i64.wrap ((j : Int) * (nw : Int)) = (N : Int) := by rw [hmul]; exact IntWalk.i64_in _ (by omega)
          have hw2 : IntKind.i64.wrap ((N : Int) + 1) = ((N + 1 : Nat) : Int) := IntWalk.i64_in _ (by omega)
          rw [hlen]
          go_wp2_with fail
          refine HCF1.out.mono ?_
          rintro e w10 ⟨rfl, hb10⟩
          have HB10 := Lib.hid hb10
          have HCF2 := Lib.hid (config_any w10 (HI.out w10 (HBW.out.trans (hb10.mono HBW.out.size))))
          rw [hnb, hnw] at HCF2
          clear HCF1 hb10
          go_wp2_with fail
          refine HCF2.out.mono ?_
          rintro e w11 ⟨rfl, hb11⟩
          have HB11 := Lib.hid (HB10.out.trans (hb11.mono HB10.out.size))
          clear HCF2 hb11 HB10
          go_wp2_with fail
          go_loopw [9] (fun i wr => ∃ t : Nat, t ≤ al.length ∧ i = .int .i64 (t : Int) ∧ BIs wr w11.heap.size (N + 1) (sn.take t) ∧ Below w11.heap.size w11 wr) (fun i _ => al.length - (intOf i).toNat)
          case atStart => exact ⟨0, Nat.zero_le _, rfl, by rw [List.take_zero]; exact BIs.start w11 (N + 1), (Below.refl _ _).alloc (Nat.le_refl _) _⟩
          case round =>
            obtain ⟨t, ht, rfl, hbi, hb⟩ := hrel
            have HBI := Lib.hid hbi
            have HB := Lib.hid hb
            have t1 : (0 : Int) ≤ (t : Int) := Int.natCast_nonneg _
            by_cases htl : t < al.length
            · have t2 : (t : Int) < (al.length : Int) := by omega
              obtain ⟨g, off, rfl, hc⟩ := HSN.out _ (HB11.out.trans (hb.mono HB11.out.size)) t (by rw [hlen]; exact htl)
              have hget : sn[t]? = some (sn.getD t 0) := by rw [List.getD_eq_getElem?_getD]; simp [hlen, htl]
              have hbd := HBD.out _ (List.mem_of_getElem? hget)
              have htk : sn.take (t + 1) = sn.take t ++ [sn.getD t 0] := by rw [List.take_add_one, hget]; rfl
              have hnot : sn.getD t 0 ∉ sn.take t := fun hm => by
                have h1 := HND.out.sublist (List.take_sublist (t + 1) sn)
                rw [htk, List.nodup_append] at h1
                exact h1.2.2 _ hm _ (List.mem_singleton.2 rfl) rfl
              have HTK := Lib.hid htk
              have HNO := Lib.hid hnot
              clear hget htk hnot
              generalize sn.getD t 0 = y at *
              obtain ⟨yn, rfl⟩ : ∃ yn : Nat, y = (yn : Int) := ⟨y.toNat, by omega⟩
              have hcy := hbi.at_ yn (by omega)
              have hfy := hbi.fz yn (by omega)
              rw [decide_eq_false HNO.out] at hcy
              have g1 : (1 : Int) ≤ (yn : Int) := hbd.1
              have g2 : (yn : Int) < (N : Int) + 1 := by omega
              have HBI2 := Lib.hid (show BIs _ _ _ (sn.take (t + 1)) from HTK.out ▸ HBI.out.set (y := yn) (by omega))
              clear hbi hb hbd HTK HNO
              go_wp2_with fail
              exact ⟨⟨t + 1, by omega, by go_num, HBI2.out, HB.out.setCell (Nat.le_refl _) _⟩, by simp [intOf]; omega⟩
            · obtain rfl : t = al.length := by omega
              rw [List.take_of_length_le (Nat.le_of_eq hlen)] at HBI
              clear hbi hb
              go_wp2_with fail
              go_loopw [10] (fun i wq => ∃ t : Nat, t ≤ al.length ∧ i = .int .i64 (t : Int) ∧ wr = wq) (fun i _ => al.length - (intOf i).toNat)
              case atStart => exact ⟨0, Nat.zero_le _, rfl, rfl⟩
              case round =>
                obtain ⟨t, ht, rfl, rfl⟩ := hrel
                have t1 : (0 : Int) ≤ (t : Int) := Int.natCast_nonneg _
                by_cases htl : t < al.length
                · have t2 : (t : Int) < (al.length : Int) := by omega
                  obtain ⟨g, off, rfl, hc⟩ := HAL2.out _ (HB11.out.trans (HB.out.mono HB11.out.size)) t htl
                  have hget : al[t]? = some (al.getD t 0) := by rw [List.getD_eq_getElem?_getD]; simp [htl]
                  have hmem := (HPM.out _).2 (List.mem_of_getElem? hget)
                  have hbd := HBD.out _ hmem
                  have HMM := Lib.hid hmem
                  clear hget hmem
                  generalize al.getD t 0 = y at *
                  obtain ⟨yn, rfl⟩ : ∃ yn : Nat, y = (yn : Int) := ⟨y.toNat, by omega⟩
                  have hcy := HBI.out.at_ yn (by omega)
                  rw [decide_eq_true HMM.out] at hcy
                  have g1 : (1 : Int) ≤ (yn : Int) := hbd.1
                  have g2 : (yn : Int) < (N : Int) + 1 := by omega
                  clear hbd HMM
                  go_wp2_with fail
                  exact ⟨⟨t + 1, by omega, by go_num, trivial⟩, by simp [intOf]; omega⟩
                · obtain rfl : t = al.length := by omega
                  go_wp2
                  go_ret
                  exact ⟨rfl, HBW.out.trans ((HB11.out.trans (HB.out.mono HB11.out.size)).mono HBW.out.size)⟩
end Go.Proofs.YtcoolapancdioaaGreatDoor.Hp
