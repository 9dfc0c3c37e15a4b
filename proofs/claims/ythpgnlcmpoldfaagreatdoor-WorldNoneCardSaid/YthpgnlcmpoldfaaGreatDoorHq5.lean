/-
  Texts of the heap, one behind the other: HpX HpY HpZ HpMk.
-/
import Derived.Test.YthpgnlcmpoldfaaGreatDoorHq4
namespace Go.Proofs.YthpgnlcmpoldfaaGreatDoor.Hp
open Go.RowKit Go.Shelf
open Class (isB isB_true isB_false below_drewN)
open Blk (Cfg TbIs collect_any cellsF cellsK)
open Go.Proofs.YthpgnlcmpoldfaaGreatDoor.Row (Chg cellsZ Rd)
open Lis (intsN intsN_length cellsZ_ints told_rev tellB)
open Go.Proofs.YthpgnlcmpoldfaaGreatDoor.Addr (Tabs)

theorem table_any {H : Nat} {d : Ids} {s : St} {m : Nat} (w : World) (h : Is w H d s m) : Calls Tryz.prog 279 #[.pointer (some ⟨H, 0, none⟩)] w fun e w' => ∃ B p cap, e = .returned (.pointer (some ⟨B, 0, none⟩)) ∧ TbIs w' B w.heap.size s.c s.ks p cap ∧ Below w.heap.size w w' := by
  have hcT := h.cT
  have HC := Lib.hid (Blk.copy_any w h.tb)
  clear h
  go_enter Tryz.func279, Tryz.ntmps279
  go_wp2_with (go_at_call 295; refine HC.out.mono ?_; rintro e w1 ⟨B, p, cap, rfl, hT, hb⟩)
  go_ret
  exact ⟨B, p, cap, rfl, hT, hb⟩
theorem config_any {H : Nat} {d : Ids} {s : St} {m : Nat} (w : World) (h : Is w H d s m) : Calls Tryz.prog 58 #[.pointer (some ⟨H, 0, none⟩)] w fun e w' => e = .returned (.agg #[.int .i64 s.c.b, .int .i64 s.c.wd, .int .i64 s.c.m, .int .i64 s.c.r, .int .i64 s.c.ce, .int .i64 s.c.lg, .int .i64 s.c.st]) ∧ Below w.heap.size w w' := by
  have hcT := h.cT
  have HC := Lib.hid (fun (W : World) (hb : Below w.heap.size w W) => Blk.config_any W (h.later hb).tb)
  have hHl := h.ltH
  clear h
  go_enter Tryz.func58, Tryz.ntmps58
  go_wp2_with (go_at_call 85; refine (HC.out _ ((Below.refl _ _).alloc (Nat.le_refl _) _)).mono ?_; rintro e w1 ⟨rfl, hb⟩; obtain ⟨hc1, hf1⟩ := bcell hb; have hz1 : w.heap.size < w1.heap.size := by have := hb.size; simp at this; omega)
  refine bodyPost_ret (v := .agg #[.int .i64 s.c.b, .int .i64 s.c.wd, .int .i64 s.c.m, .int .i64 s.c.r, .int .i64 s.c.ce, .int .i64 s.c.lg, .int .i64 s.c.st]) (by simp [results, Tryz.results58, go_sem, hc1]) rfl ⟨rfl, ?_⟩
  have hbA : Below w.heap.size w w1 := ((Below.refl w.heap.size w).alloc (Nat.le_refl _) _).trans (hb.mono (by simp))
  exact ((((((hbA.setCell (by simp) _).setCell (by simp) _).setCell (by simp) _).setCell (by simp) _).setCell (by simp) _).setCell (by simp) _).setCell (by simp) _
end Go.Proofs.YthpgnlcmpoldfaaGreatDoor.Hp

namespace Go.Proofs.YthpgnlcmpoldfaaGreatDoor.Hp
open Go.RowKit
open Class (isB isB_true sizI sizI_bd)
open Blk (Cfg allP seg valA adr perN kAt blk)
open Lis (intsN)

/-- The free slots, class by class. -/
def freL (s : St) : List Int := intsN (s.hv 0) ++ (intsN (s.hv 1) ++ (intsN (s.hv 2) ++ intsN (s.hv 3)))
theorem mem_ints {l : List Nat} {x : Int} : x ∈ intsN l ↔ ∃ n ∈ l, (n : Int) = x := by simp [intsN]
theorem mem_freL {s : St} {x : Int} : x ∈ freL s ↔ frI s x = true := by
  unfold freL frI
  rw [List.mem_append, List.mem_append, List.mem_append, mem_ints, mem_ints, mem_ints, mem_ints, Bool.and_eq_true, decide_eq_true_eq]
  simp only [fr, Bool.or_eq_true, decide_eq_true_eq]
  constructor
  · rintro (⟨n, h, rfl⟩ | ⟨n, h, rfl⟩ | ⟨n, h, rfl⟩ | ⟨n, h, rfl⟩) <;> simp [h]
  · rintro ⟨h0, h⟩
    have e : (x.toNat : Int) = x := by omega
    rcases h with h | h | h | h
    · exact .inl ⟨_, h, e⟩
    · exact .inr (.inl ⟨_, h, e⟩)
    · exact .inr (.inr (.inl ⟨_, h, e⟩))
    · exact .inr (.inr (.inr ⟨_, h, e⟩))
theorem ints_nodup {l : List Nat} (h : l.Nodup) : (intsN l).Nodup := by
  unfold intsN
  unfold List.Nodup
  rw [List.pairwise_map]
  exact h.imp (fun hab e => hab (by omega))
theorem freL_nodup {w : World} {H : Nat} {d : Ids} {s : St} {m : Nat} (h : Is w H d s m) : (freL s).Nodup := by
  have hd : ∀ j k, j < 4 → k < 4 → j ≠ k → ∀ x ∈ intsN (s.hv j), x ∉ intsN (s.hv k) := fun j k hj hk hne x hx hy => by
    obtain ⟨a, ha, rfl⟩ := mem_ints.1 hx
    obtain ⟨b, hb, e⟩ := mem_ints.1 hy
    obtain rfl : b = a := by omega
    exact hne (h.held.apart j k _ hj hk ha hb)
  have n := fun k hk => ints_nodup (h.held.once k hk)
  unfold freL
  rw [List.nodup_append, List.nodup_append, List.nodup_append]
  refine ⟨n 0 (by omega), ⟨n 1 (by omega), ⟨n 2 (by omega), n 3 (by omega), ?_⟩, ?_⟩, ?_⟩
  · intro x hx y hy e; subst e; exact hd 2 3 (by omega) (by omega) (by omega) x hx hy
  · intro x hx y hy e; subst e
    rcases List.mem_append.1 hy with hy | hy
    · exact hd 1 2 (by omega) (by omega) (by omega) x hx hy
    · exact hd 1 3 (by omega) (by omega) (by omega) x hx hy
  · intro x hx y hy e; subst e
    rcases List.mem_append.1 hy with hy | hy
    · exact hd 0 1 (by omega) (by omega) (by omega) x hx hy
    · rcases List.mem_append.1 hy with hy | hy
      · exact hd 0 2 (by omega) (by omega) (by omega) x hx hy
      · exact hd 0 3 (by omega) (by omega) (by omega) x hx hy
/-- A slot is one of those that are told. -/
theorem mem_allP {s : St} (h : Wf s) (hk : ∀ j, kAt s.ks j < 4) {x : Int} : x ∈ allP s.c s.ks s.ks.length ↔ own s x = true := by
  have hf := h.full
  unfold allP
  rw [List.mem_flatMap]
  constructor
  · rintro ⟨b, hb, hx⟩
    rw [List.mem_range] at hb
    unfold seg at hx
    obtain ⟨i, hi, rfl⟩ := List.mem_map.1 hx
    exact (Lis.own_adr2 h.right hb (by omega) (hk b) (List.mem_range.1 hi)).1
  · intro ho
    have g := h.geo ho
    refine ⟨blk s.c x, List.mem_range.2 g.bl, ?_⟩
    unfold seg
    have hRC := Blk.slots_bd h.right
    have hp := Blk.perN_eq s.c (kAt s.ks (blk s.c x))
    have hcl : cls s x = kAt s.ks (blk s.c x) := rfl
    have g1 := g.cl
    have g2 := g.at_
    have g3 := g.off0
    have g4 := g.off1
    have g5 := g.mod
    rw [hcl] at g1 g4 g5
    rw [Class.perI_yes g1 (Class.wordsB_true.2 ⟨hRC.wd0, hRC.wd1⟩)] at hp
    refine List.mem_map.2 ⟨(Addr.offI s.c.wd x / sizI (kAt s.ks (blk s.c x) : Nat)).toNat, List.mem_range.2 ?_, ?_⟩
    · rcases siz_four g1 with e | e | e | e <;> rw [e] at g4 g5 hp ⊢ <;> omega
    · unfold adr
      rcases siz_four g1 with e | e | e | e <;> rw [e] at g4 g5 ⊢ <;> omega
/-- Objects, slots in hand and free slots, one behind the other. -/
def seenL (s : St) : List Int := objL s ++ (hanL s ++ freL s)
theorem seen_perm {w : World} {H : Nat} {d : Ids} {s : St} {m : Nat} (h : Is w H d s m) : (seenL s).Perm (allP s.c s.ks s.ks.length) := by
  have hk : ∀ j, kAt s.ks j < 4 := fun j => h.tb.kLt j
  have hw := h.wf
  have hn : ∀ l : List Int, l.Pairwise (· < ·) → l.Nodup := fun l hl => hl.imp (fun hab e => by subst e; omega)
  have hal := hn _ (allP_sorted hw hk)
  have ho : ∀ x, x ∈ objL s ↔ bnI s x = true := fun x => by
    unfold objL
    rw [pkA_eq, List.mem_filter, mem_allP hw hk]
    exact ⟨fun h => h.2, fun h => ⟨hw.bnI_own h, h⟩⟩
  have hh : ∀ x, x ∈ hanL s ↔ own s x = true ∧ bnI s x = false ∧ frI s x = false := fun x => by
    unfold hanL
    rw [pkA_eq, List.mem_filter, mem_allP hw hk]
    simp
  have hfo : ∀ x, frI s x = true → own s x = true ∧ bnI s x = false := fun x hx => by
    unfold frI at hx
    rw [Bool.and_eq_true, decide_eq_true_eq] at hx
    obtain ⟨k, hk4, hm⟩ := fr_true.1 hx.2
    obtain ⟨c1, c2, c3, c4⟩ := hw.free k hk4 _ hm
    have e : (x.toNat : Int) = x := by omega
    rw [e] at c1
    exact ⟨c1, by unfold bnI; rw [c3, Bool.and_false]⟩
  rw [List.perm_ext_iff_of_nodup ?_ hal]
  · intro x
    unfold seenL
    rw [List.mem_append, List.mem_append, ho, hh, mem_freL, mem_allP hw hk]
    constructor
    · rintro (h | h | h)
      · exact hw.bnI_own h
      · exact h.1
      · exact (hfo x h).1
    · intro h
      cases hb : bnI s x with
      | true => exact .inl rfl
      | false =>
        cases hf : frI s x with
        | true => exact .inr (.inr rfl)
        | false => exact .inr (.inl ⟨h, rfl, rfl⟩)
  · unfold seenL
    rw [List.nodup_append, List.nodup_append]
    refine ⟨hn _ (pkA_sorted hw hk _), ⟨hn _ (pkA_sorted hw hk _), freL_nodup h, ?_⟩, ?_⟩
    · intro x hx y hy e; subst e
      have := (hh x).1 hx
      rw [mem_freL] at hy
      rw [hy] at this
      cases this.2.2
    · intro x hx y hy e; subst e
      have h1 := (ho x).1 hx
      rcases List.mem_append.1 hy with hy | hy
      · have := (hh x).1 hy
        rw [h1] at this
        cases this.2.1
      · have := (hfo x (mem_freL.1 hy)).2
        rw [h1] at this
        cases this
end Go.Proofs.YthpgnlcmpoldfaaGreatDoor.Hp

namespace Go.Proofs.YthpgnlcmpoldfaaGreatDoor.Hp
open Go.RowKit Go.Shelf
open Class (isB isB_true sizI sizI_bd)
open Blk (Cfg TbIs allP allP_succ allP_len seg seg_length perN kAt adr cellsF)
open Go.Proofs.YthpgnlcmpoldfaaGreatDoor.Row (Chg cellsZ cellsZ_length cellsZ_at Rd Rd0 owns_slice owns_block owns_lt info_parts infoInt)
open Lis (intsN run_append_none)
open Go.Proofs.YthpgnlcmpoldfaaGreatDoor.Addr (Tabs)

theorem run_append_none0 {P : Program} (w : World) (t ty e : TypeId) (i : TypeInfo) (ht : P.underlying t = some (.slice e)) (hi : P.info? e = some i) (c : Nat) :
    (Builtin.append_ #[t, t] ty #[.slice none 0 0, .slice none 0 c]).run P w = .ok (.slice none 0 0) w := by
  simp [Builtin.append_, run_underlying ht, sizeOf, typeInfo, hi, Builtin.lenOf, Builtin.firstCells]
/-- append of a row of numbers to one that is owned. -/
theorem run_append_row (w : World) (base : Nat) (ty : TypeId) (pl : Option Addr) (cap : Nat) (l : List Int) (hown : w.ownsRow base 3 1 (.slice pl l.length cap) l.length (cellsZ l))
    (pa : Option Addr) (ca : Nat) (za : List Int) (ha : Rd0 w pa za) (hl : l.length + za.length ≤ 1048576) (hbase : base ≤ w.heap.size) :
    ∃ p' c' w', (Builtin.append_ #[40, 40] ty #[.slice pl l.length cap, .slice pa za.length ca]).run Tryz.prog w = .ok (.slice p' (l ++ za).length c') w' ∧ w'.ownsRow base 3 1 (.slice p' (l ++ za).length c') (l ++ za).length (cellsZ (l ++ za)) ∧ Below base w w' := by
  obtain ⟨i, hi, hz, hs, hb⟩ := info_parts infoInt
  have hcz : cellsZ (l ++ za) = cellsZ l ++ cellsZ za := by simp [cellsZ]
  have hbl : ∀ w', w.grownBy w' (Value.slice pl l.length cap).ownBlock → Below base w w' := fun w' hg => (Below.refl base w).grown hg hbase (by
    intro k hk
    cases pl with
    | none => cases hk
    | some ad => simp only [Value.ownBlock, Option.some.injEq] at hk; subst hk; exact (owns_lt hown rfl).1)
  rw [List.length_append, hcz]
  cases pa with
  | none =>
    have hza : za = [] := by
      cases za with
      | nil => rfl
      | cons x xs => obtain ⟨g, off, e, _⟩ := ha 0 (by simp); cases e
    subst hza
    have hself : Below base w w := Below.refl _ _
    obtain ⟨h1, ⟨h2, h3⟩ | ⟨g, c, cur, e1, e2, e3, e4, r⟩⟩ := id hown
    · obtain rfl := List.eq_nil_of_length_eq_zero h3
      cases h2
      exact ⟨none, 0, w, run_append_none0 w _ _ _ i Tryz.underlying40 hi ca, by simpa [cellsZ] using hown, hself⟩
    · cases e1
      exact ⟨_, _, w, run_append_none w _ _ _ i Tryz.underlying40 hi _ _ _ ca e4, by simpa [cellsZ] using hown, hself⟩
  | some ad =>
    obtain ⟨v', w', h1, h2, h3, _, _⟩ := run_append_own_at (P := Tryz.prog) w base 40 ty 3 i (.int .i64 0) 1 8 Tryz.underlying40 hi hz hs hb rfl (by decide) _ _ _ hown ad za.length ca (cellsZ za) (by simp [cellsZ]) (fun j u hj => by
      have hjl : j < za.length := by have := (List.getElem?_eq_some_iff.1 hj).1; simpa [cellsZ] using this
      rw [cellsZ_at za hjl] at hj
      cases hj
      obtain ⟨g, off, e, hc⟩ := ha j hjl
      cases e
      rw [Addr.add_lit]
      exact hc) (fun u hu => by obtain ⟨x, _, rfl⟩ := List.mem_map.1 hu; rfl) (by unfold maxLen; omega) (by omega) hbase
    obtain ⟨p', c', rfl⟩ := owns_slice h2
    exact ⟨p', c', w', h1, h2, hbl w' h3⟩
theorem wpList_append_row {ops : Array Oper} {rest : List Oper} {o : Oper} {a : Act} {w : World} {Q : Exit → Act → World → Prop} (hgd : o.guard = none) (s x : Operand)
    (ho : o.op = .call { callee := .builtin .append, args := #[s, x], argTypes := #[40, 40] })
    (base : Nat) (pl : Option Addr) (cap : Nat) (l : List Int) (he : a.eval s = .slice pl l.length cap) (hown : w.ownsRow base 3 1 (.slice pl l.length cap) l.length (cellsZ l))
    (pa : Option Addr) (ca : Nat) (za : List Int) (hx : a.eval x = .slice pa za.length ca) (ha : Rd0 w pa za) (hl : l.length + za.length ≤ 1048576) (hbase : base ≤ w.heap.size)
    (h : ∀ p' c' w', w'.ownsRow base 3 1 (.slice p' (l ++ za).length c') (l ++ za).length (cellsZ (l ++ za)) → Below base w w' → wpList Tryz.prog ops Q rest (a.put o.dst (.slice p' (l ++ za).length c')) w') :
    wpList Tryz.prog ops Q (o :: rest) a w := by
  refine wpList_plain hgd fun K hK => ?_
  obtain ⟨p', c', w', hr, h2, h3⟩ := run_append_row w base o.type pl cap l hown pa ca za ha hl hbase
  unfold Oper.wp execOp
  simp only [ho, resolve, invoke, builtin, Sem.run_bind, Sem.run_pure, Result.andThen_ok, List.map_toArray, List.map_cons, List.map_nil, he, hx, hr]
  exact hK _ _ (h p' c' w' h2 h3)
theorem cellsZ_seg (c : Cfg) (ks : List Nat) (b : Nat) : cellsZ (seg c ks b) = cellsF (adr c (kAt ks b) b) (perN c (kAt ks b)) := by
  simp [cellsZ, seg, cellsF]
theorem owns_below {S : Nat} {w w' : World} {base : Nat} {e : TypeId} {size k cap n : Nat} {p : Option Addr} {xs : List Value} (h : w.ownsRow base e size (.slice p n cap) k xs) (hb : Below S w w') (hS : ∀ g, Row.rowB p g → g < S) : w'.ownsRow base e size (.slice p n cap) k xs :=
  owns_block h fun g hg => hb.block g (hS g hg)

/-- What is seen behind the first k lists. -/
def freP (s : St) (k : Nat) : List Int := (List.range k).flatMap fun k => intsN (s.hv k)
def snP (s : St) (k : Nat) : List Int := objL s ++ hanL s ++ freP s k
theorem snP_zero (s : St) : snP s 0 = objL s ++ hanL s := by simp [snP, freP]
theorem snP_succ (s : St) (k : Nat) : snP s (k + 1) = snP s k ++ intsN (s.hv k) := by simp [snP, freP, List.range_succ]
theorem snP_four (s : St) : snP s 4 = seenL s := by simp [snP, freP, seenL, freL, List.range_succ]
theorem snP_le (s : St) {j k : Nat} (h : j ≤ k) : (snP s j).length ≤ (snP s k).length := by
  induction k with
  | zero => rw [show j = 0 by omega]; exact Nat.le_refl _
  | succ k ih =>
    rcases Nat.lt_or_ge k j with h1 | h1
    · rw [show j = k + 1 by omega]; exact Nat.le_refl _
    · have := ih h1
      rw [snP_succ, List.length_append]; omega
theorem owns_nil (w : World) (base : Nat) (e : TypeId) : w.ownsRow base e 1 (.slice none ([] : List Int).length 0) ([] : List Int).length (cellsZ []) := ⟨by simp [cellsZ], .inl ⟨rfl, rfl⟩⟩

/-- A row of bools that says which numbers are in a list. -/
structure BIs (w : World) (I N : Nat) (l : List Int) : Prop where
  lt : I < w.heap.size
  at_ : ∀ x : Nat, x < N → w.cell? ⟨I, x, none⟩ = some (.bool (decide ((x : Int) ∈ l)))
  fz : ∀ x : Nat, x < N → w.frozen? ⟨I, x, none⟩ = false
theorem BIs.set {w : World} {I N : Nat} {l : List Int} (h : BIs w I N l) {y : Nat} (hy : y < N) : BIs (w.setCell ⟨I, y, none⟩ (.bool true)) I N (l ++ [(y : Int)]) := by
  refine ⟨by simpa [World.setCell] using h.lt, fun x hx => ?_, fun x hx => ?_⟩
  · by_cases e : x = y
    · subst e
      rw [Row.same (h.at_ x hx)]
      simp
    · rw [Row.other (by first | (simp; done) | (simp; omega)), h.at_ x hx]
      have e2 : (x : Int) ≠ (y : Int) := by omega
      simp [e2]
  · rw [World.frozen?_setCell]; exact h.fz x hx
theorem infoBool : (Tryz.prog.info? 4).map (fun i => (i.zero, i.size, i.bytes)) = some (some (.bool false), 1, 1) := by kernel_rfl
theorem BIs.start (w : World) (N : Nat) : BIs (w.alloc (.cells (madeCells #[.bool false] N) 4)) w.heap.size N [] := by
  refine ⟨by simp, fun x hx => ?_, fun x hx => by simp⟩
  have := toList_madeCells_one (.bool false) N
  have h2 : (madeCells #[Value.bool false] N)[x]? = some (.bool false) := by
    rw [← Array.getElem?_toList, this, List.getElem?_replicate]
    simp [hx]
  simp [h2]

end Go.Proofs.YthpgnlcmpoldfaaGreatDoor.Hp

namespace Go.Proofs.YthpgnlcmpoldfaaGreatDoor.Hp
open Go.RowKit
open Class (isB isB_true sizI sizI_bd clsI clsI_bd)
open Blk (Cfg kAt blk)
open Lis (upd upd_same upd_other)
open Go.Proofs.YthpgnlcmpoldfaaGreatDoor.Addr (Tabs)

theorem kAt_app (ks l : List Nat) {b : Nat} (h : b < ks.length) : kAt (ks ++ l) b = kAt ks b := by
  unfold kAt
  rw [List.getD_eq_getElem?_getD, List.getD_eq_getElem?_getD, List.getElem?_append_left h]
theorem rmS_ks (s : St) (k : Nat) : ∃ l, (rmS s k).ks = s.ks ++ l := by
  unfold rmS
  split
  · exact ⟨[], by simp⟩
  · obtain ⟨p1, p2, p3⟩ := puL_c (asS s k) ((tl s k).reverse.take (tl s k).length)
    exact ⟨[k], p2⟩
theorem mkS_ks (s : St) (n c : Int) : (mkS s n c).ks = (rmS s (clsI n).toNat).ks := by
  obtain ⟨z1, z2, _⟩ := zr_rest (mk2 s n) (mkA s n) n.toNat
  exact z2
theorem mkS_cls {s : St} (hw : Wf s) (n c : Int) {x : Nat} (h : own s x = true) : cls (mkS s n c) x = cls s x := by
  obtain ⟨l, e⟩ := rmS_ks s (clsI n).toNat
  unfold cls
  rw [mkS_ks, e, (mkS_rest s n c).1]
  exact kAt_app _ _ (hw.own_cls h)
theorem mkE_parts {s : St} {n c : Int} (he : mkE s n c = 0) : 0 ≤ n ∧ n ≤ 15 ∧ colB c = true ∧ rmOk s (clsI n).toNat = true := by
  unfold mkE at he
  by_cases hn : 0 ≤ n ∧ n ≤ 15
  · rw [if_pos hn] at he
    by_cases hc : colB c = true
    · rw [if_pos hc] at he
      by_cases hr : rmOk s (clsI n).toNat = true
      · exact ⟨hn.1, hn.2, hc, hr⟩
      · rw [if_neg hr] at he; cases he
    · rw [if_neg hc] at he; cases he
  · rw [if_neg hn] at he; cases he
/-- What Make leaves: the slot is an object then, and was none; the others are as they were. -/
theorem mkS_bn {w : World} {H : Nat} {d : Ids} {s : St} {m : Nat} (h : Is w H d s m) {n c : Int} (he : mkE s n c = 0) : (∀ x, bn (mkS s n c) x = if x = mkA s n then true else bn s x) ∧ bn s (mkA s n) = false ∧ cls (mkS s n c) (mkA s n) = (clsI n).toNat ∧ 1 ≤ mkA s n ∧ mkA s n ≤ s.ws.length := by
  obtain ⟨h1, h2, h3, h4⟩ := mkE_parts he
  have hcl := clsI_bd n
  obtain ⟨g1, g2⟩ := rm_hand h (by omega) h4
  obtain ⟨r1, r2, r3, r4, r5⟩ := rmS_rest s (clsI n).toNat
  obtain ⟨p1, p2, p3⟩ := handB_parts g1
  obtain ⟨z1, z2, z3, z4, z5, z6, z7⟩ := zr_rest (mk2 s n) (mkA s n) n.toNat
  have hbn : bn s (mkA s n) = false := by
    rw [bnI_nat] at p2
    have : bn (rmS s (clsI n).toNat) (mkA s n) = bn s (mkA s n) := by unfold bn; rw [r4]
    rw [← this]; exact p2
  have hle : 1 ≤ mkA s n ∧ mkA s n ≤ s.ws.length := by
    have hA := Blk.ownB_true.1 p1
    obtain ⟨_, a1, a2⟩ := Addr.adrB_true.1 hA.1
    have e : (rmS s (clsI n).toNat).c = s.c := r1
    rw [e] at a2
    have hwd := h.wf.words
    show 1 ≤ rmA s (clsI n).toNat ∧ rmA s (clsI n).toNat ≤ s.ws.length
    omega
  refine ⟨fun x => ?_, hbn, ?_, hle⟩
  · show hasB (Bits.putS _ _ _ _) x = _
    rw [z4, z7]
    have e1 : (mk2 s n).bs = s.bs := r4
    have e2 : (mk2 s n).ws.length = s.ws.length := by show ((rmS s (clsI n).toNat).ws.set _ _).length = _; rw [List.length_set]; exact r3
    rw [e1, e2, putS_has h.born.row (by omega)]
    rfl
  · unfold cls
    rw [mkS_ks, (mkS_rest s n c).1, ← r1]
    exact g2
/-- Its words: the header, and fields that are 0. -/
theorem zr_zero (s : St) (a n : Nat) (ha : a + n ≤ s.ws.length) : ∀ j, j ≤ n → ∀ k, k < j → Arena.wd (zr s a j).ws (a + k) = 0 := by
  intro j
  induction j with
  | zero => intro _ k hk; omega
  | succ j ih =>
    intro hj k hk
    have hl := (zr_rest s a j).2.2.2.2.2.2
    show Arena.wd ((zr s a j).ws.set (a + j) 0) (a + k) = 0
    rw [Arena.wd_set]
    by_cases e : k = j
    · subst e; rw [if_pos ⟨rfl, by omega⟩]
    · rw [if_neg (by omega)]; exact ih (by omega) k (by omega)
theorem mkS_ob {w w' : World} {H : Nat} {d d' : Ids} {s : St} {m m' : Nat} (h : Is w H d s m) {n : Nat} {c : Int} (he : mkE s n c = 0) (h' : Is w' H d' (mkS s n c) m') :
    Hdr.obF (wdA (mkS s n c) (mkA s n)) = n ∧ ∀ k, k < n → Arena.wd (mkS s n c).ws (mkA s n + k) = 0 := by
  obtain ⟨h1, h2, h3, h4⟩ := mkE_parts he
  have hcl := clsI_bd n
  obtain ⟨b1, b2, b3, b4, b5⟩ := mkS_bn h he
  obtain ⟨g1, g2⟩ := rm_hand h (by omega) h4
  obtain ⟨r1, r2, r3, r4, r5⟩ := rmS_rest s (clsI (n : Int)).toNat
  obtain ⟨z1, z2, z3, z4, z5, z6, z7⟩ := zr_rest (mk2 s n) (mkA s n) n
  have hlf := Class.least_facts (f := (n : Int)) h1 h2
  have hok : Hdr.okB (cls (rmS s (clsI (n : Int)).toNat) (rmA s (clsI (n : Int)).toNat) : Nat) (n : Nat) = true := by
    rw [g2]
    refine Hdr.okB_true.2 ⟨?_, h1, ?_⟩
    · rw [Int.toNat_of_nonneg (by omega)]; exact hlf.1
    · rw [Int.toNat_of_nonneg (by omega)]; exact hlf.2.1
  have hwd : wdA (mkS s n c) (mkA s n) = Hdr.obI (cls (rmS s (clsI (n : Int)).toNat) (rmA s (clsI (n : Int)).toNat) : Nat) (n : Nat) := by
    show wdA (zr (mk2 s n) (mkA s n) n) (mkA s n) = _
    rw [zr_wdA _ b4]
    exact wdA_be b4 (by rw [r3]; exact b5)
  obtain ⟨i1, i2, i3⟩ := Hdr.isOb_ob hok
  have hob : Hdr.obF (wdA (mkS s n c) (mkA s n)) = n := by rw [hwd]; exact i3
  refine ⟨hob, fun k hk => ?_⟩
  obtain ⟨c1, c2, c3, c4, c5, c6⟩ := obj_fields h'.wf (a := mkA s n) (by rw [b1, if_pos rfl])
  have hin := (h'.wf.in_ws c3).1
  rw [hob] at c4
  have hlw := (mkS_rest s n c).2.2
  have e2 : (mk2 s n).ws.length = s.ws.length := by show ((rmS s (clsI (n : Int)).toNat).ws.set _ _).length = _; rw [List.length_set]; exact r3
  exact zr_zero (mk2 s n) (mkA s n) n (by omega) n (Nat.le_refl _) k hk

/-- The law's objects. -/
structure Mad (s : St) (al fl : List Nat) : Prop where
  len : fl.length = al.length
  born : ∀ x ∈ al, bn s x = true
  cl : ∀ i, i < al.length → cls s (al.getD i 0) = (clsI (fl.getD i 0 : Nat)).toNat
  le : ∀ i, i < al.length → fl.getD i 0 ≤ 15
theorem Mad.start (s : St) : Mad s [] [] := ⟨rfl, fun x hx => by (cases hx), fun i hi => by (cases hi), fun i hi => by (cases hi)⟩
theorem Mad.words {s : St} {al fl : List Nat} (h : Mad s al fl) (ws : List Nat) : Mad (ww s ws) al fl := ⟨h.len, h.born, h.cl, h.le⟩
theorem Mad.made {w : World} {H : Nat} {d : Ids} {s : St} {m : Nat} {al fl : List Nat} (hM : Mad s al fl) (h : Is w H d s m) {n : Nat} {c : Int} (he : mkE s n c = 0) : mkA s n ∉ al ∧ Mad (mkS s n c) (al ++ [mkA s n]) (fl ++ [n]) := by
  obtain ⟨h1, h2, h3, h4⟩ := mkE_parts he
  obtain ⟨b1, b2, b3, b4, b5⟩ := mkS_bn h he
  refine ⟨fun hm => (by have := hM.born _ hm; rw [b2] at this; cases this), by simp [hM.len], fun x hx => ?_, fun i hi => ?_, fun i hi => ?_⟩
  · rw [b1]
    rcases List.mem_append.1 hx with hx | hx
    · rw [hM.born x hx, ite_self]
    · rw [List.mem_singleton.1 hx, if_pos rfl]
  · rw [List.length_append, List.length_singleton] at hi
    by_cases e : i < al.length
    · have hx : al.getD i 0 ∈ al := by
        rw [List.getD_eq_getElem?_getD, List.getElem?_eq_getElem e]
        exact List.getElem_mem e
      have e1 : (al ++ [mkA s n]).getD i 0 = al.getD i 0 := by rw [List.getD_eq_getElem?_getD, List.getD_eq_getElem?_getD, List.getElem?_append_left e]
      have e2 : (fl ++ [n]).getD i 0 = fl.getD i 0 := by rw [List.getD_eq_getElem?_getD, List.getD_eq_getElem?_getD, List.getElem?_append_left (by rw [hM.len]; exact e)]
      rw [e1, e2, mkS_cls h.wf n c (h.wf.born _ (hM.born _ hx)).1]
      exact hM.cl i e
    · obtain rfl : i = al.length := by omega
      have e1 : (al ++ [mkA s n]).getD al.length 0 = mkA s n := by simp [List.getD_eq_getElem?_getD]
      have e2 : (fl ++ [n]).getD al.length 0 = n := by rw [← hM.len]; simp [List.getD_eq_getElem?_getD]
      rw [e1, e2]
      exact b3
  · rw [List.length_append, List.length_singleton] at hi
    by_cases e : i < al.length
    · have e2 : (fl ++ [n]).getD i 0 = fl.getD i 0 := by rw [List.getD_eq_getElem?_getD, List.getD_eq_getElem?_getD, List.getElem?_append_left (by rw [hM.len]; exact e)]
      rw [e2]; exact hM.le i e
    · obtain rfl : i = al.length := by omega
      have e2 : (fl ++ [n]).getD al.length 0 = n := by rw [← hM.len]; simp [List.getD_eq_getElem?_getD]
      rw [e2]; omega

/-- A new object's fields while they are looked at, and laid. -/
structure Zf (s : St) (a n k : Nat) (ws : List Nat) : Prop where
  len : ws.length = s.ws.length
  hdr : wdA (ww s ws) a = wdA s a
  zero : ∀ k', k ≤ k' → k' < n → Arena.wd ws (a + k') = 0
theorem Zf.load {s : St} {a n k : Nat} {ws : List Nat} (h : Zf s a n k ws) (hw : Wf (ww s ws)) (hb : bn s a = true) (hn : Hdr.obF (wdA s a) = n) (hk : k < n) : lE (ww s ws) a k = 0 ∧ lV (ww s ws) a k = 0 := by
  obtain ⟨c1, c2, c3, c4, c5, c6⟩ := obj_fields hw (a := a) hb
  rw [h.hdr, hn] at c1
  have h1 : lE (ww s ws) a k = 0 := by rw [lE, if_pos c2, c1, if_pos ⟨by omega, by omega⟩]
  refine ⟨h1, ?_⟩
  rw [lV, if_pos h1, Int.toNat_natCast, Int.toNat_natCast]
  have : fl (ww s ws) a k = 0 := h.zero k (Nat.le_refl _) hk
  rw [this]
  first | decide | kernel_rfl | simp [wrap64]
theorem Zf.store {s : St} {a n k : Nat} {ws : List Nat} (h : Zf s a n k ws) (hw : Wf (ww s ws)) (hb : bn s a = true) (hn : Hdr.obF (wdA s a) = n) (hk : k < n) : sE (ww s ws) a k a = 0 ∧ Zf s a n (k + 1) (ws.set (a + k) a) := by
  obtain ⟨h1, h2⟩ := h.load hw hb hn hk
  obtain ⟨c1, c2, c3, c4, c5, c6⟩ := obj_fields hw (a := a) hb
  refine ⟨by rw [sE, if_pos h1, if_pos (mayV_true.2 ⟨by omega, by omega⟩)], by rw [List.length_set]; exact h.len, ?_, fun k' h3 h4 => ?_⟩
  · rw [← h.hdr]
    show Arena.wd (ws.set (a + k) a) (a - 1) = Arena.wd ws (a - 1)
    rw [Arena.wd_set, if_neg (by omega)]
  · rw [Arena.wd_set, if_neg (by omega)]
    exact h.zero k' (by omega) h4

/-- What is freed is taken next. -/
theorem fr_next {s : St} {a n : Nat} (hc : cls s a = (clsI (n : Nat)).toNat) (hn : n ≤ 15) : mkE (frS s a) n 0 = 0 ∧ mkA (frS s a) n = a := by
  have hv : (frS s a).hv (clsI (n : Nat)).toNat = a :: s.hv (cls s a) := by
    show upd s.hv (cls s a) (a :: s.hv (cls s a)) (clsI (n : Nat)).toNat = _
    rw [← hc, upd_same]
  have hr : rmOk (frS s a) (clsI (n : Nat)).toNat = true := by unfold rmOk; rw [hv]; rfl
  refine ⟨?_, ?_⟩
  · rw [mkE, if_pos ⟨by omega, by omega⟩, if_pos (show colB 0 = true from rfl), if_pos hr]
  · show rmA (frS s a) (clsI (n : Nat)).toNat = a
    rw [rmA, hv]
end Go.Proofs.YthpgnlcmpoldfaaGreatDoor.Hp
