/-
  What the law BlockPlays holds a table against.
-/
import Derived.Test.YtfifliepjmpgkaaDoorBlkN
namespace Go.Proofs.YtfifliepjmpgkaaDoor.Blk
open Go.RowKit Go.Shelf
open Go.Proofs.YtfifliepjmpgkaaDoor.Addr (Tabs ListP same_any adrB adrB_true finB finB_true offI)
open Class (isB isB_true isB_false sizI perI)

/-- Two rows lie in two blocks. -/
def Apart (p q : Option Addr) : Prop := ∀ k, rowB p k → ¬ rowB q k

/-- What an append leaves, wherever the row lies. -/
theorem push_row {Y Y0 w3 : World} {base n m cap : Nat} {p : Option Addr} {v' : Value} {ys : List Value} (hb : Below Y.heap.size Y Y0)
    (hown : w3.ownsRow base 3 1 v' (n + m) ys) (hg : Y0.grownBy w3 (Value.slice p n cap).ownBlock) (hat : v'.ownBlock = (Value.slice p n cap).ownBlock ∨ v'.ownBlock = some Y0.heap.size) :
    ∃ p' cap', v' = .slice p' (n + m) cap' ∧ Chg (rowB p) Y w3 ∧ ∀ k, rowB p' k → rowB p k ∨ Y.heap.size ≤ k := by
  obtain ⟨p', cap', rfl⟩ := owns_slice hown
  refine ⟨p', cap', rfl, ⟨hg.os.trans hb.os, hg.tape.trans hb.tape, hg.output.trans hb.output, Nat.le_trans hb.size hg.size, fun k hk hn => ?_⟩, fun k hk => ?_⟩
  · exact (hg.block k (Nat.lt_of_lt_of_le hk hb.size) (fun e => hn ((ownBlock_slice p n cap k).1 e.symm))).trans (hb.block k hk)
  · rcases hat with h | h
    · exact .inl ((ownBlock_slice p n cap k).1 (h ▸ (ownBlock_slice p' (n + m) cap' k).2 hk))
    · right
      have := (ownBlock_slice p' (n + m) cap' k).2 hk
      rw [h] at this
      have := Option.some.inj this
      have := hb.size
      omega

theorem owns_chg {S : Nat → Prop} {w w' : World} {base : Nat} {e : TypeId} {size k cap n : Nat} {p : Option Addr} {xs : List Value} (h : w.ownsRow base e size (.slice p n cap) k xs) (hc : Chg S w w') (hS : ∀ g, rowB p g → ¬ S g) : w'.ownsRow base e size (.slice p n cap) k xs :=
  owns_block h (fun g hg => hc.block g (owns_lt h hg).2 (hS g hg))
theorem TbIs.chg2 {S : Nat → Prop} {w w' : World} {B base cap : Nat} {c : Cfg} {ks : List Nat} {p : Option Addr} (h : TbIs w B base c ks p cap) (hc : Chg S w w') (hB : ¬ S B) (hS : ∀ g, rowB p g → ¬ S g) : TbIs w' B base c ks p cap :=
  h.kept (hc.block B h.ltB hB) (fun g hg => hc.block g (h.ltG hg).2 (hS g hg))

theorem own_adr2 {c : Cfg} {ks : List Nat} {b i : Nat} (hR : rightB c.b c.wd c.m c.r c.ce c.lg c.st = true) (hb : b < ks.length) (hbb : (b : Int) < c.b) (hk : kAt ks b < 4) (hi : i < perN c (kAt ks b)) :
    ownB c ks (adr c (kAt ks b) b i) = true ∧ blk c (adr c (kAt ks b) b i) = b := by
  have h := own_adr hR hb hbb hk hi
  cases ho : ownB c ks (adr c (kAt ks b) b i) with
  | true =>
    refine ⟨rfl, ?_⟩
    rw [ownV_yes ho] at h
    simp only [Value.tuple.injEq, Array.mk.injEq, List.cons.injEq, Value.int.injEq] at h
    omega
  | false =>
    rw [ownV_no ho] at h
    simp at h
/-- An address is among a block's just if the block is its owner. -/
theorem mem_seg {c : Cfg} {ks : List Nat} {b : Nat} {a : Int} (hR : rightB c.b c.wd c.m c.r c.ce c.lg c.st = true) (hb : b < ks.length) (hbb : (b : Int) < c.b) (hk : kAt ks b < 4) :
    a ∈ seg c ks b ↔ ownB c ks a = true ∧ blk c a = b := by
  constructor
  · intro h
    obtain ⟨i, hi, rfl⟩ := List.mem_map.1 h
    exact own_adr2 hR hb hbb hk (List.mem_range.1 hi)
  · rintro ⟨h, rfl⟩
    have hRC := slots_bd hR
    obtain ⟨hA, h1, hF, h0⟩ := ownB_true.1 h
    obtain ⟨_, hB, hin⟩ := finB_true.1 hF
    obtain ⟨_, a1, a2⟩ := adrB_true.1 hA
    obtain ⟨g1, g2, g3, g4, g5⟩ := Addr.adr_parts hRC a1 a2
    obtain ⟨s0, s1⟩ := Class.sizI_bd hB
    have hw0 := hRC.wd0
    have hd := (Addr.blkB_true.1 g1).1
    have hblk : ((blk c a : Nat) : Int) = (a - 1) / c.wd := by unfold blk; omega
    have d0 : 0 ≤ offI c.wd a / sizI (kAt ks (blk c a)) := Int.ediv_nonneg g4 (by omega)
    obtain ⟨i, hi⟩ : ∃ i : Nat, offI c.wd a / sizI (kAt ks (blk c a)) = (i : Int) := ⟨(offI c.wd a / sizI (kAt ks (blk c a))).toNat, by omega⟩
    refine List.mem_map.2 ⟨i, List.mem_range.2 ?_, ?_⟩
    · have := perN_eq c (kAt ks (blk c a)); omega
    · unfold adr
      have e1 := Int.emod_add_mul_ediv (offI c.wd a) (sizI (kAt ks (blk c a)))
      rw [h0, hi, Int.zero_add, Int.mul_comm] at e1
      rw [hblk, e1]
      omega

theorem kAt_lt {ks : List Nat} (h : ∀ k ∈ ks, k < 4) (j : Nat) : kAt ks j < 4 := by
  unfold kAt
  rw [List.getD_eq_getElem?_getD]
  rcases hj : ks[j]? with _ | k
  · simp
  · simpa using h k (List.mem_of_getElem? hj)
theorem mem_pick (h : Nat → Bool) (n b : Nat) : b ∈ pick h n ↔ b < n ∧ h b = true := by simp [pick, List.mem_filter]
theorem of_sum {ks : List Nat} (h4 : ∀ j, kAt ks j < 4) (n : Nat) : (pick (isOf ks 0) n).length + (pick (isOf ks 1) n).length + (pick (isOf ks 2) n).length + (pick (isOf ks 3) n).length = min n ks.length := by
  induction n with
  | zero => simp [pick]
  | succ n ih =>
    have step : ∀ k : Int, (pick (isOf ks k) (n + 1)).length = (pick (isOf ks k) n).length + (if n < ks.length ∧ ((kAt ks n : Nat) : Int) = k then 1 else 0) := fun k => by
      by_cases hc : n < ks.length ∧ ((kAt ks n : Nat) : Int) = k
      · rw [pick_yes (by simp [isOf, hc.1, hc.2]), if_pos hc]; simp
      · rw [pick_no (by
          unfold isOf
          by_cases h1 : n < ks.length
          · have : ¬ ((kAt ks n : Nat) : Int) = k := fun e => hc ⟨h1, e⟩
            simp [this]
          · simp [h1]), if_neg hc]; simp
    rw [step 0, step 1, step 2, step 3]
    have := h4 n
    by_cases h1 : n < ks.length
    · rw [show min (n + 1) ks.length = min n ks.length + 1 from by omega, ← ih]
      have : kAt ks n = 0 ∨ kAt ks n = 1 ∨ kAt ks n = 2 ∨ kAt ks n = 3 := by omega
      rcases this with h | h | h | h <;> simp [h, h1] <;> omega
    · rw [show min (n + 1) ks.length = min n ks.length from by omega, ← ih]
      simp [h1]
theorem of_none {ks : List Nat} (h4 : ∀ j, kAt ks j < 4) {k : Int} (hk : k < 0 ∨ 3 < k) (n : Nat) : pick (isOf ks k) n = [] := by
  induction n with
  | zero => simp [pick]
  | succ n ih =>
    rw [pick_no (by
      have := h4 n
      have : ¬ ((kAt ks n : Nat) : Int) = k := by omega
      simp [isOf, this]), ih]

theorem same_n (p q : Option Addr) (cp cq n : Nat) (zs : List Int) (hn : zs.length = n) (w : World) (hp : ListP w.heap.size w p zs) (hq : ListP w.heap.size w q zs) (hl : n ≤ 1000) :
    Calls Tryd.prog 19 #[.slice p n cp, .slice q n cq] w fun e w' => e = .returned (.bool true) ∧ ∃ n, w' = w.drewN n := by
  subst hn
  exact same_any p q cp cq zs w.heap.size w hp hq hl
theorem in_n (p : Option Addr) (cap n : Nat) (zs : List Int) (z : Int) (hn : zs.length = n) (w : World) (hz : ListP w.heap.size w p zs) (hl : n ≤ 2097152) :
    Calls Tryd.prog 20 #[.slice p n cap, .int .i64 z] w fun e w' => e = .returned (.bool (decide (z ∈ zs))) ∧ w = w' := by
  subst hn
  exact in_any p cap zs z w hz hl

/-- All numbers of a list, as cells. -/
def cellsI (l : List Int) : List Value := l.map fun z => .int .i64 z
theorem cellsI_seg (c : Cfg) (ks : List Nat) (b : Nat) : cellsF (adr c (kAt ks b) b) (perN c (kAt ks b)) = cellsI (seg c ks b) := by simp [cellsF, cellsI, seg]
theorem cellsI_app (l m : List Int) : cellsI (l ++ m) = cellsI l ++ cellsI m := by simp [cellsI]
theorem valA_list (c : Cfg) (ks : List Nat) : (List.range (allP c ks ks.length).length).map (valA c ks) = allP c ks ks.length := by
  apply List.ext_getElem
  · simp
  · intro i h1 h2
    simp [valA, List.getD_eq_getElem?_getD, h2]
theorem listP_I {w : World} {base cap : Nat} {p : Option Addr} (l : List Int) (h : w.ownsRow base 3 1 (.slice p l.length cap) l.length (cellsI l)) : ListP w.heap.size w p l := fun j hj => by
  obtain ⟨_, ⟨h2, h3⟩ | ⟨g, c, cur, e1, e2, e3, r⟩⟩ := id h
  · omega
  · cases e1
    refine ⟨g, 0, rfl, (Array.getElem?_eq_some_iff.1 e3).1, ?_⟩
    rw [Nat.zero_add]
    exact owns_cell h j _ (by simp [cellsI, hj])

/-- Has the address been found up to a block? -/
def upB (c : Cfg) (ks : List Nat) (a : Int) (b : Nat) : Bool := ownB c ks a && decide (blk c a < b)
def upN (c : Cfg) (ks : List Nat) (a : Int) (b : Nat) : Nat := if upB c ks a b = true then blk c a else 0
def upK (c : Cfg) (ks : List Nat) (a : Int) (b : Nat) : Nat := if upB c ks a b = true then kAt ks (blk c a) else 0
theorem up_zero (c : Cfg) (ks : List Nat) (a : Int) : upN c ks a 0 = 0 ∧ upK c ks a 0 = 0 ∧ upB c ks a 0 = false := by simp [upN, upK, upB]
theorem up_yes {c : Cfg} {ks : List Nat} {a : Int} {b : Nat} (h : ownB c ks a = true ∧ blk c a = b) : upN c ks a (b + 1) = b ∧ upK c ks a (b + 1) = kAt ks b ∧ upB c ks a (b + 1) = true := by
  have hu : upB c ks a (b + 1) = true := by simp [upB, h.1, h.2]
  simp [upN, upK, hu, h.2]
theorem up_no {c : Cfg} {ks : List Nat} {a : Int} {b : Nat} (h : ¬ (ownB c ks a = true ∧ blk c a = b)) : upN c ks a (b + 1) = upN c ks a b ∧ upK c ks a (b + 1) = upK c ks a b ∧ upB c ks a (b + 1) = upB c ks a b := by
  have hu : upB c ks a (b + 1) = upB c ks a b := by
    unfold upB
    cases ho : ownB c ks a with
    | false => rfl
    | true =>
      have : ¬ blk c a = b := fun e => h ⟨ho, e⟩
      rw [Bool.true_and, Bool.true_and, decide_eq_decide]
      omega
  simp [upN, upK, hu]
theorem up_end {c : Cfg} {ks : List Nat} {a : Int} {b : Nat} (h : ks.length ≤ b) : ownV c ks a = .tuple #[.int .i64 (upN c ks a b), .int .i64 (upK c ks a b), .bool (upB c ks a b)] := by
  have hu : upB c ks a b = ownB c ks a := by
    unfold upB
    cases ho : ownB c ks a with
    | false => rfl
    | true =>
      have := (ownB_true.1 ho).2.1
      simp; omega
  unfold ownV upN upK
  rw [hu]

theorem guard_ne (b wd m r ce lg st : Int) (w : World) :
    (binOp .neq 23 (.agg #[.int .i64 b, .int .i64 wd, .int .i64 m, .int .i64 r, .int .i64 ce, .int .i64 lg, .int .i64 st]) (.agg #[.int .i64 b, .int .i64 wd, .int .i64 m, .int .i64 r, .int .i64 ce, .int .i64 lg, .int .i64 st])).run Tryd.prog w = .ok (.bool false) w := by
  have hp : Tryd.prog.stoodInHeld 23 = false := by kernel_rfl
  have hu := Tryd.underlying23
  have h3 := Tryd.underlying3
  have c3 : Tryd.prog.cellsOf 3 = 1 := by kernel_rfl
  rw [run_neq_struct, run_equalIn_agg _ _ _ _ _ (by unfold Program.fieldsOf; rw [hu]) hp]
  unfold Program.fieldsOf
  rw [hu]
  simp only [Op.eqFields]
  simp [go_sem, h3, part]
end Go.Proofs.YtfifliepjmpgkaaDoor.Blk
