/-
  Base texts, one behind the other: LisE LisH LisI LisJ LisK LisL LisM.
-/
import Derived.Test.YtipifkgmhgkleaaGreatDoorMzBk2
import Derived.Test.YtipifkgmhgkleaaGreatDoorMzLs1
import Derived.Test.YtipifkgmhgkleaaGreatDoorMzTol
import Derived.Test.YtipifkgmhgkleaaGreatDoorMzBa
import Derived.Test.YtipifkgmhgkleaaGreatDoorMzBk1
namespace Go.Proofs.YtipifkgmhgkleaaGreatDoor.Lis
open Go.RowKit
open Class (isB isB_true isB_false is_any)
open Go.Proofs.YtipifkgmhgkleaaGreatDoor.Row (Chg)
open Blk (Cfg TbIs ret_int ret_bool other same ownB ownV ownV_no ownV_yes owner_any blk kAt OwnIs BytesP kL kL_len kL_more kL_full rowB assign_goodZ assign_full)
open Arena (ArIs Two)
open Bits (SetIs)
open Go.Proofs.YtipifkgmhgkleaaGreatDoor.Addr (Tabs)

/-- Words that are all 0. -/
def ws0 (n : Nat) : List Nat := List.replicate n 0
/-- An arena, a table and lists that have none. -/
def Made (w w' : World) (d : Cfg) (ks : List Nat) (e : Ending) : Prop := ∃ (A G T L I J n capT base : Nat) (p : Option Addr),
  e = .returned (.tuple #[.pointer (some ⟨A, 0, none⟩), .pointer (some ⟨T, 0, none⟩), .pointer (some ⟨L, 0, none⟩)]) ∧ d.b * d.wd = (n : Int) ∧
  Sit w' L A G T I J n ((n + 1 + 63) / 64) base (fun _ => none) (fun _ => 0) (fun _ => []) (ws0 n) (List.replicate ((n + 1 + 63) / 64) 0) 0 0 ∧
  TbIs w' T w.heap.size d ks p capT ∧ (∀ j, Own L A G I J (fun _ => none) j → j ≠ T ∧ ¬ rowB p j ∧ w.heap.size ≤ j) ∧ Below w.heap.size w w'

end Go.Proofs.YtipifkgmhgkleaaGreatDoor.Lis

namespace Go.Proofs.YtipifkgmhgkleaaGreatDoor.Lis
open Go.RowKit Go.Shelf
open Blk (Cfg TbIs rowB other same)
open Go.Proofs.YtipifkgmhgkleaaGreatDoor.Row (Rd Rd0 clone_any cellsZ)
attribute [local go_sem] Oper.semAt_some

/-- What is told of a row, the last one first: where it lies, and what it is. -/
def idxB (l : List Int) (i : Nat) : Int := ((l.length - 1 - i : Nat) : Int)
def tellB (l : List Int) (i : Nat) : Int := l.getD (l.length - 1 - i) 0
def encB (l : List Int) (i : Nat) : Array Value := #[.int .i64 (idxB l i), .int .i64 (tellB l i)]

set_option maxRecDepth 100000 in
set_option maxHeartbeats 2000000 in
theorem backward_told (m B : Nat) (p : Option Addr) (cp : Nat) (l : List Int) (hlen : l.length ≤ 1048576) (w : World) :
    SeqTold Fence.wide m Tryz.prog 229 #[.pointer (some ⟨B, 0, none⟩)] l.length (encB l) (fun W => W.cell? ⟨B, 0, none⟩ = some (.slice p l.length cp) ∧ Rd0 W p l) w := by
  refine SeqTold.any (n := 4) ?_
  intro lp J Jx W hW hJ hJx hT hY h0
  obtain ⟨O0, hj0, hO0⟩ := h0
  obtain ⟨hB, _⟩ := hT _ _ _ hj0
  clear hJ hJx
  refine callsIn_of_wp Tryz.func229 rfl trivial ?_ rfl
  simp only [Tryz.ntmps229, List.size_toArray, List.length_cons, List.length_nil, Nat.reduceAdd, Nat.reduceSub, Array.replicate_succ, Array.replicate_zero, List.push_toArray, List.append_toArray, List.nil_append, List.cons_append]
  gi_wp2
  clear hB
  gi_loopw [3] (fun i wr => ∃ c : Nat, c ≤ l.length ∧ i = .int .i64 ((c : Int) - 1) ∧ W.heap.size ≤ wr.heap.size ∧ ∃ O, J O (l.length - c) wr ∧ ∀ k, O k → k < wr.heap.size)
    (fun i _ => (intOf i + 1).toNat)
  case atStart => exact ⟨l.length, Nat.le_refl _, rfl, Nat.le_refl _, O0, by rw [Nat.sub_self]; exact hj0, hO0⟩
  case round =>
    obtain ⟨c, hc, rfl, hsz, O, hJm, hOm⟩ := hrel
    rcases c with _ | c
    · have i0 : ((0 : Nat) : Int) - 1 = -1 := by omega
      gi_wp2
      go_end0
      exact ⟨⟨_, rfl⟩, O, hOm, hsz, .inl (by simpa using hJm)⟩
    · obtain ⟨hB, hrd⟩ := hT _ _ _ hJm
      obtain ⟨g, off, rfl, hx⟩ := hrd c (by omega)
      have i0 : ((c + 1 : Nat) : Int) - 1 = (c : Int) := by omega
      have i1 : (0 : Int) ≤ (c : Int) := Int.natCast_nonneg _
      have i2 : (c : Int) < (l.length : Int) := by omega
      obtain ⟨fn, tmps, assign, body, hy, hR⟩ := hY O (l.length - (c + 1)) wr (by omega) hJm hOm hsz
      unfold encB idxB tellB at hy
      rw [show l.length - 1 - (l.length - (c + 1)) = c by omega] at hy
      have HS := Lib.hid (show l.length - (c + 1) + 1 = l.length - c by omega)
      clear hrd
      generalize l.getD c 0 = x at *
      gi_wp2
      refine hR.mono ?_
      rintro e W3 ⟨O', ht3, (⟨rfl, hJ3⟩ | ⟨rfl, hJx3⟩)⟩
      · have hs3 := ht3.size
        have ho3 := ht3.lt
        rw [HS.out] at hJ3
        gi_wp2
        go_roundw
        case rel => exact ⟨c, by omega, by go_num, by omega, O', hJ3, ho3⟩
        case measure => simp [intOf]
      · have hs3 := ht3.size
        have ho3 := ht3.lt
        gi_wp2
        refine bodyPost_ret (results_none rfl _ _ _) rfl ?_
        exact ⟨⟨_, rfl⟩, O', ho3, by omega, .inr ⟨_, by omega, hJx3⟩⟩

theorem backward_fn (p : Option Addr) (n c : Nat) (w : World) : Calls Tryz.prog 180 #[.slice p n c] w fun e w' => e = .returned (.func (.func 229) #[] #[.pointer (some ⟨w.heap.size, 0, none⟩)]) ∧ w.alloc (.cells #[.slice p n c] 40) = w' := by
  go_enter Tryz.func180, Tryz.ntmps180
  go_wp2
  go_ret
  exact ⟨rfl, rfl⟩

end Go.Proofs.YtipifkgmhgkleaaGreatDoor.Lis

namespace Go.Proofs.YtipifkgmhgkleaaGreatDoor.Lis
open Go.RowKit Go.Shelf
open Blk (rowB other same info_parts infoInt cellsF cellsF_succ push_fin one_at owns_block owns_base eql_func_nil)
open Go.Proofs.YtipifkgmhgkleaaGreatDoor.Row (Rd)
attribute [local go_sem] Oper.semAt_some

end Go.Proofs.YtipifkgmhgkleaaGreatDoor.Lis

namespace Go.Proofs.YtipifkgmhgkleaaGreatDoor.Lis
open Go.RowKit Go.Shelf
open Blk (rowB other same cellsF cellsK)
open Go.Proofs.YtipifkgmhgkleaaGreatDoor.Row (Rd cellsZ)

/-- A row's numbers, as ints. -/
def intsN (l : List Nat) : List Int := l.map fun n => ((n : Nat) : Int)
theorem intsN_length (l : List Nat) : (intsN l).length = l.length := by simp [intsN]
theorem cellsZ_ints (l : List Nat) : cellsZ (intsN l) = cellsK l := by simp [cellsZ, intsN, cellsK]
theorem told_rev (l : List Nat) : cellsF (tellB (intsN l.reverse)) l.length = cellsK l := by
  apply List.ext_getElem?
  intro i
  by_cases h : i < l.length
  · have e : tellB (intsN l.reverse) i = ((l[i] : Nat) : Int) := by
      unfold tellB
      rw [intsN_length, List.length_reverse, List.getD_eq_getElem?_getD, intsN, List.getElem?_map, List.getElem?_reverse (by omega)]
      rw [show l.length - 1 - (l.length - 1 - i) = i by omega]
      simp [h]
    simp [cellsF, cellsK, h, e]
  · rw [List.getElem?_eq_none (by simp [cellsF]; omega), List.getElem?_eq_none (by simp [cellsK]; omega)]

end Go.Proofs.YtipifkgmhgkleaaGreatDoor.Lis

namespace Go.Proofs.YtipifkgmhgkleaaGreatDoor.Lis
open Go.RowKit
open Class (isB isB_true isB_false is_any)
open Blk (Cfg TbIs ownB blk kAt rowB BytesP kL cellsK)
open Go.Proofs.YtipifkgmhgkleaaGreatDoor.Row (Chg Rd Rd0 same_any)
open Arena (ArIs Two)
open Bits (SetIs)
open Go.Proofs.YtipifkgmhgkleaaGreatDoor.Addr (Tabs)

/-- The document's config. -/
def exL : Cfg := ⟨1, 16, 1, 1, 0, 1, 1⟩
end Go.Proofs.YtipifkgmhgkleaaGreatDoor.Lis

namespace Go.Proofs.YtipifkgmhgkleaaGreatDoor.Lis
open Go.RowKit
open Class (isB isB_true isB_false is_any)
open Blk (Cfg TbIs ownB blk kAt rowB BytesP kL cellsK)
open Go.Proofs.YtipifkgmhgkleaaGreatDoor.Row (Chg Rd Rd0 same_any cellsZ)
open Arena (ArIs Two)
open Bits (SetIs)
open Go.Proofs.YtipifkgmhgkleaaGreatDoor.Addr (Tabs)

/-- Lists, above what lay, beside a table, and blocks that they leave alone. -/
structure Bun (S : Nat) (w wr : World) (L A G T I J n base : Nat) (ps : Nat → Option Addr) (hv : Nat → List Nat) (m bt : Nat) (c : Cfg) (ks : List Nat) (pt : Option Addr) (capT : Nat) (K : Nat → Prop) : Prop where
  has : HasL wr L A G T I J n base ps hv m
  tb : TbIs wr T bt c ks pt capT
  av : ∀ j, Own L A G I J ps j → ¬ K j ∧ S ≤ j
  kT : K T
  kR : ∀ g, rowB pt g → K g
  kl : ∀ j, K j → j < wr.heap.size
  bel : Below S w wr
section
variable {S : Nat} {w wr w' : World} {L A G T I J n base : Nat} {ps : Nat → Option Addr} {hv : Nat → List Nat} {m bt : Nat} {c : Cfg} {ks : List Nat} {pt : Option Addr} {capT : Nat} {K : Nat → Prop}
theorem Bun.step (h : Bun S w wr L A G T I J n base ps hv m bt c ks pt capT K) (hS : S ≤ w.heap.size) {ps' : Nat → Option Addr} {hv' : Nat → List Nat} {m' : Nat} (hh : HasL w' L A G T I J n base ps' hv' m') (hc : Chg (Own L A G I J ps) wr w')
    (hR : ∀ j, Own L A G I J ps' j → Own L A G I J ps j ∨ wr.heap.size ≤ j) : Bun S w w' L A G T I J n base ps' hv' m' bt c ks pt capT K :=
  ⟨hh, h.tb.kept (hc.block T h.tb.ltB (fun e => (h.av T e).1 h.kT)) (fun g hg => hc.block g (h.tb.ltG hg).2 (fun e => (h.av g e).1 (h.kR g hg))), fun j hj => (hR j hj).elim (h.av j) (fun e => ⟨fun hk => by have := h.kl j hk; omega, Nat.le_trans (Nat.le_trans hS h.bel.size) e⟩), h.kT, h.kR, fun j hj => Nat.lt_of_lt_of_le (h.kl j hj) hc.size,
    h.bel.trans (hc.below (fun k hk => (h.av k hk).2) (Nat.le_trans hS h.bel.size))⟩
theorem Bun.later (h : Bun S w wr L A G T I J n base ps hv m bt c ks pt capT K) (hS : S ≤ w.heap.size) (hb : Below wr.heap.size wr w') : Bun S w w' L A G T I J n base ps hv m bt c ks pt capT K :=
  h.step hS (h.has.later hb) (Chg.of_below hb) (fun _ e => .inl e)
/-- Other blocks to be left alone: new ones, too. -/
theorem Bun.keep (h : Bun S w wr L A G T I J n base ps hv m bt c ks pt capT K) {K' : Nat → Prop} (hT : K' T) (hp : ∀ g, rowB pt g → K' g) (hK : ∀ j, K' j → K j ∨ ¬ Own L A G I J ps j) (hl : ∀ j, K' j → j < wr.heap.size) : Bun S w wr L A G T I J n base ps hv m bt c ks pt capT K' :=
  ⟨h.has, h.tb, fun j hj => ⟨fun e => (hK j e).elim (h.av j hj).1 (fun e => e hj), (h.av j hj).2⟩, hT, hp, hl, h.bel⟩
end

end Go.Proofs.YtipifkgmhgkleaaGreatDoor.Lis

namespace Go.Proofs.YtipifkgmhgkleaaGreatDoor.Lis
open Go.RowKit
open Class (isB isB_true isB_false is_any sizI perI)
open Blk (Cfg TbIs ownB ownV ownV_yes ownV_no blk kAt rowB BytesP kL cellsK own_adr adr perN)
open Go.Proofs.YtipifkgmhgkleaaGreatDoor.Row (Chg Rd Rd0 same_any cellsZ)
open Go.Proofs.YtipifkgmhgkleaaGreatDoor.Addr (Tabs)

def cellsB (l : List Nat) : List Value := l.map fun n => .int .u8 ((n : Nat) : Int)
theorem run_append_none {P : Program} (w : World) (t ty e : TypeId) (i : TypeInfo) (ht : P.underlying t = some (.slice e)) (hi : P.info? e = some i) (b : Addr) (n cap c : Nat) (hle : n ≤ cap) :
    (Builtin.append_ #[t, t] ty #[.slice (some b) n cap, .slice none 0 c]).run P w = .ok (.slice (some b) n cap) w := by
  simp [Builtin.append_, run_underlying ht, sizeOf, typeInfo, hi, Builtin.lenOf, Builtin.firstCells, loadCells, storeCells, hle]

theorem own_adr2 {c : Cfg} {ks : List Nat} {b i : Nat} (hR : rightB c.b c.wd c.m c.r c.ce c.lg c.st = true) (hb : b < ks.length) (hbb : (b : Int) < c.b) (hk : kAt ks b < 4) (hi : i < perN c (kAt ks b)) :
    ownB c ks (adr c (kAt ks b) b i) = true ∧ blk c (adr c (kAt ks b) b i) = b := by
  have h := own_adr hR hb hbb hk hi
  cases ho : ownB c ks (adr c (kAt ks b) b i) with
  | true =>
    refine ⟨rfl, ?_⟩
    rw [ownV_yes ho] at h
    simp only [Value.tuple.injEq, Array.mk.injEq, List.cons.injEq, Value.int.injEq] at h
    omega
  | false =>
    rw [ownV_no ho] at h
    simp at h
end Go.Proofs.YtipifkgmhgkleaaGreatDoor.Lis
