/-
  Base texts, one behind the other: LisE LisH LisI LisJ LisK LisL LisM.
-/
import Derived.Test.YthpgnlcmpoldfaaGreatDoorBk2
import Derived.Test.YthpgnlcmpoldfaaGreatDoorLs1
import Derived.Test.YthpgnlcmpoldfaaGreatDoorTol
import Derived.Test.YthpgnlcmpoldfaaGreatDoorRow
import Derived.Test.YthpgnlcmpoldfaaGreatDoorBk1
namespace Go.Proofs.YthpgnlcmpoldfaaGreatDoor.Lis
open Go.RowKit
open Class (isB isB_true isB_false is_any)
open Go.Proofs.YthpgnlcmpoldfaaGreatDoor.Row (Chg)
open Blk (Cfg TbIs ret_int ret_bool other same ownB ownV ownV_no ownV_yes owner_any blk kAt OwnIs BytesP kL kL_len kL_more kL_full rowB assign_goodZ assign_full)
open Arena (ArIs Two)
open Bits (SetIs)
open Go.Proofs.YthpgnlcmpoldfaaGreatDoor.Addr (Tabs)

/-- Words that are all 0. -/
def ws0 (n : Nat) : List Nat := List.replicate n 0
/-- An arena, a table and lists that have none. -/
def Made (w w' : World) (d : Cfg) (ks : List Nat) (e : Ending) : Prop := ∃ (A G T L I J n capT base : Nat) (p : Option Addr),
  e = .returned (.tuple #[.pointer (some ⟨A, 0, none⟩), .pointer (some ⟨T, 0, none⟩), .pointer (some ⟨L, 0, none⟩)]) ∧ d.b * d.wd = (n : Int) ∧
  Sit w' L A G T I J n ((n + 1 + 63) / 64) base (fun _ => none) (fun _ => 0) (fun _ => []) (ws0 n) (List.replicate ((n + 1 + 63) / 64) 0) 0 0 ∧
  TbIs w' T w.heap.size d ks p capT ∧ (∀ j, Own L A G I J (fun _ => none) j → j ≠ T ∧ ¬ rowB p j ∧ w.heap.size ≤ j) ∧ Below w.heap.size w w'

theorem tb_base {w : World} {B base base' capT : Nat} {c : Cfg} {ks : List Nat} {p : Option Addr} (h : TbIs w B base c ks p capT) (hb : base' ≤ base) : TbIs w B base' c ks p capT :=
  { h with own := Blk.owns_base hb h.own, base := Nat.le_trans hb h.base }
theorem made_fin {w w1 w2 wr w7 : World} {d : Cfg} {ks : List Nat} {p : Option Addr} {A G T L I J n cap : Nat} (hn : d.b * d.wd = (n : Int)) (hA1 : w1.heap.size ≤ A) (hG1 : w1.heap.size ≤ G) (hA2 : A < w2.heap.size) (hG2 : G < w2.heap.size)
    (hAr : ArIs wr A G n (ws0 n) 0 0) (hS : TbIs wr T w2.heap.size d ks p cap) (hb1 : Below w.heap.size w w1) (hb2 : Below w1.heap.size w1 w2) (hb : Below w2.heap.size w2 wr)
    (hL : LsIs w7 L A T I wr.heap.size (fun _ => none) (fun _ => 0) (fun _ => [])) (hSI : SetIs w7 I J ((ws0 n).length + 1) (((ws0 n).length + 1 + 63) / 64) (List.replicate (((ws0 n).length + 1 + 63) / 64) 0))
    (hI : wr.heap.size ≤ I) (hJ : wr.heap.size ≤ J) (hIL : I < L) (hJL : J < L) (hIJ : I ≠ J) (hLl : L < w7.heap.size) (hb7 : Below wr.heap.size wr w7) :
    Made w w7 d ks (.returned (.tuple #[.pointer (some ⟨A, 0, none⟩), .pointer (some ⟨T, 0, none⟩), .pointer (some ⟨L, 0, none⟩)])) := by
  have hlen : (ws0 n).length = n := by simp [ws0]
  have s1 := hb1.size
  have s2 := hb2.size
  have s3 := hb.size
  have s7 := hb7.size
  have t1 := hS.base
  have t2 := hS.ltB
  have hAG := hAr.ne
  rw [hlen] at hSI
  refine ⟨A, G, T, L, I, J, n, cap, wr.heap.size, p, rfl, hn, ⟨hL, hAr.below hb7 (by omega) (by omega), by rw [hlen]; exact hSI, ⟨by omega, by omega, by omega, by omega, hAG, by omega, by omega, by omega, by omega, hIJ⟩, by omega, by omega, (fun k _ g hg => by cases hg), s7⟩,
    tb_base (hS.later hb7) (by omega), fun j hj => ?_, hb1.trans ((hb2.trans ((hb.trans (hb7.mono s3)).mono s2)).mono s1)⟩
  refine ⟨?_, fun hr => ?_, ?_⟩
  · rcases hj with e | e | e | e | e | ⟨i, _, e⟩
    · omega
    · omega
    · omega
    · omega
    · omega
    · cases e
  · have := hS.ltG hr
    rcases hj with e | e | e | e | e | ⟨i, _, e⟩
    · omega
    · omega
    · omega
    · omega
    · omega
    · cases e
  · rcases hj with e | e | e | e | e | ⟨i, _, e⟩
    · omega
    · omega
    · omega
    · omega
    · omega
    · cases e

end Go.Proofs.YthpgnlcmpoldfaaGreatDoor.Lis

namespace Go.Proofs.YthpgnlcmpoldfaaGreatDoor.Lis
open Go.RowKit Go.Shelf
open Blk (Cfg TbIs rowB other same)
open Go.Proofs.YthpgnlcmpoldfaaGreatDoor.Row (Rd Rd0 clone_any cellsZ)
attribute [local go_sem] Oper.semAt_some

/-- What is told of a row, the last one first: where it lies, and what it is. -/
def idxB (l : List Int) (i : Nat) : Int := ((l.length - 1 - i : Nat) : Int)
def tellB (l : List Int) (i : Nat) : Int := l.getD (l.length - 1 - i) 0
def encB (l : List Int) (i : Nat) : Array Value := #[.int .i64 (idxB l i), .int .i64 (tellB l i)]

set_option maxRecDepth 100000 in
set_option maxHeartbeats 2000000 in
theorem backward_told (m B : Nat) (p : Option Addr) (cp : Nat) (l : List Int) (hlen : l.length ≤ 1048576) (w : World) :
    SeqTold Fence.wide m Tryz.prog 219 #[.pointer (some ⟨B, 0, none⟩)] l.length (encB l) (fun W => W.cell? ⟨B, 0, none⟩ = some (.slice p l.length cp) ∧ Rd0 W p l) w := by
  refine SeqTold.any (n := 4) ?_
  intro lp J Jx W hW hJ hJx hT hY h0
  obtain ⟨O0, hj0, hO0⟩ := h0
  obtain ⟨hB, _⟩ := hT _ _ _ hj0
  clear hJ hJx
  refine callsIn_of_wp Tryz.func219 rfl trivial ?_ rfl
  simp only [Tryz.ntmps219, List.size_toArray, List.length_cons, List.length_nil, Nat.reduceAdd, Nat.reduceSub, Array.replicate_succ, Array.replicate_zero, List.push_toArray, List.append_toArray, List.nil_append, List.cons_append]
  gi_wp2
  clear hB
  gi_loopw [3] (fun i wr => ∃ c : Nat, c ≤ l.length ∧ i = .int .i64 ((c : Int) - 1) ∧ W.heap.size ≤ wr.heap.size ∧ ∃ O, J O (l.length - c) wr ∧ ∀ k, O k → k < wr.heap.size)
    (fun i _ => (intOf i + 1).toNat)
  case atStart => exact ⟨l.length, Nat.le_refl _, rfl, Nat.le_refl _, O0, by rw [Nat.sub_self]; exact hj0, hO0⟩
  case round =>
    obtain ⟨c, hc, rfl, hsz, O, hJm, hOm⟩ := hrel
    rcases c with _ | c
    · have i0 : ((0 : Nat) : Int) - 1 = -1 := by omega
      gi_wp2
      go_end0
      exact ⟨⟨_, rfl⟩, O, hOm, hsz, .inl (by simpa using hJm)⟩
    · obtain ⟨hB, hrd⟩ := hT _ _ _ hJm
      obtain ⟨g, off, rfl, hx⟩ := hrd c (by omega)
      have i0 : ((c + 1 : Nat) : Int) - 1 = (c : Int) := by omega
      have i1 : (0 : Int) ≤ (c : Int) := Int.natCast_nonneg _
      have i2 : (c : Int) < (l.length : Int) := by omega
      obtain ⟨fn, tmps, assign, body, hy, hR⟩ := hY O (l.length - (c + 1)) wr (by omega) hJm hOm hsz
      unfold encB idxB tellB at hy
      rw [show l.length - 1 - (l.length - (c + 1)) = c by omega] at hy
      have HS := Lib.hid (show l.length - (c + 1) + 1 = l.length - c by omega)
      clear hrd
      generalize l.getD c 0 = x at *
      gi_wp2
      refine hR.mono ?_
      rintro e W3 ⟨O', ht3, (⟨rfl, hJ3⟩ | ⟨rfl, hJx3⟩)⟩
      · have hs3 := ht3.size
        have ho3 := ht3.lt
        rw [HS.out] at hJ3
        gi_wp2
        go_roundw
        case rel => exact ⟨c, by omega, by go_num, by omega, O', hJ3, ho3⟩
        case measure => simp [intOf]
      · have hs3 := ht3.size
        have ho3 := ht3.lt
        gi_wp2
        refine bodyPost_ret (results_none rfl _ _ _) rfl ?_
        exact ⟨⟨_, rfl⟩, O', ho3, by omega, .inr ⟨_, by omega, hJx3⟩⟩

theorem backward_fn (p : Option Addr) (n c : Nat) (w : World) : Calls Tryz.prog 162 #[.slice p n c] w fun e w' => e = .returned (.func (.func 219) #[] #[.pointer (some ⟨w.heap.size, 0, none⟩)]) ∧ w.alloc (.cells #[.slice p n c] 40) = w' := by
  go_enter Tryz.func162, Tryz.ntmps162
  go_wp2
  go_ret
  exact ⟨rfl, rfl⟩

end Go.Proofs.YthpgnlcmpoldfaaGreatDoor.Lis

namespace Go.Proofs.YthpgnlcmpoldfaaGreatDoor.Lis
open Go.RowKit Go.Shelf
open Blk (rowB other same info_parts infoInt cellsF cellsF_succ push_fin one_at owns_block owns_base eql_func_nil)
open Go.Proofs.YthpgnlcmpoldfaaGreatDoor.Row (Rd)
attribute [local go_sem] Oper.semAt_some

end Go.Proofs.YthpgnlcmpoldfaaGreatDoor.Lis

namespace Go.Proofs.YthpgnlcmpoldfaaGreatDoor.Lis
open Go.RowKit Go.Shelf
open Blk (rowB other same cellsF cellsK)
open Go.Proofs.YthpgnlcmpoldfaaGreatDoor.Row (Rd cellsZ)

/-- A row's numbers, as ints. -/
def intsN (l : List Nat) : List Int := l.map fun n => ((n : Nat) : Int)
theorem intsN_length (l : List Nat) : (intsN l).length = l.length := by simp [intsN]
theorem cellsZ_ints (l : List Nat) : cellsZ (intsN l) = cellsK l := by simp [cellsZ, intsN, cellsK]
theorem told_rev (l : List Nat) : cellsF (tellB (intsN l.reverse)) l.length = cellsK l := by
  apply List.ext_getElem?
  intro i
  by_cases h : i < l.length
  · have e : tellB (intsN l.reverse) i = ((l[i] : Nat) : Int) := by
      unfold tellB
      rw [intsN_length, List.length_reverse, List.getD_eq_getElem?_getD, intsN, List.getElem?_map, List.getElem?_reverse (by omega)]
      rw [show l.length - 1 - (l.length - 1 - i) = i by omega]
      simp [h]
    simp [cellsF, cellsK, h, e]
  · rw [List.getElem?_eq_none (by simp [cellsF]; omega), List.getElem?_eq_none (by simp [cellsK]; omega)]

end Go.Proofs.YthpgnlcmpoldfaaGreatDoor.Lis

namespace Go.Proofs.YthpgnlcmpoldfaaGreatDoor.Lis
open Go.RowKit
open Class (isB isB_true isB_false is_any)
open Blk (Cfg TbIs ownB blk kAt rowB BytesP kL cellsK)
open Go.Proofs.YthpgnlcmpoldfaaGreatDoor.Row (Chg Rd Rd0 same_any)
open Arena (ArIs Two)
open Bits (SetIs)
open Go.Proofs.YthpgnlcmpoldfaaGreatDoor.Addr (Tabs)

theorem load_link {L A G T I J n m baseL : Nat} {ps : Nat → Option Addr} {hv : Nat → List Nat} (w : World) (h : HasL w L A G T I J n baseL ps hv m) (hm : m < 1000000) {k a : Nat} (hk : k < 4) {l1 l2 : List Nat} (he : hv k = l1 ++ a :: l2) :
    Calls Tryz.prog 170 #[.pointer (some ⟨A, 0, none⟩), .int .i64 a] w fun e w' => ∃ x : Nat, e = .returned (.tuple #[.int .u64 x, .int .i64 0]) ∧ x < 18446744073709551616 ∧ Hdr.isLk x = true ∧ Hdr.nx x = l2.headD 0 ∧ HasL w' L A G T I J n baseL ps hv (m + 1) ∧ Chg (Own L A G I J ps) w w' := by
  obtain ⟨cap, capS, cs, ws, sw, ld, st, h1, h2, h3, h4, h5, h6, h7⟩ := h
  have hc := h2.chain k hk
  rw [he] at hc
  obtain ⟨c1, c2, c3, c4⟩ := hc.mid
  have hz : Arena.codeN ws.length (a : Int) = 0 := by unfold Arena.codeN; rw [if_neg (by omega), if_neg (by omega)]
  have e1 : Arena.getR ws (a : Int) = Arena.wd ws (a - 1) := by rw [Arena.getR, if_pos hz, Int.toNat_natCast]
  have e2 : Arena.oneN ws.length (a : Int) = 1 := if_pos hz
  refine (Arena.load_any w h1.ar h1.ltG (by omega) (a : Int)).mono ?_
  rintro e w' ⟨rfl, ha', ht⟩
  rw [e2] at ha'
  have F := h1.five
  have hl : ∀ k, Own L A G I J ps k → k ≠ A → k ≠ G → w'.heap[k]? = w.heap[k]? := fun k hk n1 n2 => ht.block k (h1.ltO hk) n1 n2
  refine ⟨_, by rw [e1, hz], h2.word _, c3, c4, ⟨cap, capS, cs, ws, sw, ld + 1, st, ⟨h1.ls.kept (hl _ (.inl rfl) F.la F.lg) (fun k hk g hg => hl g (.inr (.inr (.inr (.inr (.inr ⟨k, hk, hg⟩))))) (h1.rows k hk g hg).1 (h1.rows k hk g hg).2.1), ha', set_kept h1.si (hl _ (.inr (.inr (.inr (.inl rfl)))) (Ne.symm F.ai) (Ne.symm F.gi)) (hl _ (.inr (.inr (.inr (.inr (.inl rfl))))) (Ne.symm F.aj) (Ne.symm F.gj)), F, Nat.lt_of_lt_of_le h1.ltG ht.size, Nat.lt_of_lt_of_le h1.ltJ ht.size, h1.rows, Nat.le_trans h1.bs ht.size⟩, h2, h3, h4, by omega, by omega, fun k hk => by have := h7 k hk; omega⟩, own_two ht⟩

theorem made_has {w w' : World} {d : Cfg} {ks : List Nat} {e : Ending} (h : Made w w' d ks e) : ∃ (A G T L I J n capT base : Nat) (p : Option Addr),
    e = .returned (.tuple #[.pointer (some ⟨A, 0, none⟩), .pointer (some ⟨T, 0, none⟩), .pointer (some ⟨L, 0, none⟩)]) ∧ d.b * d.wd = (n : Int) ∧ HasL w' L A G T I J n base (fun _ => none) (fun _ => []) 0 ∧
    TbIs w' T w.heap.size d ks p capT ∧ (∀ j, Own L A G I J (fun _ => none) j → j ≠ T ∧ ¬ rowB p j ∧ w.heap.size ≤ j) ∧ Below w.heap.size w w' := by
  obtain ⟨A, G, T, L, I, J, n, capT, base, p, he, hn, hS, ht, ho, hb⟩ := h
  have hsm := hS.ar.small
  have hlen : (ws0 n).length = n := by simp [ws0]
  rw [hlen] at hsm
  exact ⟨A, G, T, L, I, J, n, capT, base, p, he, hn, ⟨n, _, _, _, _, 0, 0, hS, Held.start n _ rfl, hlen, hsm, Nat.le_refl _, Nat.le_refl _, fun _ _ => by simp⟩, ht, ho, hb⟩

/-- The document's config. -/
def exL : Cfg := ⟨1, 16, 1, 1, 0, 1, 1⟩
theorem exL_right : rightB exL.b exL.wd exL.m exL.r exL.ce exL.lg exL.st = true := by decide
theorem exL_own : ownB exL [0] 1 = true ∧ ownB exL [0] 3 = true := by decide
theorem exL_blk : kAt [0] (blk exL 1) = 0 ∧ kAt [0] (blk exL 3) = 0 := by decide
end Go.Proofs.YthpgnlcmpoldfaaGreatDoor.Lis

namespace Go.Proofs.YthpgnlcmpoldfaaGreatDoor.Lis
open Go.RowKit
open Class (isB isB_true isB_false is_any)
open Blk (Cfg TbIs ownB blk kAt rowB BytesP kL cellsK)
open Go.Proofs.YthpgnlcmpoldfaaGreatDoor.Row (Chg Rd Rd0 same_any cellsZ)
open Arena (ArIs Two)
open Bits (SetIs)
open Go.Proofs.YthpgnlcmpoldfaaGreatDoor.Addr (Tabs)

/-- Lists, above what lay, beside a table, and blocks that they leave alone. -/
structure Bun (S : Nat) (w wr : World) (L A G T I J n base : Nat) (ps : Nat → Option Addr) (hv : Nat → List Nat) (m bt : Nat) (c : Cfg) (ks : List Nat) (pt : Option Addr) (capT : Nat) (K : Nat → Prop) : Prop where
  has : HasL wr L A G T I J n base ps hv m
  tb : TbIs wr T bt c ks pt capT
  av : ∀ j, Own L A G I J ps j → ¬ K j ∧ S ≤ j
  kT : K T
  kR : ∀ g, rowB pt g → K g
  kl : ∀ j, K j → j < wr.heap.size
  bel : Below S w wr
section
variable {S : Nat} {w wr w' : World} {L A G T I J n base : Nat} {ps : Nat → Option Addr} {hv : Nat → List Nat} {m bt : Nat} {c : Cfg} {ks : List Nat} {pt : Option Addr} {capT : Nat} {K : Nat → Prop}
theorem Bun.step (h : Bun S w wr L A G T I J n base ps hv m bt c ks pt capT K) (hS : S ≤ w.heap.size) {ps' : Nat → Option Addr} {hv' : Nat → List Nat} {m' : Nat} (hh : HasL w' L A G T I J n base ps' hv' m') (hc : Chg (Own L A G I J ps) wr w')
    (hR : ∀ j, Own L A G I J ps' j → Own L A G I J ps j ∨ wr.heap.size ≤ j) : Bun S w w' L A G T I J n base ps' hv' m' bt c ks pt capT K :=
  ⟨hh, h.tb.kept (hc.block T h.tb.ltB (fun e => (h.av T e).1 h.kT)) (fun g hg => hc.block g (h.tb.ltG hg).2 (fun e => (h.av g e).1 (h.kR g hg))), fun j hj => (hR j hj).elim (h.av j) (fun e => ⟨fun hk => by have := h.kl j hk; omega, Nat.le_trans (Nat.le_trans hS h.bel.size) e⟩), h.kT, h.kR, fun j hj => Nat.lt_of_lt_of_le (h.kl j hj) hc.size,
    h.bel.trans (hc.below (fun k hk => (h.av k hk).2) (Nat.le_trans hS h.bel.size))⟩
theorem Bun.later (h : Bun S w wr L A G T I J n base ps hv m bt c ks pt capT K) (hS : S ≤ w.heap.size) (hb : Below wr.heap.size wr w') : Bun S w w' L A G T I J n base ps hv m bt c ks pt capT K :=
  h.step hS (h.has.later hb) (Chg.of_below hb) (fun _ e => .inl e)
/-- Other blocks to be left alone: new ones, too. -/
theorem Bun.keep (h : Bun S w wr L A G T I J n base ps hv m bt c ks pt capT K) {K' : Nat → Prop} (hT : K' T) (hp : ∀ g, rowB pt g → K' g) (hK : ∀ j, K' j → K j ∨ ¬ Own L A G I J ps j) (hl : ∀ j, K' j → j < wr.heap.size) : Bun S w wr L A G T I J n base ps hv m bt c ks pt capT K' :=
  ⟨h.has, h.tb, fun j hj => ⟨fun e => (hK j e).elim (h.av j hj).1 (fun e => e hj), (h.av j hj).2⟩, hT, hp, hl, h.bel⟩
end

theorem put_bun {S : Nat} {w wr : World} {L A G T I J n base : Nat} {ps : Nat → Option Addr} {hv : Nat → List Nat} {m bt : Nat} {c : Cfg} {ks : List Nat} {pt : Option Addr} {capT : Nat} {K : Nat → Prop} (h : Bun S w wr L A G T I J n base ps hv m bt c ks pt capT K) (hS : S ≤ w.heap.size) (hm : m < 100000) (htt : Tabs wr) (hR : rightB c.b c.wd c.m c.r c.ce c.lg c.st = true)
    (z : Int) (a k : Nat) (hz : z = (a : Int)) (ho : ownB c ks a = true) (hk : kAt ks (blk c a) = k) (hn : c.b * c.wd = (n : Int)) (hno : ∀ k, k < 4 → a ∉ hv k) :
    Calls Tryz.prog 220 #[.pointer (some ⟨L, 0, none⟩), .int .i64 z] wr fun e w' => e = .returned (.int .i64 0) ∧ ∃ ps', Bun S w w' L A G T I J n base ps' (upd hv k (a :: hv k)) (m + 1) bt c ks pt capT K ∧ Chg (Own L A G I J ps) wr w' := by
  subst hz hk
  refine (put_held wr h.has hm h.tb htt hR a ho hn hno).mono ?_
  rintro e w' ⟨rfl, ps', hh, hc, ho'⟩
  exact ⟨rfl, ps', h.step hS hh hc ho', hc⟩

end Go.Proofs.YthpgnlcmpoldfaaGreatDoor.Lis

namespace Go.Proofs.YthpgnlcmpoldfaaGreatDoor.Lis
open Go.RowKit
open Class (isB isB_true isB_false is_any sizI perI)
open Blk (Cfg TbIs ownB ownV ownV_yes ownV_no blk kAt rowB BytesP kL cellsK own_adr adr perN)
open Go.Proofs.YthpgnlcmpoldfaaGreatDoor.Row (Chg Rd Rd0 same_any cellsZ)
open Go.Proofs.YthpgnlcmpoldfaaGreatDoor.Addr (Tabs)

def cellsB (l : List Nat) : List Value := l.map fun n => .int .u8 ((n : Nat) : Int)
theorem infoByte : (Tryz.prog.info? 5).map (fun i => (i.zero, i.size, i.bytes)) = some (some (.int .u8 0), 1, 1) := by kernel_rfl
theorem run_append_none {P : Program} (w : World) (t ty e : TypeId) (i : TypeInfo) (ht : P.underlying t = some (.slice e)) (hi : P.info? e = some i) (b : Addr) (n cap c : Nat) (hle : n ≤ cap) :
    (Builtin.append_ #[t, t] ty #[.slice (some b) n cap, .slice none 0 c]).run P w = .ok (.slice (some b) n cap) w := by
  simp [Builtin.append_, run_underlying ht, sizeOf, typeInfo, hi, Builtin.lenOf, Builtin.firstCells, loadCells, storeCells, hle]
theorem run_append_bytes (w : World) (base : Nat) (i : TypeInfo) (hi : Tryz.prog.info? 5 = some i) (hz : i.zero = some (.int .u8 0)) (hs : i.size = 1) (hb : i.bytes = 1) (ty : TypeId) (g n cap : Nat) (xs : List Value) (hown : w.ownsRow base 5 1 (.slice (some ⟨g, 0, none⟩) n cap) n xs) (hnc : n ≤ cap)
    (S : Nat) (pa : Option Addr) (ca : Nat) (za : List Nat) (ha : BytesP S w pa za) (hl : n + za.length ≤ 140737488355328) (hpa : pa = none → za = []) (hbase : base ≤ w.heap.size) :
    ∃ v' w', (Builtin.append_ #[57, 57] ty #[.slice (some ⟨g, 0, none⟩) n cap, .slice pa za.length ca]).run Tryz.prog w = .ok v' w' ∧ w'.ownsRow base 5 1 v' (n + za.length) (xs ++ cellsB za) ∧ w.grownBy w' (Value.slice (some ⟨g, 0, none⟩) n cap).ownBlock := by
  cases pa with
  | none =>
    obtain rfl := hpa rfl
    exact ⟨_, w, run_append_none w _ _ _ i Tryz.underlying57 hi _ n cap ca hnc, by simpa [cellsB] using hown, ⟨rfl, rfl, rfl, Nat.le_refl _, fun _ _ _ => rfl⟩⟩
  | some ad =>
    obtain ⟨v', w', h1, h2, h3, _, _⟩ := run_append_own_at (P := Tryz.prog) w base 57 ty 5 i (.int .u8 0) 1 1 Tryz.underlying57 hi hz hs hb rfl (by decide) _ n xs hown ad za.length ca (cellsB za) (by simp [cellsB]) (fun j u hj => by
      have hjl : j < za.length := by have := (List.getElem?_eq_some_iff.1 hj).1; simpa [cellsB] using this
      obtain ⟨b, off, e, _, _, hc⟩ := ha j hjl
      cases e
      rw [Addr.add_lit, hc]
      simp only [cellsB, List.getElem?_map] at hj
      simp [hjl] at hj
      rw [← hj, List.getD_eq_getElem?_getD]
      simp [hjl]) (fun u hu => by obtain ⟨x, _, rfl⟩ := List.mem_map.1 hu; rfl) (by unfold maxLen; omega) (by omega) hbase
    exact ⟨v', w', h1, h2, h3⟩
/-- append of bytes, as one step of a region that draws. -/
theorem step_append_bytes {ops : Array Oper} {o : Oper} {a : Act} {w : World} {K : Act → World → Prop} {Q : Exit → Act → World → Prop} {E : Prop}
    (hg : o.guard = none) (s x : Operand) (hop : o.op = Op.call { callee := Callee.builtin Builtin.append, args := #[s, x], argTypes := #[57, 57] })
    (base : Nat) (i : TypeInfo) (hi : Tryz.prog.info? 5 = some i) (hz : i.zero = some (.int .u8 0)) (hs : i.size = 1) (hb : i.bytes = 1) (g n cap : Nat) (xs : List Value) (he : a.eval s = .slice (some ⟨g, 0, none⟩) n cap) (hown : w.ownsRow base 5 1 (.slice (some ⟨g, 0, none⟩) n cap) n xs) (hnc : n ≤ cap)
    (S : Nat) (pa : Option Addr) (ca : Nat) (za : List Nat) (hx : a.eval x = .slice pa za.length ca) (ha : BytesP S w pa za) (hl : n + za.length ≤ 140737488355328) (hpa : pa = none → za = []) (hbase : base ≤ w.heap.size)
    (hK : ∀ v' w', w'.ownsRow base 5 1 v' (n + za.length) (xs ++ cellsB za) → w.grownBy w' (Value.slice (some ⟨g, 0, none⟩) n cap).ownBlock → K (a.put o.dst v') w') :
    if Region.wanted o (yielded ops a.tmps) = true then Oper.wp Tryz.prog o a w K Q else E := by
  have hw : Region.wanted o (yielded ops a.tmps) = true := by simp [Region.wanted, hg]
  rw [if_pos hw]
  obtain ⟨v', w', hr, h2, h3⟩ := run_append_bytes w base i hi hz hs hb o.type g n cap xs hown hnc S pa ca za ha hl hpa hbase
  unfold Oper.wp execOp
  simp only [hop, resolve, invoke, builtin, Sem.run_bind, Sem.run_pure, Result.andThen_ok, List.map_toArray, List.map_cons, List.map_nil, he, hx, hr]
  exact hK _ _ h2 h3

theorem own_adr2 {c : Cfg} {ks : List Nat} {b i : Nat} (hR : rightB c.b c.wd c.m c.r c.ce c.lg c.st = true) (hb : b < ks.length) (hbb : (b : Int) < c.b) (hk : kAt ks b < 4) (hi : i < perN c (kAt ks b)) :
    ownB c ks (adr c (kAt ks b) b i) = true ∧ blk c (adr c (kAt ks b) b i) = b := by
  have h := own_adr hR hb hbb hk hi
  cases ho : ownB c ks (adr c (kAt ks b) b i) with
  | true =>
    refine ⟨rfl, ?_⟩
    rw [ownV_yes ho] at h
    simp only [Value.tuple.injEq, Array.mk.injEq, List.cons.injEq, Value.int.injEq] at h
    omega
  | false =>
    rw [ownV_no ho] at h
    simp at h
/-- A row of bytes that is owned reads so. -/
theorem bytes_of_owns {w : World} {base cap n : Nat} {p : Option Addr} {za : List Nat} (h : w.ownsRow base 5 1 (.slice p n cap) n (cellsB za)) (hz : ∀ z ∈ za, z < 256) : BytesP w.heap.size w p za := fun j hj => by
  have h' := h
  obtain ⟨h1, ⟨_, h2⟩ | ⟨g, c, cur, e1, r⟩⟩ := h
  · simp [cellsB] at h1; omega
  · cases e1
    have hc : w.cell? ⟨g, j, none⟩ = some (.int .u8 ((za.getD j 0 : Nat) : Int)) := Row.owns_cell h' j _ (by simp [cellsB, List.getD_eq_getElem?_getD, hj])
    refine ⟨g, 0, rfl, World.block_lt_of_cell? w _ hc, ?_, by rw [Nat.zero_add]; exact hc⟩
    rw [List.getD_eq_getElem?_getD]
    simp [hj, hz]
end Go.Proofs.YthpgnlcmpoldfaaGreatDoor.Lis
