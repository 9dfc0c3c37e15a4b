/-
  Base texts, one behind the other: BlkG BlkH BlkI BlkJ BlkL BlkM.
-/
import Derived.Test.YtipifkgmhgkleaaGreatDoorMzBk1
import Derived.Test.YtipifkgmhgkleaaGreatDoorMzAdr
import Derived.StillTailTactics
namespace Go.Proofs.YtipifkgmhgkleaaGreatDoor.Blk
open Go.RowKit Go.Shelf
open Class (isB isB_true isB_false sizI perI SizTab)
open Go.Proofs.YtipifkgmhgkleaaGreatDoor.Addr (Tabs)
attribute [local go_sem] Oper.semAt_some

theorem eql_func_nil (f : Fn) (xs ys : Array Value) (w : World) : (binOp .eql 372 (.func f xs ys) .nilFunc).run Tryz.prog w = .ok (.bool false) w := by
  have hu := Tryz.underlying372
  have h : ∀ d : Nat, (Op.equalIn (d + 1) 372 (.func f xs ys) .nilFunc).run Tryz.prog w = .ok false w := fun d => by
    simp [Op.equalIn, run_underlying hu]
  simp only [binOp]
  simp [Op.equal, Op.maxDepth, h 9999]

end Go.Proofs.YtipifkgmhgkleaaGreatDoor.Blk

namespace Go.Proofs.YtipifkgmhgkleaaGreatDoor.Blk
open Go.RowKit Go.Shelf
open Class (isB isB_true isB_false sizI perI SizTab)
open Go.Proofs.YtipifkgmhgkleaaGreatDoor.Addr (Tabs)

/-- The numbers for which something holds. -/
def pick (h : Nat → Bool) (m : Nat) : List Nat := (List.range m).filter h

/-- Is a block of a class? -/
def isOf (ks : List Nat) (k : Int) (b : Nat) : Bool := decide (b < ks.length) && (((kAt ks b : Nat) : Int) == k)

/-- The blocks of a class. -/
def ofK (c : Cfg) (ks : List Nat) (k : Int) : List Nat := pick (isOf ks k) c.b.toNat
/-- The blocks that aren't assigned. -/
def unK (c : Cfg) (ks : List Nat) : List Nat := pick (fun b => decide (ks.length ≤ b)) c.b.toNat

end Go.Proofs.YtipifkgmhgkleaaGreatDoor.Blk

namespace Go.Proofs.YtipifkgmhgkleaaGreatDoor.Blk
open Go.RowKit Go.Shelf
open Class (isB isB_true isB_false sizI perI SizTab)
open Go.Proofs.YtipifkgmhgkleaaGreatDoor.Addr (Tabs adrB adrB_true blockI blockI_yes blockI_no finB finB_true findV offI find_any block_any blkB_true adr_parts)

/-- The number of the block of an address. -/
def blk (c : Cfg) (a : Int) : Nat := ((a - 1) / c.wd).toNat
/-- Is there an owner? -/
def ownB (c : Cfg) (ks : List Nat) (a : Int) : Bool := adrB true c.b c.wd a && (decide (blk c a < ks.length) && (finB true c.b c.wd (kAt ks (blk c a)) a && (offI c.wd a % sizI (kAt ks (blk c a)) == 0)))
theorem ownB_true {c : Cfg} {ks : List Nat} {a : Int} : ownB c ks a = true ↔ adrB true c.b c.wd a = true ∧ blk c a < ks.length ∧ finB true c.b c.wd (kAt ks (blk c a)) a = true ∧ offI c.wd a % sizI (kAt ks (blk c a)) = 0 := by
  simp [ownB]
theorem ownB_no {c : Cfg} {ks : List Nat} {a : Int} (h : ¬ (adrB true c.b c.wd a = true ∧ blk c a < ks.length ∧ finB true c.b c.wd (kAt ks (blk c a)) a = true ∧ offI c.wd a % sizI (kAt ks (blk c a)) = 0)) : ownB c ks a = false := by
  rw [← Bool.not_eq_true, ownB_true]; exact h
/-- What is told of an address. -/
def ownV (c : Cfg) (ks : List Nat) (a : Int) : Value := .tuple #[.int .i64 ((if ownB c ks a = true then blk c a else 0 : Nat) : Int), .int .i64 ((if ownB c ks a = true then kAt ks (blk c a) else 0 : Nat) : Int), .bool (ownB c ks a)]
def OwnIs (w : World) (v : Value) (e : Ending) (w' : World) : Prop := e = .returned v ∧ Below w.heap.size w w'
theorem ownV_no {c : Cfg} {ks : List Nat} {a : Int} (h : ownB c ks a = false) : ownV c ks a = .tuple #[.int .i64 0, .int .i64 0, .bool false] := by simp [ownV, h]
theorem ownV_yes {c : Cfg} {ks : List Nat} {a : Int} (h : ownB c ks a = true) : ownV c ks a = .tuple #[.int .i64 (blk c a), .int .i64 (kAt ks (blk c a)), .bool true] := by simp [ownV, h]

set_option maxHeartbeats 2000000 in
theorem owner_1a {B base cap : Nat} {c : Cfg} {ks : List Nat} {p : Option Addr} (a : Int) (w : World) (h : TbIs w B base c ks p cap) (ht : Tabs w) (hR : rightB c.b c.wd c.m c.r c.ce c.lg c.st = true) (hA : adrB true c.b c.wd a = false) (hk : ks.length = 0) :
    Calls Tryz.prog 336 #[.pointer (some ⟨B, 0, none⟩), .int .i64 a] w (OwnIs w (.tuple #[.int .i64 0, .int .i64 0, .bool false])) := by
  have HT := Lib.hid ht
  have HS := Lib.hid h
  have HA := Lib.hid hA
  have HRR := Lib.hid hR
  have HQ := Lib.hid (blockI_no hA)
  clear ht h hA hR
  go_enter Tryz.func336, Tryz.ntmps336
  go_wp2_with (go_at_call 82; refine (config_any _ HS.out).mono ?_; rintro e w1 ⟨rfl, hb1⟩)
  have HT1 := Lib.hid (HT.out.later hb1)
  have HS1 := Lib.hid (HS.out.later hb1)
  have HB1 := Lib.hid hb1
  clear hb1
  refine (block_any _ _ _ _ _ _ _ _ _ HT1.out.lim).mono ?_
  rintro e w2 ⟨rfl, hb2⟩
  rw [HRR.out, HA.out, HQ.out]
  have HT2 := Lib.hid (HT1.out.later hb2)
  have HS2 := Lib.hid (HS1.out.later hb2)
  have HB2 := Lib.hid (HB1.out.trans (hb2.mono HB1.out.size))
  clear hb2
  go_wp2_with (go_at_call 332; refine (class_out 0 w2 HS2.out (.inr (by omega))).mono ?_; rintro e w' ⟨rfl, rfl⟩)
  exact bodyPost_ret (v := .tuple #[.int .i64 0, .int .i64 0, .bool false]) (by simp [results, Tryz.results336, go_sem]) rfl ⟨rfl, HB2.out⟩

set_option maxHeartbeats 2000000 in
theorem owner_1b {B base cap : Nat} {c : Cfg} {ks : List Nat} {p : Option Addr} (a : Int) (w : World) (h : TbIs w B base c ks p cap) (ht : Tabs w) (hR : rightB c.b c.wd c.m c.r c.ce c.lg c.st = true) (hA : adrB true c.b c.wd a = false) (hk : 0 < ks.length) :
    Calls Tryz.prog 336 #[.pointer (some ⟨B, 0, none⟩), .int .i64 a] w (OwnIs w (.tuple #[.int .i64 0, .int .i64 0, .bool false])) := by
  have HT := Lib.hid ht
  have HS := Lib.hid h
  have HA := Lib.hid hA
  have HRR := Lib.hid hR
  have HQ := Lib.hid (blockI_no hA)
  clear ht h hA hR
  go_enter Tryz.func336, Tryz.ntmps336
  go_wp2_with (go_at_call 82; refine (config_any _ HS.out).mono ?_; rintro e w1 ⟨rfl, hb1⟩)
  have HT1 := Lib.hid (HT.out.later hb1)
  have HS1 := Lib.hid (HS.out.later hb1)
  have HB1 := Lib.hid hb1
  clear hb1
  refine (block_any _ _ _ _ _ _ _ _ _ HT1.out.lim).mono ?_
  rintro e w2 ⟨rfl, hb2⟩
  rw [HRR.out, HA.out, HQ.out]
  have HT2 := Lib.hid (HT1.out.later hb2)
  have HS2 := Lib.hid (HS1.out.later hb2)
  have HB2 := Lib.hid (HB1.out.trans (hb2.mono HB1.out.size))
  clear hb2
  go_wp2_with (go_at_call 332; refine (class_in 0 w2 HS2.out hk).mono ?_; rintro e w' ⟨rfl, rfl⟩)
  exact bodyPost_ret (v := .tuple #[.int .i64 0, .int .i64 0, .bool false]) (by simp [results, Tryz.results336, go_sem]) rfl ⟨rfl, HB2.out⟩

set_option maxHeartbeats 2000000 in
theorem owner_2 {B base cap : Nat} {c : Cfg} {ks : List Nat} {p : Option Addr} (a : Int) (w : World) (h : TbIs w B base c ks p cap) (ht : Tabs w) (hR : rightB c.b c.wd c.m c.r c.ce c.lg c.st = true) (hA : adrB true c.b c.wd a = true) (hd : 0 ≤ (a - 1) / c.wd) (hk : ks.length ≤ blk c a) :
    Calls Tryz.prog 336 #[.pointer (some ⟨B, 0, none⟩), .int .i64 a] w (OwnIs w (.tuple #[.int .i64 0, .int .i64 0, .bool false])) := by
  have HT := Lib.hid ht
  have HS := Lib.hid h
  have HA := Lib.hid hA
  have HRR := Lib.hid hR
  have HQ := Lib.hid (show blockI true c.b c.wd a = ((blk c a : Nat) : Int) by rw [blockI_yes hA]; unfold blk; omega)
  clear ht h hA hR
  go_enter Tryz.func336, Tryz.ntmps336
  go_wp2_with (go_at_call 82; refine (config_any _ HS.out).mono ?_; rintro e w1 ⟨rfl, hb1⟩)
  have HT1 := Lib.hid (HT.out.later hb1)
  have HS1 := Lib.hid (HS.out.later hb1)
  have HB1 := Lib.hid hb1
  clear hb1
  refine (block_any _ _ _ _ _ _ _ _ _ HT1.out.lim).mono ?_
  rintro e w2 ⟨rfl, hb2⟩
  rw [HRR.out, HA.out, HQ.out]
  have HT2 := Lib.hid (HT1.out.later hb2)
  have HS2 := Lib.hid (HS1.out.later hb2)
  have HB2 := Lib.hid (HB1.out.trans (hb2.mono HB1.out.size))
  clear hb2
  go_wp2_with (go_at_call 332; refine (class_out _ w2 HS2.out (.inr (by omega))).mono ?_; rintro e w' ⟨rfl, rfl⟩)
  exact bodyPost_ret (v := .tuple #[.int .i64 0, .int .i64 0, .bool false]) (by simp [results, Tryz.results336, go_sem]) rfl ⟨rfl, HB2.out⟩

set_option maxHeartbeats 2000000 in
theorem owner_3 {B base cap : Nat} {c : Cfg} {ks : List Nat} {p : Option Addr} (a : Int) (w : World) (h : TbIs w B base c ks p cap) (ht : Tabs w) (hR : rightB c.b c.wd c.m c.r c.ce c.lg c.st = true) (hA : adrB true c.b c.wd a = true) (hd : 0 ≤ (a - 1) / c.wd) (hk : blk c a < ks.length) (hf : finB true c.b c.wd (kAt ks (blk c a)) a = false) :
    Calls Tryz.prog 336 #[.pointer (some ⟨B, 0, none⟩), .int .i64 a] w (OwnIs w (.tuple #[.int .i64 0, .int .i64 0, .bool false])) := by
  have HT := Lib.hid ht
  have HS := Lib.hid h
  have HA := Lib.hid hA
  have HRR := Lib.hid hR
  have HQ := Lib.hid (show blockI true c.b c.wd a = ((blk c a : Nat) : Int) by rw [blockI_yes hA]; unfold blk; omega)
  have HF := Lib.hid hf
  have HV := Lib.hid (show findV true c.b c.wd (kAt ks (blk c a)) a = (0, 0, 0) from if_neg (by rw [hf]; decide))
  clear ht h hA hR
  go_enter Tryz.func336, Tryz.ntmps336
  go_wp2_with (go_at_call 82; refine (config_any _ HS.out).mono ?_; rintro e w1 ⟨rfl, hb1⟩)
  have HT1 := Lib.hid (HT.out.later hb1)
  have HS1 := Lib.hid (HS.out.later hb1)
  have HB1 := Lib.hid hb1
  clear hb1
  refine (block_any _ _ _ _ _ _ _ _ _ HT1.out.lim).mono ?_
  rintro e w2 ⟨rfl, hb2⟩
  rw [HRR.out, HA.out, HQ.out]
  have HT2 := Lib.hid (HT1.out.later hb2)
  have HS2 := Lib.hid (HS1.out.later hb2)
  have HB2 := Lib.hid (HB1.out.trans (hb2.mono HB1.out.size))
  clear hb2
  have k0 := HS2.out.c0
  have k1 := HS2.out.c1
  have k2 := HS2.out.c2
  have k3 := HS2.out.c3
  have k4 := HS2.out.c4
  have k5 := HS2.out.c5
  have k6 := HS2.out.c6
  go_wp2_with (go_at_call 332; refine (class_in _ w2 HS2.out hk).mono ?_; rintro e w' ⟨rfl, rfl⟩)
  refine (find_any _ _ _ _ _ _ _ _ _ _ HT2.out).mono ?_
  rintro e w3 ⟨rfl, hb3⟩
  rw [HRR.out, HF.out, HV.out]
  have hz : w2.heap.size ≤ w3.heap.size := hb3.size
  have HB3 := Lib.hid (HB2.out.trans (hb3.mono HB2.out.size))
  have hz3 : w.heap.size ≤ w3.heap.size := HB3.out.size
  clear hb3
  go_wp2
  first
    | exact bodyPost_ret (v := .tuple #[.int .i64 0, .int .i64 0, .bool false]) (by simp [results, Tryz.results336, go_sem]) rfl ⟨rfl, ((((HB3.out.alloc (by omega) _).setCell (by simp; omega) _).setCell (by simp; omega) _).setCell (by simp; omega) _)⟩
    | exact bodyPost_ret (v := .tuple #[.int .i64 0, .int .i64 0, .bool false]) (by simp [results, Tryz.results336, go_sem]) rfl ⟨rfl, (HB3.out.alloc (by omega) _)⟩

set_option maxHeartbeats 2000000 in
theorem owner_4 {B base cap : Nat} {c : Cfg} {ks : List Nat} {p : Option Addr} (a : Int) (w : World) (h : TbIs w B base c ks p cap) (ht : Tabs w) (hR : rightB c.b c.wd c.m c.r c.ce c.lg c.st = true) (hA : adrB true c.b c.wd a = true) (hd : 0 ≤ (a - 1) / c.wd) (hk : blk c a < ks.length) (hf : finB true c.b c.wd (kAt ks (blk c a)) a = true) (hw : (offI c.wd a % sizI (kAt ks (blk c a)) != 0) = true) :
    Calls Tryz.prog 336 #[.pointer (some ⟨B, 0, none⟩), .int .i64 a] w (OwnIs w (.tuple #[.int .i64 0, .int .i64 0, .bool false])) := by
  have HT := Lib.hid ht
  have HS := Lib.hid h
  have HA := Lib.hid hA
  have HRR := Lib.hid hR
  have HQ := Lib.hid (show blockI true c.b c.wd a = ((blk c a : Nat) : Int) by rw [blockI_yes hA]; unfold blk; omega)
  have HF := Lib.hid hf
  have HV := Lib.hid (show findV true c.b c.wd (kAt ks (blk c a)) a = ((a - 1) / c.wd, offI c.wd a / sizI (kAt ks (blk c a)), offI c.wd a % sizI (kAt ks (blk c a))) from if_pos hf)
  clear ht h hA hR
  go_enter Tryz.func336, Tryz.ntmps336
  go_wp2_with (go_at_call 82; refine (config_any _ HS.out).mono ?_; rintro e w1 ⟨rfl, hb1⟩)
  have HT1 := Lib.hid (HT.out.later hb1)
  have HS1 := Lib.hid (HS.out.later hb1)
  have HB1 := Lib.hid hb1
  clear hb1
  refine (block_any _ _ _ _ _ _ _ _ _ HT1.out.lim).mono ?_
  rintro e w2 ⟨rfl, hb2⟩
  rw [HRR.out, HA.out, HQ.out]
  have HT2 := Lib.hid (HT1.out.later hb2)
  have HS2 := Lib.hid (HS1.out.later hb2)
  have HB2 := Lib.hid (HB1.out.trans (hb2.mono HB1.out.size))
  clear hb2
  have k0 := HS2.out.c0
  have k1 := HS2.out.c1
  have k2 := HS2.out.c2
  have k3 := HS2.out.c3
  have k4 := HS2.out.c4
  have k5 := HS2.out.c5
  have k6 := HS2.out.c6
  go_wp2_with (go_at_call 332; refine (class_in _ w2 HS2.out hk).mono ?_; rintro e w' ⟨rfl, rfl⟩)
  refine (find_any _ _ _ _ _ _ _ _ _ _ HT2.out).mono ?_
  rintro e w3 ⟨rfl, hb3⟩
  rw [HRR.out, HF.out, HV.out]
  have hz : w2.heap.size ≤ w3.heap.size := hb3.size
  have HB3 := Lib.hid (HB2.out.trans (hb3.mono HB2.out.size))
  have hz3 : w.heap.size ≤ w3.heap.size := HB3.out.size
  clear hb3
  go_wp2
  first
    | exact bodyPost_ret (v := .tuple #[.int .i64 0, .int .i64 0, .bool false]) (by simp [results, Tryz.results336, go_sem]) rfl ⟨rfl, ((((HB3.out.alloc (by omega) _).setCell (by simp; omega) _).setCell (by simp; omega) _).setCell (by simp; omega) _)⟩
    | exact bodyPost_ret (v := .tuple #[.int .i64 0, .int .i64 0, .bool false]) (by simp [results, Tryz.results336, go_sem]) rfl ⟨rfl, (HB3.out.alloc (by omega) _)⟩

set_option maxHeartbeats 2000000 in
theorem owner_5 {B base cap : Nat} {c : Cfg} {ks : List Nat} {p : Option Addr} (a : Int) (w : World) (h : TbIs w B base c ks p cap) (ht : Tabs w) (hR : rightB c.b c.wd c.m c.r c.ce c.lg c.st = true) (hA : adrB true c.b c.wd a = true) (hd : 0 ≤ (a - 1) / c.wd) (hk : blk c a < ks.length) (hf : finB true c.b c.wd (kAt ks (blk c a)) a = true) (hw : (offI c.wd a % sizI (kAt ks (blk c a)) != 0) = false) :
    Calls Tryz.prog 336 #[.pointer (some ⟨B, 0, none⟩), .int .i64 a] w (OwnIs w (.tuple #[.int .i64 (blk c a), .int .i64 (kAt ks (blk c a)), .bool true])) := by
  have HT := Lib.hid ht
  have HS := Lib.hid h
  have HA := Lib.hid hA
  have HRR := Lib.hid hR
  have HQ := Lib.hid (show blockI true c.b c.wd a = ((blk c a : Nat) : Int) by rw [blockI_yes hA]; unfold blk; omega)
  have HF := Lib.hid hf
  have HV := Lib.hid (show findV true c.b c.wd (kAt ks (blk c a)) a = ((a - 1) / c.wd, offI c.wd a / sizI (kAt ks (blk c a)), offI c.wd a % sizI (kAt ks (blk c a))) from if_pos hf)
  clear ht h hA hR
  go_enter Tryz.func336, Tryz.ntmps336
  go_wp2_with (go_at_call 82; refine (config_any _ HS.out).mono ?_; rintro e w1 ⟨rfl, hb1⟩)
  have HT1 := Lib.hid (HT.out.later hb1)
  have HS1 := Lib.hid (HS.out.later hb1)
  have HB1 := Lib.hid hb1
  clear hb1
  refine (block_any _ _ _ _ _ _ _ _ _ HT1.out.lim).mono ?_
  rintro e w2 ⟨rfl, hb2⟩
  rw [HRR.out, HA.out, HQ.out]
  have HT2 := Lib.hid (HT1.out.later hb2)
  have HS2 := Lib.hid (HS1.out.later hb2)
  have HB2 := Lib.hid (HB1.out.trans (hb2.mono HB1.out.size))
  clear hb2
  have k0 := HS2.out.c0
  have k1 := HS2.out.c1
  have k2 := HS2.out.c2
  have k3 := HS2.out.c3
  have k4 := HS2.out.c4
  have k5 := HS2.out.c5
  have k6 := HS2.out.c6
  go_wp2_with (go_at_call 332; refine (class_in _ w2 HS2.out hk).mono ?_; rintro e w' ⟨rfl, rfl⟩)
  refine (find_any _ _ _ _ _ _ _ _ _ _ HT2.out).mono ?_
  rintro e w3 ⟨rfl, hb3⟩
  rw [HRR.out, HF.out, HV.out]
  have hz : w2.heap.size ≤ w3.heap.size := hb3.size
  have HB3 := Lib.hid (HB2.out.trans (hb3.mono HB2.out.size))
  have hz3 : w.heap.size ≤ w3.heap.size := HB3.out.size
  clear hb3
  go_wp2
  first
    | exact bodyPost_ret (v := .tuple #[.int .i64 (blk c a), .int .i64 (kAt ks (blk c a)), .bool true]) (by simp [results, Tryz.results336, go_sem]) rfl ⟨rfl, ((((HB3.out.alloc (by omega) _).setCell (by simp; omega) _).setCell (by simp; omega) _).setCell (by simp; omega) _)⟩
    | exact bodyPost_ret (v := .tuple #[.int .i64 (blk c a), .int .i64 (kAt ks (blk c a)), .bool true]) (by simp [results, Tryz.results336, go_sem]) rfl ⟨rfl, (HB3.out.alloc (by omega) _)⟩

theorem owner_any {B base cap : Nat} {c : Cfg} {ks : List Nat} {p : Option Addr} (a : Int) (w : World) (h : TbIs w B base c ks p cap) (ht : Tabs w) (hR : rightB c.b c.wd c.m c.r c.ce c.lg c.st = true) :
    Calls Tryz.prog 336 #[.pointer (some ⟨B, 0, none⟩), .int .i64 a] w (OwnIs w (ownV c ks a)) := by
  have hRC : RightC c.b c.wd c.m c.r c.ce c.lg c.st := refRightB_true.1 ((rightB_ref ..).symm.trans hR)
  by_cases hA : adrB true c.b c.wd a = true
  · obtain ⟨_, h1, h2⟩ := adrB_true.1 hA
    have hd := (blkB_true.1 (adr_parts hRC h1 h2).1).1
    by_cases hk : blk c a < ks.length
    · by_cases hf : finB true c.b c.wd (kAt ks (blk c a)) a = true
      · by_cases hw : offI c.wd a % sizI (kAt ks (blk c a)) = 0
        · rw [ownV_yes (ownB_true.2 ⟨hA, hk, hf, hw⟩)]
          exact owner_5 a w h ht hR hA hd hk hf (by simp [hw])
        · rw [ownV_no (ownB_no (fun x => hw x.2.2.2))]
          exact owner_4 a w h ht hR hA hd hk hf (by simp [hw])
      · rw [ownV_no (ownB_no (fun x => hf x.2.2.1))]
        exact owner_3 a w h ht hR hA hd hk (by simpa using hf)
    · rw [ownV_no (ownB_no (fun x => hk x.2.1))]
      exact owner_2 a w h ht hR hA hd (by omega)
  · rw [ownV_no (ownB_no (fun x => hA x.1))]
    have hA : adrB true c.b c.wd a = false := by simpa using hA
    rcases Nat.eq_zero_or_pos ks.length with hk | hk
    · exact owner_1a a w h ht hR hA hk
    · exact owner_1b a w h ht hR hA hk
end Go.Proofs.YtipifkgmhgkleaaGreatDoor.Blk

namespace Go.Proofs.YtipifkgmhgkleaaGreatDoor.Blk
open Go.RowKit Go.Shelf
open Class (isB isB_true isB_false sizI perI SizTab)
open Go.Proofs.YtipifkgmhgkleaaGreatDoor.Addr (Tabs)

theorem tmod_fix (x n : Int) (hn : 0 < n) : (x.tmod n + n).tmod n = x % n := by
  have h1 := Int.tmod_lt_of_pos x hn
  have h2 : -n < x.tmod n := Int.lt_tmod_of_pos x hn
  rw [Int.tmod_eq_emod_of_nonneg (by omega), Int.add_emod_right]
  conv => rhs; rw [← Int.tmod_add_mul_tdiv x n, Int.add_mul_emod_self_left]

set_option maxHeartbeats 400000 in
theorem mod_any (x n : Int) (w : World) (h0 : 0 < n) (h1 : n ≤ 64) : Calls Tryz.prog 43 #[.int .i64 x, .int .i64 n] w fun e w' => e = .returned (.int .i64 (x % n)) ∧ w = w' := by
  have hf := tmod_fix x n h0
  have a1 := Int.tmod_lt_of_pos x h0
  have a2 : -n < x.tmod n := Int.lt_tmod_of_pos x h0
  have a3 := Int.emod_nonneg x (show n ≠ 0 by omega)
  have a4 := Int.emod_lt_of_pos x h0
  have hz : (n == 0) = false := by simp; omega
  have hw1 : IntKind.i64.wrap (x.tmod n) = x.tmod n := IntWalk.i64_in _ (by omega)
  have hw2 : IntKind.i64.wrap (x.tmod n + n) = x.tmod n + n := IntWalk.i64_in _ (by omega)
  have hw3 : IntKind.i64.wrap (x % n) = x % n := IntWalk.i64_in _ (by omega)
  go_enter Tryz.func43, Tryz.ntmps43
  go_wp2
  go_ret
  exact ⟨rfl, rfl⟩

/-- A small config. -/
def little (c : Cfg) : Cfg := ⟨1 + c.b % 4, 16 + c.wd % 20, 1 + c.m % 4, 1 + c.r % 5, c.ce % 4, 1 + c.lg % 4, 1 + c.st % 4⟩
theorem little_right (c : Cfg) : rightB (little c).b (little c).wd (little c).m (little c).r (little c).ce (little c).lg (little c).st = true := by
  rw [rightB_ref, refRightB_true]
  have h : ∀ x n : Int, 0 < n → 0 ≤ x % n ∧ x % n < n := fun x n h => ⟨Int.emod_nonneg x (by omega), Int.emod_lt_of_pos x h⟩
  have := h c.b 4 (by decide)
  have := h c.wd 20 (by decide)
  have := h c.m 4 (by decide)
  have := h c.r 5 (by decide)
  have := h c.ce 4 (by decide)
  have := h c.lg 4 (by decide)
  have := h c.st 4 (by decide)
  unfold little
  constructor <;> dsimp only <;> omega

/-- A config's box, and one behind it. -/
theorem cfg_boxes {w W0 : World} {t : TypeId} {vs : Array Value} {o : Obj} (hW : (w.alloc (.cells vs t)).alloc o = W0) :
    W0.heap.size = w.heap.size + 2 ∧ Below w.heap.size w W0 ∧ (∀ j v, vs[j]? = some v → W0.cell? ⟨w.heap.size, j, none⟩ = some v) ∧ W0.heap[w.heap.size + 1]? = some o := by
  subst hW
  refine ⟨by simp, ((Below.refl _ _).alloc (Nat.le_refl _) _).alloc (by simp) _, fun j v h => ?_, ?_⟩
  · refine Lib.cell?_alloc_some _ ?_
    have e : (w.alloc (.cells vs t)).heap[w.heap.size]? = some (.cells vs t) := World.alloc_heap_new w _
    unfold World.cell?
    rw [show (⟨w.heap.size, j, none⟩ : Addr).block = w.heap.size from rfl, e]
    exact h
  · have := World.alloc_heap_new (w.alloc (.cells vs t)) o
    rwa [World.size_alloc] at this

set_option maxRecDepth 100000 in
set_option maxHeartbeats 4000000 in
theorem little_any (c : Cfg) (w : World) : Calls Tryz.prog 11 #[(.agg #[.int .i64 c.b, .int .i64 c.wd, .int .i64 c.m, .int .i64 c.r, .int .i64 c.ce, .int .i64 c.lg, .int .i64 c.st])] w fun e w' => e = .returned (.agg #[.int .i64 (little c).b, .int .i64 (little c).wd, .int .i64 (little c).m, .int .i64 (little c).r, .int .i64 (little c).ce, .int .i64 (little c).lg, .int .i64 (little c).st]) ∧ Below w.heap.size w w' := by
  have hm : ∀ (x n : Int) (w : World), 0 < n → n ≤ 64 → Calls Tryz.prog 43 #[.int .i64 x, .int .i64 n] w fun e w' => e = .returned (.int .i64 (x % n)) ∧ w' = w := fun x n w h0 h1 => (mod_any x n w h0 h1).mono fun _ _ h => ⟨h.1, h.2.symm⟩
  have HM := Lib.hid hm
  clear hm
  go_enter Tryz.func11, Tryz.ntmps11
  go_wp2
  generalize hW : World.alloc _ _ = W0
  obtain ⟨hs0, hb0, hcs, hnew⟩ := cfg_boxes hW
  have k0 := hcs 0 _ rfl
  have k1 := hcs 1 _ rfl
  have k2 := hcs 2 _ rfl
  have k3 := hcs 3 _ rfl
  have k4 := hcs 4 _ rfl
  have k5 := hcs 5 _ rfl
  have k6 := hcs 6 _ rfl
  have n0 : ∀ j, j < 7 → W0.cell? ⟨w.heap.size + 1, j, none⟩ = some (.int .i64 0) := fun j hj => by
    unfold World.cell?
    rw [show (⟨w.heap.size + 1, j, none⟩ : Addr).block = w.heap.size + 1 from rfl, hnew]
    have : j = 0 ∨ j = 1 ∨ j = 2 ∨ j = 3 ∨ j = 4 ∨ j = 5 ∨ j = 6 := by omega
    rcases this with rfl | rfl | rfl | rfl | rfl | rfl | rfl <;> rfl
  have nf : ∀ j, W0.frozen? ⟨w.heap.size + 1, j, none⟩ = false := fun j => by
    unfold World.frozen?
    rw [show (⟨w.heap.size + 1, j, none⟩ : Addr).block = w.heap.size + 1 from rfl, hnew]
    simp
  clear hW hcs hnew
  go_still_tail 28, (by kernel_rfl)
  still_call (HM.out _ _ _ (by decide) (by decide))
  repeat still_step
  still_call (HM.out _ _ _ (by decide) (by decide))
  repeat still_step
  still_call (HM.out _ _ _ (by decide) (by decide))
  repeat still_step
  still_call (HM.out _ _ _ (by decide) (by decide))
  repeat still_step
  still_call (HM.out _ _ _ (by decide) (by decide))
  repeat still_step
  still_call (HM.out _ _ _ (by decide) (by decide))
  repeat still_step
  still_call (HM.out _ _ _ (by decide) (by decide))
  repeat still_step
  refine wpStill_nil ?_
  change wpList _ _ _ _ _ W0.drew
  have z0 := n0 0 (by decide)
  have z1 := n0 1 (by decide)
  have z2 := n0 2 (by decide)
  have z3 := n0 3 (by decide)
  have z4 := n0 4 (by decide)
  have z5 := n0 5 (by decide)
  have z6 := n0 6 (by decide)
  clear n0
  go_wp2
  refine bodyPost_ret (v := .agg #[.int .i64 (little c).b, .int .i64 (little c).wd, .int .i64 (little c).m, .int .i64 (little c).r, .int .i64 (little c).ce, .int .i64 (little c).lg, .int .i64 (little c).st]) (by simp [results, Tryz.results11, go_sem, little, z0, z1, z2, z3, z4, z5, z6]) rfl ⟨rfl, ?_⟩
  exact below_drew (((((((hb0.setCell (by simp) _).setCell (by simp) _).setCell (by simp) _).setCell (by simp) _).setCell (by simp) _).setCell (by simp) _).setCell (by simp) _)

/-- The example's config. -/
def exC : Cfg := ⟨2, 16, 1, 1, 0, 1, 1⟩

end Go.Proofs.YtipifkgmhgkleaaGreatDoor.Blk

namespace Go.Proofs.YtipifkgmhgkleaaGreatDoor.Blk
open Go.RowKit Go.Shelf
open Go.Proofs.YtipifkgmhgkleaaGreatDoor.Addr (Tabs)

/-- A config laid into its box. -/
structure BoxIs (W : World) (S : Nat) (d : Cfg) : Prop where
  b0 : W.cell? ⟨S, 0, none⟩ = some (.int .i64 d.b)
  b1 : W.cell? ⟨S, 1, none⟩ = some (.int .i64 d.wd)
  b2 : W.cell? ⟨S, 2, none⟩ = some (.int .i64 d.m)
  b3 : W.cell? ⟨S, 3, none⟩ = some (.int .i64 d.r)
  b4 : W.cell? ⟨S, 4, none⟩ = some (.int .i64 d.ce)
  b5 : W.cell? ⟨S, 5, none⟩ = some (.int .i64 d.lg)
  b6 : W.cell? ⟨S, 6, none⟩ = some (.int .i64 d.st)
theorem BoxIs.below {n S : Nat} {W W' : World} {d : Cfg} (h : BoxIs W S d) (hb : Below n W W') (hS : S < n) : BoxIs W' S d :=
  ⟨(hb.cell (p := ⟨S, 0, none⟩) hS).trans h.b0, (hb.cell (p := ⟨S, 1, none⟩) hS).trans h.b1, (hb.cell (p := ⟨S, 2, none⟩) hS).trans h.b2, (hb.cell (p := ⟨S, 3, none⟩) hS).trans h.b3, (hb.cell (p := ⟨S, 4, none⟩) hS).trans h.b4, (hb.cell (p := ⟨S, 5, none⟩) hS).trans h.b5, (hb.cell (p := ⟨S, 6, none⟩) hS).trans h.b6⟩
theorem BoxIs.lt {S : Nat} {W : World} {d : Cfg} (h : BoxIs W S d) : S < W.heap.size := World.block_lt_of_cell? W _ h.b0
theorem BoxIs.later {S : Nat} {W W' : World} {d : Cfg} (h : BoxIs W S d) (hb : Below W.heap.size W W') : BoxIs W' S d := h.below hb h.lt

/-- What is kept of a table that nobody turns. -/
theorem TbIs.chg {S : Nat → Prop} {w w' : World} {B base cap : Nat} {c : Cfg} {ks : List Nat} {p : Option Addr} (h : TbIs w B base c ks p cap) (hc : Chg S w w') (hS : ∀ k, S k → k < base) : TbIs w' B base c ks p cap :=
  h.kept (hc.block B h.ltB (fun e => by have := hS _ e; have := h.base; omega)) (fun g hg => hc.block g (h.ltG hg).2 (fun e => by have := hS _ e; have := (h.ltG hg).1; omega))

theorem assign_goodZ {B base cap : Nat} {c : Cfg} {ks : List Nat} {p : Option Addr} (z : Int) (k : Nat) (hz : z = (k : Int)) (w : World) (h : TbIs w B base c ks p cap) (hk : k < 4) (hf : (ks.length : Int) < c.b) (hcb : c.b ≤ 4096) (hbase : base ≤ w.heap.size) :
    Calls Tryz.prog 295 #[.pointer (some ⟨B, 0, none⟩), .int .i64 z] w fun e w' => e = .returned (.tuple #[.int .i64 ks.length, .int .i64 0]) ∧
      ∃ p' cap', TbIs w' B base c (ks ++ [k]) p' cap' ∧ Chg (fun i => i = B ∨ rowB p i) w w' ∧ ∀ i, rowB p' i → rowB p i ∨ w.heap.size ≤ i := by
  subst hz
  exact assign_good k w h hk hf hcb hbase

end Go.Proofs.YtipifkgmhgkleaaGreatDoor.Blk

namespace Go.Proofs.YtipifkgmhgkleaaGreatDoor.Blk
open Go.RowKit Go.Shelf
open Go.Proofs.YtipifkgmhgkleaaGreatDoor.Addr (Tabs adrB adrB_true finB finB_true offI)
open Class (isB isB_true sizI perI  quiet_left)

/-- The bytes of a row that came in, below S. -/
def BytesP (S : Nat) (W : World) (p : Option Addr) (zs : List Nat) : Prop := ∀ j, j < zs.length → ∃ b off, p = some ⟨b, off, none⟩ ∧ b < S ∧ zs.getD j 0 < 256 ∧ W.cell? ⟨b, off + j, none⟩ = some (.int .u8 ((zs.getD j 0 : Nat) : Int))
theorem BytesP.below {S : Nat} {W W' : World} {p : Option Addr} {zs : List Nat} (h : BytesP S W p zs) (hb : Below S W W') : BytesP S W' p zs := fun j hj => by
  obtain ⟨b, off, e, hb', hz, hc⟩ := h j hj
  exact ⟨b, off, e, hb', hz, (hb.cell (p := ⟨b, off + j, none⟩) hb').trans hc⟩

/-- The first classes, as many as there are blocks. -/
def kL (f : Nat → Nat) (m nb : Nat) : List Nat := (List.range (min m nb)).map f
theorem kL_len (f : Nat → Nat) (m nb : Nat) : (kL f m nb).length = min m nb := by simp [kL]
theorem kL_more (f : Nat → Nat) {m nb : Nat} (h : m < nb) : kL f (m + 1) nb = kL f m nb ++ [f m] := by
  unfold kL
  rw [show min (m + 1) nb = m + 1 from by omega, show min m nb = m from by omega, List.range_succ]
  simp
theorem kL_full (f : Nat → Nat) {m nb : Nat} (h : nb ≤ m) : kL f (m + 1) nb = kL f m nb := by
  unfold kL
  rw [show min (m + 1) nb = nb from by omega, show min m nb = nb from by omega]

/-- A slot's owner is the block whose slot it is. -/
theorem own_adr {c : Cfg} {ks : List Nat} {b i : Nat} (hR : rightB c.b c.wd c.m c.r c.ce c.lg c.st = true) (hb : b < ks.length) (hbb : (b : Int) < c.b) (hk : kAt ks b < 4) (hi : i < perN c (kAt ks b)) :
    ownV c ks (adr c (kAt ks b) b i) = .tuple #[.int .i64 (b : Int), .int .i64 (kAt ks b), .bool true] := by
  have hRC : RightC c.b c.wd c.m c.r c.ce c.lg c.st := refRightB_true.1 ((rightB_ref ..).symm.trans hR)
  have hpi := perN_eq c (kAt ks b)
  obtain ⟨⟨p0, p1⟩, p2, p3, p4, p5⟩ := adr_bd (k := (kAt ks b : Int)) hR hbb (i := i) (by rw [hpi]; exact Int.ofNat_lt.2 hi)
  have hw0 := hRC.wd0
  have e1 : adr c (kAt ks b) b i - 1 = (i : Int) * sizI (kAt ks b) + (b : Int) * c.wd := by unfold adr; omega
  have e2 : (adr c (kAt ks b) b i - 1) / c.wd = (b : Int) := by
    rw [e1, Int.add_mul_ediv_right _ _ (by omega), Int.ediv_eq_zero_of_lt p2 (by omega)]; simp
  have e3 : offI c.wd (adr c (kAt ks b) b i) = (i : Int) * sizI (kAt ks b) := by
    unfold offI
    rw [e1, Int.add_mul_emod_self_right, Int.emod_eq_of_lt p2 (by omega)]
  have hblk : blk c (adr c (kAt ks b) b i) = b := by unfold blk; rw [e2]; simp
  have hmul : ((b : Int) + 1) * c.wd ≤ c.b * c.wd := Int.mul_le_mul_of_nonneg_right (by omega) (by omega)
  have hexp : ((b : Int) + 1) * c.wd = (b : Int) * c.wd + c.wd := by rw [Int.add_mul, Int.one_mul]
  have hA : adrB true c.b c.wd (adr c (kAt ks b) b i) = true := adrB_true.2 ⟨rfl, by omega, by omega⟩
  have hB : isB (kAt ks b : Int) = true := isB_true.2 ⟨by omega, by omega⟩
  have hF : finB true c.b c.wd (kAt ks b) (adr c (kAt ks b) b i) = true := finB_true.2 ⟨hA, hB, by rw [e3, Int.mul_ediv_cancel _ (by omega), hpi]; exact Int.ofNat_lt.2 hi⟩
  rw [ownV_yes (ownB_true.2 ⟨hA, by rw [hblk]; exact hb, by rw [hblk]; exact hF, by rw [hblk, e3, Int.mul_emod_left]⟩), hblk]

theorem slots_bd {c : Cfg} (hR : rightB c.b c.wd c.m c.r c.ce c.lg c.st = true) : RightC c.b c.wd c.m c.r c.ce c.lg c.st := refRightB_true.1 ((rightB_ref ..).symm.trans hR)

end Go.Proofs.YtipifkgmhgkleaaGreatDoor.Blk
