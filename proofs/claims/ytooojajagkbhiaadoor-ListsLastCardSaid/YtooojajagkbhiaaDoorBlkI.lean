/-
  (*block.Table).Owner, of every address, of every table and of none.
-/
import Derived.Test.YtooojajagkbhiaaDoorBlkH
import Derived.Test.YtooojajagkbhiaaDoorAddrD
namespace Go.Proofs.YtooojajagkbhiaaDoor.Blk
open Go.RowKit Go.Shelf
open Class (isB isB_true isB_false sizI perI SizTab)
open Go.Proofs.YtooojajagkbhiaaDoor.Addr (Tabs adrB adrB_true blockI blockI_yes blockI_no finB finB_true findV offI find_any block_any blkB_true adr_parts)

/-- The number of the block of an address. -/
def blk (c : Cfg) (a : Int) : Nat := ((a - 1) / c.wd).toNat
/-- Is there an owner? -/
def ownB (c : Cfg) (ks : List Nat) (a : Int) : Bool := adrB true c.b c.wd a && (decide (blk c a < ks.length) && (finB true c.b c.wd (kAt ks (blk c a)) a && (offI c.wd a % sizI (kAt ks (blk c a)) == 0)))
theorem ownB_true {c : Cfg} {ks : List Nat} {a : Int} : ownB c ks a = true ↔ adrB true c.b c.wd a = true ∧ blk c a < ks.length ∧ finB true c.b c.wd (kAt ks (blk c a)) a = true ∧ offI c.wd a % sizI (kAt ks (blk c a)) = 0 := by
  simp [ownB]
theorem ownB_no {c : Cfg} {ks : List Nat} {a : Int} (h : ¬ (adrB true c.b c.wd a = true ∧ blk c a < ks.length ∧ finB true c.b c.wd (kAt ks (blk c a)) a = true ∧ offI c.wd a % sizI (kAt ks (blk c a)) = 0)) : ownB c ks a = false := by
  rw [← Bool.not_eq_true, ownB_true]; exact h
/-- What is told of an address. -/
def ownV (c : Cfg) (ks : List Nat) (a : Int) : Value := .tuple #[.int .i64 ((if ownB c ks a = true then blk c a else 0 : Nat) : Int), .int .i64 ((if ownB c ks a = true then kAt ks (blk c a) else 0 : Nat) : Int), .bool (ownB c ks a)]
def OwnIs (w : World) (v : Value) (e : Ending) (w' : World) : Prop := e = .returned v ∧ Below w.heap.size w w'
theorem ownV_no {c : Cfg} {ks : List Nat} {a : Int} (h : ownB c ks a = false) : ownV c ks a = .tuple #[.int .i64 0, .int .i64 0, .bool false] := by simp [ownV, h]
theorem ownV_yes {c : Cfg} {ks : List Nat} {a : Int} (h : ownB c ks a = true) : ownV c ks a = .tuple #[.int .i64 (blk c a), .int .i64 (kAt ks (blk c a)), .bool true] := by simp [ownV, h]

set_option maxHeartbeats 1000000 in
theorem owner_nil (a : Int) (w : World) (ht : Tabs w) : Calls Tryd.prog 11 #[.pointer none, .int .i64 a] w fun e w' => e = .returned (.tuple #[.int .i64 0, .int .i64 0, .bool false]) ∧ Below w.heap.size w w' := by
  have hA : adrB (rightB 0 0 0 0 0 0 0) 0 0 a = false := by
    have : rightB 0 0 0 0 0 0 0 = false := by decide
    rw [this]; rfl
  have HA := Lib.hid hA
  have HQ := Lib.hid (blockI_no hA)
  have HT := Lib.hid ht
  clear ht hA
  go_enter Tryd.func11, Tryd.ntmps11
  go_wp2_with (go_at_call 33; refine (config_nil _).mono ?_; rintro e w1 ⟨rfl, hb1⟩)
  have HT1 := Lib.hid (HT.out.later hb1)
  have HB1 := Lib.hid hb1
  clear hb1
  refine (block_any _ _ _ _ _ _ _ _ _ HT1.out.lim).mono ?_
  rintro e w2 ⟨rfl, hb2⟩
  rw [HA.out, HQ.out]
  have HB2 := Lib.hid (HB1.out.trans (hb2.mono HB1.out.size))
  clear hb2
  go_wp2_with (go_at_call 34; refine (class_nil _ _).mono ?_; rintro e w' ⟨rfl, rfl⟩)
  exact bodyPost_ret (v := .tuple #[.int .i64 0, .int .i64 0, .bool false]) (by simp [results, Tryd.results11, go_sem]) rfl ⟨rfl, HB2.out⟩

set_option maxHeartbeats 2000000 in
theorem owner_1a {B base cap : Nat} {c : Cfg} {ks : List Nat} {p : Option Addr} (a : Int) (w : World) (h : TbIs w B base c ks p cap) (ht : Tabs w) (hR : rightB c.b c.wd c.m c.r c.ce c.lg c.st = true) (hA : adrB true c.b c.wd a = false) (hk : ks.length = 0) :
    Calls Tryd.prog 11 #[.pointer (some ⟨B, 0, none⟩), .int .i64 a] w (OwnIs w (.tuple #[.int .i64 0, .int .i64 0, .bool false])) := by
  have HT := Lib.hid ht
  have HS := Lib.hid h
  have HA := Lib.hid hA
  have HRR := Lib.hid hR
  have HQ := Lib.hid (blockI_no hA)
  clear ht h hA hR
  go_enter Tryd.func11, Tryd.ntmps11
  go_wp2_with (go_at_call 33; refine (config_any _ HS.out).mono ?_; rintro e w1 ⟨rfl, hb1⟩)
  have HT1 := Lib.hid (HT.out.later hb1)
  have HS1 := Lib.hid (HS.out.later hb1)
  have HB1 := Lib.hid hb1
  clear hb1
  refine (block_any _ _ _ _ _ _ _ _ _ HT1.out.lim).mono ?_
  rintro e w2 ⟨rfl, hb2⟩
  rw [HRR.out, HA.out, HQ.out]
  have HT2 := Lib.hid (HT1.out.later hb2)
  have HS2 := Lib.hid (HS1.out.later hb2)
  have HB2 := Lib.hid (HB1.out.trans (hb2.mono HB1.out.size))
  clear hb2
  go_wp2_with (go_at_call 34; refine (class_out 0 w2 HS2.out (.inr (by omega))).mono ?_; rintro e w' ⟨rfl, rfl⟩)
  exact bodyPost_ret (v := .tuple #[.int .i64 0, .int .i64 0, .bool false]) (by simp [results, Tryd.results11, go_sem]) rfl ⟨rfl, HB2.out⟩

set_option maxHeartbeats 2000000 in
theorem owner_1b {B base cap : Nat} {c : Cfg} {ks : List Nat} {p : Option Addr} (a : Int) (w : World) (h : TbIs w B base c ks p cap) (ht : Tabs w) (hR : rightB c.b c.wd c.m c.r c.ce c.lg c.st = true) (hA : adrB true c.b c.wd a = false) (hk : 0 < ks.length) :
    Calls Tryd.prog 11 #[.pointer (some ⟨B, 0, none⟩), .int .i64 a] w (OwnIs w (.tuple #[.int .i64 0, .int .i64 0, .bool false])) := by
  have HT := Lib.hid ht
  have HS := Lib.hid h
  have HA := Lib.hid hA
  have HRR := Lib.hid hR
  have HQ := Lib.hid (blockI_no hA)
  clear ht h hA hR
  go_enter Tryd.func11, Tryd.ntmps11
  go_wp2_with (go_at_call 33; refine (config_any _ HS.out).mono ?_; rintro e w1 ⟨rfl, hb1⟩)
  have HT1 := Lib.hid (HT.out.later hb1)
  have HS1 := Lib.hid (HS.out.later hb1)
  have HB1 := Lib.hid hb1
  clear hb1
  refine (block_any _ _ _ _ _ _ _ _ _ HT1.out.lim).mono ?_
  rintro e w2 ⟨rfl, hb2⟩
  rw [HRR.out, HA.out, HQ.out]
  have HT2 := Lib.hid (HT1.out.later hb2)
  have HS2 := Lib.hid (HS1.out.later hb2)
  have HB2 := Lib.hid (HB1.out.trans (hb2.mono HB1.out.size))
  clear hb2
  go_wp2_with (go_at_call 34; refine (class_in 0 w2 HS2.out hk).mono ?_; rintro e w' ⟨rfl, rfl⟩)
  exact bodyPost_ret (v := .tuple #[.int .i64 0, .int .i64 0, .bool false]) (by simp [results, Tryd.results11, go_sem]) rfl ⟨rfl, HB2.out⟩

set_option maxHeartbeats 2000000 in
theorem owner_2 {B base cap : Nat} {c : Cfg} {ks : List Nat} {p : Option Addr} (a : Int) (w : World) (h : TbIs w B base c ks p cap) (ht : Tabs w) (hR : rightB c.b c.wd c.m c.r c.ce c.lg c.st = true) (hA : adrB true c.b c.wd a = true) (hd : 0 ≤ (a - 1) / c.wd) (hk : ks.length ≤ blk c a) :
    Calls Tryd.prog 11 #[.pointer (some ⟨B, 0, none⟩), .int .i64 a] w (OwnIs w (.tuple #[.int .i64 0, .int .i64 0, .bool false])) := by
  have HT := Lib.hid ht
  have HS := Lib.hid h
  have HA := Lib.hid hA
  have HRR := Lib.hid hR
  have HQ := Lib.hid (show blockI true c.b c.wd a = ((blk c a : Nat) : Int) by rw [blockI_yes hA]; unfold blk; omega)
  clear ht h hA hR
  go_enter Tryd.func11, Tryd.ntmps11
  go_wp2_with (go_at_call 33; refine (config_any _ HS.out).mono ?_; rintro e w1 ⟨rfl, hb1⟩)
  have HT1 := Lib.hid (HT.out.later hb1)
  have HS1 := Lib.hid (HS.out.later hb1)
  have HB1 := Lib.hid hb1
  clear hb1
  refine (block_any _ _ _ _ _ _ _ _ _ HT1.out.lim).mono ?_
  rintro e w2 ⟨rfl, hb2⟩
  rw [HRR.out, HA.out, HQ.out]
  have HT2 := Lib.hid (HT1.out.later hb2)
  have HS2 := Lib.hid (HS1.out.later hb2)
  have HB2 := Lib.hid (HB1.out.trans (hb2.mono HB1.out.size))
  clear hb2
  go_wp2_with (go_at_call 34; refine (class_out _ w2 HS2.out (.inr (by omega))).mono ?_; rintro e w' ⟨rfl, rfl⟩)
  exact bodyPost_ret (v := .tuple #[.int .i64 0, .int .i64 0, .bool false]) (by simp [results, Tryd.results11, go_sem]) rfl ⟨rfl, HB2.out⟩

set_option maxHeartbeats 2000000 in
theorem owner_3 {B base cap : Nat} {c : Cfg} {ks : List Nat} {p : Option Addr} (a : Int) (w : World) (h : TbIs w B base c ks p cap) (ht : Tabs w) (hR : rightB c.b c.wd c.m c.r c.ce c.lg c.st = true) (hA : adrB true c.b c.wd a = true) (hd : 0 ≤ (a - 1) / c.wd) (hk : blk c a < ks.length) (hf : finB true c.b c.wd (kAt ks (blk c a)) a = false) :
    Calls Tryd.prog 11 #[.pointer (some ⟨B, 0, none⟩), .int .i64 a] w (OwnIs w (.tuple #[.int .i64 0, .int .i64 0, .bool false])) := by
  have HT := Lib.hid ht
  have HS := Lib.hid h
  have HA := Lib.hid hA
  have HRR := Lib.hid hR
  have HQ := Lib.hid (show blockI true c.b c.wd a = ((blk c a : Nat) : Int) by rw [blockI_yes hA]; unfold blk; omega)
  have HF := Lib.hid hf
  have HV := Lib.hid (show findV true c.b c.wd (kAt ks (blk c a)) a = (0, 0, 0) from if_neg (by rw [hf]; decide))
  clear ht h hA hR
  go_enter Tryd.func11, Tryd.ntmps11
  go_wp2_with (go_at_call 33; refine (config_any _ HS.out).mono ?_; rintro e w1 ⟨rfl, hb1⟩)
  have HT1 := Lib.hid (HT.out.later hb1)
  have HS1 := Lib.hid (HS.out.later hb1)
  have HB1 := Lib.hid hb1
  clear hb1
  refine (block_any _ _ _ _ _ _ _ _ _ HT1.out.lim).mono ?_
  rintro e w2 ⟨rfl, hb2⟩
  rw [HRR.out, HA.out, HQ.out]
  have HT2 := Lib.hid (HT1.out.later hb2)
  have HS2 := Lib.hid (HS1.out.later hb2)
  have HB2 := Lib.hid (HB1.out.trans (hb2.mono HB1.out.size))
  clear hb2
  have k0 := HS2.out.c0
  have k1 := HS2.out.c1
  have k2 := HS2.out.c2
  have k3 := HS2.out.c3
  have k4 := HS2.out.c4
  have k5 := HS2.out.c5
  have k6 := HS2.out.c6
  go_wp2_with (go_at_call 34; refine (class_in _ w2 HS2.out hk).mono ?_; rintro e w' ⟨rfl, rfl⟩)
  refine (find_any _ _ _ _ _ _ _ _ _ _ HT2.out).mono ?_
  rintro e w3 ⟨rfl, hb3⟩
  rw [HRR.out, HF.out, HV.out]
  have hz : w2.heap.size ≤ w3.heap.size := hb3.size
  have HB3 := Lib.hid (HB2.out.trans (hb3.mono HB2.out.size))
  have hz3 : w.heap.size ≤ w3.heap.size := HB3.out.size
  clear hb3
  go_wp2
  first
    | exact bodyPost_ret (v := .tuple #[.int .i64 0, .int .i64 0, .bool false]) (by simp [results, Tryd.results11, go_sem]) rfl ⟨rfl, ((((HB3.out.alloc (by omega) _).setCell (by simp; omega) _).setCell (by simp; omega) _).setCell (by simp; omega) _)⟩
    | exact bodyPost_ret (v := .tuple #[.int .i64 0, .int .i64 0, .bool false]) (by simp [results, Tryd.results11, go_sem]) rfl ⟨rfl, (HB3.out.alloc (by omega) _)⟩

set_option maxHeartbeats 2000000 in
theorem owner_4 {B base cap : Nat} {c : Cfg} {ks : List Nat} {p : Option Addr} (a : Int) (w : World) (h : TbIs w B base c ks p cap) (ht : Tabs w) (hR : rightB c.b c.wd c.m c.r c.ce c.lg c.st = true) (hA : adrB true c.b c.wd a = true) (hd : 0 ≤ (a - 1) / c.wd) (hk : blk c a < ks.length) (hf : finB true c.b c.wd (kAt ks (blk c a)) a = true) (hw : (offI c.wd a % sizI (kAt ks (blk c a)) != 0) = true) :
    Calls Tryd.prog 11 #[.pointer (some ⟨B, 0, none⟩), .int .i64 a] w (OwnIs w (.tuple #[.int .i64 0, .int .i64 0, .bool false])) := by
  have HT := Lib.hid ht
  have HS := Lib.hid h
  have HA := Lib.hid hA
  have HRR := Lib.hid hR
  have HQ := Lib.hid (show blockI true c.b c.wd a = ((blk c a : Nat) : Int) by rw [blockI_yes hA]; unfold blk; omega)
  have HF := Lib.hid hf
  have HV := Lib.hid (show findV true c.b c.wd (kAt ks (blk c a)) a = ((a - 1) / c.wd, offI c.wd a / sizI (kAt ks (blk c a)), offI c.wd a % sizI (kAt ks (blk c a))) from if_pos hf)
  clear ht h hA hR
  go_enter Tryd.func11, Tryd.ntmps11
  go_wp2_with (go_at_call 33; refine (config_any _ HS.out).mono ?_; rintro e w1 ⟨rfl, hb1⟩)
  have HT1 := Lib.hid (HT.out.later hb1)
  have HS1 := Lib.hid (HS.out.later hb1)
  have HB1 := Lib.hid hb1
  clear hb1
  refine (block_any _ _ _ _ _ _ _ _ _ HT1.out.lim).mono ?_
  rintro e w2 ⟨rfl, hb2⟩
  rw [HRR.out, HA.out, HQ.out]
  have HT2 := Lib.hid (HT1.out.later hb2)
  have HS2 := Lib.hid (HS1.out.later hb2)
  have HB2 := Lib.hid (HB1.out.trans (hb2.mono HB1.out.size))
  clear hb2
  have k0 := HS2.out.c0
  have k1 := HS2.out.c1
  have k2 := HS2.out.c2
  have k3 := HS2.out.c3
  have k4 := HS2.out.c4
  have k5 := HS2.out.c5
  have k6 := HS2.out.c6
  go_wp2_with (go_at_call 34; refine (class_in _ w2 HS2.out hk).mono ?_; rintro e w' ⟨rfl, rfl⟩)
  refine (find_any _ _ _ _ _ _ _ _ _ _ HT2.out).mono ?_
  rintro e w3 ⟨rfl, hb3⟩
  rw [HRR.out, HF.out, HV.out]
  have hz : w2.heap.size ≤ w3.heap.size := hb3.size
  have HB3 := Lib.hid (HB2.out.trans (hb3.mono HB2.out.size))
  have hz3 : w.heap.size ≤ w3.heap.size := HB3.out.size
  clear hb3
  go_wp2
  first
    | exact bodyPost_ret (v := .tuple #[.int .i64 0, .int .i64 0, .bool false]) (by simp [results, Tryd.results11, go_sem]) rfl ⟨rfl, ((((HB3.out.alloc (by omega) _).setCell (by simp; omega) _).setCell (by simp; omega) _).setCell (by simp; omega) _)⟩
    | exact bodyPost_ret (v := .tuple #[.int .i64 0, .int .i64 0, .bool false]) (by simp [results, Tryd.results11, go_sem]) rfl ⟨rfl, (HB3.out.alloc (by omega) _)⟩

set_option maxHeartbeats 2000000 in
theorem owner_5 {B base cap : Nat} {c : Cfg} {ks : List Nat} {p : Option Addr} (a : Int) (w : World) (h : TbIs w B base c ks p cap) (ht : Tabs w) (hR : rightB c.b c.wd c.m c.r c.ce c.lg c.st = true) (hA : adrB true c.b c.wd a = true) (hd : 0 ≤ (a - 1) / c.wd) (hk : blk c a < ks.length) (hf : finB true c.b c.wd (kAt ks (blk c a)) a = true) (hw : (offI c.wd a % sizI (kAt ks (blk c a)) != 0) = false) :
    Calls Tryd.prog 11 #[.pointer (some ⟨B, 0, none⟩), .int .i64 a] w (OwnIs w (.tuple #[.int .i64 (blk c a), .int .i64 (kAt ks (blk c a)), .bool true])) := by
  have HT := Lib.hid ht
  have HS := Lib.hid h
  have HA := Lib.hid hA
  have HRR := Lib.hid hR
  have HQ := Lib.hid (show blockI true c.b c.wd a = ((blk c a : Nat) : Int) by rw [blockI_yes hA]; unfold blk; omega)
  have HF := Lib.hid hf
  have HV := Lib.hid (show findV true c.b c.wd (kAt ks (blk c a)) a = ((a - 1) / c.wd, offI c.wd a / sizI (kAt ks (blk c a)), offI c.wd a % sizI (kAt ks (blk c a))) from if_pos hf)
  clear ht h hA hR
  go_enter Tryd.func11, Tryd.ntmps11
  go_wp2_with (go_at_call 33; refine (config_any _ HS.out).mono ?_; rintro e w1 ⟨rfl, hb1⟩)
  have HT1 := Lib.hid (HT.out.later hb1)
  have HS1 := Lib.hid (HS.out.later hb1)
  have HB1 := Lib.hid hb1
  clear hb1
  refine (block_any _ _ _ _ _ _ _ _ _ HT1.out.lim).mono ?_
  rintro e w2 ⟨rfl, hb2⟩
  rw [HRR.out, HA.out, HQ.out]
  have HT2 := Lib.hid (HT1.out.later hb2)
  have HS2 := Lib.hid (HS1.out.later hb2)
  have HB2 := Lib.hid (HB1.out.trans (hb2.mono HB1.out.size))
  clear hb2
  have k0 := HS2.out.c0
  have k1 := HS2.out.c1
  have k2 := HS2.out.c2
  have k3 := HS2.out.c3
  have k4 := HS2.out.c4
  have k5 := HS2.out.c5
  have k6 := HS2.out.c6
  go_wp2_with (go_at_call 34; refine (class_in _ w2 HS2.out hk).mono ?_; rintro e w' ⟨rfl, rfl⟩)
  refine (find_any _ _ _ _ _ _ _ _ _ _ HT2.out).mono ?_
  rintro e w3 ⟨rfl, hb3⟩
  rw [HRR.out, HF.out, HV.out]
  have hz : w2.heap.size ≤ w3.heap.size := hb3.size
  have HB3 := Lib.hid (HB2.out.trans (hb3.mono HB2.out.size))
  have hz3 : w.heap.size ≤ w3.heap.size := HB3.out.size
  clear hb3
  go_wp2
  first
    | exact bodyPost_ret (v := .tuple #[.int .i64 (blk c a), .int .i64 (kAt ks (blk c a)), .bool true]) (by simp [results, Tryd.results11, go_sem]) rfl ⟨rfl, ((((HB3.out.alloc (by omega) _).setCell (by simp; omega) _).setCell (by simp; omega) _).setCell (by simp; omega) _)⟩
    | exact bodyPost_ret (v := .tuple #[.int .i64 (blk c a), .int .i64 (kAt ks (blk c a)), .bool true]) (by simp [results, Tryd.results11, go_sem]) rfl ⟨rfl, (HB3.out.alloc (by omega) _)⟩

theorem owner_any {B base cap : Nat} {c : Cfg} {ks : List Nat} {p : Option Addr} (a : Int) (w : World) (h : TbIs w B base c ks p cap) (ht : Tabs w) (hR : rightB c.b c.wd c.m c.r c.ce c.lg c.st = true) :
    Calls Tryd.prog 11 #[.pointer (some ⟨B, 0, none⟩), .int .i64 a] w (OwnIs w (ownV c ks a)) := by
  have hRC : RightC c.b c.wd c.m c.r c.ce c.lg c.st := refRightB_true.1 ((rightB_ref ..).symm.trans hR)
  by_cases hA : adrB true c.b c.wd a = true
  · obtain ⟨_, h1, h2⟩ := adrB_true.1 hA
    have hd := (blkB_true.1 (adr_parts hRC h1 h2).1).1
    by_cases hk : blk c a < ks.length
    · by_cases hf : finB true c.b c.wd (kAt ks (blk c a)) a = true
      · by_cases hw : offI c.wd a % sizI (kAt ks (blk c a)) = 0
        · rw [ownV_yes (ownB_true.2 ⟨hA, hk, hf, hw⟩)]
          exact owner_5 a w h ht hR hA hd hk hf (by simp [hw])
        · rw [ownV_no (ownB_no (fun x => hw x.2.2.2))]
          exact owner_4 a w h ht hR hA hd hk hf (by simp [hw])
      · rw [ownV_no (ownB_no (fun x => hf x.2.2.1))]
        exact owner_3 a w h ht hR hA hd hk (by simpa using hf)
    · rw [ownV_no (ownB_no (fun x => hk x.2.1))]
      exact owner_2 a w h ht hR hA hd (by omega)
  · rw [ownV_no (ownB_no (fun x => hA x.1))]
    have hA : adrB true c.b c.wd a = false := by simpa using hA
    rcases Nat.eq_zero_or_pos ks.length with hk | hk
    · exact owner_1a a w h ht hR hA hk
    · exact owner_1b a w h ht hR hA hk
end Go.Proofs.YtooojajagkbhiaaDoor.Blk
