/-
  Put, of lists that are there, at every number.
-/
import Derived.Test.YtooojajagkbhiaaDoorBlkI
import Derived.Test.YtooojajagkbhiaaDoorLisC
namespace Go.Proofs.YtooojajagkbhiaaDoor.Lis
open Go.RowKit
open Class (isB isB_true isB_false is_any)
open Blk (Cfg TbIs ret_int ret_bool other same ownB ownV ownV_no ownV_yes owner_any blk kAt OwnIs)
open Go.Proofs.YtooojajagkbhiaaDoor.Row (Chg)
open Arena (ArIs Two)
open Bits (SetIs)
open Go.Proofs.YtooojajagkbhiaaDoor.Addr (Tabs)

theorem two_new {w : World} (u v : Value) (s t : TypeId) : Below w.heap.size w ((w.alloc (.cells #[u] s)).alloc (.cells #[v] t)) := ((Below.refl _ _).alloc (Nat.le_refl _) _).alloc (by simp) _

set_option maxRecDepth 100000 in
set_option maxHeartbeats 1000000 in
theorem put_odd {L A G T I J cap capS base capT : Nat} {baseL : Nat} {ps : Nat → Option Addr} {cs : Nat → Nat} {rv : Nat → List Nat} {ws sw : List Nat} {ld st : Nat} {c : Cfg} {ks : List Nat} {pt : Option Addr} (w : World) (h : Sit w L A G T I J cap capS baseL ps cs rv ws sw ld st) (ht : TbIs w T base c ks pt capT) (htt : Tabs w) (hR : rightB c.b c.wd c.m c.r c.ce c.lg c.st = true) (a : Int) (ho : ownB c ks a = false) :
    Calls Tryd.prog 12 #[.pointer (some ⟨L, 0, none⟩), .int .i64 a] w fun e w' => e = .returned (.int .i64 1) ∧ Below w.heap.size w w' := by
  have hct := h.ls.ct
  have hL := h.ls.lt
  have hno := ownV_no ho
  have hn1 : L ≠ w.heap.size := by omega
  have hn2 : L ≠ w.heap.size + 1 := by omega
  have HTT := Lib.hid (fun (W : World) (hb : Below w.heap.size w W) => htt.later hb)
  have HTB := Lib.hid (fun (W : World) (hb : Below w.heap.size w W) => ht.later hb)
  clear h ht htt
  go_enter Tryd.func12, Tryd.ntmps12
  go_wp2
  obtain ⟨wx, hwx⟩ : ∃ wx, wx = (w.alloc (.cells #[.pointer (some ⟨L, 0, none⟩)] 30)).alloc (.cells #[.int .i64 a] 3) := ⟨_, rfl⟩
  rw [← hwx]
  have hb : Below w.heap.size w wx := by rw [hwx]; exact two_new ..
  have hp : wx.cell? ⟨w.heap.size, 0, none⟩ = some (.pointer (some ⟨L, 0, none⟩)) := by rw [hwx]; simp
  have hq : wx.cell? ⟨w.heap.size + 1, 0, none⟩ = some (.int .i64 a) := by rw [hwx]; simp
  have hcx : wx.cell? ⟨L, 1, none⟩ = some (.pointer (some ⟨T, 0, none⟩)) := (hb.cell (p := ⟨L, 1, none⟩) hL).trans hct
  have hsz : wx.heap.size = w.heap.size + 2 := by rw [hwx]; simp
  clear hwx
  have HK0 := Lib.hid (show wx.drew.cell? ⟨w.heap.size, 0, none⟩ = some (.pointer (some ⟨L, 0, none⟩)) ∧ wx.drew.cell? ⟨w.heap.size + 1, 0, none⟩ = some (.int .i64 a) ∧ wx.drew.cell? ⟨L, 1, none⟩ = some (.pointer (some ⟨T, 0, none⟩)) from ⟨hp, hq, hcx⟩)
  have HK1 := Lib.hid (fun (W : World) (h2 : Below wx.heap.size wx W) => (⟨(h2.cell (p := ⟨w.heap.size, 0, none⟩) (by show w.heap.size < _; omega)).trans hp, (h2.cell (p := ⟨w.heap.size + 1, 0, none⟩) (by show w.heap.size + 1 < _; omega)).trans hq, (h2.cell (p := ⟨L, 1, none⟩) (by show L < _; omega)).trans hcx⟩ : W.cell? ⟨w.heap.size, 0, none⟩ = some (.pointer (some ⟨L, 0, none⟩)) ∧ W.cell? ⟨w.heap.size + 1, 0, none⟩ = some (.int .i64 a) ∧ W.cell? ⟨L, 1, none⟩ = some (.pointer (some ⟨T, 0, none⟩))))
  go_region_held3 (fun W => W.cell? ⟨w.heap.size, 0, none⟩ = some (.pointer (some ⟨L, 0, none⟩)) ∧ W.cell? ⟨w.heap.size + 1, 0, none⟩ = some (.int .i64 a) ∧ W.cell? ⟨L, 1, none⟩ = some (.pointer (some ⟨T, 0, none⟩)))
    (first | exact HK0.out | assumption | exact HK1.out _ hb2)
    (first | (go_at_call 11; refine (owner_any a _ ((HTB.out wx hb).drewN 1) ((HTT.out wx hb).drewN 1) hR).mono ?_; rintro e w2 ⟨rfl, hb2'⟩; have hb2 : Below wx.heap.size wx w2 := ⟨hb2'.os, hb2'.tape, hb2'.output, hb2'.size, hb2'.block⟩; rw [hno]))
  have hS2 : w2.cell? ⟨w.heap.size, 0, none⟩ = some (.pointer (some ⟨L, 0, none⟩)) ∧ w2.cell? ⟨w.heap.size + 1, 0, none⟩ = some (.int .i64 a) ∧ w2.cell? ⟨L, 1, none⟩ = some (.pointer (some ⟨T, 0, none⟩)) := by assumption
  obtain ⟨hp2, hq2, _⟩ := hS2
  have HB2 := Lib.hid (hb.trans (hb2.mono hb.size))
  clear HK0 HK1 hb2' hb2 hb hct hcx hp hq
  go_wp2
  go_ret
  exact ⟨rfl, HB2.out⟩

set_option maxRecDepth 100000 in
set_option maxHeartbeats 1000000 in
theorem put_have {L A G T I J cap capS base capT : Nat} {baseL : Nat} {ps : Nat → Option Addr} {cs : Nat → Nat} {rv : Nat → List Nat} {ws sw : List Nat} {ld st : Nat} {c : Cfg} {ks : List Nat} {pt : Option Addr} (w : World) (h : Sit w L A G T I J cap capS baseL ps cs rv ws sw ld st) (ht : TbIs w T base c ks pt capT) (htt : Tabs w) (hR : rightB c.b c.wd c.m c.r c.ce c.lg c.st = true) (a : Nat) (ho : ownB c ks a = true) (ha : a ≤ ws.length) (hin : hasB sw a = true) :
    Calls Tryd.prog 12 #[.pointer (some ⟨L, 0, none⟩), .int .i64 a] w fun e w' => e = .returned (.int .i64 11) ∧ Below w.heap.size w w' := by
  have hct := h.ls.ct
  have hL := h.ls.lt
  have hno := ownV_yes ho
  have hn1 : L ≠ w.heap.size := by omega
  have hn2 : L ≠ w.heap.size + 1 := by omega
  have HTT := Lib.hid (fun (W : World) (hb : Below w.heap.size w W) => htt.later hb)
  have HTB := Lib.hid (fun (W : World) (hb : Below w.heap.size w W) => ht.later hb)
  have hk4 : kAt ks (blk c a) < 4 := ht.kLt _
  have HS := Lib.hid h
  clear h ht htt
  obtain ⟨k, hke⟩ : ∃ k, k = kAt ks (blk c a) := ⟨_, rfl⟩
  rw [← hke] at hk4 hno
  clear hke
  have hi := isB_true.2 ⟨Int.natCast_nonneg k, by omega⟩
  have i1 : (0 : Int) ≤ (k : Int) := Int.natCast_nonneg _
  have i2 : (k : Int) < 4 := by omega
  go_enter Tryd.func12, Tryd.ntmps12
  go_wp2
  obtain ⟨wx, hwx⟩ : ∃ wx, wx = (w.alloc (.cells #[.pointer (some ⟨L, 0, none⟩)] 30)).alloc (.cells #[.int .i64 a] 3) := ⟨_, rfl⟩
  rw [← hwx]
  have hb : Below w.heap.size w wx := by rw [hwx]; exact two_new ..
  have hp : wx.cell? ⟨w.heap.size, 0, none⟩ = some (.pointer (some ⟨L, 0, none⟩)) := by rw [hwx]; simp
  have hq : wx.cell? ⟨w.heap.size + 1, 0, none⟩ = some (.int .i64 a) := by rw [hwx]; simp
  have hcx : wx.cell? ⟨L, 1, none⟩ = some (.pointer (some ⟨T, 0, none⟩)) := (hb.cell (p := ⟨L, 1, none⟩) hL).trans hct
  have hsz : wx.heap.size = w.heap.size + 2 := by rw [hwx]; simp
  clear hwx
  have HK0 := Lib.hid (show wx.drew.cell? ⟨w.heap.size, 0, none⟩ = some (.pointer (some ⟨L, 0, none⟩)) ∧ wx.drew.cell? ⟨w.heap.size + 1, 0, none⟩ = some (.int .i64 a) ∧ wx.drew.cell? ⟨L, 1, none⟩ = some (.pointer (some ⟨T, 0, none⟩)) from ⟨hp, hq, hcx⟩)
  have HK1 := Lib.hid (fun (W : World) (h2 : Below wx.heap.size wx W) => (⟨(h2.cell (p := ⟨w.heap.size, 0, none⟩) (by show w.heap.size < _; omega)).trans hp, (h2.cell (p := ⟨w.heap.size + 1, 0, none⟩) (by show w.heap.size + 1 < _; omega)).trans hq, (h2.cell (p := ⟨L, 1, none⟩) (by show L < _; omega)).trans hcx⟩ : W.cell? ⟨w.heap.size, 0, none⟩ = some (.pointer (some ⟨L, 0, none⟩)) ∧ W.cell? ⟨w.heap.size + 1, 0, none⟩ = some (.int .i64 a) ∧ W.cell? ⟨L, 1, none⟩ = some (.pointer (some ⟨T, 0, none⟩))))
  go_region_held3 (fun W => W.cell? ⟨w.heap.size, 0, none⟩ = some (.pointer (some ⟨L, 0, none⟩)) ∧ W.cell? ⟨w.heap.size + 1, 0, none⟩ = some (.int .i64 a) ∧ W.cell? ⟨L, 1, none⟩ = some (.pointer (some ⟨T, 0, none⟩)))
    (first | exact HK0.out | assumption | exact HK1.out _ hb2)
    (first | (go_at_call 11; refine (owner_any a _ ((HTB.out wx hb).drewN 1) ((HTT.out wx hb).drewN 1) hR).mono ?_; rintro e w2 ⟨rfl, hb2'⟩; have hb2 : Below wx.heap.size wx w2 := ⟨hb2'.os, hb2'.tape, hb2'.output, hb2'.size, hb2'.block⟩; rw [hno]))
  have hS2 : w2.cell? ⟨w.heap.size, 0, none⟩ = some (.pointer (some ⟨L, 0, none⟩)) ∧ w2.cell? ⟨w.heap.size + 1, 0, none⟩ = some (.int .i64 a) ∧ w2.cell? ⟨L, 1, none⟩ = some (.pointer (some ⟨T, 0, none⟩)) := by assumption
  obtain ⟨hp2, hq2, _⟩ := hS2
  have HB2 := Lib.hid (hb.trans (hb2.mono hb.size))
  clear HK0 HK1 hb2' hb2 hb hct hcx hp hq
  have HS2 := Lib.hid (HS.out.later HB2.out)
  go_wp2_with (first
    | (go_at_call 36; refine (put1_in _ HS2.out ha hp2 hq2 hin).mono ?_; rintro e w' ⟨rfl, n, rfl⟩)
    | (go_at_call 50; refine (is_any k _).mono ?_; rintro e w' ⟨rfl, rfl⟩; rw [hi])
    | go_enter Tryd.func27, Tryd.ntmps27)
  go_ret
  exact ⟨rfl, ⟨HB2.out.os, HB2.out.tape, HB2.out.output, HB2.out.size, HB2.out.block⟩⟩

set_option maxRecDepth 100000 in
set_option maxHeartbeats 1000000 in
theorem put_new {L A G T I J cap capS base capT : Nat} {baseL : Nat} {ps : Nat → Option Addr} {cs : Nat → Nat} {rv : Nat → List Nat} {ws sw : List Nat} {ld st : Nat} {c : Cfg} {ks : List Nat} {pt : Option Addr} (w : World) (h : Sit w L A G T I J cap capS baseL ps cs rv ws sw ld st) (ht : TbIs w T base c ks pt capT) (htt : Tabs w) (hR : rightB c.b c.wd c.m c.r c.ce c.lg c.st = true) (a : Nat) (ho : ownB c ks a = true) (ha : a ≤ ws.length) (ha1 : 1 ≤ a) (hst : st < 1000000) (hf : ∀ j, j < 4 → lastN (rv j) ≤ 1048576) (hc : ∀ j, j < 4 → (rv j).length < 1000000) (hin : hasB sw a = false) :
    Calls Tryd.prog 12 #[.pointer (some ⟨L, 0, none⟩), .int .i64 a] w fun e w' => e = .returned (.int .i64 0) ∧
      ∃ p' c', Sit w' L A G T I J cap capS baseL (upd ps (kAt ks (blk c a)) p') (upd cs (kAt ks (blk c a)) c') (upd rv (kAt ks (blk c a)) (rv (kAt ks (blk c a)) ++ [a])) (ws.set (a - 1) (Hdr.lk (lastN (rv (kAt ks (blk c a)))))) (putW sw a) ld (st + 1) ∧ Chg (Own L A G I J ps) w w' ∧
        ∀ j, Own L A G I J (upd ps (kAt ks (blk c a)) p') j → Own L A G I J ps j ∨ w.heap.size ≤ j := by
  have hct := h.ls.ct
  have hL := h.ls.lt
  have hno := ownV_yes ho
  have hn1 : L ≠ w.heap.size := by omega
  have hn2 : L ≠ w.heap.size + 1 := by omega
  have HTT := Lib.hid (fun (W : World) (hb : Below w.heap.size w W) => htt.later hb)
  have HTB := Lib.hid (fun (W : World) (hb : Below w.heap.size w W) => ht.later hb)
  have hk4 : kAt ks (blk c a) < 4 := ht.kLt _
  have HS := Lib.hid h
  clear h ht htt
  obtain ⟨k, hke⟩ : ∃ k, k = kAt ks (blk c a) := ⟨_, rfl⟩
  rw [← hke] at hk4 hno ⊢
  clear hke
  have hi := isB_true.2 ⟨Int.natCast_nonneg k, by omega⟩
  have i1 : (0 : Int) ≤ (k : Int) := Int.natCast_nonneg _
  have i2 : (k : Int) < 4 := by omega
  go_enter Tryd.func12, Tryd.ntmps12
  go_wp2
  obtain ⟨wx, hwx⟩ : ∃ wx, wx = (w.alloc (.cells #[.pointer (some ⟨L, 0, none⟩)] 30)).alloc (.cells #[.int .i64 a] 3) := ⟨_, rfl⟩
  rw [← hwx]
  have hb : Below w.heap.size w wx := by rw [hwx]; exact two_new ..
  have hp : wx.cell? ⟨w.heap.size, 0, none⟩ = some (.pointer (some ⟨L, 0, none⟩)) := by rw [hwx]; simp
  have hq : wx.cell? ⟨w.heap.size + 1, 0, none⟩ = some (.int .i64 a) := by rw [hwx]; simp
  have hcx : wx.cell? ⟨L, 1, none⟩ = some (.pointer (some ⟨T, 0, none⟩)) := (hb.cell (p := ⟨L, 1, none⟩) hL).trans hct
  have hsz : wx.heap.size = w.heap.size + 2 := by rw [hwx]; simp
  clear hwx
  have HK0 := Lib.hid (show wx.drew.cell? ⟨w.heap.size, 0, none⟩ = some (.pointer (some ⟨L, 0, none⟩)) ∧ wx.drew.cell? ⟨w.heap.size + 1, 0, none⟩ = some (.int .i64 a) ∧ wx.drew.cell? ⟨L, 1, none⟩ = some (.pointer (some ⟨T, 0, none⟩)) from ⟨hp, hq, hcx⟩)
  have HK1 := Lib.hid (fun (W : World) (h2 : Below wx.heap.size wx W) => (⟨(h2.cell (p := ⟨w.heap.size, 0, none⟩) (by show w.heap.size < _; omega)).trans hp, (h2.cell (p := ⟨w.heap.size + 1, 0, none⟩) (by show w.heap.size + 1 < _; omega)).trans hq, (h2.cell (p := ⟨L, 1, none⟩) (by show L < _; omega)).trans hcx⟩ : W.cell? ⟨w.heap.size, 0, none⟩ = some (.pointer (some ⟨L, 0, none⟩)) ∧ W.cell? ⟨w.heap.size + 1, 0, none⟩ = some (.int .i64 a) ∧ W.cell? ⟨L, 1, none⟩ = some (.pointer (some ⟨T, 0, none⟩))))
  go_region_held3 (fun W => W.cell? ⟨w.heap.size, 0, none⟩ = some (.pointer (some ⟨L, 0, none⟩)) ∧ W.cell? ⟨w.heap.size + 1, 0, none⟩ = some (.int .i64 a) ∧ W.cell? ⟨L, 1, none⟩ = some (.pointer (some ⟨T, 0, none⟩)))
    (first | exact HK0.out | assumption | exact HK1.out _ hb2)
    (first | (go_at_call 11; refine (owner_any a _ ((HTB.out wx hb).drewN 1) ((HTT.out wx hb).drewN 1) hR).mono ?_; rintro e w2 ⟨rfl, hb2'⟩; have hb2 : Below wx.heap.size wx w2 := ⟨hb2'.os, hb2'.tape, hb2'.output, hb2'.size, hb2'.block⟩; rw [hno]))
  have hS2 : w2.cell? ⟨w.heap.size, 0, none⟩ = some (.pointer (some ⟨L, 0, none⟩)) ∧ w2.cell? ⟨w.heap.size + 1, 0, none⟩ = some (.int .i64 a) ∧ w2.cell? ⟨L, 1, none⟩ = some (.pointer (some ⟨T, 0, none⟩)) := by assumption
  obtain ⟨hp2, hq2, _⟩ := hS2
  have HB2 := Lib.hid (hb.trans (hb2.mono hb.size))
  clear HK0 HK1 hb2' hb2 hb hct hcx hp hq
  have HO := Lib.hid (show ∀ j, w.heap.size ≤ j → ¬ Own L A G I J ps j from fun j hj ho => by have := HS.out.ltO ho; omega)
  have HS2 := Lib.hid (HS.out.later HB2.out)
  go_wp2_with (first
    | (go_at_call 36; refine (put1_out _ HS2.out hk4 ha ha1 hst (hf _ hk4) (hc _ hk4) (HO.out _ (Nat.le_refl _)) (HO.out _ (Nat.le_succ _)) hp2 hq2 hin).mono ?_; rintro e w3 ⟨rfl, p', c', hT3, hC3, hR3⟩)
    | (go_at_call 50; refine (is_any k _).mono ?_; rintro e w' ⟨rfl, rfl⟩; rw [hi])
    | go_enter Tryd.func27, Tryd.ntmps27)
  go_ret
  exact ⟨rfl, p', c', hT3, own_trans (Chg.of_below HB2.out) hC3, fun j hj => (hR3 j hj).imp id (fun h => Nat.le_trans HB2.out.size h)⟩
end Go.Proofs.YtooojajagkbhiaaDoor.Lis
