/-
  NoteNotes.
-/
import Derived.Test.YtkfgchhlekdpgaaGreatDoorNtQa
import Derived.Test.YtkfgchhlekdpgaaGreatDoorNtQb
namespace Go.Proofs.YtkfgchhlekdpgaaGreatDoor.Nt
open Go.RowKit
open Class (below_drewN)
open Hp (Ids St Is To Mine bnI bn coE coV colB objL st0)
open Lg (BfIs BxIs)
open Blk (Cfg little BytesP)
open Sw (ThingsP madeS Sm)
open Go.Proofs.YtkfgchhlekdpgaaGreatDoor.Row (Chg rowB Rd Rd0 cellsZ)
open Go.Proofs.YtkfgchhlekdpgaaGreatDoor.Addr (Tabs)

set_option maxRecDepth 200000 in
set_option maxHeartbeats 8000000 in
theorem notes_great (q : Cs) (v : Int) (white : Bool) (n nc S : Nat) (V : World) (hp : Pre q n nc S V) (hgb : gB q = true)  :
    Calls Tryz.prog 3 #[(.agg #[.int .i64 q.c.b, .int .i64 q.c.wd, .int .i64 q.c.m, .int .i64 q.c.r, .int .i64 q.c.ce, .int .i64 q.c.lg, .int .i64 q.c.st, .slice q.pt q.l.length q.ct, .slice q.pb q.bl.length q.cb, .slice q.px q.xl.length q.cx, .int .u8 q.room, .bool q.up]), .int .i64 v, .bool white] V fun e w' => e = .returned (.bool true) ∧ Below V.heap.size V w' := by
  have HPR := Lib.hid hp
  have HGR : Hid (∀ W, Calls Tryz.prog 11 #[(.agg #[.int .i64 q.c.b, .int .i64 q.c.wd, .int .i64 q.c.m, .int .i64 q.c.r, .int .i64 q.c.ce, .int .i64 q.c.lg, .int .i64 q.c.st, .slice q.pt q.l.length q.ct, .slice q.pb q.bl.length q.cb, .slice q.px q.xl.length q.cx, .int .u8 q.room, .bool q.up])] W fun e w' => e = .returned (.bool true) ∧ Below W.heap.size W w') := Lib.hid fun W => by
    have h := great_any q W
    rw [hgb] at h
    exact h
  obtain ⟨V1, hV1⟩ : ∃ V1, V.alloc (.cells #[.int .i64 q.c.b, .int .i64 q.c.wd, .int .i64 q.c.m, .int .i64 q.c.r, .int .i64 q.c.ce, .int .i64 q.c.lg, .int .i64 q.c.st, .slice q.pt q.l.length q.ct, .slice q.pb q.bl.length q.cb, .slice q.px q.xl.length q.cx, .int .u8 q.room, .bool q.up] 27) = V1 := ⟨_, rfl⟩
  have HC1 : Hid (CaseAt q V1 V.heap.size) := Lib.hid (hV1 ▸ CaseAt.new q V)
  have HB1 : Hid (Below V.heap.size V V1) := Lib.hid (by rw [← hV1]; exact (Below.refl _ _).alloc (Nat.le_refl _) _)
  have HBV : Hid (∀ U, Below V1.heap.size V1 U → Below V.heap.size V U) := Lib.hid fun U hU => HB1.out.trans (hU.mono HB1.out.size)
  clear hp hgb
  obtain ⟨k0, k1, k2, k3, k4, k5, k6, k7, k8, k9, k10, k11⟩ := HC1.out
  go_enter Tryz.func3, Tryz.ntmps3
  go_wp2_with fail
  refine (HGR.out _).mono ?_
  rintro e w2 ⟨rfl, hb2⟩
  have HP2 : Hid (Below V1.heap.size V1 w2) := Lib.hid hb2
  clear hb2 HGR k0 k1 k2 k3 k4 k5 k6 k7 k8 k9 k10 k11
  go_wp2_with (go_at_call 12; fail)
  refine (awake_any _ (HPR.out.ht.later (HBV.out _ HP2.out))).mono ?_
  rintro e w3 ⟨rfl, hb3⟩
  have HP3 : Hid (Below V.heap.size V w3) := Lib.hid (HBV.out _ (HP2.out.trans (hb3.mono HP2.out.size)))
  clear hb3
  go_wp2_with fail
  go_ret
  exact ⟨rfl, HP3.out⟩
theorem notes_walk (q : Cs) (v : Int) (white : Bool) (V : World) (ht : Tabs V) (hq : CsP V.heap.size V q) :
    Calls Tryz.prog 3 #[(.agg #[.int .i64 q.c.b, .int .i64 q.c.wd, .int .i64 q.c.m, .int .i64 q.c.r, .int .i64 q.c.ce, .int .i64 q.c.lg, .int .i64 q.c.st, .slice q.pt q.l.length q.ct, .slice q.pb q.bl.length q.cb, .slice q.px q.xl.length q.cx, .int .u8 q.room, .bool q.up]), .int .i64 v, .bool white] V fun e w' => e = .returned (.bool true) ∧ Below V.heap.size V w' := by
  obtain ⟨n, nc, hp⟩ := pre_of ht hq
  cases hgb : gB q with
  | true => exact notes_great q v white n nc _ V hp hgb
  | false =>
    by_cases hv : v = 0
    · cases white with
      | false => exact notes_Z0 q v n nc _ V hp hgb hv
      | true => exact notes_Z1 q v n nc _ V hp hgb hv
    · by_cases hi : v ∈ objL (sQ q n nc)
      · cases white with
        | false =>
          by_cases hc : coV (sQ q n nc) v = 0
          · exact notes_K0 q v n nc _ V hp hgb hv hi hc
          · by_cases hl : (qX q n nc).length < 1 + q.room % 6
            · exact notes_R0 q v n nc _ V hp hgb hv hi hc hl
            · exact notes_P0 q v n nc _ V hp hgb hv hi hc hl
        | true =>
          by_cases hc : coV (sQ q n nc) v = 1
          · exact notes_K1 q v n nc _ V hp hgb hv hi hc
          · by_cases hl : (qX q n nc).length < 1 + q.room % 6
            · exact notes_R1 q v n nc _ V hp hgb hv hi hc hl
            · exact notes_P1 q v n nc _ V hp hgb hv hi hc hl
      · cases white with
        | false => exact notes_I0 q v n nc _ V hp hgb hv hi
        | true => exact notes_I1 q v n nc _ V hp hgb hv hi
end Go.Proofs.YtkfgchhlekdpgaaGreatDoor.Nt
