/-
  The document's slots of a block; its search in a list.
-/
import Derived.Test.YtfifliepjmpgkaaDoorBlkM
import Derived.Test.YtfifliepjmpgkaaDoorAddrC
import Derived.Test.YtfifliepjmpgkaaDoorAddrK
namespace Go.Proofs.YtfifliepjmpgkaaDoor.Blk
open Go.RowKit Go.Shelf
open Go.Proofs.YtfifliepjmpgkaaDoor.Addr (Tabs ListP same_any refof_any ofI ofI_yes ofB_true sltB_true blkB_true)
open Class (isB isB_true sizI perI refper_any)

set_option maxHeartbeats 1000000 in
theorem in_any (p : Option Addr) (cap : Nat) (zs : List Int) (z : Int) (w : World) (hz : ListP w.heap.size w p zs) (hl : zs.length ≤ 2097152) :
    Calls Tryd.prog 20 #[.slice p zs.length cap, .int .i64 z] w fun e w' => e = .returned (.bool (decide (z ∈ zs))) ∧ w = w' := by
  have HZ := Lib.hid hz
  clear hz
  go_enter Tryd.func20, Tryd.ntmps20
  go_wp2
  go_loopw [5] (fun i wr => ∃ k : Nat, k ≤ zs.length ∧ i = .int .i64 k ∧ wr = w ∧ z ∉ zs.take k) (fun i _ => zs.length - (intOf i).toNat)
  case atStart => exact ⟨0, Nat.zero_le _, rfl, rfl, by simp⟩
  case round =>
    obtain ⟨k, hk, rfl, rfl, hno⟩ := hrel
    by_cases hlt : k < zs.length
    · obtain ⟨b, off, rfl, hbS, hcx⟩ := HZ.out k hlt
      have i1 : (0 : Int) ≤ (k : Int) := Int.natCast_nonneg _
      have i2 : (k : Int) < (zs.length : Int) := by omega
      have hg : zs[k]?.getD 0 = zs[k] := by simp [hlt]
      rw [hg] at hcx
      by_cases he : zs[k] = z
      · have hb : (zs[k] == z) = true := by simp [he]
        have hfin : decide (z ∈ zs) = true := by
          rw [decide_eq_true_eq, ← he]
          exact List.getElem_mem hlt
        have HF := Lib.hid hfin
        clear hfin hno he
        go_wp2
        go_ret
        exact ⟨ret_bool HF.out.symm, rfl⟩
      · have hb : (zs[k] == z) = false := by simp [he]
        have hno2 : z ∉ zs.take (k + 1) := by
          rw [List.take_succ_eq_append_getElem hlt, List.mem_append]
          simp [hno]
          exact fun e => he e.symm
        have HN := Lib.hid hno2
        clear hno hno2 he
        go_wp2
        go_roundw
        case rel => exact ⟨k + 1, by omega, by go_num, by first | rfl | trivial, HN.out⟩
        case measure => simp [intOf]; omega
    · have hfin : decide (z ∈ zs) = false := by
        rw [decide_eq_false_iff_not]
        rwa [List.take_of_length_le (by omega)] at hno
      have HF := Lib.hid hfin
      clear hfin hno
      go_wp2
      go_ret
      exact ⟨ret_bool HF.out.symm, rfl⟩

/-- What an owned row tells, as a list. -/
theorem listP_F {w : World} {base n cap : Nat} {p : Option Addr} (f : Nat → Int) (h : w.ownsRow base 3 1 (.slice p n cap) n (cellsF f n)) : ListP w.heap.size w p ((List.range n).map f) := fun j hj => by
  have hj' : j < n := by simpa using hj
  obtain ⟨_, ⟨h2, h3⟩ | ⟨g, c, cur, e1, e2, e3, r⟩⟩ := id h
  · omega
  · cases e1
    refine ⟨g, 0, rfl, (Array.getElem?_eq_some_iff.1 e3).1, ?_⟩
    rw [Nat.zero_add]
    exact owns_cell h j _ (by simp [cellsF, hj'])
theorem listP_K {w : World} {base cap : Nat} {p : Option Addr} (l : List Nat) (h : w.ownsRow base 3 1 (.slice p l.length cap) l.length (cellsK l)) : ListP w.heap.size w p (l.map fun x => ((x : Nat) : Int)) := fun j hj => by
  have hj' : j < l.length := by simpa using hj
  obtain ⟨_, ⟨h2, h3⟩ | ⟨g, c, cur, e1, e2, e3, r⟩⟩ := id h
  · omega
  · cases e1
    refine ⟨g, 0, rfl, (Array.getElem?_eq_some_iff.1 e3).1, ?_⟩
    rw [Nat.zero_add]
    exact owns_cell h j _ (by simp [cellsK, hj'])

set_option maxRecDepth 100000 in
set_option maxHeartbeats 4000000 in
theorem refslots_any (c : Cfg) (b k : Nat) (w : World) (hR : rightB c.b c.wd c.m c.r c.ce c.lg c.st = true) (hb : (b : Int) < c.b) (hk : k < 4) :
    Calls Tryd.prog 18 #[(.agg #[.int .i64 c.b, .int .i64 c.wd, .int .i64 c.m, .int .i64 c.r, .int .i64 c.ce, .int .i64 c.lg, .int .i64 c.st]), .int .i64 b, .int .i64 k] w fun e w' => ∃ p cap, e = .returned (.slice p (perN c k) cap) ∧ w'.ownsRow w.heap.size 3 1 (.slice p (perN c k) cap) (perN c k) (cellsF (adr c k b) (perN c k)) ∧ Below w.heap.size w w' := by
  obtain ⟨i0, hinf, hz0, hz1, hz2⟩ := info_parts infoInt
  have hN := Lib.hid (perN_eq c k)
  have hN2 := perN_le c k
  have HO := Lib.hid (fun (i : Nat) (hi : i < perN c k) => (show ofI (rightB c.b c.wd c.m c.r c.ce c.lg c.st) c.b c.wd k b i 0 = adr c k b i by
    have hB : isB (k : Int) = true := isB_true.2 ⟨by omega, by omega⟩
    obtain ⟨s0, s1⟩ := Class.sizI_bd hB
    rw [ofI_yes (ofB_true.2 ⟨sltB_true.2 ⟨hR, blkB_true.2 ⟨by omega, hb⟩, by omega, by rw [hN.out]; exact Int.ofNat_lt.2 hi⟩, by omega, by omega⟩)]
    unfold adr; omega))
  go_enter Tryd.func18, Tryd.ntmps18
  go_wp2_with fail
  generalize hX : World.alloc _ _ = X
  have bX : Below w.heap.size w X := by rw [← hX]; exact (Below.refl _ _).alloc (Nat.le_refl _) _
  have hsX : X.heap.size = w.heap.size + 1 := by rw [← hX]; simp
  have xbox : BoxIs X w.heap.size c := by rw [← hX]; constructor <;> simp
  clear hX
  go_loopw [7, 8] (fun v i wr => ∃ (j : Nat) (p : Option Addr) (cap : Nat), j ≤ perN c k ∧ i = .int .i64 (j : Int) ∧ v = .slice p j cap ∧ wr.ownsRow (w.heap.size + 1) 3 1 (.slice p j cap) j (cellsF (adr c k b) j) ∧ Below X.heap.size X wr) (fun _ i _ => perN c k - (intOf i).toNat)
  case atStart => exact ⟨0, none, 0, Nat.zero_le _, rfl, rfl, ⟨rfl, .inl ⟨rfl, rfl⟩⟩, Below.refl _ _⟩
  case round =>
    obtain ⟨j, p, cap, hj, rfl, rfl, ho, hbb⟩ := hrel
    have HOW := Lib.hid ho
    have HB := Lib.hid hbb
    have hbx := xbox.later hbb
    have k0 := hbx.b0
    have k1 := hbx.b1
    have k2 := hbx.b2
    have k3 := hbx.b3
    have k4 := hbx.b4
    have k5 := hbx.b5
    have k6 := hbx.b6
    have hsz := hbb.size
    clear ho hbb hbx
    by_cases hlt : j < perN c k
    · have hlti : (j : Int) < (perN c k : Int) := by omega
      have hadr := HO.out j hlt
      have HAD := Lib.hid hadr
      clear hadr
      go_wp2_with (first
        | (go_at_call 46; refine (refper_any _ _ _).mono ?_; rintro e w' ⟨rfl, rfl⟩; rw [hN.out])
        | (go_at_call 47; refine (refof_any _ _ _ _ _ _ _ _ _ _ _ _).mono ?_; rintro e w5 ⟨rfl, hb5⟩; rw [HAD.out]; have HB5 := Lib.hid hb5; clear hb5)
        | (at_builtin; refine wpList_append_own _ rfl _ _ 24 rfl (w.heap.size + 1) 3 i0 (.int .i64 0) 1 8 Tryd.underlying24 hinf hz0 hz1 hz2 rfl (by decide) _ _ _ rfl ((owns_block HOW.out (fun g hg => HB5.out.block g (owns_lt HOW.out hg).2)).alloc _) ⟨w5.heap.size, 0, none⟩ 1 1 [.int .i64 (adr c k b j)] rfl rfl (one_at rfl) (by simp [Value.oneCell']) (by unfold maxLen; omega) (by omega) (by have := HB5.out.size; simp; omega) ?_))
      intro v' w6 hown hgrow _
      have hb5 : Below X.heap.size X w5 := HB.out.trans (HB5.out.mono HB.out.size)
      obtain ⟨p', cap', rfl, ho6, hb6⟩ := push_slot hb5 (by omega) (owns_block HOW.out (fun g hg => HB5.out.block g (owns_lt HOW.out hg).2)) hown hgrow
      have HO6 := Lib.hid ho6
      have HB6 := Lib.hid hb6
      clear hown hgrow ho6 hb6 hb5
      go_wp2
      go_roundw
      case rel => exact ⟨j + 1, p', cap', by omega, by go_num, rfl, by rw [cellsF_succ]; exact HO6.out, HB6.out⟩
      case measure => simp [intOf]; omega
    · have hle : ¬ (j : Int) < (perN c k : Int) := by omega
      go_wp2_with (go_at_call 46; refine (refper_any _ _ _).mono ?_; rintro e w' ⟨rfl, rfl⟩; rw [hN.out])
      obtain rfl : j = perN c k := by omega
      go_ret
      exact ⟨p, cap, rfl, owns_base (by omega) HOW.out, bX.trans (HB.out.mono (by omega))⟩
end Go.Proofs.YtfifliepjmpgkaaDoor.Blk
