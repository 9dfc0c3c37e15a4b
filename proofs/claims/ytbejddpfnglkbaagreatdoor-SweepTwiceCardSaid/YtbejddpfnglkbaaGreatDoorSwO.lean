/-
  What is swept again: nothing by the same color, all by the other.
-/
import Derived.Test.YtbejddpfnglkbaaGreatDoorSwN
namespace Go.Proofs.YtbejddpfnglkbaaGreatDoor.Sw
open Go.RowKit
open Blk (Cfg TbIs kAt seg seg_length perN allP allP_succ allP_len blk adr little little_any little_right)
open Hp (Ids St Wf Is To Mine bnI bn coE coV frE frS colB holdsF own cls fr puS unS mkE mkS mkA st0 objL NewRow mem_allP)
open Rf (Rp RTo Pu Ri Sl All Bo Lo Keep mkW)
open Go.Proofs.YtbejddpfnglkbaaGreatDoor.Row (Chg Rd Rd0 cell_of_block frozen_of_block other same rowB cellsZ cellsZ_length cellsZ_at cellsZ_snoc owns_lt owns_chg owns_slice owns_base owns_cap owns_block push_row info_parts infoInt one_at)
open Go.Proofs.YtbejddpfnglkbaaGreatDoor.Addr (Tabs)

set_option maxRecDepth 100000 in
set_option maxHeartbeats 1000000 in
theorem in_any (p : Option Addr) (cp : Nat) (l : List Int) (x : Int) (w : World) (hp : Rd0 w p l) (hl : l.length ≤ 1048576) :
    Calls Tryz.prog 26 #[.slice p l.length cp, .int .i64 x] w fun e w' => e = .returned (.bool (decide (x ∈ l))) ∧ w = w' := by
  have HP := Lib.hid hp
  clear hp
  go_enter Tryz.func26, Tryz.ntmps26
  go_wp2
  go_loopw [5] (fun i wr => ∃ c : Nat, c ≤ l.length ∧ i = .int .i64 c ∧ x ∉ l.take c ∧ w = wr) (fun i _ => l.length - (intOf i).toNat)
  case atStart => exact ⟨0, by omega, rfl, by simp, rfl⟩
  case round =>
    obtain ⟨c, hc, rfl, hno, rfl⟩ := hrel
    have HNO := Lib.hid hno
    clear hno
    by_cases hlt : c < l.length
    · obtain ⟨b, off, rfl, h1⟩ := HP.out c hlt
      have i0 : (0 : Int) ≤ (c : Int) := Int.natCast_nonneg _
      have i1 : (c : Int) < (l.length : Int) := by omega
      have hget : l[c]? = some (l.getD c 0) := by rw [List.getD_eq_getElem?_getD]; simp [hlt]
      have hmem : l.getD c 0 ∈ l := List.mem_of_getElem? hget
      have HGET := Lib.hid hget
      have HMEM := Lib.hid hmem
      clear hget hmem
      generalize l.getD c 0 = y at *
      by_cases he : y = x
      · subst he
        have hyy : (y == y) = true := by simp
        have hd : decide (y ∈ l) = true := by simpa using HMEM.out
        go_wp2
        go_ret
        exact ⟨by rw [hd]; rfl, rfl⟩
      · have hyx : (y == x) = false := by simpa using he
        have hn2 : x ∉ l.take (c + 1) := by
          rw [List.take_add_one, HGET.out]
          simp only [Option.toList_some, List.mem_append, List.mem_singleton]
          exact fun h => h.elim HNO.out (fun e => he e.symm)
        have HN2 := Lib.hid hn2
        clear hn2
        go_wp2
        go_roundw
        case rel => exact ⟨c + 1, by omega, by go_num, HN2.out, trivial⟩
        case measure => simp [intOf]; omega
    · have hd : decide (x ∈ l) = false := by
        have := HNO.out
        rw [List.take_of_length_le (by omega)] at this
        simpa using this
      go_wp2
      go_ret
      exact ⟨by rw [hd]; rfl, rfl⟩

section
variable {s : St}
theorem again_none (h : Wp s) (col : Int) (x : Int) : swB (swS s col (allP s.c s.ks s.ks.length)) col x = false := by
  unfold swB
  cases hb : bnI (swS s col (allP s.c s.ks s.ks.length)) x with
  | false => rfl
  | true => rw [all_left h col x hb]; simp
theorem freed_gone (h : Wp s) (col a : Int) (ha : a ∈ swF s col (allP s.c s.ks s.ks.length)) : a ∉ objL (swS s col (allP s.c s.ks s.ks.length)) := by
  intro hm
  have hb := (mem_obj (h.swS col _)).1 hm
  rw [swF_filter h col _ (allP_nodup h), List.mem_filter] at ha
  have h2 := (swS_bn h col _ a hb).2 ha.1
  have h3 := ha.2
  unfold swB at h3
  rw [h2] at h3
  simp at h3
theorem other_all (h : Wp s) (col c2 : Int) (hne : col ≠ c2) : swF (swS s col (allP s.c s.ks s.ks.length)) c2 (allP s.c s.ks s.ks.length) = objL (swS s col (allP s.c s.ks s.ks.length)) := by
  have hw := h.swS col (allP s.c s.ks s.ks.length)
  have hn := allP_nodup h
  rw [swF_filter hw c2 _ hn, objL_eq, swS_c, swS_ks]
  refine List.filter_congr fun x _ => ?_
  unfold swB
  cases hb : bnI (swS s col (allP s.c s.ks s.ks.length)) x with
  | false => rfl
  | true =>
    rw [all_left h col x hb]
    have : (col == c2) = false := by rw [beq_eq_false_iff_ne]; exact hne
    simp [bne, this]
theorem none_left (h : Wp s) (col c2 : Int) (hne : col ≠ c2) : objL (swS (swS s col (allP s.c s.ks s.ks.length)) c2 (allP s.c s.ks s.ks.length)) = [] := by
  have hw := h.swS col (allP s.c s.ks s.ks.length)
  refine List.eq_nil_iff_forall_not_mem.2 fun x hx => ?_
  have hb := (mem_obj (hw.swS c2 _)).1 hx
  obtain ⟨h1, h2⟩ := swS_bn hw c2 _ x hb
  have h3 := all_left h col x h1
  exact hne (h3.symm.trans (h2 ((mem_allP h.wf h.k4).2 (by have := hw.wf.bnI_own h1; simpa [Hp.own, swS_c, swS_ks] using this))))
end

end Go.Proofs.YtbejddpfnglkbaaGreatDoor.Sw
