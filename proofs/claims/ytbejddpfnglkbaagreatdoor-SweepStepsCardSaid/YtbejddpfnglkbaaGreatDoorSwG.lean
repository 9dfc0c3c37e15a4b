/-
  The document's heap, a block of which is swept.
-/
import Derived.Test.YtbejddpfnglkbaaGreatDoorSwE
import Derived.Test.YtbejddpfnglkbaaGreatDoorRq4
import Derived.Test.YtbejddpfnglkbaaGreatDoorRq3
namespace Go.Proofs.YtbejddpfnglkbaaGreatDoor.Sw
open Go.RowKit
open Blk (Cfg TbIs kAt seg seg_length perN allP allP_succ allP_len blk adr)
open Hp (Ids St Wf Is To Mine bnI bn coE coV frE frS colB holdsF own cls fr puS unS mem_allP bnI_nat frI_nat fr_false fr_true)
open Rf (Rp RTo Pu Ri Sl All SlOk slC stI)
open Bits (SetIs)
open Go.Proofs.YtbejddpfnglkbaaGreatDoor.Row (Chg Rd Rd0 cell_of_block frozen_of_block other same rowB cellsZ cellsZ_length cellsZ_at cellsZ_snoc owns_lt owns_chg owns_slice owns_base owns_cap owns_block push_row info_parts infoInt one_at)
open Go.Proofs.YtbejddpfnglkbaaGreatDoor.Addr (Tabs)

theorem nodup_len : ∀ (n : Nat) (l : List Nat), l.Nodup → (∀ a ∈ l, 1 ≤ a ∧ a ≤ n) → l.length ≤ n
  | 0, l, _, h => by
    cases l with
    | nil => exact Nat.le_refl _
    | cons a l => have := h a (by simp); omega
  | n + 1, l, hd, h => by
    by_cases hm : n + 1 ∈ l
    · have h1 := nodup_len n (l.erase (n + 1)) (hd.erase _) (fun a ha => by
        have h2 := (hd.mem_erase_iff).1 ha
        have := h a h2.2
        have := h2.1
        omega)
      rw [List.length_erase_of_mem hm] at h1
      omega
    · have := nodup_len n l hd (fun a ha => by
        have := h a ha
        have : a ≠ n + 1 := fun e => hm (e ▸ ha)
        omega)
      omega
theorem hv_len {s : St} (hw : Wf s) (hp : Pu s) {k : Nat} (hk : k < 4) : (s.hv k).length ≤ s.ws.length :=
  nodup_len _ _ ((Rf.freL_parts hp.nd).1 k hk) (fun a ha => by have := hw.fr_bd (fr_true.2 ⟨k, hk, ha⟩); omega)
/-- A heap as the document has it: what always holds, besides. -/
structure Wp (s : St) : Prop where
  wf : Wf s
  pu : Pu s
  k4 : ∀ j, kAt s.ks j < 4
  sm : s.ws.length ≤ 500000
theorem Wp.fr' {s : St} (h : Wp s) {a : Int} (hb : bnI s a = true) : Wp (frS s a.toNat) := by
  have ho := h.wf.bnI_own hb
  obtain ⟨n, rfl, n1, n2⟩ := Rf.own_nat h.wf ho
  rw [Int.toNat_natCast]
  have hbn : bn s n = true := by rw [← bnI_nat]; exact hb
  have hfr : fr s n = false := by
    cases e : fr s n with
    | false => rfl
    | true =>
      obtain ⟨k, hk, hm⟩ := fr_true.1 e
      have := (h.wf.free k hk n hm).2.2.1
      rw [hbn] at this
      cases this
  have hun := Rf.pu_un h.pu n2
  refine ⟨Rf.put_wf (s := unS s n) (Rf.un_wf h.wf h.pu n2) (h.k4 _) ho (Rf.un_bn h.pu n2), hun.put hfr (Nat.lt_of_le_of_lt (hv_len h.wf h.pu (h.k4 _)) (by have := h.sm; omega)), h.k4, ?_⟩
  show (s.ws.set _ _).length ≤ _
  rw [List.length_set]
  exact h.sm
theorem Wp.swT {s : St} (h : Wp s) (col a : Int) : Wp (swT s col a) := by
  unfold Sw.swT
  split
  · rename_i hb
    refine h.fr' ?_
    unfold swB at hb
    rw [Bool.and_eq_true] at hb
    exact hb.1
  · exact h
theorem Wp.swS {s : St} (h : Wp s) (col : Int) (l : List Int) : Wp (swS s col l) := by
  induction l generalizing s with
  | nil => exact h
  | cons a l ih => exact ih (h.swT col a)

/-- Is an address one of a block's? -/
def inBl (s : St) (b a : Int) : Bool := (a - 1) / s.c.wd == b
theorem filter_seg {s : St} (hw : Wf s) (hk : ∀ j, kAt s.ks j < 4) (b : Nat) : ∀ n, n ≤ s.ks.length → (allP s.c s.ks n).filter (inBl s b) = if b < n then seg s.c s.ks b else []
  | 0, _ => by simp [allP]
  | n + 1, hn => by
    rw [allP_succ, List.filter_append, filter_seg hw hk b n (by omega)]
    have hall : ∀ x ∈ seg s.c s.ks n, (x - 1) / s.c.wd = (n : Int) := fun x hx => by
      obtain ⟨i, hi, rfl⟩ := List.mem_map.1 hx
      rw [List.mem_range] at hi
      have hbd := Blk.adr_bd (b := n) (i := i) (k := (kAt s.ks n : Nat)) hw.right (by have := hw.full; omega) (by rw [Blk.perN_eq]; omega)
      have hwd : 0 < s.c.wd := by have := (Blk.slots_bd hw.right).wd0; omega
      show (((n : Int) * s.c.wd + 1 + (i : Int) * _) - 1) / s.c.wd = n
      rw [show ((n : Int) * s.c.wd + 1 + (i : Int) * Class.sizI (kAt s.ks n : Nat)) - 1 = (i : Int) * Class.sizI (kAt s.ks n : Nat) + n * s.c.wd by omega, Int.add_mul_ediv_right _ _ (by omega), Int.ediv_eq_zero_of_lt hbd.2.1 (by omega)]
      omega
    by_cases e : b = n
    · subst e
      rw [if_neg (Nat.lt_irrefl _), if_pos (Nat.lt_succ_self _), List.nil_append]
      exact List.filter_eq_self.2 (fun x hx => by unfold inBl; rw [hall x hx]; simp)
    · have h0 : (seg s.c s.ks n).filter (inBl s b) = [] := List.filter_eq_nil_iff.2 (fun x hx => by unfold inBl; rw [hall x hx]; simp; omega)
      rw [h0, List.append_nil]
      by_cases h1 : b < n
      · rw [if_pos h1, if_pos (by omega)]
      · rw [if_neg h1, if_neg (by omega)]
theorem swF_one (s : St) (col a : Int) : swF s col [a] = if swB s col a = true then [a] else [] := by simp [swF]
theorem swS_one (s : St) (col a : Int) : swS s col [a] = swT s col a := rfl
end Go.Proofs.YtbejddpfnglkbaaGreatDoor.Sw
