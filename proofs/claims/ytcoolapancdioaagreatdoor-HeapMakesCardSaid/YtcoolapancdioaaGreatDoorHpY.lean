/-
  Objects, slots in hand and free slots part the slots.
-/
import Derived.Test.YtcoolapancdioaaGreatDoorHpV
namespace Go.Proofs.YtcoolapancdioaaGreatDoor.Hp
open Go.RowKit
open Class (isB isB_true sizI sizI_bd)
open Blk (Cfg allP seg valA adr perN kAt blk)
open Lis (intsN)

/-- The free slots, class by class. -/
def freL (s : St) : List Int := intsN (s.hv 0) ++ (intsN (s.hv 1) ++ (intsN (s.hv 2) ++ intsN (s.hv 3)))
theorem mem_ints {l : List Nat} {x : Int} : x ∈ intsN l ↔ ∃ n ∈ l, (n : Int) = x := by simp [intsN]
theorem mem_freL {s : St} {x : Int} : x ∈ freL s ↔ frI s x = true := by
  unfold freL frI
  rw [List.mem_append, List.mem_append, List.mem_append, mem_ints, mem_ints, mem_ints, mem_ints, Bool.and_eq_true, decide_eq_true_eq]
  simp only [fr, Bool.or_eq_true, decide_eq_true_eq]
  constructor
  · rintro (⟨n, h, rfl⟩ | ⟨n, h, rfl⟩ | ⟨n, h, rfl⟩ | ⟨n, h, rfl⟩) <;> simp [h]
  · rintro ⟨h0, h⟩
    have e : (x.toNat : Int) = x := by omega
    rcases h with h | h | h | h
    · exact .inl ⟨_, h, e⟩
    · exact .inr (.inl ⟨_, h, e⟩)
    · exact .inr (.inr (.inl ⟨_, h, e⟩))
    · exact .inr (.inr (.inr ⟨_, h, e⟩))
theorem ints_nodup {l : List Nat} (h : l.Nodup) : (intsN l).Nodup := by
  unfold intsN
  unfold List.Nodup
  rw [List.pairwise_map]
  exact h.imp (fun hab e => hab (by omega))
theorem freL_nodup {w : World} {H : Nat} {d : Ids} {s : St} {m : Nat} (h : Is w H d s m) : (freL s).Nodup := by
  have hd : ∀ j k, j < 4 → k < 4 → j ≠ k → ∀ x ∈ intsN (s.hv j), x ∉ intsN (s.hv k) := fun j k hj hk hne x hx hy => by
    obtain ⟨a, ha, rfl⟩ := mem_ints.1 hx
    obtain ⟨b, hb, e⟩ := mem_ints.1 hy
    obtain rfl : b = a := by omega
    exact hne (h.held.apart j k _ hj hk ha hb)
  have n := fun k hk => ints_nodup (h.held.once k hk)
  unfold freL
  rw [List.nodup_append, List.nodup_append, List.nodup_append]
  refine ⟨n 0 (by omega), ⟨n 1 (by omega), ⟨n 2 (by omega), n 3 (by omega), ?_⟩, ?_⟩, ?_⟩
  · intro x hx y hy e; subst e; exact hd 2 3 (by omega) (by omega) (by omega) x hx hy
  · intro x hx y hy e; subst e
    rcases List.mem_append.1 hy with hy | hy
    · exact hd 1 2 (by omega) (by omega) (by omega) x hx hy
    · exact hd 1 3 (by omega) (by omega) (by omega) x hx hy
  · intro x hx y hy e; subst e
    rcases List.mem_append.1 hy with hy | hy
    · exact hd 0 1 (by omega) (by omega) (by omega) x hx hy
    · rcases List.mem_append.1 hy with hy | hy
      · exact hd 0 2 (by omega) (by omega) (by omega) x hx hy
      · exact hd 0 3 (by omega) (by omega) (by omega) x hx hy
/-- A slot is one of those that are told. -/
theorem mem_allP {s : St} (h : Wf s) (hk : ∀ j, kAt s.ks j < 4) {x : Int} : x ∈ allP s.c s.ks s.ks.length ↔ own s x = true := by
  have hf := h.full
  unfold allP
  rw [List.mem_flatMap]
  constructor
  · rintro ⟨b, hb, hx⟩
    rw [List.mem_range] at hb
    unfold seg at hx
    obtain ⟨i, hi, rfl⟩ := List.mem_map.1 hx
    exact (Lis.own_adr2 h.right hb (by omega) (hk b) (List.mem_range.1 hi)).1
  · intro ho
    have g := h.geo ho
    refine ⟨blk s.c x, List.mem_range.2 g.bl, ?_⟩
    unfold seg
    have hRC := Blk.slots_bd h.right
    have hp := Blk.perN_eq s.c (kAt s.ks (blk s.c x))
    have hcl : cls s x = kAt s.ks (blk s.c x) := rfl
    have g1 := g.cl
    have g2 := g.at_
    have g3 := g.off0
    have g4 := g.off1
    have g5 := g.mod
    rw [hcl] at g1 g4 g5
    rw [Class.perI_yes g1 (Class.wordsB_true.2 ⟨hRC.wd0, hRC.wd1⟩)] at hp
    refine List.mem_map.2 ⟨(Addr.offI s.c.wd x / sizI (kAt s.ks (blk s.c x) : Nat)).toNat, List.mem_range.2 ?_, ?_⟩
    · rcases siz_four g1 with e | e | e | e <;> rw [e] at g4 g5 hp ⊢ <;> omega
    · unfold adr
      rcases siz_four g1 with e | e | e | e <;> rw [e] at g4 g5 ⊢ <;> omega
/-- Objects, slots in hand and free slots, one behind the other. -/
def seenL (s : St) : List Int := objL s ++ (hanL s ++ freL s)
theorem seen_perm {w : World} {H : Nat} {d : Ids} {s : St} {m : Nat} (h : Is w H d s m) : (seenL s).Perm (allP s.c s.ks s.ks.length) := by
  have hk : ∀ j, kAt s.ks j < 4 := fun j => h.tb.kLt j
  have hw := h.wf
  have hn : ∀ l : List Int, l.Pairwise (· < ·) → l.Nodup := fun l hl => hl.imp (fun hab e => by subst e; omega)
  have hal := hn _ (allP_sorted hw hk)
  have ho : ∀ x, x ∈ objL s ↔ bnI s x = true := fun x => by
    unfold objL
    rw [pkA_eq, List.mem_filter, mem_allP hw hk]
    exact ⟨fun h => h.2, fun h => ⟨hw.bnI_own h, h⟩⟩
  have hh : ∀ x, x ∈ hanL s ↔ own s x = true ∧ bnI s x = false ∧ frI s x = false := fun x => by
    unfold hanL
    rw [pkA_eq, List.mem_filter, mem_allP hw hk]
    simp
  have hfo : ∀ x, frI s x = true → own s x = true ∧ bnI s x = false := fun x hx => by
    unfold frI at hx
    rw [Bool.and_eq_true, decide_eq_true_eq] at hx
    obtain ⟨k, hk4, hm⟩ := fr_true.1 hx.2
    obtain ⟨c1, c2, c3, c4⟩ := hw.free k hk4 _ hm
    have e : (x.toNat : Int) = x := by omega
    rw [e] at c1
    exact ⟨c1, by unfold bnI; rw [c3, Bool.and_false]⟩
  rw [List.perm_ext_iff_of_nodup ?_ hal]
  · intro x
    unfold seenL
    rw [List.mem_append, List.mem_append, ho, hh, mem_freL, mem_allP hw hk]
    constructor
    · rintro (h | h | h)
      · exact hw.bnI_own h
      · exact h.1
      · exact (hfo x h).1
    · intro h
      cases hb : bnI s x with
      | true => exact .inl rfl
      | false =>
        cases hf : frI s x with
        | true => exact .inr (.inr rfl)
        | false => exact .inr (.inl ⟨h, rfl, rfl⟩)
  · unfold seenL
    rw [List.nodup_append, List.nodup_append]
    refine ⟨hn _ (pkA_sorted hw hk _), ⟨hn _ (pkA_sorted hw hk _), freL_nodup h, ?_⟩, ?_⟩
    · intro x hx y hy e; subst e
      have := (hh x).1 hx
      rw [mem_freL] at hy
      rw [hy] at this
      cases this.2.2
    · intro x hx y hy e; subst e
      have h1 := (ho x).1 hx
      rcases List.mem_append.1 hy with hy | hy
      · have := (hh x).1 hy
        rw [h1] at this
        cases this.2.1
      · have := (hfo x (mem_freL.1 hy)).2
        rw [h1] at this
        cases this
end Go.Proofs.YtcoolapancdioaaGreatDoor.Hp
