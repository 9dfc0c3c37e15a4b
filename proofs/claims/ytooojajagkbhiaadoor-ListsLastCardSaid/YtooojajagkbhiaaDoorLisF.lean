/-
  Plain facts of lists: what each has, in which order, how it is threaded; what putting and taking make of that.
-/
import Derived.Test.YtooojajagkbhiaaDoorLisC
namespace Go.Proofs.YtooojajagkbhiaaDoor.Lis
open Go.RowKit

/-- A list's slots, one linked to the next. -/
def Chain (ws : List Nat) : Nat → List Nat → Prop
  | f, [] => f = 0
  | f, a :: l => f = a ∧ 1 ≤ a ∧ a ≤ ws.length ∧ Hdr.isLk (Arena.wd ws (a - 1)) = true ∧ Chain ws (Hdr.nx (Arena.wd ws (a - 1))) l
theorem Chain.bd {ws : List Nat} : ∀ {l : List Nat} {f : Nat}, Chain ws f l → ∀ a ∈ l, 1 ≤ a ∧ a ≤ ws.length
  | [], _, _, a, h => absurd h (by simp)
  | b :: l, _, h, a, hm => by
    rcases List.mem_cons.1 hm with e | e
    · rw [e]; exact ⟨h.2.1, h.2.2.1⟩
    · exact Chain.bd h.2.2.2.2 a e
theorem Chain.set {ws : List Nat} {a v : Nat} (ha : 1 ≤ a) : ∀ {l : List Nat} {f : Nat}, Chain ws f l → a ∉ l → Chain (ws.set (a - 1) v) f l
  | [], _, h, _ => h
  | b :: l, f, h, hn => by
    obtain ⟨h1, h2, h3, h5, h4⟩ := h
    have hne : a ≠ b := fun e => hn (by rw [e]; exact List.mem_cons_self ..)
    have hw : Arena.wd (ws.set (a - 1) v) (b - 1) = Arena.wd ws (b - 1) := by rw [Arena.wd_set, if_neg (fun e => by omega)]
    refine ⟨h1, h2, by rw [List.length_set]; exact h3, by rw [hw]; exact h5, ?_⟩
    rw [hw]
    exact Chain.set ha h4 (fun e => hn (List.mem_cons_of_mem _ e))
theorem Chain.first {ws : List Nat} {f : Nat} {l : List Nat} (h : Chain ws f l) : f = l.headD 0 := by
  cases l with
  | nil => exact h
  | cons a l => exact h.1

/-- A slot in the middle of a list links to the next one. -/
theorem Chain.mid {ws : List Nat} {a : Nat} {l2 : List Nat} : ∀ {l1 : List Nat} {f : Nat}, Chain ws f (l1 ++ a :: l2) → 1 ≤ a ∧ a ≤ ws.length ∧ Hdr.isLk (Arena.wd ws (a - 1)) = true ∧ Hdr.nx (Arena.wd ws (a - 1)) = l2.headD 0
  | [], _, h => ⟨h.2.1, h.2.2.1, h.2.2.2.1, h.2.2.2.2.first⟩
  | _ :: _, _, h => Chain.mid h.2.2.2.2

/-- What four lists have. -/
structure Held (ws sw : List Nat) (hv : Nat → List Nat) : Prop where
  chain : ∀ k, k < 4 → Chain ws ((hv k).headD 0) (hv k)
  isIn : ∀ a, a ≤ ws.length → (hasB sw a = true ↔ ∃ k, k < 4 ∧ a ∈ hv k)
  once : ∀ k, k < 4 → (hv k).Nodup
  apart : ∀ k j a, k < 4 → j < 4 → a ∈ hv k → a ∈ hv j → k = j
  word : ∀ j, Arena.wd ws j < 18446744073709551616
theorem Held.start (n m : Nat) (hm : m = (n + 1 + 63) / 64) : Held (List.replicate n 0) (List.replicate m 0) (fun _ => []) := by
  subst hm
  refine ⟨fun k _ => rfl, fun a _ => ?_, fun k _ => List.nodup_nil, fun k j a _ _ h _ => absurd h (by simp), fun j => by rw [Arena.wd_zero]; decide⟩
  rw [hasB_zero (n + 1) a]
  simp
theorem Held.head_le {ws sw : List Nat} {hv : Nat → List Nat} (h : Held ws sw hv) {k : Nat} (hk : k < 4) : (hv k).headD 0 ≤ ws.length := by
  have hc := h.chain k hk
  cases e : hv k with
  | nil => simp
  | cons a l => rw [e] at hc; exact hc.2.2.1

theorem Held.put {ws sw : List Nat} {hv : Nat → List Nat} (h : Held ws sw hv) (hs : SetW (ws.length + 1) sw) {k a : Nat} (hk : k < 4) (ha1 : 1 ≤ a) (ha : a ≤ ws.length) (hf : (hv k).headD 0 ≤ 1048576) (hin : hasB sw a = false) :
    Held (ws.set (a - 1) (Hdr.lk ((hv k).headD 0))) (putW sw a) (upd hv k (a :: hv k)) := by
  have hno : ∀ j, j < 4 → a ∉ hv j := fun j hj hm => by
    have := (h.isIn a ha).2 ⟨j, hj, hm⟩
    rw [hin] at this
    cases this
  refine ⟨fun j hj => ?_, fun b hb => ?_, fun j hj => ?_, fun j i b hj hi hbj hbi => ?_, fun j => ?_⟩
  · by_cases e : j = k
    · subst e
      rw [upd_same]
      have hw : Arena.wd (ws.set (a - 1) (Hdr.lk ((hv j).headD 0))) (a - 1) = Hdr.lk ((hv j).headD 0) := by rw [Arena.wd_set, if_pos ⟨rfl, by omega⟩]
      refine ⟨rfl, ha1, by rw [List.length_set]; exact ha, by rw [hw]; exact (Hdr.isLk_lk hf).1, ?_⟩
      rw [hw, (Hdr.isLk_lk hf).2]
      exact (h.chain j hj).set ha1 (hno j hj)
    · rw [upd_other _ _ e]
      exact (h.chain j hj).set ha1 (hno j hj)
  · rw [List.length_set] at hb
    rw [hs.has_put (by omega)]
    by_cases e : b = a
    · rw [if_pos e, hin]
      exact ⟨fun _ => ⟨k, hk, by rw [upd_same, e]; exact List.mem_cons_self ..⟩, fun _ => rfl⟩
    · rw [if_neg e, h.isIn b hb]
      constructor
      · rintro ⟨j, hj, hm⟩
        refine ⟨j, hj, ?_⟩
        by_cases e2 : j = k
        · subst e2; rw [upd_same]; exact List.mem_cons_of_mem _ hm
        · rw [upd_other _ _ e2]; exact hm
      · rintro ⟨j, hj, hm⟩
        refine ⟨j, hj, ?_⟩
        by_cases e2 : j = k
        · subst e2; rw [upd_same] at hm; exact (List.mem_cons.1 hm).resolve_left e
        · rw [upd_other _ _ e2] at hm; exact hm
  · by_cases e : j = k
    · subst e; rw [upd_same]; exact List.nodup_cons.2 ⟨hno j hj, h.once j hj⟩
    · rw [upd_other _ _ e]; exact h.once j hj
  · by_cases e1 : j = k
    · by_cases e2 : i = k
      · rw [e1, e2]
      · subst e1
        rw [upd_same] at hbj
        rw [upd_other _ _ e2] at hbi
        rcases List.mem_cons.1 hbj with e | e
        · exact absurd hbi (by rw [e]; exact hno i hi)
        · exact h.apart j i b hj hi e hbi
    · rw [upd_other _ _ e1] at hbj
      by_cases e2 : i = k
      · subst e2
        rw [upd_same] at hbi
        rcases List.mem_cons.1 hbi with e | e
        · exact absurd hbj (by rw [e]; exact hno j hj)
        · exact h.apart j i b hj hi hbj e
      · rw [upd_other _ _ e2] at hbi
        exact h.apart j i b hj hi hbj hbi
  · rw [Arena.wd_set]
    split
    · exact Hdr.lk_lt hf
    · exact h.word j

theorem Held.take {ws sw : List Nat} {hv : Nat → List Nat} (h : Held ws sw hv) (hs : SetW (ws.length + 1) sw) {k a : Nat} {l : List Nat} (hk : k < 4) (he : hv k = a :: l) :
    1 ≤ a ∧ a ≤ ws.length ∧ hasB sw a = true ∧ Held ws (putW sw a) (upd hv k l) := by
  have hc := h.chain k hk
  rw [he] at hc
  obtain ⟨c1, c2, c3, _, c4⟩ := hc
  have hon := h.once k hk
  rw [he] at hon
  obtain ⟨hnl, hnd⟩ := List.nodup_cons.1 hon
  have hin : hasB sw a = true := (h.isIn a c3).2 ⟨k, hk, by rw [he]; exact List.mem_cons_self ..⟩
  have hsub : ∀ b j, b ∈ upd hv k l j → b ∈ hv j := fun b j hb => by
    by_cases e : j = k
    · subst e; rw [upd_same] at hb; rw [he]; exact List.mem_cons_of_mem _ hb
    · rw [upd_other _ _ e] at hb; exact hb
  refine ⟨c2, c3, hin, fun j hj => ?_, fun b hb => ?_, fun j hj => ?_, fun j i b hj hi hbj hbi => h.apart j i b hj hi (hsub b j hbj) (hsub b i hbi), h.word⟩
  · by_cases e : j = k
    · subst e; rw [upd_same]; rw [c4.first] at c4; exact c4
    · rw [upd_other _ _ e]; exact h.chain j hj
  · rw [hs.has_put (by omega)]
    by_cases e : b = a
    · rw [if_pos e, hin]
      refine ⟨fun x => by simp at x, ?_⟩
      rintro ⟨j, hj, hm⟩
      by_cases e2 : j = k
      · subst e2; rw [upd_same, e] at hm; exact absurd hm hnl
      · have := h.apart j k b hj hk (hsub b j hm) (by rw [he, e]; exact List.mem_cons_self ..)
        exact absurd this e2
    · rw [if_neg e, h.isIn b hb]
      constructor
      · rintro ⟨j, hj, hm⟩
        refine ⟨j, hj, ?_⟩
        by_cases e2 : j = k
        · subst e2; rw [upd_same]; rw [he] at hm; exact (List.mem_cons.1 hm).resolve_left e
        · rw [upd_other _ _ e2]; exact hm
      · rintro ⟨j, hj, hm⟩
        exact ⟨j, hj, hsub b j hm⟩
  · by_cases e : j = k
    · subst e; rw [upd_same]; exact hnd
    · rw [upd_other _ _ e]; exact h.once j hj
end Go.Proofs.YtooojajagkbhiaaDoor.Lis
