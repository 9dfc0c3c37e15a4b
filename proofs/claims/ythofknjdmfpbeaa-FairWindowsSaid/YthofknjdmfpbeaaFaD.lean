/-
  windows: each so many picks, one behind the other, as whoever ranges over them is told.
-/
import Derived.Test.YthofknjdmfpbeaaFaC
import Derived.Test.YthofknjdmfpbeaaTold
namespace Go.Proofs.Ythofknjdmfpbeaa.Fa
open Go.RowKit Go.Shelf
open Go.Proofs.Ythofknjdmfpbeaa.Row
attribute [local go_sem] Oper.semAt_some

/-- How many windows there are. -/
def wins (len : Nat) (k : Int) : Nat := if 1 ≤ k then len + 1 - k.toNat else 0
theorem wins_bad {len : Nat} {k : Int} (h : k < 1) : wins len k = 0 := by unfold wins; rw [if_neg (by omega)]
theorem wins_good (len k : Nat) (h : 1 ≤ k) : wins len (k : Int) = len + 1 - k := by unfold wins; rw [if_pos (by omega)]; simp

/-- A slice's base, so many places on. -/
def onP (p : Option Addr) (i : Nat) : Option Addr := p.map fun a => ⟨a.block, a.off + i, a.spot⟩
/-- What is told of a window. -/
def encW (p : Option Addr) (cap k : Nat) (i : Nat) : Array Value := #[.int .i64 (i : Nat), .slice (onP p i) k (cap - i)]

set_option maxRecDepth 100000 in
set_option maxHeartbeats 2000000 in
theorem windows1_told (m Bk Bp : Nat) (p : Option Addr) (len cap k : Nat) (hk : 1 ≤ k ∧ k ≤ 9223372036854775807) (hlen : len ≤ 100000 ∧ len ≤ cap) (hp : ∀ a, p = some a → a.spot = none) (hpn : p = none → len = 0) (w : World) :
    SeqTold Fence.wide m Try.prog 26 #[.pointer (some ⟨Bk, 0, none⟩), .pointer (some ⟨Bp, 0, none⟩)] (len + 1 - k) (encW p cap k) (fun W => W.cell? ⟨Bk, 0, none⟩ = some (.int .i64 k) ∧ W.cell? ⟨Bp, 0, none⟩ = some (.slice p len cap)) w := by
  refine SeqTold.any (n := 4) ?_
  intro lp J Jx W hW hJ hJx hT hY h0
  obtain ⟨O0, hj0, hO0⟩ := h0
  obtain ⟨hB, hB2⟩ := hT _ _ _ hj0
  clear hJ hJx
  have hk0 : ¬ (k : Int) < 1 := by omega
  refine callsIn_of_wp Try.func26 rfl trivial ?_ rfl
  simp only [Try.ntmps26, List.size_toArray, List.length_cons, List.length_nil, Nat.reduceAdd, Nat.reduceSub, Array.replicate_succ, Array.replicate_zero, List.push_toArray, List.append_toArray, List.nil_append, List.cons_append]
  gi_wp2
  clear hB hB2
  gi_loopw [4, 12] (fun _ i wr => ∃ c : Nat, c ≤ len + 1 - k ∧ i = .int .i64 (c : Int) ∧ W.heap.size ≤ wr.heap.size ∧ ∃ O, J O c wr ∧ ∀ k, O k → k < wr.heap.size)
    (fun _ i _ => len + 1 - (intOf i).toNat)
  case atStart => exact ⟨0, Nat.zero_le _, rfl, Nat.le_refl _, O0, hj0, hO0⟩
  case round =>
    obtain ⟨c, hc, rfl, hsz, O, hJm, hOm⟩ := hrel
    by_cases hlt : c < len + 1 - k
    · obtain ⟨hB, hB2⟩ := hT _ _ _ hJm
      obtain ⟨a, rfl⟩ : ∃ a, p = some a := by
        cases p with
        | none => have := hpn rfl; omega
        | some a => exact ⟨a, rfl⟩
      obtain ⟨g, off, sp⟩ := a
      obtain rfl : sp = none := hp _ rfl
      have i0 : (c : Int) < (len : Int) - (k : Int) + 1 := by omega
      have i1 : (0 : Int) ≤ (c : Int) := Int.natCast_nonneg _
      have i2 : (c : Int) ≤ (c : Int) + (k : Int) := by omega
      have i3 : (c : Int) + (k : Int) ≤ (cap : Int) := by omega
      obtain ⟨fn, tmps, assign, body, hy, hR⟩ := hY O c wr hlt hJm hOm hsz
      unfold encW onP at hy
      simp only [Option.map_some] at hy
      gi_wp2
      refine hR.mono ?_
      rintro e W3 ⟨O', ht3, (⟨rfl, hJ3⟩ | ⟨rfl, hJx3⟩)⟩
      · have hs3 := ht3.size
        have ho3 := ht3.lt
        gi_wp2
        go_roundw
        case rel => exact ⟨c + 1, by omega, by go_num, by omega, O', hJ3, ho3⟩
        case measure => simp [intOf]; omega
      · have hs3 := ht3.size
        have ho3 := ht3.lt
        gi_wp2
        refine bodyPost_ret (results_none rfl _ _ _) rfl ?_
        exact ⟨⟨_, rfl⟩, O', ho3, by omega, .inr ⟨_, hlt, hJx3⟩⟩
    · have i0 : ¬ (c : Int) < (len : Int) - (k : Int) + 1 := by omega
      obtain rfl : c = len + 1 - k := by omega
      gi_wp2
      go_end0
      exact ⟨⟨_, rfl⟩, O, hOm, hsz, .inl hJm⟩

set_option maxRecDepth 100000 in
/-- Of a k below 1 nothing is told. -/
theorem windows1_bad (m Bk Bp : Nat) (k : Int) (hk : k < 1) (encs : Nat → Array Value) (w : World) :
    SeqTold Fence.wide m Try.prog 26 #[.pointer (some ⟨Bk, 0, none⟩), .pointer (some ⟨Bp, 0, none⟩)] 0 encs (fun W => W.cell? ⟨Bk, 0, none⟩ = some (.int .i64 k)) w := by
  refine SeqTold.any (n := 4) ?_
  intro lp J Jx W hW hJ hJx hT hY h0
  obtain ⟨O0, hj0, hO0⟩ := h0
  have hB := hT _ _ _ hj0
  clear hJ hJx hT hY
  refine callsIn_of_wp Try.func26 rfl trivial ?_ rfl
  simp only [Try.ntmps26, List.size_toArray, List.length_cons, List.length_nil, Nat.reduceAdd, Nat.reduceSub, Array.replicate_succ, Array.replicate_zero, List.push_toArray, List.append_toArray, List.nil_append, List.cons_append]
  gi_wp2
  refine bodyPost_ret (results_none rfl _ _ _) rfl ?_
  exact ⟨⟨_, rfl⟩, O0, hO0, Nat.le_refl _, hj0⟩

theorem windows_fn (p : Option Addr) (n c : Nat) (k : Int) (w : World) : Calls Try.prog 17 #[.slice p n c, .int .i64 k] w fun e w' =>
    e = .returned (.func (.func 26) #[] #[.pointer (some ⟨w.heap.size + 1, 0, none⟩), .pointer (some ⟨w.heap.size, 0, none⟩)]) ∧ (w.alloc (.cells #[.slice p n c] 22)).alloc (.cells #[.int .i64 k] 3) = w' := by
  go_enter Try.func17, Try.ntmps17
  go_wp2
  go_ret
  exact ⟨rfl, rfl⟩
end Go.Proofs.Ythofknjdmfpbeaa.Fa
