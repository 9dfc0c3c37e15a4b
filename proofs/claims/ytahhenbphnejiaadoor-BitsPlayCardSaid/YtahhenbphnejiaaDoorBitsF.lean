/-
  slices.Equal over words, and bits.Same, of every two sets that there are, or of none.
-/
import Derived.Test.YtahhenbphnejiaaDoorBitsE
namespace Go.Proofs.YtahhenbphnejiaaDoor.Bits
open Go.RowKit

theorem eq_of_wd {ws vs : List Nat} (hl : ws.length = vs.length) (h : ∀ j, j < ws.length → wd ws j = wd vs j) : ws = vs := by
  apply List.ext_getElem hl
  intro i h1 h2
  have := h i h1
  unfold wd at this
  simpa [List.getD_eq_getElem?_getD, h1, h2] using this

set_option maxHeartbeats 2000000 in
theorem equal_in (G H capG capH : Nat) (ws vs : List Nat) (w : World) (hl : ws.length = vs.length) (hm : ws.length ≤ 2097152)
    (hc : ∀ j, j < ws.length → w.cell? ⟨G, j, none⟩ = some (.int .u64 (wd ws j))) (hd : ∀ j, j < vs.length → w.cell? ⟨H, j, none⟩ = some (.int .u64 (wd vs j))) :
    Calls Tryd.prog 52 #[.slice (some ⟨G, 0, none⟩) ws.length capG, .slice (some ⟨H, 0, none⟩) ws.length capH] w fun e w' => (∃ b : Bool, e = .returned (.bool b) ∧ (b = true ↔ ws = vs)) ∧ ∃ k, w' = w.drewN k := by
  have HL := Lib.hid hl
  clear hl
  go_enter Tryd.func52, Tryd.ntmps52
  go_wp2
  go_loopw [13] (fun t wr => ∃ k : Nat, k ≤ ws.length ∧ t = .int .i64 k ∧ (∀ j, j < k → wd ws j = wd vs j) ∧ ∃ q, wr = w.drewN q) (fun t _ => ws.length - (intOf t).toNat)
  case atStart => exact ⟨0, Nat.zero_le _, rfl, fun j h => absurd h (Nat.not_lt_zero _), 0, rfl⟩
  case round =>
    obtain ⟨k, hk, rfl, he, q, rfl⟩ := hrel
    have HE := Lib.hid he
    clear he
    by_cases hlt : k < ws.length
    · have c1 := hc k hlt
      have c2 := hd k (by rw [← HL.out]; exact hlt)
      have HC := Lib.hid hc
      have HD := Lib.hid hd
      clear hc hd
      have i1 : (0 : Int) ≤ (k : Int) := Int.natCast_nonneg _
      have i2 : (k : Int) < (ws.length : Int) := by omega
      by_cases hne : wd ws k = wd vs k
      · have hb : (((wd ws k : Nat) : Int) != ((wd vs k : Nat) : Int)) = false := by rw [hne]; simp
        have HN := Lib.hid hne
        clear hne
        go_wp2
        go_quiet (fail)
        go_wp2
        go_roundw
        case rel => exact ⟨k + 1, by omega, by go_num, fun j hj => by rcases Nat.lt_succ_iff_lt_or_eq.1 hj with h | h; exact HE.out j h; subst h; exact HN.out, _, rfl⟩
        case measure => simp [intOf]; omega
      · have hb : (((wd ws k : Nat) : Int) != ((wd vs k : Nat) : Int)) = true := by simp; omega
        have HN := Lib.hid hne
        clear hne
        go_wp2
        go_quiet (fail)
        go_wp2
        go_ret
        exact ⟨⟨false, rfl, ⟨fun h => Bool.noConfusion h, fun h => absurd (congrArg (fun l => wd l k) h) HN.out⟩⟩, q + nq, by rw [World.drewN_drewN]⟩
    · go_wp2
      go_ret
      exact ⟨⟨true, rfl, ⟨fun _ => eq_of_wd HL.out (fun j hj => HE.out j (by omega)), fun _ => rfl⟩⟩, _, rfl⟩

theorem same_nils (w : World) : Calls Tryd.prog 26 #[.pointer none, .pointer none] w fun e w' => e = .returned (.bool true) ∧ w = w' := by
  go_enter Tryd.func26, Tryd.ntmps26
  go_wp2
  go_ret
  exact ⟨rfl, rfl⟩
theorem same_left (a : Addr) (w : World) : Calls Tryd.prog 26 #[.pointer (some a), .pointer none] w fun e w' => e = .returned (.bool false) ∧ w = w' := by
  go_enter Tryd.func26, Tryd.ntmps26
  go_wp2
  go_ret
  exact ⟨rfl, rfl⟩

set_option maxHeartbeats 2000000 in
theorem same_sizes (B C : Nat) (m n : Nat) (w : World) (hc : w.cell? ⟨B, 0, none⟩ = some (.int .i64 m)) (hd : w.cell? ⟨C, 0, none⟩ = some (.int .i64 n)) (hne : m ≠ n) :
    Calls Tryd.prog 26 #[.pointer (some ⟨B, 0, none⟩), .pointer (some ⟨C, 0, none⟩)] w fun e w' => e = .returned (.bool false) ∧ ∃ k, w' = w.drewN k := by
  have hb : ((m : Int) == (n : Int)) = false := by simp; omega
  clear hne
  go_enter Tryd.func26, Tryd.ntmps26
  go_wp2
  go_quiet (fail)
  go_wp2
  go_ret
  exact ⟨rfl, _, rfl⟩

set_option maxHeartbeats 2000000 in
theorem same_in (B G C H size capG capH : Nat) (ws vs : List Nat) (w : World) (hs : SetIs w B G size capG ws) (ht : SetIs w C H size capH vs) :
    Calls Tryd.prog 26 #[.pointer (some ⟨B, 0, none⟩), .pointer (some ⟨C, 0, none⟩)] w fun e w' => (∃ b : Bool, e = .returned (.bool b) ∧ (b = true ↔ ws = vs)) ∧ ∃ k, w' = w.drewN k := by
  have hl : ws.length = vs.length := by rw [hs.row.len, ht.row.len]
  have hm : ws.length ≤ 2097152 := by have := hs.row.len; have := hs.small; omega
  have c1 := hs.cs
  have c2 := ht.cs
  have c3 := hs.cw
  have c4 := ht.cw
  rw [← hl] at c4
  obtain ⟨b, hb⟩ : ∃ b : Bool, (b = true ↔ ws = vs) := ⟨decide (ws = vs), by simp⟩
  have key : ∀ q, Calls Tryd.prog 52 #[.slice (some ⟨G, 0, none⟩) ws.length capG, .slice (some ⟨H, 0, none⟩) ws.length capH] (w.drewN q) fun e w' => e = .returned (.bool b) ∧ ∃ m, w' = (w.drewN q).drewN m := fun q =>
    (equal_in G H capG capH ws vs (w.drewN q) hl hm hs.at_ ht.at_).mono fun e w' ⟨⟨b', he, hb'⟩, hw⟩ => ⟨by
      have : b' = b := by rw [Bool.eq_iff_iff, hb, hb']
      rw [he, this], hw⟩
  have HB := Lib.hid hb
  have KEY := Lib.hid key
  clear hs ht hl hb key
  go_enter Tryd.func26, Tryd.ntmps26
  go_wp2
  go_quiet ((go_at_call 52; exact Calls.quiet_of (KEY.out _)))
  go_wp2
  go_ret
  exact ⟨⟨b, rfl, HB.out⟩, _, rfl⟩
end Go.Proofs.YtahhenbphnejiaaDoor.Bits
