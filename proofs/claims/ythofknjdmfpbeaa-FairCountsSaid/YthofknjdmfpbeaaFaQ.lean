/-
  The law FairCounts answers true, of every row of numbers, any who and any block.
-/
import Derived.Test.YthofknjdmfpbeaaFaP
import Derived.Test.YthofknjdmfpbeaaFaH
namespace Go.Proofs.Ythofknjdmfpbeaa.Fa
open Go.RowKit Go.Shelf
open Go.Proofs.Ythofknjdmfpbeaa.Row
attribute [local go_sem] Oper.semAt_some

theorem Pk.own {w : World} {base cap : Nat} {p : Option Addr} {l : List Int} (h : w.ownsRow base 3 1 (.slice p l.length cap) l.length (cellsZ l)) (hl : l.length ≤ 10000) : Pk w p l cap := ⟨(Rd.of_owns h).rd0, hl, owns_cap h⟩
/-- How often those below n stand in a row, together. -/
def sumC : Nat → List Int → Nat
  | 0, _ => 0
  | n + 1, L => sumC n L + L.count ((n : Nat) : Int)
theorem sumC_cons (n : Nat) (x : Int) (L : List Int) : sumC n (x :: L) = sumC n L + if 0 ≤ x ∧ x < n then 1 else 0 := by
  induction n with
  | zero => simp [sumC]
  | succ n ih =>
    simp only [sumC, ih, List.count_cons, beq_iff_eq]
    by_cases h : x = (n : Int)
    · subst h
      rw [if_pos rfl, if_neg (by omega), if_pos (by omega)]
      omega
    · simp only [h, if_false]
      by_cases h2 : 0 ≤ x ∧ x < n
      · rw [if_pos h2, if_pos (by omega)]; omega
      · rw [if_neg h2, if_neg (by omega)]; omega
theorem sumC_all {n : Nat} {L : List Int} (h : ∀ x, x ∈ L → 0 ≤ x ∧ x < n) : sumC n L = L.length := by
  induction L with
  | nil =>
    clear h
    induction n with
    | zero => rfl
    | succ n ih => simp [sumC, ih]
  | cons x L ih =>
    rw [sumC_cons, if_pos (h x (by simp)), ih (fun y hy => h y (by simp [hy]))]
    rfl
theorem sumC_le (n : Nat) (L : List Int) : sumC n L ≤ n * L.length := by
  induction n with
  | zero => simp [sumC]
  | succ n ih =>
    simp only [sumC, Nat.succ_mul]
    have : L.count ((n : Nat) : Int) ≤ L.length := List.count_le_length
    omega
theorem SprP.part {raw : List Nat} {n B c : Nat} {L : List Int} (h : SprP raw n B c L) (hnB : n ≤ B) {p : Nat} (hp : p < n) {b : Nat} (hb : b < c) : (p : Int) ∈ win L (b * B) B := by
  have ha := ahd_lt (v := fun j => raw.getD (b * B + j) 0) hp
  have hl := h.len
  have hm : b * B + B ≤ c * B := by
    have := Nat.mul_le_mul_right B (show b + 1 ≤ c by omega)
    rwa [Nat.succ_mul] at this
  exact win_mem.2 ⟨_, by omega, by omega, h.hd b hb p hp⟩
theorem SprP.count {raw : List Nat} {n B c : Nat} {L : List Int} (h : SprP raw n B c L) (hnB : n ≤ B) {p : Nat} (hp : p < n) : ∀ b, b ≤ c → b ≤ (L.take (b * B)).count (p : Int) := by
  intro b
  induction b with
  | zero => omega
  | succ b ih =>
    intro hb
    have hi := ih (by omega)
    have hmem := h.part hnB hp (show b < c by omega)
    have e : L.take ((b + 1) * B) = L.take (b * B) ++ win L (b * B) B := by
      rw [Nat.succ_mul, List.take_add]; rfl
    rw [e, List.count_append]
    have := List.count_pos_iff.2 hmem
    omega
theorem SprP.many {raw : List Nat} {n B c : Nat} {L : List Int} (h : SprP raw n B c L) (hnB : n ≤ B) {p : Nat} (hp : p < n) : c ≤ L.count (p : Int) := by
  have := h.count hnB hp c (Nat.le_refl _)
  rwa [← h.len, List.take_length] at this

set_option maxHeartbeats 4000000 in
set_option maxRecDepth 100000 in
theorem counts_walk (p : Option Addr) (raw : List Nat) (cap who more : Nat) (hw : who < 256) (hm : more < 256) (w : World) (hcap : raw.length ≤ cap ∧ cap ≤ maxLen) (hr : Ru w p raw) :
    Calls Try.prog 7 #[.slice p raw.length cap, .int .u8 who, .int .u8 more] w fun e w' => e = .returned (.bool true) ∧ Below w.heap.size w w' := by
  by_cases hbig : 300 < raw.length
  · have i0 : (300 : Int) < (raw.length : Int) := by omega
    clear hr
    go_enter Try.func7, Try.ntmps7
    go_wp2_with (go_at_call 8; refine (awake_any _).mono ?_; rintro e w1 ⟨rfl, hb⟩)
    go_ret
    exact ⟨rfl, hb⟩
  have i0 : ¬ (300 : Int) < (raw.length : Int) := by omega
  obtain ⟨n, hn⟩ : ∃ n : Nat, 1 + (who : Int) % 6 = (n : Int) := ⟨1 + who % 6, by omega⟩
  have hn1 : 1 ≤ n := by omega
  have hn6 : n ≤ 6 := by omega
  obtain ⟨B, hB⟩ : ∃ B : Nat, (n : Int) + (more : Int) % 8 = (B : Int) := ⟨n + more % 8, by omega⟩
  have hnB : n ≤ B := by omega
  have hB2 : B ≤ 13 := by omega
  have HS := Lib.hid (spread_walk p raw cap n B w hn1 (by omega) hnB (by omega) (by omega) hcap hr)
  have hqz : ∃ N : Nat, (raw.length : Int) / (B : Int) = (N : Int) ∧ N = raw.length / B := ⟨raw.length / B, rfl, rfl⟩
  obtain ⟨N, hN, hN2⟩ := hqz
  have HN := Lib.hid hN2
  have hNB : N * B ≤ raw.length := by rw [hN2]; exact Nat.div_mul_le_self _ _
  have hBz : ¬ (B : Int) = 0 := by omega
  have hN300 : N ≤ 300 := Nat.le_trans (Nat.le_mul_of_pos_right N (by omega)) (Nat.le_trans hNB (by omega))
  clear hr hN2
  go_enter Try.func7, Try.ntmps7
  go_wp2_with (go_at_call 15; refine HS.out.mono ?_; rintro e w1 ⟨q, L, cq, rfl, hsp, hown, hb1⟩)
  rw [← HN.out] at hsp
  have hLl := hsp.len
  have hL3 : L.length ≤ 300 := by omega
  have HSP := Lib.hid hsp
  have HPK := Lib.hid (Pk.own hown (by omega))
  have HB1 := Lib.hid hb1
  have HLL := Lib.hid hLl
  clear hsp hown hb1 hLl
  go_loopw [10, 11, 12] (fun s i _ wr => ∃ c : Nat, c ≤ n ∧ i = .int .i64 c ∧ s = .int .i64 (sumC c L : Nat) ∧ w1 = wr) (fun _ i _ _ => n - (intOf i).toNat)
  case atStart => exact ⟨0, by omega, rfl, rfl, rfl⟩
  case round =>
    obtain ⟨c, hc, rfl, rfl, rfl⟩ := hrel
    have hsl := sumC_le c L
    have hsl2 : c * L.length ≤ 6 * 300 := Nat.mul_le_mul (by omega) hL3
    by_cases hlt : c < n
    · have j0 : (c : Int) < (n : Int) := by omega
      have HCN := Lib.hid (count_any (c : Int) w1 HPK.out)
      have hmany := HSP.out.many hnB hlt
      have hcl : L.count (c : Int) ≤ L.length := List.count_le_length
      have hs1 : sumC (c + 1) L = sumC c L + L.count (c : Int) := rfl
      have HS1 := Lib.hid hs1
      clear hs1
      generalize L.count (c : Int) = K at *
      have j1 : ¬ (K : Int) < (N : Int) := by omega
      go_wp2_with (go_at_call 9; refine HCN.out.mono ?_; rintro e wa ⟨rfl, rfl⟩)
      go_roundw
      case rel => exact ⟨c + 1, by omega, by go_num, by rw [HS1.out]; go_num, by first | exact rfl | trivial⟩
      case measure => simp [intOf]; omega
    · obtain rfl : c = n := by omega
      have e1 : sumC c L = L.length := sumC_all HSP.out.rng
      rw [e1]
      have e2 : ((N : Int) * (B : Int)) = ((L.length : Nat) : Int) := by rw [HLL.out]; simp
      have e3 : ((L.length : Int) == (L.length : Int)) = true := by simp
      clear hsl hsl2 e1
      go_wp2_with (go_at_call 8; refine (awake_any _).mono ?_; rintro e w2 ⟨rfl, hb2⟩)
      go_ret
      exact ⟨rfl, HB1.out.trans (hb2.mono HB1.out.size)⟩
end Go.Proofs.Ythofknjdmfpbeaa.Fa
