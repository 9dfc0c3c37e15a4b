/-
  (*arena.Arena).Store and Load, of every arena that there is, and of none, at every address.
-/
import Derived.Test.YtooojajagkbhiaaDoorArA
namespace Go.Proofs.YtooojajagkbhiaaDoor.Arena
open Go.RowKit

/-- Which error a load or a store tells. -/
def codeN (n : Nat) (a : Int) : Int := if a = 0 then 6 else if a < 0 ∨ (n : Int) < a then 4 else 0
theorem codeN_zero {n : Nat} {a : Int} (h : codeN n a = 0) : 1 ≤ a ∧ a ≤ n := by
  unfold codeN at h
  split at h
  · omega
  · split at h <;> omega

theorem store_nil (a x : Int) (w : World) : Calls Tryd.prog 56 #[.pointer none, .int .i64 a, .int .u64 x] w fun e w' => e = .returned (.int .i64 11) ∧ Below w.heap.size w w' := by
  go_enter Tryd.func56, Tryd.ntmps56
  go_wp2_with (go_enter Tryd.func40, Tryd.ntmps40)
  go_ret
  exact ⟨rfl, ((Below.refl _ _).alloc (Nat.le_refl _) _).alloc (by simp) _⟩
theorem load_nil (a : Int) (w : World) : Calls Tryd.prog 18 #[.pointer none, .int .i64 a] w fun e w' => e = .returned (.tuple #[.int .u64 0, .int .i64 11]) ∧ Below w.heap.size w w' := by
  go_enter Tryd.func18, Tryd.ntmps18
  go_wp2_with (go_enter Tryd.func40, Tryd.ntmps40)
  go_ret2
  exact ⟨rfl, ((Below.refl _ _).alloc (Nat.le_refl _) _).alloc (by simp) _⟩

/-- What is done with a word that is stored. -/
theorem store1_any {B G cap ld st : Nat} {ws : List Nat} (w : World) (h : ArIs w B G cap ws ld st) (hst : st < 1000000) {k : Nat} (hk : k < ws.length) (x : Nat) {p q : Nat}
    (hp : w.cell? ⟨p, 0, none⟩ = some (.int .u64 x)) (hq : w.cell? ⟨q, 0, none⟩ = some (.pointer (some ⟨B, 0, none⟩))) (hqG : q ≠ G) :
    Calls Tryd.prog 70 #[.pointer (some ⟨G, k, none⟩), .pointer (some ⟨p, 0, none⟩), .pointer (some ⟨q, 0, none⟩)] w fun e w' => e = .returned (.tuple #[]) ∧ w' = (w.setCell ⟨G, k, none⟩ (.int .u64 x)).setCell ⟨B, 2, none⟩ (.int .i64 (st + 1 : Nat)) := by
  have hne := h.ne
  have hat := h.at_ k hk
  have hfz := h.fz k hk
  have hcs := h.cs
  have hf2 := h.f2
  have hnq : (⟨G, k, none⟩ : Addr) ≠ ⟨q, 0, none⟩ := by first | (simp; done) | (simp; omega)
  have hnB : (⟨G, k, none⟩ : Addr) ≠ ⟨B, 2, none⟩ := by first | (simp; done) | (simp; omega)
  clear h
  go_enter Tryd.func70, Tryd.ntmps70
  go_wp2
  exact bodyPost_end (results_none rfl _ _ _) rfl ⟨rfl, rfl⟩
/-- What is done with a word that is loaded. -/
theorem load1_any {B G cap ld st : Nat} {ws : List Nat} (w : World) (h : ArIs w B G cap ws ld st) (hld : ld < 1000000) {k : Nat} (hk : k < ws.length) {p q : Nat} {u : Value}
    (hp : w.cell? ⟨p, 0, none⟩ = some u) (hpf : w.frozen? ⟨p, 0, none⟩ = false) (hq : w.cell? ⟨q, 0, none⟩ = some (.pointer (some ⟨B, 0, none⟩))) (hpq : p ≠ q) (hpB : p ≠ B) :
    Calls Tryd.prog 41 #[.pointer (some ⟨G, k, none⟩), .pointer (some ⟨p, 0, none⟩), .pointer (some ⟨q, 0, none⟩)] w fun e w' => e = .returned (.tuple #[]) ∧ w' = (w.setCell ⟨p, 0, none⟩ (.int .u64 (wd ws k))).setCell ⟨B, 1, none⟩ (.int .i64 (ld + 1 : Nat)) := by
  have hne := h.ne
  have hat := h.at_ k hk
  have hcl := h.cl
  have hf1 := h.f1
  have hnq : (⟨p, 0, none⟩ : Addr) ≠ ⟨q, 0, none⟩ := by first | (simp; done) | (simp; omega)
  have hnB : (⟨p, 0, none⟩ : Addr) ≠ ⟨B, 1, none⟩ := by first | (simp; done) | (simp; omega)
  clear h
  go_enter Tryd.func41, Tryd.ntmps41
  go_wp2
  exact bodyPost_end (results_none rfl _ _ _) rfl ⟨rfl, rfl⟩

/-- A store that is refused. -/
theorem store_bad {B G cap ld st : Nat} {ws : List Nat} (w : World) (h : ArIs w B G cap ws ld st) (a x : Int) (ha : codeN ws.length a ≠ 0) :
    Calls Tryd.prog 56 #[.pointer (some ⟨B, 0, none⟩), .int .i64 a, .int .u64 x] w fun e w' => e = .returned (.int .i64 (codeN ws.length a)) ∧ Below w.heap.size w w' := by
  have hc := h.cw
  have hlB := h.ltB
  have hnB1 : B ≠ w.heap.size := by omega
  have hnB2 : B ≠ w.heap.size + 1 := by omega
  clear h
  unfold codeN at ha ⊢
  by_cases h0 : a = 0
  · subst h0
    go_enter Tryd.func56, Tryd.ntmps56
    go_wp2_with (go_enter Tryd.func40, Tryd.ntmps40)
    go_ret
    exact ⟨rfl, ((Below.refl _ _).alloc (Nat.le_refl _) _).alloc (by simp) _⟩
  · rw [if_neg h0] at ha ⊢
    by_cases h1 : a < 0
    · rw [if_pos (Or.inl h1)]
      go_enter Tryd.func56, Tryd.ntmps56
      go_wp2_with (go_enter Tryd.func40, Tryd.ntmps40)
      go_ret
      exact ⟨rfl, ((Below.refl _ _).alloc (Nat.le_refl _) _).alloc (by simp) _⟩
    · have h2 : (ws.length : Int) < a := by
        by_cases h2 : (ws.length : Int) < a
        · exact h2
        · exact absurd (if_neg (by omega)) ha
      rw [if_pos (Or.inr h2)]
      clear ha
      go_enter Tryd.func56, Tryd.ntmps56
      go_wp2_with (go_enter Tryd.func40, Tryd.ntmps40)
      go_ret
      exact ⟨rfl, ((Below.refl _ _).alloc (Nat.le_refl _) _).alloc (by simp) _⟩

set_option maxRecDepth 100000 in
set_option maxHeartbeats 1000000 in
/-- A store. -/
theorem store_good {B G cap ld st : Nat} {ws : List Nat} (w : World) (h : ArIs w B G cap ws ld st) (hG : G < w.heap.size) (hst : st < 1000000) (k : Nat) (hk : k < ws.length) (x : Nat) :
    Calls Tryd.prog 56 #[.pointer (some ⟨B, 0, none⟩), .int .i64 (k + 1 : Nat), .int .u64 x] w fun e w' => e = .returned (.int .i64 0) ∧ ArIs w' B G cap (ws.set k x) ld (st + 1) ∧ Two B G w w' := by
  have hc := h.cw
  have hcap := h.capn
  have hsm := h.small
  have hlB := h.ltB
  have hnB1 : B ≠ w.heap.size := by omega
  have hnB2 : B ≠ w.heap.size + 1 := by omega
  have i1 : (0 : Int) ≤ (k : Int) := Int.natCast_nonneg _
  have i2 : (k : Int) < (ws.length : Int) := by omega
  have h1 : ¬ (((k + 1 : Nat) : Int) = 0) := by omega
  have h2 : ¬ (((k + 1 : Nat) : Int) < 0) := by omega
  have h3 : ¬ ((ws.length : Int) < ((k + 1 : Nat) : Int)) := by omega
  have h4 : (((k + 1 : Nat) : Int)) - 1 = k := by omega
  have H := Lib.hid h
  clear h
  go_enter Tryd.func56, Tryd.ntmps56
  go_wp2_with (first
    | go_enter Tryd.func40, Tryd.ntmps40
    | (go_at_call 70; refine (store1_any _ (H.out.below (((Below.refl _ _).alloc (Nat.le_refl _) _).alloc (by simp) _) hlB hG) hst hk x (by simp) (by simp) (by omega)).mono ?_; rintro e w' ⟨rfl, rfl⟩))
  go_ret
  exact ⟨rfl, (H.out.put hk x).below (((Below.refl _ _).alloc (Nat.le_refl _) _).alloc (by simp) _) (by simpa [World.setCell] using hlB) (by simpa [World.setCell] using hG),
    ((((Two.refl B G w).set (.inr (.inl rfl)) _).set (.inl rfl) _).alloc _).alloc _⟩

/-- A load that is refused. -/
theorem load_bad {B G cap ld st : Nat} {ws : List Nat} (w : World) (h : ArIs w B G cap ws ld st) (a : Int) (ha : codeN ws.length a ≠ 0) :
    Calls Tryd.prog 18 #[.pointer (some ⟨B, 0, none⟩), .int .i64 a] w fun e w' => e = .returned (.tuple #[.int .u64 0, .int .i64 (codeN ws.length a)]) ∧ Below w.heap.size w w' := by
  have hc := h.cw
  have hlB := h.ltB
  have hnB1 : B ≠ w.heap.size := by omega
  have hnB2 : B ≠ w.heap.size + 1 := by omega
  clear h
  unfold codeN at ha ⊢
  by_cases h0 : a = 0
  · subst h0
    go_enter Tryd.func18, Tryd.ntmps18
    go_wp2_with (go_enter Tryd.func40, Tryd.ntmps40)
    go_ret2
    exact ⟨rfl, ((Below.refl _ _).alloc (Nat.le_refl _) _).alloc (by simp) _⟩
  · rw [if_neg h0] at ha ⊢
    by_cases h1 : a < 0
    · rw [if_pos (Or.inl h1)]
      go_enter Tryd.func18, Tryd.ntmps18
      go_wp2_with (go_enter Tryd.func40, Tryd.ntmps40)
      go_ret2
      exact ⟨rfl, ((Below.refl _ _).alloc (Nat.le_refl _) _).alloc (by simp) _⟩
    · have h2 : (ws.length : Int) < a := by
        by_cases h2 : (ws.length : Int) < a
        · exact h2
        · exact absurd (if_neg (by omega)) ha
      rw [if_pos (Or.inr h2)]
      clear ha
      go_enter Tryd.func18, Tryd.ntmps18
      go_wp2_with (go_enter Tryd.func40, Tryd.ntmps40)
      go_ret2
      exact ⟨rfl, ((Below.refl _ _).alloc (Nat.le_refl _) _).alloc (by simp) _⟩

set_option maxRecDepth 100000 in
set_option maxHeartbeats 1000000 in
/-- A load. -/
theorem load_good {B G cap ld st : Nat} {ws : List Nat} (w : World) (h : ArIs w B G cap ws ld st) (hG : G < w.heap.size) (hld : ld < 1000000) (k : Nat) (hk : k < ws.length) :
    Calls Tryd.prog 18 #[.pointer (some ⟨B, 0, none⟩), .int .i64 (k + 1 : Nat)] w fun e w' => e = .returned (.tuple #[.int .u64 (wd ws k), .int .i64 0]) ∧ ArIs w' B G cap ws (ld + 1) st ∧ Two B G w w' := by
  have hc := h.cw
  have hcap := h.capn
  have hsm := h.small
  have hlB := h.ltB
  have hnB1 : B ≠ w.heap.size := by omega
  have hnB2 : B ≠ w.heap.size + 1 := by omega
  have i1 : (0 : Int) ≤ (k : Int) := Int.natCast_nonneg _
  have i2 : (k : Int) < (ws.length : Int) := by omega
  have h1 : ¬ (((k + 1 : Nat) : Int) = 0) := by omega
  have h2 : ¬ (((k + 1 : Nat) : Int) < 0) := by omega
  have h3 : ¬ ((ws.length : Int) < ((k + 1 : Nat) : Int)) := by omega
  have h4 : (((k + 1 : Nat) : Int)) - 1 = k := by omega
  have H := Lib.hid h
  clear h
  go_enter Tryd.func18, Tryd.ntmps18
  go_wp2_with (first
    | go_enter Tryd.func40, Tryd.ntmps40
    | (go_at_call 41; refine (load1_any _ (H.out.below (((Below.refl _ _).alloc (Nat.le_refl _) _).alloc (by simp) _) hlB hG) hld hk (u := .int .u64 0) (by simp) (by simp) (by simp) (by omega) (by omega)).mono ?_; rintro e w' ⟨rfl, rfl⟩))
  go_ret2
  exact ⟨rfl, (H.out.got).below (((Below.refl _ _).alloc (Nat.le_refl _) _).alloc (by simp) _) (by simpa [World.setCell] using hlB) (by simpa [World.setCell] using hG),
    (((Two.refl B G w).set (.inl rfl) _).alloc _).alloc _⟩

/-- Is it counted? -/
def oneN (n : Nat) (a : Int) : Nat := if codeN n a = 0 then 1 else 0
/-- The words behind a store. -/
def putS (ws : List Nat) (a : Int) (x : Nat) : List Nat := if codeN ws.length a = 0 then ws.set (a.toNat - 1) x else ws
/-- What a load tells. -/
def getR (ws : List Nat) (a : Int) : Nat := if codeN ws.length a = 0 then wd ws (a.toNat - 1) else 0
theorem putS_length (ws : List Nat) (a : Int) (x : Nat) : (putS ws a x).length = ws.length := by unfold putS; split <;> simp
theorem oneN_le (n : Nat) (a : Int) : oneN n a ≤ 1 := by unfold oneN; split <;> omega

theorem codeN_place {n : Nat} {a : Int} (h : codeN n a = 0) : ∃ k : Nat, k < n ∧ a = (k + 1 : Nat) ∧ a.toNat - 1 = k := by
  have h1 := codeN_zero h
  exact ⟨a.toNat - 1, by omega, by omega, rfl⟩

theorem store_any {B G cap ld st : Nat} {ws : List Nat} (w : World) (h : ArIs w B G cap ws ld st) (hG : G < w.heap.size) (hst : st < 1000000) (a : Int) (x : Nat) :
    Calls Tryd.prog 56 #[.pointer (some ⟨B, 0, none⟩), .int .i64 a, .int .u64 x] w fun e w' => e = .returned (.int .i64 (codeN ws.length a)) ∧ ArIs w' B G cap (putS ws a x) ld (st + oneN ws.length a) ∧ Two B G w w' := by
  by_cases hz : codeN ws.length a = 0
  · have e1 : putS ws a x = ws.set (a.toNat - 1) x := if_pos hz
    have e2 : oneN ws.length a = 1 := if_pos hz
    obtain ⟨k, hk, rfl, h3⟩ := codeN_place hz
    rw [e1, e2, hz, h3]
    exact store_good w h hG hst k hk x
  · have e1 : putS ws a x = ws := if_neg hz
    have e2 : oneN ws.length a = 0 := if_neg hz
    rw [e1, e2]
    exact (store_bad w h a x hz).mono fun e w' ⟨he, hb⟩ => ⟨he, h.below hb h.ltB hG, Two.of_below hb⟩
theorem load_any {B G cap ld st : Nat} {ws : List Nat} (w : World) (h : ArIs w B G cap ws ld st) (hG : G < w.heap.size) (hld : ld < 1000000) (a : Int) :
    Calls Tryd.prog 18 #[.pointer (some ⟨B, 0, none⟩), .int .i64 a] w fun e w' => e = .returned (.tuple #[.int .u64 (getR ws a), .int .i64 (codeN ws.length a)]) ∧ ArIs w' B G cap ws (ld + oneN ws.length a) st ∧ Two B G w w' := by
  by_cases hz : codeN ws.length a = 0
  · have e1 : getR ws a = wd ws (a.toNat - 1) := if_pos hz
    have e2 : oneN ws.length a = 1 := if_pos hz
    obtain ⟨k, hk, rfl, h3⟩ := codeN_place hz
    rw [e1, e2, hz, h3]
    exact load_good w h hG hld k hk
  · have e1 : getR ws a = 0 := if_neg hz
    have e2 : oneN ws.length a = 0 := if_neg hz
    rw [e1, e2]
    exact (load_bad w h a hz).mono fun e w' ⟨he, hb⟩ => ⟨he, h.below hb h.ltB hG, Two.of_below hb⟩
end Go.Proofs.YtooojajagkbhiaaDoor.Arena
