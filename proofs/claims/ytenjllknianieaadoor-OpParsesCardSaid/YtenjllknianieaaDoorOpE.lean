/-
  op: byName, Parse$1.
-/
import Derived.Test.YtenjllknianieaaDoorOpD
import Derived.Lib.SlicesS
namespace Go.Proofs.YtenjllknianieaaDoor.Opr
open Go.RowKit

theorem bs_inj {l m : List UInt8} (h : bs l = bs m) : l = m := by
  have := congrArg (fun b : ByteArray => b.data.toList) h
  simpa [bs] using this
theorem bs_of (s : ByteArray) : bs s.data.toList = s := rfl

theorem beq_bytes (x y : ByteArray) : (x.toList == y.toList) = true ↔ x = y := Lib.bytes_beq_iff x y
/-- What byName tells. -/
def NameB (s : ByteArray) (e : Ending) : Prop := (∃ k : Nat, e = .returned (.tuple #[.int .i64 k, .bool true]) ∧ 1 ≤ k ∧ k ≤ 8 ∧ s = bs (wordK k)) ∨ (e = .returned (.tuple #[.int .i64 0, .bool false]) ∧ ∀ j, 1 ≤ j → j ≤ 8 → s ≠ bs (wordK j))
set_option maxRecDepth 100000 in
set_option maxHeartbeats 2000000 in
theorem byName_any (s : ByteArray) (w : World) (ht : FormTab w) :
    Calls Tryd.prog 52 #[.string s] w fun e w' => NameB s e ∧ w' = w := by
  have HT := Lib.hid ht
  clear ht
  go_enter Tryd.func52, Tryd.ntmps52
  go_wp2_with fail
  go_loop [5] (fun i => ∃ p : Nat, p ≤ 9 ∧ i = .int .i64 p ∧ ∀ j, 1 ≤ j → j < p → s ≠ bs (wordK j)) (fun i => 9 - (intOf i).toNat)
  case atStart => exact ⟨0, by omega, rfl, fun j h1 h2 => by omega⟩
  case round =>
    obtain ⟨p, hp, rfl, hno⟩ := hrel
    have HN := Lib.hid hno
    clear hno
    have p0 : (0 : Int) ≤ (p : Int) := by omega
    by_cases hlt : p < 9
    · have p9 : (p : Int) < 9 := by omega
      have hw := HT.out.word p hlt
      cases hk : isK (p : Int) with
      | false =>
        go_wp2_with (go_at_call 46; refine (is_any _ _).mono ?_; rw [hk]; rintro e w' ⟨rfl, rfl⟩)
        go_round
        case rel =>
          refine ⟨p + 1, by omega, by go_num, fun j h1 h2 => ?_⟩
          by_cases hj : j < p
          · exact HN.out j h1 hj
          · obtain rfl : j = p := by omega
            rw [isK_of h1 (by omega)] at hk
            cases hk
        case measure => simp [intOf]; omega
      | true =>
        have h18 : 1 ≤ p ∧ p ≤ 8 := by
          simp only [isK, Bool.and_eq_true, decide_eq_true_eq] at hk; omega
        by_cases hs : bs (wordK p) = s
        · have hq : ((bs (wordK p)).toList == s.toList) = true := (beq_bytes _ _).2 hs
          have HS := Lib.hid hs
          have H18 := Lib.hid h18
          clear hs h18
          go_wp2_with (go_at_call 46; refine (is_any _ _).mono ?_; rw [hk]; rintro e w' ⟨rfl, rfl⟩)
          go_ret2
          exact ⟨.inl ⟨p, rfl, H18.out.1, H18.out.2, HS.out.symm⟩, rfl⟩
        · have hq : ((bs (wordK p)).toList == s.toList) = false := by rw [Bool.eq_false_iff]; exact fun h => hs ((beq_bytes _ _).1 h)
          have HS := Lib.hid hs
          have H18 := Lib.hid h18
          clear hs h18
          go_wp2_with (go_at_call 46; refine (is_any _ _).mono ?_; rw [hk]; rintro e w' ⟨rfl, rfl⟩)
          go_round
          case rel =>
            refine ⟨p + 1, by omega, by go_num, fun j h1 h2 => ?_⟩
            by_cases hj : j < p
            · exact HN.out j h1 hj
            · obtain rfl : j = p := by omega
              exact fun e => HS.out e.symm
          case measure => simp [intOf]; omega
    · obtain rfl : p = 9 := by omega
      go_wp2
      go_ret2
      exact ⟨.inr ⟨rfl, fun j h1 h8 => HN.out j h1 (by omega)⟩, rfl⟩

/-- A line's words as they lie: strings, one behind the other. -/
def WordsAt (w : World) (N : Nat) (l : List ByteArray) : Prop := ∀ j x, l[j]? = some x → w.cell? ⟨N, j, none⟩ = some (.string x)
theorem WordsAt.later {w w' : World} {N : Nat} {l : List ByteArray} (h : WordsAt w N l) (hb : Below w.heap.size w w') : WordsAt w' N l := fun j x e => (hb.cell (p := ⟨N, j, none⟩) (lt_of_cell (h j x e))).trans (h j x e)
theorem cellsOf_get {l : List ByteArray} {n j : Nat} {x : ByteArray} (h : l[j]? = some x) : (Lib.cellsOf l n)[j]? = some (.string x) := by
  unfold Lib.cellsOf
  have hj : j < l.length := (List.getElem?_eq_some_iff.1 h).1
  rw [List.getElem?_toArray, List.getElem?_append_left (by simpa using hj), List.getElem?_map, h]
  rfl
/-- What a word of a line is told as. -/
def wordV (l : List ByteArray) (p : Nat) : Int := atoiV ((l[1 + p]?.getD ByteArray.empty).data.toList)

set_option maxHeartbeats 1000000 in
theorem parseT_any (bx N u c : Nat) (l : List ByteArray) (w : World) (hl : l.length = 1 + u) (hu : u ≤ 3) (hs : ∀ x ∈ l, x.size ≤ 281474976710656) (hbx : w.cell? ⟨bx, 0, none⟩ = some (.slice (some ⟨N, 0, none⟩) l.length c)) (hW : WordsAt w N l) (hL : LibTab w) :
    TellsB 53 ⟨bx, 0, none⟩ u (wordV l) w.heap.size w := by
  intro p W hp hb
  obtain ⟨x, hx⟩ : ∃ x, l[1 + p]? = some x := ⟨l[1 + p]'(by omega), List.getElem?_eq_getElem _⟩
  have hx' := List.mem_of_getElem? hx
  have q0 := (hb.cell (p := ⟨bx, 0, none⟩) (lt_of_cell hbx)).trans hbx
  have q1 := (hW.later hb) _ _ hx
  have e : wordV l p = atoiV x.data.toList := by unfold wordV; rw [hx]; rfl
  have HA := Lib.hid (atoi_any x (hs x hx') W (hL.later hb))
  rw [e]
  rw [hl] at q0
  clear hx hx' hbx hW hL hb hs hl e
  generalize atoiV x.data.toList = v at *
  have p0 : (0 : Int) ≤ (p : Int) := by omega
  have pu : (1 : Int) + (p : Int) < 1 + (u : Int) := by omega
  have p3 : (p : Int) < 3 := by omega
  go_enter Tryd.func53, Tryd.ntmps53
  go_wp2_with (go_at_call 54; refine HA.out.mono ?_; rintro e w' ⟨v2, rfl, hb2⟩; have HB2 := Lib.hid hb2; clear hb2)
  go_ret
  exact ⟨rfl, HB2.out⟩
end Go.Proofs.YtenjllknianieaaDoor.Opr
