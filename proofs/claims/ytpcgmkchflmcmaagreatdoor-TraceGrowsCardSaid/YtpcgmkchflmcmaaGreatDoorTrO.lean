/-
  What is too great; whether a number is in a row.
-/
import Derived.Test.YtpcgmkchflmcmaaGreatDoorTrN
namespace Go.Proofs.YtpcgmkchflmcmaaGreatDoor.Tr
open Go.RowKit Go.Shelf
open Class (below_drewN)
open Blk (Cfg allP kAt little little_any little_right)
open Bits (SetIs TzTab)
open Hp (Ids St Wf Is To Mine bn bnI bnI_nat objL not_mine pkA_len objects_any NewRow fields_any storeF_any fN fE sE stS st0 wpList_append_row)
open Sw (ThingsP thAt)
open Go.Proofs.YtpcgmkchflmcmaaGreatDoor.Row (Chg Rd Rd0 rowB rowB_none cell_of_block frozen_of_block other same cellsZ cellsZ_length cellsZ_at owns_block owns_chg owns_lt owns_base owns_cell owns_slice same_any)
open Go.Proofs.YtpcgmkchflmcmaaGreatDoor.Addr (Tabs)

def gtB (a b c : Nat) : Bool := decide (40 < a) || (decide (200 < b) || decide (40 < c))
set_option maxRecDepth 100000 in
set_option maxHeartbeats 1000000 in
theorem great_any (c : Cfg) (pa : Option Addr) (ca la : Nat) (pf : Option Addr) (cf lf : Nat) (pr : Option Addr) (cr lr : Nat) (w : World) :
    Calls Tryz.prog 8 #[.agg #[.int .i64 c.b, .int .i64 c.wd, .int .i64 c.m, .int .i64 c.r, .int .i64 c.ce, .int .i64 c.lg, .int .i64 c.st, .slice pa la ca, .slice pf lf cf], .slice pr lr cr] w fun e w' => e = .returned (.bool (gtB la lf lr)) ∧ Below w.heap.size w w' := by
  have hb : Below w.heap.size w (w.alloc (.cells #[.int .i64 c.b, .int .i64 c.wd, .int .i64 c.m, .int .i64 c.r, .int .i64 c.ce, .int .i64 c.lg, .int .i64 c.st, .slice pa la ca, .slice pf lf cf] 27)) := (Below.refl _ _).alloc (Nat.le_refl _) _
  by_cases h1 : 40 < la
  · have e1 : (40 : Int) < (la : Int) := by omega
    have e : gtB la lf lr = true := by simp [gtB, h1]
    rw [e]
    go_enter Tryz.func8, Tryz.ntmps8
    go_wp2
    go_ret
    exact ⟨rfl, hb⟩
  · have e1 : ¬ (40 : Int) < (la : Int) := by omega
    by_cases h2 : 200 < lf
    · have e2 : (200 : Int) < (lf : Int) := by omega
      have e : gtB la lf lr = true := by simp [gtB, h2]
      rw [e]
      go_enter Tryz.func8, Tryz.ntmps8
      go_wp2
      go_ret
      exact ⟨rfl, hb⟩
    · have e2 : ¬ (200 : Int) < (lf : Int) := by omega
      by_cases h3 : 40 < lr
      · have e3 : (40 : Int) < (lr : Int) := by omega
        have e : gtB la lf lr = true := by simp [gtB, h3]
        rw [e]
        go_enter Tryz.func8, Tryz.ntmps8
        go_wp2
        go_ret
        exact ⟨rfl, hb⟩
      · have e3 : ¬ (40 : Int) < (lr : Int) := by omega
        have e : gtB la lf lr = false := by simp [gtB]; omega
        rw [e]
        go_enter Tryz.func8, Tryz.ntmps8
        go_wp2
        go_ret
        exact ⟨rfl, hb⟩
theorem gtB_false {a b c : Nat} (h : gtB a b c = false) : a ≤ 40 ∧ b ≤ 200 ∧ c ≤ 40 := by
  simp [gtB] at h
  omega
set_option maxRecDepth 100000 in
set_option maxHeartbeats 1000000 in
theorem in_any (p : Option Addr) (cp : Nat) (l : List Int) (x : Int) (w : World) (hp : Rd0 w p l) (hl : l.length ≤ 1048576) :
    Calls Tryz.prog 18 #[.slice p l.length cp, .int .i64 x] w fun e w' => e = .returned (.bool (decide (x ∈ l))) ∧ w = w' := by
  have HP := Lib.hid hp
  clear hp
  go_enter Tryz.func18, Tryz.ntmps18
  go_wp2
  go_loopw [5] (fun i wr => ∃ c : Nat, c ≤ l.length ∧ i = .int .i64 c ∧ x ∉ l.take c ∧ w = wr) (fun i _ => l.length - (intOf i).toNat)
  case atStart => exact ⟨0, by omega, rfl, by simp, rfl⟩
  case round =>
    obtain ⟨c, hc, rfl, hno, rfl⟩ := hrel
    have HNO := Lib.hid hno
    clear hno
    by_cases hlt : c < l.length
    · obtain ⟨b, off, rfl, h1⟩ := HP.out c hlt
      have i0 : (0 : Int) ≤ (c : Int) := Int.natCast_nonneg _
      have i1 : (c : Int) < (l.length : Int) := by omega
      have hget : l[c]? = some (l.getD c 0) := by rw [List.getD_eq_getElem?_getD]; simp [hlt]
      have hmem : l.getD c 0 ∈ l := List.mem_of_getElem? hget
      have HGET := Lib.hid hget
      have HMEM := Lib.hid hmem
      clear hget hmem
      generalize l.getD c 0 = y at *
      by_cases he : y = x
      · subst he
        have hyy : (y == y) = true := by simp
        have hd : decide (y ∈ l) = true := by simpa using HMEM.out
        go_wp2
        go_ret
        exact ⟨by rw [hd]; rfl, rfl⟩
      · have hyx : (y == x) = false := by simpa using he
        have hn2 : x ∉ l.take (c + 1) := by
          rw [List.take_add_one, HGET.out]
          simp only [Option.toList_some, List.mem_append, List.mem_singleton]
          exact fun h => h.elim HNO.out (fun e => he e.symm)
        have HN2 := Lib.hid hn2
        clear hn2
        go_wp2
        go_roundw
        case rel => exact ⟨c + 1, by omega, by go_num, HN2.out, trivial⟩
        case measure => simp [intOf]; omega
    · have hd : decide (x ∈ l) = false := by
        have := HNO.out
        rw [List.take_of_length_le (by omega)] at this
        simpa using this
      go_wp2
      go_ret
      exact ⟨by rw [hd]; rfl, rfl⟩

end Go.Proofs.YtpcgmkchflmcmaaGreatDoor.Tr
