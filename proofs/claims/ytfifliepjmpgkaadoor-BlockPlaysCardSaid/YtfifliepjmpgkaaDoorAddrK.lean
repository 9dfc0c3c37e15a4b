/-
  The document's Same of two lists that are one, wherever they lie.
-/
import Derived.Test.YtfifliepjmpgkaaDoorRows
import Derived.WalkKit
import Derived.WalkSpells
import Derived.WalkLawsBesides
import Derived.Deep.QuietTactic
import Derived.BigQuiet
import Derived.Lib.Hide
import Derived.IntWalk
namespace Go.Proofs.YtfifliepjmpgkaaDoor.Addr
open Go.RowKit

/-- A list of numbers that lies somewhere below. -/
def ListP (S : Nat) (W : World) (p : Option Addr) (zs : List Int) : Prop := ∀ j, j < zs.length → ∃ b off, p = some ⟨b, off, none⟩ ∧ b < S ∧ W.cell? ⟨b, off + j, none⟩ = some (.int .i64 (zs[j]?.getD 0))
theorem ListP.below {S : Nat} {W W' : World} {p : Option Addr} {zs : List Int} (h : ListP S W p zs) (hb : Below S W W') : ListP S W' p zs := fun j hj => by
  obtain ⟨b, off, e, hb', h1⟩ := h j hj
  exact ⟨b, off, e, hb', (hb.cell (p := ⟨b, _, none⟩) hb').trans h1⟩

set_option maxHeartbeats 2000000 in
theorem same_any (p q : Option Addr) (cp cq : Nat) (zs : List Int) (S : Nat) (w : World) (hp : ListP S w p zs) (hq : ListP S w q zs) (hl : zs.length ≤ 1000) :
    Calls Tryd.prog 19 #[.slice p zs.length cp, .slice q zs.length cq] w fun e w' => e = .returned (.bool true) ∧ ∃ n, w' = w.drewN n := by
  have HP := Lib.hid hp
  have HQ := Lib.hid hq
  clear hp hq
  go_enter Tryd.func19, Tryd.ntmps19
  go_wp2
  go_loopw [5] (fun i wr => ∃ c : Nat, c ≤ zs.length ∧ i = .int .i64 c ∧ ∃ n, wr = w.drewN n) (fun i _ => zs.length - (intOf i).toNat)
  case atStart => exact ⟨0, by omega, rfl, 0, rfl⟩
  case round =>
    obtain ⟨c, hc, rfl, n, rfl⟩ := hrel
    by_cases hlt : c < zs.length
    · obtain ⟨b, off, rfl, hb, h1⟩ := HP.out c hlt
      obtain ⟨b', off', rfl, hb', h1'⟩ := HQ.out c hlt
      have i0 : (0 : Int) ≤ (c : Int) := Int.natCast_nonneg _
      have i1 : (c : Int) < (zs.length : Int) := by omega
      go_wp2
      go_quiet (fail)
      go_wp2
      go_roundw
      case rel => exact ⟨c + 1, by omega, by go_num, _, rfl⟩
      case measure => simp [intOf]; omega
    · go_wp2
      go_ret
      exact ⟨rfl, _, rfl⟩
end Go.Proofs.YtfifliepjmpgkaaDoor.Addr
