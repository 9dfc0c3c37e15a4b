/-
  The document's examples, of addresses.
-/
import Derived.Test.YtgmakcoodgpjlaaDoorAddrD
namespace Go.Proofs.YtgmakcoodgpjlaaDoor.Addr
open Go.RowKit
open Class (SizTab isB sizI perI below_drewN)

theorem some_any (w : World) : Calls Tryd.prog 34 #[] w fun e w' => e = .returned (.agg #[.int .i64 2, .int .i64 20, .int .i64 1, .int .i64 1, .int .i64 0, .int .i64 1, .int .i64 1]) ∧ Below w.heap.size w w' := by
  go_enter Tryd.func34, Tryd.ntmps34
  go_wp2
  exact bodyPost_ret (v := .agg #[.int .i64 2, .int .i64 20, .int .i64 1, .int .i64 1, .int .i64 0, .int .i64 1, .int .i64 1]) (by simp [results, Tryd.results34, go_sem]) rfl
    ⟨rfl, (Below.refl _ _).alloc (Nat.le_refl _) _⟩

theorem ex_of : ofI (rightB 2 20 1 1 0 1 1) 2 20 2 1 1 3 = 32 ∧ ofB (rightB 2 20 1 1 0 1 1) 2 20 2 1 1 3 = true := by decide
theorem ex_find : finB (rightB 2 20 1 1 0 1 1) 2 20 2 18 = false := by decide

set_option maxHeartbeats 1000000 in
theorem awake_any (w : World) (ht : Tabs w) : Calls Tryd.prog 27 #[] w fun e w' => e = .returned (.bool true) ∧ Below w.heap.size w w' := by
  have HT := Lib.hid ht
  have HO := Lib.hid ex_of
  have HF := Lib.hid ex_find
  clear ht
  go_enter Tryd.func27, Tryd.ntmps27
  go_wp2_with fail
  refine (some_any _).mono ?_
  rintro e w1 ⟨rfl, hb1⟩
  have HT1 := Lib.hid (HT.out.later hb1)
  go_wp2_with fail
  refine (of_any _ _ _ _ _ _ _ _ _ _ _ _ HT1.out).mono ?_
  rintro e w2 ⟨rfl, hb2⟩
  rw [HO.out.1, HO.out.2]
  have HT2 := Lib.hid (HT1.out.later hb2)
  go_wp2_with fail
  refine (some_any _).mono ?_
  rintro e w3 ⟨rfl, hb3⟩
  have HT3 := Lib.hid (HT2.out.later hb3)
  go_wp2_with fail
  refine (find_any _ _ _ _ _ _ _ _ _ _ HT3.out).mono ?_
  rintro e w4 ⟨rfl, hb4⟩
  rw [HF.out]
  have HB := Lib.hid (((hb1.trans (hb2.mono hb1.size)).trans (hb3.mono (hb1.trans (hb2.mono hb1.size)).size)).trans (hb4.mono (((hb1.trans (hb2.mono hb1.size)).trans (hb3.mono (hb1.trans (hb2.mono hb1.size)).size)).size)))
  have hz := HB.out.size
  clear hb1 hb2 hb3 hb4
  go_wp2
  go_ret
  exact ⟨rfl, HB.out.alloc hz _⟩
end Go.Proofs.YtgmakcoodgpjlaaDoor.Addr
