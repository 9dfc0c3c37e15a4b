/-
  The law AddrFind, whatever is asked.
-/
import Derived.Test.YtgmakcoodgpjlaaDoorAddrH
namespace Go.Proofs.YtgmakcoodgpjlaaDoor.Addr
open Go.RowKit Go.Sort
open Class (SizTab isB sizI perI isB_true isB_false sizI_bd)

theorem findLaw_any (b wd m r ce lg st k a : Int) (w : World) (ht : Tabs w) :
    Calls Tryd.prog 8 #[.agg #[.int .i64 b, .int .i64 wd, .int .i64 m, .int .i64 r, .int .i64 ce, .int .i64 lg, .int .i64 st], .int .i64 k, .int .i64 a] w fun e w' => e = .returned (.bool true) ∧ Below w.heap.size w w' := by
  by_cases hA : adrB (rightB b wd m r ce lg st) b wd a = true
  · obtain ⟨hr, h1, h2⟩ := adrB_true.1 hA
    have hrr := (rightB_ref b wd m r ce lg st).symm.trans hr
    have hR : RightC b wd m r ce lg st := refRightB_true.1 hrr
    obtain ⟨p0, p1⟩ := hR.words
    obtain ⟨g1, g2, g3, g4, g5⟩ := adr_parts hR h1 h2
    obtain ⟨i0, i1⟩ := blkB_true.1 g1
    have e1 : ((a - 1) / wd + 1) * wd = (a - 1) / wd * wd + wd := by rw [Int.add_mul, Int.one_mul]
    have e2 : ((a - 1) / wd + 1) * wd ≤ b * wd := Int.mul_le_mul_of_nonneg_right (by omega) (by have := hR.wd0; omega)
    have hb1 := hR.b1
    by_cases hF : finB (rightB b wd m r ce lg st) b wd k a = true
    · obtain ⟨_, hk, hin⟩ := finB_true.1 hF
      obtain ⟨s0, s1⟩ := sizI_bd hk
      have hV : findV (rightB b wd m r ce lg st) b wd k a = ((a - 1) / wd, offI wd a / sizI k, offI wd a % sizI k) := if_pos hF
      have d0 : 0 ≤ offI wd a / sizI k := Int.ediv_nonneg g4 (by omega)
      have m0 := Int.emod_nonneg (offI wd a) (show sizI k ≠ 0 by omega)
      have m1 := Int.emod_lt_of_pos (offI wd a) (show 0 < sizI k by omega)
      have hsum := Int.emod_add_mul_ediv (offI wd a) (sizI k)
      have hcm : sizI k * (offI wd a / sizI k) = offI wd a / sizI k * sizI k := Int.mul_comm ..
      have hOB : ofB (rightB b wd m r ce lg st) b wd k ((a - 1) / wd) (offI wd a / sizI k) (offI wd a % sizI k) = true := ofB_true.2 ⟨sltB_true.2 ⟨hr, g1, d0, hin⟩, m0, m1⟩
      have hO : ofI (rightB b wd m r ce lg st) b wd k ((a - 1) / wd) (offI wd a / sizI k) (offI wd a % sizI k) = a := by rw [ofI_yes hOB]; omega
      exact findlaw_4 b wd m r ce lg st k a _ _ _ _ w ht hF hV hA (blockI_yes hA) hrr h1 h2 p0 p1 g2 (by omega) (by omega) (by omega) i0 (by omega) rfl hO hOB
    · have hF : finB (rightB b wd m r ce lg st) b wd k a = false := by simpa using hF
      exact findlaw_3 b wd m r ce lg st k a _ 0 0 0 w ht hF (if_neg (by rw [hF]; decide)) hA (blockI_yes hA) hrr h1 h2 p0 p1 g2 (by omega) (by omega) (by omega) i0 (by omega)
  · have hA : adrB (rightB b wd m r ce lg st) b wd a = false := by simpa using hA
    have hF : finB (rightB b wd m r ce lg st) b wd k a = false := by rw [← Bool.not_eq_true, finB_true]; simp [hA]
    have hV : findV (rightB b wd m r ce lg st) b wd k a = (0, 0, 0) := if_neg (by rw [hF]; decide)
    by_cases hr : rightB b wd m r ce lg st = true
    · have hrr := (rightB_ref b wd m r ce lg st).symm.trans hr
      have hR : RightC b wd m r ce lg st := refRightB_true.1 hrr
      obtain ⟨p0, p1⟩ := hR.words
      by_cases h1 : 1 ≤ a
      · have h2 : b * wd < a := by
          rw [← Bool.not_eq_true, adrB_true] at hA
          exact Int.not_le.1 fun h => hA ⟨hr, h1, h⟩
        exact findlaw_2 b wd m r ce lg st k a 0 0 0 0 w ht hF hV hA (blockI_no hA) hrr rfl h1 h2 p0 p1
      · exact findlaw_1 b wd m r ce lg st k a 0 0 0 0 w ht hF hV hA (blockI_no hA) hrr rfl (by omega)
    · exact findlaw_0 b wd m r ce lg st k a 0 0 0 0 w ht hF hV hA (blockI_no hA) ((rightB_ref b wd m r ce lg st).symm.trans (by simpa using hr)) rfl
end Go.Proofs.YtgmakcoodgpjlaaDoor.Addr
