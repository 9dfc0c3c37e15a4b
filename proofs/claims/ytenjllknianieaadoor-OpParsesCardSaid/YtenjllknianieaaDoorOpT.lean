/-
  OpParses answers true.
-/
import Derived.Test.YtenjllknianieaaDoorOpP
namespace Go.Proofs.YtenjllknianieaaDoor.Opr
open Go.RowKit

set_option maxRecDepth 200000 in
set_option maxHeartbeats 8000000 in
theorem parses_walk (s : ByteArray) (w : World) (ht : FormTab w) (hl : LibTab w) (hm : LimTab w) :
    Calls Tryd.prog 4 #[.string s] w fun e w' => e = .returned (.bool true) ∧ Below w.heap.size w w' := by
  have HT := Lib.hid ht
  have HL := Lib.hid hl
  have HM := Lib.hid hm
  clear ht hl hm
  have HAW : Hid (∀ W, Below w.heap.size w W → Calls Tryd.prog 21 #[] W fun e w' => e = .returned (.bool true) ∧ Below W.heap.size W w') := Lib.hid fun W hW => awake_any W (HT.out.later hW) (HL.out.later hW) (HM.out.later hW)
  by_cases hbig : 200 < s.size
  · have h1 : (200 : Int) < (s.size : Int) := by omega
    have HA := Lib.hid (Below.refl w.heap.size w)
    go_enter Tryd.func4, Tryd.ntmps4
    go_wp2_with (go_at_call 21; refine (HAW.out _ HA.out).mono ?_; rintro e w1 ⟨rfl, hb1⟩; have HB1 := Lib.hid hb1; clear hb1)
    go_ret
    exact ⟨rfl, HB1.out⟩
  have h1 : (s.size : Int) ≤ 200 := by omega
  have HPA := Lib.hid (parse_any s (by omega) w HT.out HL.out)
  have hlen : s.data.toList.length ≤ 1000000 := by
    have e : s.data.toList.length = s.size := Array.length_toList
    omega
  have HRP : Hid (∀ W, Calls Tryd.prog 24 #[.string s] W fun e w' => RefP s e ∧ Below W.heap.size W w') := Lib.hid fun W => refparse_any s.data.toList hlen W
  clear hbig hlen
  go_enter Tryd.func4, Tryd.ntmps4
  go_wp2_with (go_at_call 22; fail)
  refine HPA.out.mono ?_
  rintro e w1 ⟨hpe, hb1⟩
  have HB1 := Lib.hid hb1
  clear hb1
  rcases hpe with ⟨n, a, b, c, hB, hs, rfl⟩ | ⟨rfl, hno⟩
  · have HE : Hid (∀ e, RefP s e → e = .returned (.tuple #[opV n a b c, .bool true])) := Lib.hid (by
      rintro e (⟨n', a', b', c', hB', hs', rfl⟩ | ⟨_, hno⟩)
      · obtain ⟨rfl, rfl, rfl, rfl⟩ := line_inj hB hB' (bs_inj (hs.symm.trans hs'))
        rfl
      · exact absurd hs (hno n a b c hB))
    clear hB hs
    obtain ⟨k, hk⟩ : ∃ k : Int, (n : Int) = k := ⟨_, rfl⟩
    rw [hk] at HE ⊢
    clear hk
    have heq := run_eq_op k a b c k a b c
    rw [eqOp_self] at heq
    have hgd := guardOp
    unfold opV
    obtain ⟨w2, hw2⟩ : ∃ w2, w1.alloc (.cells #[.int .i64 k, .int .i64 a, .int .i64 b, .int .i64 c] 23) = w2 := ⟨_, rfl⟩
    have HB2 : Hid (Below w.heap.size w w2) := Lib.hid (HB1.out.trans (by rw [← hw2]; exact (Below.refl _ _).alloc HB1.out.size _))
    have HC2 : Hid (CellsAt w2 w1.heap.size [.int .i64 k, .int .i64 a, .int .i64 b, .int .i64 c]) := Lib.hid (by rw [← hw2]; exact CellsAt.new _ _ _)
    go_wp2_with (go_at_call 24; fail)
    refine (HRP.out _).mono ?_
    rintro e w3 ⟨hre, hb3⟩
    obtain rfl := HE.out e hre
    unfold opV
    obtain ⟨w4, hw4⟩ : ∃ w4, w3.alloc (.cells #[.int .i64 k, .int .i64 a, .int .i64 b, .int .i64 c] 23) = w4 := ⟨_, rfl⟩
    have hb4 : Below w2.heap.size w2 w4 := by rw [← hw4]; exact hb3.alloc hb3.size _
    have HB4 : Hid (Below w.heap.size w w4) := Lib.hid (HB2.out.trans (hb4.mono HB2.out.size))
    have p0 := (HC2.out.later hb4) 0 _ rfl
    have p1 := (HC2.out.later hb4) 1 _ rfl
    have p2 := (HC2.out.later hb4) 2 _ rfl
    have p3 := (HC2.out.later hb4) 3 _ rfl
    have HC4 : Hid (CellsAt w4 w3.heap.size [.int .i64 k, .int .i64 a, .int .i64 b, .int .i64 c]) := Lib.hid (by rw [← hw4]; exact CellsAt.new _ _ _)
    have q0 := HC4.out 0 _ rfl
    have q1 := HC4.out 1 _ rfl
    have q2 := HC4.out 2 _ rfl
    have q3 := HC4.out 3 _ rfl
    clear hb3 hb4 hre
    go_wp2_with (go_at_call 21; refine (HAW.out _ HB4.out).mono ?_; rintro e w5 ⟨rfl, hb5⟩; have HB5 := Lib.hid hb5; clear hb5)
    go_ret
    exact ⟨rfl, HB4.out.trans (HB5.out.mono HB4.out.size)⟩
  · have HE : Hid (∀ e, RefP s e → e = .returned (.tuple #[opV 0 0 0 0, .bool false])) := Lib.hid (by
      rintro e (⟨n', a', b', c', hB', hs', rfl⟩ | ⟨rfl, _⟩)
      · exact absurd hs' (hno n' a' b' c' hB')
      · rfl)
    clear hno
    obtain ⟨z, hz⟩ : ∃ z : Int, (0 : Int) = z := ⟨_, rfl⟩
    have ho : opV 0 0 0 0 = opV z z z z := by rw [← hz]
    rw [ho] at HE ⊢
    clear hz ho
    have heq := run_eq_op z z z z z z z z
    rw [eqOp_self] at heq
    have hgd := guardOp
    unfold opV
    obtain ⟨w2, hw2⟩ : ∃ w2, w1.alloc (.cells #[.int .i64 z, .int .i64 z, .int .i64 z, .int .i64 z] 23) = w2 := ⟨_, rfl⟩
    have HB2 : Hid (Below w.heap.size w w2) := Lib.hid (HB1.out.trans (by rw [← hw2]; exact (Below.refl _ _).alloc HB1.out.size _))
    have HC2 : Hid (CellsAt w2 w1.heap.size [.int .i64 z, .int .i64 z, .int .i64 z, .int .i64 z]) := Lib.hid (by rw [← hw2]; exact CellsAt.new _ _ _)
    go_wp2_with (go_at_call 24; fail)
    refine (HRP.out _).mono ?_
    rintro e w3 ⟨hre, hb3⟩
    obtain rfl := HE.out e hre
    unfold opV
    obtain ⟨w4, hw4⟩ : ∃ w4, w3.alloc (.cells #[.int .i64 z, .int .i64 z, .int .i64 z, .int .i64 z] 23) = w4 := ⟨_, rfl⟩
    have hb4 : Below w2.heap.size w2 w4 := by rw [← hw4]; exact hb3.alloc hb3.size _
    have HB4 : Hid (Below w.heap.size w w4) := Lib.hid (HB2.out.trans (hb4.mono HB2.out.size))
    have p0 := (HC2.out.later hb4) 0 _ rfl
    have p1 := (HC2.out.later hb4) 1 _ rfl
    have p2 := (HC2.out.later hb4) 2 _ rfl
    have p3 := (HC2.out.later hb4) 3 _ rfl
    have HC4 : Hid (CellsAt w4 w3.heap.size [.int .i64 z, .int .i64 z, .int .i64 z, .int .i64 z]) := Lib.hid (by rw [← hw4]; exact CellsAt.new _ _ _)
    have q0 := HC4.out 0 _ rfl
    have q1 := HC4.out 1 _ rfl
    have q2 := HC4.out 2 _ rfl
    have q3 := HC4.out 3 _ rfl
    clear hb3 hb4 hre
    go_wp2_with (go_at_call 21; refine (HAW.out _ HB4.out).mono ?_; rintro e w5 ⟨rfl, hb5⟩; have HB5 := Lib.hid hb5; clear hb5)
    go_ret
    exact ⟨rfl, HB4.out.trans (HB5.out.mono HB4.out.size)⟩
end Go.Proofs.YtenjllknianieaaDoor.Opr
