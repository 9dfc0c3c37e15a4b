/-
  The longest of cycles: the program's.
-/
import Derived.Test.YtodfkklkgcoddaaDoorSsD
namespace Go.Proofs.YtodfkklkgcoddaaDoor.Ss
open Go.RowKit
open Go.Proofs.YtodfkklkgcoddaaDoor.Row

/-- A cycle whose picks aren't far from 0. -/
structure Near (c : Cy) : Prop where
  r : c.rested ≤ 1152921504606846976
  s : c.start ≤ 1152921504606846976
  t : -1152921504606846976 ≤ c.start
/-- One cycle more. -/
def lgS (s : Int × Bool) (c : Cy) : Int × Bool := if 0 ≤ c.rested ∧ (s.2 = false ∨ s.1 < c.rested - c.start) then (c.rested - c.start, true) else s
def lgL : Int × Bool → List Cy → Int × Bool
  | s, [] => s
  | s, c :: r => lgL (lgS s c) r
theorem lgL_cons (s : Int × Bool) (c : Cy) (r : List Cy) : lgL s (c :: r) = lgL (lgS s c) r := rfl
theorem dropC {l : List Cy} {i : Nat} (h : i < l.length) : l.drop i = l.getD i cy0 :: l.drop (i + 1) := by
  rw [List.drop_eq_getElem_cons h, List.getD_eq_getElem?_getD, List.getElem?_eq_getElem h]; rfl
theorem cy_mem {l : List Cy} {i : Nat} (h : i < l.length) : l.getD i cy0 ∈ l := by
  rw [List.getD_eq_getElem?_getD, List.getElem?_eq_getElem h]; exact List.getElem_mem h

set_option maxRecDepth 100000 in
set_option maxHeartbeats 4000000 in
theorem longest_any (p : Option Addr) (cap : Nat) (l : List Cy) (W : World) (h : CyR W p l) (hl : l.length ≤ 1000) (hn : ∀ c ∈ l, Near c) (hi : ∀ c ∈ l, CyI c) :
    Calls Tryd.prog 14 #[.slice p l.length cap] W fun x w' => x = .returned (.tuple #[.int .i64 (lgL (0, false) l).1, .bool (lgL (0, false) l).2]) ∧ Below W.heap.size W w' := by
  have HO := Lib.hid h
  have HN := Lib.hid hn
  have HI := Lib.hid hi
  clear h hn hi
  go_enter Tryd.func14, Tryd.ntmps14
  go_wp2
  go_loopw [4, 5, 11] (fun nv ov iv wr => ∃ (i : Nat) (s : Int × Bool), i ≤ l.length ∧ nv = .int .i64 s.1 ∧ ov = .bool s.2 ∧ iv = .int .i64 i ∧ lgL s (l.drop i) = lgL (0, false) l ∧ Below W.heap.size W wr) (fun _ _ iv _ => l.length - (intOf iv).toNat)
  case atStart => exact ⟨0, (0, false), Nat.zero_le _, rfl, rfl, rfl, rfl, Below.refl _ _⟩
  case round =>
    obtain ⟨i, s, hil, rfl, rfl, rfl, hs, hb⟩ := hrel
    have HB := Lib.hid hb
    have HS := Lib.hid hs
    clear hb hs
    have n0 : (0 : Int) ≤ (i : Int) := Int.natCast_nonneg _
    obtain ⟨sn, so⟩ := s
    by_cases hlt : i < l.length
    · have n1 : (i : Int) < (l.length : Int) := by omega
      obtain ⟨b, off, rfl, c0, c1, c2, c3, c4⟩ := (HO.out.later (l := l) HB.out) i hlt
      have hD := dropC hlt
      have hN := HN.out _ (cy_mem hlt)
      have hI := HI.out _ (cy_mem hlt)
      obtain ⟨j1, j2, j3⟩ := hN
      have j4 := hI.r
      unfold inI at j4
      generalize hx : l.getD i cy0 = x at *
      clear hx
      obtain ⟨xn, xs, xm, xr, xf⟩ := x
      simp only at c0 c1 c2 c3 c4 j1 j2 j3 j4
      have HD := Lib.hid hD
      obtain ⟨w2, hw2⟩ : ∃ w2, wr.alloc (.cells #[.int .i64 xn, .int .i64 xs, .int .i64 xm, .int .i64 xr, .int .i64 xf] 32) = w2 := ⟨_, rfl⟩
      have hb2 : Below wr.heap.size wr w2 := by rw [← hw2]; exact (Below.refl _ _).alloc (Nat.le_refl _) _
      have q1 : w2.cell? ⟨wr.heap.size, 1, none⟩ = some (.int .i64 xs) := by rw [← hw2, World.cell?_alloc_new]; rfl
      have q3 : w2.cell? ⟨wr.heap.size, 3, none⟩ = some (.int .i64 xr) := by rw [← hw2, World.cell?_alloc_new]; rfl
      have HB2 := Lib.hid (HB.out.trans (hb2.mono HB.out.size))
      have HST : Hid (∀ s', lgS (sn, so) ⟨xn, xs, xm, xr, xf⟩ = s' → ∀ nv ov iv : Value, nv = .int .i64 s'.1 → ov = Value.bool s'.2 → iv = .int .i64 ((i : Int) + 1) →
          ∃ (i : Nat) (s : Int × Bool), i ≤ l.length ∧ nv = .int .i64 s.1 ∧ ov = .bool s.2 ∧ iv = .int .i64 i ∧ lgL s (l.drop i) = lgL (0, false) l ∧ Below W.heap.size W w2) :=
        Lib.hid fun s' h1 nv ov iv h2 h3 h4 => ⟨i + 1, s', by omega, h2, h3, by rw [h4]; rfl, by rw [← HS.out, HD.out, lgL_cons, h1], HB2.out⟩
      clear hb2 hD
      by_cases hr : 0 ≤ xr
      · have hw : IntKind.i64.wrap (xr - xs) = xr - xs := by rw [IntKind.wrap_i64]; omega
        cases so with
        | false =>
          go_wp2
          go_roundw
          case rel => exact HST.out (xr - xs, true) (by unfold lgS; rw [if_pos ⟨hr, .inl rfl⟩]) _ _ _ rfl rfl (by go_num)
          case measure => simp [intOf]; omega
        | true =>
          by_cases hg : sn < xr - xs
          · go_wp2
            go_roundw
            case rel => exact HST.out (xr - xs, true) (by unfold lgS; rw [if_pos ⟨hr, .inr hg⟩]) _ _ _ rfl rfl (by go_num)
            case measure => simp [intOf]; omega
          · go_wp2
            go_roundw
            case rel => exact HST.out (sn, true) (by unfold lgS; rw [if_neg (fun h => h.2.elim (fun e => by cases e) hg)]) _ _ _ rfl rfl (by go_num)
            case measure => simp [intOf]; omega
      · go_wp2
        go_roundw
        case rel => exact HST.out (sn, so) (by unfold lgS; rw [if_neg (fun h => hr h.1)]) _ _ _ rfl rfl (by go_num)
        case measure => simp [intOf]; omega
    · obtain rfl : i = l.length := by omega
      have HE : Hid ((sn, so) = lgL (0, false) l) := Lib.hid (by rw [← HS.out, List.drop_length]; rfl)
      go_wp2
      go_ret2
      rw [← HE.out]
      exact ⟨rfl, HB.out⟩
end Go.Proofs.YtodfkklkgcoddaaDoor.Ss
