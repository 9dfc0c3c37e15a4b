/-
  The reference's All, Next and Same.
-/
import Derived.Test.YtahhenbphnejiaaDoorBitsR
import Derived.Test.YtahhenbphnejiaaDoorBitsE
namespace Go.Proofs.YtahhenbphnejiaaDoor.Bits
open Go.RowKit Go.Shelf
attribute [local go_sem] Oper.semAt_some

theorem elems_succ (ws : List Nat) (k : Nat) : elems ws (k + 1) = elems ws k ++ (if hasB ws k = true then [k] else []) := by
  unfold elems
  rw [List.range_succ, List.filter_append]
  congr 1
  cases h : hasB ws k <;> simp [List.filter_cons, h]

set_option maxRecDepth 100000 in
set_option maxHeartbeats 2000000 in
theorem ref_all (R A size : Nat) (ws : List Nat) (w : World) (hs : RefIs w R A size ws) (hR : R < w.heap.size) (hA : A < w.heap.size) (hz : size ≤ 2097152) :
    Calls Tryd.prog 18 #[.pointer (some ⟨R, 0, none⟩)] w fun e w' => ∃ v, e = .returned v ∧ w'.ownsRow w.heap.size 3 1 v (elems ws size).length (cellsZ (elems ws size)) ∧ Below w.heap.size w w' := by
  obtain ⟨i0, hinf, hz0, hz1, hz2⟩ := info_parts infoInt
  have HS := Lib.hid hs
  clear hs
  go_enter Tryd.func18, Tryd.ntmps18
  go_wp2
  go_loopw [3, 4] (fun o i wr => ∃ k : Nat, k ≤ size ∧ i = .int .i64 k ∧ ∃ a c, o = .slice a (elems ws k).length c ∧ wr.ownsRow w.heap.size 3 1 (.slice a (elems ws k).length c) (elems ws k).length (cellsZ (elems ws k)) ∧ Below w.heap.size w wr) (fun _ i _ => size - (intOf i).toNat)
  case atStart => exact ⟨0, Nat.zero_le _, rfl, none, 0, rfl, World.ownsRow_nil _ _ _ _, Below.refl _ _⟩
  case round =>
    obtain ⟨k, hk, rfl, a, c, rfl, hown, hb⟩ := hrel
    have hS := HS.out.below hb hR hA
    have hc := hS.cs
    have HB := Lib.hid hb
    by_cases hlt : k < size
    · have hat := hS.at_ k hlt
      have i1 : (0 : Int) ≤ (k : Int) := Int.natCast_nonneg _
      have i2 : (k : Int) < (size : Int) := by omega
      have hle := elems_length_le ws k
      cases hh : hasB ws k with
      | true =>
        rw [hh] at hat
        have hes : elems ws (k + 1) = elems ws k ++ [k] := by rw [elems_succ, hh]; rfl
        have HES := Lib.hid hes
        have HO := Lib.hid hown
        have hbase : w.heap.size ≤ (wr.alloc (.cells #[.int .i64 ((k : Nat) : Int)] 3)).heap.size := by have := HB.out.size; simp; omega
        have HBA := Lib.hid hbase
        generalize hL : (elems ws k).length = L at *
        clear hS hb hown hes hbase
        go_wp2_with (at_builtin; refine wpList_append_own _ rfl (.tmp 21) (.tmp 23) 35 rfl w.heap.size 3 i0 (.int .i64 0) 1 8 Tryd.underlying35 hinf hz0 hz1 hz2 rfl (by decide) _ _ _ rfl (HO.out.alloc _) ⟨wr.heap.size, 0, none⟩ 1 1 [.int .i64 ((k : Nat) : Int)] rfl rfl ?c1 (by simp [Value.oneCell']) (by unfold maxLen; omega) (by omega) HBA.out ?c2)
        case c1 =>
          intro j u hj
          cases j with
          | zero =>
            obtain rfl := Option.some.inj hj
            exact (Boxed.new wr _ _).cell
          | succ j => simp at hj
        intro v' w3 hown' hgrow hnil
        obtain ⟨g', cap', rfl⟩ := ownsRow_succ hown'
        have hb3 : Below w.heap.size w w3 := ((HB.out.trans ((Below.refl w.heap.size wr).alloc HB.out.size _)).grown hgrow HBA.out (fun k e => (HO.out.lt k e).1))
        have hown3 : w3.ownsRow w.heap.size 3 1 (.slice (some ⟨g', 0, none⟩) (elems ws (k + 1)).length cap') (elems ws (k + 1)).length (cellsZ (elems ws (k + 1))) := by
          rw [HES.out, cellsZ_snoc, List.length_append, hL]; exact hown'
        have hle3 : (elems ws (k + 1)).length = L + 1 := by rw [HES.out, List.length_append, hL]; rfl
        have HO3 := Lib.hid hown3
        have HL3 := Lib.hid hle3
        have HB3 := Lib.hid hb3
        clear hown' hgrow hnil hb3 hown3 hle3
        go_wp2
        go_roundw
        case rel => exact ⟨k + 1, by omega, by go_num, _, _, by rw [HL3.out], HO3.out, HB3.out⟩
        case measure => simp [intOf]; omega
      | false =>
        rw [hh] at hat
        have hes : elems ws (k + 1) = elems ws k := by rw [elems_succ, hh]; simp
        have hown3 : wr.ownsRow w.heap.size 3 1 (.slice a (elems ws (k + 1)).length c) (elems ws (k + 1)).length (cellsZ (elems ws (k + 1))) := by rw [hes]; exact hown
        have HES := Lib.hid hes
        have HO3 := Lib.hid hown3
        clear hS hb hown hes hown3
        go_wp2
        go_roundw
        case rel => exact ⟨k + 1, by omega, by go_num, _, _, by rw [HES.out], HO3.out, HB.out⟩
        case measure => simp [intOf]; omega
    · obtain rfl : k = size := by omega
      have HO := Lib.hid hown
      clear hS hb hown
      go_wp2
      go_ret
      exact ⟨_, rfl, HO.out, HB.out⟩

set_option maxHeartbeats 2000000 in
theorem ref_next (R A size : Nat) (ws : List Nat) (z : Int) (w : World) (hs : RefIs w R A size ws) (hrow : SetW size ws) (hz : size ≤ 2097152) :
    Calls Tryd.prog 20 #[.pointer (some ⟨R, 0, none⟩), .int .i64 z] w fun e w' => ∃ v ok, e = .returned (.tuple #[.int .i64 v, .bool ok]) ∧ NextIs ws z.toNat v ok ∧ w' = w := by
  have HS := Lib.hid hs
  have HR := Lib.hid hrow
  clear hrow
  obtain ⟨n, hn⟩ : ∃ n : Nat, z.toNat = n := ⟨_, rfl⟩
  have hmx : max z 0 = (n : Int) := by omega
  have hc := hs.cs
  clear hs
  rw [hn]
  clear hn
  go_enter Tryd.func20, Tryd.ntmps20
  go_wp2
  go_loopw [6] (fun i wr => ∃ k : Nat, n ≤ k ∧ i = .int .i64 k ∧ wr = w ∧ ∀ j, n ≤ j → j < k → hasB ws j = false) (fun i _ => size - (intOf i).toNat)
  case atStart => exact ⟨n, Nat.le_refl _, rfl, rfl, fun j h1 h2 => by omega⟩
  case round =>
    obtain ⟨k, hk, rfl, rfl, hno⟩ := hrel
    by_cases hlt : k < size
    · have hat := HS.out.at_ k hlt
      have i1 : (0 : Int) ≤ (k : Int) := Int.natCast_nonneg _
      have i2 : (k : Int) < (size : Int) := by omega
      cases hh : hasB ws k with
      | true =>
        rw [hh] at hat
        have HN : Hid (NextIs ws n ((k : Nat) : Int) true) := Lib.hid (.inr ⟨k, rfl, rfl, hk, hh, hno⟩)
        clear hno hh
        go_wp2
        go_ret2
        exact ⟨_, _, rfl, HN.out, rfl⟩
      | false =>
        rw [hh] at hat
        have hno2 : ∀ j, n ≤ j → j < k + 1 → hasB ws j = false := fun j h1 h2 => by
          rcases Nat.lt_succ_iff_lt_or_eq.1 h2 with h3 | h3
          · exact hno j h1 h3
          · rw [h3]; exact hh
        have HN := Lib.hid hno2
        clear hno hno2 hh
        go_wp2
        go_roundw
        case rel => exact ⟨k + 1, by omega, by go_num, by first | rfl | trivial, HN.out⟩
        case measure => simp [intOf]; omega
    · have HN : Hid (NextIs ws n 0 false) := Lib.hid (.inl ⟨rfl, rfl, fun j h1 => by
        rcases Nat.lt_or_ge j k with h3 | h3
        · exact hno j h1 h3
        · exact HR.out.top j (by omega)⟩)
      have i2 : (size : Int) ≤ (k : Int) := by omega
      clear hno
      go_wp2
      go_ret2
      exact ⟨_, _, rfl, HN.out, rfl⟩

set_option maxHeartbeats 2000000 in
theorem ref_same (pa pb : Option Addr) (ca cb : Nat) (zs : List Int) (w : World) (ha : IntsP w.heap.size w pa zs) (hb : IntsP w.heap.size w pb zs) (hl : zs.length ≤ 2097152) :
    Calls Tryd.prog 23 #[.slice pa zs.length ca, .slice pb zs.length cb] w fun e w' => e = .returned (.bool true) ∧ ∃ q, w' = w.drewN q := by
  have HA := Lib.hid ha
  have HB := Lib.hid hb
  clear ha hb
  go_enter Tryd.func23, Tryd.ntmps23
  go_wp2
  go_loopw [5] (fun i wr => ∃ k : Nat, k ≤ zs.length ∧ i = .int .i64 k ∧ ∃ q, wr = w.drewN q) (fun i _ => zs.length - (intOf i).toNat)
  case atStart => exact ⟨0, Nat.zero_le _, rfl, 0, rfl⟩
  case round =>
    obtain ⟨k, hk, rfl, q, rfl⟩ := hrel
    by_cases hlt : k < zs.length
    · obtain ⟨b1, o1, rfl, hb1, hc1⟩ := HA.out k hlt
      obtain ⟨b2, o2, rfl, hb2, hc2⟩ := HB.out k hlt
      have i1 : (0 : Int) ≤ (k : Int) := Int.natCast_nonneg _
      have i2 : (k : Int) < (zs.length : Int) := by omega
      generalize zs[k]?.getD 0 = y at *
      have hc1' : ∀ q, (w.drewN q).cell? ⟨b1, o1 + k, none⟩ = some (.int .i64 y) := fun _ => hc1
      have hc2' : ∀ q, (w.drewN q).cell? ⟨b2, o2 + k, none⟩ = some (.int .i64 y) := fun _ => hc2
      have hyy : (y != y) = false := by simp
      go_wp2
      go_quiet (fail)
      go_wp2
      go_roundw
      case rel => exact ⟨k + 1, by omega, by go_num, _, rfl⟩
      case measure => simp [intOf]; omega
    · go_wp2
      go_ret
      exact ⟨rfl, _, rfl⟩
end Go.Proofs.YtahhenbphnejiaaDoor.Bits
