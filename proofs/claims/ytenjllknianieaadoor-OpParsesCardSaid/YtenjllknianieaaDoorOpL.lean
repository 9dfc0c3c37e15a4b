/-
  The document's Words.
-/
import Derived.Test.YtenjllknianieaaDoorOpK
import Derived.Test.YtenjllknianieaaDoorRowB
import Derived.StillTailTactics
import Derived.Deep.CutBlock
namespace Go.Proofs.YtenjllknianieaaDoor.Opr
open Go.RowKit
open Go.Proofs.YtenjllknianieaaDoor.Row

/-- Words as cells. -/
def cellsS (l : List (List UInt8)) : List Value := l.map fun x => .string (bs x)
theorem cellsS_length (l : List (List UInt8)) : (cellsS l).length = l.length := by simp [cellsS]
theorem cellsS_snoc (l : List (List UInt8)) (x : List UInt8) : cellsS (l ++ [x]) = cellsS l ++ [.string (bs x)] := by simp [cellsS]
/-- Whole words, each with its blank behind. -/
def pre : List (List UInt8) → List UInt8
  | [] => []
  | w :: r => w ++ 32 :: pre r
theorem pre_snoc (l : List (List UInt8)) (x : List UInt8) : pre (l ++ [x]) = pre l ++ (x ++ [32]) := by
  induction l with
  | nil => simp [pre]
  | cons a l ih => simp [pre, ih]
theorem pre_join : ∀ (I : List (List UInt8)) (x : List UInt8), ∃ w r, I ++ [x] = w :: r ∧ joinW w r = pre I ++ x
  | [], x => ⟨x, [], rfl, by simp [joinW, joinT, pre]⟩
  | a :: I, x => by
    obtain ⟨w, r, e1, e2⟩ := pre_join I x
    refine ⟨a, w :: r, by rw [List.cons_append, e1], ?_⟩
    unfold joinW joinT
    unfold joinW at e2
    rw [e2]
    simp [pre]
theorem infoStr : (Tryd.prog.info? 9).map (fun i => (i.zero, i.size, i.bytes)) = some (some (.string ByteArray.empty), 1, 16) := by kernel_rfl

set_option maxRecDepth 100000 in
set_option maxHeartbeats 4000000 in
theorem words_any (L : List UInt8) (hL : L.length ≤ 1000000) (w : World) :
    Calls Tryd.prog 56 #[.string (bs L)] w fun e w' => (∃ (g c : Nat) (v : List UInt8) (r : List (List UInt8)), e = .returned (.slice (some ⟨g, 0, none⟩) (r.length + 1) c) ∧ NoB v ∧ (∀ x ∈ r, NoB x) ∧ joinW v r = L ∧ r.length ≤ 1000000 ∧
      (∀ j x, (v :: r)[j]? = some x → w'.cell? ⟨g, j, none⟩ = some (.string (bs x)))) ∧ Below w.heap.size w w' := by
  obtain ⟨i0, hinf, hz0, hz1, hz2⟩ : ∃ i, Tryd.prog.info? 9 = some i ∧ i.zero = some (.string ByteArray.empty) ∧ i.size = 1 ∧ i.bytes = 16 := by
    have h := infoStr
    cases hi : Tryd.prog.info? 9 with
    | none => rw [hi] at h; cases h
    | some i =>
      rw [hi] at h
      simp only [Option.map_some, Option.some.injEq, Prod.mk.injEq] at h
      exact ⟨i, rfl, h.1, h.2.1, h.2.2⟩
  have hsz : (bs L).size = L.length := bs_size _
  go_enter Tryd.func56, Tryd.ntmps56
  go_wp2_with fail
  go_loopw [3, 4] (fun o i wr => ∃ (p : Nat) (I : List (List UInt8)) (x : List UInt8) (g c : Nat), p ≤ L.length ∧ i = .int .i64 p ∧ o = .slice (some ⟨g, 0, none⟩) (I.length + 1) c ∧ pre I ++ x = L.take p ∧ (∀ y ∈ I, NoB y) ∧ NoB x ∧ I.length ≤ p ∧
    wr.ownsRow w.heap.size 9 1 (.slice (some ⟨g, 0, none⟩) (I.length + 1) c) (I.length + 1) (cellsS (I ++ [x])) ∧ Below w.heap.size w wr) (fun _ i _ => 1000000 - (intOf i).toNat)
  case atStart =>
    refine ⟨0, [], [], w.heap.size, 1, Nat.zero_le _, rfl, rfl, rfl, (by simp), (by intro _ h; cases h), Nat.le_refl _, ?_, (Below.refl _ _).alloc (Nat.le_refl _) _⟩
    refine ⟨rfl, .inr ⟨w.heap.size, 1, #[.string (bs [])], rfl, Nat.le_refl _, ?_, Nat.le_refl _, by unfold maxLen; omega, rfl, rfl⟩⟩
    show (w.heap.push (.cells #[.string (bs [])] 9 (0, 0)))[w.heap.size]? = _
    rw [Array.getElem?_push_size]
  case round =>
    obtain ⟨p, I, x, g, c, hp, rfl, rfl, hpre, hI, hx, hlen, hown, hb⟩ := hrel
    have HO := Lib.hid hown
    have HB := Lib.hid hb
    have HP := Lib.hid hpre
    have HI := Lib.hid hI
    have HX := Lib.hid hx
    clear hown hb hpre hI hx
    have p0 : (0 : Int) ≤ (p : Int) := by omega
    by_cases hlt : p < L.length
    · have pl : (p : Int) < (L.length : Int) := by omega
      obtain ⟨cc, hcc⟩ : ∃ cc : Nat, ((bs L)[p]'(by rw [hsz]; exact hlt)).toNat = cc := ⟨_, rfl⟩
      have HCC : Hid ((L[p]).toNat = cc) := Lib.hid hcc
      by_cases h32 : cc = 32
      · have hq : ((cc : Int) == 32) = true := by rw [h32]; rfl
        have H32 := Lib.hid h32
        clear h32
        have hil : I.length + 1 ≤ 1000000 := by omega
        go_wp2_with (at_builtin; refine wpList_append_own_at _ rfl (.tmp 16) (.tmp 17) 85 rfl w.heap.size 9 i0 (.string ByteArray.empty) 1 16 Tryd.underlying85 hinf hz0 hz1 hz2 rfl (by decide) (.slice (some ⟨g, 0, none⟩) (I.length + 1) c) (I.length + 1) (cellsS (I ++ [x])) rfl (HO.out.alloc _) ⟨wr.heap.size, 0, none⟩ 1 1 [.string ByteArray.empty] rfl rfl (one_at rfl) (by simp [Value.oneCell']) (by unfold maxLen; omega) (by omega) (by simp only [World.size_alloc]; have := HB.out.size; omega) ?_; intro v' w3 hown3 hg3 hnil3 hat3)
        obtain ⟨p', cap', rfl, hC, hR⟩ := push_row (Y := wr) (p := some ⟨g, 0, none⟩) (cap := c) ((Below.refl _ wr).alloc (Nat.le_refl _) _) hown3 hg3 hat3
        obtain ⟨g', rfl⟩ : ∃ g', p' = some ⟨g', 0, none⟩ := by
          obtain ⟨_, ⟨h0, _⟩ | ⟨g', c', cur, e1, _⟩⟩ := hown3
          · cases h0
          · cases e1; exact ⟨g', rfl⟩
        go_roundw
        case rel =>
          refine ⟨p + 1, I ++ [x], [], g', cap', by omega, by go_num, by simp, ?_, ?_, (by intro _ h; cases h), by simp; omega, ?_, HB.out.trans (hC.below (fun k hk => (owns_lt HO.out hk).1) HB.out.size)⟩
          · rw [List.append_nil, pre_snoc, ← List.append_assoc, HP.out, List.take_add_one, List.getElem?_eq_getElem hlt]
            congr 1
            show [32] = [L[p]]
            rw [show L[p] = 32 from UInt8.toNat_inj.1 (by rw [HCC.out, H32.out]; rfl)]
          · intro y hy
            rcases List.mem_append.1 hy with h | h
            · exact HI.out y h
            · obtain rfl := List.mem_singleton.1 h; exact HX.out
          · rw [List.length_append, List.length_singleton, cellsS_snoc]
            exact hown3
        case measure => simp [intOf]; omega
      · have hq : ((cc : Int) == 32) = false := by rw [beq_eq_false_iff_ne]; omega
        have H32 := Lib.hid h32
        clear h32
        have hcx := owns_cell HO.out I.length (.string (bs x)) (by rw [cellsS_snoc, List.getElem?_append_right (by simp [cellsS]), cellsS_length]; simp)
        have hfx : wr.frozen? ⟨g, I.length, none⟩ = false := by
          obtain ⟨_, ⟨h0, _⟩ | ⟨g', c', cur, e1, _, e3, _⟩⟩ := HO.out
          · cases h0
          · cases e1
            unfold World.frozen?
            rw [e3]
            simp
        have hcap : I.length + 1 ≤ c := (owns_cap HO.out).1
        have hxs : (bs x).size ≤ 1000000 := by
          rw [bs_size]
          have := congrArg List.length HP.out
          rw [List.length_append, List.length_take] at this
          omega
        have hex : (bs L).extract p (p + 1) = bs [L[p]] := by
          apply ByteArray.ext
          apply Array.ext'
          simp [bs, ByteArray.data_extract]
          rw [List.drop_eq_getElem_cons hlt]; rfl
        have hs1 : (bs [L[p]]).size = 1 := bs_size _
        have hg1 : (0 : Int) ≤ (I.length : Int) := by omega
        have hg2 : (I.length : Int) < (I.length : Int) + 1 := by omega
        have hil : I.length ≤ 1000000 := by omega
        have hw1 : IntKind.i64.wrap ((I.length : Int) + 1 - 1) = (I.length : Int) := by rw [IntKind.wrap_i64]; omega
        have hw2 : IntKind.i64.wrap ((p : Int) + 1) = (p : Int) + 1 := by rw [IntKind.wrap_i64]; omega
        have hcs2 : (bs x).size + 1 ≤ 9223372036854775807 := by omega
        have hcs1 : ¬ 9223372036854775807 < (bs x).size + 1 := by omega
        have hn1 : ((p : Int) + 1).toNat = p + 1 := by omega
        have hps : (p : Int) + 1 ≤ (L.length : Int) := by omega
        have hpp : (p : Int) ≤ (p : Int) + 1 := by omega
        have hps2 : p + 1 ≤ L.length := hlt
        have hw3 : IntKind.i64.wrap (I.length : Int) = (I.length : Int) := by rw [IntKind.wrap_i64]; omega
        go_wp2_with fail
        go_still_tail 17, (by kernel_rfl)
        go_wp2_with fail
        go_roundw
        case rel =>
          refine ⟨p + 1, I, x ++ [L[p]], g, c, by omega, by go_num, rfl, ?_, HI.out, ?_, by omega, ?_, Below.drew (HB.out.setCell (p := ⟨g, I.length, none⟩) (owns_lt HO.out (g := g) rfl).1 _)⟩
          · rw [← List.append_assoc, HP.out, List.take_add_one, List.getElem?_eq_getElem hlt]
            rfl
          · intro y hy
            rcases List.mem_append.1 hy with h | h
            · exact HX.out y h
            · obtain rfl := List.mem_singleton.1 h
              intro e
              apply H32.out
              rw [← HCC.out, e]; rfl
          · have h1 := (World.ownsRow.stored (w := wr) (g := g) (cap := c) HO.out I.length (.string (bs (x ++ [L[p]])))).1
            rw [cellsS_snoc] at h1 ⊢
            rw [List.set_append_right _ _ (by rw [cellsS_length]; exact Nat.le_refl _), cellsS_length, Nat.sub_self] at h1
            rw [bs_append]
            exact h1
        case measure => simp [intOf]; omega
    · obtain rfl : p = L.length := by omega
      go_wp2_with fail
      go_ret
      obtain ⟨v, r, e1, e2⟩ := pre_join I x
      have hlen1 : I.length = r.length := by
        have := congrArg List.length e1
        simp at this; omega
      refine ⟨⟨g, c, v, r, by rw [hlen1]; rfl, ?_, ?_, ?_, ?_, ?_⟩, HB.out⟩
      · have : v ∈ I ++ [x] := by rw [e1]; simp
        rcases List.mem_append.1 this with h | h
        · exact HI.out _ h
        · obtain rfl := List.mem_singleton.1 h; exact HX.out
      · intro y hy
        have : y ∈ I ++ [x] := by rw [e1]; simp [hy]
        rcases List.mem_append.1 this with h | h
        · exact HI.out _ h
        · obtain rfl := List.mem_singleton.1 h; exact HX.out
      · rw [e2, HP.out, List.take_length]
      · omega
      · intro j y hy
        rw [← e1] at hy
        exact owns_cell HO.out j _ (by unfold cellsS; rw [List.getElem?_map, hy]; rfl)
end Go.Proofs.YtenjllknianieaaDoor.Opr
