/-
  Do, of whatever operation.
-/
import Derived.Test.YtadkmidipjlcjaaDoorGrO
import Derived.Test.YtadkmidipjlcjaaDoorGrI1
namespace Go.Proofs.YtadkmidipjlcjaaDoor.Gra
open Go.RowKit Go.Proofs.YtadkmidipjlcjaaDoor.Opr
open Go.Proofs.YtadkmidipjlcjaaDoor.Row (rowB rowB_none Chg)

theorem safe_any (G : Nat) (m : Nat) (k a x cc : Int) (W : World) :
    Calls Tryd.prog 54 #[.pointer (some ⟨G, 0, none⟩), .int .i64 m, .agg #[.int .i64 k, .int .i64 a, .int .i64 x, .int .i64 cc]] W fun e w' => e = .returned (.tuple #[.int .i64 0, .int .i64 0]) ∧ Below W.heap.size W w' := by
  have HA : Hid (Below W.heap.size W (W.alloc (.cells #[.int .i64 k, .int .i64 a, .int .i64 x, .int .i64 cc] 39))) := Lib.hid ((Below.refl _ _).alloc (Nat.le_refl _) _)
  go_enter Tryd.func54, Tryd.ntmps54
  go_wp2_with fail
  go_ret2
  exact ⟨rfl, HA.out⟩
/-- Do, of whatever operation. -/
theorem do_any {b wd lg st : Int} {M r nc : Nat} {W : World} {G : Nat} {P : Nat → Option Addr} {K : Nat → Nat} {s : GSt} (h : GIs ⟨b, wd, M, r, nc, lg, st⟩ W G P K s) (wf : GWf M r nc s) (hN : s.nO ≤ 1000000) (ht : FormTab W) (hl : LimTab W) (m k a x cc : Int) :
    Calls Tryd.prog 12 #[.pointer (some ⟨G, 0, none⟩), .int .i64 m, .agg #[.int .i64 k, .int .i64 a, .int .i64 x, .int .i64 cc]] W fun e w' => e = .returned (.tuple #[.int .i64 (gdo ⟨b, wd, M, r, nc, lg, st⟩ s m k a x cc).1, .int .i64 (gdo ⟨b, wd, M, r, nc, lg, st⟩ s m k a x cc).2.1]) ∧ Ef ⟨b, wd, M, r, nc, lg, st⟩ G P W w' (gdo ⟨b, wd, M, r, nc, lg, st⟩ s m k a x cc).2.2 := by
  have h8 := h.r
  rw [wf.nR] at h8
  by_cases hm : 0 ≤ m ∧ m < (M : Int)
  · obtain ⟨mn, rfl⟩ : ∃ n : Nat, m = n := ⟨m.toNat, by omega⟩
    have hmn : mn < M := by omega
    have hmR : mn < s.nR := by rw [wf.nR]; exact hmn
    have hlr : (s.E (4 + 2 * mn)).length = r := wf.reg mn hmn
    have hlc := wf.cel
    by_cases hck : checkE b wd M r nc lg st k a x cc = 0
    · have e1 : gdo ⟨b, wd, M, r, nc, lg, st⟩ s mn k a x cc = gd s mn k a x cc := by
        unfold gdo
        rw [if_neg (by simpa using hm), if_neg (by simpa using hck)]
      rw [e1]
      rcases isK_cases (check_kind hck).1 with rfl | rfl | rfl | rfl | rfl | rfl | rfl | rfl
      · obtain ⟨ha, hx⟩ := ck1 hck
        obtain ⟨an, rfl⟩ : ∃ n : Nat, a = n := ⟨a.toNat, by omega⟩
        obtain ⟨xn, rfl⟩ : ∃ n : Nat, x = n := ⟨x.toNat, by omega⟩
        refine (do_alloc an xn cc ((s.nO : Int) + 1) 0 (fun V w' => Ef ⟨b, wd, M, r, nc, lg, st⟩ G P V w' ((s.add xn).set (4 + 2 * mn) an ((s.nO : Int) + 1))) W h.cf h8 hmn ht hl hck (fun V hV => alloc_any (h.later hV) _ cc hmR (by rw [hlr]; omega) (by omega) hN)).mono ?_
        rintro e w' ⟨rfl, V, hV, hE⟩
        exact ⟨rfl, hE.before hV⟩
      · obtain ⟨ha, hx⟩ := ck2 hck
        obtain ⟨an, rfl⟩ : ∃ n : Nat, a = n := ⟨a.toNat, by omega⟩
        obtain ⟨xn, rfl⟩ : ∃ n : Nat, x = n := ⟨x.toNat, by omega⟩
        have hv := wf.rg hm hx
        have hxl : xn < (s.E (4 + 2 * mn)).length := by rw [hlr]; omega
        by_cases h0 : rg s mn xn = 0
        · have e2 : gd s mn 2 an xn cc = (0, 6, s) := by unfold gd; simp only [show ¬ (2 : Int) = 1 by decide, if_false, if_true, h0]
          rw [e2]
          refine (do_load an xn cc 0 6 (fun V w' => Below V.heap.size V w') W h.cf h8 hmn ht hl hck (fun V hV => load_bad (h.later hV) an cc 2 0 6 hmR hxl h0 (.inl rfl) (fun V2 _ => fieldNil_any G cc V2))).mono ?_
          rintro e w' ⟨rfl, V, hV, hE⟩
          exact ⟨rfl, Ef.self h (hV.trans (hE.mono hV.size))⟩
        · obtain ⟨n, hn⟩ : ∃ n : Nat, rg s mn xn = (n : Int) + 1 := ⟨(rg s mn xn - 1).toNat, by omega⟩
          have hnO : n < s.nO := by omega
          have eo : ob (rg s mn xn) = 3 + 2 * n := by unfold ob; rw [hn]; omega
          by_cases hf : 0 ≤ cc ∧ cc < (s.E (3 + 2 * n)).length
          · obtain ⟨cn, rfl⟩ : ∃ n : Nat, cc = n := ⟨cc.toNat, by omega⟩
            have e2 : gd s mn 2 an xn cn = ((s.E (3 + 2 * n)).getD cn 0, 0, s.set (4 + 2 * mn) an ((s.E (3 + 2 * n)).getD cn 0)) := by
              unfold gd
              rw [if_neg (by decide), if_pos rfl, if_neg h0, eo, if_neg (fun e => e hf)]
              rfl
            rw [e2]
            refine (do_load an xn cn _ 0 (fun V w' => Ef ⟨b, wd, M, r, nc, lg, st⟩ G P V w' (s.set (4 + 2 * mn) an ((s.E (3 + 2 * n)).getD cn 0))) W h.cf h8 hmn ht hl hck (fun V hV => load_any (h.later hV) 2 hmR (by rw [hlr]; omega) hxl hn hnO hN (by omega))).mono ?_
            rintro e w' ⟨rfl, V, hV, hE⟩
            exact ⟨rfl, hE.before hV⟩
          · have e2 : gd s mn 2 an xn cc = (0, 7, s) := by
              unfold gd
              rw [if_neg (by decide), if_pos rfl, if_neg h0, eo, if_pos hf]
            rw [e2]
            refine (do_load an xn cc 0 7 (fun V w' => Below V.heap.size V w') W h.cf h8 hmn ht hl hck (fun V hV => load_bad (h.later hV) an cc 2 ((n : Int) + 1) 7 hmR hxl hn (.inr rfl) (fun V2 hV2 => field_no ((h.later hV).later hV2) cc hnO hN hf))).mono ?_
            rintro e w' ⟨rfl, V, hV, hE⟩
            exact ⟨rfl, Ef.self h (hV.trans (hE.mono hV.size))⟩
      · obtain ⟨ha, hx⟩ := ck3 hck
        obtain ⟨an, rfl⟩ : ∃ n : Nat, a = n := ⟨a.toNat, by omega⟩
        obtain ⟨cn, rfl⟩ : ∃ n : Nat, cc = n := ⟨cc.toNat, by omega⟩
        have hv := wf.rg hm ha
        have hal : an < (s.E (4 + 2 * mn)).length := by rw [hlr]; omega
        by_cases h0 : rg s mn an = 0
        · have e2 : gd s mn 3 an x cn = (0, 6, s) := by unfold gd; simp only [show ¬ (3 : Int) = 1 by decide, show ¬ (3 : Int) = 2 by decide, if_false, if_true, h0]
          rw [e2]
          refine (do_store an x cn 0 6 (fun V w' => Below V.heap.size V w') W h.cf h8 hmn ht hl hck (fun V hV => store_bad (h.later hV) x cn 3 0 6 hmR hal h0 (.inl rfl) (fun V2 _ => fieldNil_any G x V2))).mono ?_
          rintro e w' ⟨rfl, V, hV, hE⟩
          exact ⟨rfl, Ef.self h (hV.trans (hE.mono hV.size))⟩
        · obtain ⟨n, hn⟩ : ∃ n : Nat, rg s mn an = (n : Int) + 1 := ⟨(rg s mn an - 1).toNat, by omega⟩
          have hnO : n < s.nO := by omega
          have eo : ob (rg s mn an) = 3 + 2 * n := by unfold ob; rw [hn]; omega
          by_cases hf : 0 ≤ x ∧ x < (s.E (3 + 2 * n)).length
          · obtain ⟨xn, rfl⟩ : ∃ n : Nat, x = n := ⟨x.toNat, by omega⟩
            have e2 : gd s mn 3 an xn cn = (0, 0, s.set (3 + 2 * n) xn (rg s mn cn)) := by
              unfold gd
              rw [if_neg (by decide), if_neg (by decide), if_pos rfl, if_neg h0, eo, if_neg (fun e => e hf)]
              rfl
            rw [e2]
            refine (do_store an xn cn 0 0 (fun V w' => Ef ⟨b, wd, M, r, nc, lg, st⟩ G P V w' (s.set (3 + 2 * n) xn (rg s mn cn))) W h.cf h8 hmn ht hl hck (fun V hV => store_any (h.later hV) 3 hmR (by rw [hlr]; omega) hal hn hnO hN (by omega))).mono ?_
            rintro e w' ⟨rfl, V, hV, hE⟩
            exact ⟨rfl, hE.before hV⟩
          · have e2 : gd s mn 3 an x cn = (0, 7, s) := by
              unfold gd
              rw [if_neg (by decide), if_neg (by decide), if_pos rfl, if_neg h0, eo, if_pos hf]
            rw [e2]
            refine (do_store an x cn 0 7 (fun V w' => Below V.heap.size V w') W h.cf h8 hmn ht hl hck (fun V hV => store_bad (h.later hV) x cn 3 ((n : Int) + 1) 7 hmR hal hn (.inr rfl) (fun V2 hV2 => field_no ((h.later hV).later hV2) x hnO hN hf))).mono ?_
            rintro e w' ⟨rfl, V, hV, hE⟩
            exact ⟨rfl, Ef.self h (hV.trans (hE.mono hV.size))⟩
      · obtain ⟨ha, hx⟩ := ck4 hck
        obtain ⟨an, rfl⟩ : ∃ n : Nat, a = n := ⟨a.toNat, by omega⟩
        obtain ⟨xn, rfl⟩ : ∃ n : Nat, x = n := ⟨x.toNat, by omega⟩
        refine (do_get an xn cc _ 0 (fun V w' => Ef ⟨b, wd, M, r, nc, lg, st⟩ G P V w' (s.set (4 + 2 * mn) an ((s.E 2).getD xn 0))) W h.cf h8 hmn ht hl hck (fun V hV => get_any (h.later hV) hmR (by rw [hlr]; omega) (by rw [hlc]; omega) 4 cc)).mono ?_
        rintro e w' ⟨rfl, V, hV, hE⟩
        exact ⟨rfl, hE.before hV⟩
      · obtain ⟨ha, hx⟩ := ck5 hck
        obtain ⟨an, rfl⟩ : ∃ n : Nat, a = n := ⟨a.toNat, by omega⟩
        obtain ⟨xn, rfl⟩ : ∃ n : Nat, x = n := ⟨x.toNat, by omega⟩
        refine (do_set an xn cc 0 0 (fun V w' => Ef ⟨b, wd, M, r, nc, lg, st⟩ G P V w' (s.set 2 an (rg s mn xn))) W h.cf h8 hmn ht hl hck (fun V hV => set_any (h.later hV) hmR (by rw [hlr]; omega) (by rw [hlc]; omega) 5 cc)).mono ?_
        rintro e w' ⟨rfl, V, hV, hE⟩
        exact ⟨rfl, hE.before hV⟩
      · have ha := ck6 hck
        obtain ⟨an, rfl⟩ : ∃ n : Nat, a = n := ⟨a.toNat, by omega⟩
        refine (do_drop an x cc 0 0 (fun V w' => Ef ⟨b, wd, M, r, nc, lg, st⟩ G P V w' (s.set (4 + 2 * mn) an 0)) W h.cf h8 hmn ht hl hck (fun V hV => drop_any (h.later hV) hmR (by rw [hlr]; omega) 6 x cc)).mono ?_
        rintro e w' ⟨rfl, V, hV, hE⟩
        exact ⟨rfl, hE.before hV⟩
      · obtain ⟨ha, hx⟩ := ck7 hck
        obtain ⟨an, rfl⟩ : ∃ n : Nat, a = n := ⟨a.toNat, by omega⟩
        obtain ⟨xn, rfl⟩ : ∃ n : Nat, x = n := ⟨x.toNat, by omega⟩
        refine (do_move an xn cc _ 0 (fun V w' => Ef ⟨b, wd, M, r, nc, lg, st⟩ G P V w' (s.set (4 + 2 * mn) an (rg s mn xn))) W h.cf h8 hmn ht hl hck (fun V hV => move_any (h.later hV) hmR (by rw [hlr]; omega) (by rw [hlr]; omega) 7 cc)).mono ?_
        rintro e w' ⟨rfl, V, hV, hE⟩
        exact ⟨rfl, hE.before hV⟩
      · refine (do_safe a x cc 0 0 (fun V w' => Below V.heap.size V w') W h.cf h8 hmn ht hl hck (fun V _ => safe_any G mn 8 a x cc V)).mono ?_
        rintro e w' ⟨rfl, V, hV, hE⟩
        exact ⟨rfl, Ef.self h (hV.trans (hE.mono hV.size))⟩
    · have e1 : gdo ⟨b, wd, M, r, nc, lg, st⟩ s mn k a x cc = (0, checkE b wd M r nc lg st k a x cc, s) := by
        unfold gdo
        rw [if_neg (by simpa using hm), if_pos hck]
      rw [e1]
      refine (doBad_any k a x cc W h.cf h8 hmn ht hl hck).mono ?_
      rintro e w' ⟨rfl, hb⟩
      exact ⟨rfl, Ef.self h hb⟩
  · have e1 : gdo ⟨b, wd, M, r, nc, lg, st⟩ s m k a x cc = (0, 4, s) := by
      unfold gdo
      rw [if_pos (by simpa using hm)]
    rw [e1]
    refine (doOut_any m k a x cc W h8 hm).mono ?_
    rintro e w' ⟨rfl, hb⟩
    exact ⟨rfl, Ef.self h hb⟩
end Go.Proofs.YtadkmidipjlcjaaDoor.Gra
