/-
  Spread: numbers, in blocks, as picks.
-/
import Derived.Test.YthofknjdmfpbeaaFaO
namespace Go.Proofs.Ythofknjdmfpbeaa.Fa
open Go.RowKit Go.Shelf
open Go.Proofs.Ythofknjdmfpbeaa.Row
attribute [local go_sem] Oper.semAt_some

/-- What is spread of some blocks. -/
structure SprP (raw : List Nat) (n B c : Nat) (L : List Int) : Prop where
  len : L.length = c * B
  hd : ∀ b, b < c → ∀ i, i < n → L.getD (b * B + ahd (fun j => raw.getD (b * B + j) 0) n i) 0 = (i : Nat)
  tl : ∀ b, b < c → ∀ i, n ≤ i → i < B → L.getD (b * B + i) 0 = ((raw.getD (b * B + i) 0 % n : Nat) : Int)
  rng : ∀ x, x ∈ L → 0 ≤ x ∧ x < n
theorem ahd_congr {v v' : Nat → Nat} {n x : Nat} (hx : x < n) (h : ∀ y, y < n → v y = v' y) : ahd v n x = ahd v' n x := by
  unfold ahd
  refine List.countP_congr fun y hy => ?_
  have hy' : y < n := by simpa using hy
  simp only [h y hy', h x hx]
theorem OrdP.congr {v v' : Nat → Nat} {n : Nat} {R : List Nat} (h : OrdP v n R) (he : ∀ y, y < n → v y = v' y) : OrdP v' n R :=
  ⟨h.perm, fun x hx => by rw [← ahd_congr hx he]; exact h.pos x hx⟩
/-- A block's picks. -/
def blkL (raw : List Nat) (n B c : Nat) (R : List Nat) (k : Nat) : List Int := R.map (fun (x : Nat) => (x : Int)) ++ (List.range k).map fun j => ((raw.getD (c * B + (n + j)) 0 % n : Nat) : Int)
theorem blkL_len {raw : List Nat} {n B c k : Nat} {R : List Nat} (hR : R.length = n) : (blkL raw n B c R k).length = n + k := by simp [blkL, hR]
theorem blkL_succ {raw : List Nat} {n B c k : Nat} {R : List Nat} : blkL raw n B c R (k + 1) = blkL raw n B c R k ++ [((raw.getD (c * B + (n + k)) 0 % n : Nat) : Int)] := by simp [blkL, List.range_succ]
theorem getD_left {L M : List Int} {i : Nat} (h : i < L.length) : (L ++ M).getD i 0 = L.getD i 0 := by simp [List.getD_eq_getElem?_getD, List.getElem?_append_left h]
theorem getD_right {L M : List Int} {i : Nat} : (L ++ M).getD (L.length + i) 0 = M.getD i 0 := by simp [List.getD_eq_getElem?_getD, List.getElem?_append_right]
theorem SprP.next {raw : List Nat} {n B c : Nat} {L : List Int} {R : List Nat} (h : SprP raw n B c L) (hn : 1 ≤ n) (hnB : n ≤ B) (hR : OrdP (fun j => raw.getD (c * B + j) 0) n R) : SprP raw n B (c + 1) (L ++ blkL raw n B c R (B - n)) := by
  have hl := h.len
  have hRl := hR.len
  have hmul : ∀ b, b < c → b * B + B ≤ c * B := fun b hb => by
    have := Nat.mul_le_mul_right B (show b + 1 ≤ c by omega)
    rw [Nat.succ_mul] at this
    exact this
  refine ⟨by rw [List.length_append, blkL_len hRl, hl, Nat.succ_mul]; omega, fun b hb i hi => ?_, fun b hb i h1 h2 => ?_, fun x hx => ?_⟩
  · have ha := ahd_lt (v := fun j => raw.getD (b * B + j) 0) hi
    by_cases e : b = c
    · subst e
      have hp := hR.pos i hi
      generalize ahd (fun j => raw.getD (b * B + j) 0) n i = q at *
      rw [← hl, getD_right]
      unfold blkL
      rw [getD_left (by rw [List.length_map]; omega), List.getD_eq_getElem?_getD, List.getElem?_map]
      rw [List.getD_eq_getElem?_getD] at hp
      rw [List.getElem?_eq_getElem (by omega)] at hp ⊢
      simp only [Option.getD_some] at hp
      simp only [Option.map_some, Option.getD_some]
      omega
    · have := hmul b (by omega)
      rw [getD_left (by omega)]
      exact h.hd b (by omega) i hi
  · by_cases e : b = c
    · subst e
      rw [← hl, getD_right]
      unfold blkL
      have : i = (R.map (fun (x : Nat) => (x : Int))).length + (i - n) := by simp [hRl]; omega
      rw [hl]
      conv => lhs; rw [this]
      rw [getD_right, List.getD_eq_getElem?_getD, List.getElem?_map, List.getElem?_range (by omega)]
      simp [show n + (i - n) = i by omega]
    · have := hmul b (by omega)
      rw [getD_left (by omega)]
      exact h.tl b (by omega) i h1 h2
  · rcases List.mem_append.1 hx with hx | hx
    · exact h.rng x hx
    · unfold blkL at hx
      rcases List.mem_append.1 hx with hx | hx
      · obtain ⟨y, hy, rfl⟩ := List.mem_map.1 hx
        have := hR.lt hy
        omega
      · obtain ⟨j, _, rfl⟩ := List.mem_map.1 hx
        have := Nat.mod_lt (raw.getD (c * B + (n + j)) 0) (show 0 < n by omega)
        omega

theorem spread_bad (v : Value) (n B : Int) (w : World) (h : n < 1 ∨ 16 < n ∨ B < n ∨ 1000 < B) : Calls Try.prog 15 #[v, .int .i64 n, .int .i64 B] w fun e w' => e = .returned (.slice none 0 0) ∧ w = w' := by
  by_cases h1 : n < 1
  · go_enter Try.func15, Try.ntmps15
    go_wp2
    go_ret
    exact ⟨rfl, rfl⟩
  by_cases h2 : 16 < n
  · go_enter Try.func15, Try.ntmps15
    go_wp2
    go_ret
    exact ⟨rfl, rfl⟩
  by_cases h3 : B < n
  · go_enter Try.func15, Try.ntmps15
    go_wp2
    go_ret
    exact ⟨rfl, rfl⟩
  · have h4 : 1000 < B := by omega
    go_enter Try.func15, Try.ntmps15
    go_wp2
    go_ret
    exact ⟨rfl, rfl⟩

theorem order_anyN (n : Nat) (g off cap : Nat) (v : List Nat) (w : World) (hn : 1 ≤ n) (hv : v.length = n) (hm : n ≤ 16) (hr : Ru w (some ⟨g, off, none⟩) v) :
    Calls Try.prog 23 #[.slice (some ⟨g, off, none⟩) n cap] w fun e w' => ∃ b R, e = .returned (.slice (some ⟨b, 0, none⟩) n n) ∧ OrdP (fun i => v.getD i 0) n R ∧
      (∀ j, j < n → w'.cell? ⟨b, j, none⟩ = some (.int .i64 (R.getD j 0 : Nat))) ∧ Below w.heap.size w w' := by
  obtain ⟨m, rfl⟩ : ∃ m, n = m + 1 := ⟨n - 1, by omega⟩
  exact order_any g off cap v w hv hm hr
def lenOf : Value → Nat
  | .slice _ n _ => n
  | _ => 0
theorem Ru.drop {w : World} {g off : Nat} {l : List Nat} (h : Ru w (some ⟨g, off, none⟩) l) (k : Nat) : Ru w (some ⟨g, off + k, none⟩) (l.drop k) := fun j hj => by
  rw [List.length_drop] at hj
  obtain ⟨h1, g', off', e, hc⟩ := h (k + j) (by omega)
  cases e
  have e : (l.drop k).getD j 0 = l.getD (k + j) 0 := by simp [List.getD_eq_getElem?_getD]
  rw [e]
  exact ⟨h1, g, off + k, rfl, by rw [show off + k + j = off + (k + j) by omega]; exact hc⟩
theorem Ru.take {w : World} {p : Option Addr} {l : List Nat} (h : Ru w p l) (k : Nat) : Ru w p (l.take k) := fun j hj => by
  rw [List.length_take] at hj
  have e : (l.take k).getD j 0 = l.getD j 0 := by simp [List.getD_eq_getElem?_getD, show j < k by omega]
  rw [e]
  exact h j (by omega)
theorem Ru.empty (w : World) (p : Option Addr) {l : List Nat} (h : l.length = 0) : Ru w p l := fun j hj => by omega

set_option maxHeartbeats 8000000 in
set_option maxRecDepth 100000 in
theorem spread_walk (p : Option Addr) (raw : List Nat) (cap n B : Nat) (w : World) (hn : 1 ≤ n) (hn2 : n ≤ 16) (hnB : n ≤ B) (hB : B ≤ 1000) (hlen : raw.length ≤ 300) (hcap : raw.length ≤ cap ∧ cap ≤ maxLen) (hr : Ru w p raw) :
    Calls Try.prog 15 #[.slice p raw.length cap, .int .i64 n, .int .i64 B] w fun e w' => ∃ q L cq, e = .returned (.slice q (L.length) cq) ∧ SprP raw n B (raw.length / B) L ∧ w'.ownsRow w.heap.size 3 1 (.slice q L.length cq) L.length (cellsZ L) ∧ Below w.heap.size w w' := by
  obtain ⟨i0, hinf, hz0, hz1, hz2⟩ := info_parts infoInt
  have h1 : ¬ (n : Int) < 1 := by omega
  have h2 : ¬ (16 : Int) < (n : Int) := by omega
  have h3 : ¬ (B : Int) < (n : Int) := by omega
  have h4 : ¬ (1000 : Int) < (B : Int) := by omega
  have HR := Lib.hid hr
  clear hr
  go_enter Try.func15, Try.ntmps15
  go_wp2
  go_loopw [0, 7, 9, 40] (fun rv lv _ _ wr => ∃ (c : Nat) (q : Option Addr) (cq : Nat) (pl : Option Addr) (L : List Int) (cl : Nat), c * B ≤ raw.length ∧ rv = .slice q (raw.length - c * B) cq ∧ Ru w q (raw.drop (c * B)) ∧ (raw.length - c * B ≤ cq ∧ cq ≤ maxLen) ∧ lv = .slice pl L.length cl ∧ SprP raw n B c L ∧ wr.ownsRow w.heap.size 3 1 (.slice pl L.length cl) L.length (cellsZ L) ∧ Below w.heap.size w wr) (fun rv _ _ _ _ => lenOf rv)
  case atStart => exact ⟨0, p, cap, none, [], 0, by omega, by simp, by simpa using HR.out, by simpa using hcap, rfl, ⟨by simp, fun b hb => by omega, fun b hb => by omega, fun x hx => by simp at hx⟩, ⟨rfl, .inl ⟨rfl, rfl⟩⟩, Below.refl _ _⟩
  case round =>
    obtain ⟨c, q, cq, pl, L, cl, hc, rfl, hq, hcq, rfl, hS, hown, hb⟩ := hrel
    have HS := Lib.hid hS
    have HO := Lib.hid hown
    have HB := Lib.hid hb
    have HQ := Lib.hid hq
    have HC := Lib.hid hc
    have hLl := hS.len
    clear hS hown hb hq
    generalize hD : raw.length - c * B = D at *
    have HD := Lib.hid hD
    by_cases hlt : B ≤ D
    · have j0 : (B : Int) ≤ (D : Int) := by omega
      obtain ⟨_, g, off, rfl, _⟩ := HQ.out 0 (by rw [List.length_drop]; omega)
      have HOR := Lib.hid (order_anyN n g off cq ((raw.drop (c * B)).take n) wr hn (by rw [List.length_take, List.length_drop]; omega) hn2 ((HQ.out.take n).later HB.out))
      have j1 : (n : Int) ≤ (B : Int) := by omega
      have j2 : (B : Int) ≤ (cq : Int) := by omega
      have j3 : (n : Int) ≤ (cq : Int) := by omega
      have HL := Lib.hid hLl
      clear hD hLl
      have hL300 : L.length ≤ 300 := by have := HL.out; have := HC.out; omega
      have HOW : Hid (∀ W, Below wr.heap.size wr W → W.ownsRow w.heap.size 3 1 (.slice pl L.length cl) L.length (cellsZ L)) := Lib.hid fun W hW => owns_block HO.out (fun x hx => hW.block x (owns_lt HO.out hx).2)
      have HCC : Hid (∀ (b : Nat) (R : List Nat) (W : World), R.length = n → (∀ j, j < n → W.cell? ⟨b, j, none⟩ = some (.int .i64 (R.getD j 0 : Nat))) → ∀ j u, (cellsZ (R.map fun (x : Nat) => (x : Int)))[j]? = some u → W.cell? ((⟨b, 0, none⟩ : Addr).add j) = some u) := Lib.hid fun b R W hRl hcells j u hj => by
        have hjl : j < n := by
          have := (List.getElem?_eq_some_iff.1 hj).1
          simpa [cellsZ, hRl] using this
        have h1 : (cellsZ (R.map fun (x : Nat) => (x : Int)))[j]? = some (.int .i64 (R.getD j 0 : Nat)) := by
          unfold cellsZ
          rw [List.getElem?_map, List.getElem?_map, List.getD_eq_getElem?_getD, List.getElem?_eq_getElem (by omega)]
          rfl
        rw [h1] at hj
        cases hj
        rw [Addr.add_lit, Nat.zero_add]
        exact hcells j hjl
      go_wp2_with (first
        | (go_at_call 23; refine HOR.out.mono ?_; rintro e w2 ⟨b, R, rfl, hR, hcells, hb2⟩)
        | (at_builtin; refine wpList_append_own_at _ rfl _ _ 22 rfl w.heap.size 3 i0 (.int .i64 0) 1 8 Try.underlying22 hinf hz0 hz1 hz2 rfl (by decide) _ _ _ rfl (HOW.out w2 hb2) ⟨b, 0, none⟩ n n (cellsZ (R.map fun (x : Nat) => (x : Int))) rfl ?qc1 (HCC.out b R w2 hR.len hcells) ?qc3 ?qc4 ?qc5 ?qc6 ?_))
      case qc1 => rw [cellsZ_length, List.length_map, hR.len, Nat.mul_one]
      case qc3 => intro u hu; unfold cellsZ at hu; obtain ⟨x, _, rfl⟩ := List.mem_map.1 hu; rfl
      case qc4 => unfold maxLen; omega
      case qc5 => omega
      case qc6 => exact Nat.le_trans HB.out.size hb2.size
      intro v' w3 hown3 hgrow3 _ hat3
      have hRl := hR.len
      have hRR : OrdP (fun j => raw.getD (c * B + j) 0) n R := hR.congr fun y hy => by simp [List.getD_eq_getElem?_getD, hy]
      obtain ⟨p3, c3, rfl, hC3, _⟩ := push_row hb2 hown3 hgrow3 hat3
      have hown4 : w3.ownsRow w.heap.size 3 1 (.slice p3 (L ++ blkL raw n B c R 0).length c3) (L ++ blkL raw n B c R 0).length (cellsZ (L ++ blkL raw n B c R 0)) := by
        have e1 : (L ++ blkL raw n B c R 0).length = L.length + n := by rw [List.length_append, blkL_len hRl]; rfl
        have e2 : cellsZ (L ++ blkL raw n B c R 0) = cellsZ L ++ cellsZ (R.map fun (x : Nat) => (x : Int)) := by simp [cellsZ, blkL]
        rw [e1, e2]
        exact hown3
      have hb3 : Below w.heap.size w w3 := HB.out.trans (hC3.below (fun x hx => (owns_lt HO.out hx).1) HB.out.size)
      have e1 : L.length + n = (L ++ blkL raw n B c R 0).length := by rw [List.length_append, blkL_len hRl]; rfl
      have HO4 := Lib.hid hown4
      have HB3 := Lib.hid hb3
      have HRR := Lib.hid hRR
      have HRL := Lib.hid hRl
      clear hown3 hgrow3 hat3 hcells hb2 hR hRR hC3 hown4 hb3 hRl
      rw [e1]
      clear e1
      obtain ⟨L1, hL1⟩ : ∃ L1, L1 = L ++ blkL raw n B c R 0 := ⟨_, rfl⟩
      rw [← hL1] at HO4 ⊢
      have hl1 : L1.length ≤ 300 := by rw [hL1, List.length_append, blkL_len HRL.out]; have := HL.out; have := HC.out; have := HD.out; omega
      have HL1 := Lib.hid hL1
      clear hL1
      by_cases hnc : (n : Int) < (cq : Int)
      · go_wp2_with fail
        go_loopw [7, 9, 40] (fun lv _ i wr => ∃ (j : Nat) (M : List Int) (pj : Option Addr) (cj : Nat), j ≤ B - n ∧ i = .int .i64 j ∧ lv = .slice pj M.length cj ∧ Hid (M = L ++ blkL raw n B c R j) ∧ wr.ownsRow w.heap.size 3 1 (.slice pj M.length cj) M.length (cellsZ M) ∧ Below w.heap.size w wr) (fun _ _ i _ => B - n - (intOf i).toNat)
        case atStart => exact ⟨0, L1, p3, c3, by omega, rfl, rfl, HL1, HO4.out, HB3.out⟩
        case round =>
          obtain ⟨j, M, pj, cj, hj, rfl, rfl, HM, hownj, hbj⟩ := hrel
          have HOJ := Lib.hid hownj
          have HBJ := Lib.hid hbj
          have hMl : M.length ≤ 300 := by rw [HM.out, List.length_append, blkL_len HRL.out]; have := HL.out; have := HC.out; have := HD.out; omega
          clear hownj hbj
          by_cases hjl : j < B - n
          · obtain ⟨hx6, g', off', e', hx⟩ := (HQ.out.later HBJ.out) (n + j) (by rw [List.length_drop]; have := HD.out; omega)
            cases e'
            have hxe : (raw.drop (c * B)).getD (n + j) 0 = raw.getD (c * B + (n + j)) 0 := by simp [List.getD_eq_getElem?_getD]
            rw [hxe] at hx hx6
            clear hxe
            obtain ⟨x, hxx⟩ : ∃ x, raw.getD (c * B + (n + j)) 0 = x := ⟨_, rfl⟩
            rw [hxx] at hx hx6
            have HXE := Lib.hid hxx
            clear hxx
            have k0 : (0 : Int) ≤ (j : Int) := Int.natCast_nonneg _
            have k1 : (j : Int) < (B : Int) - (n : Int) := by omega
            have hx' : wr.cell? ⟨g, off + n + j, none⟩ = some (.int .u16 x) := by rw [show off + n + j = off + (n + j) by omega]; exact hx
            clear hx
            have HMZ : Hid (((x : Int) % (n : Int)) = ((x % n : Nat) : Int)) := Lib.hid rfl
            go_wp2_with (at_builtin; refine wpList_append_own_at _ rfl _ _ 22 rfl w.heap.size 3 i0 (.int .i64 0) 1 8 Try.underlying22 hinf hz0 hz1 hz2 rfl (by decide) _ _ _ rfl (HOJ.out.alloc _) ⟨wr.heap.size, 0, none⟩ 1 1 [.int .i64 ((x : Int) % (n : Int))] rfl rfl (one_at rfl) (by simp [Value.oneCell']) (by unfold maxLen; omega) (by omega) ?qb ?_)
            case qb => have := HBJ.out.size; simp; omega
            intro v' w4 hown4 hgrow4 _ hat4
            obtain ⟨p4, c4, rfl, hC4, _⟩ := push_row ((Below.refl _ wr).alloc (Nat.le_refl _) _) hown4 hgrow4 (by simpa using hat4)
            have hb4 : Below w.heap.size w w4 := HBJ.out.trans (hC4.below (fun x hx => (owns_lt HOJ.out hx).1) HBJ.out.size)
            have HO5 := Lib.hid hown4
            have HB4 := Lib.hid hb4
            clear hown4 hgrow4 hat4 hC4 hb4
            go_wp2_with fail
            go_roundw
            case rel =>
              refine ⟨j + 1, M ++ [((x % n : Nat) : Int)], p4, c4, by omega, by go_num, by simp, Lib.hid (by rw [HM.out, blkL_succ, HXE.out, List.append_assoc]), ?_, HB4.out⟩
              have e1 : (M ++ [((x % n : Nat) : Int)]).length = M.length + 1 := by simp
              rw [e1, cellsZ_snoc, ← HMZ.out]
              exact HO5.out
            case measure => simp [intOf]; omega
          · obtain rfl : j = B - n := by omega
            have k1 : ¬ ((B - n : Nat) : Int) < (B : Int) - (n : Int) := by omega
            have HSN : Hid (SprP raw n B (c + 1) M) := Lib.hid (by rw [HM.out]; exact HS.out.next hn hnB HRR.out)
            have HMU : Hid ((c + 1) * B = c * B + B) := Lib.hid (Nat.succ_mul c B)
            by_cases hBc : (B : Int) < (cq : Int)
            · go_wp2_with fail
              go_roundw
              case rel =>
                refine ⟨c + 1, some ⟨g, off + B, none⟩, cq - B, pj, M, cj, by rw [HMU.out]; have := HD.out; have := HC.out; omega, by rw [HMU.out, ← HD.out, Nat.sub_sub], by rw [HMU.out, ← List.drop_drop]; exact HQ.out.drop B, by rw [HMU.out]; have := HD.out; omega, rfl, HSN.out, HOJ.out, HBJ.out⟩
              case measure => simp [lenOf]; omega
            · obtain rfl : cq = B := by omega
              go_wp2_with fail
              go_roundw
              case rel =>
                refine ⟨c + 1, some ⟨g, off, none⟩, 0, pj, M, cj, by rw [HMU.out]; have := HD.out; have := HC.out; omega, by rw [show raw.length - (c + 1) * cq = 0 by rw [HMU.out]; have := HD.out; omega], by refine Ru.empty _ _ ?_; rw [List.length_drop, HMU.out]; have := HD.out; omega, by rw [HMU.out]; have := HD.out; omega, rfl, HSN.out, HOJ.out, HBJ.out⟩
              case measure => simp [lenOf]; omega
      · obtain rfl : cq = n := by omega
        obtain rfl : B = cq := by omega
        have HSN : Hid (SprP raw B B (c + 1) L1) := Lib.hid (by rw [HL1.out]; have := HS.out.next hn hnB HRR.out; rwa [Nat.sub_self] at this)
        have HMU : Hid ((c + 1) * B = c * B + B) := Lib.hid (Nat.succ_mul c B)
        go_wp2_with fail
        go_loopw [7, 9, 40] (fun lv _ i wr => lv = .slice p3 L1.length c3 ∧ i = .int .i64 0 ∧ w3 = wr) (fun _ _ _ _ => 0)
        case atStart => exact ⟨rfl, rfl, rfl⟩
        case round =>
          obtain ⟨rfl, rfl, rfl⟩ := hrel
          go_wp2_with fail
          go_roundw
          case rel =>
            refine ⟨c + 1, some ⟨g, off, none⟩, 0, p3, L1, c3, by rw [HMU.out]; have := HD.out; have := HC.out; omega, by rw [show raw.length - (c + 1) * B = 0 by rw [HMU.out]; have := HD.out; omega], by refine Ru.empty _ _ ?_; rw [List.length_drop, HMU.out]; have := HD.out; omega, by rw [HMU.out]; have := HD.out; omega, rfl, HSN.out, HO4.out, HB3.out⟩
          case measure => simp [lenOf]; omega
    · have hdiv : raw.length / B = c := Nat.div_eq_of_lt_le HC.out (by rw [Nat.succ_mul]; have := HD.out; omega)
      have HDV := Lib.hid hdiv
      have j0 : ¬ (B : Int) ≤ (D : Int) := by omega
      clear hLl hdiv
      go_wp2
      go_ret
      exact ⟨pl, L, cl, rfl, by rw [HDV.out]; exact HS.out, HO.out, HB.out⟩
end Go.Proofs.Ythofknjdmfpbeaa.Fa
