/-
  The law HeapKeeps answers true, for every config, row of sizes and three numbers.
-/
import Derived.Test.YtcoolapancdioaaDoorHpW
import Derived.Test.YtcoolapancdioaaDoorHpCel
namespace Go.Proofs.YtcoolapancdioaaDoor.Hp
open Go.RowKit
open Blk (Cfg BoxIs little little_any little_right box7 BytesP)
open Go.Proofs.YtcoolapancdioaaDoor.Row (Chg Rd cellsZ)
open Go.Proofs.YtcoolapancdioaaDoor.Addr (Tabs)

/-- What lies beside a heap and stays. -/
structure Ot (W wr : World) (H : Nat) (dd : Ids) (K : Nat → Prop) : Prop where
  no : ∀ k, K k → ¬ Mine H dd k ∧ k < wr.heap.size
  eq : ∀ k, K k → wr.heap[k]? = W.heap[k]?
theorem Ot.step {W wr w' : World} {H : Nat} {dd dd' : Ids} {K : Nat → Prop} (h : Ot W wr H dd K) (hc : Chg (Mine H dd) wr w') (hR : ∀ j, Mine H dd' j → Mine H dd j ∨ wr.heap.size ≤ j) : Ot W w' H dd' K :=
  ⟨fun k hk => ⟨fun e => (hR k e).elim (h.no k hk).1 (fun e => by have := (h.no k hk).2; omega), Nat.lt_of_lt_of_le (h.no k hk).2 hc.size⟩, fun k hk => (hc.block k (h.no k hk).2 (h.no k hk).1).trans (h.eq k hk)⟩
theorem Ot.cell {W wr : World} {H : Nat} {dd : Ids} {K : Nat → Prop} (h : Ot W wr H dd K) {p : Addr} (hp : K p.block) : wr.cell? p = W.cell? p := World.cell?_of_block (h.eq p.block hp)
theorem box7_other {w1 W2 : World} {d : Cfg} {S : Nat} (hW : (((((((w1.setCell ⟨S, 0, none⟩ (.int .i64 d.b)).setCell ⟨S, 1, none⟩ (.int .i64 d.wd)).setCell ⟨S, 2, none⟩ (.int .i64 d.m)).setCell ⟨S, 3, none⟩ (.int .i64 d.r)).setCell ⟨S, 4, none⟩ (.int .i64 d.ce)).setCell ⟨S, 5, none⟩ (.int .i64 d.lg)).setCell ⟨S, 6, none⟩ (.int .i64 d.st)) = W2) {k : Nat} (hk : k ≠ S) : W2.heap[k]? = w1.heap[k]? := by
  rw [← hW]
  rw [Lis.heap_set hk, Lis.heap_set hk, Lis.heap_set hk, Lis.heap_set hk, Lis.heap_set hk, Lis.heap_set hk, Lis.heap_set hk]

set_option maxRecDepth 100000 in
set_option maxHeartbeats 8000000 in
theorem keeps_walk (c : Cfg) (pa : Option Addr) (ca : Nat) (za : List Nat) (q0 q1 q2 : Int) (w : World) (ht : Tabs w) (ha : BytesP w.heap.size w pa za) :
    Calls Tryd.prog 3 #[(.agg #[.int .i64 c.b, .int .i64 c.wd, .int .i64 c.m, .int .i64 c.r, .int .i64 c.ce, .int .i64 c.lg, .int .i64 c.st]), .slice pa za.length ca, .agg #[.int .i64 q0, .int .i64 q1, .int .i64 q2]] w fun e w' => e = .returned (.bool true) ∧ Below w.heap.size w w' := by
  have HT := Lib.hid ht
  have HA := Lib.hid ha
  have HR := Lib.hid (little_right c)
  obtain ⟨nc, hnc, hnc3⟩ := little_ce c
  obtain ⟨n, hn, hn2⟩ := little_n c
  have hd4 : (little c).b ≤ 4 := (Blk.little_b c).2
  clear ht ha
  go_enter Tryd.func3, Tryd.ntmps3
  go_wp2_with fail
  refine (little_any c _).mono ?_
  rintro e w1 ⟨rfl, hb⟩
  have hb' : Below (w.heap.size + 1) (w.alloc (.cells #[.int .i64 c.b, .int .i64 c.wd, .int .i64 c.m, .int .i64 c.r, .int .i64 c.ce, .int .i64 c.lg, .int .i64 c.st] 23)) w1 := ((Below.refl _ _).alloc (by simp) (.cells #[.int .i64 q0, .int .i64 q1, .int .i64 q2] 25)).trans (hb.mono (by simp))
  have HW := Lib.hid (fun W2 hW => box7 (d := little c) (W2 := W2) hb' hW)
  have HO := Lib.hid (fun W2 hW (k : Nat) (hk : k ≠ w.heap.size) => box7_other (d := little c) (w1 := w1) (W2 := W2) (S := w.heap.size) hW hk)
  have hq1 : ∀ j v, (#[.int .i64 q0, .int .i64 q1, .int .i64 q2] : Array Value)[j]? = some v → w1.cell? ⟨w.heap.size + 1, j, none⟩ = some v := fun j v h => by
    have e := hb.block (w.heap.size + 1) (by simp)
    unfold World.cell?
    rw [show (⟨w.heap.size + 1, j, none⟩ : Addr).block = w.heap.size + 1 from rfl, e]
    have := World.alloc_heap_new (w.alloc (.cells #[.int .i64 c.b, .int .i64 c.wd, .int .i64 c.m, .int .i64 c.r, .int .i64 c.ce, .int .i64 c.lg, .int .i64 c.st] 23)) (.cells #[.int .i64 q0, .int .i64 q1, .int .i64 q2] 25)
    rw [World.size_alloc] at this
    rw [this]
    exact h
  have HQ1 := Lib.hid hq1
  obtain ⟨hc1, hf1⟩ := bcell hb
  have hz1 : w.heap.size + 1 < w1.heap.size := by have := hb.size; simp at this; omega
  clear hb hb' hq1
  generalize hL : little c = d at *
  clear hL
  have HNC := Lib.hid hnc
  have HN := Lib.hid hn
  clear hnc hn
  by_cases hbig : 40 < za.length
  · have h1 : (40 : Int) < (za.length : Int) := by omega
    go_wp2_with fail
    generalize hW : World.setCell _ _ _ = W2
    obtain ⟨hbox, hb2⟩ := HW.out W2 hW
    refine (awake_any _ (HT.out.later hb2)).mono ?_
    rintro e w3 ⟨rfl, hb3⟩
    have HF := Lib.hid (hb2.trans (hb3.mono hb2.size))
    clear hW HW hc1 hf1 hz1 hb2 hbox hb3 HO HQ1
    go_wp2
    go_ret
    exact ⟨rfl, HF.out⟩
  have h1 : (za.length : Int) ≤ 40 := by omega
  have hd1 : decide ((40 : Int) < (za.length : Int)) = false := by simpa using h1
  go_wp2_with fail
  generalize hW : World.setCell _ _ _ = W1
  obtain ⟨hbox, hb2⟩ := HW.out W1 hW
  have hq2 : W1.heap[w.heap.size + 1]? = w1.heap[w.heap.size + 1]? := HO.out W1 hW _ (by omega)
  have hs2 : w.heap.size + 1 < W1.heap.size := by rw [← hW]; simpa [World.setCell] using hz1
  clear hW HW hc1 hf1 hz1 HO
  refine (awake_any _ (HT.out.later hb2)).mono ?_
  rintro e W2 ⟨rfl, hb3⟩
  have HB2 := Lib.hid (hb2.trans (hb3.mono hb2.size))
  have HX2 := Lib.hid (hbox.later hb3)
  have HQ2 : Hid (w.heap.size + 1 < W2.heap.size ∧ ∀ j v, (#[.int .i64 q0, .int .i64 q1, .int .i64 q2] : Array Value)[j]? = some v → W2.cell? ⟨w.heap.size + 1, j, none⟩ = some v) := Lib.hid ⟨Nat.lt_of_lt_of_le hs2 hb3.size, fun j v h => ((hb3.cell (p := ⟨w.heap.size + 1, j, none⟩) hs2).trans (World.cell?_of_block (a := ⟨w.heap.size + 1, j, none⟩) hq2)).trans (HQ1.out j v h)⟩
  have c0 := (hbox.later hb3).b0
  have c1 := (hbox.later hb3).b1
  have c2 := (hbox.later hb3).b2
  have c3 := (hbox.later hb3).b3
  have c4 := (hbox.later hb3).b4
  have c5 := (hbox.later hb3).b5
  have c6 := (hbox.later hb3).b6
  clear hb2 hb3 hbox hq2 hs2 HQ1
  go_wp2_with fail
  refine (new_good d n nc _ (HT.out.later HB2.out) HR.out HN.out HNC.out).mono ?_
  rintro e w3 ⟨H, dd, rfl, hI, hM, hb3⟩
  have HC3 := Lib.hid (Ce.start HB2.out HX2.out hI hM hb3)
  have HO3 := Lib.hid (show Ot W2 w3 H dd (fun k => k = w.heap.size + 1) from ⟨fun k hk => by subst hk; exact ⟨fun e => by have := hM _ e; have := HQ2.out.1; omega, Nat.lt_of_lt_of_le HQ2.out.1 hb3.size⟩, fun k hk => by subst hk; exact hb3.block _ HQ2.out.1⟩)
  clear hI hM hb3 c0 c1 c2 c3 c4 c5 c6 HX2
  go_wp2_with fail
  go_loopw [9] (fun i wr => ∃ (j : Nat) (dd : Ids) (s : St) (m : Nat), j ≤ za.length ∧ i = .int .i64 (j : Int) ∧ m ≤ 160 * j ∧ s.ce = List.replicate nc 0 ∧ Ce w wr H dd s m d n nc ∧ Ot W2 wr H dd (fun k => k = w.heap.size + 1)) (fun i _ => za.length - (intOf i).toNat)
  case atStart => exact ⟨0, dd, _, 0, Nat.zero_le _, rfl, Nat.le_refl _, rfl, HC3.out, HO3.out⟩
  case round =>
    clear HC3 HO3
    obtain ⟨j, dd, s, m, hj, rfl, hm, hce, hC, hO⟩ := hrel
    have HC := Lib.hid hC
    have HO := Lib.hid hO
    have HCE := Lib.hid hce
    have i1 : (0 : Int) ≤ (j : Int) := Int.natCast_nonneg _
    by_cases hltj : j < za.length
    · have i2 : (j : Int) < (za.length : Int) := by omega
      obtain ⟨b, off, rfl, hbS, hz8, hcx⟩ := HA.out j hltj
      have hcx1 := (hC.bel.cell (p := ⟨b, _, none⟩) hbS).trans hcx
      have HM := Lib.hid (fun x y => make_some x y wr hC.is (hC.tabs HT.out) (by omega))
      clear hcx hC hO hce
      generalize za.getD j 0 = z at *
      go_wp2_with fail
      refine (HM.out _ _).mono ?_
      rintro e w6 ⟨⟨u, rfl⟩, s6, e1, e2, e3, hT6⟩
      obtain ⟨d6, hC6, hh6, hr6⟩ := HC.out.step hT6 e1 (by rw [e2]) e3
      have HC6 := Lib.hid hC6
      have HO6 := Lib.hid (HO.out.step hh6 hr6)
      have HE6 := Lib.hid (show s6.ce = List.replicate nc 0 by rw [e2]; exact HCE.out)
      clear hC6 hh6 hr6 hT6 e1 e2 e3 HM
      go_wp2
      go_roundw
      case rel => exact ⟨j + 1, d6, s6, m + 160, by omega, by go_num, by omega, HE6.out, HC6.out, HO6.out⟩
      case measure => simp [intOf]; omega
    · obtain rfl : j = za.length := by omega
      have HOB := Lib.hid (objects_any wr hC.is (hC.tabs HT.out))
      clear hC hO hce
      go_wp2_with fail
      refine HOB.out.mono ?_
      rintro e w4 ⟨p, cap, rfl, ho, hb4⟩
      have HC4 := Lib.hid (HC.out.later hb4)
      have h4 : ∀ i, Blk.kAt s.ks i < 4 := fun i => HC.out.is.tb.kLt i
      have hL : (objL s).length ≤ 512 := by
        have h1 := objL_len (s := s)
        have h2 := HC.out.is.wf.full
        rw [HC.out.hc] at h2
        omega
      have HWF := Lib.hid HC.out.is.wf
      have HH4 := Lib.hid h4
      have hK : ∀ k, (k = w.heap.size + 1 ∨ Row.rowB p k) → ¬ Mine H dd k ∧ k < w4.heap.size := fun k hk => by
        rcases hk with e | e
        · have := HO.out.no k e; exact ⟨this.1, Nat.lt_of_lt_of_le this.2 hb4.size⟩
        · have h3 := Row.owns_lt ho e
          exact ⟨fun x => by have := HC.out.is.lt x; omega, h3.2⟩
      have HO4 := Lib.hid (show Ot w4 w4 H dd (fun k => k = w.heap.size + 1 ∨ Row.rowB p k) from ⟨hK, fun _ _ => rfl⟩)
      have HQ4 : Hid (∀ j v, (#[.int .i64 q0, .int .i64 q1, .int .i64 q2] : Array Value)[j]? = some v → w4.cell? ⟨w.heap.size + 1, j, none⟩ = some v) := Lib.hid fun j v h => by
        have h1 := HO.out.no (w.heap.size + 1) rfl
        have h2 := hb4.cell (p := ⟨w.heap.size + 1, j, none⟩) h1.2
        rw [h2, HO.out.cell (p := ⟨w.heap.size + 1, j, none⟩) rfl]
        exact HQ2.out.2 j v h
      have hrd := Rd.of_owns ho
      have HRW : Hid (∀ t, t < (objL s).length → ∃ g off, p = some ⟨g, off, none⟩ ∧ w4.cell? ⟨g, off + t, none⟩ = some (.int .i64 (obA s t))) := Lib.hid fun t ht => by
        obtain ⟨g, off, e, hc⟩ := hrd.at ht
        rw [(obA_bn ht).2] at hc
        exact ⟨g, off, e, hc⟩
      have HRD := Lib.hid hrd
      clear ho hb4 hK hrd HO HC h4
      generalize hLd : (objL s).length = L at *
      have HLD := Lib.hid hLd
      clear hLd
      go_wp2_with fail
      go_loopw [11] (fun i wr => ∃ (j : Nat) (dd : Ids) (ws : List Nat) (m : Nat), j ≤ L ∧ i = .int .i64 (j : Int) ∧ m ≤ 6400 + 40 * j ∧ Kv s ws j 0 ∧ Ce w wr H dd (ww s ws) m d n nc ∧ Ot w4 wr H dd (fun k => k = w.heap.size + 1 ∨ Row.rowB p k)) (fun i _ => L - (intOf i).toNat)
      case atStart => exact ⟨0, dd, s.ws, m, Nat.zero_le _, rfl, by omega, Kv.start s, HC4.out, HO4.out⟩
      case round =>
        clear HC4 HO4
        obtain ⟨i, d5, ws, m5, hi, rfl, hm5, hkv, hC, hO⟩ := hrel
        have HC := Lib.hid hC
        have HO := Lib.hid hO
        have HKV := Lib.hid hkv
        have k1 : (0 : Int) ≤ (i : Int) := Int.natCast_nonneg _
        by_cases hlti : i < L
        · have hlti' : i < (objL s).length := by rw [HLD.out]; exact hlti
          have k2 : (i : Int) < (L : Int) := by omega
          obtain ⟨g, off, rfl, hcx⟩ := HRW.out i hlti
          have hcx1 := (hO.cell (p := ⟨g, off + i, none⟩) (.inr rfl)).trans hcx
          have hfi := fields_any (obA s i : Int) wr hC.is (hC.tabs HT.out) (by omega)
          obtain ⟨f1, f2⟩ := hkv.fN hC.is.wf hlti'
          rw [f1, f2] at hfi
          have HFI := Lib.hid hfi
          clear hC hO hkv hfi f1 f2 hcx
          go_wp2_with fail
          refine HFI.out.mono ?_
          rintro e w6 ⟨rfl, hT6⟩
          obtain ⟨d6, hC6, hh6, hr6⟩ := HC.out.step hT6 rfl rfl rfl
          have HC6 := Lib.hid hC6
          have HO6 := Lib.hid (HO.out.step hh6 hr6)
          have hnf : nf s i ≤ 15 := Hdr.obF_le _
          clear hC6 hh6 hr6 hT6 HFI HC HO hcx1
          go_wp2_with fail
          go_loopw [14] (fun x wr => ∃ (k : Nat) (dd : Ids) (ws : List Nat) (m : Nat), k ≤ nf s i ∧ x = .int .i64 (k : Int) ∧ m ≤ 6400 + 40 * i + 1 + 2 * k ∧ Kv s ws i k ∧ Ce w wr H dd (ww s ws) m d n nc ∧ Ot w4 wr H dd (fun k => k = w.heap.size + 1 ∨ Row.rowB (some ⟨g, off, none⟩) k)) (fun x _ => nf s i - (intOf x).toNat)
          case atStart => exact ⟨0, d6, ws, m5 + 1, Nat.zero_le _, rfl, by omega, HKV.out, HC6.out, HO6.out⟩
          case round =>
            clear HC6 HO6 HKV
            obtain ⟨k, d7, ws, m7, hk, rfl, hm7, hkv, hC, hO⟩ := hrel
            have HC := Lib.hid hC
            have HO := Lib.hid hO
            have HKV := Lib.hid hkv
            have l1 : (0 : Int) ≤ (k : Int) := Int.natCast_nonneg _
            by_cases hltk : k < nf s i
            · have l2 : (k : Int) < (nf s i : Int) := by omega
              obtain ⟨t, ht, htl⟩ : ∃ t : Nat, (i + k) % L = t ∧ t < L := ⟨_, rfl, Nat.mod_lt _ (by omega)⟩
              have hsum : IntKind.i64.wrap ((i : Int) + (k : Int)) = (i : Int) + (k : Int) := IntWalk.i64_in _ (by omega)
              have hmod : ((i : Int) + (k : Int)) % (L : Int) = (t : Int) := by rw [← ht, Int.natCast_emod, Int.natCast_add]
              have hL0 : ¬ (L : Int) = 0 := by omega
              have hL3 : ¬ L = 0 := by omega
              have hL1 : (0 : Int) < (L : Int) := by omega
              have hL2 : ((L : Int) == 0) = false := by rw [beq_eq_false_iff_ne]; omega
              have hm2 : ((i : Int) + (k : Int)).tmod (L : Int) = (t : Int) := by rw [Int.tmod_eq_emod_of_nonneg (by omega)]; exact hmod
              have hLI : (L : Int) ≤ 512 := by omega
              have k3 : (0 : Int) ≤ (t : Int) := Int.natCast_nonneg _
              have k4 : (t : Int) < (L : Int) := by omega
              obtain ⟨g', off', e', hcy⟩ := HRW.out t htl
              cases e'
              obtain ⟨g', off', e', hcx⟩ := HRW.out i hlti
              cases e'
              have hcx1 := (hO.cell (p := ⟨g, off + i, none⟩) (.inr rfl)).trans hcx
              have hcy1 := (hO.cell (p := ⟨g, off + t, none⟩) (.inr rfl)).trans hcy
              have hse : sE (ww s ws) (obA s i) k (obA s t) = 0 := by
                rw [sE, if_pos (hkv.lE hC.is.wf hlti' hltk), if_pos (mayV_true.2 ⟨by omega, ?_⟩)]
                have h1 := obA_le HWF.out (by rw [HLD.out]; exact htl)
                have h2 : (ww s ws).ws.length = s.ws.length := hkv.len
                omega
              have HS := Lib.hid (fun j => (by
                have := storeF_any (obA s i : Int) (k : Int) (obA s t : Int) (wr.drewN j) (hC.is.drewN j) ((hC.tabs HT.out).drewN j) (by omega)
                rw [hse, if_pos rfl, Int.toNat_natCast, Int.toNat_natCast, Int.toNat_natCast] at this
                exact this : Calls Tryd.prog 11 #[.pointer (some ⟨H, 0, none⟩), .int .i64 (obA s i), .int .i64 k, .int .i64 (obA s t)] (wr.drewN j) fun e w' => e = .returned (.int .i64 0) ∧ To (wr.drewN j) w' H d7 (ww s (ws.set (obA s i + k) (obA s t))) (m7 + 2)))
              have hgn : ¬ Mine H d7 g := (hO.no g (.inr rfl)).1
              have HK0 := Lib.hid (show wr.drew.cell? ⟨g, off + i, none⟩ = some (.int .i64 (obA s i)) ∧ wr.drew.cell? ⟨g, off + t, none⟩ = some (.int .i64 (obA s t)) from ⟨hcx1, hcy1⟩)
              have HK3 := Lib.hid (fun (W : World) (hT : To (wr.drewN 1) W H d7 (ww s (ws.set (obA s i + k) (obA s t))) (m7 + 2)) => (⟨hT.cell (p := ⟨g, off + i, none⟩) hcx1 hgn, hT.cell (p := ⟨g, off + t, none⟩) hcy1 hgn⟩ : W.cell? ⟨g, off + i, none⟩ = some (.int .i64 (obA s i)) ∧ W.cell? ⟨g, off + t, none⟩ = some (.int .i64 (obA s t))))
              have hks := hkv.step hC.is.wf HH4.out HWF.out hlti' hltk
              rw [HLD.out, ht] at hks
              have HKS := Lib.hid hks
              clear hC hO hkv hcx hcy hse hks
              go_wp2_with fail
              go_region_held3 (fun W => W.cell? ⟨g, off + i, none⟩ = some (.int .i64 (obA s i)) ∧ W.cell? ⟨g, off + t, none⟩ = some (.int .i64 (obA s t)))
                (first | exact HK0.out | assumption | exact HK3.out _ h23)
                (first | (go_at_call 11; refine (HS.out _).mono ?_; rintro e w8 ⟨rfl, h23⟩))
              obtain ⟨d8, hC8, hh8, hr8⟩ := HC.out.step (To.alloc (Class.below_drewN (Below.refl _ _) 1) (by assumption : To (wr.drewN 1) w8 H d7 (ww s (ws.set (obA s i + k) (obA s t))) (m7 + 2))) rfl rfl (by show (ws.set _ _).length = ws.length; rw [List.length_set])
              have HC8 := Lib.hid hC8
              have HO8 := Lib.hid (HO.out.step hh8 hr8)
              clear hC8 hh8 hr8 HK0 HK3
              go_wp2
              go_roundw
              case rel => exact ⟨k + 1, d8, _, m7 + 2, by omega, by go_num, by omega, HKS.out, HC8.out, HO8.out⟩
              case measure => simp [intOf]; omega
            · obtain rfl : k = nf s i := by omega
              have HKN := Lib.hid hkv.next
              clear hC hO hkv
              go_wp2
              go_roundw
              case rel => exact ⟨i + 1, d7, ws, m7, by omega, by go_num, by omega, HKN.out, HC.out, HO.out⟩
              case measure => simp [intOf]; omega
        · obtain rfl : L = i := by omega
          have hst := storeF_any q0 q1 q2 wr hC.is (hC.tabs HT.out) (by omega)
          have e2 : (if sE (ww s ws) q0 q1 q2 = 0 then stS (ww s ws) q0.toNat q1.toNat q2.toNat else ww s ws) = ww s (ws2 s ws q0 q1 q2) := by
            unfold ws2
            split <;> rfl
          rw [e2] at hst
          rw [← HLD.out] at hkv
          obtain ⟨v1, v2, v3⟩ := hkv.last hC.is.wf q0 q1 q2
          have hsm : s.ws.length ≤ 1048576 := by
            have h1 := hC.is.sit.ar.small
            have h2 : (ww s ws).ws.length = s.ws.length := hkv.len
            omega
          have v4 : sE (ww s ws) q0 q1 q2 = 0 → 0 ≤ q2 ∧ q2 ≤ 1048576 := fun h => by
            obtain ⟨_, _, _, _, t5, t6⟩ := sE_parts h
            have h2 : (ww s ws).ws.length = s.ws.length := hkv.len
            omega
          have hlv : (ws2 s ws q0 q1 q2).length = ws.length := v1.trans hkv.len.symm
          have KV0 := Lib.hid (show Kv s (ws2 s ws q0 q1 q2) 0 0 from ⟨v1, v2, fun i' k' _ _ h => by omega⟩)
          have HV3 := Lib.hid v3
          have HV4 := Lib.hid v4
          have HST := Lib.hid hst
          have HSM := Lib.hid hsm
          have hqa := (hO.cell (p := ⟨w.heap.size + 1, 0, none⟩) (.inl rfl)).trans (HQ4.out 0 _ rfl)
          have hqb := (hO.cell (p := ⟨w.heap.size + 1, 1, none⟩) (.inl rfl)).trans (HQ4.out 1 _ rfl)
          have hqc := (hO.cell (p := ⟨w.heap.size + 1, 2, none⟩) (.inl rfl)).trans (HQ4.out 2 _ rfl)
          have HLV := Lib.hid hlv
          clear hC hO hkv hst e2 v1 v2 v3 v4 hsm HKV hlv
          generalize ws2 s ws q0 q1 q2 = vs at *
          generalize sE (ww s ws) q0 q1 q2 = f at *
          go_wp2_with fail
          refine HST.out.mono ?_
          rintro e w6 ⟨rfl, hT6⟩
          obtain ⟨d6, hC6, hh6, hr6⟩ := HC.out.step hT6 rfl rfl HLV.out
          have HC6 := Lib.hid hC6
          have HO6 := Lib.hid (HO.out.step hh6 hr6)
          clear hC6 hh6 hr6 hT6 HST HC HO hqa hqb hqc HLV hlti k1
          go_wp2_with fail
          go_loopw [16] (fun x wr => ∃ (j : Nat) (dd : Ids) (m : Nat), j ≤ L ∧ x = .int .i64 (j : Int) ∧ m ≤ 30000 + 40 * j ∧ Ce w wr H dd (ww s vs) m d n nc ∧ Ot w4 wr H dd (fun k => k = w.heap.size + 1 ∨ Row.rowB p k)) (fun x _ => L - (intOf x).toNat)
          case atStart => exact ⟨0, d6, m5 + 2, Nat.zero_le _, rfl, by omega, HC6.out, HO6.out⟩
          case round =>
            clear HC6 HO6
            obtain ⟨i, d7, m7, hi7, rfl, hm7, hC, hO⟩ := hrel
            have HC := Lib.hid hC
            have HO := Lib.hid hO
            have k1 : (0 : Int) ≤ (i : Int) := Int.natCast_nonneg _
            by_cases hlti : i < L
            · have hlti' : i < (objL s).length := by rw [HLD.out]; exact hlti
              have k2 : (i : Int) < (L : Int) := by omega
              obtain ⟨g, off, rfl, hcx⟩ := HRW.out i hlti
              have hcx1 := (hO.cell (p := ⟨g, off + i, none⟩) (.inr rfl)).trans hcx
              have hfi := fields_any (obA s i : Int) wr hC.is (hC.tabs HT.out) (by omega)
              obtain ⟨f1, f2⟩ := KV0.out.fN hC.is.wf hlti'
              rw [f1, f2] at hfi
              have HFI := Lib.hid hfi
              clear hC hO hfi f1 f2 hcx
              go_wp2_with fail
              refine HFI.out.mono ?_
              rintro e w6' ⟨rfl, hT6⟩
              obtain ⟨d8, hC6, hh6, hr6⟩ := HC.out.step hT6 rfl rfl rfl
              have HC6 := Lib.hid hC6
              have HO6 := Lib.hid (HO.out.step hh6 hr6)
              have hnf : nf s i ≤ 15 := Hdr.obF_le _
              clear hC6 hh6 hr6 hT6 HFI HC HO hcx1
              go_wp2_with fail
              go_loopw [19] (fun x wr => ∃ (k : Nat) (dd : Ids) (m : Nat), k ≤ nf s i ∧ x = .int .i64 (k : Int) ∧ m ≤ 30000 + 40 * i + 1 + 2 * k ∧ Ce w wr H dd (ww s vs) m d n nc ∧ Ot w4 wr H dd (fun k => k = w.heap.size + 1 ∨ Row.rowB (some ⟨g, off, none⟩) k)) (fun x _ => nf s i - (intOf x).toNat)
              case atStart => exact ⟨0, d8, m7 + 1, Nat.zero_le _, rfl, by omega, HC6.out, HO6.out⟩
              case round =>
                clear HC6 HO6
                obtain ⟨k, d9, m9, hk, rfl, hm9, hC, hO⟩ := hrel
                have HC := Lib.hid hC
                have HO := Lib.hid hO
                have l1 : (0 : Int) ≤ (k : Int) := Int.natCast_nonneg _
                by_cases hltk : k < nf s i
                · have l2 : (k : Int) < (nf s i : Int) := by omega
                  obtain ⟨t, ht, htl⟩ : ∃ t : Nat, (i + k) % L = t ∧ t < L := ⟨_, rfl, Nat.mod_lt _ (by omega)⟩
                  have hsum : IntKind.i64.wrap ((i : Int) + (k : Int)) = (i : Int) + (k : Int) := IntWalk.i64_in _ (by omega)
                  have hmod : ((i : Int) + (k : Int)) % (L : Int) = (t : Int) := by rw [← ht, Int.natCast_emod, Int.natCast_add]
                  have hL0 : ¬ (L : Int) = 0 := by omega
                  have hL1 : (0 : Int) < (L : Int) := by omega
                  have hL2 : ((L : Int) == 0) = false := by rw [beq_eq_false_iff_ne]; omega
                  have hm2 : ((i : Int) + (k : Int)).tmod (L : Int) = (t : Int) := by rw [Int.tmod_eq_emod_of_nonneg (by omega)]; exact hmod
                  have hLI : (L : Int) ≤ 512 := by omega
                  have k3 : (0 : Int) ≤ (t : Int) := Int.natCast_nonneg _
                  have k4 : (t : Int) < (L : Int) := by omega
                  obtain ⟨g', off', e', hcy⟩ := HRW.out t htl
                  cases e'
                  obtain ⟨g', off', e', hcx⟩ := HRW.out i hlti
                  cases e'
                  have hcx1 := (hO.cell (p := ⟨g, off + i, none⟩) (.inr rfl)).trans hcx
                  have hcy1 := (hO.cell (p := ⟨g, off + t, none⟩) (.inr rfl)).trans hcy
                  have hqa := (hO.cell (p := ⟨w.heap.size + 1, 0, none⟩) (.inl rfl)).trans (HQ4.out 0 _ rfl)
                  have hqb := (hO.cell (p := ⟨w.heap.size + 1, 1, none⟩) (.inl rfl)).trans (HQ4.out 1 _ rfl)
                  have hqc := (hO.cell (p := ⟨w.heap.size + 1, 2, none⟩) (.inl rfl)).trans (HQ4.out 2 _ rfl)
                  have HX := Lib.hid (And.intro hcx hcy)
                  have hv := HV3.out i k hlti' hltk
                  rw [HLD.out, ht] at hv
                  have hle := KV0.out.lE hC.is.wf hlti' hltk
                  have htA := obA_le HWF.out (show t < (objL s).length by rw [HLD.out]; exact htl)
                  have hbnd : Arena.wd vs (obA s i + k) ≤ 1048576 := by
                    split at hv
                    · rename_i h; have := HV4.out h.1; omega
                    · have := HSM.out; omega
                  have HLDV : Hid (∀ (W : World) {dd : Ids} {m : Nat}, Is W H dd (ww s vs) m → Tabs W → m ≤ 30000 + 40 * i + 1 + 2 * k → Calls Tryd.prog 12 #[.pointer (some ⟨H, 0, none⟩), .int .i64 (obA s i), .int .i64 k] W fun e w' => e = .returned (.tuple #[.int .i64 (Arena.wd vs (obA s i + k) : Nat), .int .i64 0]) ∧ To W w' H dd (ww s vs) (m + 2)) := Lib.hid fun W dd m hI ht hm => by
                    have := load_any (obA s i : Int) (k : Int) W hI ht (by omega)
                    rw [lV, hle, if_pos rfl, Int.toNat_natCast, Int.toNat_natCast] at this
                    have e3 : fl (ww s vs) (obA s i) k = Arena.wd vs (obA s i + k) := rfl
                    rw [e3, wrap_small hbnd] at this
                    exact this
                  clear hC hO hcx hcy hle hbnd
                  rw [hv] at HLDV
                  clear hv
                  by_cases hf : f = 0
                  · subst hf
                    by_cases ha : (obA s i : Int) = q0
                    · have hab : ((obA s i : Int) == q0) = true := by rw [beq_iff_eq]; exact ha
                      by_cases hq : (k : Int) = q1
                      · have hqb2 : ((k : Int) == q1) = true := by rw [beq_iff_eq]; exact hq
                        rw [if_pos ⟨rfl, ha, hq⟩] at HLDV
                        clear ha hq
                        go_wp2_with fail

                        go_region
                        have hbd : Below wr.heap.size wr wr.drew := ⟨rfl, rfl, rfl, Nat.le_refl _, fun _ _ => rfl⟩
                        have HC' := Lib.hid (HC.out.later hbd)
                        have HO' := Lib.hid (HO.out.step (dd' := d9) (Chg.of_below hbd) (fun _ e => .inl e))
                        clear HC HO hbd
                        generalize wr.drew = wq at *
                        have HC := HC'
                        have HO := HO'
                        clear HC' HO'
                        have hqa := (HO.out.cell (p := ⟨w.heap.size + 1, 2, none⟩) (.inl rfl)).trans (HQ4.out 2 _ rfl)
                        have hcx1 := (HO.out.cell (p := ⟨g, off + i, none⟩) (.inr rfl)).trans HX.out.1
                        have HLD3 := Lib.hid (HLDV.out wq HC.out.is (HC.out.tabs HT.out) hm9)
                        go_wp2_with fail
                        refine HLD3.out.mono ?_
                        rintro e w8 ⟨rfl, hT8⟩
                        obtain ⟨d8, hC8, hh8, hr8⟩ := HC.out.step hT8 rfl rfl rfl
                        have HC8 := Lib.hid hC8
                        have HO8 := Lib.hid (HO.out.step hh8 hr8)
                        clear hC8 hh8 hr8 hT8 hcx1 hqa HLD3
                        go_wp2
                        go_roundw
                        case rel => exact ⟨k + 1, d8, m9 + 2, by omega, by go_num, by omega, HC8.out, HO8.out⟩
                        case measure => simp [intOf]; omega

                      · have hqb2 : ((k : Int) == q1) = false := by rw [beq_eq_false_iff_ne]; exact hq
                        rw [if_neg (fun h => hq h.2.2)] at HLDV
                        clear ha hq
                        go_wp2_with fail

                        go_region
                        have hbd : Below wr.heap.size wr wr.drew := ⟨rfl, rfl, rfl, Nat.le_refl _, fun _ _ => rfl⟩
                        have HC' := Lib.hid (HC.out.later hbd)
                        have HO' := Lib.hid (HO.out.step (dd' := d9) (Chg.of_below hbd) (fun _ e => .inl e))
                        clear HC HO hbd
                        generalize wr.drew = wq at *
                        have HC := HC'
                        have HO := HO'
                        clear HC' HO'
                        have hqa := (HO.out.cell (p := ⟨w.heap.size + 1, 2, none⟩) (.inl rfl)).trans (HQ4.out 2 _ rfl)
                        have hcx1 := (HO.out.cell (p := ⟨g, off + i, none⟩) (.inr rfl)).trans HX.out.1
                        have HLD3 := Lib.hid (HLDV.out wq HC.out.is (HC.out.tabs HT.out) hm9)
                        go_wp2_with fail
                        refine HLD3.out.mono ?_
                        rintro e w8 ⟨rfl, hT8⟩
                        obtain ⟨d8, hC8, hh8, hr8⟩ := HC.out.step hT8 rfl rfl rfl
                        have HC8 := Lib.hid hC8
                        have HO8 := Lib.hid (HO.out.step hh8 hr8)
                        clear hC8 hh8 hr8 hT8 hcx1 hqa HLD3
                        go_wp2
                        go_roundw
                        case rel => exact ⟨k + 1, d8, m9 + 2, by omega, by go_num, by omega, HC8.out, HO8.out⟩
                        case measure => simp [intOf]; omega

                    · have hab : ((obA s i : Int) == q0) = false := by rw [beq_eq_false_iff_ne]; exact ha
                      rw [if_neg (fun h => ha h.2.1)] at HLDV
                      clear ha
                      go_wp2_with fail

                      go_region
                      have hbd : Below wr.heap.size wr wr.drew := ⟨rfl, rfl, rfl, Nat.le_refl _, fun _ _ => rfl⟩
                      have HC' := Lib.hid (HC.out.later hbd)
                      have HO' := Lib.hid (HO.out.step (dd' := d9) (Chg.of_below hbd) (fun _ e => .inl e))
                      clear HC HO hbd
                      generalize wr.drew = wq at *
                      have HC := HC'
                      have HO := HO'
                      clear HC' HO'
                      have hqa := (HO.out.cell (p := ⟨w.heap.size + 1, 2, none⟩) (.inl rfl)).trans (HQ4.out 2 _ rfl)
                      have hcx1 := (HO.out.cell (p := ⟨g, off + i, none⟩) (.inr rfl)).trans HX.out.1
                      have HLD3 := Lib.hid (HLDV.out wq HC.out.is (HC.out.tabs HT.out) hm9)
                      go_wp2_with fail
                      refine HLD3.out.mono ?_
                      rintro e w8 ⟨rfl, hT8⟩
                      obtain ⟨d8, hC8, hh8, hr8⟩ := HC.out.step hT8 rfl rfl rfl
                      have HC8 := Lib.hid hC8
                      have HO8 := Lib.hid (HO.out.step hh8 hr8)
                      clear hC8 hh8 hr8 hT8 hcx1 hqa HLD3
                      go_wp2
                      go_roundw
                      case rel => exact ⟨k + 1, d8, m9 + 2, by omega, by go_num, by omega, HC8.out, HO8.out⟩
                      case measure => simp [intOf]; omega

                  · have hfb : (f == 0) = false := by rw [beq_eq_false_iff_ne]; exact hf
                    rw [if_neg (fun h => hf h.1)] at HLDV
                    clear hf
                    go_wp2_with fail

                    go_region
                    have hbd : Below wr.heap.size wr wr.drew := ⟨rfl, rfl, rfl, Nat.le_refl _, fun _ _ => rfl⟩
                    have HC' := Lib.hid (HC.out.later hbd)
                    have HO' := Lib.hid (HO.out.step (dd' := d9) (Chg.of_below hbd) (fun _ e => .inl e))
                    clear HC HO hbd
                    generalize wr.drew = wq at *
                    have HC := HC'
                    have HO := HO'
                    clear HC' HO'
                    have hqa := (HO.out.cell (p := ⟨w.heap.size + 1, 2, none⟩) (.inl rfl)).trans (HQ4.out 2 _ rfl)
                    have hcx1 := (HO.out.cell (p := ⟨g, off + i, none⟩) (.inr rfl)).trans HX.out.1
                    have HLD3 := Lib.hid (HLDV.out wq HC.out.is (HC.out.tabs HT.out) hm9)
                    go_wp2_with fail
                    refine HLD3.out.mono ?_
                    rintro e w8 ⟨rfl, hT8⟩
                    obtain ⟨d8, hC8, hh8, hr8⟩ := HC.out.step hT8 rfl rfl rfl
                    have HC8 := Lib.hid hC8
                    have HO8 := Lib.hid (HO.out.step hh8 hr8)
                    clear hC8 hh8 hr8 hT8 hcx1 hqa HLD3
                    go_wp2
                    go_roundw
                    case rel => exact ⟨k + 1, d8, m9 + 2, by omega, by go_num, by omega, HC8.out, HO8.out⟩
                    case measure => simp [intOf]; omega
                · obtain rfl : k = nf s i := by omega
                  clear hC hO
                  go_wp2
                  go_roundw
                  case rel => exact ⟨i + 1, d9, m9, by omega, by go_num, by omega, HC.out, HO.out⟩
                  case measure => simp [intOf]; omega
            · obtain rfl : L = i := by omega
              have hfm : m7 ≤ 60000 := by omega
              clear hC hO
              go_wp2_with fail
              go_loopw [23] (fun x wr => ∃ (k : Nat) (dd : Ids), k ≤ nc ∧ x = .int .i64 (k : Int) ∧ Ce w wr H dd (ww s vs) m7 d n nc ∧ Ot w4 wr H dd (fun k => k = w.heap.size + 1 ∨ Row.rowB p k)) (fun x _ => nc - (intOf x).toNat)
              case atStart => exact ⟨0, d7, Nat.zero_le _, rfl, HC.out, HO.out⟩
              case round =>
                clear HC HO
                obtain ⟨k, d9, hk, rfl, hC, hO⟩ := hrel
                have HC := Lib.hid hC
                have HO := Lib.hid hO
                have c4 := hC.box.b4
                rw [HNC.out] at c4
                have l1 : (0 : Int) ≤ (k : Int) := Int.natCast_nonneg _
                by_cases hkn : k < nc
                · have l2 : (k : Int) < (nc : Int) := by omega
                  have hlen := hC.hl
                  have hce := cell_any (k : Int) wr hC.is
                  have hx : (ww s vs).ce.getD k 0 = 0 := by
                    show s.ce.getD k 0 = 0
                    rw [HCE.out, List.getD_eq_getElem?_getD, List.getElem?_replicate, if_pos hkn]
                    rfl
                  rw [cV, ccE, if_pos ⟨l1, by omega⟩, if_pos ⟨l1, by omega⟩, Int.toNat_natCast, hx] at hce
                  have HCL := Lib.hid hce
                  clear hC hO hce hlen hx
                  go_wp2_with fail
                  refine HCL.out.mono ?_
                  rintro e w8 ⟨rfl, hb8⟩
                  have HC8 := Lib.hid (HC.out.later hb8)
                  have HO8 := Lib.hid (HO.out.step (dd' := d9) (Chg.of_below hb8) (fun _ e => .inl e))
                  clear hb8 c4
                  go_wp2
                  go_roundw
                  case rel => exact ⟨k + 1, d9, by omega, by go_num, HC8.out, HO8.out⟩
                  case measure => simp [intOf]; omega
                · obtain rfl : k = nc := by omega
                  have HOB := Lib.hid (objects_any wr hC.is (hC.tabs HT.out))
                  have hpl : (objL s).length ≤ 1048576 := by rw [HLD.out]; omega
                  have hrd0 : Rd wr p (objL s) := HRD.out.kept (fun g hg _ => hO.eq g (.inr hg))
                  have HSA := Lib.hid (fun (p' : Option Addr) (cap' : Nat) (W : World) (hp : Rd W p' (objL s)) (hq : Rd W p (objL s)) => (by
                    have := Row.same_any p' p cap' cap (objL s) W hp hq hpl
                    rw [HLD.out] at this
                    exact this : Calls Tryd.prog 14 #[.slice p' L cap', .slice p L cap] W fun e w' => e = .returned (.bool true) ∧ ∃ n, w' = W.drewN n))
                  have HRD0 := Lib.hid hrd0
                  clear hC hO hrd0 hpl
                  go_wp2_with fail
                  refine HOB.out.mono ?_
                  rintro e w8 ⟨p', cap', rfl, ho8, hb8⟩
                  have e8 : objL (ww s vs) = objL s := rfl
                  rw [e8] at ho8
                  rw [e8, HLD.out]
                  have HR8 := Lib.hid (Rd.of_owns ho8)
                  have HR9 := Lib.hid (HRD0.out.later hb8)
                  have HF8 := Lib.hid (HC.out.bel.trans (hb8.mono HC.out.bel.size))
                  clear ho8 hb8 e8
                  go_wp2_with fail
                  refine (HSA.out p' cap' _ HR8.out HR9.out).mono ?_
                  rintro e w9 ⟨rfl, q, rfl⟩
                  have HF9 := Lib.hid (Class.below_drewN HF8.out q)
                  go_wp2
                  go_ret
                  exact ⟨rfl, HF9.out⟩
end Go.Proofs.YtcoolapancdioaaDoor.Hp
