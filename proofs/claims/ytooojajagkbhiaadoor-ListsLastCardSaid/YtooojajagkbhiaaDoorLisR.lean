/-
  The law ListsLast answers true, for every config, row of classes and row of what is put.
-/
import Derived.Test.YtooojajagkbhiaaDoorLisQ
namespace Go.Proofs.YtooojajagkbhiaaDoor.Lis
open Go.RowKit
open Class (isB isB_true isB_false is_any)
open Blk (Cfg TbIs little little_any little_right little_b box7 BytesP kL kAt cellsF cellsK adr perN blk ownB rowB)
open Go.Proofs.YtooojajagkbhiaaDoor.Row (Chg Rd info_parts)
open Arena (ArIs)
open Go.Proofs.YtooojajagkbhiaaDoor.Addr (Tabs adrB_true)

set_option maxRecDepth 100000 in
set_option maxHeartbeats 4000000 in
theorem last_walk (c : Cfg) (pa pb : Option Addr) (ca cb : Nat) (za zb : List Nat) (w : World) (ht : Tabs w) (ha : BytesP w.heap.size w pa za) (hb : BytesP w.heap.size w pb zb) (hza : za.length ≤ 140737488351232) (hpa : pa = none → za = []) :
    Calls Tryd.prog 5 #[(.agg #[.int .i64 c.b, .int .i64 c.wd, .int .i64 c.m, .int .i64 c.r, .int .i64 c.ce, .int .i64 c.lg, .int .i64 c.st]), .slice pa za.length ca, .slice pb zb.length cb] w fun e w' => e = .returned (.bool true) ∧ Below w.heap.size w w' := by
  have HT := Lib.hid ht
  have HA := Lib.hid ha
  have HB := Lib.hid hb
  have HR := Lib.hid (little_right c)
  obtain ⟨hb0, hb1⟩ := little_b c
  clear ht ha hb
  go_enter Tryd.func5, Tryd.ntmps5
  go_wp2_with fail
  refine (little_any c _).mono ?_
  rintro e w1 ⟨rfl, hb⟩
  have HW := Lib.hid (fun W2 hW => box7 (d := little c) (W2 := W2) (by simpa using hb) hW)
  obtain ⟨hc1, hf1⟩ := bcell hb
  have hz1 : w.heap.size < w1.heap.size := by have := hb.size; simp at this; omega
  clear hb
  generalize hL : little c = d at *
  clear hL
  by_cases hbig : 60 < zb.length
  · have h1 : (60 : Int) < (zb.length : Int) := by omega
    go_wp2_with fail
    generalize hW : World.setCell _ _ _ = W2
    obtain ⟨hbox, hb2⟩ := HW.out W2 hW
    refine (awake_any _ (HT.out.later hb2)).mono ?_
    rintro e w3 ⟨rfl, hb3⟩
    have HF := Lib.hid (hb2.trans (hb3.mono hb2.size))
    clear hW HW hc1 hf1 hz1 hb2 hbox hb3
    go_wp2
    go_ret
    exact ⟨rfl, HF.out⟩
  have h1 : (zb.length : Int) ≤ 60 := by omega
  have hd1 : decide ((60 : Int) < (zb.length : Int)) = false := by simpa using h1
  go_wp2_with fail
  generalize hW : World.setCell _ _ _ = W1
  obtain ⟨hbox, hb2⟩ := HW.out W1 hW
  clear hW HW hc1 hf1 hz1
  refine (awake_any _ (HT.out.later hb2)).mono ?_
  rintro e W2 ⟨rfl, hb3⟩
  have HB2 := Lib.hid (hb2.trans (hb3.mono hb2.size))
  have HX2 := Lib.hid (hbox.later hb3)
  have c0 := (hbox.later hb3).b0
  have c1 := (hbox.later hb3).b1
  have c2 := (hbox.later hb3).b2
  have c3 := (hbox.later hb3).b3
  have c4 := (hbox.later hb3).b4
  have c5 := (hbox.later hb3).b5
  have c6 := (hbox.later hb3).b6
  clear hb2 hb3 hbox
  go_wp2_with fail
  obtain ⟨i0, hinf, hz0, hz1, hz2⟩ := info_parts infoByte
  have hby : BytesP W2.heap.size W2 pa za := fun j hj => by
    obtain ⟨b, off, e, h1, h2, h3⟩ := HA.out j hj
    exact ⟨b, off, e, Nat.lt_of_lt_of_le h1 HB2.out.size, h2, (HB2.out.cell (p := ⟨b, off + j, none⟩) h1).trans h3⟩
  have hz256 : ∀ z ∈ (0 :: za), z < 256 := fun z hz => by
    rcases List.mem_cons.1 hz with e | e
    · omega
    · obtain ⟨j, hj, e2⟩ := List.getElem_of_mem e
      obtain ⟨_, _, _, _, h2, _⟩ := HA.out j hj
      rw [List.getD_eq_getElem?_getD, List.getElem?_eq_getElem hj] at h2
      simp only [Option.getD_some] at h2
      omega
  have hba : Below W2.heap.size W2 (W2.drew.alloc (.cells #[.int .u8 0] 5)) := (below_drewN (Below.refl _ W2) 1).alloc (Nat.le_refl _) _
  have HB5 : Hid (∀ w5, (W2.drew.alloc (.cells #[.int .u8 0] 5)).grownBy w5 (Value.slice (some ⟨W2.heap.size, 0, none⟩) 1 1).ownBlock → Below W2.heap.size W2 w5) := Lib.hid fun w5 hg => hba.grown hg (by simp) (by intro k hk; simp [Value.ownBlock] at hk; omega)
  have hby1 : BytesP W2.heap.size (W2.drew.alloc (.cells #[.int .u8 0] 5)) pa za := hby.below hba
  have how : (W2.drew.alloc (.cells #[.int .u8 0] 5)).ownsRow W2.heap.size 5 1 (.slice (some ⟨W2.heap.size, 0, none⟩) 1 1) 1 [.int .u8 0] := ⟨by simp, .inr ⟨W2.heap.size, 1, #[.int .u8 0], rfl, Nat.le_refl _, heap_alloc_new W2.drew _, by decide, by decide, rfl, rfl⟩⟩
  have hS : w.heap.size < W2.heap.size := HX2.out.lt
  have HBY := Lib.hid hby1
  have HOW := Lib.hid how
  have HZ := Lib.hid hz256
  have HPA := Lib.hid hpa
  have HMD : Hid (∀ (v' : Value) (w5 : World), w5.ownsRow W2.heap.size 5 1 v' (1 + za.length) ([.int .u8 0] ++ cellsB za) → Below W2.heap.size W2 w5 →
      Calls Tryd.prog 8 #[.agg #[.int .i64 d.b, .int .i64 d.wd, .int .i64 d.m, .int .i64 d.r, .int .i64 d.ce, .int .i64 d.lg, .int .i64 d.st], v'] w5 fun e w' => Made w5 w' d (kL (fun j => (0 :: za).getD j 0 % 4) (min (za.length + 1) 10) d.b.toNat) e) := Lib.hid fun v' w5 hown hb5 => by
    obtain ⟨p', c', rfl⟩ := Row.owns_slice hown
    have hle : (0 :: za).length = 1 + za.length := by simp; omega
    have hlm : (0 :: za).length = za.length + 1 := by simp
    have hbt : BytesP w5.heap.size w5 p' (0 :: za) := bytes_of_owns (base := W2.heap.size) (cap := c') (n := 1 + za.length) hown hz256
    have hm := made_any d p' c' (0 :: za) w5 (HT.out.later (HB2.out.trans (hb5.mono HB2.out.size))) HR.out ⟨hb0, by omega⟩ hbt (by omega)
    rw [hle] at hm
    rw [← hlm, hle]
    exact hm
  clear hby hba hby1 how hz256 hpa
  go_region_law (first
    | (refine step_append_bytes rfl (.tmp 29) (.tmp 30) rfl W2.heap.size i0 hinf hz0 hz1 hz2 W2.heap.size 1 1 [.int .u8 0] (by simp [Act.eval, Act.put]) HOW.out (Nat.le_refl _) W2.heap.size pa ca za (by simp [Act.eval, Act.put]) HBY.out (by omega) HPA.out (by simp) ?_; intro v' w5 hown hgrow; have hb5 := HB5.out w5 hgrow; have d0 := (HX2.out.later hb5).b0; have d1 := (HX2.out.later hb5).b1; have d2 := (HX2.out.later hb5).b2; have d3 := (HX2.out.later hb5).b3; have d4 := (HX2.out.later hb5).b4; have d5 := (HX2.out.later hb5).b5; have d6 := (HX2.out.later hb5).b6; have HM5 := Lib.hid (HMD.out v' w5 hown hb5); have H5 := Lib.hid hb5; clear hown hgrow hb5)
    | (go_simp; go_at_call 8; refine HM5.out.mono ?_; rintro e w6 hmd; obtain ⟨A, G, T, L, I, J, n, capT, base, pt, rfl, hn, hh, htb, hav, hb6⟩ := made_has hmd; have HH := Lib.hid hh; have HTB := Lib.hid htb; have HAV := Lib.hid hav; have HB6 := Lib.hid hb6; have HN := Lib.hid hn; clear hmd hh htb hav hb6 hn; try go_simp))
  all_goals
    have hb6 : Below w.heap.size w w6 := HB2.out.trans ((H5.out.trans (HB6.out.mono H5.out.size)).mono HB2.out.size)
    generalize hks : kL (fun j => (0 :: za).getD j 0 % 4) (min (za.length + 1) 10) d.b.toNat = ks at *
    have hkl : 1 ≤ ks.length ∧ (ks.length : Int) ≤ d.b := by rw [← hks, Blk.kL_len]; omega
    have hk0 : kAt ks 0 = 0 := by
      rw [← hks]
      unfold kAt kL
      rw [List.getD_eq_getElem?_getD, List.getElem?_map, List.getElem?_range (by omega)]
      simp
    have hw5 : w.heap.size ≤ w5.heap.size := by have := HB2.out.size; have := H5.out.size; omega
    have hbun : Bun w.heap.size w w6 L A G T I J n base (fun _ => none) (fun _ => []) 0 w5.heap.size d ks pt capT (fun g => g = T ∨ rowB pt g) :=
      ⟨HH.out, HTB.out, fun j hj => ⟨fun e => e.elim (HAV.out j hj).1 (HAV.out j hj).2.1, Nat.le_trans hw5 (HAV.out j hj).2.2⟩, .inl rfl, fun g hg => .inr hg, fun j hj => hj.elim (fun e => e ▸ HTB.out.ltB) (fun e => (HTB.out.ltG e).2), hb6⟩
    have HU := Lib.hid hbun
    have HKL := Lib.hid hkl
    have HK0 := Lib.hid hk0
    obtain ⟨N, hNp, hN1, hN2⟩ : ∃ N, N = perN d 0 ∧ 1 ≤ N ∧ N ≤ 128 := ⟨_, rfl, Blk.perN_pos HR.out (by decide), Blk.perN_le _ _⟩
    have HNP := Lib.hid hNp
    have hsl := Blk.slots_in (b := 0) (N := N) w6 HTB.out HR.out (by omega) (by omega) (by rw [hk0, hNp]; exact Blk.perN_eq d 0) hN1 (HT.out.later hb6)
    rw [hk0] at hsl
    have HSL := Lib.hid hsl
    clear hb6 hkl hk0 hbun hsl hNp HH HTB HAV HB6 HM5 hks hw5 HBY HOW HB5 HMD HX2 HZ HPA H5
    go_wp2_with fail
    refine HSL.out.mono ?_
    rintro e w7 ⟨pq, cq, rfl, hoq, hb7⟩
    have hla : La w.heap.size w w7 L A G T I J n base (fun _ => none) (fun _ => []) 0 w5.heap.size d ks pt capT pq N cq [] none 0 := by
      have hl7 := HU.out.later (Nat.le_refl _) hb7
      refine ⟨hl7.keep (.inl rfl) (fun g hg => .inr (.inl hg)) (fun j hj => ?_) (fun j hj => ?_), Row.owns_base (HU.out.bel.size) hoq, ⟨rfl, .inl ⟨rfl, rfl⟩⟩, fun g hg => by cases hg⟩
      · rcases hj with e | e | e | e
        · exact .inl (.inl e)
        · exact .inl (.inr e)
        · exact .inr (fun ho => by have := HU.out.has.lt ho; have := (Row.owns_lt hoq e).1; omega)
        · cases e
      · rcases hj with e | e | e | e
        · exact hl7.kl j (.inl e)
        · exact hl7.kl j (.inr e)
        · exact (Row.owns_lt hoq e).2
        · cases e
    have HLA := Lib.hid hla
    clear hoq hb7 hla HU HSL
    go_wp2_with fail
    go_loopw [11, 12] (fun ov i wr => ∃ (c' : Nat) (H : List Nat) (hv : Nat → List Nat) (ps : Nat → Option Addr) (m : Nat) (ph : Option Addr) (ch : Nat), c' ≤ zb.length ∧ i = .int .i64 c' ∧ ov = .slice ph H.length ch ∧ hv 0 = H.reverse ∧ (∀ j, j ≠ 0 → hv j = []) ∧ m ≤ c' ∧ H.length ≤ c' ∧ La w.heap.size w wr L A G T I J n base ps hv m w5.heap.size d ks pt capT pq N cq H ph ch) (fun _ i _ => zb.length - (intOf i).toNat)
    case atStart => exact ⟨0, [], fun _ => [], fun _ => none, 0, none, 0, Nat.zero_le _, rfl, rfl, rfl, fun _ _ => rfl, Nat.le_refl _, Nat.le_refl _, HLA.out⟩
    case round =>
      clear HLA
      obtain ⟨c', H, hv, ps, m, ph, ch, hc, rfl, rfl, hv0, hvj, hmc, hHc, hla⟩ := hrel
      have HLA := Lib.hid hla
      have HV0 := Lib.hid hv0
      have HVJ := Lib.hid hvj
      clear hla hv0 hvj
      by_cases hlt : c' < zb.length
      · obtain ⟨b, off, rfl, hbS, hz8, hcx⟩ := (HB.out.below HLA.out.bun.bel) c' hlt
        have i1 : (0 : Int) ≤ (c' : Int) := Int.natCast_nonneg _
        have i2 : (c' : Int) < (zb.length : Int) := by omega
        generalize zb.getD c' 0 = z at *
        obtain ⟨jj, hjj⟩ : ∃ jj, z % N = jj := ⟨_, rfl⟩
        have hjN : jj < N := by rw [← hjj]; exact Nat.mod_lt _ (by omega)
        have hmod : (z : Int) % (N : Int) = (jj : Int) := by omega
        have hmodt : Int.tmod (z : Int) (N : Int) = (jj : Int) := by rw [Int.tmod_eq_emod_of_nonneg (by omega)]; exact hmod
        obtain ⟨a, ha⟩ := adr_nat d HR.out (by omega) HNP.out hjN
        obtain ⟨hoa, hka⟩ := own_first HR.out (by omega) (by have := HKL.out; omega) HK0.out HNP.out hjN ha
        have hNn : ((N : Int) == 0) = false := by simp; omega
        have j1 : (0 : Int) ≤ (jj : Int) := Int.natCast_nonneg _
        have j2 : (jj : Int) < (N : Int) := by omega
        obtain ⟨g, hg, hcell⟩ : ∃ g, pq = some ⟨g, 0, none⟩ ∧ wr.cell? ⟨g, jj, none⟩ = some (.int .i64 (a : Int)) := by
          have h' := HLA.out.sl
          obtain ⟨_, ⟨_, h2⟩ | ⟨g, c2, cur, e1, r⟩⟩ := HLA.out.sl
          · omega
          · cases e1
            exact ⟨g, rfl, Row.owns_cell h' jj _ (by rw [← ha]; simp [cellsF, hjN])⟩
        subst hg
        have hNz : N ≠ 0 := by omega
        clear ha
        by_cases hin : a ∈ H
        · have hput := put_no_bun HLA.out.bun (HT.out.later HLA.out.bun.bel) HR.out (a : Int) a 0 rfl hoa (by decide) (by rw [HV0.out]; simpa using hin) HN.out
          have HP := Lib.hid hput
          clear hput hoa hka hin
          go_wp2_with fail
          refine HP.out.mono ?_
          rintro e w8 ⟨rfl, hb8⟩
          have H8 := Lib.hid (HLA.out.later (Nat.le_refl _) hb8)
          clear hb8 HLA HP
          go_wp2
          go_roundw
          case rel => exact ⟨c' + 1, H, hv, ps, m, ph, ch, by omega, by go_num, rfl, HV0.out, HVJ.out, by omega, by omega, H8.out⟩
          case measure => simp [intOf]; omega
        · have hput := put_bun HLA.out.bun (Nat.le_refl _) (by omega) (HT.out.later HLA.out.bun.bel) HR.out (a : Int) a 0 rfl hoa hka HN.out (fun k hk => by
            by_cases e : k = 0
            · subst e; rw [HV0.out]; simpa using hin
            · rw [HVJ.out k e]; simp)
          have HP := Lib.hid hput
          clear hput hoa hka hin
          go_wp2_with fail
          refine HP.out.mono ?_
          rintro e w8 ⟨rfl, ps8, hb8, hc8⟩
          have H8 := Lib.hid (HLA.out.step hb8 hc8)
          have hSr : w.heap.size ≤ w8.heap.size := hb8.bel.size
          have HOW : Hid ((w8.alloc (.cells #[.int .i64 (a : Nat)] 3)).ownsRow w.heap.size 3 1 (.slice ph H.length ch) H.length (cellsK H)) := Lib.hid (Blk.owns_block H8.out.hr (fun g hg => Below.heap_alloc _ _ _ (Row.owns_lt H8.out.hr hg).2))
          clear hb8 hc8 HLA HP
          obtain ⟨i1', hinf1, hy0, hy1, hy2⟩ := info_parts Row.infoInt
          go_wp2_with (at_builtin; refine wpList_append_own_at _ rfl _ _ 33 rfl w.heap.size 3 i1' (.int .i64 0) 1 8 Tryd.underlying33 hinf1 hy0 hy1 hy2 rfl (by decide) (.slice ph H.length ch) _ (cellsK H) rfl HOW.out ⟨w8.heap.size, 0, none⟩ 1 1 [.int .i64 (a : Nat)] rfl rfl (Row.one_at rfl) (by simp [Value.oneCell']) (by unfold maxLen; omega) (by omega) (by simp; omega) ?_)
          intro v9 w9 hown hgrow _ hat
          obtain ⟨p9, c9, rfl, h9⟩ := H8.out.push (Nat.le_refl _) hown hgrow (by simpa using hat)
          have H9 := Lib.hid h9
          clear hown hgrow hat h9 H8 HOW
          go_wp2
          go_roundw
          case rel => exact ⟨c' + 1, H ++ [a], upd hv 0 (a :: hv 0), ps8, m + 1, p9, c9, by omega, by go_num, by simp, by rw [upd_same, HV0.out]; simp, fun j hj => by rw [upd_other _ _ hj]; exact HVJ.out j hj, by omega, by simp; omega, H9.out⟩
          case measure => simp [intOf]; omega
      · have hlen := len_z wr HLA.out.bun.has 0 0 H.length rfl (by decide) (by rw [HV0.out]; simp)
        have HL := Lib.hid hlen
        have hmm : ((H.length : Int) != (H.length : Int)) = false := by simp
        clear hlen
        go_wp2_with fail
        refine HL.out.mono ?_
        rintro e w8 ⟨rfl, hb8⟩
        have H8 := Lib.hid (HLA.out.later (Nat.le_refl _) hb8)
        clear hb8 HLA HL
        generalize wr = wx at *
        go_wp2_with fail
        go_loopw [14] (fun i wr => ∃ (q : Nat) (hv : Nat → List Nat) (ps : Nat → Option Addr) (m : Nat), q ≤ H.length ∧ i = .int .i64 ((q : Int) - 1) ∧ hv 0 = (H.take q).reverse ∧ La w.heap.size w wr L A G T I J n base ps hv m w5.heap.size d ks pt capT pq N cq H ph ch) (fun i _ => (intOf i + 1).toNat)
        case atStart => exact ⟨H.length, hv, ps, m, Nat.le_refl _, rfl, by rw [List.take_length]; exact HV0.out, H8.out⟩
        case round =>
          clear H8 HV0 HVJ
          obtain ⟨q, hv, ps, m, hq, rfl, hv0, hla⟩ := hrel
          have HLA := Lib.hid hla
          have HV0 := Lib.hid hv0
          clear hla hv0
          rcases q with _ | q
          · have i0 : ((0 : Nat) : Int) - 1 = -1 := by omega
            go_wp2_with fail
            refine (len_z wr HLA.out.bun.has 0 0 0 rfl (by decide) (by rw [HV0.out]; simp)).mono ?_
            rintro e w9 ⟨rfl, hb9⟩
            have H9 := Lib.hid (HLA.out.later (Nat.le_refl _) hb9)
            clear hb9 HLA
            go_wp2_with fail
            refine (first_z w9 H9.out.bun.has 0 0 0 rfl (by decide) (by rw [HV0.out]; simp)).mono ?_
            rintro e w10 ⟨rfl, hb10⟩
            have H10 := Lib.hid (H9.out.bun.bel.trans (hb10.mono H9.out.bun.bel.size))
            clear hb10 H9
            go_wp2
            go_ret
            exact ⟨rfl, H10.out⟩
          · obtain ⟨a, ha⟩ : ∃ a, H.getD q 0 = a := ⟨_, rfl⟩
            have hrev : (H.take (q + 1)).reverse = a :: (H.take q).reverse := by
              have hqa : H[q]? = some a := by rw [← ha, List.getD_eq_getElem?_getD]; simp [show q < H.length by omega]
              rw [List.take_add_one, hqa]
              simp
            have htake := take_bun HLA.out.bun (Nat.le_refl _) 0 0 a (H.take q).reverse rfl (by decide) (by rw [HV0.out, hrev])
            have HTK := Lib.hid htake
            have HA2 := Lib.hid ha
            have i0 : ((q + 1 : Nat) : Int) - 1 = (q : Int) := by omega
            have i1 : (0 : Int) ≤ (q : Int) := Int.natCast_nonneg _
            have i2 : (q : Int) < (H.length : Int) := by omega
            have haa : ((a : Int) != (a : Int)) = false := by simp
            clear htake hrev ha
            go_wp2_with fail
            refine HTK.out.mono ?_
            rintro e w9 ⟨rfl, ps9, hb9, hc9⟩
            have H9 := Lib.hid (HLA.out.step hb9 hc9)
            obtain ⟨g, hg, hcell⟩ : ∃ g, ph = some ⟨g, 0, none⟩ ∧ w9.cell? ⟨g, q, none⟩ = some (.int .i64 (a : Int)) := by
              have h' := H9.out.hr
              obtain ⟨_, ⟨_, h2⟩ | ⟨g, c2, cur, e1, r⟩⟩ := H9.out.hr
              · omega
              · cases e1
                refine ⟨g, rfl, Row.owns_cell h' q _ ?_⟩
                rw [← HA2.out]
                simp [cellsK, List.getD_eq_getElem?_getD, show q < H.length by omega]
            subst hg
            clear hb9 hc9 HLA HTK
            go_wp2
            go_roundw
            case rel => exact ⟨q, _, ps9, m, by omega, by go_num, by rw [upd_same], H9.out⟩
            case measure => simp [intOf]
end Go.Proofs.YtooojajagkbhiaaDoor.Lis
