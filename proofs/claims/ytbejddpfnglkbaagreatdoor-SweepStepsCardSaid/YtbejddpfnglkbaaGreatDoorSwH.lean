/-
  The document's swept.
-/
import Derived.Test.YtbejddpfnglkbaaGreatDoorSwG
import Derived.BigQuiet
import Derived.Deep.QuietTactic
namespace Go.Proofs.YtbejddpfnglkbaaGreatDoor.Sw
open Go.RowKit
open Blk (Cfg TbIs kAt seg seg_length perN allP allP_succ allP_len blk adr)
open Hp (Ids St Wf Is To Mine bnI bn coE coV frE frS colB holdsF own cls fr puS unS mem_allP bnI_nat frI_nat fr_false fr_true)
open Rf (Rp RTo Pu Ri Sl All SlOk slC stI)
open Go.Proofs.YtbejddpfnglkbaaGreatDoor.Row (Chg Rd Rd0 cell_of_block frozen_of_block other same rowB cellsZ cellsZ_length cellsZ_at cellsZ_snoc owns_lt owns_chg owns_slice owns_base owns_cap owns_block push_row info_parts infoInt one_at)
open Go.Proofs.YtbejddpfnglkbaaGreatDoor.Addr (Tabs)

/-- While the document's slots are gone through. -/
structure Rs (w wr : World) (M base : Nat) (i0 i : Ri) (s : St) (fo : List Int) (po : Option Addr) (co : Nat) : Prop where
  rp : Rp wr M base i s
  chg : Chg (All M i0) w wr
  inI : ∀ k, All M i k → All M i0 k ∨ w.heap.size ≤ k
  own : wr.ownsRow w.heap.size 3 1 (.slice po fo.length co) fo.length (cellsZ fo)
  av : ∀ g, rowB po g → ¬ All M i g
section
variable {w wr w' : World} {M base : Nat} {i0 i : Ri} {s s' : St} {fo : List Int} {po : Option Addr} {co : Nat}
theorem Rs.later (h : Rs w wr M base i0 i s fo po co) (hb : Below wr.heap.size wr w') : Rs w w' M base i0 i s fo po co :=
  ⟨h.rp.later hb, h.chg.trans (Chg.of_below (S := All M i0) hb) (fun _ e => .inl e), h.inI, owns_block h.own (fun g hg => hb.block g (owns_lt h.own hg).2), h.av⟩
theorem Rs.drewN (h : Rs w wr M base i0 i s fo po co) (n : Nat) : Rs w (wr.drewN n) M base i0 i s fo po co := h.later (below_drewN (Below.refl _ _) n)
theorem Rs.ref (h : Rs w wr M base i0 i s fo po co) (hT : RTo wr w' M base i s') : ∃ i', Rs w w' M base i0 i' s' fo po co := by
  obtain ⟨i', g1, g2, g3⟩ := hT
  have hs := h.chg.size
  exact ⟨i', g1, h.chg.trans g2 (fun q e => h.inI q e), fun k e => (g3 k e).elim (h.inI k) (fun x => .inr (by omega)), owns_chg h.own g2 (fun g hg e => h.av g hg e), fun g hg e => (g3 g e).elim (h.av g hg) (fun x => by have := (owns_lt h.own hg).2; omega)⟩
theorem Rs.push {fo' : List Int} {po' : Option Addr} {co' : Nat} (h : Rs w wr M base i0 i s fo po co) (hc : Chg (rowB po) wr w') (ho : w'.ownsRow w.heap.size 3 1 (.slice po' fo'.length co') fo'.length (cellsZ fo')) (hR : ∀ g, rowB po' g → rowB po g ∨ wr.heap.size ≤ g) : Rs w w' M base i0 i s fo' po' co' :=
  ⟨h.rp.chg hc (fun k e e2 => h.av k e2 e), h.chg.trans hc (fun q e => .inr (owns_lt h.own e).1), h.inI, ho, fun g hg => (hR g hg).elim (h.av g) (fun x e => by have := h.rp.mem.ltA e; omega)⟩
end
/-- What the document's sweeping leaves. -/
def RSwept (w : World) (M base : Nat) (i : Ri) (s' : St) (l : List Int) (e : Ending) (w' : World) : Prop :=
  ∃ i' po co, e = .returned (.slice po l.length co) ∧ Rs w w' M base i i' s' l po co
section
variable {M base : Nat} {i : Ri} {s : St}
set_option maxRecDepth 100000 in
set_option maxHeartbeats 4000000 in
theorem swept_gen (b : Nat) (col : Int) (w : World) (h : Rp w M base i s) (hp : Wp s) (hA : (allP s.c s.ks s.ks.length).length ≤ 1000) : Calls Tryz.prog 14 #[.pointer (some ⟨M, 0, none⟩), .int .i64 b, .int .i64 col] w
    (RSwept w M base i (swS s col ((allP s.c s.ks s.ks.length).filter (inBl s b))) (swF s col ((allP s.c s.ks s.ks.length).filter (inBl s b)))) := by
  have HR0 : Hid (Rs w w M base i i s [] none 0) := Lib.hid ⟨h, Chg.refl _ _, fun _ e => .inl e, ⟨by simp [cellsZ], .inl ⟨rfl, rfl⟩⟩, fun g hg => by cases hg⟩
  have HP := Lib.hid hp
  have hRC := Blk.slots_bd h.wf.right
  have hwd0 := hRC.wd0
  have hwd1 := hRC.wd1
  obtain ⟨wd, hwd⟩ : ∃ wd : Nat, s.c.wd = (wd : Int) := ⟨s.c.wd.toNat, by omega⟩
  clear h hp hRC
  go_enter Tryz.func14, Tryz.ntmps14
  go_wp2_with fail
  go_loopw [7, 8] (fun ov x wr => ∃ (j : Nat) (i' : Ri) (po : Option Addr) (co : Nat), j ≤ (allP s.c s.ks s.ks.length).length ∧ x = .int .i64 j ∧ ov = .slice po (swF s col (((allP s.c s.ks s.ks.length).take j).filter (inBl s b))).length co ∧
    Rs w wr M base i i' (swS s col (((allP s.c s.ks s.ks.length).take j).filter (inBl s b))) (swF s col (((allP s.c s.ks s.ks.length).take j).filter (inBl s b))) po co) (fun _ x _ => (allP s.c s.ks s.ks.length).length - (intOf x).toNat)
  case atStart => exact ⟨0, i, none, 0, Nat.zero_le _, rfl, by simp [swF], by simpa [swF, swS] using HR0.out⟩
  case round =>
    clear HR0
    obtain ⟨j, i', po, co, hj, rfl, rfl, hr⟩ := hrel
    have HR := Lib.hid hr
    clear hr
    have j0 : (0 : Int) ≤ (j : Int) := Int.natCast_nonneg _
    have hadr : i'.sl.map (fun x => x.a) = allP s.c s.ks s.ks.length := by have := HR.out.rp.adr; rwa [swS_c, swS_ks] at this
    have hlen : i'.sl.length = (allP s.c s.ks s.ks.length).length := by rw [← hadr, List.length_map]
    have c8 := HR.out.rp.mem.cS
    have c1 := HR.out.rp.mem.b1
    rw [hlen] at c8
    rw [swS_c, hwd] at c1
    by_cases hlt : j < (allP s.c s.ks s.ks.length).length
    · have j1 : (j : Int) < ((allP s.c s.ks s.ks.length).length : Int) := by omega
      obtain ⟨x, hx⟩ : ∃ x, i'.sl[j]? = some x := ⟨i'.sl[j]'(by omega), List.getElem?_eq_getElem _⟩
      obtain ⟨g, hg, hcl, _⟩ := HR.out.rp.mem.slot hx
      rw [hg] at c8
      have q0 : wr.cell? ⟨g, j * 6, none⟩ = some (.int .i64 x.a) := hcl 0 (by omega)
      have q1 : wr.cell? ⟨g, j * 6 + 1, none⟩ = some (.int .i64 x.k) := hcl 1 (by omega)
      have q2 : wr.cell? ⟨g, j * 6 + 2, none⟩ = some (.int .i64 x.is) := hcl 2 (by omega)
      have q3 : wr.cell? ⟨g, j * 6 + 3, none⟩ = some (.int .i64 x.co) := hcl 3 (by omega)
      have q4 : wr.cell? ⟨g, j * 6 + 4, none⟩ = some (.bool x.bg) := hcl 4 (by omega)
      have q5 : wr.cell? ⟨g, j * 6 + 5, none⟩ = some (.slice x.p x.fs.length x.cap) := hcl 5 (by omega)
      have hgl : g < wr.heap.size := World.block_lt_of_cell? wr _ q0
      have hMl := HR.out.rp.mem.ltM
      have HX := Lib.hid hx
      clear hcl hg hx
      have hxa : x.a = (allP s.c s.ks s.ks.length).getD j 0 := by
        rw [← hadr, List.getD_eq_getElem?_getD, List.getElem?_map, HX.out]
        rfl
      have hok := HR.out.rp.ok x (List.mem_of_getElem? HX.out)
      have hown := HR.out.rp.own_of (List.mem_of_getElem? HX.out)
      have hwf := HR.out.rp.wf
      have hbd := hwf.own_bd hown
      have hw1 := (Rf.words_wrap hwf).1
      have ha1 : 1 ≤ x.a := hbd.1
      have ha2 : x.a ≤ 1048576 := by omega
      have HTK : Hid ((allP s.c s.ks s.ks.length).take (j + 1) = (allP s.c s.ks s.ks.length).take j ++ [x.a]) := Lib.hid (by
        rw [List.take_add_one, hxa, List.getD_eq_getElem?_getD]
        have : (allP s.c s.ks s.ks.length)[j]? = some ((allP s.c s.ks s.ks.length)[j]'hlt) := List.getElem?_eq_getElem _
        rw [this]; rfl)
      have hwp := HP.out.swS col (((allP s.c s.ks s.ks.length).take j).filter (inBl s b))
      have HWP := Lib.hid hwp
      have hst : x.is = stI (swS s col (((allP s.c s.ks s.ks.length).take j).filter (inBl s b))) x.a := hok.is
      have HCO := Lib.hid hok.co
      have hwp0 : (0 : Int) < (wd : Int) := by omega
      have hwpn : ¬ (wd : Int) = 0 := by omega
      clear hwp hok hown hwf hbd hw1 hxa hadr
      have hal0 : ∀ o, Below wr.heap.size wr (wr.alloc o) := fun o => (Below.refl _ wr).alloc (Nat.le_refl _) o
      have HAL := Lib.hid hal0
      have HFI : Hid (((allP s.c s.ks s.ks.length).take (j + 1)).filter (inBl s b) = ((allP s.c s.ks s.ks.length).take j).filter (inBl s b) ++ (if inBl s b x.a = true then [x.a] else [])) := Lib.hid (by
        rw [HTK.out, List.filter_append]
        congr 1
        cases hq : inBl s b x.a <;> simp [hq])
      have hflen : (((allP s.c s.ks s.ks.length).take j).filter (inBl s b)).length ≤ 1000 := Nat.le_trans (List.length_filter_le _ _) (by rw [List.length_take]; omega)
      have hfl := Nat.le_trans (swF_len s col _) hflen
      clear hal0 hflen
      generalize hP1 : ((allP s.c s.ks s.ks.length).take (j + 1)).filter (inBl s b) = P1 at *
      generalize hP0 : ((allP s.c s.ks s.ks.length).take j).filter (inBl s b) = P0 at *
      generalize hS0 : swS s col P0 = st at *
      generalize hF0 : swF s col P0 = fo at *
      have HS0 := Lib.hid hS0
      have HF0 := Lib.hid hF0
      have HST : Hid (swB st col x.a = false → swS s col P1 = st ∧ swF s col P1 = fo) := Lib.hid fun e => by
        rw [HFI.out]
        split
        · rw [swS_append, swF_append, HS0.out, HF0.out, swS_one, swF_one, swT, e]
          exact ⟨rfl, List.append_nil _⟩
        · rw [List.append_nil]
          exact ⟨HS0.out, HF0.out⟩
      have HP1 := Lib.hid hP1
      clear hP1 hP0 hS0 hF0
      obtain ⟨xc, hxc⟩ : ∃ v, x.co = v := ⟨_, rfl⟩
      have HXC := Lib.hid hxc
      rw [hxc] at q3
      obtain ⟨xi, hxi⟩ : ∃ v, x.is = v := ⟨_, rfl⟩
      have HXI := Lib.hid hxi
      rw [hxi] at q2 hst
      have HSI := Lib.hid hst
      clear hxc hxi hst
      by_cases hin : inBl s b x.a = true
      · have bq : ((x.a - 1) / (wd : Int) == (b : Int)) = true := by unfold inBl at hin; rw [hwd] at hin; exact hin
        by_cases hb : bnI st x.a = true
        · have hcv : xc = coV st x.a := by rw [← HXC.out, HCO.out hb, coV, if_pos hb]
          have hi2 : (xi == 2) = true := by rw [HSI.out, stI, if_pos hb]; rfl
          by_cases hcc : xc = col
          · have bc : (xc != col) = false := by simp [hcc]
            obtain ⟨e1, e2⟩ := HST.out (by unfold swB; rw [← hcv, hcc]; simp)
            have E1 := Lib.hid e1
            have E2 := Lib.hid e2
            clear e1 e2 hcv
            have HR2 := Lib.hid (fun o => HR.out.later (HAL.out o))
            go_wp2_with fail
            go_quiet (fail)
            go_wp2_with fail
            go_roundw
            case rel =>
              refine ⟨j + 1, i', po, co, by omega, by go_num, ?_, ?_⟩
              · rw [HP1.out, E2.out]
              · rw [HP1.out, E1.out, E2.out]
                exact (HR2.out _).drewN _
            case measure => simp [intOf]; omega
          · have bc : (xc != col) = true := by simp [hcc]
            have hsb : swB st col x.a = true := by
              unfold swB
              rw [hb, ← hcv]
              simpa using hcc
            have E1 : Hid (swS s col P1 = frS st x.a.toNat) := Lib.hid (by rw [HFI.out, if_pos hin, swS_append, HS0.out, swS_one, swT, if_pos hsb])
            have E2 : Hid (swF s col P1 = fo ++ [x.a]) := Lib.hid (by rw [HFI.out, if_pos hin, swF_append, HS0.out, HF0.out, swF_one, if_pos hsb])
            have hfe : frE st x.a = 0 := by rw [frE, if_pos hb]
            clear hcv hsb
            go_wp2_with fail
            go_quiet (fail)
            have hal := (HAL.out (.cells #[.int .i64 x.a, .int .i64 x.k, .int .i64 xi, .int .i64 xc, .bool x.bg, .slice x.p x.fs.length x.cap] 49))
            have HR2 := Lib.hid ((HR.out.later hal).drewN nq)
            have HREL := Lib.hid (Rf.release_all x.a _ HR2.out.rp HWP.out.pu)
            rw [hfe, if_pos rfl] at HREL
            clear hal
            go_wp2_with fail
            refine HREL.out.mono ?_
            rintro e w4 ⟨rfl, hT⟩
            obtain ⟨i4, h4⟩ := HR2.out.ref hT
            have HR4 := Lib.hid h4
            have hb4 : w4.cell? ⟨wr.heap.size, 0, none⟩ = some (.int .i64 x.a) := by
              have hT2 := hT
              obtain ⟨i5, g1, g2, g3⟩ := hT2
              exact (g2.cell (p := ⟨wr.heap.size, 0, none⟩) (by simp [World.drewN]) (fun e => by have := HR.out.rp.mem.ltA (show All M i' wr.heap.size from e); omega)).trans (by simp)
            have hws : w.heap.size ≤ w4.heap.size := h4.chg.size
            clear hT h4 HREL HR2
            go_wp2_with (at_builtin; refine Rf.wpList_append_one rfl _ _ rfl w4 w.heap.size po co fo x.a rfl rfl HR4.out.own rfl (by omega) hws ?_; intro p5 c5 w5 ho5 hC5 hR5; have HR5 := Lib.hid (HR4.out.push hC5 ho5 hR5); clear ho5 hC5 hR5)
            go_roundw
            case rel =>
              refine ⟨j + 1, i4, p5, c5, by omega, by go_num, ?_, ?_⟩
              · rw [HP1.out, E2.out, List.length_append]; rfl
              · rw [HP1.out, E1.out, E2.out]
                exact HR5.out
            case measure => simp [intOf]; omega
        · have hi2 : (xi == 2) = false := by
            rw [HSI.out, stI, if_neg hb]
            split <;> rfl
          obtain ⟨e1, e2⟩ := HST.out (by unfold swB; rw [(by simpa using hb : bnI st x.a = false)]; simp)
          have E1 := Lib.hid e1
          have E2 := Lib.hid e2
          clear e1 e2
          have HR2 := Lib.hid (fun o => HR.out.later (HAL.out o))
          go_wp2_with fail
          go_quiet (fail)
          go_wp2_with fail
          go_roundw
          case rel =>
            refine ⟨j + 1, i', po, co, by omega, by go_num, ?_, ?_⟩
            · rw [HP1.out, E2.out]
            · rw [HP1.out, E1.out, E2.out]
              exact (HR2.out _).drewN _
          case measure => simp [intOf]; omega
      · have bq : ((x.a - 1) / (wd : Int) == (b : Int)) = false := by
          have h2 : inBl s b x.a = false := by simpa using hin
          unfold inBl at h2
          rw [hwd] at h2
          exact h2
        have e12 : swS s col P1 = st ∧ swF s col P1 = fo := by
          rw [HFI.out, if_neg hin, List.append_nil]
          exact ⟨HS0.out, HF0.out⟩
        have E1 := Lib.hid e12.1
        have E2 := Lib.hid e12.2
        clear e12
        have HR2 := Lib.hid (fun o => HR.out.later (HAL.out o))
        go_wp2_with fail
        go_quiet (fail)
        go_wp2_with fail
        go_roundw
        case rel =>
          refine ⟨j + 1, i', po, co, by omega, by go_num, ?_, ?_⟩
          · rw [HP1.out, E2.out]
          · rw [HP1.out, E1.out, E2.out]
            exact (HR2.out _).drewN _
        case measure => simp [intOf]; omega
    · obtain rfl : j = (allP s.c s.ks s.ks.length).length := by omega
      rw [List.take_length] at HR
      rw [List.take_length]
      clear hadr
      go_wp2_with fail
      go_ret
      exact ⟨i', po, co, rfl, HR.out⟩
end
end Go.Proofs.YtbejddpfnglkbaaGreatDoor.Sw
