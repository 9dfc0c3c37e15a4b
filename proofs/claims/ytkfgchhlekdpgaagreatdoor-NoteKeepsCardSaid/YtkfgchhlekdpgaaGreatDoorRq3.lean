/-
  Texts of the heap, one behind the other: RfJ RfK RfL RfM RfN RfO RfP.
-/
import Derived.Test.YtkfgchhlekdpgaaGreatDoorRq2
import Derived.Test.YtkfgchhlekdpgaaGreatDoorHq4
import Derived.Lib.QuietBelow
namespace Go.Proofs.YtkfgchhlekdpgaaGreatDoor.Rf
open Go.RowKit
open Blk (Cfg allP kAt valA)
open Class (isB isB_true isB_false sizI sizI_bd roomI roomI_yes quiet_left refis_any refsize_any)
open Lis (intsN upd upd_same upd_other)
open Hp (St Wf own cls wdA bn fr bnI frI bnI_nat frI_nat mem_allP allP_sorted nSl stS beS baS puS unS frS zr asS handB fr_true fr_false freL mem_freL baE frE beE fE fN lE lV sE takB colB make_ints zeroInts zeroInts_at mayV mayV_true wpList_append_row)
open Go.Proofs.YtkfgchhlekdpgaaGreatDoor.Row (Chg Rd Rd0 rowB rowB_none cell_of_block frozen_of_block other same cellsZ owns_lt owns_cap one_at owns_some)

theorem setCell_comm (w : World) {a b : Addr} (u v : Value) (h : a.block ≠ b.block) : (w.setCell a u).setCell b v = (w.setCell b v).setCell a u := by
  have key : ∀ (f g : Obj → Obj), (w.heap.modify a.block f).modify b.block g = (w.heap.modify b.block g).modify a.block f := fun f g => by
    apply Array.ext
    · simp
    · intro i h1 h2
      simp only [Array.getElem_modify]
      by_cases e1 : a.block = i <;> by_cases e2 : b.block = i <;> simp [e1, e2]
      exact absurd (e1.trans e2.symm) h
  simp only [World.setCell, key]

section
variable {M base : Nat} {i : Ri} {s : St}
theorem lV_of {a : Int} {n : Nat} {l : List Int} (hl : lE s a n = 0) (e1 : l = fldL s a.toNat) (hn : n < l.length) (hlo : ∀ z ∈ l, z ≤ 1048576) : lV s a n = l.getD n 0 := by
  have hn2 : n < Hdr.obF (wdA s a.toNat) := by rw [e1] at hn; simpa [fldL] using hn
  have hx : l.getD n 0 = ((Arena.wd s.ws (a.toNat + n) : Nat) : Int) := by
    rw [e1]; unfold fldL
    rw [List.getD_eq_getElem?_getD, List.getElem?_map, List.getElem?_range hn2]
    rfl
  have hm : l.getD n 0 ∈ l := by
    rw [List.getD_eq_getElem?_getD, List.getElem?_eq_getElem hn]
    exact List.getElem_mem hn
  have hle := hlo _ hm
  rw [hx] at hle
  unfold lV
  rw [if_pos hl, hx]
  unfold Hp.fl
  rw [Int.toNat_natCast]
  exact Hp.wrap_small (by omega)

/-- A field laid: the row is copied. -/
theorem store_fin {a : Int} {j n v g pb c' : Nat} {x : Sl} {w w3 : World} (h : Rp w M base i s) (he : fE s a = 0) (ho : ObAt s i a j x) (hn : n < fN s a) (hv : v ≤ 1048576) (hg : i.ps = some ⟨g, 0, none⟩)
    (hb : Below w.heap.size w w3) (hown : w3.ownsRow w.heap.size 3 1 (.slice (some ⟨pb, 0, none⟩) x.fs.length c') x.fs.length (cellsZ x.fs)) :
    RTo w (((w3.setCell ⟨g, j * 6 + 5, none⟩ (.slice (some ⟨pb, 0, none⟩) x.fs.length c'))).setCell ⟨pb, n, none⟩ (.int .i64 (v : Nat))) M base i (stS s a.toNat n v) := by
  obtain ⟨e1, e2⟩ := ho.len he
  obtain ⟨k, rfl, k1, k2⟩ := own_nat h.wf ho.own
  rw [Int.toNat_natCast] at e1 ⊢
  have hob := ho.ob
  rw [Int.toNat_natCast] at hob
  have hr := own_room h.wf ho.own hob
  have hN := fN_ob he
  rw [Int.toNat_natCast] at hN
  have hnew := owns_lt hown (g := pb) rfl
  have hgl := (h.mem.ltS (g := g) (by rw [hg]; rfl)).2
  rw [setCell_comm _ _ _ (by show g ≠ pb; omega)]
  have h3 := h.mem.later hb
  have hown2 := (hown.stored n (.int .i64 (v : Nat))).1
  have hcz : (cellsZ x.fs).set n (.int .i64 (v : Nat)) = cellsZ (x.fs.set n v) := by simp [cellsZ, List.map_set]
  rw [hcz, show x.fs.length = (x.fs.set n (v : Int)).length from (List.length_set ..).symm] at hown2
  have hkeep : ∀ q, All M i q → (w3.setCell ⟨pb, n, none⟩ (.int .i64 (v : Nat))).heap[q]? = w3.heap[q]? := fun q hq => heap_set (by show q ≠ pb; have := h.mem.ltA hq; omega)
  have h4 : RfIs (w3.setCell ⟨pb, n, none⟩ (.int .i64 (v : Nat))) M base i s.c s.ks.length (fun k => intsN (s.hv k)) s.ce := h3.kept hkeep (by rw [Row.size_setCell]; exact Nat.le_refl _)
  have hnw : ∀ q, rowB (some (⟨pb, 0, none⟩ : Addr)) q → q = pb := fun q e => by simpa [rowB, eq_comm] using e
  have hpW : ¬ Wr M i pb := fun e => by have := h.mem.ltA (.inl e); omega
  obtain ⟨g1, g2, g3⟩ := h4.setSlot (j := j) (t := 5) (x' := { x with fs := x.fs.set n v, p := some ⟨pb, 0, none⟩, cap := c' }) (v := .slice (some ⟨pb, 0, none⟩) x.fs.length c') hg ho.at_ (by omega) (by simp [slC]) (Rd.of_owns hown2) (fun q e => by
    rw [hnw q e]; exact ⟨by rw [Row.size_setCell]; exact hnew.2, hpW⟩)
  have hC1 : Chg (Wr M i) w (w3.setCell ⟨pb, n, none⟩ (.int .i64 (v : Nat))) := Chg.set (S := Wr M i) (Chg.of_below hb) (.inr (by show w.heap.size ≤ pb; omega)) _
  refine ⟨_, h.turn (s' := stS s k n v) ho.at_ (x' := { x with fs := x.fs.set n v, p := some ⟨pb, 0, none⟩, cap := c' }) rfl rfl g1 rfl rfl (h.wf.store ho.own (by omega)) ?_ (fun y hy hne hok => store_frame h.wf ho.own (by omega) y hy (by rw [← ho.adr]; exact hne) hok), chg_all (hC1.trans g2 (fun k' e => .inl e)), fun q e => ?_⟩
  · rw [e1]
    exact store_slot h.wf ho.own hob (by omega) hv ho.ok ho.adr
  · rcases g3 q e with e | ⟨_, _, e⟩
    · exact .inl e
    · right
      rw [hnw q e]
      omega
end
end Go.Proofs.YtkfgchhlekdpgaaGreatDoor.Rf

namespace Go.Proofs.YtkfgchhlekdpgaaGreatDoor.Rf
open Go.RowKit
open Blk (Cfg allP kAt valA)
open Class (isB isB_true isB_false sizI sizI_bd roomI roomI_yes quiet_left refis_any refsize_any)
open Lis (intsN upd upd_same upd_other)
open Hp (St Wf own cls wdA bn fr bnI frI bnI_nat frI_nat mem_allP allP_sorted nSl stS beS baS puS unS frS zr asS handB fr_true fr_false freL mem_freL baE frE beE fE fN lE lV sE takB colB make_ints zeroInts zeroInts_at mayV mayV_true wpList_append_row)
open Go.Proofs.YtkfgchhlekdpgaaGreatDoor.Row (Chg Rd Rd0 rowB rowB_none cell_of_block frozen_of_block other same cellsZ owns_lt owns_cap one_at owns_some)

section
variable {M base : Nat} {i : Ri} {s : St}
theorem words_wrap {s : St} (h : Wf s) : s.ws.length ≤ 1048576 ∧ IntKind.i64.wrap (s.c.b * s.c.wd) = (s.ws.length : Int) := by
  obtain ⟨p0, p1⟩ := (Blk.slots_bd h.right).words
  have := h.words
  refine ⟨by omega, ?_⟩
  rw [this]
  exact IntWalk.i64_in _ (by omega)
theorem bz_wf {s : St} (h : Wf s) {a n : Nat} (hh : handB s a = true) (hok : Hdr.okB (cls s a : Nat) (n : Nat) = true) : Wf (bzS s a n) := by
  have hp := isV_zero (hand_isV.1 hh)
  obtain ⟨ho, hb, hf⟩ := hp
  rw [bnI_nat] at hb
  rw [frI_nat] at hf
  obtain ⟨o1, o2, o3⟩ := Hdr.okB_true.1 hok
  rw [roomI_yes o1] at o3
  have h0 : Wf (beS s a n) := h.begin ho hb hf hok
  have key : ∀ j, j ≤ n → Wf (zr (beS s a n) a j) := by
    intro j
    induction j with
    | zero => exact fun _ => h0
    | succ j ih =>
      intro hj
      obtain ⟨z1, z2, z3, z4, z5, z6, z7⟩ := Hp.zr_rest (beS s a n) a j
      have ho' : own (zr (beS s a n) a j) a = true := by
        show Blk.ownB (zr (beS s a n) a j).c (zr (beS s a n) a j).ks a = true
        rw [z1, z2]; exact ho
      have hc' : cls (zr (beS s a n) a j) a = cls s a := by
        unfold cls
        rw [z1, z2]; rfl
      exact (ih (by omega)).store ho' (by rw [hc']; omega)
  exact key n (Nat.le_refl _)
/-- Begun: the mark is set, the fields are new. -/
theorem begin_fin {a j n g nq : Nat} {x : Sl} {w : World} (h : Rp w M base i s) (hh : handB s a = true) (hok : Hdr.okB (cls s a : Nat) (n : Nat) = true) (hx : i.sl[j]? = some x) (hxa : x.a = (a : Int)) (hg : i.ps = some ⟨g, 0, none⟩) :
    RTo w ((((w.drewN nq).setCell ⟨g, j * 6 + 4, none⟩ (.bool true)).alloc (.cells (zeroInts n) 3)).setCell ⟨g, j * 6 + 5, none⟩ (.slice (some ⟨((w.drewN nq).setCell ⟨g, j * 6 + 4, none⟩ (.bool true)).heap.size, 0, none⟩) n n)) M base i (bzS s a n) := by
  obtain ⟨ho, hb, hf⟩ := isV_zero (hand_isV.1 hh)
  obtain ⟨a1, a2, a3⟩ := (h.mem.drewN nq).setNum (t := 4) (x' := { x with bg := true }) hg hx (by omega) rfl rfl rfl
  have hj := (List.getElem?_eq_some_iff.1 hx).1
  have hS : ((w.drewN nq).setCell ⟨g, j * 6 + 4, none⟩ (.bool true)).heap.size = w.heap.size := Row.size_setCell ..
  have hq : Chg (Wr M i) w (w.drewN nq) := (Chg.refl _ _).drewN nq
  have hC1 := hq.trans a2 (fun k' e => .inl e)
  generalize World.setCell _ _ _ = w1 at *
  have hbl : Below w1.heap.size w1 (w1.alloc (.cells (zeroInts n) 3)) := (Below.refl _ _).alloc (Nat.le_refl _) _
  have b1 := a1.later hbl
  have hrd : Rd (w1.alloc (.cells (zeroInts n) 3)) (some ⟨w1.heap.size, 0, none⟩) (List.replicate n 0) := .inr ⟨w1.heap.size, 0, rfl, fun t ht => by
    rw [List.length_replicate] at ht
    rw [Nat.zero_add, World.cell?_alloc_new, zeroInts_at n t ht]
    simp [List.getD_eq_getElem?_getD, ht]⟩
  have hnw : ∀ q, rowB (some (⟨w1.heap.size, 0, none⟩ : Addr)) q → q = w1.heap.size := fun q e => by simpa [rowB, eq_comm] using e
  have hpW : ¬ Wr M i w1.heap.size := fun e => by have := h.mem.ltA (.inl e); omega
  obtain ⟨g1, g2, g3⟩ := b1.setSlot (j := j) (t := 5) (x := { x with bg := true }) (x' := { x with bg := true, fs := List.replicate n 0, p := some ⟨w1.heap.size, 0, none⟩, cap := n }) (v := .slice (some ⟨w1.heap.size, 0, none⟩) n n) hg (by rw [List.getElem?_set_self (by exact hj)]) (by omega) (by simp [slC]) hrd (fun q e => by
    rw [hnw q e]; exact ⟨by simp, hpW⟩)
  refine ⟨_, h.turn (s' := bzS s a n) hx (x' := { x with bg := true, fs := List.replicate n 0, p := some ⟨w1.heap.size, 0, none⟩, cap := n }) ?_ rfl (by
    obtain ⟨z1, z2, z3, z4, z5, z6, z7⟩ := Hp.zr_rest (beS s a n) a n
    have e1 : (bzS s a n).c = s.c := z1
    have e2 : (bzS s a n).ks = s.ks := z2
    have e3 : (bzS s a n).hv = s.hv := z3
    have e6 : (bzS s a n).ce = s.ce := z6
    rw [e1, e2, e3, e6]
    exact g1) (Hp.zr_rest (beS s a n) a n).1 (Hp.zr_rest (beS s a n) a n).2.1 (bz_wf h.wf hh hok) (begin_slot h.wf ho hok (h.ok x (List.mem_of_getElem? hx)) hxa) (fun y hy hne hok' => begin_frame h.wf ho (by
      obtain ⟨o1, o2, o3⟩ := Hdr.okB_true.1 hok
      rw [roomI_yes o1] at o3
      omega) y hy (by rw [← hxa]; exact hne) hok'), ?_, fun q e => ?_⟩
  · exact List.set_set ..
  · exact chg_all ((hC1.trans (Chg.of_below (S := Wr M i) hbl) (fun k' e => .inl e)).trans g2 (fun k' e => .inl e))
  · rcases g3 q e with e | ⟨_, _, e⟩
    · exact .inl (a3 q e)
    · right
      rw [hnw q e]
      omega
set_option maxRecDepth 100000 in
set_option maxHeartbeats 4000000 in
theorem begin_any (a n : Int) (w : World) (h : Rp w M base i s) : Calls Tryz.prog 172 #[.pointer (some ⟨M, 0, none⟩), .int .i64 a, .int .i64 n] w fun e w' => e = .returned (.int .i64 (beE s a n)) ∧ RTo w w' M base i (if beE s a n = 0 then bzS s a.toNat n.toNat else s) := by
  cases hh : handB s a with
  | false =>
    have e1 : beE s a n = 1 := by unfold beE; rw [hh]; rfl
    rw [e1, if_neg (by decide)]
    have HI := Lib.hid (is_any a h)
    have H := Lib.hid h
    have hne : (isV s a != 0) = true := by
      have : ¬ isV s a = 0 := fun e => by rw [hand_isV.2 e] at hh; cases hh
      simpa using this
    clear h hh e1
    generalize isV s a = v at *
    go_enter Tryz.func172, Tryz.ntmps172
    go_wp2_with (go_at_call 176; refine HI.out.mono ?_; rintro e w' ⟨rfl, rfl⟩)
    go_ret
    exact ⟨rfl, RTo.of_below H.out (Below.refl _ _)⟩
  | true =>
    have hi := is_any a h
    rw [hand_isV.1 hh] at hi
    have HI := Lib.hid hi
    obtain ⟨ho, hb, hf⟩ := isV_zero (hand_isV.1 hh)
    obtain ⟨a, rfl, n1, n2⟩ := own_nat h.wf ho
    obtain ⟨j, x, hx, hxa, hfst⟩ := h.pos ho
    have hsl := h.ok x (List.mem_of_getElem? hx)
    obtain ⟨g, hg, hcl, hfz⟩ := h.mem.slot hx
    have c8 := h.mem.cS
    rw [hg] at c8
    have hj := (List.getElem?_eq_some_iff.1 hx).1
    have j0 : (0 : Int) ≤ (j : Int) := Int.natCast_nonneg _
    have j1 : (j : Int) < (i.sl.length : Int) := by omega
    have q1 : w.cell? ⟨g, j * 6 + 1, none⟩ = some (.int .i64 (cls s a : Nat)) := by
      have : w.cell? ⟨g, j * 6 + 1, none⟩ = some (.int .i64 x.k) := hcl 1 (by omega)
      rw [this, hsl.k, hxa]
    have q4 : w.cell? ⟨g, j * 6 + 4, none⟩ = some (.bool x.bg) := hcl 4 (by omega)
    have q5 : w.cell? ⟨g, j * 6 + 5, none⟩ = some (.slice x.p x.fs.length x.cap) := hcl 5 (by omega)
    have f4 := hfz (j * 6 + 4)
    have f5 := hfz (j * 6 + 5)
    have hgl := (h.mem.ltS (g := g) (by rw [hg]; rfl)).2
    have hB : isB (cls s a : Nat) = true := isB_lt (h.k4 _)
    have hsz := sizI_bd hB
    have H := Lib.hid h
    have HX := Lib.hid hx
    have HXA := Lib.hid hxa
    have HFST := Lib.hid hfst
    have HG := Lib.hid hg
    have HHH := Lib.hid hh
    have hbe : beE s a n = if Hdr.okB (cls s a : Nat) n = true then 0 else 8 := by unfold beE; rw [hh]; rfl
    rw [hbe]
    have HOK : Hid (Hdr.okB (cls s a : Nat) n = true ↔ 0 ≤ n ∧ n ≤ sizI (cls s a : Nat) - 1) := Lib.hid (by rw [Hdr.okB_true, roomI_yes hB]; simp [hB])
    clear h hcl hfz hx hxa hfst hg hi hsl hb hf hh hbe
    rw [Int.toNat_natCast]
    have hwr : IntKind.i64.wrap (sizI (cls s a : Nat) - 1) = sizI (cls s a : Nat) - 1 := by
      exact IntWalk.i64_in _ (by omega)
    generalize hK : sizI (cls s a : Nat) = z at *
    generalize hKK : (cls s a : Nat) = kk at *
    generalize x.p = xp at *
    generalize x.fs.length = xl at *
    generalize x.cap = xc at *
    generalize x.bg = xb at *
    have HK := Lib.hid hK
    have HKK := Lib.hid hKK
    clear hK hKK
    by_cases hn0 : 0 ≤ n
    · by_cases hn1 : n ≤ z - 1
      · have hok := HOK.out.2 ⟨hn0, hn1⟩
        rw [if_pos hok, if_pos rfl]
        obtain ⟨n, rfl⟩ : ∃ m : Nat, n = m := ⟨n.toNat, by omega⟩
        rw [Int.toNat_natCast]
        have hd1 : decide ((z - 1 : Int) < (n : Int)) = false := by simpa using hn1
        have HM := Lib.hid (make_ints n (by omega))
        have HT : Hid (∀ nq : Nat, RTo w ((((w.drewN nq).setCell ⟨g, j * 6 + 4, none⟩ (.bool true)).setCell ⟨g, j * 6 + 5, none⟩ (.slice (some ⟨w.heap.size, 0, none⟩) n n)).alloc (.cells (zeroInts n) 3)) M base i (bzS s a n)) := Lib.hid fun nq => by
          have := begin_fin (nq := nq) H.out HHH.out (by rw [HKK.out]; exact hok) HX.out HXA.out HG.out
          rw [World.setCell_alloc_past _ _ _ _ (by rw [Row.size_setCell]; exact hgl), Row.size_setCell] at this
          exact this
        clear hok
        go_enter Tryz.func172, Tryz.ntmps172
        go_wp2_with (first | (go_at_call 176; refine HI.out.mono ?_; rintro e w' ⟨rfl, rfl⟩))
        go_quiet ((go_at_call 177; exact quiet_left (at_yes _ (H.out.mem.drewN _) HX.out HXA.out HFST.out)))
        have hmk := HM.out
        go_wp2_with (first | (go_at_call 93; refine (refsize_any _ _).mono ?_; rintro e w' ⟨rfl, rfl⟩; rw [HK.out]))
        go_ret
        exact ⟨rfl, HT.out _⟩
      · rw [if_neg (fun e => hn1 (HOK.out.1 e).2), if_neg (by decide)]
        have hd1 : decide ((z - 1 : Int) < n) = true := by simpa using hn1
        have hn2 : z - 1 < n := by omega
        go_enter Tryz.func172, Tryz.ntmps172
        go_wp2_with (first | (go_at_call 176; refine HI.out.mono ?_; rintro e w' ⟨rfl, rfl⟩))
        go_quiet ((go_at_call 177; exact quiet_left (at_yes _ (H.out.mem.drewN _) HX.out HXA.out HFST.out)))
        go_wp2_with (first | (go_at_call 93; refine (refsize_any _ _).mono ?_; rintro e w' ⟨rfl, rfl⟩; rw [HK.out]))
        go_ret
        exact ⟨rfl, RTo.of_below H.out (below_drewN (Below.refl _ _) _)⟩
    · rw [if_neg (fun e => hn0 (HOK.out.1 e).1), if_neg (by decide)]
      have hn2 : n < 0 := by omega
      go_enter Tryz.func172, Tryz.ntmps172
      go_wp2_with (first | (go_at_call 176; refine HI.out.mono ?_; rintro e w' ⟨rfl, rfl⟩))
      go_quiet ((go_at_call 177; exact quiet_left (at_yes _ (H.out.mem.drewN _) HX.out HXA.out HFST.out)))
      go_wp2
      go_ret
      exact ⟨rfl, RTo.of_below H.out (below_drewN (Below.refl _ _) _)⟩
end
end Go.Proofs.YtkfgchhlekdpgaaGreatDoor.Rf

namespace Go.Proofs.YtkfgchhlekdpgaaGreatDoor.Rf
open Go.RowKit
open Blk (Cfg allP kAt valA)
open Class (isB isB_true isB_false sizI sizI_bd roomI roomI_yes quiet_left refis_any refsize_any)
open Lis (intsN upd upd_same upd_other)
open Hp (St Wf own cls wdA bn fr bnI frI bnI_nat frI_nat mem_allP allP_sorted nSl stS beS baS puS unS frS zr asS handB fr_true fr_false freL mem_freL baE frE beE puE fE fN lE lV sE takB colB make_ints zeroInts zeroInts_at mayV mayV_true wpList_append_row)
open Go.Proofs.YtkfgchhlekdpgaaGreatDoor.Row (Chg Rd Rd0 rowB rowB_none cell_of_block frozen_of_block other same cellsZ owns_lt owns_cap one_at owns_some)

section
variable {M base : Nat} {i : Ri} {s : St}
theorem head_le (h : Wf s) {k : Nat} (hk : k < 4) : (s.hv k).headD 0 ≤ 1048576 := by
  cases he : s.hv k with
  | nil => simp
  | cons a l =>
    have ho := (h.free k hk a (by rw [he]; simp)).1
    have := h.own_bd ho
    have := (words_wrap h).1
    show a ≤ _
    omega
theorem put_wf {a : Nat} (h : Wf s) (hk : cls s a < 4) (ho : own s a = true) (hb : bn s a = false) : Wf (puS s a) := h.put ho hb (head_le h hk)
theorem freL_parts (hnd : (freL s).Nodup) : (∀ k, k < 4 → (s.hv k).Nodup) ∧ ∀ j k a, j < 4 → k < 4 → a ∈ s.hv j → a ∈ s.hv k → j = k := by
  simp only [freL, intsN, List.nodup_append, List.mem_append, List.mem_map] at hnd
  obtain ⟨n0, ⟨n1, ⟨n2, n3, d23⟩, d1⟩, d0⟩ := hnd
  have inj : ∀ l' : List Nat, (l'.map fun n => ((n : Nat) : Int)).Nodup → l'.Nodup := fun l' h' => by
    unfold List.Nodup at h' ⊢
    rw [List.pairwise_map] at h'
    exact h'.imp (fun h e => h (by rw [e]))
  have m0 := inj _ n0
  have m1 := inj _ n1
  have m2 := inj _ n2
  have m3 := inj _ n3
  have e01 : ∀ x, x ∈ s.hv 0 → x ∈ s.hv 1 → False := fun x p q => d0 _ ⟨x, p, rfl⟩ _ (.inl ⟨x, q, rfl⟩) rfl
  have e02 : ∀ x, x ∈ s.hv 0 → x ∈ s.hv 2 → False := fun x p q => d0 _ ⟨x, p, rfl⟩ _ (.inr (.inl ⟨x, q, rfl⟩)) rfl
  have e03 : ∀ x, x ∈ s.hv 0 → x ∈ s.hv 3 → False := fun x p q => d0 _ ⟨x, p, rfl⟩ _ (.inr (.inr ⟨x, q, rfl⟩)) rfl
  have e12 : ∀ x, x ∈ s.hv 1 → x ∈ s.hv 2 → False := fun x p q => d1 _ ⟨x, p, rfl⟩ _ (.inl ⟨x, q, rfl⟩) rfl
  have e13 : ∀ x, x ∈ s.hv 1 → x ∈ s.hv 3 → False := fun x p q => d1 _ ⟨x, p, rfl⟩ _ (.inr ⟨x, q, rfl⟩) rfl
  have e23 : ∀ x, x ∈ s.hv 2 → x ∈ s.hv 3 → False := fun x p q => d23 _ ⟨x, p, rfl⟩ _ ⟨x, q, rfl⟩ rfl
  refine ⟨fun k hk => ?_, fun j k a hj hk hj2 hin => ?_⟩
  · have : k = 0 ∨ k = 1 ∨ k = 2 ∨ k = 3 := by omega
    rcases this with rfl | rfl | rfl | rfl <;> assumption
  · have c1 : j = 0 ∨ j = 1 ∨ j = 2 ∨ j = 3 := by omega
    have c2 : k = 0 ∨ k = 1 ∨ k = 2 ∨ k = 3 := by omega
    rcases c1 with rfl | rfl | rfl | rfl <;> rcases c2 with rfl | rfl | rfl | rfl <;>
      first
      | rfl
      | exact (e01 a hj2 hin).elim
      | exact (e01 a hin hj2).elim
      | exact (e02 a hj2 hin).elim
      | exact (e02 a hin hj2).elim
      | exact (e03 a hj2 hin).elim
      | exact (e03 a hin hj2).elim
      | exact (e12 a hj2 hin).elim
      | exact (e12 a hin hj2).elim
      | exact (e13 a hj2 hin).elim
      | exact (e13 a hin hj2).elim
      | exact (e23 a hj2 hin).elim
      | exact (e23 a hin hj2).elim
theorem freL_of (h1 : ∀ k, k < 4 → (s.hv k).Nodup) (h2 : ∀ j k a, j < 4 → k < 4 → a ∈ s.hv j → a ∈ s.hv k → j = k) : (freL s).Nodup := by
  have n := fun k hk => Hp.ints_nodup (h1 k hk)
  have hd : ∀ j k, j < 4 → k < 4 → j ≠ k → ∀ x ∈ intsN (s.hv j), x ∉ intsN (s.hv k) := fun j k hj hk hne x hx hy => by
    obtain ⟨a, ha, rfl⟩ := List.mem_map.1 hx
    obtain ⟨b, hb, e⟩ := List.mem_map.1 hy
    obtain rfl : b = a := by omega
    exact hne (h2 j k _ hj hk ha hb)
  unfold freL
  rw [List.nodup_append, List.nodup_append, List.nodup_append]
  refine ⟨n 0 (by omega), ⟨n 1 (by omega), ⟨n 2 (by omega), n 3 (by omega), ?_⟩, ?_⟩, ?_⟩
  · intro x hx y hy e; subst e; exact hd 2 3 (by omega) (by omega) (by omega) x hx hy
  · intro x hx y hy e; subst e
    rcases List.mem_append.1 hy with hy | hy
    · exact hd 1 2 (by omega) (by omega) (by omega) x hx hy
    · exact hd 1 3 (by omega) (by omega) (by omega) x hx hy
  · intro x hx y hy e; subst e
    rcases List.mem_append.1 hy with hy | hy
    · exact hd 0 1 (by omega) (by omega) (by omega) x hx hy
    · rcases List.mem_append.1 hy with hy | hy
      · exact hd 0 2 (by omega) (by omega) (by omega) x hx hy
      · exact hd 0 3 (by omega) (by omega) (by omega) x hx hy
/-- A slot put: what is had besides. -/
theorem Pu.put (hp : Pu s) {a : Nat} (hf : fr s a = false) (hl : (s.hv (cls s a)).length < 1000000) : Pu (puS s a) := by
  obtain ⟨p1, p2⟩ := freL_parts hp.nd
  rw [fr_false] at hf
  have hws : (puS s a).ws.length = s.ws.length := List.length_set ..
  have key : ∀ k, (puS s a).hv k = if k = cls s a then a :: s.hv k else s.hv k := fun k => by
    show upd s.hv (cls s a) (a :: s.hv (cls s a)) k = _
    by_cases e : k = cls s a
    · subst e; rw [upd_same, if_pos rfl]
    · rw [upd_other _ _ e, if_neg e]
  refine ⟨freL_of (fun k hk => ?_) (fun j k x hj hk h1 h2 => ?_), by rw [hws]; exact hp.sb, by rw [hws]; exact hp.so, fun k hk => ?_⟩
  · rw [key]
    split
    · exact List.nodup_cons.2 ⟨hf k hk, p1 k hk⟩
    · exact p1 k hk
  · rw [key] at h1 h2
    split at h1 <;> split at h2
    · next e1 e2 => rw [e1, e2]
    · rcases List.mem_cons.1 h1 with rfl | h1
      · exact absurd h2 (hf k hk)
      · exact p2 j k x hj hk h1 h2
    · rcases List.mem_cons.1 h2 with rfl | h2
      · exact absurd h1 (hf j hj)
      · exact p2 j k x hj hk h1 h2
    · exact p2 j k x hj hk h1 h2
  · rw [key]
    split
    · next e => subst e; rw [List.length_cons]; omega
    · exact hp.len k hk
theorem Pu.take (hp : Pu s) {k a : Nat} {l : List Nat} (he : s.hv k = a :: l) : Pu { s with hv := upd s.hv k l } := by
  obtain ⟨p1, p2⟩ := freL_parts hp.nd
  have key : ∀ j, (upd s.hv k l j).Sublist (s.hv j) := fun j => by
    by_cases e : j = k
    · subst e; rw [upd_same, he]; exact List.sublist_cons_self ..
    · rw [upd_other _ _ e]; exact List.Sublist.refl _
  exact ⟨freL_of (fun j hj => (p1 j hj).sublist (key j)) (fun j j' x hj hk h1 h2 => p2 j j' x hj hk ((key j).subset h1) ((key j').subset h2)), hp.sb, hp.so, fun j hj => Nat.le_trans (key j).length_le (hp.len j hj)⟩
theorem Pu.words (hp : Pu s) {ws : List Nat} (h : ws.length = s.ws.length) : Pu { s with ws := ws } := ⟨hp.nd, by show SetW (ws.length + 1) s.bs; rw [h]; exact hp.sb, by show SetW (ws.length + 1) s.os; rw [h]; exact hp.so, hp.len⟩
theorem Pu.assign (hp : Pu s) (k : Nat) : Pu (asS s k) := ⟨hp.nd, hp.sb, hp.so, hp.len⟩

/-- Put of any address. -/
theorem puV_eq (hw : Wf s) (a : Int) : puV s a = puE s a := by
  unfold puV puE isV stI
  cases ho : own s a with
  | true => cases hb : bnI s a <;> cases hf : frI s a <;> rfl
  | false =>
    cases hb : bnI s a with
    | true => rw [hw.bnI_own hb] at ho; cases ho
    | false => rfl
theorem put_any (a : Int) (w : World) (h : Rp w M base i s) (hp : Pu s) : Calls Tryz.prog 171 #[.pointer (some ⟨M, 0, none⟩), .int .i64 a] w fun e w' => e = .returned (.int .i64 (puE s a)) ∧ RTo w w' M base i (if puE s a = 0 then puS s a.toNat else s) := by
  rw [← puV_eq h.wf]
  by_cases hv : isV s a = 0
  · have e : puV s a = 0 := by unfold puV; rw [hv]; rfl
    rw [e, if_pos rfl]
    obtain ⟨ho, hb, hf⟩ := isV_zero hv
    obtain ⟨n, rfl, n1, n2⟩ := own_nat h.wf ho
    rw [Int.toNat_natCast]
    exact put_good n w h hp hv (put_wf h.wf (h.k4 _) ho (by rw [bnI_nat] at hb; exact hb))
  · have e : puV s a ≠ 0 := by
      unfold puV
      split
      · decide
      · decide
    rw [if_neg e]
    refine (put_bad a w h hv).mono ?_
    rintro e w' ⟨rfl, rfl⟩
    exact ⟨rfl, RTo.of_below h (Below.refl _ _)⟩
theorem release_all (a : Int) (w : World) (h : Rp w M base i s) (hp : Pu s) : Calls Tryz.prog 125 #[.pointer (some ⟨M, 0, none⟩), .int .i64 a] w fun e w' => e = .returned (.int .i64 (frE s a)) ∧ RTo w w' M base i (if frE s a = 0 then frS s a.toNat else s) :=
  release_any a w h hp (fun e => by
    have hb : bnI s a = true := by
      cases hb : bnI s a with
      | true => rfl
      | false => unfold frE at e; rw [hb] at e; cases e
    have ho := h.wf.bnI_own hb
    obtain ⟨n, rfl, n1, n2⟩ := own_nat h.wf ho
    rw [Int.toNat_natCast]
    exact put_wf (s := unS s n) (un_wf h.wf hp n2) (h.k4 _) ho (un_bn hp n2))

/-- Take of any class. -/
def tkE (s : St) (k : Int) : Int := if isB k = true then (if s.hv k.toNat = [] then 12 else 0) else 1
def tkA (s : St) (k : Int) : Nat := if tkE s k = 0 then (s.hv k.toNat).headD 0 else 0
def tkS (s : St) (k : Int) : St := { s with hv := upd s.hv k.toNat (s.hv k.toNat).tail }
theorem take_any (k : Int) (w : World) (h : Rp w M base i s) (hp : Pu s) : Calls Tryz.prog 169 #[.pointer (some ⟨M, 0, none⟩), .int .i64 k] w fun e w' => e = .returned (.tuple #[.int .i64 (tkA s k), .int .i64 (tkE s k)]) ∧ RTo w w' M base i (if tkE s k = 0 then tkS s k else s) := by
  cases hk : isB k with
  | false =>
    have e1 : tkE s k = 1 := by unfold tkE; rw [hk]; rfl
    rw [tkA, e1, if_neg (by decide), if_neg (by decide)]
    refine (take_bad k w hk).mono ?_
    rintro e w' ⟨rfl, rfl⟩
    exact ⟨rfl, RTo.of_below h (Below.refl _ _)⟩
  | true =>
    obtain ⟨k0, k4⟩ := isB_true.1 hk
    obtain ⟨n, rfl⟩ : ∃ n : Nat, k = n := ⟨k.toNat, by omega⟩
    cases he : s.hv n with
    | nil =>
      have e1 : tkE s n = 12 := by unfold tkE; rw [hk, Int.toNat_natCast, he]; rfl
      rw [tkA, e1, if_neg (by decide), if_neg (by decide)]
      refine (take_none n w h (by omega) he).mono ?_
      rintro e w' ⟨rfl, rfl⟩
      exact ⟨rfl, RTo.of_below h (Below.refl _ _)⟩
    | cons a l =>
      have e1 : tkE s n = 0 := by unfold tkE; rw [hk, Int.toNat_natCast, he]; rfl
      have e2 : tkA s n = a := by rw [tkA, e1, if_pos rfl, Int.toNat_natCast, he]; rfl
      have e3 : tkS s n = { s with hv := upd s.hv n l } := by rw [tkS, Int.toNat_natCast, he]; rfl
      rw [e1, e2, e3, if_pos rfl]
      exact take_good n a l w h hp (by omega) he
end
/-- The same of the heap. -/
theorem htake_any {H : Nat} {d : Hp.Ids} {s : St} {m : Nat} (k : Int) (w : World) (h : Hp.Is w H d s m) : Calls Tryz.prog 158 #[.pointer (some ⟨H, 0, none⟩), .int .i64 k] w fun e w' => e = .returned (.tuple #[.int .i64 (tkA s k), .int .i64 (tkE s k)]) ∧ Hp.To w w' H d (if tkE s k = 0 then tkS s k else s) m := by
  cases hk : isB k with
  | false =>
    have e1 : tkE s k = 1 := by unfold tkE; rw [hk]; rfl
    rw [tkA, e1, if_neg (by decide), if_neg (by decide)]
    exact Hp.take_bad k w h hk
  | true =>
    obtain ⟨k0, k4⟩ := isB_true.1 hk
    obtain ⟨n, rfl⟩ : ∃ n : Nat, k = n := ⟨k.toNat, by omega⟩
    cases he : s.hv n with
    | nil =>
      have e1 : tkE s n = 12 := by unfold tkE; rw [hk, Int.toNat_natCast, he]; rfl
      rw [tkA, e1, if_neg (by decide), if_neg (by decide)]
      exact Hp.take_none n w h (by omega) he
    | cons a l =>
      have e1 : tkE s n = 0 := by unfold tkE; rw [hk, Int.toNat_natCast, he]; rfl
      have e2 : tkA s n = a := by rw [tkA, e1, if_pos rfl, Int.toNat_natCast, he]; rfl
      have e3 : tkS s n = { s with hv := upd s.hv n l } := by rw [tkS, Int.toNat_natCast, he]; rfl
      rw [e1, e2, e3, if_pos rfl]
      exact Hp.take_good n a l w h (by omega) he
end Go.Proofs.YtkfgchhlekdpgaaGreatDoor.Rf

namespace Go.Proofs.YtkfgchhlekdpgaaGreatDoor.Rf
open Go.RowKit Go.Sort
open Blk (Cfg allP kAt valA adr perN perN_eq perN_pos perN_le cellsF seg seg_length allP_succ)
open Class (isB isB_true isB_false sizI sizI_bd roomI roomI_yes quiet_left refis_any refsize_any refper_any)
open Lis (intsN upd upd_same upd_other)
open Hp (St Wf own cls wdA bn fr bnI frI bnI_nat frI_nat mem_allP allP_sorted nSl stS beS baS puS unS frS zr asS handB fr_true fr_false freL mem_freL baE frE beE puE fE fN lE lV sE takB colB make_ints zeroInts zeroInts_at mayV mayV_true wpList_append_row owns_below)
open Go.Proofs.YtkfgchhlekdpgaaGreatDoor.Row (Chg Rd Rd0 rowB rowB_none cell_of_block frozen_of_block other same cellsZ owns_lt owns_cap one_at owns_some owns_chg infoInt info_parts push_row)
open Go.Proofs.YtkfgchhlekdpgaaGreatDoor.Addr (NumP ofI ofB ofI_yes ofB_true)

/-- append of one number, as a statement. -/
theorem wpList_append_one {ops : Array Oper} {rest : List Oper} {o : Oper} {a : Act} {w : World} {Q : Exit → Act → World → Prop} (hgd : o.guard = none) (s x : Operand)
    (ho : o.op = .call { callee := .builtin .append, args := #[s, x], argTypes := #[40, 40] })
    (Y : World) (base : Nat) (pl : Option Addr) (cap : Nat) (l : List Int) (y : Int) (hw : Y.alloc (.cells #[.int .i64 y] 3) = w) (he : a.eval s = .slice pl l.length cap) (hown : Y.ownsRow base 3 1 (.slice pl l.length cap) l.length (cellsZ l))
    (hx : a.eval x = .slice (some ⟨Y.heap.size, 0, none⟩) 1 1) (hl : l.length ≤ 1000000) (hbase : base ≤ Y.heap.size)
    (h : ∀ p' c' w', w'.ownsRow base 3 1 (.slice p' (l ++ [y]).length c') (l ++ [y]).length (cellsZ (l ++ [y])) → Chg (rowB pl) Y w' → (∀ k, rowB p' k → rowB pl k ∨ Y.heap.size ≤ k) → wpList Tryz.prog ops Q rest (a.put o.dst (.slice p' (l.length + 1) c')) w') :
    wpList Tryz.prog ops Q (o :: rest) a w := by
  subst hw
  refine wpList_plain hgd fun K hK => ?_
  obtain ⟨i, hi, hz, hs, hb⟩ := info_parts infoInt
  have hbl : Below Y.heap.size Y (Y.alloc (.cells #[.int .i64 y] 3)) := (Below.refl _ _).alloc (Nat.le_refl _) _
  have hown2 := owns_below hown hbl (fun _ hg => (owns_lt hown hg).2)
  obtain ⟨v', w', hr, h2, h3, _, h5⟩ := run_append_own_at (P := Tryz.prog) (Y.alloc (.cells #[.int .i64 y] 3)) base 40 o.type 3 i (.int .i64 0) 1 8 Tryz.underlying40 hi hz hs hb rfl (by decide) _ _ _ hown2 ⟨Y.heap.size, 0, none⟩ 1 1 [.int .i64 y] rfl (one_at rfl) (by simp [Value.oneCell']) (by unfold maxLen; omega) (by omega) (by simp; omega)
  obtain ⟨p', c', rfl, hC, hR⟩ := push_row hbl h2 h3 (by simpa using h5)
  unfold Oper.wp execOp
  simp only [ho, resolve, invoke, builtin, Sem.run_bind, Sem.run_pure, Result.andThen_ok, List.map_toArray, List.map_cons, List.map_nil, he, hx, hr]
  refine hK _ _ (h p' c' w' ?_ hC (fun k hk => by have := hR k hk; simpa using this))
  rw [Row.cellsZ_snoc, List.length_append]
  exact h2
theorem infoSlot : (Tryz.prog.info? 228).map (fun i => (i.zero, i.size, i.bytes)) = some (some (.agg #[.int .i64 0, .int .i64 0, .int .i64 0, .int .i64 0, .bool false, .slice none 0 0]), 6, 64) := by kernel_rfl
theorem six_at {w : World} {a : Nat} {x : Sl} {t : TypeId} (h : a = w.heap.size) : ∀ (j : Nat) (u : Value), (slC x)[j]? = some u → (w.alloc (.cells (slC x).toArray t)).cell? ((⟨a, 0, none⟩ : Addr).add j) = some u := by
  subst h
  intro j u hu
  rw [Addr.add_lit, Nat.zero_add]
  unfold World.cell?
  simp only [World.alloc]
  simp [hu]
/-- append of one slot, as a statement. -/
theorem wpList_append_slot {ops : Array Oper} {rest : List Oper} {o : Oper} {a : Act} {w : World} {Q : Exit → Act → World → Prop} (hgd : o.guard = none) (s x : Operand)
    (ho : o.op = .call { callee := .builtin .append, args := #[s, x], argTypes := #[222, 222] })
    (Y : World) (base : Nat) (pl : Option Addr) (cap : Nat) (l : List Sl) (y : Sl) (hw : Y.alloc (.cells (slC y).toArray 228) = w) (he : a.eval s = .slice pl l.length cap) (hown : Y.ownsRow base 228 6 (.slice pl l.length cap) l.length (cellsS l))
    (hx : a.eval x = .slice (some ⟨Y.heap.size, 0, none⟩) 1 1) (hl : l.length ≤ 1000000) (hbase : base ≤ Y.heap.size)
    (h : ∀ v' w', w'.ownsRow base 228 6 v' (l.length + 1) (cellsS l ++ slC y) → w.grownBy w' (Value.slice pl l.length cap).ownBlock → (v'.ownBlock = (Value.slice pl l.length cap).ownBlock ∨ v'.ownBlock = some w.heap.size) → wpList Tryz.prog ops Q rest (a.put o.dst v') w') :
    wpList Tryz.prog ops Q (o :: rest) a w := by
  subst hw
  refine wpList_plain hgd fun K hK => ?_
  obtain ⟨i, hi, hz, hs, hb⟩ := info_parts infoSlot
  have hbl : Below Y.heap.size Y (Y.alloc (.cells (slC y).toArray 228)) := (Below.refl _ _).alloc (Nat.le_refl _) _
  have hown2 := owns_below hown hbl (fun _ hg => (owns_lt hown hg).2)
  obtain ⟨v', w', hr, h2, h3, _, h5⟩ := run_append_own_at (P := Tryz.prog) (Y.alloc (.cells (slC y).toArray 228)) base 222 o.type 228 i _ 6 64 Tryz.underlying222 hi hz hs hb rfl (by decide) _ _ _ hown2 ⟨Y.heap.size, 0, none⟩ 1 1 (slC y) rfl (six_at rfl) (by simp [slC, Value.oneCell']) (by unfold maxLen; omega) (by omega) (by simp; omega)
  unfold Oper.wp execOp
  simp only [ho, resolve, invoke, builtin, Sem.run_bind, Sem.run_pure, Result.andThen_ok, List.map_toArray, List.map_cons, List.map_nil, he, hx, hr]
  exact hK _ _ (h v' w' h2 h3 h5)

section
variable {M base : Nat} {i : Ri} {s : St}
theorem assign_bad (k : Int) (w : World) (hk : isB k = false) : Calls Tryz.prog 170 #[.pointer (some ⟨M, 0, none⟩), .int .i64 k] w fun e w' => e = .returned (.tuple #[.slice none 0 0, .int .i64 1]) ∧ w = w' := by
  go_enter Tryz.func170, Tryz.ntmps170
  go_wp2_with (go_at_call 147; refine (refis_any k _).mono ?_; rintro e w' ⟨rfl, rfl⟩; rw [hk])
  go_ret2
  exact ⟨rfl, rfl⟩
theorem assign_full (k : Int) (w : World) (h : Rp w M base i s) (hk : isB k = true) (hf : (s.ks.length : Int) = s.c.b) : Calls Tryz.prog 170 #[.pointer (some ⟨M, 0, none⟩), .int .i64 k] w fun e w' => e = .returned (.tuple #[.slice none 0 0, .int .i64 10]) ∧ RTo w w' M base i s := by
  have H := Lib.hid h
  have cU := h.mem.cU
  have cB := h.mem.b0
  rw [← hf] at cB
  clear h hf
  generalize s.ks.length = u at *
  have huu : (((u : Nat) : Int) == (u : Int)) = true := by simp
  go_enter Tryz.func170, Tryz.ntmps170
  go_wp2_with (go_at_call 147; refine (refis_any k _).mono ?_; rintro e w' ⟨rfl, rfl⟩; rw [hk])
  go_quiet (fail)
  go_wp2
  go_ret2
  exact ⟨rfl, RTo.of_below H.out (below_drewN (Below.refl _ _) _)⟩

/-- A slot that was just assigned. -/
def nwSl (a k : Int) : Sl := ⟨a, k, 0, 0, false, [], none, 0⟩
/-- The first so many slots of a block. -/
def ouL (s : St) (k j : Nat) : List Int := (List.range j).map (adr s.c k s.ks.length)
theorem ouL_len (s : St) (k j : Nat) : (ouL s k j).length = j := by simp [ouL]
theorem ouL_succ (s : St) (k j : Nat) : ouL s k (j + 1) = ouL s k j ++ [adr s.c k s.ks.length j] := by simp [ouL, List.range_succ]
theorem cellsZ_ouL (s : St) (k j : Nat) : cellsZ (ouL s k j) = cellsF (adr s.c k s.ks.length) j := by simp [ouL, cellsZ, cellsF]
def nwL (s : St) (k j : Nat) : List Sl := (ouL s k j).map fun a => nwSl a (k : Nat)
theorem nwL_succ (s : St) (k j : Nat) : nwL s k (j + 1) = nwL s k j ++ [nwSl (adr s.c k s.ks.length j) (k : Nat)] := by simp [nwL, ouL_succ]
theorem nwL_len (s : St) (k j : Nat) : (nwL s k j).length = j := by simp [nwL, ouL_len]
theorem ofI_adr (h : Wf s) {k j : Nat} (hk : k < 4) (hf : (s.ks.length : Int) < s.c.b) (hj : j < perN s.c k) : ofI (rightB s.c.b s.c.wd s.c.m s.c.r s.c.ce s.c.lg s.c.st) s.c.b s.c.wd (k : Nat) (s.ks.length : Nat) (j : Nat) 0 = adr s.c k s.ks.length j := by
  have hB := isB_lt hk
  have hs := sizI_bd hB
  have hp := perN_eq s.c k
  rw [ofI_yes (ofB_true.2 ⟨?_, by omega, by omega⟩)]
  · unfold adr; omega
  · unfold Addr.sltB
    rw [h.right, hp]
    simp [Addr.blkB]
    omega
/-- The document's heap while a block's slots are laid. -/
structure AsL (w wr : World) (M base : Nat) (i0 i : Ri) (s : St) (k j : Nat) (pl : Option Addr) (cl : Nat) : Prop where
  mem : RfIs wr M base i s.c s.ks.length (fun k => intsN (s.hv k)) s.ce
  sl : i.sl = i0.sl ++ nwL s k j
  out : wr.ownsRow w.heap.size 3 1 (.slice pl (ouL s k j).length cl) (ouL s k j).length (cellsZ (ouL s k j))
  ap : ∀ g, rowB pl g → ¬ All M i g
  chg : Chg (All M i0) w wr
  inn : ∀ q, All M i q → All M i0 q ∨ w.heap.size ≤ q
theorem AsL.later {w wr w' : World} {i0 : Ri} {k j cl : Nat} {pl : Option Addr} (h : AsL w wr M base i0 i s k j pl cl) (hb : Below wr.heap.size wr w') : AsL w w' M base i0 i s k j pl cl :=
  ⟨h.mem.later hb, h.sl, owns_below h.out hb (fun _ hg => (owns_lt h.out hg).2), h.ap, h.chg.trans (Chg.of_below (S := All M i0) hb) (fun _ e => .inl e), h.inn⟩
/-- The same, an address told already whose slot isn't laid. -/
structure HfL (w wr : World) (M base : Nat) (i0 i : Ri) (s : St) (k j : Nat) (pl : Option Addr) (cl : Nat) : Prop where
  mem : RfIs wr M base i s.c s.ks.length (fun k => intsN (s.hv k)) s.ce
  sl : i.sl = i0.sl ++ nwL s k j
  out : wr.ownsRow w.heap.size 3 1 (.slice pl (ouL s k (j + 1)).length cl) (ouL s k (j + 1)).length (cellsZ (ouL s k (j + 1)))
  ap : ∀ g, rowB pl g → ¬ All M i g
  chg : Chg (All M i0) w wr
  inn : ∀ q, All M i q → All M i0 q ∨ w.heap.size ≤ q
theorem AsL.push {w wr w4 : World} {i0 : Ri} {k j cl c' : Nat} {pl p' : Option Addr} {a : Int} (h : AsL w wr M base i0 i s k j pl cl) (ha : adr s.c k s.ks.length j = a)
    (ho : w4.ownsRow w.heap.size 3 1 (.slice p' (ouL s k j ++ [a]).length c') (ouL s k j ++ [a]).length (cellsZ (ouL s k j ++ [a]))) (hC : Chg (rowB pl) wr w4) (hR : ∀ q, rowB p' q → rowB pl q ∨ wr.heap.size ≤ q) : HfL w w4 M base i0 i s k j p' c' := by
  subst ha
  rw [← ouL_succ] at ho
  exact ⟨h.mem.chg hC (fun q e e2 => h.ap q e2 e), h.sl, ho, fun g hg e => (hR g hg).elim (fun x => h.ap g x e) (fun x => by have := h.mem.ltA e; omega), h.chg.trans hC (fun q e => .inr (owns_lt h.out e).1), h.inn⟩
theorem HfL.slot {w w4 w5 : World} {i0 : Ri} {k j c : Nat} {p : Option Addr} {v' : Value} (h : HfL w w4 M base i0 i s k j p c) (hb : base ≤ w.heap.size)
    (hown : w5.ownsRow base 228 6 v' (i.sl.length + 1) (cellsS i.sl ++ slC (nwSl (adr s.c k s.ks.length j) (k : Nat)))) (hg : (w4.alloc (.cells (slC (nwSl (adr s.c k s.ks.length j) (k : Nat))).toArray 228)).grownBy w5 (Value.slice i.ps i.sl.length i.cap).ownBlock)
    (hat : v'.ownBlock = (Value.slice i.ps i.sl.length i.cap).ownBlock ∨ v'.ownBlock = some (w4.alloc (.cells (slC (nwSl (adr s.c k s.ks.length j) (k : Nat))).toArray 228)).heap.size) :
    ∃ p' cap' i', v' = .slice p' (i.sl.length + 1) cap' ∧ AsL w (w5.setCell ⟨M, 8, none⟩ v') M base i0 i' s k (j + 1) p c ∧ w5.cell? ⟨M, 8, none⟩ = some (.slice i.ps i.sl.length i.cap) ∧ w5.frozen? ⟨M, 8, none⟩ = false := by
  have hs := h.chg.size
  obtain ⟨p', cap', e1, g1, g2, g3, g4, g5⟩ := h.mem.grow (x := nwSl (adr s.c k s.ks.length j) (k : Nat)) ((Below.refl _ w4).alloc (Nat.le_refl _) _) (by omega) hown hg hat rfl rfl
  refine ⟨p', cap', _, e1, ⟨g1, ?_, owns_chg h.out g2 (fun g hg e => h.ap g hg (.inl e)), fun g hg e => (g3 g e).elim (h.ap g hg) (fun x => by have := (owns_lt h.out hg).2; omega), h.chg.trans g2 (fun q e => h.inn q (.inl e)), fun q e => (g3 q e).elim (h.inn q) (fun x => .inr (by omega))⟩, g4, g5⟩
  show i.sl ++ [_] = _
  rw [h.sl, nwL_succ, List.append_assoc]
theorem kAt_le (h : ∀ j, kAt s.ks j < 4) {k : Nat} (hk : k < 4) (j : Nat) : kAt (asS s k).ks j < 4 := by
  show kAt (s.ks ++ [k]) j < 4
  rcases Nat.lt_trichotomy j s.ks.length with hj | hj | hj
  · rw [Hp.kAt_app _ _ hj]; exact h j
  · subst hj; rw [Hp.kAt_last]; exact hk
  · unfold kAt
    rw [List.getD_eq_getElem?_getD, List.getElem?_eq_none (by simp; omega)]
    decide
theorem allP_app (c : Cfg) (ks l : List Nat) : ∀ b, b ≤ ks.length → allP c (ks ++ l) b = allP c ks b
  | 0, _ => by simp [allP]
  | b + 1, hb => by
    rw [allP_succ, allP_succ, allP_app c ks l b (by omega)]
    unfold seg
    rw [Hp.kAt_app _ _ (by omega)]
theorem AsL.fin {w wr : World} {i0 i1 : Ri} {k cl : Nat} {pl : Option Addr} (h : AsL w wr M base i0 i1 s k (perN s.c k) pl cl) (h0 : Rp w M base i0 s) (hk : k < 4) (hf : (s.ks.length : Int) < s.c.b) :
    Rp (wr.setCell ⟨M, 7, none⟩ (.int .i64 (s.ks.length + 1 : Nat))) M base i1 (asS s k) ∧ Chg (All M i0) w (wr.setCell ⟨M, 7, none⟩ (.int .i64 (s.ks.length + 1 : Nat))) ∧
      (wr.setCell ⟨M, 7, none⟩ (.int .i64 (s.ks.length + 1 : Nat))).ownsRow w.heap.size 3 1 (.slice pl (perN s.c k) cl) (perN s.c k) (cellsF (adr s.c k s.ks.length) (perN s.c k)) := by
  have hw := h0.wf
  obtain ⟨m1, m2⟩ := h.mem.setUsed (s.ks.length + 1)
  have hl : (s.ks ++ [k]).length = s.ks.length + 1 := by simp
  have hkl : kAt (s.ks ++ [k]) s.ks.length = k := Hp.kAt_last
  have hsg : seg s.c (s.ks ++ [k]) s.ks.length = ouL s k (perN s.c k) := by unfold seg ouL; rw [hkl]
  have hmap : ∀ j, (nwL s k j).map (fun x => x.a) = ouL s k j := fun j => by simp [nwL, nwSl, List.map_map, Function.comp_def]
  refine ⟨⟨?_, ?_, fun x hx => ?_, hw.assign hk hf, fun j => kAt_le h0.k4 hk j⟩, h.chg.trans m2 (fun q e => h.inn q (.inl e)), ?_⟩
  · show RfIs _ M base i1 s.c (s.ks ++ [k]).length _ s.ce
    rw [hl]
    exact m1
  · show i1.sl.map _ = allP s.c (s.ks ++ [k]) (s.ks ++ [k]).length
    rw [hl, allP_succ, allP_app _ _ _ _ (Nat.le_refl _), hsg, h.sl, List.map_append, hmap, h0.adr]
  · rw [h.sl] at hx
    rcases List.mem_append.1 hx with hx | hx
    · have ho := h0.own_of hx
      have hb := (Blk.ownB_true.1 ho).2.1
      refine (h0.ok x hx).frame ?_ rfl rfl rfl rfl (fun _ => rfl)
      show kAt (s.ks ++ [k]) _ = kAt s.ks _
      exact Hp.kAt_app _ _ hb
    · obtain ⟨a, ha, rfl⟩ := List.mem_map.1 hx
      obtain ⟨t, ht, rfl⟩ := List.mem_map.1 ha
      rw [List.mem_range] at ht
      obtain ⟨a1, a2, a3⟩ := Hp.ad_hand hw hk hf ht
      rw [Hp.ad_eq hw]
      obtain ⟨b1, b2, b3⟩ := isV_zero (hand_isV.1 a1)
      have hz : Hdr.isOb (wdA (asS s k) (Hp.ad s k t)) = false := by
        have hge : (s.ks.length : Int) * s.c.wd + 1 ≤ (Hp.ad s k t : Int) := by
          rw [← Hp.ad_eq hw]
          unfold adr
          have := sizI_bd (isB_lt hk)
          have : 0 ≤ (t : Int) * sizI (k : Int) := Int.mul_nonneg (Int.natCast_nonneg _) (by omega)
          omega
        have := hw.fresh (Hp.ad s k t - 1) (by omega)
        unfold wdA
        rw [show (asS s k).ws = s.ws from rfl, this]
        exact Hdr.isOb_small (by decide)
      refine ⟨?_, ?_, fun e => ?_, ?_, fun e => (by cases e), fun e => (by cases e)⟩
      · show ((k : Nat) : Int) = _
        rw [show (nwSl (Hp.ad s k t : Int) (k : Nat)).a = (Hp.ad s k t : Int) from rfl, a2]
      · show (0 : Int) = stI (asS s k) (Hp.ad s k t : Int)
        unfold stI
        rw [b2, b3]
        rfl
      · rw [show (nwSl (Hp.ad s k t : Int) (k : Nat)).a = (Hp.ad s k t : Int) from rfl, b2] at e
        cases e
      · show false = _
        rw [show (nwSl (Hp.ad s k t : Int) (k : Nat)).a = (Hp.ad s k t : Int) from rfl, Int.toNat_natCast, hz]
  · have := owns_chg h.out m2 (fun g hg e => h.ap g hg (.inl e))
    rw [cellsZ_ouL, ouL_len] at this
    exact this
theorem cfg_load {w : World} {i : Ri} {c : Cfg} {u : Nat} {fl : Nat → List Int} {ce : List Int} (h : RfIs w M base i c u fl ce) : w.cell? ⟨M, 0, none⟩ = some (.int .i64 c.b) ∧ w.cell? ⟨M, 1, none⟩ = some (.int .i64 c.wd) ∧ w.cell? ⟨M, 2, none⟩ = some (.int .i64 c.m) ∧ w.cell? ⟨M, 3, none⟩ = some (.int .i64 c.r) ∧ w.cell? ⟨M, 4, none⟩ = some (.int .i64 c.ce) ∧ w.cell? ⟨M, 5, none⟩ = some (.int .i64 c.lg) ∧ w.cell? ⟨M, 6, none⟩ = some (.int .i64 c.st) :=
  ⟨h.b0, h.b1, h.b2, h.b3, h.b4, h.b5, h.b6⟩
set_option maxRecDepth 100000 in
set_option maxHeartbeats 4000000 in
theorem assign_good (k : Nat) (w : World) (h : Rp w M base i s) (hk : k < 4) (hf : (s.ks.length : Int) < s.c.b) :
    Calls Tryz.prog 170 #[.pointer (some ⟨M, 0, none⟩), .int .i64 k] w fun e w' => ∃ p cap i', e = .returned (.tuple #[.slice p (perN s.c k) cap, .int .i64 0]) ∧ w'.ownsRow w.heap.size 3 1 (.slice p (perN s.c k) cap) (perN s.c k) (cellsF (adr s.c k s.ks.length) (perN s.c k)) ∧
      Rp w' M base i' (asS s k) ∧ Chg (All M i) w w' ∧ (∀ q, All M i' q → All M i q ∨ w.heap.size ≤ q) ∧ ∀ g, rowB p g → ¬ All M i' g := by
  have hB := isB_lt hk
  have H := Lib.hid h
  have HK := Lib.hid hk
  have cU := h.mem.cU
  have cB := h.mem.b0
  have hne : (((s.ks.length : Nat) : Int) == s.c.b) = false := by
    have : ((s.ks.length : Nat) : Int) ≠ s.c.b := by omega
    simpa using this
  have HF := Lib.hid hf
  have hN := perN_eq s.c k
  have hN128 := perN_le s.c k
  have k0 : (0 : Int) ≤ (k : Int) := Int.natCast_nonneg _
  clear h hf
  generalize hNN : perN s.c k = N at *
  have HNN := Lib.hid hNN
  clear hNN
  go_enter Tryz.func170, Tryz.ntmps170
  go_wp2_with (go_at_call 147; refine (refis_any k _).mono ?_; rintro e w' ⟨rfl, rfl⟩; rw [hB])
  go_quiet (fail)
  go_wp2
  go_loopw [6, 7] (fun ov x wr => ∃ (j : Nat) (i1 : Ri) (pl : Option Addr) (cl : Nat), j ≤ N ∧ x = .int .i64 (j : Int) ∧ ov = .slice pl (ouL s k j).length cl ∧ AsL w wr M base i i1 s k j pl cl) (fun _ x _ => N - (intOf x).toNat)
  case atStart => exact ⟨0, i, none, 0, Nat.zero_le _, rfl, rfl, H.out.mem.drewN _, by simp [nwL, ouL], ⟨by simp [ouL, cellsZ], .inl ⟨rfl, rfl⟩⟩, fun g e => absurd e (rowB_none g), (Chg.refl _ _).drewN _, fun q e => .inl e⟩
  case round =>
    obtain ⟨j, i1, pl, cl, hj, rfl, rfl, hA⟩ := hrel
    have HA := Lib.hid hA
    obtain ⟨c0, c1, c2, c3, c4, c5, c6⟩ := cfg_load hA.mem
    have c7 := hA.mem.cU
    have j0 : (0 : Int) ≤ (j : Int) := Int.natCast_nonneg _
    by_cases hlt : j < N
    · have j1 : (j : Int) < (N : Int) := by omega
      clear hA
      go_wp2_with (go_at_call 205; refine (refper_any _ _ _).mono ?_; rintro e w' ⟨rfl, rfl⟩; rw [hN])
      have HOF : Hid (∀ W, Calls Tryz.prog 206 #[.agg #[.int .i64 s.c.b, .int .i64 s.c.wd, .int .i64 s.c.m, .int .i64 s.c.r, .int .i64 s.c.ce, .int .i64 s.c.lg, .int .i64 s.c.st], .int .i64 k, .agg #[.int .i64 s.ks.length, .int .i64 j, .int .i64 0]] W fun e w' => e = .returned (.int .i64 (adr s.c k s.ks.length j)) ∧ Below W.heap.size W w') := Lib.hid fun W => by
        have := Addr.refof_any s.c.b s.c.wd s.c.m s.c.r s.c.ce s.c.lg s.c.st k s.ks.length j 0 W
        rw [ofI_adr H.out.wf HK.out HF.out (by rw [HNN.out]; exact hlt)] at this
        exact this
      have d0 := cell_regrown c0
      have d1 := cell_regrown c1
      have d2 := cell_regrown c2
      have d3 := cell_regrown c3
      have d4 := cell_regrown c4
      have d5 := cell_regrown c5
      have d6 := cell_regrown c6
      have d7 := cell_regrown c7
      refine wp_region_quiet_below (by kernel_rfl) (by kernel_rfl) ?_
      repeat (go_big_quiet_step ((go_at_call 206; exact Calls.regrown_of (HOF.out _))))
      refine wpQuiet_nil ?_
      intro W1 hw'
      have hb1 := Addr.below_of_regrown hw'
      have HA1 := Lib.hid (HA.out.later hb1)
      clear hw' hb1 d0 d1 d2 d3 d4 d5 d6 d7 c0 c1 c2 c3 c4 c5 c6 c7
      have HLJ : Hid ((ouL s k j).length = j) := Lib.hid (ouL_len s k j)
      have HOB : Hid (w.heap.size ≤ W1.heap.size) := Lib.hid HA1.out.chg.size
      have HOB2 : Hid (base ≤ w.heap.size) := Lib.hid (by have := H.out.mem.bs M (.inl rfl); have := H.out.mem.ltM; omega)
      have HSL : Hid (i1.sl.length ≤ 1000000) := Lib.hid (by
        rw [HA1.out.sl, List.length_append, nwL_len]
        have e : i.sl.length = (allP s.c s.ks s.ks.length).length := by rw [← H.out.adr, List.length_map]
        have := Blk.allP_len s.c s.ks s.ks.length
        have := (Blk.slots_bd H.out.wf.right).b1
        have := H.out.wf.full
        omega)
      have HP1 : Hid (∀ p' c' w4, w4.ownsRow w.heap.size 3 1 (.slice p' (ouL s k j ++ [adr s.c k s.ks.length j]).length c') (ouL s k j ++ [adr s.c k s.ks.length j]).length (cellsZ (ouL s k j ++ [adr s.c k s.ks.length j])) → Chg (rowB pl) W1 w4 → (∀ q, rowB p' q → rowB pl q ∨ W1.heap.size ≤ q) →
          Hid (HfL w w4 M base i i1 s k j p' c') ∧ w4.cell? ⟨M, 8, none⟩ = some (.slice i1.ps i1.sl.length i1.cap)) := Lib.hid fun p' c' w4 ho hC hR => by
        have hH := HA1.out.push rfl ho hC hR
        exact ⟨Lib.hid hH, hH.mem.cS⟩
      have HP2 : Hid (∀ p4 c4 w4 v' w5, Hid (HfL w w4 M base i i1 s k j p4 c4) → w5.ownsRow base 228 6 v' (i1.sl.length + 1) (cellsS i1.sl ++ slC (nwSl (adr s.c k s.ks.length j) (k : Nat))) → (w4.alloc (.cells (slC (nwSl (adr s.c k s.ks.length j) (k : Nat))).toArray 228)).grownBy w5 (Value.slice i1.ps i1.sl.length i1.cap).ownBlock →
          (v'.ownBlock = (Value.slice i1.ps i1.sl.length i1.cap).ownBlock ∨ v'.ownBlock = some (w4.alloc (.cells (slC (nwSl (adr s.c k s.ks.length j) (k : Nat))).toArray 228)).heap.size) →
          ∃ p' cap' i', v' = .slice p' (i1.sl.length + 1) cap' ∧ Hid (AsL w (w5.setCell ⟨M, 8, none⟩ v') M base i i' s k (j + 1) p4 c4) ∧ w5.cell? ⟨M, 8, none⟩ = some (.slice i1.ps i1.sl.length i1.cap) ∧ w5.frozen? ⟨M, 8, none⟩ = false) := Lib.hid fun p4 c4 w4 v' w5 hH h1 h2 h3 => by
        obtain ⟨p', cap', i', e1, e2, e3, e4⟩ := hH.out.slot HOB2.out h1 h2 h3
        exact ⟨p', cap', i', e1, Lib.hid e2, e3, e4⟩
      have HOW : Hid (∀ p4 c4 w4, Hid (HfL w w4 M base i i1 s k j p4 c4) → w4.ownsRow base 228 6 (.slice i1.ps i1.sl.length i1.cap) i1.sl.length (cellsS i1.sl) ∧ base ≤ w4.heap.size) := Lib.hid fun p4 c4 w4 hH => ⟨hH.out.mem.own, by have := hH.out.chg.size; have := HOB2.out; omega⟩
      generalize hX : adr s.c k s.ks.length j = a at *
      have HX := Lib.hid hX
      clear hX
      go_wp2_with (first
        | (at_builtin; refine wpList_append_one rfl _ _ rfl W1 w.heap.size pl cl (ouL s k j) a rfl rfl HA1.out.out rfl (by have := HLJ.out; omega) HOB.out ?_; intro p4 c4 w4 ho4 hC4 hR4; obtain ⟨HH4, q4⟩ := HP1.out p4 c4 w4 ho4 hC4 hR4; clear ho4 hC4 hR4)
        | (at_builtin; refine wpList_append_slot rfl _ _ rfl w4 base i1.ps i1.cap i1.sl (nwSl a k) rfl rfl (HOW.out p4 c4 w4 HH4).1 rfl HSL.out (HOW.out p4 c4 w4 HH4).2 ?_; intro v5 w5 ho5 hg5 hat5; obtain ⟨p5, c5, i5, rfl, HA5, q5, z5⟩ := HP2.out p4 c4 w4 v5 w5 HH4 ho5 hg5 hat5; clear ho5 hg5 hat5))
      have hlj := HLJ.out
      rw [hlj]
      go_roundw
      case rel => exact ⟨j + 1, i5, p4, c4, by omega, by go_num, by rw [ouL_len], HA5.out⟩
      case measure => simp [intOf]; omega
    · have j1 : ¬ (j : Int) < (N : Int) := by omega
      obtain rfl : N = j := by omega
      have hu : s.ks.length ≤ 5000 := by
        have := (Blk.slots_bd H.out.wf.right).b1
        have := HF.out
        omega
      have HFI : Hid (Rp (wr.setCell ⟨M, 7, none⟩ (.int .i64 (s.ks.length + 1 : Nat))) M base i1 (asS s k) ∧ Chg (All M i) w (wr.setCell ⟨M, 7, none⟩ (.int .i64 (s.ks.length + 1 : Nat))) ∧
          (wr.setCell ⟨M, 7, none⟩ (.int .i64 (s.ks.length + 1 : Nat))).ownsRow w.heap.size 3 1 (.slice pl N cl) N (cellsF (adr s.c k s.ks.length) N)) := Lib.hid (by
        have e := HNN.out
        have hA2 := hA
        rw [← e] at hA2
        have := hA2.fin H.out HK.out HF.out
        rw [e] at this
        exact this)
      have hfz := hA.mem.fz 7 (by omega)
      have HINN := Lib.hid hA.inn
      have HAP := Lib.hid hA.ap
      rw [ouL_len]
      clear hA HA
      have hu2 : (s.ks.length : Int) ≤ 5000 := by omega
      rw [show ((s.ks.length + 1 : Nat) : Int) = (s.ks.length : Int) + 1 from by omega] at HFI
      go_wp2_with (go_at_call 205; refine (refper_any _ _ _).mono ?_; rintro e w' ⟨rfl, rfl⟩; rw [hN])
      go_ret2
      exact ⟨pl, cl, i1, rfl, HFI.out.2.2, HFI.out.1, HFI.out.2.1, HINN.out, HAP.out⟩
end
end Go.Proofs.YtkfgchhlekdpgaaGreatDoor.Rf

namespace Go.Proofs.YtkfgchhlekdpgaaGreatDoor.Rf
open Go.RowKit Go.Sort
open Blk (Cfg allP kAt valA adr perN perN_eq perN_pos perN_le cellsF seg seg_length allP_succ)
open Class (isB isB_true isB_false sizI sizI_bd roomI roomI_yes quiet_left refis_any refsize_any refper_any clsI clsI_bd)
open Lis (intsN upd upd_same upd_other)
open Hp (St Wf own cls wdA bn fr bnI frI bnI_nat frI_nat mem_allP allP_sorted nSl stS beS baS puS unS frS zr asS handB fr_true fr_false freL mem_freL baE frE beE puE fE fN lE lV sE takB colB make_ints zeroInts zeroInts_at mayV mayV_true wpList_append_row owns_below rmS rmA rmOk roN pu tl tl_len ad ad_eq ad_hand mkE mkA mkS mk2)
open Go.Proofs.YtkfgchhlekdpgaaGreatDoor.Row (Chg Rd Rd0 rowB rowB_none cell_of_block frozen_of_block other same cellsZ owns_lt owns_cap one_at owns_some owns_chg infoInt info_parts push_row)
open Go.Proofs.YtkfgchhlekdpgaaGreatDoor.Addr (NumP ofI ofB ofI_yes ofB_true)

section
variable {M base : Nat} {i : Ri} {s : St}
theorem rm_hand (h : Wf s) (hp : Pu s) {k : Nat} (hk : k < 4) (hr : rmOk s k = true) : handB (rmS s k) (rmA s k) = true ∧ cls (rmS s k) (rmA s k) = k := by
  cases he : s.hv k with
  | cons a l =>
    have e1 : rmA s k = a := by rw [rmA, he]
    have e2 : rmS s k = { s with hv := upd s.hv k l } := by rw [rmS, he]
    rw [e1, e2]
    obtain ⟨c1, c2, c3, c4⟩ := h.free k hk a (by rw [he]; exact List.mem_cons_self ..)
    refine ⟨?_, c2⟩
    unfold handB
    rw [bnI_nat, frI_nat, fr_once hp.nd hk he]
    have e3 : own { s with hv := upd s.hv k l } a = own s a := rfl
    have e4 : bn { s with hv := upd s.hv k l } a = bn s a := rfl
    rw [e3, e4, c1, c3]
    rfl
  | nil =>
    have e1 : rmA s k = ad s k 0 := by rw [rmA, he]
    have e2 : rmS s k = roN s k := by rw [rmS, he]
    have hf : (s.ks.length : Int) < s.c.b := by
      unfold rmOk at hr
      rw [he] at hr
      simpa using hr
    rw [e1, e2]
    obtain ⟨h1, h2, h3⟩ := ad_hand h hk hf (perN_pos h.right hk)
    refine ⟨Hp.puL_hand h1 _ (fun hm => ?_), ?_⟩
    · rw [List.take_of_length_le (by rw [List.length_reverse]; exact Nat.le_refl _), List.mem_reverse] at hm
      unfold tl at hm
      obtain ⟨j, _, e⟩ := List.mem_map.1 hm
      have := Hp.ad_inj h hk e
      omega
    · obtain ⟨p1, p2, _⟩ := Hp.puL_c (asS s k) ((tl s k).reverse.take (tl s k).length)
      unfold roN pu cls
      rw [p1, p2]
      exact h2
/-- Slots of a new block put, one behind the other: what holds then. -/
theorem pu_ok (h : Wf s) (hp : Pu s) (_h4 : ∀ j, kAt s.ks j < 4) {k : Nat} (hk : k < 4) (hf : (s.ks.length : Int) < s.c.b) (he : s.hv k = []) : ∀ t, t ≤ (tl s k).length → Wf (pu s k t) ∧ Pu (pu s k t) ∧ ((pu s k t).hv k).length = t := by
  intro t
  induction t with
  | zero => intro _; exact ⟨h.assign hk hf, hp.assign k, by show (s.hv k).length = 0; rw [he]; rfl⟩
  | succ t ih =>
    intro ht
    obtain ⟨w1, w2, w3⟩ := ih (by omega)
    obtain ⟨q1, q2⟩ := Hp.pu_step h hk hf (i := t) (by omega)
    have hN := tl_len s k
    have h128 := perN_le s.c k
    obtain ⟨a1, a2, a3⟩ := ad_hand h hk hf (i := (tl s k).length - 1 - t + 1) (by omega)
    generalize ad s k ((tl s k).length - 1 - t + 1) = a at *
    have hc : cls (pu s k t) a = k := by
      obtain ⟨p1, p2, _⟩ := Hp.puL_c (asS s k) ((tl s k).reverse.take t)
      unfold pu cls
      rw [p1, p2]
      exact a2
    obtain ⟨o1, o2, o3⟩ := isV_zero (hand_isV.1 q1)
    rw [bnI_nat] at o2
    rw [frI_nat] at o3
    rw [q2]
    refine ⟨put_wf w1 (by rw [hc]; exact hk) o1 o2, w2.put o3 (by rw [hc, w3]; omega), ?_⟩
    show (upd (pu s k t).hv (cls (pu s k t) a) (a :: (pu s k t).hv (cls (pu s k t) a)) k).length = t + 1
    rw [hc, upd_same, List.length_cons, w3]
theorem bz_eq (s : St) (a n : Nat) : bzS s a n = { s with ws := (bzS s a n).ws } ∧ (bzS s a n).ws.length = s.ws.length := by
  obtain ⟨z1, z2, z3, z4, z5, z6, z7⟩ := Hp.zr_rest (beS s a n) a n
  refine ⟨?_, z7.trans (List.length_set ..)⟩
  have e : ∀ t t' : St, t.c = t'.c → t.ks = t'.ks → t.hv = t'.hv → t.bs = t'.bs → t.os = t'.os → t.ce = t'.ce → t = { t' with ws := t.ws } := by
    rintro ⟨⟩ ⟨⟩ h1 h2 h3 h4 h5 h6
    simp only at h1 h2 h3 h4 h5 h6
    subst h1 h2 h3 h4 h5 h6
    rfl
  exact e (bzS s a n) s z1 z2 z3 z4 z5 z6
theorem Pu.bz (hp : Pu s) (a n : Nat) : Pu (bzS s a n) := by
  rw [(bz_eq s a n).1]
  exact hp.words (bz_eq s a n).2
/-- Begun and born: the last two calls of Make. -/
theorem tail_begin {a f : Nat} {W : World} (h : Rp W M base i s) (hh : handB s a = true) (hok : Hdr.okB (cls s a : Nat) (f : Nat) = true) :
    Calls Tryz.prog 172 #[.pointer (some ⟨M, 0, none⟩), .int .i64 a, .int .i64 f] W fun e w' => e = .returned (.int .i64 0) ∧ RTo W w' M base i (bzS s a f) := by
  have := begin_any (a : Nat) (f : Nat) W h
  have hbe : beE s a f = 0 := by rw [beE, if_pos hh, if_pos hok]
  rw [hbe, if_pos rfl, Int.toNat_natCast, Int.toNat_natCast] at this
  exact this
theorem tail_bear {a f : Nat} {c : Int} {W : World} (h : Rp W M base i (bzS s a f)) (h0 : Wf s) (hp : Pu s) (hh : handB s a = true) (hok : Hdr.okB (cls s a : Nat) (f : Nat) = true) (hc : colB c = true) :
    Calls Tryz.prog 173 #[.pointer (some ⟨M, 0, none⟩), .int .i64 a, .int .i64 c] W fun e w' => e = .returned (.int .i64 0) ∧ RTo W w' M base i (baS (bzS s a f) a c) := by
  have := bear_any (a : Nat) c W h (hp.bz a f)
  have ho := (isV_zero (hand_isV.1 hh)).1
  have hbd := h0.own_bd ho
  have hw0 : wdA (bzS s a f) a = Hdr.obI (cls s a : Nat) (f : Nat) := (Hp.zr_wdA _ (by omega) f).trans (Hp.wdA_be (by omega) (by omega))
  have hh3 : handB (bzS s a f) a = true := by
    show handB (zr (beS s a f) a f) a = true
    rw [Hp.zr_hand]
    exact hh
  have hba : baE (bzS s a f) a c = 0 := by rw [baE, if_pos hh3, if_pos hc, Int.toNat_natCast, hw0, if_pos (Hdr.isOb_ob hok).1]
  rw [hba, if_pos rfl, Int.toNat_natCast] at this
  exact this
theorem make_size (n c : Int) (w : World) (hn : n < 0 ∨ 15 < n) : Calls Tryz.prog 123 #[.pointer (some ⟨M, 0, none⟩), .int .i64 n, .int .i64 c] w fun e w' => e = .returned (.tuple #[.int .i64 0, .int .i64 8]) ∧ w = w' := by
  have HO := Lib.hid (Class.refof_no n w hn)
  clear hn
  go_enter Tryz.func123, Tryz.ntmps123
  go_wp2_with (go_at_call 41; refine HO.out.mono ?_; rintro e w' ⟨rfl, rfl⟩)
  go_ret2
  exact ⟨rfl, rfl⟩
theorem make_color (n c : Int) (w : World) (hn : 0 ≤ n ∧ n ≤ 15) (hc : colB c = false) : Calls Tryz.prog 123 #[.pointer (some ⟨M, 0, none⟩), .int .i64 n, .int .i64 c] w fun e w' => e = .returned (.tuple #[.int .i64 0, .int .i64 1]) ∧ w = w' := by
  have HO := Lib.hid (Class.refof_yes n w hn.1 hn.2)
  have c0 : (c != 0) = true := by
    have : c ≠ 0 := fun e => by rw [e] at hc; cases hc
    simpa using this
  have c1 : (c != 1) = true := by
    have : c ≠ 1 := fun e => by rw [e] at hc; cases hc
    simpa using this
  have k0 := (clsI_bd n).1
  clear hn hc
  generalize clsI n = k at *
  go_enter Tryz.func123, Tryz.ntmps123
  go_wp2_with (go_at_call 41; refine HO.out.mono ?_; rintro e w' ⟨rfl, rfl⟩)
  go_ret2
  exact ⟨rfl, rfl⟩
set_option maxRecDepth 100000 in
set_option maxHeartbeats 4000000 in
theorem make_full (n c : Int) (k : Nat) (w : World) (h : Rp w M base i s) (hn : 0 ≤ n ∧ n ≤ 15) (hc : colB c = true) (hk : clsI n = (k : Int)) (he : s.hv k = []) (hf : (s.ks.length : Int) = s.c.b) :
    Calls Tryz.prog 123 #[.pointer (some ⟨M, 0, none⟩), .int .i64 n, .int .i64 c] w fun e w' => e = .returned (.tuple #[.int .i64 0, .int .i64 10]) ∧ RTo w w' M base i s := by
  have HO := Lib.hid (Class.refof_yes n w hn.1 hn.2)
  have hk4 : k < 4 := by have := clsI_bd n; omega
  rw [hk] at HO
  have HTK := Lib.hid (take_none k w h hk4 he)
  have HAS := Lib.hid (assign_full (k : Int) w h (isB_lt hk4) hf)
  have hcc := colB_cases.1 hc
  have k0 : (0 : Int) ≤ (k : Int) := Int.natCast_nonneg _
  clear hn hc hk he hf h
  rcases hcc with rfl | rfl
  all_goals
    go_enter Tryz.func123, Tryz.ntmps123
    go_wp2_with (first
      | (go_at_call 41; refine HO.out.mono ?_; rintro e w' ⟨rfl, rfl⟩)
      | (go_at_call 169; refine HTK.out.mono ?_; rintro e w' ⟨rfl, rfl⟩)
      | (go_at_call 170; refine HAS.out.mono ?_; rintro e w' ⟨rfl, hT⟩; have HT := Lib.hid hT; clear hT))
    go_ret2
    exact ⟨rfl, HT.out⟩
set_option maxRecDepth 100000 in
set_option maxHeartbeats 4000000 in
theorem make_take (f : Nat) (c : Int) (k a : Nat) (l : List Nat) (w : World) (h : Rp w M base i s) (hp : Pu s) (hn : f ≤ 15) (hc : colB c = true) (hk : clsI (f : Nat) = (k : Int)) (he : s.hv k = a :: l) :
    Calls Tryz.prog 123 #[.pointer (some ⟨M, 0, none⟩), .int .i64 f, .int .i64 c] w fun e w' => e = .returned (.tuple #[.int .i64 a, .int .i64 0]) ∧ RTo w w' M base i (baS (bzS { s with hv := upd s.hv k l } a f) a c) := by
  have HO := Lib.hid (Class.refof_yes (f : Nat) w (by omega) (by omega))
  have hlf := Class.least_facts (f := (f : Nat)) (by omega) (by omega)
  have hk4 : k < 4 := by have := clsI_bd (f : Nat); omega
  rw [hk] at HO hlf
  have HTK := Lib.hid (take_good k a l w h hp hk4 he)
  have hr : rmOk s k = true := by unfold rmOk; rw [he]; rfl
  obtain ⟨r1, r2⟩ := rm_hand h.wf hp hk4 hr
  have e1 : rmA s k = a := by rw [rmA, he]
  have e2 : rmS s k = { s with hv := upd s.hv k l } := by rw [rmS, he]
  rw [e1, e2] at r1 r2
  have hwf1 := h.wf.take he
  have hpu1 := hp.take he
  have hok : Hdr.okB (cls { s with hv := upd s.hv k l } a : Nat) (f : Nat) = true := by rw [r2]; exact Hdr.okB_true.2 ⟨hlf.1, by omega, hlf.2.1⟩
  generalize ({ s with hv := upd s.hv k l } : St) = s1 at *
  have HB := Lib.hid (fun (W : World) (j : Ri) (hR : Rp W M base j s1) => tail_begin hR r1 hok)
  have HC := Lib.hid (fun (W : World) (j : Ri) (hR : Rp W M base j (bzS s1 a f)) => tail_bear hR hwf1 hpu1 r1 hok hc)
  have hcc := colB_cases.1 hc
  have k0 : (0 : Int) ≤ (k : Int) := Int.natCast_nonneg _
  clear hn hc hk he h hlf hr r1 r2 e1 e2 hwf1 hpu1 hok hp
  rcases hcc with rfl | rfl
  all_goals
    go_enter Tryz.func123, Tryz.ntmps123
    go_wp2_with (first
      | (go_at_call 41; refine HO.out.mono ?_; rintro e w' ⟨rfl, rfl⟩)
      | (go_at_call 169; refine HTK.out.mono ?_; rintro e w1 ⟨rfl, i1, hR1, hC1, hI1⟩; have HR1 := Lib.hid hR1; have HC1 := Lib.hid hC1; have HI1 := Lib.hid hI1; clear hR1 hC1 hI1)
      | (go_at_call 172; refine (HB.out _ _ HR1.out).mono ?_; rintro e w2 ⟨rfl, i2, hR2, hC2, hI2⟩; have HR2 := Lib.hid hR2; have HC2 := Lib.hid hC2; have HI2 := Lib.hid hI2; clear hR2 hC2 hI2)
      | (go_at_call 173; refine (HC.out _ _ HR2.out).mono ?_; rintro e w3 ⟨rfl, hT3⟩; have HT3 := Lib.hid hT3; clear hT3))
    go_ret2
    exact ⟨rfl, RTo.trans HC1.out HI1.out (RTo.trans HC2.out HI2.out HT3.out)⟩
end
end Go.Proofs.YtkfgchhlekdpgaaGreatDoor.Rf

namespace Go.Proofs.YtkfgchhlekdpgaaGreatDoor.Rf
open Go.RowKit Go.Sort
open Blk (Cfg allP kAt valA adr perN perN_eq perN_pos perN_le cellsF seg seg_length allP_succ)
open Class (isB isB_true isB_false sizI sizI_bd roomI roomI_yes quiet_left refis_any refsize_any refper_any clsI clsI_bd)
open Lis (intsN upd upd_same upd_other)
open Hp (St Wf own cls wdA bn fr bnI frI bnI_nat frI_nat mem_allP allP_sorted nSl stS beS baS puS unS frS zr asS handB fr_true fr_false freL mem_freL baE frE beE puE fE fN lE lV sE takB colB make_ints zeroInts zeroInts_at mayV mayV_true wpList_append_row owns_below rmS rmA rmOk roN pu tl tl_len ad ad_eq ad_hand mkE mkA mkS mk2)
open Go.Proofs.YtkfgchhlekdpgaaGreatDoor.Row (Chg Rd Rd0 rowB rowB_none cell_of_block frozen_of_block other same cellsZ owns_lt owns_cap one_at owns_some owns_chg infoInt info_parts push_row)
open Go.Proofs.YtkfgchhlekdpgaaGreatDoor.Addr (NumP ofI ofB ofI_yes ofB_true)

section
variable {M base : Nat} {i : Ri} {s : St}
theorem cellsF_at (f : Nat → Int) {n j : Nat} (h : j < n) : (cellsF f n)[j]? = some (.int .i64 (f j)) := by simp [cellsF, h]
/-- While a new block's slots are put. -/
structure MkL (w wr : World) (M base : Nat) (i0 i : Ri) (s : St) (k t n1 : Nat) (pb cap : Nat) : Prop where
  rp : Rp wr M base i (pu s k t)
  row : wr.ownsRow w.heap.size 3 1 (.slice (some ⟨pb, 0, none⟩) (n1 + 1) cap) (n1 + 1) (cellsF (adr s.c k s.ks.length) (n1 + 1))
  ap : ¬ All M i pb
  chg : Chg (All M i0) w wr
  inn : ∀ q, All M i q → All M i0 q ∨ w.heap.size ≤ q
theorem MkL.step {w wr w' : World} {i0 i1 : Ri} {k t n1 pb cap : Nat} (h : MkL w wr M base i0 i1 s k t n1 pb cap) (hT : RTo wr w' M base i1 (pu s k (t + 1))) : ∃ i2, MkL w w' M base i0 i2 s k (t + 1) n1 pb cap := by
  obtain ⟨i2, h1, h2, h3⟩ := hT
  have hl := (owns_lt h.row (g := pb) rfl).2
  exact ⟨i2, h1, owns_chg h.row h2 (fun g hg e => h.ap (by have : pb = g := by simpa [rowB] using hg
                                                           rw [this]; exact e)), fun e => (h3 pb e).elim h.ap (fun x => by omega), h.chg.trans h2 (fun q e => h.inn q e), fun q e => (h3 q e).elim (h.inn q) (fun x => .inr (by have := h.chg.size; omega))⟩
set_option maxRecDepth 100000 in
set_option maxHeartbeats 4000000 in
theorem make_new (f : Nat) (c : Int) (k : Nat) (w : World) (h : Rp w M base i s) (hp : Pu s) (hn : f ≤ 15) (hc : colB c = true) (hk : clsI (f : Nat) = (k : Int)) (he : s.hv k = []) (hf : (s.ks.length : Int) < s.c.b) :
    Calls Tryz.prog 123 #[.pointer (some ⟨M, 0, none⟩), .int .i64 f, .int .i64 c] w fun e w' => e = .returned (.tuple #[.int .i64 (ad s k 0), .int .i64 0]) ∧ RTo w w' M base i (baS (bzS (roN s k) (ad s k 0) f) (ad s k 0) c) := by
  have HO := Lib.hid (Class.refof_yes (f : Nat) w (by omega) (by omega))
  have hlf := Class.least_facts (f := (f : Nat)) (by omega) (by omega)
  have hk4 : k < 4 := by have := clsI_bd (f : Nat); omega
  rw [hk] at HO hlf
  have HTK := Lib.hid (take_none k w h hk4 he)
  have hr : rmOk s k = true := by unfold rmOk; rw [he]; simpa using hf
  obtain ⟨r1, r2⟩ := rm_hand h.wf hp hk4 hr
  have e1 : rmA s k = ad s k 0 := by rw [rmA, he]
  have e2 : rmS s k = roN s k := by rw [rmS, he]
  rw [e1, e2] at r1 r2
  have hpo := pu_ok h.wf hp h.k4 hk4 hf he
  obtain ⟨n1, hn1⟩ : ∃ n1, perN s.c k = n1 + 1 := ⟨perN s.c k - 1, by have := perN_pos h.wf.right hk4; omega⟩
  have h128 := perN_le s.c k
  have htl : (tl s k).length = n1 := by rw [tl_len, hn1]; rfl
  have hro : roN s k = pu s k n1 := by unfold roN; rw [htl]
  rw [htl] at hpo
  rw [hro] at r1 r2 ⊢
  have hok : Hdr.okB (cls (pu s k n1) (ad s k 0) : Nat) (f : Nat) = true := by rw [r2]; exact Hdr.okB_true.2 ⟨hlf.1, by omega, hlf.2.1⟩
  have hpn := hpo n1 (Nat.le_refl _)
  have HB := Lib.hid (fun (W : World) (j : Ri) (hR : Rp W M base j (pu s k n1)) => tail_begin hR r1 hok)
  have HC := Lib.hid (fun (W : World) (j : Ri) (hR : Rp W M base j (bzS (pu s k n1) (ad s k 0) f)) => tail_bear hR hpn.1 hpn.2.1 r1 hok hc)
  have HP : Hid (∀ (W : World) (j : Ri) (t : Nat), t < n1 → Rp W M base j (pu s k t) → Calls Tryz.prog 171 #[.pointer (some ⟨M, 0, none⟩), .int .i64 (ad s k (n1 - 1 - t + 1))] W fun e w' => e = .returned (.int .i64 0) ∧ RTo W w' M base j (pu s k (t + 1))) := Lib.hid fun W j t ht hR => by
    obtain ⟨p1, p2⟩ := Hp.pu_step h.wf hk4 hf (i := t) (by omega)
    rw [htl] at p1 p2
    have := put_any (ad s k (n1 - 1 - t + 1) : Nat) W hR (hpo t (by omega)).2.1
    rw [Hp.puE_hand p1, if_pos rfl, Int.toNat_natCast, ← p2] at this
    exact this
  have HAS := Lib.hid (assign_good k w h hk4 hf)
  rw [hn1] at HAS
  have HAD := Lib.hid (fun t => ad_eq h.wf k t)
  have hcc := colB_cases.1 hc
  have k0 : (0 : Int) ≤ (k : Int) := Int.natCast_nonneg _
  have hb : n1 ≤ 128 := by omega
  clear hn hc hk he h hlf hr r1 r2 e1 e2 hok hp hpo hn1 h128 htl hro hpn hf
  rcases hcc with rfl | rfl
  all_goals
    go_enter Tryz.func123, Tryz.ntmps123
    go_wp2_with (first
      | (go_at_call 41; refine HO.out.mono ?_; rintro e w' ⟨rfl, rfl⟩)
      | (go_at_call 169; refine HTK.out.mono ?_; rintro e w' ⟨rfl, rfl⟩)
      | (go_at_call 170; refine HAS.out.mono ?_; rintro e w1 ⟨p, cap, i1, rfl, ho, hR, hC, hI, hA⟩; obtain ⟨pb, rfl⟩ := Hp.hsome ho; have HM := Lib.hid (show MkL w w1 M base i i1 s k 0 n1 pb cap from ⟨hR, ho, hA pb rfl, hC, hI⟩); clear ho hR hC hI hA))
    go_loopw [13] (fun x wr => ∃ (q t : Nat) (i2 : Ri), q + t = n1 ∧ x = .int .i64 (q : Int) ∧ MkL w wr M base i i2 s k t n1 pb cap) (fun x _ => (intOf x).toNat)
    case atStart => exact ⟨n1, 0, i1, rfl, rfl, HM.out⟩
    case round =>
      obtain ⟨q, t, i2, hq, rfl, hM⟩ := hrel
      have HM2 := Lib.hid hM
      have hrow := hM.row
      clear hM HM
      rcases Nat.eq_zero_or_pos q with rfl | hpos
      · obtain rfl : t = n1 := by omega
        have hcell : wr.cell? ⟨pb, 0, none⟩ = some (.int .i64 (ad s k 0)) := by
          have := hrow.cellAt 0 (by omega)
          rw [this, cellsF_at _ (by omega), HAD.out]
        have HR1 := Lib.hid HM2.out.rp
        have HC1 := Lib.hid HM2.out.chg
        have HI1 := Lib.hid HM2.out.inn
        clear hrow HM2
        go_wp2_with (first
          | (go_at_call 172; refine (HB.out _ _ HR1.out).mono ?_; rintro e w2 ⟨rfl, i3, hR2, hC2, hI2⟩; have HR2 := Lib.hid hR2; have HC2 := Lib.hid hC2; have HI2 := Lib.hid hI2; clear hR2 hC2 hI2)
          | (go_at_call 173; refine (HC.out _ _ HR2.out).mono ?_; rintro e w3 ⟨rfl, hT3⟩; have HT3 := Lib.hid hT3; clear hT3))
        go_ret2
        exact ⟨rfl, RTo.trans HC1.out HI1.out (RTo.trans HC2.out HI2.out HT3.out)⟩
      · obtain ⟨q, rfl⟩ : ∃ q', q = q' + 1 := ⟨q - 1, by omega⟩
        have hcell : wr.cell? ⟨pb, q + 1, none⟩ = some (.int .i64 (ad s k (q + 1))) := by
          have := hrow.cellAt (q + 1) (by omega)
          rw [this, cellsF_at _ (by omega), HAD.out]
        have HPT := Lib.hid (HP.out wr i2 t (by omega) HM2.out.rp)
        rw [show n1 - 1 - t + 1 = q + 1 from by omega] at HPT
        clear hrow
        have q0 : (0 : Int) < (q : Int) + 1 := by omega
        have q1 : (q : Int) + 1 < (n1 : Int) + 1 := by omega
        have q2 : (q : Int) + 1 ≤ 128 := by omega
        go_wp2_with (go_at_call 171; refine HPT.out.mono ?_; rintro e w2 ⟨rfl, hT⟩; obtain ⟨i3, hM3⟩ := HM2.out.step hT; have HM3 := Lib.hid hM3; clear hT hM3)
        go_roundw
        case rel => exact ⟨q, t + 1, i3, by omega, rfl, HM3.out⟩
        case measure => simp [intOf]
theorem make_any (n c : Int) (w : World) (h : Rp w M base i s) (hp : Pu s) :
    Calls Tryz.prog 123 #[.pointer (some ⟨M, 0, none⟩), .int .i64 n, .int .i64 c] w fun e w' => e = .returned (.tuple #[.int .i64 (if mkE s n c = 0 then mkA s n else 0), .int .i64 (mkE s n c)]) ∧ RTo w w' M base i (if mkE s n c = 0 then mkS s n c else s) := by
  by_cases hn : 0 ≤ n ∧ n ≤ 15
  · cases hc : colB c with
    | false =>
      have e1 : mkE s n c = 1 := by unfold mkE; rw [if_pos hn, hc]; rfl
      rw [e1, if_neg (by decide), if_neg (by decide)]
      refine (make_color n c w hn hc).mono ?_
      rintro e w' ⟨rfl, rfl⟩
      exact ⟨rfl, RTo.of_below h (Below.refl _ _)⟩
    | true =>
      obtain ⟨f, rfl⟩ := Int.eq_ofNat_of_zero_le hn.1
      have hcl := clsI_bd (f : Nat)
      obtain ⟨k, hk⟩ : ∃ k : Nat, clsI f = (k : Int) := ⟨(clsI f).toNat, by omega⟩
      have e0 : mkE s f c = if rmOk s k = true then 0 else 10 := by unfold mkE; rw [if_pos hn, if_pos hc, hk, Int.toNat_natCast]
      have eA : mkA s f = rmA s k := by unfold mkA; rw [hk, Int.toNat_natCast]
      have eS : mkS s f c = baS (bzS (rmS s k) (rmA s k) f) (rmA s k) c := by unfold mkS mk2; rw [eA, hk, Int.toNat_natCast, Int.toNat_natCast]; rfl
      cases he : s.hv k with
      | cons a l =>
        have hr : rmOk s k = true := by unfold rmOk; rw [he]; rfl
        rw [e0, if_pos hr, if_pos rfl, if_pos rfl, eA, eS]
        have e1 : rmA s k = a := by rw [rmA, he]
        have e2 : rmS s k = { s with hv := upd s.hv k l } := by rw [rmS, he]
        rw [e1, e2]
        exact make_take f c k a l w h hp (by omega) hc hk he
      | nil =>
        have hfu := h.wf.full
        by_cases hf : (s.ks.length : Int) < s.c.b
        · have hr : rmOk s k = true := by unfold rmOk; rw [he]; simpa using hf
          rw [e0, if_pos hr, if_pos rfl, if_pos rfl, eA, eS]
          have e1 : rmA s k = ad s k 0 := by rw [rmA, he]
          have e2 : rmS s k = roN s k := by rw [rmS, he]
          rw [e1, e2]
          exact make_new f c k w h hp (by omega) hc hk he hf
        · have hr : ¬ rmOk s k = true := by unfold rmOk; rw [he]; simpa using hf
          rw [e0, if_neg hr, if_neg (by decide), if_neg (by decide)]
          exact make_full f c k w h hn hc hk he (by omega)
  · have e1 : mkE s n c = 8 := by unfold mkE; rw [if_neg hn]
    rw [e1, if_neg (by decide), if_neg (by decide)]
    refine (make_size n c w (by omega)).mono ?_
    rintro e w' ⟨rfl, rfl⟩
    exact ⟨rfl, RTo.of_below h (Below.refl _ _)⟩
end
end Go.Proofs.YtkfgchhlekdpgaaGreatDoor.Rf

namespace Go.Proofs.YtkfgchhlekdpgaaGreatDoor.Rf
open Go.RowKit Go.Sort
open Blk (Cfg allP kAt valA adr perN perN_eq perN_pos perN_le cellsF seg seg_length allP_succ)
open Lis (intsN upd upd_same upd_other)
open Hp (St Wf st0 wf0 make_ints zeroInts zeroInts_at)
open Go.Proofs.YtkfgchhlekdpgaaGreatDoor.Row (Chg Rd Rd0 rowB rowB_none cell_of_block frozen_of_block other same cellsZ owns_lt owns_cap one_at owns_some owns_chg infoInt info_parts push_row)

section
def ri0 (nc m : Nat) : Ri := ⟨[], none, 0, fun _ => none, fun _ => 0, m, nc⟩
def recC (c : Cfg) (nc m : Nat) : Array Value := #[.int .i64 c.b, .int .i64 c.wd, .int .i64 c.m, .int .i64 c.r, .int .i64 nc, .int .i64 c.lg, .int .i64 c.st, .int .i64 0, .slice none 0 0, .slice none 0 0, .slice none 0 0, .slice none 0 0, .slice none 0 0, .slice (some ⟨m, 0, none⟩) nc nc]
theorem new_mem (c : Cfg) (nc : Nat) (Y : World) (base : Nat) (hb : base ≤ Y.heap.size) (hnc : c.ce = (nc : Int)) (t : TypeId) :
    RfIs (((Y.alloc (.cells (zeroInts nc) 3)).alloc (.cells (recC c nc Y.heap.size) t)).drew) (Y.heap.size + 1) base (ri0 nc Y.heap.size) c 0 (fun _ => []) (List.replicate nc 0) := by
  have hs : (Y.alloc (.cells (zeroInts nc) 3)).heap.size = Y.heap.size + 1 := by simp
  have key : ∀ o, (((Y.alloc (.cells (zeroInts nc) 3)).alloc (.cells (recC c nc Y.heap.size) t)).drew).cell? ⟨Y.heap.size + 1, o, none⟩ = (recC c nc Y.heap.size)[o]? := fun o => by
    show ((Y.alloc (.cells (zeroInts nc) 3)).alloc (.cells (recC c nc Y.heap.size) t)).cell? ⟨Y.heap.size + 1, o, none⟩ = _
    exact World.cell?_alloc_at _ _ _ _ hs.symm
  have keyF : ∀ o, (((Y.alloc (.cells (zeroInts nc) 3)).alloc (.cells (recC c nc Y.heap.size) t)).drew).frozen? ⟨Y.heap.size + 1, o, none⟩ = false := fun o => by
    show ((Y.alloc (.cells (zeroInts nc) 3)).alloc (.cells (recC c nc Y.heap.size) t)).frozen? ⟨Y.heap.size + 1, o, none⟩ = _
    exact World.frozen?_alloc_at _ _ _ _ hs.symm
  have key2 : ∀ o, (((Y.alloc (.cells (zeroInts nc) 3)).alloc (.cells (recC c nc Y.heap.size) t)).drew).cell? ⟨Y.heap.size, o, none⟩ = (zeroInts nc)[o]? := fun o => by
    show ((Y.alloc (.cells (zeroInts nc) 3)).alloc (.cells (recC c nc Y.heap.size) t)).cell? ⟨Y.heap.size, o, none⟩ = _
    rw [World.cell?_alloc_past _ _ _ (by rw [hs]; omega), World.cell?_alloc_new]
  have keyF2 : ∀ o, (((Y.alloc (.cells (zeroInts nc) 3)).alloc (.cells (recC c nc Y.heap.size) t)).drew).frozen? ⟨Y.heap.size, o, none⟩ = false := fun o => by
    show ((Y.alloc (.cells (zeroInts nc) 3)).alloc (.cells (recC c nc Y.heap.size) t)).frozen? ⟨Y.heap.size, o, none⟩ = _
    rw [World.frozen?_alloc_past _ _ _ (by rw [hs]; omega), World.frozen?_alloc_new]
  have hno : ∀ k, ¬ Re (ri0 nc Y.heap.size) k := by
    rintro k (⟨j, hj, e⟩ | ⟨x, hx, e⟩)
    · exact rowB_none k e
    · cases hx
  refine ⟨(key 0).trans rfl, (key 1).trans rfl, (key 2).trans rfl, (key 3).trans rfl, (key 4).trans (by rw [hnc]; rfl), (key 5).trans rfl, (key 6).trans rfl, (key 7).trans rfl, (key 8).trans rfl, fun k hk => (key (9 + k)).trans ?_, (key 13).trans (by rw [List.length_replicate]; rfl), fun o _ => keyF o,
    ⟨by simp [ri0, cellsS], .inl ⟨rfl, rfl⟩⟩, fun k hk => Rd.nil _, fun k hk => Nat.zero_le _, (fun x hx => by cases hx), fun j hj => ?_, fun j hj => keyF2 j, ?_, fun k e => (hno k e).elim, ⟨?_, rowB_none _, rowB_none _⟩, fun k e => (hno k e).elim, fun k e => ?_⟩
  · have : k = 0 ∨ k = 1 ∨ k = 2 ∨ k = 3 := by omega
    rcases this with rfl | rfl | rfl | rfl <;> rfl
  · rw [List.length_replicate] at hj
    show (((Y.alloc (.cells (zeroInts nc) 3)).alloc (.cells (recC c nc Y.heap.size) t)).drew).cell? ⟨Y.heap.size, j, none⟩ = _
    rw [key2, zeroInts_at nc j hj]
    simp [List.getD_eq_getElem?_getD, hj]
  · show Y.heap.size < (((Y.alloc (.cells (zeroInts nc) 3)).alloc (.cells (recC c nc Y.heap.size) t)).drew).heap.size
    show Y.heap.size < ((Y.alloc (.cells (zeroInts nc) 3)).alloc (.cells (recC c nc Y.heap.size) t)).heap.size
    simp
    omega
  · show Y.heap.size + 1 ≠ Y.heap.size
    omega
  · rcases e with rfl | rfl | e
    · omega
    · exact hb
    · exact (rowB_none k e).elim
set_option maxRecDepth 100000 in
set_option maxHeartbeats 4000000 in
theorem new_any (c : Cfg) (n nc : Nat) (w : World) (hR : rightB c.b c.wd c.m c.r c.ce c.lg c.st = true) (hn : c.b * c.wd = (n : Int)) (hnc : c.ce = (nc : Int)) (h64 : nc ≤ 64) :
    Calls Tryz.prog 122 #[(.agg #[.int .i64 c.b, .int .i64 c.wd, .int .i64 c.m, .int .i64 c.r, .int .i64 c.ce, .int .i64 c.lg, .int .i64 c.st])] w fun e w' => ∃ M i, e = .returned (.pointer (some ⟨M, 0, none⟩)) ∧ w.heap.size ≤ M ∧ Rp w' M w.heap.size i (st0 c n nc) ∧ Below w.heap.size w w' ∧ ∀ k, All M i k → w.heap.size ≤ k := by
  have hmk := make_ints nc (by omega)
  rw [hnc]
  go_enter Tryz.func122, Tryz.ntmps122
  go_wp2
  go_region
  have hb1 : Below w.heap.size w (w.alloc (.cells #[.int .i64 c.b, .int .i64 c.wd, .int .i64 c.m, .int .i64 c.r, .int .i64 (nc : Int), .int .i64 c.lg, .int .i64 c.st] 23)) := (Below.refl _ _).alloc (Nat.le_refl _) _
  have hz1 : (w.alloc (.cells #[.int .i64 c.b, .int .i64 c.wd, .int .i64 c.m, .int .i64 c.r, .int .i64 (nc : Int), .int .i64 c.lg, .int .i64 c.st] 23)).heap.size = w.heap.size + 1 := by simp
  have hm := fun t => new_mem c nc (w.alloc (.cells #[.int .i64 c.b, .int .i64 c.wd, .int .i64 c.m, .int .i64 c.r, .int .i64 (nc : Int), .int .i64 c.lg, .int .i64 c.st] 23)) w.heap.size (by rw [hz1]; omega) hnc t
  generalize w.alloc (.cells #[.int .i64 c.b, .int .i64 c.wd, .int .i64 c.m, .int .i64 c.r, .int .i64 (nc : Int), .int .i64 c.lg, .int .i64 c.st] 23) = Y at *
  have HM := Lib.hid hm
  have HB := Lib.hid hb1
  have HZ := Lib.hid hz1
  clear hm hb1 hz1 hmk
  go_wp2
  go_ret
  have hsz := HZ.out
  refine ⟨w.heap.size + 1 + 1, ri0 nc (w.heap.size + 1), rfl, by omega, ⟨?_, by simp [ri0, allP, st0], (fun x hx => by cases hx), wf0 hR hn, fun j => by simp [st0, kAt]⟩, below_drew ((HB.out.alloc (by omega) _).alloc (by simp; omega) _), ?_⟩
  · have h1 := HM.out 224
    rw [hsz] at h1
    exact h1
  · rintro k ((rfl | rfl | e) | (⟨j, hj, e⟩ | ⟨x, hx, e⟩))
    · omega
    · show w.heap.size ≤ w.heap.size + 1
      omega
    · exact (rowB_none k e).elim
    · exact (rowB_none k e).elim
    · cases hx
end
end Go.Proofs.YtkfgchhlekdpgaaGreatDoor.Rf
