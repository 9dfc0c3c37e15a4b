/-
  Texts one behind the other: MvX MvY MvZ Mva (theorems that nobody names are left out).
-/
import Derived.Test.YtipifkgmhgkleaaGreatDoorMzVh
import Derived.Deep.RegionHeld3
namespace Go.Proofs.YtipifkgmhgkleaaGreatDoor.Mv
open Go.RowKit
open Hp (Ids St Is To Mine)
open Mu (Sy Sd Ml Md MIs ownM lt_of_cell O4 CellsL mutA)
open Go.Proofs.YtipifkgmhgkleaaGreatDoor.Row (Chg rowB Rd other same)

/-- The owner of what is a pick's alone. -/
def loc : Nat := 3000
/-- Whom a mutator's pick may turn. -/
def Pm (id : Nat) (o : Nat) : Prop := o = 1 ∨ o = 4 + id ∨ o = loc
def Pi (id : Nat) (o : Nat) : Prop := o = 1 ∨ o = 4 + id
/-- A step, or none. -/
def Nxt (O : Nat → Nat) (w : World) (a N : Nat) : Option K → Value → Prop
  | none, v => v = .nilFunc
  | some q, v => isFn v ∧ Ls O w a N q v
/-- A mutator beside what is shared. -/
structure Al (O : Nat → Nat) (w : World) (y : Sy) (n nb : Nat) (x : Sd) (z : Ml) (m : Md) (q : Option K) : Prop where
  ok : Okw O w
  sx : ∃ d ps cs, Sx O y n nb w x d ps cs
  mx : ∃ p c, Mx O y w (dynM z p c) m
  nx : Nxt O w z.M z.N q m.nx
/-- The event, the picks it took. -/
theorem Cx.evt {b : Ba} {z : Ml} {m : Md} {w : World} {x : Sd} {L : List (Nat × Nat × Value)} {Q : List (K × Value)} (h : Cx b (mxR b.y z m) w x L Q) (hP : b.P (4 + z.id)) (k : Int) :
    Cx b (mxR b.y z { m with ev := fun _ => 0, tk := k }) (((((((w.setCell ⟨z.M, 13, none⟩ (.int .i64 0)).setCell ⟨z.M, 14, none⟩ (.int .i64 0)).setCell ⟨z.M, 15, none⟩ (.int .i64 0)).setCell ⟨z.M, 16, none⟩ (.int .i64 0)).setCell ⟨z.M, 17, none⟩ (.int .i64 0)).setCell ⟨z.M, 18, none⟩ (.int .i64 0)).setCell ⟨z.M, 12, none⟩ (.int .i64 k)) x L Q := by
  refine h.rec hP ((((((((Chg.refl (fun k => k = z.M) w).set (p := ⟨z.M, 13, none⟩) (.inl rfl) _).set (p := ⟨z.M, 14, none⟩) (.inl rfl) _).set (p := ⟨z.M, 15, none⟩) (.inl rfl) _).set (p := ⟨z.M, 16, none⟩) (.inl rfl) _).set (p := ⟨z.M, 17, none⟩) (.inl rfl) _).set (p := ⟨z.M, 18, none⟩) (.inl rfl) _).set (p := ⟨z.M, 12, none⟩) (.inl rfl) _) (fun p c hc => ?_) (fun o => ?_) rfl rfl rfl rfl rfl
  · exact (((((((hc.set 13 _).set 14 _).set 15 _).set 16 _).set 17 _).set 18 _).set 12 _)
  · simp only [World.frozen?_setCell]
theorem Cx.next {b : Ba} {z : Ml} {m : Md} {w : World} {x : Sd} {L : List (Nat × Nat × Value)} {Q : List (K × Value)} (h : Cx b (mxR b.y z m) w x L Q) (hP : b.P (4 + z.id)) (v : Value) : Cx b (mxR b.y z { m with nx := v }) (w.setCell ⟨z.M, 11, none⟩ v) x L Q :=
  h.rec hP ((Chg.refl (fun k => k = z.M) w).set (p := ⟨z.M, 11, none⟩) (.inl rfl) _) (fun _p _c hc => hc.set 11 _) (fun _o => World.frozen?_setCell ..) rfl rfl rfl rfl rfl
/-- Six cells of a box turned. -/
theorem six_chg (w : World) (nb : Nat) (v0 v1 v2 v3 v4 v5 : Value) : Chg (fun k => k = nb) w ((((((w.setCell ⟨nb, 0, none⟩ v0).setCell ⟨nb, 1, none⟩ v1).setCell ⟨nb, 2, none⟩ v2).setCell ⟨nb, 3, none⟩ v3).setCell ⟨nb, 4, none⟩ v4).setCell ⟨nb, 5, none⟩ v5).drew :=
  (((((((Chg.refl (fun k => k = nb) w).set (p := ⟨nb, 0, none⟩) (.inl rfl) v0).set (p := ⟨nb, 1, none⟩) (.inl rfl) v1).set (p := ⟨nb, 2, none⟩) (.inl rfl) v2).set (p := ⟨nb, 3, none⟩) (.inl rfl) v3).set (p := ⟨nb, 4, none⟩) (.inl rfl) v4).set (p := ⟨nb, 5, none⟩) (.inl rfl) v5).drewN 1
/-- The world behind a pick. -/
abbrev fin7 (w : World) (M nb : Nat) (v v0 v1 v2 v3 v4 v5 : Value) : World := (((((((w.setCell ⟨M, 11, none⟩ v).setCell ⟨nb, 0, none⟩ v0).setCell ⟨nb, 1, none⟩ v1).setCell ⟨nb, 2, none⟩ v2).setCell ⟨nb, 3, none⟩ v3).setCell ⟨nb, 4, none⟩ v4).setCell ⟨nb, 5, none⟩ v5).drew
theorem Out.cx {b : Ba} {z : Ml} {w : World} {x : Sd} {m : Md} {q : Option K} {v : Value} (h : Out b z w x m q v) : ∃ Q, Cx b (mxR b.y z m) w x [] Q ∧ (v = .nilFunc ∨ isFn v) ∧ ∀ O w', (∀ p ∈ Q, Ls O w' b.a b.N p.1 p.2) → Nxt O w' b.a b.N q v := by
  cases q with
  | none => exact ⟨[], h.2, .inl h.1, fun _ _ _ => h.1⟩
  | some q => exact ⟨[(q, v)], h.2, .inr h.1, fun O w' hq => ⟨h.1, hq _ (List.mem_singleton.2 rfl)⟩⟩
theorem pick_fin {O : Nat → Nat} {w : World} {b : Ba} {z : Ml} {m : Md} {w2 : World} {x : Sd} {Q : List (K × Value)} {q : Option K} {v : Value} {k : Nat} (hO : Mv (Pm z.id) O b.O w b.w) (hP : b.P = Pi z.id) (ha : b.a = z.M) (hN : b.N = z.N) (h : Cx b (mxR b.y z m) w2 x [] Q) (hq : ∀ O w', (∀ p ∈ Q, Ls O w' b.a b.N p.1 p.2) → Nxt O w' b.a b.N q v)
    (hid : z.id < 2996) (hk : b.O k = loc) (hl : k < b.w.heap.size) (hbx : CellsL w2 k [.int .i64 0, .int .i64 0, .int .i64 0, .int .i64 0, .int .i64 0, .int .i64 0]) (hne : z.M ≠ k) (v0 v1 v2 v3 v4 v5 : Value) :
    (∃ O', Mv (Pm z.id) O O' w (fin7 w2 z.M k v v0 v1 v2 v3 v4 v5) ∧ Al O' (fin7 w2 z.M k v v0 v1 v2 v3 v4 v5) b.y b.n b.nb x z { m with nx := v } q) ∧ CellsL (fin7 w2 z.M k v v0 v1 v2 v3 v4 v5) k [v0, v1, v2, v3, v4, v5] := by
  have h2 := h.next (by rw [hP]; exact .inr rfl) v
  obtain ⟨O2, d, ps, cs, h2⟩ := h2
  have hk2 : O2 k = loc := (h2.mv.old k hl).trans hk
  have hm : Mv (fun o => o = loc) O2 O2 (w2.setCell ⟨z.M, 11, none⟩ v) (fin7 w2 z.M k v v0 v1 v2 v3 v4 v5) := Mv.own h2.ok (six_chg _ k v0 v1 v2 v3 v4 v5) (fun i hi => by rw [show i = k from hi]; exact hk2)
  have n0 : ¬ (0 = loc) := by unfold loc; omega
  refine ⟨⟨O2, hO.trans ((h2.mv.mono fun o ho => ?_).trans (hm.mono fun o ho => .inr (.inr ho))), h2.ok.mv hm n0, ⟨d, ps, cs, h2.sx.mv hm n0 (by unfold loc; omega) (by unfold loc; omega)⟩, ?_, ?_⟩, CellsL.drew ?_⟩
  · rw [hP] at ho
    exact ho.elim .inl fun e => .inr (.inl e)
  · obtain ⟨p, c, hr⟩ := h2.r
    exact ⟨p, c, hr.mv hm n0 (by unfold loc; omega) (by show ¬ 4 + z.id = loc; unfold loc; omega)⟩
  · have := hq O2 (fin7 w2 z.M k v v0 v1 v2 v3 v4 v5) (fun p hp => Ls.mv hm n0 _ _ (h2.Q p hp))
    rw [ha, hN] at this
    exact this
  · have hx := (((((((hbx.oset hne 11 v).set 0 v0).set 1 v1).set 2 v2).set 3 v3).set 4 v4).set 5 v5)
    exact hx
set_option maxRecDepth 100000 in
set_option maxHeartbeats 4000000 in
/-- A pick that goes on with a step. -/
theorem pick_busy {O : Nat → Nat} {w : World} {y : Sy} {n nb : Nat} {x x' : Sd} {z : Ml} {m m' : Md} {q : K} {q' : Option K} (hnx' : m'.nx = m.nx) (h : Al O w y n nb x z m (some q)) (hn : z.id < n) (hnb : z.id < nb) (htk0 : 0 ≤ m.tk) (htk1 : m.tk ≤ 1000000) (hid : z.id < 2996)
    (HS : ∀ (b : Ba) (W : World) (v : Value), Fits b z → b.y = y → b.n = n → b.nb = nb → Cx b (mxR b.y z { m with ev := fun _ => 0, tk := m.tk + 1 }) W x [] [(q, v)] → ∃ f cap, v = fn f cap ∧ (∀ V, (callFunc f cap).run Tryz.prog V = .ok (.enter f cap) V) ∧ Calls Tryz.prog f cap W fun e w' => ∃ v', e = .returned v' ∧ Out b z w' x' m' q' v') :
    Calls Tryz.prog 13 #[.pointer (some ⟨z.M, 0, none⟩)] w fun e w' => e = .returned (.tuple #[.agg #[.int .i64 (m'.ev 0), .int .i64 (m'.ev 1), .int .i64 (m'.ev 2), .int .i64 (m'.ev 3), .int .i64 (m'.ev 4), .int .i64 (m'.ev 5)], .bool (m'.ev 2 != 0)]) ∧
      ∃ O' v', Mv (Pm z.id) O O' w w' ∧ Al O' w' y n nb x' z { m' with nx := v' } q' := by
  classical
  have HID := Lib.hid hid
  clear hid
  obtain ⟨hok, ⟨d, ps, cs, hsx⟩, hmx, hfn, hls⟩ := h
  let b0 : Ba := ⟨w, O, Pm z.id, y, n, nb, z.M, z.N, by unfold Pm loc; omega, .inl rfl⟩
  have h0 : Cx b0 (mxR b0.y z m) w x [] [(q, m.nx)] := ⟨O, d, ps, cs, Mv.refl hok, hok, hsx, hmx, (fun _ e => by cases e), fun p hp => by rw [List.mem_singleton.1 hp]; exact hls⟩
  have h1 := h0.evt (.inr (.inl rfl)) (m.tk + 1)
  obtain ⟨V, hV⟩ : ∃ V, ((((((w.setCell ⟨z.M, 13, none⟩ (.int .i64 0)).setCell ⟨z.M, 14, none⟩ (.int .i64 0)).setCell ⟨z.M, 15, none⟩ (.int .i64 0)).setCell ⟨z.M, 16, none⟩ (.int .i64 0)).setCell ⟨z.M, 17, none⟩ (.int .i64 0)).setCell ⟨z.M, 18, none⟩ (.int .i64 0)).setCell ⟨z.M, 12, none⟩ (.int .i64 (m.tk + 1)) = V := ⟨_, rfl⟩
  have hVz : V.heap.size = w.heap.size := by rw [← hV]; simp
  rw [hV] at h1
  have c11V0 := h1.m11
  have hlV := h1.ltM
  obtain ⟨O0, d0, ps0, cs0, hc0⟩ := h1
  let O1 : Nat → Nat := fun k => if k = V.heap.size then loc else O0 k
  have e1 : ∀ k, k ≠ V.heap.size → O1 k = O0 k := fun k hk => if_neg hk
  have e2 : O1 V.heap.size = loc := if_pos rfl
  obtain ⟨W1, hW1⟩ : ∃ W1, V.alloc (.cells #[.int .i64 0, .int .i64 0, .int .i64 0, .int .i64 0, .int .i64 0, .int .i64 0] 35) = W1 := ⟨_, rfl⟩
  have hB1 : Below V.heap.size V W1 := by rw [← hW1]; exact (Below.refl _ _).alloc (Nat.le_refl _) _
  have hz1 : W1.heap.size = V.heap.size + 1 := by rw [← hW1, World.size_alloc]
  have hm1 : Mv (fun _ => False) O0 O1 V W1 := ⟨Chg.of_below hB1, fun k hk => e1 k (by omega), fun k hk => by
    by_cases e : k = V.heap.size
    · omega
    · rw [e1 k e] at hk; have := hc0.ok.lt k hk; omega⟩
  have hok1 := hc0.ok.mv hm1 id
  let b1 : Ba := ⟨W1, O1, Pi z.id, y, n, nb, z.M, z.N, by unfold Pi; omega, .inl rfl⟩
  have hsx1 := hc0.sx.mv hm1 id id id
  have hr1 := (mxR y z { m with ev := fun _ => 0, tk := m.tk + 1 }).st (hm1.mono fun _ e => e.elim) hc0.r
  have hq1 : Ls O1 W1 z.M z.N q m.nx := Ls.mv hm1 id _ _ (hc0.Q _ (List.mem_singleton.2 rfl))
  have hx1 : Cx b1 (mxR b1.y z { m with ev := fun _ => 0, tk := m.tk + 1 }) W1 x [] [(q, m.nx)] := ⟨O1, d0, ps0, cs0, Mv.refl hok1, hok1, hsx1, hr1, (fun _ e => by cases e), fun p hp => by rw [List.mem_singleton.1 hp]; exact hq1⟩
  have hfit : Fits b1 z := ⟨rfl, rfl, .inr rfl, hn, hnb⟩
  obtain ⟨f, cap, hnx, hcf, hcall⟩ := HS b1 W1 m.nx hfit rfl rfl rfl hx1
  have hmi := h0.mi
  obtain ⟨pp, cc, T, hmi⟩ := hmi
  rw [← hW1] at hcall
  have c11V : V.cell? ⟨z.M, 11, none⟩ = some (.func (.func f) #[] cap) := c11V0.trans (by show some m.nx = _; rw [hnx])
  have HCALL := Lib.hid hcall
  have HM1 := Lib.hid hmi.ev0
  have hisF : Mu.isF m.nx := ⟨_, _, hnx⟩
  have HB := Lib.hid (Mu.mbusy_yes _ (HM1.out.1.later (show Below _ _ ((((((w.setCell ⟨z.M, 13, none⟩ (.int .i64 0)).setCell ⟨z.M, 14, none⟩ (.int .i64 0)).setCell ⟨z.M, 15, none⟩ (.int .i64 0)).setCell ⟨z.M, 16, none⟩ (.int .i64 0)).setCell ⟨z.M, 17, none⟩ (.int .i64 0)).setCell ⟨z.M, 18, none⟩ (.int .i64 0) |>.alloc (.cells #[.int .i64 0, .int .i64 0, .int .i64 0, .int .i64 0, .int .i64 0, .int .i64 0] 35)) from (Below.refl _ _).alloc (Nat.le_refl _) _)) hisF)
  have e0 : w.cell? ⟨z.M, 13, none⟩ = some (.int .i64 (m.ev 0)) := h0.me (i := 0) (by omega)
  have e1' : w.cell? ⟨z.M, 14, none⟩ = some (.int .i64 (m.ev 1)) := h0.me (i := 1) (by omega)
  have e2' : w.cell? ⟨z.M, 15, none⟩ = some (.int .i64 (m.ev 2)) := h0.me (i := 2) (by omega)
  have e3 : w.cell? ⟨z.M, 16, none⟩ = some (.int .i64 (m.ev 3)) := h0.me (i := 3) (by omega)
  have e4 : w.cell? ⟨z.M, 17, none⟩ = some (.int .i64 (m.ev 4)) := h0.me (i := 4) (by omega)
  have e5 : w.cell? ⟨z.M, 18, none⟩ = some (.int .i64 (m.ev 5)) := h0.me (i := 5) (by omega)
  have f0 := h0.mf 13
  have f1 := h0.mf 14
  have f2 := h0.mf 15
  have f3 := h0.mf 16
  have f4 := h0.mf 17
  have f5 := h0.mf 18
  have f12 := h0.mf 12
  have c12 := h0.m12
  have c11 : w.cell? ⟨z.M, 11, none⟩ = some (.func (.func f) #[] cap) := h0.m11.trans (by rw [hnx])
  have hl : z.M < w.heap.size := h0.ltM
  have HVZ := Lib.hid hVz
  have HZ1 := Lib.hid hz1
  have HE2 : Hid (O1 V.heap.size = loc) := Lib.hid e2
  have HBX : Hid (W1.cell? ⟨V.heap.size, 0, none⟩ = some (.int .i64 0) ∧ W1.cell? ⟨V.heap.size, 1, none⟩ = some (.int .i64 0) ∧ W1.cell? ⟨V.heap.size, 2, none⟩ = some (.int .i64 0) ∧ W1.cell? ⟨V.heap.size, 3, none⟩ = some (.int .i64 0) ∧ W1.cell? ⟨V.heap.size, 4, none⟩ = some (.int .i64 0) ∧ W1.cell? ⟨V.heap.size, 5, none⟩ = some (.int .i64 0) ∧ ∀ o, W1.frozen? ⟨V.heap.size, o, none⟩ = false) := Lib.hid (by
    rw [← hW1]
    exact ⟨by rw [World.cell?_alloc_new]; rfl, by rw [World.cell?_alloc_new]; rfl, by rw [World.cell?_alloc_new]; rfl, by rw [World.cell?_alloc_new]; rfl, by rw [World.cell?_alloc_new]; rfl, by rw [World.cell?_alloc_new]; rfl, fun o => World.frozen?_alloc_at _ _ _ _ rfl⟩)
  have HOUT : Hid (Mv (Pm z.id) O O1 w W1) := Lib.hid (hc0.mv.trans (hm1.mono fun _ e => e.elim))
  have HNX := Lib.hid hnx'
  have HNF := Lib.hid hnx
  have Hhn := Lib.hid (And.intro hn hnb)
  clear c11V0 h0 hc0 hB1 hm1 hok1 hsx1 hr1 hq1 hx1 hfit hcall hmi hok hsx hmx hfn hls HS hnx hn hnb hVz hz1 e1 e2 hW1 hisF HM1
  go_enter Tryz.func13, Tryz.ntmps13
  go_wp2_with (go_at_call 21; refine HB.out.mono ?_; rintro e w1 ⟨rfl, rfl⟩; clear HB)
  refine HCALL.out.mono ?_
  rintro e w2 ⟨v', rfl, hout⟩
  obtain ⟨Q2, hcx, hv, hq⟩ := hout.cx
  have hw2 : ∀ o, w2.cell? ⟨w.heap.size, o, none⟩ = W1.cell? ⟨w.heap.size, o, none⟩ ∧ w2.frozen? ⟨w.heap.size, o, none⟩ = W1.frozen? ⟨w.heap.size, o, none⟩ := fun o => by
    obtain ⟨O2, d2, ps2, cs2, hc2⟩ := hcx
    have hl1 : w.heap.size < W1.heap.size := by have := HZ1.out; have := HVZ.out; omega
    have hnp : ¬ Pi z.id (O1 w.heap.size) := by
      have e := HE2.out
      rw [HVZ.out] at e
      rw [e]
      have := HID.out
      unfold Pi loc
      omega
    exact ⟨hc2.mv.chg.cell (p := ⟨w.heap.size, o, none⟩) hl1 hnp, hc2.mv.chg.frozen (p := ⟨w.heap.size, o, none⟩) hl1 hnp⟩
  have hbw := HBX.out
  rw [HVZ.out] at hbw
  obtain ⟨bb0, bb1, bb2, bb3, bb4, bb5, bbf⟩ := hbw
  have hCL : CellsL w2 w.heap.size [.int .i64 0, .int .i64 0, .int .i64 0, .int .i64 0, .int .i64 0, .int .i64 0] := fun o u hu => by
    rw [(hw2 o).1]
    match o, hu with
    | 0, hu => cases hu; exact bb0
    | 1, hu => cases hu; exact bb1
    | 2, hu => cases hu; exact bb2
    | 3, hu => cases hu; exact bb3
    | 4, hu => cases hu; exact bb4
    | 5, hu => cases hu; exact bb5
    | n + 6, hu => cases hu
  have hl2 : z.M < w2.heap.size := hcx.ltM
  have hlw : w.heap.size < w2.heap.size := lt_of_cell ((hw2 0).1.trans bb0)
  have hne : z.M ≠ w.heap.size := by omega
  have HFIN : Hid (∀ v0 v1 v2 v3 v4 v5, (∃ O', Mv (Pm z.id) O O' w (fin7 w2 z.M w.heap.size v' v0 v1 v2 v3 v4 v5) ∧ Al O' (fin7 w2 z.M w.heap.size v' v0 v1 v2 v3 v4 v5) y n nb x' z { m' with nx := v' } q') ∧ CellsL (fin7 w2 z.M w.heap.size v' v0 v1 v2 v3 v4 v5) w.heap.size [v0, v1, v2, v3, v4, v5]) := Lib.hid (pick_fin HOUT.out rfl rfl rfl hcx hq HID.out (by have e := HE2.out; rw [HVZ.out] at e; exact e) (by have := HZ1.out; have := HVZ.out; show _ < W1.heap.size; omega) hCL hne)
  clear e0 e1' e2' e3 e4 e5 f0 f1 f2 f3 f4 f5 f12 c12 c11
  have e0 : w2.cell? ⟨z.M, 13, none⟩ = some (.int .i64 (m'.ev 0)) := hcx.me (i := 0) (by omega)
  have e1 : w2.cell? ⟨z.M, 14, none⟩ = some (.int .i64 (m'.ev 1)) := hcx.me (i := 1) (by omega)
  have e2 : w2.cell? ⟨z.M, 15, none⟩ = some (.int .i64 (m'.ev 2)) := hcx.me (i := 2) (by omega)
  have e3 : w2.cell? ⟨z.M, 16, none⟩ = some (.int .i64 (m'.ev 3)) := hcx.me (i := 3) (by omega)
  have e4 : w2.cell? ⟨z.M, 17, none⟩ = some (.int .i64 (m'.ev 4)) := hcx.me (i := 4) (by omega)
  have e5 : w2.cell? ⟨z.M, 18, none⟩ = some (.int .i64 (m'.ev 5)) := hcx.me (i := 5) (by omega)
  have f11 := hcx.mf 11
  have c11 : w2.cell? ⟨z.M, 11, none⟩ = some (.func (.func f) #[] cap) := hcx.m11.trans (by rw [HNX.out, HNF.out])
  have bx0 := (hw2 0).1.trans bb0
  have bx1 := (hw2 1).1.trans bb1
  have bx2 := (hw2 2).1.trans bb2
  have bx3 := (hw2 3).1.trans bb3
  have bx4 := (hw2 4).1.trans bb4
  have bx5 := (hw2 5).1.trans bb5
  have g0 := (hw2 0).2.trans (bbf 0)
  have g1 := (hw2 1).2.trans (bbf 1)
  have g2 := (hw2 2).2.trans (bbf 2)
  have g3 := (hw2 3).2.trans (bbf 3)
  have g4 := (hw2 4).2.trans (bbf 4)
  have g5 := (hw2 5).2.trans (bbf 5)
  clear hout hcx hq hw2 bb0 bb1 bb2 bb3 bb4 bb5 bbf hCL HOUT HBX HE2 HZ1 HNX HNF
  rcases hv with rfl | ⟨f9, cap9, rfl⟩
  all_goals
    go_wp2_with fail
    go_region
    go_wp2_with fail
    have hfin := HFIN.out (.int .i64 (m'.ev 0)) (.int .i64 (m'.ev 1)) (.int .i64 (m'.ev 2)) (.int .i64 (m'.ev 3)) (.int .i64 (m'.ev 4)) (.int .i64 (m'.ev 5))
    clear e0 e1 e2 e3 e4 e5 f11 c11 bx0 bx1 bx2 bx3 bx4 bx5 g0 g1 g2 g3 g4 g5 hne hlw hl2
    unfold fin7 at hfin
    generalize World.drew (World.setCell (World.setCell (World.setCell (World.setCell (World.setCell (World.setCell (World.setCell w2 _ _) _ _) _ _) _ _) _ _) _ _) _ _) = WF at *
    obtain ⟨⟨O', hmv, hal⟩, hcl⟩ := hfin
    have k0 := hcl 0 _ rfl
    have k1 := hcl 1 _ rfl
    have k2 := hcl 2 _ rfl
    have k3 := hcl 3 _ rfl
    have k4 := hcl 4 _ rfl
    have k5 := hcl 5 _ rfl
    exact bodyPost_ret (v := .tuple #[.agg #[.int .i64 (m'.ev 0), .int .i64 (m'.ev 1), .int .i64 (m'.ev 2), .int .i64 (m'.ev 3), .int .i64 (m'.ev 4), .int .i64 (m'.ev 5)], .bool (m'.ev 2 != 0)]) (by simp [results, Tryz.results13, go_sem, k0, k1, k2, k3, k4, k5]) rfl ⟨rfl, O', _, hmv, hal⟩
end Go.Proofs.YtipifkgmhgkleaaGreatDoor.Mv

namespace Go.Proofs.YtipifkgmhgkleaaGreatDoor.Mv
open Go.RowKit
open Hp (Ids St Is To Mine)
open Mu (Sy Sd Ml Md MIs ownM lt_of_cell O4 CellsL mutA)
open Go.Proofs.YtipifkgmhgkleaaGreatDoor.Row (Chg rowB Rd other same)
set_option maxRecDepth 100000 in
set_option maxHeartbeats 4000000 in
/-- A pick that begins something, or finds nothing to do. -/
theorem pick_first {O : Nat → Nat} {w : World} {y : Sy} {n nb : Nat} {x x' : Sd} {z : Ml} {m m' : Md} {q' : Option K} (hnx' : m'.nx = m.nx) (h : Al O w y n nb x z m none) (hn : z.id < n) (hnb : z.id < nb) (hid : z.id < 2996)
    (HS : ∀ (b : Ba) (W : World), Fits b z → b.y = y → b.n = n → b.nb = nb → b.P = Pi z.id → Cx b (mxR b.y z { m with ev := fun _ => 0, tk := 1 }) W x [] [] → Calls Tryz.prog 49 #[.pointer (some ⟨z.M, 0, none⟩)] W fun e w' => ∃ v', e = .returned v' ∧ Out b z w' x' m' q' v') :
    Calls Tryz.prog 13 #[.pointer (some ⟨z.M, 0, none⟩)] w fun e w' => e = .returned (.tuple #[.agg #[.int .i64 (m'.ev 0), .int .i64 (m'.ev 1), .int .i64 (m'.ev 2), .int .i64 (m'.ev 3), .int .i64 (m'.ev 4), .int .i64 (m'.ev 5)], .bool (m'.ev 2 != 0)]) ∧
      ∃ O' v', Mv (Pm z.id) O O' w w' ∧ Al O' w' y n nb x' z { m' with nx := v' } q' := by
  classical
  have HID := Lib.hid hid
  clear hid
  obtain ⟨hok, ⟨d, ps, cs, hsx⟩, hmx, hnx⟩ := h
  have hnx : m.nx = .nilFunc := hnx
  let b0 : Ba := ⟨w, O, Pm z.id, y, n, nb, z.M, z.N, by unfold Pm loc; omega, .inl rfl⟩
  have h0 : Cx b0 (mxR b0.y z m) w x [] [] := ⟨O, d, ps, cs, Mv.refl hok, hok, hsx, hmx, (fun _ e => by cases e), (fun _ e => by cases e)⟩
  have h1 := h0.evt (.inr (.inl rfl)) 1
  obtain ⟨V, hV⟩ : ∃ V, ((((((w.setCell ⟨z.M, 13, none⟩ (.int .i64 0)).setCell ⟨z.M, 14, none⟩ (.int .i64 0)).setCell ⟨z.M, 15, none⟩ (.int .i64 0)).setCell ⟨z.M, 16, none⟩ (.int .i64 0)).setCell ⟨z.M, 17, none⟩ (.int .i64 0)).setCell ⟨z.M, 18, none⟩ (.int .i64 0)).setCell ⟨z.M, 12, none⟩ (.int .i64 1) = V := ⟨_, rfl⟩
  have hVz : V.heap.size = w.heap.size := by rw [← hV]; simp
  rw [hV] at h1
  have c11V0 := h1.m11
  have hlV := h1.ltM
  obtain ⟨O0, d0, ps0, cs0, hc0⟩ := h1
  let O1 : Nat → Nat := fun k => if k = V.heap.size then loc else O0 k
  have e1 : ∀ k, k ≠ V.heap.size → O1 k = O0 k := fun k hk => if_neg hk
  have e2 : O1 V.heap.size = loc := if_pos rfl
  obtain ⟨W1, hW1⟩ : ∃ W1, V.alloc (.cells #[.int .i64 0, .int .i64 0, .int .i64 0, .int .i64 0, .int .i64 0, .int .i64 0] 35) = W1 := ⟨_, rfl⟩
  have hB1 : Below V.heap.size V W1 := by rw [← hW1]; exact (Below.refl _ _).alloc (Nat.le_refl _) _
  have hz1 : W1.heap.size = V.heap.size + 1 := by rw [← hW1, World.size_alloc]
  have hm1 : Mv (fun _ => False) O0 O1 V W1 := ⟨Chg.of_below hB1, fun k hk => e1 k (by omega), fun k hk => by
    by_cases e : k = V.heap.size
    · omega
    · rw [e1 k e] at hk; have := hc0.ok.lt k hk; omega⟩
  have hok1 := hc0.ok.mv hm1 id
  let b1 : Ba := ⟨W1, O1, Pi z.id, y, n, nb, z.M, z.N, by unfold Pi; omega, .inl rfl⟩
  have hsx1 := hc0.sx.mv hm1 id id id
  have hr1 := (mxR y z { m with ev := fun _ => 0, tk := 1 }).st (hm1.mono fun _ e => e.elim) hc0.r
  have hx1 : Cx b1 (mxR b1.y z { m with ev := fun _ => 0, tk := 1 }) W1 x [] [] := ⟨O1, d0, ps0, cs0, Mv.refl hok1, hok1, hsx1, hr1, (fun _ e => by cases e), (fun _ e => by cases e)⟩
  have hfit : Fits b1 z := ⟨rfl, rfl, .inr rfl, hn, hnb⟩
  have hcall := HS b1 W1 hfit rfl rfl rfl rfl hx1
  have hmi := h0.mi
  obtain ⟨pp, cc, T, hmi⟩ := hmi
  rw [← hW1] at hcall
  have c11V : V.cell? ⟨z.M, 11, none⟩ = some .nilFunc := c11V0.trans (by show some m.nx = _; rw [hnx])
  have HCALL := Lib.hid hcall
  have HM1 := Lib.hid hmi.ev0
  have HB := Lib.hid (Mu.mbusy_no _ (HM1.out.1.later (show Below _ _ ((((((w.setCell ⟨z.M, 13, none⟩ (.int .i64 0)).setCell ⟨z.M, 14, none⟩ (.int .i64 0)).setCell ⟨z.M, 15, none⟩ (.int .i64 0)).setCell ⟨z.M, 16, none⟩ (.int .i64 0)).setCell ⟨z.M, 17, none⟩ (.int .i64 0)).setCell ⟨z.M, 18, none⟩ (.int .i64 0) |>.alloc (.cells #[.int .i64 0, .int .i64 0, .int .i64 0, .int .i64 0, .int .i64 0, .int .i64 0] 35)) from (Below.refl _ _).alloc (Nat.le_refl _) _)) hnx)
  have e0 : w.cell? ⟨z.M, 13, none⟩ = some (.int .i64 (m.ev 0)) := h0.me (i := 0) (by omega)
  have e1' : w.cell? ⟨z.M, 14, none⟩ = some (.int .i64 (m.ev 1)) := h0.me (i := 1) (by omega)
  have e2' : w.cell? ⟨z.M, 15, none⟩ = some (.int .i64 (m.ev 2)) := h0.me (i := 2) (by omega)
  have e3 : w.cell? ⟨z.M, 16, none⟩ = some (.int .i64 (m.ev 3)) := h0.me (i := 3) (by omega)
  have e4 : w.cell? ⟨z.M, 17, none⟩ = some (.int .i64 (m.ev 4)) := h0.me (i := 4) (by omega)
  have e5 : w.cell? ⟨z.M, 18, none⟩ = some (.int .i64 (m.ev 5)) := h0.me (i := 5) (by omega)
  have f0 := h0.mf 13
  have f1 := h0.mf 14
  have f2 := h0.mf 15
  have f3 := h0.mf 16
  have f4 := h0.mf 17
  have f5 := h0.mf 18
  have f12 := h0.mf 12
  have c12 := h0.m12
  have c11 : w.cell? ⟨z.M, 11, none⟩ = some .nilFunc := h0.m11.trans (by rw [hnx])
  have hl : z.M < w.heap.size := h0.ltM
  have HVZ := Lib.hid hVz
  have HZ1 := Lib.hid hz1
  have HE2 : Hid (O1 V.heap.size = loc) := Lib.hid e2
  have HBX : Hid (W1.cell? ⟨V.heap.size, 0, none⟩ = some (.int .i64 0) ∧ W1.cell? ⟨V.heap.size, 1, none⟩ = some (.int .i64 0) ∧ W1.cell? ⟨V.heap.size, 2, none⟩ = some (.int .i64 0) ∧ W1.cell? ⟨V.heap.size, 3, none⟩ = some (.int .i64 0) ∧ W1.cell? ⟨V.heap.size, 4, none⟩ = some (.int .i64 0) ∧ W1.cell? ⟨V.heap.size, 5, none⟩ = some (.int .i64 0) ∧ ∀ o, W1.frozen? ⟨V.heap.size, o, none⟩ = false) := Lib.hid (by
    rw [← hW1]
    exact ⟨by rw [World.cell?_alloc_new]; rfl, by rw [World.cell?_alloc_new]; rfl, by rw [World.cell?_alloc_new]; rfl, by rw [World.cell?_alloc_new]; rfl, by rw [World.cell?_alloc_new]; rfl, by rw [World.cell?_alloc_new]; rfl, fun o => World.frozen?_alloc_at _ _ _ _ rfl⟩)
  have HOUT : Hid (Mv (Pm z.id) O O1 w W1) := Lib.hid (hc0.mv.trans (hm1.mono fun _ e => e.elim))
  have HNX := Lib.hid hnx'
  have HNF := Lib.hid hnx
  have Hhn := Lib.hid (And.intro hn hnb)
  clear c11V0 h0 hc0 hB1 hm1 hok1 hsx1 hr1 hx1 hfit hcall hmi hok hsx hmx HS hnx hn hnb hVz hz1 e1 e2 hW1 HM1
  go_enter Tryz.func13, Tryz.ntmps13
  go_wp2_with (go_at_call 21; refine HB.out.mono ?_; rintro e w1 ⟨rfl, rfl⟩; clear HB)
  go_at_call 49
  refine HCALL.out.mono ?_
  rintro e w2 ⟨v', rfl, hout⟩
  obtain ⟨Q2, hcx, hv, hq⟩ := hout.cx
  have hw2 : ∀ o, w2.cell? ⟨w.heap.size, o, none⟩ = W1.cell? ⟨w.heap.size, o, none⟩ ∧ w2.frozen? ⟨w.heap.size, o, none⟩ = W1.frozen? ⟨w.heap.size, o, none⟩ := fun o => by
    obtain ⟨O2, d2, ps2, cs2, hc2⟩ := hcx
    have hl1 : w.heap.size < W1.heap.size := by have := HZ1.out; have := HVZ.out; omega
    have hnp : ¬ Pi z.id (O1 w.heap.size) := by
      have e := HE2.out
      rw [HVZ.out] at e
      rw [e]
      have := HID.out
      unfold Pi loc
      omega
    exact ⟨hc2.mv.chg.cell (p := ⟨w.heap.size, o, none⟩) hl1 hnp, hc2.mv.chg.frozen (p := ⟨w.heap.size, o, none⟩) hl1 hnp⟩
  have hbw := HBX.out
  rw [HVZ.out] at hbw
  obtain ⟨bb0, bb1, bb2, bb3, bb4, bb5, bbf⟩ := hbw
  have hCL : CellsL w2 w.heap.size [.int .i64 0, .int .i64 0, .int .i64 0, .int .i64 0, .int .i64 0, .int .i64 0] := fun o u hu => by
    rw [(hw2 o).1]
    match o, hu with
    | 0, hu => cases hu; exact bb0
    | 1, hu => cases hu; exact bb1
    | 2, hu => cases hu; exact bb2
    | 3, hu => cases hu; exact bb3
    | 4, hu => cases hu; exact bb4
    | 5, hu => cases hu; exact bb5
    | n + 6, hu => cases hu
  have hl2 : z.M < w2.heap.size := hcx.ltM
  have hlw : w.heap.size < w2.heap.size := lt_of_cell ((hw2 0).1.trans bb0)
  have hne : z.M ≠ w.heap.size := by omega
  have HFIN : Hid (∀ v0 v1 v2 v3 v4 v5, (∃ O', Mv (Pm z.id) O O' w (fin7 w2 z.M w.heap.size v' v0 v1 v2 v3 v4 v5) ∧ Al O' (fin7 w2 z.M w.heap.size v' v0 v1 v2 v3 v4 v5) y n nb x' z { m' with nx := v' } q') ∧ CellsL (fin7 w2 z.M w.heap.size v' v0 v1 v2 v3 v4 v5) w.heap.size [v0, v1, v2, v3, v4, v5]) := Lib.hid (pick_fin HOUT.out rfl rfl rfl hcx hq HID.out (by have e := HE2.out; rw [HVZ.out] at e; exact e) (by have := HZ1.out; have := HVZ.out; show _ < W1.heap.size; omega) hCL hne)
  clear e0 e1' e2' e3 e4 e5 f0 f1 f2 f3 f4 f5 f12 c12 c11
  have e0 : w2.cell? ⟨z.M, 13, none⟩ = some (.int .i64 (m'.ev 0)) := hcx.me (i := 0) (by omega)
  have e1 : w2.cell? ⟨z.M, 14, none⟩ = some (.int .i64 (m'.ev 1)) := hcx.me (i := 1) (by omega)
  have e2 : w2.cell? ⟨z.M, 15, none⟩ = some (.int .i64 (m'.ev 2)) := hcx.me (i := 2) (by omega)
  have e3 : w2.cell? ⟨z.M, 16, none⟩ = some (.int .i64 (m'.ev 3)) := hcx.me (i := 3) (by omega)
  have e4 : w2.cell? ⟨z.M, 17, none⟩ = some (.int .i64 (m'.ev 4)) := hcx.me (i := 4) (by omega)
  have e5 : w2.cell? ⟨z.M, 18, none⟩ = some (.int .i64 (m'.ev 5)) := hcx.me (i := 5) (by omega)
  have f11 := hcx.mf 11
  have c11 : w2.cell? ⟨z.M, 11, none⟩ = some .nilFunc := hcx.m11.trans (by rw [HNX.out, HNF.out])
  have bx0 := (hw2 0).1.trans bb0
  have bx1 := (hw2 1).1.trans bb1
  have bx2 := (hw2 2).1.trans bb2
  have bx3 := (hw2 3).1.trans bb3
  have bx4 := (hw2 4).1.trans bb4
  have bx5 := (hw2 5).1.trans bb5
  have g0 := (hw2 0).2.trans (bbf 0)
  have g1 := (hw2 1).2.trans (bbf 1)
  have g2 := (hw2 2).2.trans (bbf 2)
  have g3 := (hw2 3).2.trans (bbf 3)
  have g4 := (hw2 4).2.trans (bbf 4)
  have g5 := (hw2 5).2.trans (bbf 5)
  clear hout hcx hq hw2 bb0 bb1 bb2 bb3 bb4 bb5 bbf hCL HOUT HBX HE2 HZ1 HNX HNF
  rcases hv with rfl | ⟨f9, cap9, rfl⟩
  all_goals
    go_wp2_with fail
    go_region
    go_wp2_with fail
    have hfin := HFIN.out (.int .i64 (m'.ev 0)) (.int .i64 (m'.ev 1)) (.int .i64 (m'.ev 2)) (.int .i64 (m'.ev 3)) (.int .i64 (m'.ev 4)) (.int .i64 (m'.ev 5))
    clear e0 e1 e2 e3 e4 e5 f11 c11 bx0 bx1 bx2 bx3 bx4 bx5 g0 g1 g2 g3 g4 g5 hne hlw hl2
    unfold fin7 at hfin
    generalize World.drew (World.setCell (World.setCell (World.setCell (World.setCell (World.setCell (World.setCell (World.setCell w2 _ _) _ _) _ _) _ _) _ _) _ _) _ _) = WF at *
    obtain ⟨⟨O', hmv, hal⟩, hcl⟩ := hfin
    have k0 := hcl 0 _ rfl
    have k1 := hcl 1 _ rfl
    have k2 := hcl 2 _ rfl
    have k3 := hcl 3 _ rfl
    have k4 := hcl 4 _ rfl
    have k5 := hcl 5 _ rfl
    exact bodyPost_ret (v := .tuple #[.agg #[.int .i64 (m'.ev 0), .int .i64 (m'.ev 1), .int .i64 (m'.ev 2), .int .i64 (m'.ev 3), .int .i64 (m'.ev 4), .int .i64 (m'.ev 5)], .bool (m'.ev 2 != 0)]) (by simp [results, Tryz.results13, go_sem, k0, k1, k2, k3, k4, k5]) rfl ⟨rfl, O', _, hmv, hal⟩
end Go.Proofs.YtipifkgmhgkleaaGreatDoor.Mv

namespace Go.Proofs.YtipifkgmhgkleaaGreatDoor.Mv
open Go.RowKit
open Hp (Ids St Is To Mine)
open Mu (Sy Sd Ml Md MIs ownM lt_of_cell O4 CellsL mutA OpsR cellsO cellsO_at)
open Go.Proofs.YtipifkgmhgkleaaGreatDoor.Row (Chg rowB Rd other same)
open Class (quiet_left)
section
variable {b : Ba} {z : Ml} {m : Md} {w : World} {x : Sd} {L : List (Nat × Nat × Value)} {Q : List (K × Value)}
theorem cx_pend_no {R : Rs} {i : Nat} (h : Cx b R w x L Q) (hi : i < b.n) (how : x.ow i = false) : Calls Tryz.prog 83 #[.pointer (some ⟨b.y.B, 0, none⟩), .int .i64 i] w fun e w' => e = .returned (.tuple #[.int .i64 0, .bool false]) ∧ w = w' := by
  obtain ⟨O, d, ps, cs, h⟩ := h
  exact Brd.pend_shut i w h.sx.sh.bd hi how
/-- The operation at a place, as it can be read. -/
theorem op_at {w : World} {p : Option Addr} {l : List O4} (h : OpsR w p l) {j : Nat} {o : O4} (ho : l[j]? = some o) : ∃ g off, p = some ⟨g, off, none⟩ ∧ w.cell? ⟨g, off + j * 4, none⟩ = some (.int .i64 o.1) ∧ w.cell? ⟨g, off + j * 4 + 1, none⟩ = some (.int .i64 o.2.1) ∧ w.cell? ⟨g, off + j * 4 + 2, none⟩ = some (.int .i64 o.2.2.1) ∧ w.cell? ⟨g, off + j * 4 + 3, none⟩ = some (.int .i64 o.2.2.2) := by
  rcases h with ⟨_, e⟩ | ⟨g, off, e, hc⟩
  · rw [e] at ho; cases ho
  · refine ⟨g, off, e, ?_, ?_, ?_, ?_⟩
    · exact hc (j * 4 + 0) _ ((cellsO_at (by omega) ho).trans rfl)
    · exact hc (j * 4 + 1) _ ((cellsO_at (by omega) ho).trans rfl)
    · exact hc (j * 4 + 2) _ ((cellsO_at (by omega) ho).trans rfl)
    · exact hc (j * 4 + 3) _ ((cellsO_at (by omega) ho).trans rfl)
set_option maxRecDepth 100000 in
set_option maxHeartbeats 4000000 in
/-- Nothing is owed, an operation is next. -/
theorem first_op (o : O4) (hz : o.1 = 1 → Tz b.y) (h : Cx b (mxR b.y z m) w x L Q) (hf : Fits b z) (hr : x.s.c.r = (m.rg.length : Int)) (hl64 : m.rg.length ≤ 64) (how : x.ow z.id = false) (ho : m.pg[m.rs.length]? = some o) (_hp : m.pg.length ≤ 100000) :
    Calls Tryz.prog 49 #[.pointer (some ⟨z.M, 0, none⟩)] w fun e w' => ∃ g c2, e = .returned (.func (.func g) #[] c2) ∧ Cx b (mxR b.y z m) w' x L ((opK x m o, fn g c2) :: Q) := by
  have c0 := h.m0
  have c1 := h.m1
  have c8 := h.m8
  have s1 := h.s1
  obtain ⟨p, c, T, hmi⟩ := h.mi
  have c9 : w.cell? ⟨z.M, 9, none⟩ = some (.slice p m.rs.length c) := hmi.c9
  obtain ⟨g, off, hpp, d0, d1, d2, d3⟩ := op_at (show OpsR w z.pp m.pg from hmi.pg) ho
  rw [hpp] at c8
  have hl := h.ltM
  have hl2 := h.ltS
  have hlg : g < w.heap.size := lt_of_cell d0
  have hlt : m.rs.length < m.pg.length := by
    rcases Nat.lt_or_ge m.rs.length m.pg.length with e | e
    · exact e
    · rw [List.getElem?_eq_none e] at ho; cases ho
  have hlt2 : (m.rs.length : Int) < (m.pg.length : Int) := by omega
  have HP := Lib.hid (fun q => cx_pend_no (h.drewN q) hf.n how)
  have HM := Lib.hid (fun q => mk_operate o hz hf hr hl64 (h.drewN q))
  obtain ⟨nr, hnr⟩ : ∃ nr, m.rs.length = nr := ⟨_, rfl⟩
  obtain ⟨np, hnp⟩ : ∃ np, m.pg.length = np := ⟨_, rfl⟩
  rw [hnr] at c9 hlt hlt2 d0 d1 d2 d3
  rw [hnp] at c8 hlt hlt2
  clear h hmi hpp how ho hf hr hl64
  go_enter Tryz.func49, Tryz.ntmps49
  go_wp2_with fail
  go_quiet ((go_at_call 83; exact quiet_left (HP.out _)))
  go_wp2_with fail
  refine (HM.out _).mono ?_
  rintro e w2 ⟨g2, c2, rfl, h2⟩
  go_wp2_with fail
  go_ret
  exact ⟨_, _, rfl, h2⟩
set_option maxRecDepth 100000 in
set_option maxHeartbeats 4000000 in
/-- Nothing is owed, no operation is left. -/
theorem first_none (h : Cx b (mxR b.y z m) w x L Q) (hf : Fits b z) (how : x.ow z.id = false) (hle : m.pg.length ≤ m.rs.length) :
    Calls Tryz.prog 49 #[.pointer (some ⟨z.M, 0, none⟩)] w fun e w' => e = .returned .nilFunc ∧ Cx b (mxR b.y z m) w' x L Q := by
  have c0 := h.m0
  have c1 := h.m1
  have c8 := h.m8
  have s1 := h.s1
  obtain ⟨p, c, T, hmi⟩ := h.mi
  have c9 : w.cell? ⟨z.M, 9, none⟩ = some (.slice p m.rs.length c) := hmi.c9
  have hl := h.ltM
  have hl2 := h.ltS
  have hlt : ¬ m.rs.length < m.pg.length := by omega
  have hlt2 : ¬ (m.rs.length : Int) < (m.pg.length : Int) := by omega
  have HP := Lib.hid (fun q => cx_pend_no (h.drewN q) hf.n how)
  have HM := Lib.hid (fun q => h.drewN q)
  clear h hmi how hf hle
  go_enter Tryz.func49, Tryz.ntmps49
  go_wp2_with fail
  go_quiet ((go_at_call 83; exact quiet_left (HP.out _)))
  go_wp2_with fail
  go_ret
  exact ⟨rfl, HM.out _⟩
end
end Go.Proofs.YtipifkgmhgkleaaGreatDoor.Mv

namespace Go.Proofs.YtipifkgmhgkleaaGreatDoor.Mv
open Go.RowKit
open Hp (Ids St Is To Mine)
open Mu (Sy Sd Ml Md MIs ownM lt_of_cell O4 CellsL mutA)
open Go.Proofs.YtipifkgmhgkleaaGreatDoor.Row (Chg rowB Rd other same)
open Class (quiet_left)
open Go.MapKept
section
variable {b : Ba} {z : Ml} {m : Md} {w : World} {x : Sd} {L : List (Nat × Nat × Value)} {Q : List (K × Value)}
/-- What an answer begins with, of any request but scan. -/
def rpK (m : Md) (k : Int) : K := if k = 1 then .ans .arm else if k = 5 then pourK m.xs m.tb (.ans .drain) else if k = 7 then .ans .off else .ans .sync
end
end Go.Proofs.YtipifkgmhgkleaaGreatDoor.Mv
