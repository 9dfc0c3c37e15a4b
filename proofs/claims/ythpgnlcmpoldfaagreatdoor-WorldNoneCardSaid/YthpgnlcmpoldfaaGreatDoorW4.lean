/-
  A pick that tells an event; a run; the law's awake.
-/
import Derived.Test.YthpgnlcmpoldfaaGreatDoorW2
import Derived.Test.YthpgnlcmpoldfaaGreatDoorMuB
import Derived.Test.YthpgnlcmpoldfaaGreatDoorW3
namespace Go.Proofs.YthpgnlcmpoldfaaGreatDoor.Wo
open Go.RowKit
open Go.Proofs.YthpgnlcmpoldfaaGreatDoor.Row (Chg rowB rowB_none same other step_append_own info_parts owns_block owns_lt owns_chg)
/-- A list that is laid. -/
theorem list_at {w : World} {a : Nat} {L : List Value} {t : TypeId} (h : a = w.heap.size) : ∀ (j : Nat) (u : Value), L[j]? = some u → (w.alloc (.cells L.toArray t)).cell? ((⟨a, 0, none⟩ : Addr).add j) = some u := by
  subst h
  intro j u hu
  rw [show (⟨w.heap.size, 0, none⟩ : Addr).add j = ⟨w.heap.size, j, none⟩ by simp [Addr.add]; exact fun e => e.symm, World.cell?_alloc_new, ← hu, ← List.getElem?_toArray]
/-- What an append leaves, whatever its size. -/
theorem pushN {Y Y0 w3 : World} {base n m cap size : Nat} {e : TypeId} {p : Option Addr} {v' : Value} {ys : List Value} (hb : Below Y.heap.size Y Y0)
    (hown : w3.ownsRow base e size v' (n + m) ys) (hg : Y0.grownBy w3 (Value.slice p n cap).ownBlock) : ∃ p' cap', v' = .slice p' (n + m) cap' ∧ Chg (rowB p) Y w3 := by
  obtain ⟨p', cap', rfl⟩ := Row.owns_slice hown
  exact ⟨p', cap', rfl, ⟨hg.os.trans hb.os, hg.tape.trans hb.tape, hg.output.trans hb.output, Nat.le_trans hb.size hg.size, fun k hk hn => (hg.block k (Nat.lt_of_lt_of_le hk hb.size) (fun e => hn ((Row.ownBlock_slice p n cap k).1 e.symm))).trans (hb.block k hk)⟩⟩
theorem WoAt.evs {w : World} {x : Wl} (h : WoAt w x) (p : Int) (pe : Option Addr) (ne ce : Nat) : WoAt ((w.setCell ⟨x.W, 12, none⟩ (.slice pe ne ce)).setCell ⟨x.W, 11, none⟩ (.int .i64 p)) { x with picks := p, pe := pe, ne := ne, ce := ce } :=
  have h1 : WoAt (w.setCell ⟨x.W, 12, none⟩ (.slice pe ne ce)) { x with pe := pe, ne := ne, ce := ce } :=
    ⟨(other (by simp)).trans h.c0, (other (by simp)).trans h.c1, (other (by simp)).trans h.c2, (other (by simp)).trans h.c3, (other (by simp)).trans h.c4, (other (by simp)).trans h.c5, (other (by simp)).trans h.c6, (other (by simp)).trans h.c7, (other (by simp)).trans h.c8, (other (by simp)).trans h.c9, (other (by simp)).trans h.c10, (other (by simp)).trans h.c11, same h.c12, fun o => (World.frozen?_setCell ..).trans (h.fz o)⟩
  h1.took p
set_option maxRecDepth 100000 in
set_option maxHeartbeats 4000000 in
theorem wo_event {w : World} {x : Wl} {who g off bs : Nat} {es : List Value} {t : TypeId} {v : Value} {f : FuncId} {R : World → Prop} {e0 e1 e2 e3 e4 e5 : Int} (h : WoAt w x) (hp : x.pk = some ⟨g, off, none⟩) (hj : who < x.nk) (h9 : x.picks < 100000) (h8 : 0 ≤ x.picks) (hv : w.cell? ⟨g, off + who, none⟩ = some (.iface t v)) (hbs : x.W < bs) (hbw : bs ≤ w.heap.size) (hne : x.ne ≤ 100000)
    (hm : ∀ n W, (method (n + 1) t v "Pick").run Tryz.prog W = .ok (f, v) W) (hent : ∀ args W, (callFunc f args).run Tryz.prog W = .ok (.enter f args) W)
    (hc : Calls Tryz.prog f #[v] w fun e w' => e = .returned (.tuple #[.agg #[.int .i64 e0, .int .i64 e1, .int .i64 e2, .int .i64 e3, .int .i64 e4, .int .i64 e5], .bool true]) ∧ WoAt w' x ∧ w'.ownsRow bs 35 6 (.slice x.pe x.ne x.ce) x.ne es ∧ w.heap.size ≤ w'.heap.size ∧ R w') :
    Calls Tryz.prog 40 #[.pointer (some ⟨x.W, 0, none⟩), .int .i64 who] w fun e w' => e = .returned (.int .i64 0) ∧ ∃ (w1 : World), R w1 ∧ Chg (fun k => k = x.W ∨ rowB x.pe k) w1 w' ∧ ∃ (pe : Option Addr) (ce : Nat), WoAt w' { x with picks := x.picks + 1, pe := pe, ne := x.ne + 1, ce := ce } ∧ w'.ownsRow bs 35 6 (.slice pe (x.ne + 1) ce) (x.ne + 1) (es ++ [.int .i64 x.picks, .int .i64 e1, .int .i64 e2, .int .i64 e3, .int .i64 e4, .int .i64 e5]) := by
  have c := h.c10
  rw [hp] at c
  have d := h.c11
  have hl := Mu.lt_of_cell c
  have hl2 := Mu.lt_of_cell hv
  have HNE := Lib.hid hne
  obtain ⟨nk, hnk⟩ : ∃ k, x.nk = k := ⟨_, rfl⟩
  rw [hnk] at c hj
  have h0 : ¬ (who : Int) < 0 := by omega
  have h1 : ¬ (nk : Int) ≤ (who : Int) := by omega
  have h2 : (who : Int) < (nk : Int) := by omega
  have h3 : (0 : Int) ≤ (who : Int) := by omega
  have h4 : ¬ x.picks = 100000 := by omega
  have hm2 : ∀ W, (method 407 t v "Pick").run Tryz.prog W = .ok (f, v) W := hm _
  have hcf : ∀ W, (callFunc f #[v]).run Tryz.prog W = .ok (.enter f #[v]) W := fun W => hent _ W
  have HC := Lib.hid hc
  clear h hp hnk hm hent hc
  go_enter Tryz.func40, Tryz.ntmps40
  go_wp2_with fail
  refine HC.out.mono ?_
  rintro e w2 ⟨rfl, hw, hrow, hsz, hR⟩
  have HROW := Lib.hid hrow
  have HSZ := Lib.hid (And.intro hsz (And.intro hbw (And.intro hbs hne)))
  have d12 := hw.c12
  have f12 := hw.fz 12
  have HW := Lib.hid hw
  have HR := Lib.hid hR
  have d2 := hw.c11
  have f2 := hw.fz 11
  have hl3 := Mu.lt_of_cell d2
  clear c d hl hl2 hv hw hR hrow hsz hbs hbw hne
  go_wp2_with fail
  obtain ⟨hsz, hbw, hbs, hne⟩ := HSZ.out
  obtain ⟨V, hV⟩ : ∃ V, w2.alloc (.cells #[.int .i64 x.picks, .int .i64 e1, .int .i64 e2, .int .i64 e3, .int .i64 e4, .int .i64 e5] 35) = V := ⟨_, rfl⟩
  have hbV : Below w2.heap.size w2 V := by rw [← hV]; exact (Below.refl _ _).alloc (Nat.le_refl _) _
  have hc0 : ∀ j u, [(Value.int .i64 x.picks), .int .i64 e1, .int .i64 e2, .int .i64 e3, .int .i64 e4, .int .i64 e5][j]? = some u → V.cell? ⟨w2.heap.size, j, none⟩ = some u := fun j u hu => by
    rw [← hV, World.cell?_alloc_new, ← hu, ← List.getElem?_toArray]
  have hzV : V.heap.size = w2.heap.size + 1 := by rw [← hV]; simp
  rw [hV]
  have b0 := hc0 0 _ rfl
  have b1 := hc0 1 _ rfl
  have b2 := hc0 2 _ rfl
  have b3 := hc0 3 _ rfl
  have b4 := hc0 4 _ rfl
  have b5 := hc0 5 _ rfl
  have hwV := HW.out.later hbV
  have HWV := Lib.hid hwV
  have HBV := Lib.hid hbV
  have d12 := hwV.c12
  have f12 := hwV.fz 12
  have d11 := hwV.c11
  have f11 := hwV.fz 11
  have hlW := Mu.lt_of_cell d11
  have hlb := Mu.lt_of_cell b0
  have HRV : Hid (∀ U, Below V.heap.size V U → U.ownsRow bs 35 6 (.slice x.pe x.ne x.ce) x.ne es) := Lib.hid fun U hU => owns_block HROW.out (fun g hg => by have := (owns_lt HROW.out hg).2; exact (hU.block g (by omega)).trans (hbV.block g this))
  have HBS : Hid (bs ≤ V.heap.size) := Lib.hid (by omega)
  obtain ⟨i0, hinf, hz0, hz1, hz2⟩ := info_parts infoEv
  have nO1 : x.ne + 1 ≤ maxLen := by unfold maxLen; omega
  have nO2 : (x.ne + 1) * 48 ≤ 140737488355328 := by omega
  have HDV : Hid (Below V.heap.size V V.drew) := Lib.hid (Below.refl _ _).drew
  have HNW : Hid (¬ rowB x.pe x.W) := Lib.hid fun e => by have := (owns_lt HROW.out e).1; omega
  clear hV hbV hc0 hzV hwV hsz hbw hbs hne d2 f2 hl3
  go_region_law (refine step_append_own rfl (.tmp 49) (.tmp 51) 76 rfl bs 35 i0 (.agg #[.int .i64 0, .int .i64 0, .int .i64 0, .int .i64 0, .int .i64 0, .int .i64 0]) 6 48 Tryz.underlying76 hinf hz0 hz1 hz2 rfl (by decide) (.slice x.pe x.ne x.ce) x.ne es rfl (by first | exact HRV.out _ (HDV.out.alloc HDV.out.size _) | exact HRV.out _ ((Below.refl _ _).alloc (Nat.le_refl _) _).drew) ⟨V.heap.size, 0, none⟩ 1 1 [.int .i64 x.picks, .int .i64 e1, .int .i64 e2, .int .i64 e3, .int .i64 e4, .int .i64 e5] rfl rfl (by first | exact list_at rfl | exact list_at (w := V.drew) rfl) (by simp [Value.oneCell']) nO1 nO2 (by have := HBS.out; first | (simp; done) | (simp; omega)) ?_; intro v' w9 hown hgrow hat; obtain ⟨pe', ce', rfl, hC⟩ := pushN (Y := V) ((Below.refl _ _).drew.alloc (Nat.le_refl _) _) hown hgrow; have q12 := (hC.cell (p := ⟨x.W, 12, none⟩) hlW HNW.out).trans d12; have r12 := (hC.frozen (p := ⟨x.W, 12, none⟩) hlW HNW.out).trans f12; have q11 := (hC.cell (p := ⟨x.W, 11, none⟩) hlW HNW.out).trans d11; have r11 := (hC.frozen (p := ⟨x.W, 11, none⟩) hlW HNW.out).trans f11; have HX := Lib.hid (And.intro hown hC); have hlX := Mu.lt_of_cell q11; clear hown hgrow hat hC d12 f12 d11 f11)
  all_goals go_wp2_with fail
  all_goals go_ret
  all_goals (
    obtain ⟨hown, hC⟩ := HX.out
    refine ⟨rfl, w2, HR.out, (((Chg.of_below HBV.out).trans (hC.mono fun k e => .inr e) (fun k e => .inl e)).set (p := ⟨x.W, 12, none⟩) (.inl (.inl rfl)) _).set (p := ⟨x.W, 11, none⟩) (.inl (.inl rfl)) _, pe', ce', WoAt.evs (HWV.out.kept (hC.block _ hlW HNW.out)) _ _ _ _, owns_block hown (fun g hg => ?_)⟩
    have hgW : g ≠ x.W := fun e => by have := (owns_lt hown hg).1; have := HSZ.out.2.2.1; omega
    exact (Below.heap_setCell _ _ _ _ hgW).trans (Below.heap_setCell _ _ _ _ hgW))
end Go.Proofs.YthpgnlcmpoldfaaGreatDoor.Wo

namespace Go.Proofs.YthpgnlcmpoldfaaGreatDoor.Wo
open Go.RowKit
open Go.Proofs.YthpgnlcmpoldfaaGreatDoor.Row (Chg)
/-- What each pick of a run needs and leaves. -/
def RunsBy (W g off n : Nat) (q : Nat → Int) (R : Nat → World → Prop) : Prop := ∀ i, i < n → ∀ V, R i V → V.cell? ⟨g, off + i, none⟩ = some (.int .i64 (q i)) ∧ Calls Tryz.prog 40 #[.pointer (some ⟨W, 0, none⟩), .int .i64 (q i)] V fun e w' => e = .returned (.int .i64 0) ∧ R (i + 1) w'
set_option maxRecDepth 100000 in
set_option maxHeartbeats 4000000 in
theorem run_all {W g off n cap : Nat} {q : Nat → Int} {R : Nat → World → Prop} (w : World) (hn : n ≤ 1000000) (h : RunsBy W g off n q R) (h0 : R 0 w) :
    Calls Tryz.prog 39 #[.pointer (some ⟨W, 0, none⟩), .slice (some ⟨g, off, none⟩) n cap] w fun e w' => e = .returned (.tuple #[.int .i64 n, .int .i64 0]) ∧ R n w' := by
  have HH := Lib.hid h
  have H0 := Lib.hid h0
  clear h h0
  go_enter Tryz.func39, Tryz.ntmps39
  go_wp2_with fail
  go_step3
  go_wp2_with fail
  go_step3
  go_wp2_with fail
  go_loopw [6, 7, 9, 14] (fun d cd _ i wr => ∃ j : Nat, j ≤ n ∧ d = .int .i64 j ∧ cd = .int .i64 0 ∧ i = .int .i64 j ∧ R j wr) (fun _ _ _ i _ => n - (intOf i).toNat)
  case atStart => exact ⟨0, Nat.zero_le _, rfl, rfl, rfl, H0.out⟩
  case round =>
    clear H0
    obtain ⟨j, hj, rfl, rfl, rfl, hR⟩ := hrel
    have HR := Lib.hid hR
    clear hR
    have jn : (j : Int) ≤ 1000000 := by omega
    by_cases hlt : j < n
    · have j1 : (j : Int) < (n : Int) := by omega
      have j0 : (0 : Int) ≤ (j : Int) := by omega
      obtain ⟨hc, hp⟩ := HH.out j hlt wr HR.out
      have HP := Lib.hid hp
      have hl := Mu.lt_of_cell hc
      clear hp
      go_wp2_with (go_at_call 40; fail)
      refine HP.out.mono ?_
      rintro e w7 ⟨rfl, hR7⟩
      have HR7 := Lib.hid hR7
      clear hR7 HP hc hl
      go_wp2_with fail
      refine ⟨⟨j + 1, by omega, by go_num, rfl, by go_num, HR7.out⟩, ?_⟩
      simp [intOf]; omega
    · obtain rfl : j = n := by omega
      go_wp2_with fail
      simp only [Exit.noGoto]
      go_ret2
      exact ⟨rfl, HR.out⟩
end Go.Proofs.YthpgnlcmpoldfaaGreatDoor.Wo

namespace Go.Proofs.YthpgnlcmpoldfaaGreatDoor.Wo
open Go.RowKit
open Blk (Cfg)
open Mu (Sy Sd ShIs sd0 lt_of_cell CoIs cpick_begin)
open Go.Proofs.YthpgnlcmpoldfaaGreatDoor.Row (Chg rowB rowB_none)
/-- What lies behind each pick. -/
def Rw (V0 : World) (x : Wl) (y : Sy) (G : Nat) : Nat → World → Prop
  | 0, V => V = V0
  | 1, V => CoIs V x.C y.S G { Mu.cd0 with wi := true } ∧ WoAt V { x with picks := 1 } ∧ Chg (fun k => k = x.W ∨ k = x.C) V0 V
  | _, V => ∃ (pe : Option Addr) (ce : Nat), WoAt V { x with picks := 2, pe := pe, ne := 1, ce := ce } ∧ V.ownsRow (x.W + 1) 35 6 (.slice pe 1 ce) 1 [.int .i64 1, .int .i64 1, .int .i64 2, .int .i64 0, .int .i64 0, .int .i64 1] ∧ Chg (fun k => k = x.W ∨ k = x.C ∨ k = y.B) V0 V
def qAw (i : Nat) : Int := if i = 0 then 2 else 1
set_option maxRecDepth 100000 in
theorem awake_runs {w w1 V0 : World} {x : Wl} {y : Sy} {T : Nat → Prop} {c : Cfg} {n nc G g b : Nat} (h : WoNew w w1 x y T (sd0 c n nc) 1 G g) (hM : c.m = 1) (hb : Below w1.heap.size w1 V0) (hb0 : w1.heap.size ≤ b)
    (c0 : V0.cell? ⟨b, 0, none⟩ = some (.int .i64 2)) (c1 : V0.cell? ⟨b, 1, none⟩ = some (.int .i64 1)) : RunsBy x.W b 0 2 qAw (Rw V0 x y G) := by
  obtain ⟨W, c', S, pm, nm, cm, C, pk, nk, ck, picks, pe0, ne0, ce0⟩ := x
  have hp0 : pe0 = none := h.pe.1
  have hp1 : ne0 = 0 := h.pe.2.1
  have hp2 : ce0 = 0 := h.pe.2.2.1
  have hp3 : picks = 0 := h.pe.2.2.2
  have hp4 : nk = 1 + 2 := h.nk
  subst hp0 hp1 hp2 hp3 hp4
  have hlW : W < w1.heap.size := lt_of_cell h.wo.c0
  have hlC : C < w1.heap.size := h.co.lt
  have hdC : W ≠ C := h.dC
  have hdB : W ≠ y.B := h.dB
  have hgW : g ≠ W := h.gW
  have hgC : g ≠ C := h.gC
  intro i hi V hR
  rcases i with _ | _ | i
  · obtain rfl : V = V0 := hR
    have hwo := h.wo.later hb
    refine ⟨c0, ?_⟩
    refine (wo_still (who := 2) (off := 0) (R := fun V' => CoIs V' C y.S G { Mu.cd0 with wi := true } ∧ Chg (fun k => k = C) V V') hwo h.pk (by show 2 < 1 + 2; omega) (by show (0 : Int) < 100000; omega) (by show (0 : Int) ≤ 0; omega) ((hb.cell (p := ⟨g, 0 + 2, none⟩) (lt_of_cell h.vw)).trans h.vw) (fun n W => met_wish n C W) ent_wish ((wish_pick V (h.co.later hb)).mono ?_)).mono ?_
    · rintro e w' ⟨rfl, hc, hch⟩
      exact ⟨0, 0, 0, 0, 0, 0, rfl, hwo.kept (hch.block _ (Nat.lt_of_lt_of_le hlW hb.size) hdC), hc, hch⟩
    · rintro e w' ⟨rfl, w2, ⟨hc2, hch2⟩, hch3, hwo3⟩
      exact ⟨rfl, hc2.chg hch3 (fun e => hdC e.symm), hwo3, (hch2.mono fun k e => .inr e).trans hch3 (fun k e => .inl (.inl e))⟩
  · obtain ⟨hco, hwo, hch⟩ := hR
    have hsz : w1.heap.size ≤ V.heap.size := Nat.le_trans hb.size hch.size
    have hlb : b < V0.heap.size := lt_of_cell c0
    refine ⟨(hch.cell (p := ⟨b, 0 + 1, none⟩) hlb (fun e => e.elim (fun e => by have e : b = W := e; omega) (fun e => by have e : b = C := e; omega))).trans c1, ?_⟩
    have hsh : ShIs V y T (sd0 c n nc) 1 1 := (h.sh.later hb).chg hch (fun k e => e.elim (fun e => e ▸ h.apW.1) (fun e => e ▸ h.ap.1)) (fun k e => e.elim (fun e => e ▸ h.apW.2) (fun e => e ▸ h.ap.2))
    have hvc : V.cell? ⟨g, 0 + 1, none⟩ = some (.iface 61 (.pointer (some ⟨C, 0, none⟩))) := (hch.cell (p := ⟨g, 0 + 1, none⟩) (Nat.lt_of_lt_of_le (lt_of_cell h.vc) hb.size) (fun e => e.elim hgW hgC)).trans ((hb.cell (p := ⟨g, 0 + 1, none⟩) (lt_of_cell h.vc)).trans h.vc)
    have hck := cpick_begin (M := 1) V hsh hco h.ap (Nat.le_refl _) (by show c.m = _; rw [hM]; rfl) (by simp [Mu.sd0, Brd.allB]) (by show (0 : Int) ≤ 0; omega) (by show (0 : Int) ≤ 1000000; omega) (by show (0 : Int) ≤ 0; omega) (by show (0 : Int) ≤ 1000000; omega) (.inl rfl) rfl rfl
    refine (wo_event (who := 1) (off := 0) (bs := W + 1) (es := []) (R := fun V' => Chg (fun k => k = C ∨ k = y.B) V V') (e0 := 0) (e1 := 1) (e2 := 2) (e3 := 0) (e4 := 0) (e5 := 1) hwo h.pk (by show 1 < 1 + 2; omega) (by show (1 : Int) < 100000; omega) (by show (0 : Int) ≤ 1; omega) hvc (Nat.lt_succ_self _) (by omega) (by show 0 ≤ 100000; omega) (fun n W => met_coll n C W) ent_coll (hck.mono ?_)).mono ?_
    · rintro e w' ⟨rfl, v, -, -, -, hc2⟩
      exact ⟨rfl, hwo.kept (hc2.block _ (Nat.lt_of_lt_of_le hlW hsz) (fun e => e.elim hdC hdB)), World.ownsRow_nil .., hc2.size, hc2⟩
    · rintro e w' ⟨rfl, w2, hc2, hc3, pe, ce, hwo3, hrow⟩
      exact ⟨rfl, pe, ce, hwo3, hrow, ((hch.mono fun k e => e.imp id .inl).trans hc2 (fun k e => .inl (.inr e))).trans hc3 (fun k e => e.elim (fun e => .inl (.inl e)) (fun e => absurd e (rowB_none k)))⟩
  · omega
end Go.Proofs.YthpgnlcmpoldfaaGreatDoor.Wo

namespace Go.Proofs.YthpgnlcmpoldfaaGreatDoor.Wo
open Go.RowKit
open Blk (Cfg)
open Go.Proofs.YthpgnlcmpoldfaaGreatDoor.Addr (Tabs)
open Mu (Sy Sd ShIs sd0 lt_of_cell CoIs OpsR owns_cellN)
open Go.Proofs.YthpgnlcmpoldfaaGreatDoor.Row (Chg rowB rowB_none)
def eW : Cfg := ⟨1, 16, 1, 1, 0, 1, 1⟩
theorem progR_none (w : World) (M : Nat) : ProgR w none 0 0 M :=
  ⟨Nat.zero_le _, fun id _ => ⟨none, [], 0, Nat.zero_le _, fun _ => rfl, .inl ⟨rfl, rfl⟩, fun V _ => prog_out none 0 0 id V (Nat.zero_le _)⟩⟩
/-- The events behind both picks. -/
theorem Rw.events {V0 V : World} {x : Wl} {y : Sy} {G : Nat} (h : Rw V0 x y G 2 V) : Calls Tryz.prog 43 #[.pointer (some ⟨x.W, 0, none⟩)] V fun e w' => ∃ (g cap : Nat), e = .returned (.slice (some ⟨g, 0, none⟩) 1 cap) ∧ (∀ j u, [(Value.int .i64 1), .int .i64 1, .int .i64 2, .int .i64 0, .int .i64 0, .int .i64 1][j]? = some u → w'.cell? ⟨g, j, none⟩ = some u) ∧ Below V.heap.size V w' := by
  obtain ⟨pe, ce, hwo, hrow, hch⟩ := h
  obtain ⟨g, rfl, hce⟩ : ∃ g, pe = some ⟨g, 0, none⟩ ∧ 1 ≤ ce := by
    obtain ⟨_, ⟨_, h2⟩ | ⟨g, cap, cur, e, _, _, h3, _⟩⟩ := hrow
    · omega
    · cases e; exact ⟨g, rfl, h3⟩
  refine (wo_events (l := [(1, 1, 2, 0, 0, 1)]) hwo rfl (by decide) (fun e => by cases e) (.inr ⟨g, 0, rfl, fun j u hu => by rw [Nat.zero_add]; exact owns_cellN hrow j u hu⟩) hce).mono ?_
  rintro e w' ⟨p', cap', rfl, hown, hb⟩
  obtain ⟨g', rfl⟩ : ∃ g', p' = some ⟨g', 0, none⟩ := by
    obtain ⟨_, ⟨_, h2⟩ | ⟨g', cap, cur, e, _⟩⟩ := hown
    · simp at h2
    · cases e; exact ⟨g', rfl⟩
  exact ⟨g', cap', rfl, fun j u hu => owns_cellN hown j u hu, hb⟩
set_option maxRecDepth 100000 in
set_option maxHeartbeats 4000000 in
theorem awake_any (w : World) (ht : Tab1 w) : Calls Tryz.prog 50 #[] w fun e w' => e = .returned (.bool true) ∧ Below w.heap.size w w' := by
  have HN := Lib.hid (new_any eW 16 0 1 none 0 0 w ht (by decide) (by decide) (by decide) (by decide) (by decide) (by decide) (progR_none w 1))
  clear ht
  go_enter Tryz.func50, Tryz.ntmps50
  go_wp2_with (go_at_call 38; fail)
  refine HN.out.mono ?_
  rintro e w1 ⟨x, y, T, G, g, rfl, -, hn⟩
  have HNW := Lib.hid hn
  clear hn HN
  go_wp2_with (go_at_call 39; fail)
  have hb : Below w1.heap.size w1 (w1.alloc (.cells #[.int .i64 2, .int .i64 1] 3)) := (Below.refl _ _).alloc (Nat.le_refl _) _
  have hrun := awake_runs HNW.out rfl hb (Nat.le_refl w1.heap.size) (by simp) (by simp)
  refine (run_all (R := Rw (w1.alloc (.cells #[.int .i64 2, .int .i64 1] 3)) x y G) _ (by decide) hrun rfl).mono ?_
  rintro e w2 ⟨rfl, hR⟩
  have HR := Lib.hid hR
  have HB := Lib.hid hb
  clear hrun hR hb
  go_wp2_with (go_at_call 43; fail)
  refine HR.out.events.mono ?_
  rintro e w3 ⟨g3, cap3, rfl, hc, hb3⟩
  have z0 := hc 0 _ rfl
  have z1 := hc 1 _ rfl
  have z2 := hc 2 _ rfl
  have z3 := hc 3 _ rfl
  have z4 := hc 4 _ rfl
  have z5 := hc 5 _ rfl
  have hl3 := lt_of_cell z0
  have HB3 := Lib.hid hb3
  clear hc hb3
  go_wp2_with fail
  go_ret
  refine ⟨rfl, ?_⟩
  obtain ⟨pe, ce, hwo, hrow, hch⟩ := HR.out
  refine (HNW.out.bel.trans (HB.out.mono HNW.out.bel.size)).trans ?_
  have hN : w.heap.size ≤ (w1.alloc (.cells #[.int .i64 2, .int .i64 1] 3)).heap.size := Nat.le_trans HNW.out.bel.size HB.out.size
  refine (hch.below (fun k e => ?_) hN).trans (HB3.out.mono (Nat.le_trans hN hch.size))
  rcases e with e | e | e
  · exact e ▸ HNW.out.nW
  · exact e ▸ HNW.out.nC
  · exact e ▸ HNW.out.nB
end Go.Proofs.YthpgnlcmpoldfaaGreatDoor.Wo
