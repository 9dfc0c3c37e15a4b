/-
  A world's record, what it tells, its picks, its events.
-/
import Derived.Test.YthpgnlcmpoldfaaGreatDoorW1
import Derived.Laws.AppendOwn
namespace Go.Proofs.YthpgnlcmpoldfaaGreatDoor.Wo
open Go.RowKit
open Blk (Cfg)
/-- Where a world lies, and what its record holds. -/
structure Wl where
  W : Nat
  c : Cfg
  S : Nat
  pm : Option Addr
  nm : Nat
  cm : Nat
  C : Nat
  pk : Option Addr
  nk : Nat
  ck : Nat
  picks : Int
  pe : Option Addr
  ne : Nat
  ce : Nat
structure WoAt (w : World) (x : Wl) : Prop where
  c0 : w.cell? ⟨x.W, 0, none⟩ = some (.int .i64 x.c.b)
  c1 : w.cell? ⟨x.W, 1, none⟩ = some (.int .i64 x.c.wd)
  c2 : w.cell? ⟨x.W, 2, none⟩ = some (.int .i64 x.c.m)
  c3 : w.cell? ⟨x.W, 3, none⟩ = some (.int .i64 x.c.r)
  c4 : w.cell? ⟨x.W, 4, none⟩ = some (.int .i64 x.c.ce)
  c5 : w.cell? ⟨x.W, 5, none⟩ = some (.int .i64 x.c.lg)
  c6 : w.cell? ⟨x.W, 6, none⟩ = some (.int .i64 x.c.st)
  c7 : w.cell? ⟨x.W, 7, none⟩ = some (.pointer (some ⟨x.S, 0, none⟩))
  c8 : w.cell? ⟨x.W, 8, none⟩ = some (.slice x.pm x.nm x.cm)
  c9 : w.cell? ⟨x.W, 9, none⟩ = some (.pointer (some ⟨x.C, 0, none⟩))
  c10 : w.cell? ⟨x.W, 10, none⟩ = some (.slice x.pk x.nk x.ck)
  c11 : w.cell? ⟨x.W, 11, none⟩ = some (.int .i64 x.picks)
  c12 : w.cell? ⟨x.W, 12, none⟩ = some (.slice x.pe x.ne x.ce)
  fz : ∀ o, w.frozen? ⟨x.W, o, none⟩ = false
variable {w : World} {x : Wl}
set_option maxRecDepth 100000
theorem wo_picks (h : WoAt w x) : Calls Tryz.prog 42 #[.pointer (some ⟨x.W, 0, none⟩)] w fun e w' => e = .returned (.int .i64 x.picks) ∧ w' = w := by
  have c := h.c11
  have hl := Mu.lt_of_cell c
  clear h
  go_enter Tryz.func42, Tryz.ntmps42
  go_wp2_with fail
  go_ret
  exact ⟨rfl, rfl⟩
theorem wo_coll (h : WoAt w x) : Calls Tryz.prog 46 #[.pointer (some ⟨x.W, 0, none⟩)] w fun e w' => e = .returned (.pointer (some ⟨x.C, 0, none⟩)) ∧ w' = w := by
  have c := h.c9
  have hl := Mu.lt_of_cell c
  clear h
  go_enter Tryz.func46, Tryz.ntmps46
  go_wp2_with fail
  go_ret
  exact ⟨rfl, rfl⟩
theorem wo_shared (h : WoAt w x) : Calls Tryz.prog 47 #[.pointer (some ⟨x.W, 0, none⟩)] w fun e w' => e = .returned (.pointer (some ⟨x.S, 0, none⟩)) ∧ w' = w := by
  have c := h.c7
  have hl := Mu.lt_of_cell c
  clear h
  go_enter Tryz.func47, Tryz.ntmps47
  go_wp2_with fail
  go_ret
  exact ⟨rfl, rfl⟩
theorem wo_mut {g off j M : Nat} (h : WoAt w x) (hp : x.pm = some ⟨g, off, none⟩) (hj : j < x.nm) (hv : w.cell? ⟨g, off + j, none⟩ = some (.pointer (some ⟨M, 0, none⟩))) : Calls Tryz.prog 45 #[.pointer (some ⟨x.W, 0, none⟩), .int .i64 j] w fun e w' => e = .returned (.pointer (some ⟨M, 0, none⟩)) ∧ w' = w := by
  have c := h.c8
  rw [hp] at c
  have hl := Mu.lt_of_cell c
  have hl2 := Mu.lt_of_cell hv
  obtain ⟨nm, hnm⟩ : ∃ k, x.nm = k := ⟨_, rfl⟩
  rw [hnm] at c hj
  have h0 : ¬ (j : Int) < 0 := by omega
  have h1 : ¬ (nm : Int) ≤ (j : Int) := by omega
  have h2 : (j : Int) < (nm : Int) := by omega
  have h3 : (0 : Int) ≤ (j : Int) := by omega
  clear h hp hnm
  go_enter Tryz.func45, Tryz.ntmps45
  go_wp2_with fail
  go_ret
  exact ⟨rfl, rfl⟩
theorem wo_range (h : WoAt w x) (who : Int) (hw : who < 0 ∨ (x.nk : Int) ≤ who) : Calls Tryz.prog 40 #[.pointer (some ⟨x.W, 0, none⟩), .int .i64 who] w fun e w' => e = .returned (.int .i64 4) ∧ w' = w := by
  have c := h.c10
  have hl := Mu.lt_of_cell c
  clear h
  rcases hw with h1 | h1
  · go_enter Tryz.func40, Tryz.ntmps40
    go_wp2_with fail
    go_ret
    exact ⟨rfl, rfl⟩
  · have h2 : ¬ who < 0 := by omega
    go_enter Tryz.func40, Tryz.ntmps40
    go_wp2_with fail
    go_ret
    exact ⟨rfl, rfl⟩
theorem wo_long (h : WoAt w x) (who : Int) (h0 : ¬ who < 0) (h1 : ¬ (x.nk : Int) ≤ who) (hp : x.picks = 100000) : Calls Tryz.prog 40 #[.pointer (some ⟨x.W, 0, none⟩), .int .i64 who] w fun e w' => e = .returned (.int .i64 3) ∧ w' = w := by
  have c := h.c10
  have d := h.c11
  rw [hp] at d
  have hl := Mu.lt_of_cell c
  clear h hp
  go_enter Tryz.func40, Tryz.ntmps40
  go_wp2_with fail
  go_ret
  exact ⟨rfl, rfl⟩
theorem wo_config (h : WoAt w x) : Calls Tryz.prog 41 #[.pointer (some ⟨x.W, 0, none⟩)] w fun e w' => e = .returned (.agg #[.int .i64 x.c.b, .int .i64 x.c.wd, .int .i64 x.c.m, .int .i64 x.c.r, .int .i64 x.c.ce, .int .i64 x.c.lg, .int .i64 x.c.st]) ∧ Below w.heap.size w w' := by
  have c0 := h.c0
  have c1 := h.c1
  have c2 := h.c2
  have c3 := h.c3
  have c4 := h.c4
  have c5 := h.c5
  have c6 := h.c6
  have hl := Mu.lt_of_cell c0
  have HA : Hid (∀ o, Below w.heap.size w (w.alloc o)) := Lib.hid fun o => (Below.refl _ _).alloc (Nat.le_refl _) _
  clear h
  go_enter Tryz.func41, Tryz.ntmps41
  go_wp2_with fail
  exact bodyPost_ret (v := .agg #[.int .i64 x.c.b, .int .i64 x.c.wd, .int .i64 x.c.m, .int .i64 x.c.r, .int .i64 x.c.ce, .int .i64 x.c.lg, .int .i64 x.c.st]) (by simp [results, Tryz.results41, go_sem]) rfl ⟨rfl, HA.out _⟩
/-- A pick that wishes. -/
theorem wish_pick {K S G : Nat} {x : Mu.Cd} (w : World) (h : Mu.CoIs w K S G x) : Calls Tryz.prog 348 #[.agg #[.pointer (some ⟨K, 0, none⟩)]] w fun e w' => e = .returned (.tuple #[.agg #[.int .i64 0, .int .i64 0, .int .i64 0, .int .i64 0, .int .i64 0, .int .i64 0], .bool false]) ∧ Mu.CoIs w' K S G { x with wi := true } ∧ Row.Chg (fun k => k = K) w w' := by
  have hK : K < w.heap.size := h.lt
  obtain ⟨V, hV⟩ : ∃ V, ((w.alloc (.cells #[.pointer (some ⟨K, 0, none⟩)] 129)).alloc (.cells #[.int .i64 0, .int .i64 0, .int .i64 0, .int .i64 0, .int .i64 0, .int .i64 0] 35)) = V := ⟨_, rfl⟩
  have hb : Below w.heap.size w V := by rw [← hV]; exact ((Below.refl _ _).alloc (Nat.le_refl _) _).alloc (by simp) _
  have hz : V.heap.size = w.heap.size + 2 := by rw [← hV]; simp
  have hz1 : (w.alloc (.cells #[.pointer (some ⟨K, 0, none⟩)] 129)).heap.size = w.heap.size + 1 := by simp
  have bx : ∀ o, o < 6 → V.cell? ⟨w.heap.size + 1, o, none⟩ = some (.int .i64 0) := fun o ho => by
    rw [← hV, ← hz1, World.cell?_alloc_new]
    match o, ho with
    | 0, _ => rfl
    | 1, _ => rfl
    | 2, _ => rfl
    | 3, _ => rfl
    | 4, _ => rfl
    | 5, _ => rfl
  have bg : ∀ o, V.frozen? ⟨w.heap.size + 1, o, none⟩ = false := fun o => by rw [← hV, ← hz1]; exact World.frozen?_alloc_at _ _ _ _ rfl
  have HW := (Mu.cwish_any (K := K) (S := S) (G := G) (x := x) V (h.later hb)).mono fun e w' hq => (show e = .returned (.tuple #[]) ∧ Mu.CoIs w' K S G { x with wi := true } ∧ Row.Chg (fun k => k = K) w w' ∧ (∀ o, o < 6 → w'.cell? ⟨w.heap.size + 1, o, none⟩ = some (.int .i64 0)) ∧ (∀ o, w'.frozen? ⟨w.heap.size + 1, o, none⟩ = false) from
    ⟨hq.1, hq.2.1, (Row.Chg.of_below hb).trans hq.2.2 (fun _ e => .inl e), fun o ho => (hq.2.2.cell (p := ⟨w.heap.size + 1, o, none⟩) (by show w.heap.size + 1 < _; omega) (fun e => by have e2 : w.heap.size + 1 = K := e; omega)).trans (bx o ho), fun o => (hq.2.2.frozen (p := ⟨w.heap.size + 1, o, none⟩) (by show w.heap.size + 1 < _; omega) (fun e => by have e2 : w.heap.size + 1 = K := e; omega)).trans (bg o)⟩)
  rw [← hV] at HW
  have HW := Lib.hid HW
  have HK := Lib.hid hK
  clear h hV hb hz hz1 bx bg hK
  go_enter Tryz.func348, Tryz.ntmps348
  go_wp2_with (go_at_call 30; fail)
  refine HW.out.mono ?_
  rintro e w2 ⟨rfl, h1, h2, h3, h4⟩
  have H := Lib.hid (And.intro h1 h2)
  have e0 := h3 0 (by omega)
  have e1 := h3 1 (by omega)
  have e2 := h3 2 (by omega)
  have e3 := h3 3 (by omega)
  have e4 := h3 4 (by omega)
  have e5 := h3 5 (by omega)
  have g0 := h4 0
  have g1 := h4 1
  have g2 := h4 2
  have g3 := h4 3
  have g4 := h4 4
  have g5 := h4 5
  have hl := Mu.lt_of_cell e0
  clear h1 h2 h3 h4 HW
  go_wp2_with fail
  have hCL : Mu.CellsL w2 (w.heap.size + 1) [(.int .i64 0), (.int .i64 0), (.int .i64 0), (.int .i64 0), (.int .i64 0), (.int .i64 0)] := fun o u hu => by
    match o, hu with
    | 0, hu => cases hu; exact e0
    | 1, hu => cases hu; exact e1
    | 2, hu => cases hu; exact e2
    | 3, hu => cases hu; exact e3
    | 4, hu => cases hu; exact e4
    | 5, hu => cases hu; exact e5
    | n + 6, hu => cases hu
  have hc : Row.Chg (fun k => k = w.heap.size + 1) w2 ((((((w2.setCell ⟨w.heap.size + 1, 0, none⟩ (.int .i64 0)).setCell ⟨w.heap.size + 1, 1, none⟩ (.int .i64 0)).setCell ⟨w.heap.size + 1, 2, none⟩ (.int .i64 0)).setCell ⟨w.heap.size + 1, 3, none⟩ (.int .i64 0)).setCell ⟨w.heap.size + 1, 4, none⟩ (.int .i64 0)).setCell ⟨w.heap.size + 1, 5, none⟩ (.int .i64 0)) := (((((((Row.Chg.refl (fun k => k = w.heap.size + 1) w2).set (p := ⟨w.heap.size + 1, 0, none⟩) (.inl rfl) (.int .i64 0)).set (p := ⟨w.heap.size + 1, 1, none⟩) (.inl rfl) (.int .i64 0)).set (p := ⟨w.heap.size + 1, 2, none⟩) (.inl rfl) (.int .i64 0)).set (p := ⟨w.heap.size + 1, 3, none⟩) (.inl rfl) (.int .i64 0)).set (p := ⟨w.heap.size + 1, 4, none⟩) (.inl rfl) (.int .i64 0)).set (p := ⟨w.heap.size + 1, 5, none⟩) (.inl rfl) (.int .i64 0))
  have hl2 : Mu.CellsL ((((((w2.setCell ⟨w.heap.size + 1, 0, none⟩ (.int .i64 0)).setCell ⟨w.heap.size + 1, 1, none⟩ (.int .i64 0)).setCell ⟨w.heap.size + 1, 2, none⟩ (.int .i64 0)).setCell ⟨w.heap.size + 1, 3, none⟩ (.int .i64 0)).setCell ⟨w.heap.size + 1, 4, none⟩ (.int .i64 0)).setCell ⟨w.heap.size + 1, 5, none⟩ (.int .i64 0)) (w.heap.size + 1) [(.int .i64 0), (.int .i64 0), (.int .i64 0), (.int .i64 0), (.int .i64 0), (.int .i64 0)] := ((((((hCL.set 0 (.int .i64 0)).set 1 (.int .i64 0)).set 2 (.int .i64 0)).set 3 (.int .i64 0)).set 4 (.int .i64 0)).set 5 (.int .i64 0))
  clear e0 e1 e2 e3 e4 e5 g0 g1 g2 g3 g4 g5 hCL
  generalize ((((((w2.setCell ⟨w.heap.size + 1, 0, none⟩ (.int .i64 0)).setCell ⟨w.heap.size + 1, 1, none⟩ (.int .i64 0)).setCell ⟨w.heap.size + 1, 2, none⟩ (.int .i64 0)).setCell ⟨w.heap.size + 1, 3, none⟩ (.int .i64 0)).setCell ⟨w.heap.size + 1, 4, none⟩ (.int .i64 0)).setCell ⟨w.heap.size + 1, 5, none⟩ (.int .i64 0)) = WF at *
  have k0 := hl2 0 _ rfl
  have k1 := hl2 1 _ rfl
  have k2 := hl2 2 _ rfl
  have k3 := hl2 3 _ rfl
  have k4 := hl2 4 _ rfl
  have k5 := hl2 5 _ rfl
  have H1 := H.out.1.chg hc (fun e => by have := HK.out; omega)
  have H2 : Row.Chg (fun k => k = K) w WF := H.out.2.trans hc (fun k e => .inr (by omega))
  exact bodyPost_ret (v := .tuple #[.agg #[(.int .i64 0), (.int .i64 0), (.int .i64 0), (.int .i64 0), (.int .i64 0), (.int .i64 0)], .bool false]) (by simp [results, Tryz.results348, go_sem, k0, k1, k2, k3, k4, k5]) rfl ⟨rfl, H1, H2⟩
end Go.Proofs.YthpgnlcmpoldfaaGreatDoor.Wo

namespace Go.Proofs.YthpgnlcmpoldfaaGreatDoor.Wo
open Go.RowKit
open Go.Proofs.YthpgnlcmpoldfaaGreatDoor.Row (Chg same other)
theorem WoAt.kept {w w' : World} {x : Wl} (h : WoAt w x) (hb : w'.heap[x.W]? = w.heap[x.W]?) : WoAt w' x :=
  ⟨(Row.cell_of_block (a := ⟨x.W, 0, none⟩) hb).trans h.c0, (Row.cell_of_block (a := ⟨x.W, 1, none⟩) hb).trans h.c1, (Row.cell_of_block (a := ⟨x.W, 2, none⟩) hb).trans h.c2, (Row.cell_of_block (a := ⟨x.W, 3, none⟩) hb).trans h.c3, (Row.cell_of_block (a := ⟨x.W, 4, none⟩) hb).trans h.c4, (Row.cell_of_block (a := ⟨x.W, 5, none⟩) hb).trans h.c5, (Row.cell_of_block (a := ⟨x.W, 6, none⟩) hb).trans h.c6, (Row.cell_of_block (a := ⟨x.W, 7, none⟩) hb).trans h.c7, (Row.cell_of_block (a := ⟨x.W, 8, none⟩) hb).trans h.c8, (Row.cell_of_block (a := ⟨x.W, 9, none⟩) hb).trans h.c9, (Row.cell_of_block (a := ⟨x.W, 10, none⟩) hb).trans h.c10, (Row.cell_of_block (a := ⟨x.W, 11, none⟩) hb).trans h.c11, (Row.cell_of_block (a := ⟨x.W, 12, none⟩) hb).trans h.c12, fun o => (Row.frozen_of_block (a := ⟨x.W, o, none⟩) hb).trans (h.fz o)⟩
theorem WoAt.later {w w' : World} {x : Wl} (h : WoAt w x) (hb : Below w.heap.size w w') : WoAt w' x := h.kept (hb.block _ (Mu.lt_of_cell h.c0))
theorem WoAt.took {w : World} {x : Wl} (h : WoAt w x) (p : Int) : WoAt (w.setCell ⟨x.W, 11, none⟩ (.int .i64 p)) { x with picks := p } :=
  ⟨(other (by simp)).trans h.c0, (other (by simp)).trans h.c1, (other (by simp)).trans h.c2, (other (by simp)).trans h.c3, (other (by simp)).trans h.c4, (other (by simp)).trans h.c5, (other (by simp)).trans h.c6, (other (by simp)).trans h.c7, (other (by simp)).trans h.c8, (other (by simp)).trans h.c9, (other (by simp)).trans h.c10, same h.c11, (other (by simp)).trans h.c12, fun o => (World.frozen?_setCell ..).trans (h.fz o)⟩
theorem met_mut (n M : Nat) (w : World) : (method (n + 1) 30 (.pointer (some ⟨M, 0, none⟩)) "Pick").run Tryz.prog w = .ok (11, .pointer (some ⟨M, 0, none⟩)) w := by kernel_rfl
theorem met_coll (n M : Nat) (w : World) : (method (n + 1) 61 (.pointer (some ⟨M, 0, none⟩)) "Pick").run Tryz.prog w = .ok (28, .pointer (some ⟨M, 0, none⟩)) w := by kernel_rfl
theorem met_wish (n M : Nat) (w : World) : (method (n + 1) 129 (.agg #[.pointer (some ⟨M, 0, none⟩)]) "Pick").run Tryz.prog w = .ok (348, .agg #[.pointer (some ⟨M, 0, none⟩)]) w := by kernel_rfl
theorem ent_mut : ∀ args W, (callFunc 11 args).run Tryz.prog W = .ok (.enter 11 args) W := enters_of Tryz.func11 (by kernel_rfl) rfl
theorem ent_coll : ∀ args W, (callFunc 28 args).run Tryz.prog W = .ok (.enter 28 args) W := enters_of Tryz.func28 (by kernel_rfl) rfl
theorem ent_wish : ∀ args W, (callFunc 348 args).run Tryz.prog W = .ok (.enter 348 args) W := enters_of Tryz.func348 (by kernel_rfl) rfl
set_option maxRecDepth 100000 in
set_option maxHeartbeats 2000000 in
theorem wo_still {w : World} {x : Wl} {who g off : Nat} {t : TypeId} {v : Value} {f : FuncId} {R : World → Prop} (h : WoAt w x) (hp : x.pk = some ⟨g, off, none⟩) (hj : who < x.nk) (h9 : x.picks < 100000) (h8 : 0 ≤ x.picks) (hv : w.cell? ⟨g, off + who, none⟩ = some (.iface t v))
    (hm : ∀ n W, (method (n + 1) t v "Pick").run Tryz.prog W = .ok (f, v) W) (hent : ∀ args W, (callFunc f args).run Tryz.prog W = .ok (.enter f args) W)
    (hc : Calls Tryz.prog f #[v] w fun e w' => ∃ e0 e1 e2 e3 e4 e5 : Int, e = .returned (.tuple #[.agg #[.int .i64 e0, .int .i64 e1, .int .i64 e2, .int .i64 e3, .int .i64 e4, .int .i64 e5], .bool false]) ∧ WoAt w' x ∧ R w') :
    Calls Tryz.prog 40 #[.pointer (some ⟨x.W, 0, none⟩), .int .i64 who] w fun e w' => e = .returned (.int .i64 0) ∧ ∃ w1, R w1 ∧ Chg (fun k => k = x.W) w1 w' ∧ WoAt w' { x with picks := x.picks + 1 } := by
  have c := h.c10
  rw [hp] at c
  have d := h.c11
  have hl := Mu.lt_of_cell c
  have hl2 := Mu.lt_of_cell hv
  obtain ⟨nk, hnk⟩ : ∃ k, x.nk = k := ⟨_, rfl⟩
  rw [hnk] at c hj
  have h0 : ¬ (who : Int) < 0 := by omega
  have h1 : ¬ (nk : Int) ≤ (who : Int) := by omega
  have h2 : (who : Int) < (nk : Int) := by omega
  have h3 : (0 : Int) ≤ (who : Int) := by omega
  have h4 : ¬ x.picks = 100000 := by omega
  have hm2 : ∀ W, (method 407 t v "Pick").run Tryz.prog W = .ok (f, v) W := hm _
  have hcf : ∀ W, (callFunc f #[v]).run Tryz.prog W = .ok (.enter f #[v]) W := fun W => hent _ W
  have HC := Lib.hid hc
  clear h hp hnk hm hent hc
  go_enter Tryz.func40, Tryz.ntmps40
  go_wp2_with fail
  refine HC.out.mono ?_
  rintro e w2 ⟨e0, e1, e2, e3, e4, e5, rfl, hw, hR⟩
  have HW := Lib.hid hw
  have HR := Lib.hid hR
  have d2 := hw.c11
  have f2 := hw.fz 11
  have hl3 := Mu.lt_of_cell d2
  clear c d hl hl2 hv hw hR
  go_wp2_with fail
  go_ret
  exact ⟨rfl, w2, HR.out, ((Chg.refl (fun k => k = x.W) w2).set (p := ⟨x.W, 11, none⟩) (.inl rfl) _).alloc _, (HW.out.took _).later ((Below.refl _ _).alloc (Nat.le_refl _) _)⟩
end Go.Proofs.YthpgnlcmpoldfaaGreatDoor.Wo

namespace Go.Proofs.YthpgnlcmpoldfaaGreatDoor.Wo
open Go.RowKit
open Class (quiet_left)
set_option maxRecDepth 100000 in
theorem wo_idle {w : World} {x : Wl} {bu wi : Bool} (h : WoAt w x)
    (hb : Calls Tryz.prog 36 #[.pointer (some ⟨x.C, 0, none⟩)] w fun e w' => e = .returned (.bool bu) ∧ w' = w)
    (hw : Calls Tryz.prog 32 #[.pointer (some ⟨x.C, 0, none⟩)] w fun e w' => e = .returned (.bool wi) ∧ w' = w) :
    Calls Tryz.prog 49 #[.pointer (some ⟨x.W, 0, none⟩)] w fun e w' => e = .returned (.bool (!bu && !wi)) ∧ w' = w := by
  have c := h.c9
  have hl := Mu.lt_of_cell c
  have HB := Lib.hid hb
  have HW := Lib.hid hw
  clear h hb hw
  cases bu <;> cases wi
  all_goals
    go_enter Tryz.func49, Tryz.ntmps49
    go_wp2_with (first
      | (go_at_call 36; refine HB.out.mono ?_; rintro e w1 ⟨rfl, rfl⟩)
      | (go_at_call 32; refine HW.out.mono ?_; rintro e w1 ⟨rfl, rfl⟩))
    go_ret
    exact ⟨rfl, rfl⟩
end Go.Proofs.YthpgnlcmpoldfaaGreatDoor.Wo

namespace Go.Proofs.YthpgnlcmpoldfaaGreatDoor.Wo
open Go.RowKit
open Mu (owns_cellN lt_of_cell)
open Go.Proofs.YthpgnlcmpoldfaaGreatDoor.Row (Chg rowB rowB_none other same cell_of_block frozen_of_block owns_lt owns_chg owns_cell owns_slice info_parts)
/-- An event. -/
abbrev E6 := Int × Int × Int × Int × Int × Int
def e6C (x : E6) : List Value := [.int .i64 x.1, .int .i64 x.2.1, .int .i64 x.2.2.1, .int .i64 x.2.2.2.1, .int .i64 x.2.2.2.2.1, .int .i64 x.2.2.2.2.2]
def cellsE (l : List E6) : List Value := l.flatMap e6C
theorem e6C_len (x : E6) : (e6C x).length = 6 := rfl
theorem cellsE_len (l : List E6) : (cellsE l).length = l.length * 6 := by
  induction l with
  | nil => rfl
  | cons x l ih => simp only [cellsE, List.flatMap_cons, List.length_append, List.length_cons] at ih ⊢; rw [ih, e6C_len]; omega
theorem cellsE_at {l : List E6} {j t : Nat} (ht : t < 6) {x : E6} (hx : l[j]? = some x) : (cellsE l)[j * 6 + t]? = (e6C x)[t]? := by
  induction l generalizing j with
  | nil => simp at hx
  | cons y l ih =>
    cases j with
    | zero =>
      simp only [List.getElem?_cons_zero, Option.some.injEq] at hx
      subst hx
      simp only [cellsE, List.flatMap_cons, Nat.zero_mul, Nat.zero_add]
      rw [List.getElem?_append_left (by rw [e6C_len]; exact ht)]
    | succ j =>
      simp only [List.getElem?_cons_succ] at hx
      have := ih hx
      simp only [cellsE, List.flatMap_cons] at this ⊢
      rw [List.getElem?_append_right (by rw [e6C_len]; omega), e6C_len, ← this]
      congr 1
      omega
theorem infoEv : (Tryz.prog.info? 35).map (fun i => (i.zero, i.size, i.bytes)) = some (some (.agg #[.int .i64 0, .int .i64 0, .int .i64 0, .int .i64 0, .int .i64 0, .int .i64 0]), 6, 48) := by kernel_rfl
/-- Events that can be read. -/
def EvsR (w : World) (p : Option Addr) (l : List E6) : Prop := (p = none ∧ l = []) ∨ ∃ g off, p = some ⟨g, off, none⟩ ∧ ∀ (j : Nat) (u : Value), (cellsE l)[j]? = some u → w.cell? ⟨g, off + j, none⟩ = some u
theorem EvsR.later {w w' : World} {p : Option Addr} {l : List E6} (h : EvsR w p l) (hb : Below w.heap.size w w') : EvsR w' p l := by
  rcases h with h | ⟨g, off, e, hc⟩
  · exact .inl h
  · exact .inr ⟨g, off, e, fun j u hu => (hb.cell (p := ⟨g, off + j, none⟩) (lt_of_cell (hc j u hu))).trans (hc j u hu)⟩
theorem EvsR.chg {S : Nat → Prop} {w w' : World} {p : Option Addr} {l : List E6} (h : EvsR w p l) (hc : Chg S w w') (hS : ∀ g, rowB p g → ¬ S g) : EvsR w' p l := by
  rcases h with h | ⟨g, off, e, h2⟩
  · exact .inl h
  · exact .inr ⟨g, off, e, fun j u hu => (hc.cell (p := ⟨g, off + j, none⟩) (lt_of_cell (h2 j u hu)) (hS g (by rw [e]; rfl))).trans (h2 j u hu)⟩
theorem EvsR.of_owns {w : World} {base cap : Nat} {p : Option Addr} {l : List E6} (h : w.ownsRow base 35 6 (.slice p l.length cap) l.length (cellsE l)) : EvsR w p l := by
  have h2 := h
  obtain ⟨_, ⟨e, hn⟩ | ⟨g, c, cur, e, r⟩⟩ := h2
  · exact .inl ⟨by injection e, List.eq_nil_of_length_eq_zero hn⟩
  · obtain rfl : p = some ⟨g, 0, none⟩ := by injection e
    exact .inr ⟨g, 0, rfl, fun j u hu => by rw [Nat.zero_add]; exact owns_cellN h j u hu⟩
set_option maxHeartbeats 2000000 in
set_option maxRecDepth 100000 in
theorem clone_evs_some (g off cap : Nat) (l : List E6) (w : World) (hlen : l.length ≤ 100000) (hc : ∀ (j : Nat) (u : Value), (cellsE l)[j]? = some u → w.cell? ⟨g, off + j, none⟩ = some u) :
    Calls Tryz.prog 76 #[.slice (some ⟨g, off, none⟩) l.length cap] w fun e w' => ∃ p' cap', e = .returned (.slice p' l.length cap') ∧ w'.ownsRow w.heap.size 35 6 (.slice p' l.length cap') l.length (cellsE l) ∧ Below w.heap.size w w' := by
  obtain ⟨i0, hi, hz0, hz1, hz2⟩ := info_parts infoEv
  have q22 : ∀ (w : World) (a : Option Addr) (n c n' c' : Nat), (binOp .eql 76 (.slice a n c) (.slice none n' c')).run Tryz.prog w = .ok (.bool a.isNone) w := fun w a n c n' c' => Lib.run_eql_slice_nil w _ _ a n c n' c' Tryz.underlying76
  have A := Lib.hid hc
  clear hc
  go_enter Tryz.func76, Tryz.ntmps76
  go_wp2_with (at_builtin; refine wpList_append_own _ rfl _ _ 76 rfl w.heap.size 35 i0 (.agg #[.int .i64 0, .int .i64 0, .int .i64 0, .int .i64 0, .int .i64 0, .int .i64 0]) 6 48 Tryz.underlying76 hi hz0 hz1 hz2 rfl (by decide) _ _ _ rfl (World.ownsRow_made w #[] 0 (Nat.le_refl _) (Nat.zero_le _) rfl) ⟨g, off, none⟩ l.length cap (cellsE l) rfl ?qc1 ?qc2 ?qc3 ?qc4 ?qc5 ?qc6 ?_)
  case qc1 => exact cellsE_len l
  case qc2 =>
    intro j u hj
    rw [Addr.add_lit]
    exact Lib.cell?_alloc_some _ (A.out j u hj)
  case qc3 =>
    intro u hu
    obtain ⟨x, _, hx⟩ := List.mem_flatMap.1 hu
    simp only [e6C, List.mem_cons, List.not_mem_nil, or_false] at hx
    rcases hx with rfl | rfl | rfl | rfl | rfl | rfl <;> rfl
  case qc4 => unfold maxLen; omega
  case qc5 => omega
  case qc6 => simp
  intro v' w1 hown hgrow _
  have hown : w1.ownsRow w.heap.size 35 6 v' l.length (cellsE l) := by simpa using hown
  obtain ⟨p', cap', rfl⟩ := owns_slice hown
  go_wp2
  go_ret
  refine ⟨p', cap', rfl, hown, ?_⟩
  exact ((Below.refl _ w).alloc (Nat.le_refl _) _).grown hgrow (by simp) (by intro k hk; simp [Value.ownBlock] at hk; omega)
theorem clone_evs_nil (w : World) : Calls Tryz.prog 76 #[.slice none 0 0] w fun e w' => e = .returned (.slice none 0 0) ∧ w' = w := by
  have q22 : ∀ (w : World) (a : Option Addr) (n c n' c' : Nat), (binOp .eql 76 (.slice a n c) (.slice none n' c')).run Tryz.prog w = .ok (.bool a.isNone) w := fun w a n c n' c' => Lib.run_eql_slice_nil w _ _ a n c n' c' Tryz.underlying76
  go_enter Tryz.func76, Tryz.ntmps76
  go_wp2
  go_ret
  exact ⟨rfl, rfl⟩
theorem clone_evs {cap : Nat} (p : Option Addr) (l : List E6) (w : World) (hlen : l.length ≤ 100000) (hp : p = none → cap = 0) (h : EvsR w p l) :
    Calls Tryz.prog 76 #[.slice p l.length cap] w fun e w' => ∃ p' cap', e = .returned (.slice p' l.length cap') ∧ w'.ownsRow w.heap.size 35 6 (.slice p' l.length cap') l.length (cellsE l) ∧ Below w.heap.size w w' := by
  rcases h with ⟨rfl, rfl⟩ | ⟨g, off, rfl, hc⟩
  · rw [hp rfl]
    exact (clone_evs_nil w).mono fun e w' ⟨he, hw⟩ => ⟨none, 0, he, by subst hw; exact ⟨rfl, .inl ⟨rfl, rfl⟩⟩, hw ▸ Below.refl _ _⟩
  · exact clone_evs_some g off cap l w hlen hc
end Go.Proofs.YthpgnlcmpoldfaaGreatDoor.Wo

namespace Go.Proofs.YthpgnlcmpoldfaaGreatDoor.Wo
open Go.RowKit
set_option maxRecDepth 100000 in
theorem wo_since0 {w : World} {x : Wl} {l : List E6} (h : WoAt w x) (hl : x.ne = l.length) (h5 : l.length ≤ 100000) (hp : x.pe = none → x.ce = 0) (he : EvsR w x.pe l) (hce : x.ne ≤ x.ce) :
    Calls Tryz.prog 44 #[.pointer (some ⟨x.W, 0, none⟩), .int .i64 0] w fun e w' => ∃ p' cap', e = .returned (.slice p' l.length cap') ∧ w'.ownsRow w.heap.size 35 6 (.slice p' l.length cap') l.length (cellsE l) ∧ Below w.heap.size w w' := by
  have c := h.c12
  have hlw := Mu.lt_of_cell c
  rw [hl] at c hce
  obtain ⟨ce, hx⟩ : ∃ k, x.ce = k := ⟨_, rfl⟩
  rw [hx] at c hce hp
  have m1 : min (max (0 : Int) 0) (l.length : Int) = 0 := by omega
  have m2 : min (0 : Int) (l.length : Int) = 0 := by omega
  rcases he with ⟨e1, e2⟩ | ⟨g, off, e1, e2⟩
  · have hce0 := hp e1
    subst hce0
    rw [e1] at c
    subst e2
    have HN := Lib.hid (fun V => clone_evs (cap := 0) none [] V (by simp) (fun _ => rfl) (.inl ⟨rfl, rfl⟩))
    clear h hp hl e1 hx
    simp only [List.length_nil] at c m1 m2 ⊢
    go_enter Tryz.func44, Tryz.ntmps44
    go_wp2_with fail
    refine (HN.out _).mono ?_
    rintro e w2 ⟨p', cap', rfl, ho, hb⟩
    have H := Lib.hid (And.intro ho hb)
    clear ho hb
    go_wp2_with fail
    go_ret
    exact ⟨p', cap', rfl, H.out⟩
  · rw [e1] at c
    obtain ⟨n, hn⟩ : ∃ n, l.length = n := ⟨_, rfl⟩
    have HN := Lib.hid (fun V (hb : Below w.heap.size w V) => (clone_evs (cap := ce) (some ⟨g, off, none⟩) l V h5 (fun e => by cases e) (.inr ⟨g, off, rfl, fun j u hu => (hb.cell (p := ⟨g, off + j, none⟩) (Mu.lt_of_cell (e2 j u hu))).trans (e2 j u hu)⟩)).mono fun e w' hq => (show ∃ p' cap', e = .returned (.slice p' n cap') ∧ w'.ownsRow V.heap.size 35 6 (.slice p' n cap') n (cellsE l) ∧ Below V.heap.size V w' from hn ▸ hq))
    rw [hn] at c m1 m2 hce HN ⊢
    clear h hp hl e1 e2 hx
    go_enter Tryz.func44, Tryz.ntmps44
    go_wp2_with fail
    refine (HN.out _ (Below.refl _ _)).mono ?_
    rintro e w2 ⟨p', cap', rfl, ho, hb⟩
    have H := Lib.hid (And.intro ho hb)
    clear ho hb
    go_wp2_with fail
    go_ret
    exact ⟨p', cap', rfl, H.out⟩
theorem wo_events {w : World} {x : Wl} {l : List E6} (h : WoAt w x) (hl : x.ne = l.length) (h5 : l.length ≤ 100000) (hp : x.pe = none → x.ce = 0) (he : EvsR w x.pe l) (hce : x.ne ≤ x.ce) :
    Calls Tryz.prog 43 #[.pointer (some ⟨x.W, 0, none⟩)] w fun e w' => ∃ p' cap', e = .returned (.slice p' l.length cap') ∧ w'.ownsRow w.heap.size 35 6 (.slice p' l.length cap') l.length (cellsE l) ∧ Below w.heap.size w w' := by
  have HS := Lib.hid (wo_since0 h hl h5 hp he hce)
  clear h hl h5 hp he hce
  go_enter Tryz.func43, Tryz.ntmps43
  go_wp2_with (go_at_call 44; fail)
  refine HS.out.mono ?_
  rintro e w2 ⟨p', cap', rfl, ho, hb⟩
  have H := Lib.hid (And.intro ho hb)
  clear ho hb
  go_wp2_with fail
  go_ret
  exact ⟨p', cap', rfl, H.out⟩
end Go.Proofs.YthpgnlcmpoldfaaGreatDoor.Wo
