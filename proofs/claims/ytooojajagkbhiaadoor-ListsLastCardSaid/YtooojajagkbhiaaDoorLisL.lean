/-
  Lists beside a table and what else is to be kept; the document's example of lists.
-/
import Derived.Test.YtooojajagkbhiaaDoorLisK
namespace Go.Proofs.YtooojajagkbhiaaDoor.Lis
open Go.RowKit
open Class (isB isB_true isB_false is_any)
open Blk (Cfg TbIs ownB blk kAt rowB BytesP kL cellsK)
open Go.Proofs.YtooojajagkbhiaaDoor.Row (Chg Rd Rd0 same_any cellsZ)
open Arena (ArIs Two)
open Bits (SetIs)
open Go.Proofs.YtooojajagkbhiaaDoor.Addr (Tabs)

/-- Lists, above what lay, beside a table, and blocks that they leave alone. -/
structure Bun (S : Nat) (w wr : World) (L A G T I J n base : Nat) (ps : Nat → Option Addr) (hv : Nat → List Nat) (m bt : Nat) (c : Cfg) (ks : List Nat) (pt : Option Addr) (capT : Nat) (K : Nat → Prop) : Prop where
  has : HasL wr L A G T I J n base ps hv m
  tb : TbIs wr T bt c ks pt capT
  av : ∀ j, Own L A G I J ps j → ¬ K j ∧ S ≤ j
  kT : K T
  kR : ∀ g, rowB pt g → K g
  kl : ∀ j, K j → j < wr.heap.size
  bel : Below S w wr
section
variable {S : Nat} {w wr w' : World} {L A G T I J n base : Nat} {ps : Nat → Option Addr} {hv : Nat → List Nat} {m bt : Nat} {c : Cfg} {ks : List Nat} {pt : Option Addr} {capT : Nat} {K : Nat → Prop}
theorem Bun.step (h : Bun S w wr L A G T I J n base ps hv m bt c ks pt capT K) (hS : S ≤ w.heap.size) {ps' : Nat → Option Addr} {hv' : Nat → List Nat} {m' : Nat} (hh : HasL w' L A G T I J n base ps' hv' m') (hc : Chg (Own L A G I J ps) wr w')
    (hR : ∀ j, Own L A G I J ps' j → Own L A G I J ps j ∨ wr.heap.size ≤ j) : Bun S w w' L A G T I J n base ps' hv' m' bt c ks pt capT K :=
  ⟨hh, h.tb.kept (hc.block T h.tb.ltB (fun e => (h.av T e).1 h.kT)) (fun g hg => hc.block g (h.tb.ltG hg).2 (fun e => (h.av g e).1 (h.kR g hg))), fun j hj => (hR j hj).elim (h.av j) (fun e => ⟨fun hk => by have := h.kl j hk; omega, Nat.le_trans (Nat.le_trans hS h.bel.size) e⟩), h.kT, h.kR, fun j hj => Nat.lt_of_lt_of_le (h.kl j hj) hc.size,
    h.bel.trans (hc.below (fun k hk => (h.av k hk).2) (Nat.le_trans hS h.bel.size))⟩
theorem Bun.later (h : Bun S w wr L A G T I J n base ps hv m bt c ks pt capT K) (hS : S ≤ w.heap.size) (hb : Below wr.heap.size wr w') : Bun S w w' L A G T I J n base ps hv m bt c ks pt capT K :=
  h.step hS (h.has.later hb) (Chg.of_below hb) (fun _ e => .inl e)
/-- Other blocks to be left alone: new ones, too. -/
theorem Bun.keep (h : Bun S w wr L A G T I J n base ps hv m bt c ks pt capT K) {K' : Nat → Prop} (hT : K' T) (hp : ∀ g, rowB pt g → K' g) (hK : ∀ j, K' j → K j ∨ ¬ Own L A G I J ps j) (hl : ∀ j, K' j → j < wr.heap.size) : Bun S w wr L A G T I J n base ps hv m bt c ks pt capT K' :=
  ⟨h.has, h.tb, fun j hj => ⟨fun e => (hK j e).elim (h.av j hj).1 (fun e => e hj), (h.av j hj).2⟩, hT, hp, hl, h.bel⟩
end

theorem put_bun {S : Nat} {w wr : World} {L A G T I J n base : Nat} {ps : Nat → Option Addr} {hv : Nat → List Nat} {m bt : Nat} {c : Cfg} {ks : List Nat} {pt : Option Addr} {capT : Nat} {K : Nat → Prop} (h : Bun S w wr L A G T I J n base ps hv m bt c ks pt capT K) (hS : S ≤ w.heap.size) (hm : m < 100000) (htt : Tabs wr) (hR : rightB c.b c.wd c.m c.r c.ce c.lg c.st = true)
    (z : Int) (a k : Nat) (hz : z = (a : Int)) (ho : ownB c ks a = true) (hk : kAt ks (blk c a) = k) (hn : c.b * c.wd = (n : Int)) (hno : ∀ k, k < 4 → a ∉ hv k) :
    Calls Tryd.prog 12 #[.pointer (some ⟨L, 0, none⟩), .int .i64 z] wr fun e w' => e = .returned (.int .i64 0) ∧ ∃ ps', Bun S w w' L A G T I J n base ps' (upd hv k (a :: hv k)) (m + 1) bt c ks pt capT K ∧ Chg (Own L A G I J ps) wr w' := by
  subst hz hk
  refine (put_held wr h.has hm h.tb htt hR a ho hn hno).mono ?_
  rintro e w' ⟨rfl, ps', hh, hc, ho'⟩
  exact ⟨rfl, ps', h.step hS hh hc ho', hc⟩

set_option maxRecDepth 100000 in
set_option maxHeartbeats 4000000 in
theorem awake_any (w : World) (ht : Tabs w) : Calls Tryd.prog 7 #[] w fun e w' => e = .returned (.bool true) ∧ Below w.heap.size w w' := by
  have HT := Lib.hid ht
  have hmade := fun (W : World) (hb : Below w.heap.size w W) (hc : W.cell? ⟨w.heap.size + 1, 0, none⟩ = some (.int .u8 0)) =>
    made_any exL (some ⟨w.heap.size + 1, 0, none⟩) 1 [0] W (ht.later hb) exL_right (by decide) (fun j hj => by
      obtain rfl : j = 0 := by simpa using hj
      exact ⟨w.heap.size + 1, 0, rfl, World.block_lt_of_cell? W _ hc, by decide, by simpa using hc⟩) (by decide)
  have HM := Lib.hid hmade
  clear ht hmade
  go_enter Tryd.func7, Tryd.ntmps7
  go_wp2_with fail
  refine (HM.out _ (((Below.refl _ _).alloc (Nat.le_refl _) _).alloc (by simp) _) (by simp)).mono ?_
  rintro e w1 hmd
  obtain ⟨A, G, T, L, I, J, n, capT, base, pt, rfl, hn, hh, htb, hav, hb1⟩ := made_has hmd
  have hks : kL (fun j => [0].getD j 0 % 4) (min [0].length 10) exL.b.toNat = [0] := by decide
  rw [hks] at htb
  have hb2 : Below w.heap.size w w1 := (((Below.refl w.heap.size w).alloc (Nat.le_refl _) (.cells #[.int .i64 1, .int .i64 16, .int .i64 1, .int .i64 1, .int .i64 0, .int .i64 1, .int .i64 1] 23)).alloc (by simp) (.cells #[.int .u8 0] 5)).trans (hb1.mono (by simp; omega))
  have hbun : Bun w.heap.size w w1 L A G T I J n base (fun _ => none) (fun _ => []) 0 _ exL [0] pt capT (fun g => g = T ∨ rowB pt g) :=
    ⟨hh, htb, fun j hj => ⟨fun e => e.elim (hav j hj).1 (hav j hj).2.1, Nat.le_trans (by simp; omega) (hav j hj).2.2⟩, .inl rfl, fun g hg => .inr hg, fun j hj => hj.elim (fun e => e ▸ htb.ltB) (fun e => (htb.ltG e).2), hb2⟩
  have HB := Lib.hid hbun
  have HN := Lib.hid hn
  clear hmd hh htb hav hb1 hb2 hbun hn hks HM
  go_wp2_with fail
  refine (put_bun HB.out (Nat.le_refl _) (by decide) (HT.out.later HB.out.bel) exL_right 1 1 0 rfl exL_own.1 exL_blk.1 HN.out (by simp)).mono ?_
  rintro e w2 ⟨rfl, ps2, h2, _⟩
  have H2 := Lib.hid h2
  clear h2 HB
  go_wp2_with fail
  refine (put_bun H2.out (Nat.le_refl _) (by decide) (HT.out.later H2.out.bel) exL_right 3 3 0 rfl exL_own.2 exL_blk.2 HN.out (fun k hk => by
    by_cases e : k = 0
    · subst e; rw [upd_same]; simp
    · rw [upd_other _ _ e]; simp)).mono ?_
  rintro e w3 ⟨rfl, ps3, h3, _⟩
  have hv3 : (upd (upd (fun _ => []) 0 [1]) 0 (3 :: upd (fun _ => []) 0 [1] 0) : Nat → List Nat) 0 = [3, 1] := by rw [upd_same, upd_same]
  generalize (upd (upd (fun _ => []) 0 [1]) 0 (3 :: upd (fun _ => []) 0 [1] 0) : Nat → List Nat) = hvf at h3 hv3
  have H3 := Lib.hid h3
  have HV := Lib.hid hv3
  clear h3 H2 hv3
  go_wp2_with fail
  refine (load_link _ H3.out.has (by decide) (k := 0) (a := 1) (l1 := [3]) (l2 := []) (by decide) HV.out).mono ?_
  rintro e w4 ⟨x, rfl, hx, hlk, hnx, h4, hc4⟩
  have H4 := Lib.hid (H3.out.step (Nat.le_refl _) h4 hc4 (fun _ e => .inl e))
  have hnx0 : Hdr.nx x = 0 := hnx
  have hrun := Hdr.next_any x w4 hx
  rw [hlk, hnx0] at hrun
  have HR := Lib.hid hrun
  clear h4 hc4 H3 hnx hnx0 hrun hlk hx
  go_wp2_with fail
  refine HR.out.mono ?_
  rintro e wa ⟨rfl, rfl⟩
  go_wp2_with fail
  refine (list_held H4.out.has (by decide) 0 (by decide) 9 (by rw [HV.out]; decide)).mono ?_
  rintro e w5 ⟨p5, c5, rfl, ho5, hb5⟩
  rw [HV.out] at ho5 ⊢
  have H5 := Lib.hid (H4.out.bel.trans (hb5.mono H4.out.bel.size))
  have hrd5 : Rd w5 p5 [3, 1] := Rd.of_owns (base := w4.heap.size) (cap := c5) ho5
  have HRD := Lib.hid hrd5
  clear ho5 hb5 H4 hrd5
  go_wp2_with fail
  have hb6 : Below w5.heap.size w5 (w5.alloc (.cells #[.int .i64 3, .int .i64 1] 3)) := (Below.refl _ _).alloc (Nat.le_refl _) _
  have hr6 : Rd (w5.alloc (.cells #[.int .i64 3, .int .i64 1] 3)) (some ⟨w5.heap.size, 0, none⟩) [3, 1] := .inr ⟨w5.heap.size, 0, rfl, fun j hj => by
    have : j = 0 ∨ j = 1 := by simp at hj; omega
    rcases this with rfl | rfl <;> simp⟩
  refine (same_any p5 (some ⟨w5.heap.size, 0, none⟩) c5 2 [3, 1] _ (HRD.out.later hb6) hr6 (by decide)).mono ?_
  rintro e w6 ⟨rfl, q6, rfl⟩
  have H6 := Lib.hid (below_drewN (H5.out.trans (hb6.mono H5.out.size)) q6)
  clear hb6 hr6 H5
  go_wp2
  go_ret
  exact ⟨rfl, H6.out⟩
end Go.Proofs.YtooojajagkbhiaaDoor.Lis
