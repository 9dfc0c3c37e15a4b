/-
  A value that is noted is kept: plain; the bundle beside a row that grows.
-/
import Derived.Test.YtkfgchhlekdpgaaGreatDoorNtQ
namespace Go.Proofs.YtkfgchhlekdpgaaGreatDoor.Nt
open Go.RowKit
open Class (below_drewN)
open Hp (Ids St Is To Mine bnI bn coE coV colB objL st0)
open Lg (BfIs BxIs)
open Go.Proofs.YtkfgchhlekdpgaaGreatDoor.Row (Chg rowB Rd Rd0 cellsZ)
open Go.Proofs.YtkfgchhlekdpgaaGreatDoor.Addr (Tabs)

/-- What stays true while values are noted by the color 1. -/
structure Kv (S s : St) (xs ys had : List Int) : Prop where
  bn : ∀ x, bnI s x = bnI S x
  xb : ∀ a ∈ xs, bnI S a = true
  yb : ∀ a ∈ ys, bnI S a = true
  hb : ∀ a ∈ had, bnI S a = true
  kn : ∀ a ∈ had, coV s a = 1 ∨ a ∈ xs ∨ a ∈ ys
theorem poR_in {cf : Int → Int} {c a : Int} {xs : List Int} {n : Nat} (hn : n ≠ 0) (ha : a ∈ xs) (hc : cf a ≠ c) : a ∈ poR cf c xs n := by
  unfold poR
  rw [if_neg (fun e => by rw [e] at ha; cases ha), if_neg hn, frL_mem]
  exact ⟨ha, hc⟩
theorem Kv.step {S s : St} {xs ys had : List Int} {v : Int} {R : Nat} (h : Kv S s xs ys had) (hog : Og s) (hv : bnI S v = true) (h0 : v ≠ 0) : Kv S (nS 1 s v R xs ys) (nX 1 s v R xs) (nY 1 s v R xs ys) (had ++ [v]) := by
  have hce : coE s v = 0 := coE_in (by rw [h.bn]; exact hv)
  have hh : ∀ a ∈ had ++ [v], bnI S a = true := fun a ha => by
    rcases List.mem_append.1 ha with e | e
    · exact h.hb a e
    · rw [List.mem_singleton.1 e]; exact hv
  have hxs : ∀ a ∈ xs, bnI s a = true := fun a ha => by rw [h.bn]; exact h.xb a ha
  by_cases hsk : nSkip 1 s v
  · have hc : coV s v = 1 := by
      rcases hsk with e | e | e
      · exact absurd e h0
      · exact absurd hce e
      · exact e
    unfold nS nX nY
    rw [if_pos hsk, if_pos hsk, if_pos hsk]
    refine ⟨h.bn, h.xb, h.yb, hh, fun a ha => ?_⟩
    rcases List.mem_append.1 ha with e | e
    · exact h.kn a e
    · rw [List.mem_singleton.1 e]; exact .inl hc
  · by_cases hl : xs.length < R
    · unfold nS nX nY
      rw [if_neg hsk, if_neg hsk, if_neg hsk, if_pos hl, if_pos hl, if_pos hl]
      refine ⟨h.bn, fun a ha => ?_, h.yb, hh, fun a ha => ?_⟩
      · rcases List.mem_append.1 ha with e | e
        · exact h.xb a e
        · rw [List.mem_singleton.1 e]; exact hv
      · rcases List.mem_append.1 ha with e | e
        · exact (h.kn a e).imp id (fun e => e.imp (fun e => List.mem_append_left _ e) id)
        · rw [List.mem_singleton.1 e]; exact .inr (.inl (List.mem_append_right _ (by simp)))
    · unfold nS nX nY
      rw [if_neg hsk, if_neg hsk, if_neg hsk, if_neg hl, if_neg hl, if_neg hl]
      have hco : ∀ a, bnI S a = true → coV s a = 1 → coV (pT 1 s xs ys) a = 1 := fun a ha hc => by
        rw [pT_co hog (by rfl) hxs ys (by rw [h.bn]; exact ha)]
        split
        · rfl
        · exact hc
      refine ⟨fun x => by rw [pT_bn, h.bn], fun a ha => by rw [List.mem_singleton.1 ha]; exact hv, fun a ha => ?_, hh, fun a ha => ?_⟩
      · unfold pY at ha
        split at ha
        · exact h.yb a ha
        · split at ha
          · exact h.xb a ha
          · exact h.yb a ha
      · rcases List.mem_append.1 ha with e | e
        · have hba := h.hb a e
          rcases h.kn a e with e1 | e1 | e1
          · exact .inl (hco a hba e1)
          · by_cases hy : ys = []
            · refine .inr (.inr ?_)
              unfold pY
              rw [if_neg (fun e => by rw [e] at e1; cases e1), if_pos hy]
              exact e1
            · by_cases hc : coV s a = 1
              · exact .inl (hco a hba hc)
              · refine .inl ?_
                rw [pT_co hog (by rfl) hxs ys (by rw [h.bn]; exact hba), if_pos (poR_in (fun e => hy (List.length_eq_zero_iff.1 e)) e1 hc)]
          · refine .inr (.inr ?_)
            unfold pY
            split
            · exact e1
            · rw [if_neg (fun e => by rw [e] at e1; cases e1)]
              exact e1
        · rw [List.mem_singleton.1 e]; exact .inr (.inl (by simp))
theorem obj_nz {w : World} {H : Nat} {d : Ids} {s : St} {m : Nat} (h : Is w H d s m) {v : Int} (hv : bnI s v = true) : v ≠ 0 := by
  intro e
  subst e
  unfold bnI at hv
  simp only [Bool.and_eq_true, decide_eq_true_eq] at hv
  have := (h.wf.bn_bd hv.2).1
  simp at this
/-- The bundle beside rows that lie in blocks of their own. -/
theorem Nb.keep {w0 wr w' : World} {S0 E : Nat → Prop} {H : Nat} {d : Ids} {s : St} {m B X F N room : Nat} {xs ys : List Int} {up : Bool} {ex : List (Nat × Value)} (h : Nb ⟨w0, S0, fun _ => False⟩ wr H d s m B X F N room xs ys up ex) (hb : Below wr.heap.size wr w') (ht : Tabs wr) (hE : ∀ k, E k → wr.heap.size ≤ k ∧ k < w'.heap.size) :
    Nb ⟨wr, own H d B X F, E⟩ w' H d s m B X F N room xs ys up ex := by
  have h2 := h.later hb
  obtain ⟨T, t1, t2, t3, t4⟩ := h.lg
  have hS := hb.size
  have hC : Chg (fun _ => False) wr w' := Chg.of_below hb
  have tag : ∀ k, (T k ∨ E k) → T k ∨ wr.heap.size ≤ k := fun k hk => hk.imp id (fun e => (hE k e).1)
  refine ⟨h2.is, ⟨fun k => T k ∨ E k, bf_move t1 hC (fun _ e => e.elim) (fun e => e) tag (.inl (t4 B (.inl (.inr (.inl rfl))))), bx_move t2 hC (fun _ e => e.elim) (fun e => e) tag (.inl (t4 X (.inl (.inr (.inr (.inl rfl)))))), fun k hk => ?_, fun k hk => ?_⟩, h2.ne, h2.nm, h2.fl, h2.ff, h2.n0, h2.n1, h2.n2, h2.n3, h2.nN, h2.ex, Chg.of_below hb, fun _ hk => .inl hk, ht, fun k hk he => ?_⟩
  · rcases hk with e | e
    · exact Nat.lt_of_lt_of_le (t3 k e) hS
    · exact (hE k e).2
  · rcases hk with e | e
    · exact .inl (t4 k (.inl e))
    · exact .inr e
  · have h1 := t3 k (t4 k (.inl hk))
    have h3 := (hE k he).1
    omega
theorem Nb.lessE {w0 wr : World} {S0 E : Nat → Prop} {H : Nat} {d : Ids} {s : St} {m B X F N room : Nat} {xs ys : List Int} {up : Bool} {ex : List (Nat × Value)} (h : Nb ⟨w0, S0, E⟩ wr H d s m B X F N room xs ys up ex) : Nb ⟨w0, S0, fun _ => False⟩ wr H d s m B X F N room xs ys up ex := by
  obtain ⟨T, t1, t2, t3, t4⟩ := h.lg
  exact ⟨h.is, ⟨T, t1, t2, t3, fun k hk => hk.elim (fun e => t4 k (.inl e)) (fun e => e.elim)⟩, h.ne, h.nm, h.fl, h.ff, h.n0, h.n1, h.n2, h.n3, h.nN, h.ex, h.bel, h.ge, h.tb, fun _ _ e => e⟩
/-- Such a row turns, or lies in new blocks. -/
theorem Nb.grow {w0 wr w' : World} {S0 E Z : Nat → Prop} {H : Nat} {d : Ids} {s : St} {m B X F N room : Nat} {xs ys : List Int} {up : Bool} (h : Nb ⟨w0, S0, E⟩ wr H d s m B X F N room xs ys up []) (hC : Chg Z wr w') (hZ : ∀ k, Z k → E k) (hN : ¬ Z N) (ht : Tabs w') :
    Nb ⟨w', own H d B X F, fun k => E k ∨ (wr.heap.size ≤ k ∧ k < w'.heap.size)⟩ w' H d s m B X F N room xs ys up [] := by
  obtain ⟨T, t1, t2, t3, t4⟩ := h.lg
  have hz := hC.size
  have nz : ∀ k, own H d B X F k → ¬ Z k := fun k hk e => h.ap k hk (hZ k e)
  have zT : ∀ k, Z k → T k := fun k e => t4 k (.inr (hZ k e))
  have c : ∀ {b o v}, wr.cell? ⟨b, o, none⟩ = some v → ¬ Z b → w'.cell? ⟨b, o, none⟩ = some v := fun {b o v} e hn => (hC.cell (p := ⟨b, o, none⟩) (lt_of_cell e) hn).trans e
  have hlF : F < wr.heap.size := h.lt (.inr (.inr (.inr rfl)))
  have tag : ∀ k, (T k ∨ (wr.heap.size ≤ k ∧ k < w'.heap.size)) → T k ∨ wr.heap.size ≤ k := fun k hk => hk.imp id (·.1)
  refine ⟨h.is.chg hC (fun k hk e => nz k (.inl hk) e), ⟨fun k => T k ∨ (wr.heap.size ≤ k ∧ k < w'.heap.size), bf_move t1 hC zT (nz B (.inr (.inl rfl))) tag (.inl (t4 B (.inl (.inr (.inl rfl))))), bx_move t2 hC zT (nz X (.inr (.inr (.inl rfl)))) tag (.inl (t4 X (.inl (.inr (.inr (.inl rfl)))))), fun k hk => ?_, fun k hk => ?_⟩, h.ne, h.nm, c h.fl (nz F (.inr (.inr (.inr rfl)))), (hC.frozen (p := ⟨F, 0, none⟩) hlF (nz F (.inr (.inr (.inr rfl))))).trans h.ff, c h.n0 hN, c h.n1 hN, c h.n2 hN, c h.n3 hN, h.nN, fun p hp => (by cases hp), Chg.refl _ _, fun _ hk => .inl hk, ht, fun k hk he => ?_⟩
  · rcases hk with e | e
    · exact Nat.lt_of_lt_of_le (t3 k e) hz
    · exact e.2
  · rcases hk with e | e | e
    · exact .inl (t4 k (.inl e))
    · exact .inl (t4 k (.inr e))
    · exact .inr e
  · rcases he with e | e
    · exact h.ap k hk e
    · have h1 := t3 k (t4 k (.inl hk))
      omega
/-- A row that stays, the case's box, and a row that grows, beside what a noter has. -/
structure Ks (V w6 : World) (q : Cs) (b : Nat) (p1 : Option Addr) (al : List Int) (E : Nat → Prop) (wr : World) (H : Nat) (d : Ids) (s : St) (m B X F N R : Nat) (xs ys : List Int) (up : Bool) (ph : Option Addr) (ch : Nat) (had : List Int) : Prop where
  nb : Nb ⟨wr, own H d B X F, E⟩ wr H d s m B X F N R xs ys up []
  r1 : Rd wr p1 al
  l1 : ∀ g, rowB p1 g → g < w6.heap.size ∧ ¬ own H d B X F g
  cs : CaseAt q wr b
  lb : b < w6.heap.size ∧ ¬ own H d B X F b
  bv : Below V.heap.size V wr
  ov : ∀ k, own H d B X F k → V.heap.size ≤ k
  oh : wr.ownsRow w6.heap.size 3 1 (.slice ph had.length ch) had.length (cellsZ had)
  eh : ∀ g, rowB ph g → E g
  e6 : ∀ k, E k → w6.heap.size ≤ k
  z6 : V.heap.size ≤ w6.heap.size ∧ w6.heap.size ≤ wr.heap.size ∧ N < w6.heap.size
section
variable {V w6 : World} {q : Cs} {b : Nat} {p1 : Option Addr} {al : List Int} {E : Nat → Prop} {wr w2 : World} {H : Nat} {d d2 : Ids} {s s2 : St} {m B X F N R : Nat} {xs ys xs2 ys2 : List Int} {up up2 : Bool} {ph : Option Addr} {ch : Nat} {had : List Int}
theorem Ks.note (h : Ks V w6 q b p1 al E wr H d s m B X F N R xs ys up ph ch had) (hn : Nb ⟨wr, own H d B X F, E⟩ w2 H d2 s2 m B X F N R xs2 ys2 up2 []) (ht : Tabs V) : Ks V w6 q b p1 al E w2 H d2 s2 m B X F N R xs2 ys2 up2 ph ch had := by
  have hs := hn.bel.size
  have hs' : wr.heap.size ≤ w2.heap.size := hs
  have hbv : Below V.heap.size V w2 := h.bv.trans (hn.bel.below h.ov h.bv.size)
  have hown : ∀ k, own H d2 B X F k → own H d B X F k ∨ wr.heap.size ≤ k := hn.ge
  obtain ⟨z1, z2, z3⟩ := h.z6
  refine ⟨hn.rebase (ht.later hbv), h.r1.chg hn.bel (fun g hg => (h.l1 g hg).2), fun g hg => ⟨(h.l1 g hg).1, fun e => (hown g e).elim (h.l1 g hg).2 (fun e => by have := (h.l1 g hg).1; omega)⟩, h.cs.chg hn.bel h.lb.2, ⟨h.lb.1, fun e => (hown b e).elim h.lb.2 (fun e => by have := h.lb.1; omega)⟩, hbv, fun k hk => (hown k hk).elim (h.ov k) (fun e => by omega), Row.owns_chg h.oh hn.bel (fun g hg e => h.nb.ap g e (h.eh g hg)), h.eh, h.e6, z1, by omega, z3⟩
theorem Ks.later (h : Ks V w6 q b p1 al E wr H d s m B X F N R xs ys up ph ch had) (hb : Below wr.heap.size wr w2) (ht : Tabs V) : Ks V w6 q b p1 al E w2 H d s m B X F N R xs ys up ph ch had := h.note (h.nb.later hb) ht
theorem Ks.push {v : Int} {p' : Option Addr} {c' : Nat} (h : Ks V w6 q b p1 al E wr H d s m B X F N R xs ys up ph ch had) (ho : w2.ownsRow w6.heap.size 3 1 (.slice p' (had ++ [v]).length c') (had ++ [v]).length (cellsZ (had ++ [v]))) (hC : Chg (rowB ph) wr w2) (hR : ∀ g, rowB p' g → rowB ph g ∨ wr.heap.size ≤ g) (ht : Tabs V) :
    Ks V w6 q b p1 al (fun k => E k ∨ (wr.heap.size ≤ k ∧ k < w2.heap.size)) w2 H d s m B X F N R xs ys up p' c' (had ++ [v]) := by
  obtain ⟨z1, z2, z3⟩ := h.z6
  have hs := hC.size
  have e6 : ∀ g, rowB ph g → w6.heap.size ≤ g := fun g hg => h.e6 g (h.eh g hg)
  have hbv : Below V.heap.size V w2 := h.bv.trans (hC.below (fun k hk => by have := e6 k hk; omega) h.bv.size)
  refine ⟨h.nb.grow hC h.eh (fun e => by have := e6 N e; omega) (ht.later hbv), h.r1.chg hC (fun g hg e => by have := (h.l1 g hg).1; have := e6 g e; omega), h.l1, h.cs.chg hC (fun e => by have := h.lb.1; have := e6 b e; omega), h.lb, hbv, h.ov, ho, fun g hg => (hR g hg).elim (fun e => .inl (h.eh g e)) (fun e => .inr ⟨e, (Row.owns_lt ho hg).2⟩), fun k hk => hk.elim (h.e6 k) (fun e => by omega), z1, by omega, z3⟩
end
set_option maxRecDepth 100000 in
theorem nb_allO {w : Bas} {wr : World} {H : Nat} {d : Ids} {s : St} {m B X F N room : Nat} {xs ys : List Int} {up : Bool} {ex : List (Nat × Value)} (h : Nb w wr H d s m B X F N room xs ys up ex) : Calls Tryz.prog 16 #[.pointer (some ⟨B, 0, none⟩)] wr fun e w' => ∃ p cap, e = .returned (.slice p xs.length cap) ∧ w'.ownsRow wr.heap.size 3 1 (.slice p xs.length cap) xs.length (cellsZ xs) ∧ Below wr.heap.size wr w' := by
  obtain ⟨T, t1, _⟩ := h.lg
  obtain ⟨p, cap, hr⟩ := t1.row
  have hc := hr.c
  have HR := Lib.hid (Row.clone_any p xs wr (by have := hr.len; omega) hr.nc hr.rd)
  clear h hr t1
  go_enter Tryz.func16, Tryz.ntmps16
  go_wp2_with (first
    | go_enter Tryz.func71, Tryz.ntmps71
    | (go_at_call 101; refine HR.out.mono ?_; rintro e w' ⟨p', cap', rfl, ho, hb⟩))
  go_ret
  exact ⟨p', cap', rfl, ho, hb⟩
end Go.Proofs.YtkfgchhlekdpgaaGreatDoor.Nt
