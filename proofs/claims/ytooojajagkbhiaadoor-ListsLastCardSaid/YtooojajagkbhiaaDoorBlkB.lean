/-
  block.New and Assign, of every table that there is, and of none.
-/
import Derived.Test.YtooojajagkbhiaaDoorBlkA
namespace Go.Proofs.YtooojajagkbhiaaDoor.Blk
open Go.RowKit Go.Shelf
open Class (isB isB_true isB_false is_any)

/-- What has some blocks turned, and new ones. -/
structure Chg (S : Nat → Prop) (w w' : World) : Prop where
  os : w'.os = w.os
  tape : w'.tape = w.tape
  output : w'.output = w.output
  size : w.heap.size ≤ w'.heap.size
  block : ∀ k, k < w.heap.size → ¬ S k → w'.heap[k]? = w.heap[k]?
theorem Chg.refl (S : Nat → Prop) (w : World) : Chg S w w := ⟨rfl, rfl, rfl, Nat.le_refl _, fun _ _ _ => rfl⟩
theorem Chg.of_below {S : Nat → Prop} {a b : World} (h : Below a.heap.size a b) : Chg S a b := ⟨h.os, h.tape, h.output, h.size, fun i hi _ => h.block i hi⟩
theorem Chg.below {S : Nat → Prop} {N : Nat} {a b : World} (h : Chg S a b) (hS : ∀ k, S k → N ≤ k) (hN : N ≤ a.heap.size) : Below N a b :=
  ⟨h.os, h.tape, h.output, h.size, fun i hi => h.block i (by omega) (fun hs => by have := hS i hs; omega)⟩
theorem Chg.drewN {S : Nat → Prop} {a b : World} (h : Chg S a b) (n : Nat) : Chg S a (b.drewN n) := ⟨h.os, h.tape, h.output, h.size, h.block⟩

/-- A new table: no block of it is assigned. -/
theorem new_fin {w w1 : World} (c : Cfg) (hb : Below w.heap.size w w1) :
    TbIs (w1.alloc (.cells #[.int .i64 c.b, .int .i64 c.wd, .int .i64 c.m, .int .i64 c.r, .int .i64 c.ce, .int .i64 c.lg, .int .i64 c.st, .slice none 0 0] 81)) w1.heap.size w.heap.size c [] none 0 ∧
      Below w.heap.size w (w1.alloc (.cells #[.int .i64 c.b, .int .i64 c.wd, .int .i64 c.m, .int .i64 c.r, .int .i64 c.ce, .int .i64 c.lg, .int .i64 c.st, .slice none 0 0] 81)) := by
  refine ⟨⟨by simp, by simp, by simp, by simp, by simp, by simp, by simp, by simp, by simp, by simp, by simp, ⟨by simp [cellsK], .inl ⟨rfl, rfl⟩⟩, by simp [rowB], hb.size⟩, hb.alloc hb.size _⟩

set_option maxHeartbeats 1000000 in
theorem new_bad (c : Cfg) (w : World) (ht : LimTab w) (hr : rightB c.b c.wd c.m c.r c.ce c.lg c.st = false) : Calls Tryd.prog 22 #[(.agg #[.int .i64 c.b, .int .i64 c.wd, .int .i64 c.m, .int .i64 c.r, .int .i64 c.ce, .int .i64 c.lg, .int .i64 c.st])] w fun e w' => e = .returned (.tuple #[.pointer none, .int .i64 1]) ∧ Below w.heap.size w w' := by
  have HT := Lib.hid ht
  clear ht
  go_enter Tryd.func22, Tryd.ntmps22
  go_wp2_with (go_at_call 44; refine (right_any _ _ _ _ _ _ _ _ (HT.out.alloc _)).mono ?_; rintro e w1 ⟨rfl, hb⟩; rw [hr])
  go_ret2
  exact ⟨rfl, ((Below.refl _ _).alloc (Nat.le_refl _) _).trans (hb.mono (by simp))⟩

set_option maxHeartbeats 1000000 in
theorem new_good (c : Cfg) (w : World) (ht : LimTab w) (hr : rightB c.b c.wd c.m c.r c.ce c.lg c.st = true) : Calls Tryd.prog 22 #[(.agg #[.int .i64 c.b, .int .i64 c.wd, .int .i64 c.m, .int .i64 c.r, .int .i64 c.ce, .int .i64 c.lg, .int .i64 c.st])] w fun e w' => ∃ B, e = .returned (.tuple #[.pointer (some ⟨B, 0, none⟩), .int .i64 0]) ∧ TbIs w' B w.heap.size c [] none 0 ∧ Below w.heap.size w w' := by
  have HT := Lib.hid ht
  have HF := Lib.hid (fun w1 hb => new_fin (w := w) (w1 := w1) c hb)
  clear ht
  go_enter Tryd.func22, Tryd.ntmps22
  go_wp2_with (go_at_call 44; refine (right_any _ _ _ _ _ _ _ _ (HT.out.alloc _)).mono ?_; rintro e w1 ⟨rfl, hb⟩; rw [hr]; obtain ⟨hc, hf⟩ := bcell hb)
  go_ret2
  exact ⟨_, rfl, HF.out w1 (((Below.refl _ _).alloc (Nat.le_refl _) _).trans (hb.mono (by simp)))⟩

theorem assign_nil (k : Int) (w : World) : Calls Tryd.prog 26 #[.pointer none, .int .i64 k] w fun e w' => e = .returned (.tuple #[.int .i64 0, .int .i64 11]) ∧ w = w' := by
  go_enter Tryd.func26, Tryd.ntmps26
  go_wp2
  go_ret2
  exact ⟨rfl, rfl⟩

set_option maxHeartbeats 400000 in
theorem assign_bad {B base cap : Nat} {c : Cfg} {ks : List Nat} {p : Option Addr} (k : Int) (w : World) (_h : TbIs w B base c ks p cap) (hk : isB k = false) : Calls Tryd.prog 26 #[.pointer (some ⟨B, 0, none⟩), .int .i64 k] w fun e w' => e = .returned (.tuple #[.int .i64 0, .int .i64 1]) ∧ w = w' := by
  go_enter Tryd.func26, Tryd.ntmps26
  go_wp2_with (go_at_call 50; refine (is_any _ _).mono ?_; rintro e w' ⟨rfl, rfl⟩; rw [hk])
  go_ret2
  exact ⟨rfl, rfl⟩

set_option maxHeartbeats 1000000 in
theorem assign_full {B base cap : Nat} {c : Cfg} {ks : List Nat} {p : Option Addr} (k : Int) (w : World) (h : TbIs w B base c ks p cap) (hk : isB k = true) (hf : (ks.length : Int) = c.b) : Calls Tryd.prog 26 #[.pointer (some ⟨B, 0, none⟩), .int .i64 k] w fun e w' => e = .returned (.tuple #[.int .i64 0, .int .i64 10]) ∧ ∃ n, w' = w.drewN n := by
  have hc := h.cv
  have h0 := h.c0
  rw [← hf] at h0
  clear h hf
  go_enter Tryd.func26, Tryd.ntmps26
  go_wp2_with (go_at_call 50; refine (is_any _ _).mono ?_; rintro e w' ⟨rfl, rfl⟩; rw [hk])
  go_quiet (fail)
  go_wp2
  go_ret2
  exact ⟨rfl, _, rfl⟩

theorem infoInt : (Tryd.prog.info? 3).map (fun i => (i.zero, i.size, i.bytes)) = some (some (.int .i64 0), 1, 8) := by kernel_rfl
theorem info_parts {P : Program} {t : TypeId} {z : Value} {a c : Nat} (h : (P.info? t).map (fun i => (i.zero, i.size, i.bytes)) = some (some z, a, c)) : ∃ i, P.info? t = some i ∧ i.zero = some z ∧ i.size = a ∧ i.bytes = c := by
  obtain ⟨i, hi, h2⟩ := Option.map_eq_some_iff.1 h
  simp only [Prod.mk.injEq] at h2
  exact ⟨i, hi, h2.1, h2.2.1, h2.2.2⟩

theorem ownBlock_slice (p : Option Addr) (n cap k : Nat) : (Value.slice p n cap).ownBlock = some k ↔ rowB p k := by
  cases p <;> simp [Value.ownBlock, rowB]
/-- A row with one more: where it lies. -/
theorem owns_more {w w' : World} {base : Nat} {v' : Value} {p : Option Addr} {cap : Nat} {n : Nat} {xs : List Value} (ho : w'.ownsRow base 3 1 v' (n + 1) xs) (hat : v'.ownBlock = (Value.slice p n cap).ownBlock ∨ v'.ownBlock = some w.heap.size) :
    ∃ p' cap', v' = .slice p' (n + 1) cap' ∧ ∀ k, rowB p' k → rowB p k ∨ k = w.heap.size := by
  obtain ⟨g, cap', rfl⟩ := ownsRow_succ ho
  refine ⟨_, _, rfl, fun k hk => ?_⟩
  rcases hat with h | h
  · left
    rw [← ownBlock_slice p n cap k, ← h, ownBlock_slice]; exact hk
  · right
    have := (ownBlock_slice _ (n + 1) cap' k).2 hk
    rw [h] at this
    exact (Option.some.inj this).symm

/-- What Assign leaves. -/
theorem assign_fin {w w1 w3 : World} {B base cap : Nat} {c : Cfg} {ks : List Nat} {p : Option Addr} {k : Nat} {v' : Value} (h : TbIs w B base c ks p cap) (hk : k < 4) (hl : ks.length < 4096)
    (hb1 : Below w.heap.size w w1) (ho : w3.ownsRow base 3 1 v' (ks.length + 1) (cellsK ks ++ [.int .i64 ((k : Nat) : Int)])) (hg : w1.grownBy w3 (Value.slice p ks.length cap).ownBlock)
    (hat : v'.ownBlock = (Value.slice p ks.length cap).ownBlock ∨ v'.ownBlock = some w1.heap.size) :
    ∃ p' cap', v' = .slice p' (ks.length + 1) cap' ∧ TbIs (w3.setCell ⟨B, 7, none⟩ v') B base c (ks ++ [k]) p' cap' ∧ Chg (fun i => i = B ∨ rowB p i) w (w3.setCell ⟨B, 7, none⟩ v') ∧ (∀ i, rowB p' i → rowB p i ∨ w.heap.size ≤ i) ∧
      w3.cell? ⟨B, 7, none⟩ = some (.slice p ks.length cap) ∧ w3.frozen? ⟨B, 7, none⟩ = false := by
  obtain ⟨p', cap', rfl, hp⟩ := owns_more ho hat
  have hB1 : B < w1.heap.size := Nat.lt_of_lt_of_le h.ltB hb1.size
  have hrow : ∀ i, i < w1.heap.size → ¬ rowB p i → w3.heap[i]? = w1.heap[i]? := fun i hi hn => hg.block i hi (fun e => hn ((ownBlock_slice p ks.length cap i).1 e.symm))
  have hB3 : w3.heap[B]? = w.heap[B]? := (hrow B hB1 h.ne).trans (hb1.block B h.ltB)
  have hc : ∀ j, w3.cell? ⟨B, j, none⟩ = w.cell? ⟨B, j, none⟩ := fun j => cell_of_block (a := ⟨B, j, none⟩) hB3
  have hne' : ¬ rowB p' B := fun e => (hp B e).elim h.ne (by have := h.ltB; have := hb1.size; omega)
  refine ⟨p', cap', rfl, ⟨by simp; omega, ?_, ?_, ?_, ?_, ?_, ?_, ?_, ?_, ?_, ?_, ?_, hne', h.base⟩, ⟨?_, ?_, ?_, ?_, ?_⟩, ?_, (hc 7).trans h.cv, ?_⟩
  · intro x hx
    rcases List.mem_append.1 hx with hx | hx
    · exact h.cls x hx
    · rw [List.mem_singleton.1 hx]; exact hk
  · rw [other (by simp), hc]; exact h.c0
  · rw [other (by simp), hc]; exact h.c1
  · rw [other (by simp), hc]; exact h.c2
  · rw [other (by simp), hc]; exact h.c3
  · rw [other (by simp), hc]; exact h.c4
  · rw [other (by simp), hc]; exact h.c5
  · rw [other (by simp), hc]; exact h.c6
  · rw [List.length_append]; exact same ((hc 7).trans h.cv)
  · rw [World.frozen?_setCell, frozen_of_block (a := ⟨B, 7, none⟩) hB3]; exact h.fz
  · rw [List.length_append, cellsK_snoc]
    exact owns_block ho (fun g hg' => Below.heap_setCell _ _ _ _ (fun e => by rw [show g = B from e] at hg'; exact hne' hg'))
  · exact (hg.os.trans hb1.os)
  · exact (hg.tape.trans hb1.tape)
  · exact (hg.output.trans hb1.output)
  · have := hg.size; have := hb1.size; rw [size_setCell]; omega
  · intro i hi hn
    refine (Below.heap_setCell _ _ _ _ (fun e => hn (.inl e))).trans ((hrow i (Nat.lt_of_lt_of_le hi hb1.size) (fun e => hn (.inr e))).trans (hb1.block i hi))
  · intro i hi
    rcases hp i hi with h1 | h1
    · exact .inl h1
    · right; rw [h1]; exact hb1.size
  · rw [frozen_of_block (a := ⟨B, 7, none⟩) hB3]; exact h.fz

theorem one_at {w : World} {a : Nat} {v : Value} {t : TypeId} (h : a = w.heap.size) : ∀ (j : Nat) (u : Value), [v][j]? = some u → (w.alloc (.cells #[v] t)).cell? ((⟨a, 0, none⟩ : Addr).add j) = some u := by
  subst h
  intro j u hj
  cases j with
  | zero =>
    obtain rfl := Option.some.inj hj
    exact (Boxed.new w t _).cell
  | succ j => simp at hj

set_option maxRecDepth 100000 in
set_option maxHeartbeats 4000000 in
theorem assign_good {B base cap : Nat} {c : Cfg} {ks : List Nat} {p : Option Addr} (k : Nat) (w : World) (h : TbIs w B base c ks p cap) (hk : k < 4) (hf : (ks.length : Int) < c.b) (hcb : c.b ≤ 4096) (hbase : base ≤ w.heap.size) :
    Calls Tryd.prog 26 #[.pointer (some ⟨B, 0, none⟩), .int .i64 k] w fun e w' => e = .returned (.tuple #[.int .i64 ks.length, .int .i64 0]) ∧
      ∃ p' cap', TbIs w' B base c (ks ++ [k]) p' cap' ∧ Chg (fun i => i = B ∨ rowB p i) w w' ∧ ∀ i, rowB p' i → rowB p i ∨ w.heap.size ≤ i := by
  obtain ⟨i0, hinf, hz0, hz1, hz2⟩ := info_parts infoInt
  have hc := h.cv
  have h0 := h.c0
  have hfz := h.fz
  have hlt := h.ltB
  have hne : (((ks.length : Nat) : Int) == c.b) = false := by simp; omega
  have hkB : isB ((k : Nat) : Int) = true := isB_true.2 ⟨by omega, by omega⟩
  have hl : ks.length < 4096 := by omega
  have HH := Lib.hid h
  have HL := Lib.hid hf
  clear h hf
  go_enter Tryd.func26, Tryd.ntmps26
  go_wp2_with (go_at_call 50; refine (is_any _ _).mono ?_; rintro e w' ⟨rfl, rfl⟩; rw [hkB])
  go_quiet (fail)
  go_wp2_with (at_builtin; refine wpList_append_own_at _ rfl _ _ 33 rfl base 3 i0 (.int .i64 0) 1 8 Tryd.underlying33 hinf hz0 hz1 hz2 rfl (by decide) _ _ _ rfl (owns_block HH.out.own (fun g hg => Below.heap_alloc _ _ _ (by simpa using (HH.out.ltG hg).2))) ⟨w.heap.size, 0, none⟩ 1 1 [.int .i64 k] rfl rfl (one_at rfl) (by simp [Value.oneCell']) (by unfold maxLen; omega) (by omega) (by simp; omega) ?_)
  intro v' w3 hown hgrow _ hat
  have hba : Below w.heap.size w ((w.drewN nq).alloc (.cells #[.int .i64 k] 3)) := (below_drewN (Below.refl _ w) nq).alloc (Nat.le_refl _) _
  obtain ⟨p', cap', rfl, hT, hC, hR, hc3, hf3⟩ := assign_fin HH.out hk hl hba hown hgrow (by simpa using hat)
  have HT := Lib.hid hT
  have HC := Lib.hid hC
  have HR := Lib.hid hR
  have hc4 : (w3.setCell ⟨B, 7, none⟩ (.slice p' (ks.length + 1) cap')).cell? ⟨B, 7, none⟩ = some (.slice p' (ks.length + 1) cap') := same hc3
  clear hown hgrow hat hba hT hC hR
  go_wp2
  go_ret2
  exact ⟨by simp, p', cap', HT.out, HC.out, HR.out⟩
end Go.Proofs.YtooojajagkbhiaaDoor.Blk
