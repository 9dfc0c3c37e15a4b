/-
  A stack in memory; Push and Pop.
-/
import Derived.Test.YtpcgmkchflmcmaaGreatDoorRow
namespace Go.Proofs.YtpcgmkchflmcmaaGreatDoor.Stk
open Go.RowKit
open Go.Proofs.YtpcgmkchflmcmaaGreatDoor.Row

/-- A stack in memory: its room, its numbers, its mark. -/
structure StIs (w : World) (B base room cap : Nat) (p : Option Addr) (ns : List Int) (over : Bool) : Prop where
  r1 : 1 ≤ room
  r2 : room ≤ 4096
  len : ns.length ≤ room
  c0 : w.cell? ⟨B, 0, none⟩ = some (.int .i64 room)
  c1 : w.cell? ⟨B, 1, none⟩ = some (.slice p ns.length cap)
  c2 : w.cell? ⟨B, 2, none⟩ = some (.bool over)
  f1 : w.frozen? ⟨B, 1, none⟩ = false
  f2 : w.frozen? ⟨B, 2, none⟩ = false
  own : w.ownsRow base 3 1 (.slice p ns.length cap) ns.length (cellsZ ns)
  ne : ¬ rowB p B
  base : base ≤ B
theorem StIs.ltB {w : World} {B base room cap : Nat} {p : Option Addr} {ns : List Int} {over : Bool} (h : StIs w B base room cap p ns over) : B < w.heap.size := World.block_lt_of_cell? w _ h.c0
theorem StIs.ltG {w : World} {B base room cap : Nat} {p : Option Addr} {ns : List Int} {over : Bool} (h : StIs w B base room cap p ns over) {g : Nat} (hg : rowB p g) : base ≤ g ∧ g < w.heap.size := owns_lt h.own hg
theorem StIs.kept {w w' : World} {B base room cap : Nat} {p : Option Addr} {ns : List Int} {over : Bool} (h : StIs w B base room cap p ns over) (hB : w'.heap[B]? = w.heap[B]?) (hg : ∀ g, rowB p g → w'.heap[g]? = w.heap[g]?) : StIs w' B base room cap p ns over :=
  ⟨h.r1, h.r2, h.len, (cell_of_block (a := ⟨B, 0, none⟩) hB).trans h.c0, (cell_of_block (a := ⟨B, 1, none⟩) hB).trans h.c1, (cell_of_block (a := ⟨B, 2, none⟩) hB).trans h.c2, (frozen_of_block (a := ⟨B, 1, none⟩) hB).trans h.f1, (frozen_of_block (a := ⟨B, 2, none⟩) hB).trans h.f2, owns_block h.own hg, h.ne, h.base⟩
theorem StIs.later {w w' : World} {B base room cap : Nat} {p : Option Addr} {ns : List Int} {over : Bool} (h : StIs w B base room cap p ns over) (hb : Below w.heap.size w w') : StIs w' B base room cap p ns over :=
  h.kept (hb.block _ h.ltB) (fun g hg => hb.block g (h.ltG hg).2)
theorem StIs.chg {S : Nat → Prop} {w w' : World} {B base room cap : Nat} {p : Option Addr} {ns : List Int} {over : Bool} (h : StIs w B base room cap p ns over) (hc : Chg S w w') (hB : ¬ S B) (hS : ∀ g, rowB p g → ¬ S g) : StIs w' B base room cap p ns over :=
  h.kept (hc.block B h.ltB hB) (fun g hg => hc.block g (h.ltG hg).2 (hS g hg))
theorem StIs.drewN {w : World} {B base room cap : Nat} {p : Option Addr} {ns : List Int} {over : Bool} (h : StIs w B base room cap p ns over) (n : Nat) : StIs (w.drewN n) B base room cap p ns over := h.kept rfl (fun _ _ => rfl)
/-- Another mark. -/
theorem StIs.mark {w : World} {B base room cap : Nat} {p : Option Addr} {ns : List Int} {over : Bool} (h : StIs w B base room cap p ns over) (b : Bool) : StIs (w.setCell ⟨B, 2, none⟩ (.bool b)) B base room cap p ns b :=
  ⟨h.r1, h.r2, h.len, (other (by simp)).trans h.c0, (other (by simp)).trans h.c1, same h.c2, (World.frozen?_setCell ..).trans h.f1, (World.frozen?_setCell ..).trans h.f2, owns_block h.own (fun g hg => Below.heap_setCell _ _ _ _ (fun e => h.ne (by rw [← (show g = B from e)]; exact hg))), h.ne, h.base⟩

theorem new_bad (n : Int) (w : World) (h : n < 1 ∨ 4096 < n) : Calls Tryz.prog 41 #[.int .i64 n] w fun e w' => e = .returned (.tuple #[.pointer none, .int .i64 4]) ∧ w = w' := by
  rcases h with h | h
  · go_enter Tryz.func41, Tryz.ntmps41
    go_wp2
    go_ret2
    exact ⟨rfl, rfl⟩
  · have h1 : ¬ n < 1 := by omega
    go_enter Tryz.func41, Tryz.ntmps41
    go_wp2
    go_ret2
    exact ⟨rfl, rfl⟩
theorem new_good (n : Nat) (z : Int) (hz : z = n) (w : World) (h : 1 ≤ n) (h2 : n ≤ 4096) : Calls Tryz.prog 41 #[.int .i64 z] w fun e w' => e = .returned (.tuple #[.pointer (some ⟨w.heap.size, 0, none⟩), .int .i64 0]) ∧
    StIs w' w.heap.size w.heap.size n 0 none [] false ∧ Below w.heap.size w w' ∧ w'.heap.size = w.heap.size + 1 := by
  subst hz
  have h3 : ¬ (n : Int) < 1 := by omega
  have h4 : ¬ (4096 < (n : Int)) := by omega
  go_enter Tryz.func41, Tryz.ntmps41
  go_wp2
  go_ret2
  exact ⟨rfl, ⟨h, h2, by simp, by simp, by simp, by simp, by simp, by simp, ⟨by simp [cellsZ], .inl ⟨rfl, rfl⟩⟩, by simp [rowB], Nat.le_refl _⟩, (Below.refl _ _).alloc (Nat.le_refl _) _, by simp⟩

theorem over_nil (w : World) : Calls Tryz.prog 116 #[.pointer none] w fun e w' => e = .returned (.bool false) ∧ w = w' := by
  go_enter Tryz.func116, Tryz.ntmps116
  go_wp2
  go_ret
  exact ⟨rfl, rfl⟩
theorem over_any {B base room cap : Nat} {p : Option Addr} {ns : List Int} {over : Bool} (w : World) (h : StIs w B base room cap p ns over) : Calls Tryz.prog 116 #[.pointer (some ⟨B, 0, none⟩)] w fun e w' => e = .returned (.bool over) ∧ w = w' := by
  have hc := h.c2
  clear h
  go_enter Tryz.func116, Tryz.ntmps116
  go_wp2
  go_ret
  exact ⟨rfl, rfl⟩
theorem calm_nil (w : World) : Calls Tryz.prog 82 #[.pointer none] w fun e w' => e = .returned (.bool false) ∧ w = w' := by
  go_enter Tryz.func82, Tryz.ntmps82
  go_wp2_with (go_at_call 116; refine (over_nil _).mono ?_; rintro e w' ⟨rfl, rfl⟩)
  go_ret
  exact ⟨rfl, rfl⟩
theorem calm_any {B base room cap : Nat} {p : Option Addr} {ns : List Int} {over : Bool} (w : World) (h : StIs w B base room cap p ns over) : Calls Tryz.prog 82 #[.pointer (some ⟨B, 0, none⟩)] w fun e w' => e = .returned (.bool over) ∧ StIs w' B base room cap p ns false ∧ Chg (fun k => k = B) w w' ∧ w'.heap.size = w.heap.size := by
  have hc := h.c2
  have hf := h.f2
  have H := Lib.hid h
  clear h
  cases over
  · go_enter Tryz.func82, Tryz.ntmps82
    go_wp2_with (go_at_call 116; refine (over_any _ H.out).mono ?_; rintro e w' ⟨rfl, rfl⟩)
    go_ret
    exact ⟨rfl, H.out, Chg.refl _ _, rfl⟩
  · go_enter Tryz.func82, Tryz.ntmps82
    go_wp2_with (go_at_call 116; refine (over_any _ H.out).mono ?_; rintro e w' ⟨rfl, rfl⟩)
    go_ret
    exact ⟨rfl, H.out.mark false, Chg.set (S := fun k => k = B) (Chg.refl _ _) (.inl rfl) _, by simp [World.setCell]⟩

theorem look_nil_bool (f : Value) (w : World) : Calls Tryz.prog 114 #[.pointer none, f] w fun e w' => e = .returned (.bool false) ∧ w = w' := by
  go_enter Tryz.func114, Tryz.ntmps114
  go_wp2
  go_ret
  exact ⟨rfl, rfl⟩
theorem push_nil (n : Int) (w : World) : Calls Tryz.prog 113 #[.pointer none, .int .i64 n] w fun e w' => e = .returned (.bool false) ∧ Below w.heap.size w w' := by
  go_enter Tryz.func113, Tryz.ntmps113
  go_wp2_with (go_at_call 114; refine (look_nil_bool _ _).mono ?_; rintro e w' ⟨rfl, rfl⟩)
  go_ret
  exact ⟨rfl, ((Below.refl _ _).alloc (Nat.le_refl _) _).alloc (by simp) _⟩
theorem pop_nil (w : World) : Calls Tryz.prog 80 #[.pointer none] w fun e w' => e = .returned (.tuple #[.int .i64 0, .bool false]) ∧ Below w.heap.size w w' := by
  go_enter Tryz.func80, Tryz.ntmps80
  go_wp2_with (go_at_call 114; refine (look_nil_bool _ _).mono ?_; rintro e w' ⟨rfl, rfl⟩)
  go_ret2
  exact ⟨rfl, by exact ((Below.refl _ _).alloc (Nat.le_refl _) _).alloc (by simp) _⟩
end Go.Proofs.YtpcgmkchflmcmaaGreatDoor.Stk

namespace Go.Proofs.YtpcgmkchflmcmaaGreatDoor.Stk
open Go.RowKit
open Go.Proofs.YtpcgmkchflmcmaaGreatDoor.Row

/-- What a push leaves. -/
theorem push_fin {w Y0 w3 : World} {B base room cap : Nat} {p : Option Addr} {ns : List Int} {over : Bool} {x : Int} {v' : Value} (h : StIs w B base room cap p ns over) (hl : ns.length < room) (hb : Below w.heap.size w Y0)
    (hown : w3.ownsRow base 3 1 v' (ns.length + 1) (cellsZ ns ++ [.int .i64 x])) (hg : Y0.grownBy w3 (Value.slice p ns.length cap).ownBlock)
    (hat : v'.ownBlock = (Value.slice p ns.length cap).ownBlock ∨ v'.ownBlock = some Y0.heap.size) :
    ∃ p' cap', v' = .slice p' (ns.length + 1) cap' ∧ StIs (w3.setCell ⟨B, 1, none⟩ v') B base room cap' p' (ns ++ [x]) over ∧ Chg (fun k => k = B ∨ rowB p k) w (w3.setCell ⟨B, 1, none⟩ v') ∧ (∀ k, rowB p' k → rowB p k ∨ w.heap.size ≤ k) ∧
      w3.cell? ⟨B, 1, none⟩ = some (.slice p ns.length cap) ∧ w3.frozen? ⟨B, 1, none⟩ = false ∧ Chg (rowB p) w w3 := by
  obtain ⟨p', cap', rfl, hC, hR⟩ := push_row hb hown hg hat
  have hB3 : w3.heap[B]? = w.heap[B]? := hC.block B h.ltB h.ne
  have hc : ∀ j, w3.cell? ⟨B, j, none⟩ = w.cell? ⟨B, j, none⟩ := fun j => cell_of_block (a := ⟨B, j, none⟩) hB3
  have hf : ∀ j, w3.frozen? ⟨B, j, none⟩ = w.frozen? ⟨B, j, none⟩ := fun j => frozen_of_block (a := ⟨B, j, none⟩) hB3
  have hne' : ¬ rowB p' B := fun e => (hR B e).elim h.ne (by have := h.ltB; omega)
  have hlen : (ns ++ [x]).length = ns.length + 1 := by simp
  refine ⟨p', cap', rfl, ⟨h.r1, h.r2, by omega, ?_, ?_, ?_, ?_, ?_, ?_, hne', h.base⟩, Chg.set (S := fun k => k = B ∨ rowB p k) (hC.mono fun _ e => .inr e) (.inl (.inl rfl)) _, hR, (hc 1).trans h.c1, (hf 1).trans h.f1, hC⟩
  · exact ((other (by simp)).trans (hc 0)).trans h.c0
  · rw [hlen]; exact same ((hc 1).trans h.c1)
  · exact ((other (by simp)).trans (hc 2)).trans h.c2
  · exact ((World.frozen?_setCell ..).trans (hf 1)).trans h.f1
  · exact ((World.frozen?_setCell ..).trans (hf 2)).trans h.f2
  · rw [hlen, cellsZ_snoc]
    exact owns_block hown (fun g hg => Below.heap_setCell _ _ _ _ (fun e => hne' (by rw [← (show g = B from e)]; exact hg)))

theorem push1_full {B base room cap q r : Nat} {p : Option Addr} {ns : List Int} {over : Bool} (w : World) (h : StIs w B base room cap p ns over) (hl : ns.length = room) (hq : w.cell? ⟨q, 0, none⟩ = some (.pointer (some ⟨B, 0, none⟩))) :
    Calls Tryz.prog 143 #[.slice p ns.length cap, .pointer (some ⟨q, 0, none⟩), .pointer (some ⟨r, 0, none⟩)] w fun e w' => e = .returned (.bool false) ∧ w' = w.setCell ⟨B, 2, none⟩ (.bool true) := by
  have c0 := h.c0
  have c2 := h.c2
  have f2 := h.f2
  clear h
  subst hl
  go_enter Tryz.func143, Tryz.ntmps143
  go_wp2
  go_ret
  exact ⟨rfl, rfl⟩

set_option maxRecDepth 100000 in
set_option maxHeartbeats 1000000 in
theorem push1_good {B base room cap q r : Nat} {p : Option Addr} {ns : List Int} {over : Bool} {x : Int} (w : World) (h : StIs w B base room cap p ns over) (hbase : base ≤ w.heap.size) (hl : ns.length < room) (hq : w.cell? ⟨q, 0, none⟩ = some (.pointer (some ⟨B, 0, none⟩))) (hr : w.cell? ⟨r, 0, none⟩ = some (.int .i64 x)) (hqp : ¬ rowB p q) :
    Calls Tryz.prog 143 #[.slice p ns.length cap, .pointer (some ⟨q, 0, none⟩), .pointer (some ⟨r, 0, none⟩)] w fun e w' => e = .returned (.bool true) ∧
      ∃ p' cap', StIs w' B base room cap' p' (ns ++ [x]) over ∧ Chg (fun k => k = B ∨ rowB p k) w w' ∧ ∀ k, rowB p' k → rowB p k ∨ w.heap.size ≤ k := by
  obtain ⟨i0, hinf, hz0, hz1, hz2⟩ := info_parts infoInt
  have c0 := h.c0
  have c1 := h.c1
  have hr2 := h.r2
  have hne : ((ns.length : Int) == (room : Int)) = false := by simp; omega
  have hba : Below w.heap.size w (w.drew.alloc (.cells #[.int .i64 x] 3)) := (below_drewN (Below.refl _ w) 1).alloc (Nat.le_refl _) _
  have H := Lib.hid h
  have HBA := Lib.hid hba
  have HQ : Hid (∀ w3 : World, Chg (rowB p) w w3 → w3.cell? ⟨q, 0, none⟩ = some (.pointer (some ⟨B, 0, none⟩))) := Lib.hid fun w3 hc => (hc.cell (p := ⟨q, 0, none⟩) (World.block_lt_of_cell? w _ hq) hqp).trans hq
  have HOW := Lib.hid (owns_block h.own (fun g hg => Below.heap_alloc w.drew (.cells #[.int .i64 x] 3) g (by simpa using (h.ltG hg).2)))
  have hqn : q ≠ w.heap.size := by have := World.block_lt_of_cell? w _ hq; simp at this; omega
  have hqa : (w.alloc (.cells #[.int .i64 x] 3)).cell? ⟨q, 0, none⟩ = some (.pointer (some ⟨B, 0, none⟩)) := (Below.cell (((Below.refl _ w).alloc (Nat.le_refl _) _)) (p := ⟨q, 0, none⟩) (World.block_lt_of_cell? w _ hq)).trans hq
  have hrn : r ≠ w.heap.size := by have := World.block_lt_of_cell? w _ hr; simp at this; omega
  clear h hba hqp
  go_enter Tryz.func143, Tryz.ntmps143
  go_wp2_with fail
  go_region_law (refine step_append_own rfl (.tmp 16) (.tmp 18) 28 rfl base 3 i0 (.int .i64 0) 1 8 Tryz.underlying28 hinf hz0 hz1 hz2 rfl (by decide) (.slice p ns.length cap) _ (cellsZ ns) rfl HOW.out ⟨w.heap.size, 0, none⟩ 1 1 [.int .i64 x] rfl rfl (one_at rfl) (by simp [Value.oneCell']) (by unfold maxLen; omega) (by omega) (by simp; omega) ?_; intro v' w3 hown hgrow hat; obtain ⟨p', cap', rfl, hT, hC, hR, hc3, hf3, hC3⟩ := push_fin H.out hl HBA.out hown hgrow hat; have HT := Lib.hid hT; have HC := Lib.hid hC; have HR := Lib.hid hR; have hq3 := HQ.out w3 hC3; clear hown hgrow hat hT hC hR hC3)
  all_goals go_wp2
  all_goals go_ret
  all_goals exact ⟨rfl, p', cap', HT.out, HC.out, HR.out⟩

/-- A stack without its last number. -/
theorem StIs.pop {w : World} {B base room cap : Nat} {g : Addr} {ns : List Int} {x : Int} {over : Bool} (h : StIs w B base room cap (some g) (ns ++ [x]) over) :
    StIs (w.setCell ⟨B, 1, none⟩ (.slice (some g) ns.length cap)) B base room cap (some g) ns over := by
  have hl := h.len
  have hlen : (ns ++ [x]).length = ns.length + 1 := by simp
  refine ⟨h.r1, h.r2, by omega, (other (by simp)).trans h.c0, same h.c1, (other (by simp)).trans h.c2, (World.frozen?_setCell ..).trans h.f1, (World.frozen?_setCell ..).trans h.f2, ?_, h.ne, h.base⟩
  have ho := h.own
  rw [hlen] at ho
  have h2 := owns_less ho (Nat.le_succ ns.length)
  have e : (cellsZ (ns ++ [x])).take ns.length = cellsZ ns := by rw [cellsZ_snoc]; exact List.take_left' (cellsZ_length ns)
  rw [e] at h2
  exact owns_block h2 (fun g' hg => Below.heap_setCell _ _ _ _ (fun e => h.ne (by rw [← (show g' = B from e)]; exact hg)))

theorem pop1_none {cap q r : Nat} {p : Option Addr} (w : World) :
    Calls Tryz.prog 115 #[.slice p 0 cap, .pointer (some ⟨r, 0, none⟩), .pointer (some ⟨q, 0, none⟩)] w fun e w' => e = .returned (.bool false) ∧ w = w' := by
  go_enter Tryz.func115, Tryz.ntmps115
  go_wp2
  go_ret
  exact ⟨rfl, rfl⟩
set_option maxRecDepth 100000 in
theorem pop1_good {B base room cap q r g : Nat} {ns : List Int} {x : Int} {over : Bool} {u : Value} (w : World) (h : StIs w B base room cap (some ⟨g, 0, none⟩) (ns ++ [x]) over) (hq : w.cell? ⟨q, 0, none⟩ = some (.pointer (some ⟨B, 0, none⟩)))
    (hr : w.cell? ⟨r, 0, none⟩ = some u) (hrf : w.frozen? ⟨r, 0, none⟩ = false) (hqr : q ≠ r) (hrB : r ≠ B) (hrg : r ≠ g) :
    Calls Tryz.prog 115 #[.slice (some ⟨g, 0, none⟩) (ns.length + 1) cap, .pointer (some ⟨r, 0, none⟩), .pointer (some ⟨q, 0, none⟩)] w fun e w' => e = .returned (.bool true) ∧
      w' = ((w.setCell ⟨r, 0, none⟩ (.int .i64 x)).setCell ⟨B, 1, none⟩ (.slice (some ⟨g, 0, none⟩) ns.length cap)).drew := by
  have c1 := h.c1
  have f1 := h.f1
  have hl := h.len
  have hr2 := h.r2
  have hcap := (owns_cap h.own).1
  have hlen : (ns ++ [x]).length = ns.length + 1 := by simp
  rw [hlen] at c1 hl hcap
  have hat : w.cell? ⟨g, ns.length, none⟩ = some (.int .i64 x) := owns_cell h.own ns.length (.int .i64 x) (by rw [cellsZ_snoc, List.getElem?_append_right (by rw [cellsZ_length]; exact Nat.le_refl _), cellsZ_length]; simp)
  have hgB : g ≠ B := fun e => h.ne (by rw [← e]; rfl)
  clear h
  generalize ns.length = m at *
  have hlast : ((m + 1 : Nat) : Int) - 1 = m := by omega
  have h0 : ¬ ((m : Int) < 0) := by omega
  go_enter Tryz.func115, Tryz.ntmps115
  go_wp2_with fail
  go_region
  all_goals go_wp2
  all_goals go_ret
  all_goals exact ⟨rfl, rfl⟩

set_option maxRecDepth 100000 in
theorem push1_full2 {B base room cap q r : Nat} {p : Option Addr} {ns : List Int} {over : Bool} (w : World) (h : StIs w B base room cap p ns over) (hl : ns.length = room) (hq : w.cell? ⟨q, 0, none⟩ = some (.pointer (some ⟨B, 0, none⟩))) :
    Calls Tryz.prog 143 #[.slice p ns.length cap, .pointer (some ⟨q, 0, none⟩), .pointer (some ⟨r, 0, none⟩)] w fun e w' => e = .returned (.bool false) ∧ StIs w' B base room cap p ns true ∧ Chg (fun k => k = B) w w' := by
  refine (push1_full w h hl hq).mono ?_
  rintro e w' ⟨rfl, rfl⟩
  exact ⟨rfl, h.mark true, Chg.set (S := fun k => k = B) (Chg.refl _ _) (.inl rfl) _⟩
set_option maxRecDepth 100000 in
set_option maxHeartbeats 1000000 in
theorem push_full {B base room cap : Nat} {p : Option Addr} {ns : List Int} {over : Bool} (x : Int) (w : World) (h : StIs w B base room cap p ns over) (hl : ns.length = room) :
    Calls Tryz.prog 113 #[.pointer (some ⟨B, 0, none⟩), .int .i64 x] w fun e w' => e = .returned (.bool false) ∧ StIs w' B base room cap p ns true ∧ Chg (fun k => k = B) w w' := by
  subst hl
  have hb : Below w.heap.size w ((w.alloc (.cells #[.pointer (some ⟨B, 0, none⟩)] 88)).alloc (.cells #[.int .i64 x] 3)) := ((Below.refl _ _).alloc (Nat.le_refl _) _).alloc (by simp) _
  have hlB := h.ltB
  have hB : B ≠ w.heap.size := by omega
  have hB1 : B ≠ w.heap.size + 1 := by have := h.ltB; omega
  have c1 := h.c1
  have H := Lib.hid (h.later hb)
  have HB := Lib.hid hb
  clear h hb
  go_enter Tryz.func113, Tryz.ntmps113
  go_wp2_with (first
    | go_enter Tryz.func114, Tryz.ntmps114
    | (go_at_call 143; refine (push1_full2 _ H.out rfl (by simp)).mono ?_; rintro e w' ⟨rfl, hT, hC⟩; have HT := Lib.hid hT; have HC := Lib.hid hC; clear hT hC))
  go_ret
  exact ⟨rfl, HT.out, (Chg.of_below HB.out).trans HC.out (fun _ e => .inl e)⟩
set_option maxRecDepth 100000 in
set_option maxHeartbeats 1000000 in
theorem push_good {B base room cap : Nat} {p : Option Addr} {ns : List Int} {over : Bool} (x : Int) (w : World) (h : StIs w B base room cap p ns over) (hbase : base ≤ w.heap.size) (hl : ns.length < room) :
    Calls Tryz.prog 113 #[.pointer (some ⟨B, 0, none⟩), .int .i64 x] w fun e w' => e = .returned (.bool true) ∧
      ∃ p' cap', StIs w' B base room cap' p' (ns ++ [x]) over ∧ Chg (fun k => k = B ∨ rowB p k) w w' ∧ ∀ k, rowB p' k → rowB p k ∨ w.heap.size ≤ k := by
  have hb : Below w.heap.size w ((w.alloc (.cells #[.pointer (some ⟨B, 0, none⟩)] 88)).alloc (.cells #[.int .i64 x] 3)) := ((Below.refl _ _).alloc (Nat.le_refl _) _).alloc (by simp) _
  have hlB := h.ltB
  have hB : B ≠ w.heap.size := by omega
  have hB1 : B ≠ w.heap.size + 1 := by have := h.ltB; omega
  have n1 : ¬ rowB p w.heap.size := fun e => by have := (h.ltG e).2; omega
  have c1 := h.c1
  have H := Lib.hid (h.later hb)
  have HB := Lib.hid hb
  clear h hb
  go_enter Tryz.func113, Tryz.ntmps113
  go_wp2_with (first
    | go_enter Tryz.func114, Tryz.ntmps114
    | (go_at_call 143; refine (push1_good (x := x) _ H.out (by simp; omega) hl (by simp) (by simp) n1).mono ?_; rintro e w' ⟨rfl, p', cap', hT, hC, hR⟩; have HT := Lib.hid hT; have HC := Lib.hid hC; have HR := Lib.hid hR; clear hT hC hR))
  go_ret
  exact ⟨rfl, p', cap', HT.out, (Chg.of_below HB.out).trans HC.out (fun _ e => .inl e), fun k hk => (HR.out k hk).imp id (fun h => by simp at h; omega)⟩

set_option maxRecDepth 100000 in
set_option maxHeartbeats 1000000 in
theorem pop_none {B base room cap : Nat} {p : Option Addr} {over : Bool} (w : World) (h : StIs w B base room cap p [] over) :
    Calls Tryz.prog 80 #[.pointer (some ⟨B, 0, none⟩)] w fun e w' => e = .returned (.tuple #[.int .i64 0, .bool false]) ∧ Below w.heap.size w w' := by
  have hb : ∀ o1 o2, Below w.heap.size w ((w.alloc o1).alloc o2) := fun _ _ => ((Below.refl _ _).alloc (Nat.le_refl _) _).alloc (by simp) _
  have hlB := h.ltB
  have hB : B ≠ w.heap.size := by omega
  have hB1 : B ≠ w.heap.size + 1 := by have := h.ltB; omega
  have c1 : w.cell? ⟨B, 1, none⟩ = some (.slice p 0 cap) := h.c1
  have HB := Lib.hid hb
  clear h hb
  go_enter Tryz.func80, Tryz.ntmps80
  go_wp2_with (first
    | go_enter Tryz.func114, Tryz.ntmps114
    | (go_at_call 115; refine (pop1_none _).mono ?_; rintro e w' ⟨rfl, rfl⟩))
  go_ret2
  exact ⟨rfl, HB.out _ _⟩
set_option maxRecDepth 100000 in
theorem pop1_good2 {B base room cap q r g : Nat} {ns : List Int} {x : Int} {over : Bool} {u : Value} (w : World) (h : StIs w B base room cap (some ⟨g, 0, none⟩) (ns ++ [x]) over) (hq : w.cell? ⟨q, 0, none⟩ = some (.pointer (some ⟨B, 0, none⟩)))
    (hr : w.cell? ⟨r, 0, none⟩ = some u) (hrf : w.frozen? ⟨r, 0, none⟩ = false) (hqr : q ≠ r) (hrB : r ≠ B) (hrg : r ≠ g) :
    Calls Tryz.prog 115 #[.slice (some ⟨g, 0, none⟩) (ns.length + 1) cap, .pointer (some ⟨r, 0, none⟩), .pointer (some ⟨q, 0, none⟩)] w fun e w' => e = .returned (.bool true) ∧
      w'.cell? ⟨r, 0, none⟩ = some (.int .i64 x) ∧ StIs w' B base room cap (some ⟨g, 0, none⟩) ns over ∧ Chg (fun k => k = B ∨ k = r) w w' := by
  refine (pop1_good w h hq hr hrf hqr hrB hrg).mono ?_
  rintro e w' ⟨rfl, rfl⟩
  have hc : Chg (fun k => k = r) w (w.setCell ⟨r, 0, none⟩ (.int .i64 x)) := Chg.set (S := fun k => k = r) (Chg.refl _ _) (.inl rfl) _
  have h2 : StIs (w.setCell ⟨r, 0, none⟩ (.int .i64 x)) B base room cap (some ⟨g, 0, none⟩) (ns ++ [x]) over := h.chg hc (fun e => hrB e.symm) (fun k hk e => hrg (by have : some g = some k := hk; cases this; exact e.symm))
  exact ⟨rfl, (other (by first | (simp; done) | (simp; omega))).trans (same hr), h2.pop.drewN 1, (Chg.set (S := fun k => k = B ∨ k = r) (hc.mono fun _ e => .inr e) (.inl (.inl rfl)) _).drewN 1⟩
set_option maxRecDepth 100000 in
set_option maxHeartbeats 1000000 in
theorem pop_good {B base room cap : Nat} {p : Option Addr} {ns : List Int} {x : Int} {over : Bool} (w : World) (h : StIs w B base room cap p (ns ++ [x]) over) :
    Calls Tryz.prog 80 #[.pointer (some ⟨B, 0, none⟩)] w fun e w' => e = .returned (.tuple #[.int .i64 x, .bool true]) ∧ StIs w' B base room cap p ns over ∧ Chg (fun k => k = B) w w' := by
  have hlen : (ns ++ [x]).length = ns.length + 1 := by simp
  obtain ⟨g, rfl, _⟩ := owns_some h.own (j := ns.length) (by omega)
  have hb : Below w.heap.size w ((w.alloc (.cells #[.pointer (some ⟨B, 0, none⟩)] 88)).alloc (.cells #[.int .i64 0] 3)) := ((Below.refl _ _).alloc (Nat.le_refl _) _).alloc (by simp) _
  have hlB := h.ltB
  have hB : B ≠ w.heap.size := by omega
  have hB1 : B ≠ w.heap.size + 1 := by have := h.ltB; omega
  have hg1 : w.heap.size + 1 ≠ g := fun e => by have := (h.ltG (g := g) rfl).2; omega
  have c1 := h.c1
  rw [hlen] at c1
  have H := Lib.hid (h.later hb)
  have HB := Lib.hid hb
  clear h hb
  go_enter Tryz.func80, Tryz.ntmps80
  go_wp2_with (first
    | go_enter Tryz.func114, Tryz.ntmps114
    | (go_at_call 115; refine (pop1_good2 (u := .int .i64 0) _ H.out (by simp) (by simp) (by simp) (by omega) (by omega) (by omega)).mono ?_; rintro e w' ⟨rfl, hcr, hT, hC⟩; have HT := Lib.hid hT; have HC := Lib.hid hC; clear hT hC))
  go_ret2
  exact ⟨rfl, HT.out, (Chg.of_below HB.out).trans HC.out (fun k e => e.imp id (fun e => by omega))⟩
end Go.Proofs.YtpcgmkchflmcmaaGreatDoor.Stk
