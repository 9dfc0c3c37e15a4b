/-
  A cycle's line: the program's, and the law's.
-/
import Derived.Test.YtodfkklkgcoddaaDoorSsN
import Derived.Test.YtodfkklkgcoddaaDoorSsSh
import Derived.WalkSmall
import Derived.Lib.QuietBelow
import Derived.Sort.BigQuietIn
import Derived.Lib.Join
namespace Go.Proofs.YtodfkklkgcoddaaDoor.Ss
open Go.RowKit
open Go.Proofs.YtodfkklkgcoddaaDoor.Row

/-- The table of powers lies as it was laid. -/
theorem below_of_regrown {w1 W5 : World} (h : ∃ p : Regrown, W5 = Sort.grow (redrawn w1 p.d) p.os) : Below w1.heap.size w1 W5 := by
  obtain ⟨p, rfl⟩ := h
  exact below_regrown _ _ _
structure LibTab (w : World) : Prop where
  pow : w.var? Tryd.prog "internal/strconv.uint64pow10" = some (Lib.pow10Tab.map fun z => Value.int .u64 z).toArray
  blk : 1 < w.heap.size
theorem gPow : Tryd.prog.globalNamed "internal/strconv.uint64pow10" = some 1 := by kernel_rfl
theorem LibTab.later {w w' : World} (h : LibTab w) (hb : Below w.heap.size w w') : LibTab w' := by
  refine ⟨?_, Nat.lt_of_lt_of_le h.blk hb.size⟩
  have hv := h.pow
  unfold World.var? at hv ⊢
  rw [gPow] at hv ⊢
  simp only [Option.bind_some] at hv ⊢
  rw [hb.block _ h.blk]
  exact hv
theorem below_growN (w : World) (k : Nat) (os : Array Obj) : Below w.heap.size w (Sort.grow (w.drewN k) os) :=
  ⟨rfl, rfl, rfl, by show w.heap.size ≤ (w.heap ++ os).size; rw [Array.size_append]; omega, fun j hj => by show (w.heap ++ os)[j]? = w.heap[j]?; exact Array.getElem?_append_left hj⟩
theorem itoa_any (n : Int) (hn : inI n) (w : World) (ht : LibTab w) :
    Calls Tryd.prog 20 #[.int .i64 n] w fun e w' => e = .returned (.string (bs (Lib.itoa n))) ∧ Below w.heap.size w w' := by
  refine (Any.strconv_Itoa Tryd.laysM171 n hn.1 hn.2 w ht.pow).mono ?_
  rintro e w' ⟨rfl, k, os, rfl⟩
  exact ⟨rfl, below_growN w k os⟩
theorem join_any (bk c : Nat) (xs : List (List UInt8)) (w : World) (hcells : ∀ (j : Nat) x, xs[j]? = some x → w.cell? ⟨bk, j, none⟩ = some (.string (bs x))) (hbk : bk < w.heap.size) (hN : xs.length ≤ 100) (hcap : xs.length ≤ c)
    (hlen : (Lib.join xs [32]).length ≤ 140737488355328) :
    Calls Tryd.prog 19 #[.slice (some ⟨bk, 0, none⟩) xs.length c, .string ⟨#[32]⟩] w fun e w' => e = .returned (.string (bs (Lib.join xs [32]))) ∧ Below w.heap.size w w' := by
  have hm : (xs.map bs).map (·.data.toList) = xs := by
    rw [List.map_map]
    conv => rhs; rw [← List.map_id xs]
    rfl
  have hs : (⟨#[32]⟩ : ByteArray).data.toList = [32] := rfl
  have h := Any.strings_Join Tryd.lays156 Tryd.Builder_Extra_156 bk 0 c (xs.map bs) ⟨#[32]⟩ w (fun j x hx => by
      rw [List.getElem?_map] at hx
      obtain ⟨y, hy, rfl⟩ := Option.map_eq_some_iff.1 hx
      rw [Nat.zero_add]
      exact hcells j y hy) hbk (by rw [List.length_map]; omega) (by rw [List.length_map]; exact hcap) (by rw [hm, hs]; exact hlen)
  rw [hm, hs, List.length_map] at h
  exact h

/-- A cycle whose numbers fit. -/
structure CyI (c : Cy) : Prop where
  n : inI c.num
  s : inI c.start
  m : inI c.marked
  r : inI c.rested
  f : inI c.freed
def wCycle : List UInt8 := [99, 121, 99, 108, 101]
def wStart : List UInt8 := [115, 116, 97, 114, 116]
def wMarked : List UInt8 := [109, 97, 114, 107, 101, 100]
def wRested : List UInt8 := [114, 101, 115, 116, 101, 100]
def wFreed : List UInt8 := [102, 114, 101, 101, 100]
def partsC (c : Cy) : List (List UInt8) := [wCycle, Lib.itoa c.num, wStart, Lib.itoa c.start, wMarked, Lib.itoa c.marked, wRested, Lib.itoa c.rested, wFreed, Lib.itoa c.freed]
def lineC (c : Cy) : List UInt8 := Lib.join (partsC c) [32]
theorem lineC_eq (c : Cy) : lineC c = ([99, 121, 99, 108, 101, 32] ++ Lib.itoa c.num) ++ [32, 115, 116, 97, 114, 116, 32] ++ Lib.itoa c.start ++ [32, 109, 97, 114, 107, 101, 100, 32] ++ Lib.itoa c.marked ++ [32, 114, 101, 115, 116, 101, 100, 32] ++ Lib.itoa c.rested ++ [32, 102, 114, 101, 101, 100, 32] ++ Lib.itoa c.freed := by
  unfold lineC partsC
  simp only [Lib.join_cons, Lib.joinTail, List.map_cons, List.map_nil, List.flatten_cons, List.flatten_nil, wCycle, wStart, wMarked, wRested, wFreed, List.append_assoc, List.cons_append, List.nil_append, List.append_nil]
theorem lineC_len {c : Cy} (h : CyI c) : (lineC c).length ≤ 200 := by
  have h1 := itoa_len h.n
  have h2 := itoa_len h.s
  have h3 := itoa_len h.m
  have h4 := itoa_len h.r
  have h5 := itoa_len h.f
  rw [lineC_eq]
  simp only [List.length_append, List.length_cons, List.length_nil]
  omega

set_option maxRecDepth 100000 in
set_option maxHeartbeats 4000000 in
theorem lawline_any (c : Cy) (hc : CyI c) (W : World) :
    Calls Tryd.prog 13 #[c.agg] W fun x w' => x = .returned (.string (bs (lineC c))) ∧ Below W.heap.size W w' := by
  have HI : Hid (∀ n w, inI n → Calls Tryd.prog 21 #[.int .i64 n] w fun e w' => e = .returned (.string (bs (Lib.itoa n))) ∧ Below w.heap.size w w') := Lib.hid fun n w h => refint_any n h w
  obtain ⟨i1, i2, i3, i4, i5⟩ := hc
  have s1 : (bs (Lib.itoa c.num)).size ≤ 20 := by rw [bs_size]; exact itoa_len i1
  have s2 : (bs (Lib.itoa c.start)).size ≤ 20 := by rw [bs_size]; exact itoa_len i2
  have s3 : (bs (Lib.itoa c.marked)).size ≤ 20 := by rw [bs_size]; exact itoa_len i3
  have s4 : (bs (Lib.itoa c.rested)).size ≤ 20 := by rw [bs_size]; exact itoa_len i4
  have s5 : (bs (Lib.itoa c.freed)).size ≤ 20 := by rw [bs_size]; exact itoa_len i5
  have HE := Lib.hid (lineC_eq c)
  obtain ⟨n, st, m, r, f⟩ := c
  simp only at i1 i2 i3 i4 i5 s1 s2 s3 s4 s5 HE
  obtain ⟨w1, hw1⟩ : ∃ w1, W.alloc (.cells #[.int .i64 n, .int .i64 st, .int .i64 m, .int .i64 r, .int .i64 f] 32) = w1 := ⟨_, rfl⟩
  have HB : Hid (Below W.heap.size W w1) := Lib.hid (by rw [← hw1]; exact (Below.refl _ _).alloc (Nat.le_refl _) _)
  have e0 := cell_regrown (show w1.cell? ⟨W.heap.size, 0, none⟩ = some (.int .i64 n) by rw [← hw1, World.cell?_alloc_new]; rfl)
  have e1 := cell_regrown (show w1.cell? ⟨W.heap.size, 1, none⟩ = some (.int .i64 st) by rw [← hw1, World.cell?_alloc_new]; rfl)
  have e2 := cell_regrown (show w1.cell? ⟨W.heap.size, 2, none⟩ = some (.int .i64 m) by rw [← hw1, World.cell?_alloc_new]; rfl)
  have e3 := cell_regrown (show w1.cell? ⟨W.heap.size, 3, none⟩ = some (.int .i64 r) by rw [← hw1, World.cell?_alloc_new]; rfl)
  have e4 := cell_regrown (show w1.cell? ⟨W.heap.size, 4, none⟩ = some (.int .i64 f) by rw [← hw1, World.cell?_alloc_new]; rfl)
  unfold Cy.agg
  go_enter Tryd.func13, Tryd.ntmps13
  go_wp2_with fail
  refine wp_region_quiet_below (by kernel_rfl) (by kernel_rfl) ?_
  repeat (go_big_quiet_step ((go_at_call 21; exact Calls.regrown_of (HI.out _ _ (by assumption)))))
  refine wpQuiet_nil ?_
  intro W5 hw'
  have HBW5 := Lib.hid (below_of_regrown hw')
  clear hw' e0 e1 e2 e3 e4
  go_wp2_with fail
  go_ret
  refine ⟨?_, HB.out.trans (HBW5.out.mono HB.out.size)⟩
  rw [HE.out, show (⟨#[99, 121, 99, 108, 101, 32]⟩ : ByteArray) = bs [99, 121, 99, 108, 101, 32] from rfl, show (⟨#[32, 115, 116, 97, 114, 116, 32]⟩ : ByteArray) = bs [32, 115, 116, 97, 114, 116, 32] from rfl, show (⟨#[32, 109, 97, 114, 107, 101, 100, 32]⟩ : ByteArray) = bs [32, 109, 97, 114, 107, 101, 100, 32] from rfl, show (⟨#[32, 114, 101, 115, 116, 101, 100, 32]⟩ : ByteArray) = bs [32, 114, 101, 115, 116, 101, 100, 32] from rfl, show (⟨#[32, 102, 114, 101, 101, 100, 32]⟩ : ByteArray) = bs [32, 102, 114, 101, 101, 100, 32] from rfl]
  simp only [bs_append]
  rfl

end Go.Proofs.YtodfkklkgcoddaaDoor.Ss
