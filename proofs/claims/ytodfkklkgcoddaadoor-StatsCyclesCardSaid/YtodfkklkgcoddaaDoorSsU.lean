/-
  StatsCycles: a region inside a round; Each; cycles whose numbers fit.
-/
import Derived.Test.YtodfkklkgcoddaaDoorSsT
import Derived.Test.YtodfkklkgcoddaaDoorSsO
import Derived.Test.YtodfkklkgcoddaaDoorRound
import Derived.Lib.QuietBelow
namespace Go.Proofs.YtodfkklkgcoddaaDoor.Ss
open Go.RowKit Go.Shelf
open Go.Proofs.YtodfkklkgcoddaaDoor.Row

/-- One walk in the text's order serves every order, in a round too, where callees lay what they like. -/
theorem region_belowR {F : Fence} {n : Nat} {P : Program} {id : Nat} {Q : Exit → Act → World → Prop} {a : Act} {w : World} {l : List Oper} (hd : noDefer l.toArray = true) (hm : P.follows .mixedOrders = true) (hB : Region.lexB .any l.toArray = true)
    (h : wpQuietIn F n P l.toArray (fun w' => ∃ p : Regrown, w' = Sort.grow (redrawn w p.d) p.os) (fun a' => ∀ w', (∃ p : Regrown, w' = Sort.grow (redrawn w p.d) p.os) → Q .normal a' w') l a) : (Code.region id l.toArray true).wpIn F n P Q a w := by
  simp only [Region.lexB, Bool.and_eq_true] at hB
  refine wpIn_region_any hm (quiet_orders (C := fun w' => ∃ p : Regrown, w' = Sort.grow (redrawn w p.d) p.os) (Q := fun a' => ∀ w', (∃ p : Regrown, w' = Sort.grow (redrawn w p.d) p.os) → Q .normal a' w') hd (fun _ w' hw' h => h w' hw') _ _ _ _ ⟨⟨w.drawn + 1, #[]⟩, by rw [Sort.grow_empty]; rfl⟩ ?_)
  have := wpAnyQIn_lex (F := F) (n := n) (C := fun w' => ∃ p : Regrown, w' = Sort.grow (redrawn w p.d) p.os) (md := .any) hB.1 l 0 (Array.replicate l.toArray.size false) a (by simp) (by simpa using hB.2) h
  simpa using this

theorem beh_in : ∀ (l : List Ev) (s : Bs), (∀ e ∈ l, EvI e) → inI s.m → inI s.r → inI (beh s l).m ∧ inI (beh s l).r ∧ (beh s l).f ≤ s.f + l.length
  | [], s, _, hm, hr => ⟨hm, hr, Nat.le_refl _⟩
  | e :: r, s, he, hm, hr => by
    rw [beh_cons]
    have hp := (he e (by simp)).1
    split
    · exact ⟨hm, hr, by simp⟩
    · have h1 : inI (s.step e).m ∧ inI (s.step e).r ∧ (s.step e).f ≤ s.f + 1 := by
        unfold Bs.step
        split
        · exact ⟨hp, hr, by simp⟩
        · split
          · exact ⟨hm, hp, by simp⟩
          · split
            · exact ⟨hm, hr, Nat.le_refl _⟩
            · exact ⟨hm, hr, by omega⟩
      obtain ⟨g1, g2, g3⟩ := beh_in r (s.step e) (fun x hx => he x (by simp [hx])) h1.1 h1.2.1
      exact ⟨g1, g2, by have := h1.2.2; simp only [List.length_cons]; omega⟩
theorem cycs_in : ∀ (l : List Ev), l.length ≤ 100000 → (∀ e ∈ l, EvI e) → ∀ c ∈ cycs l, CyI c
  | [], _, _ => fun c hc => by cases hc
  | e :: r, hl, he => fun c hc => by
    rw [cycs_cons] at hc
    have hr : r.length ≤ 100000 := by simp only [List.length_cons] at hl; omega
    have hre : ∀ x ∈ r, EvI x := fun x hx => he x (by simp [hx])
    split at hc
    · rcases List.mem_cons.1 hc with rfl | hc
      · obtain ⟨h1, h2, h3⟩ := beh_in r bs0 hre (by unfold inI bs0; simp) (by unfold inI bs0; simp)
        obtain ⟨p1, _, _, _, _, p6⟩ := he e (by simp)
        refine ⟨p6, p1, h1, h2, ?_⟩
        show inI ((beh bs0 r).f : Int)
        have h4 : bs0.f = 0 := rfl
        unfold inI; omega
      · exact cycs_in r hr hre c hc
    · exact cycs_in r hr hre c hc

set_option maxRecDepth 100000 in
set_option maxHeartbeats 4000000 in
theorem each_any (p : Option Addr) (cap : Nat) (l : List Ev) (W : World) (h : EvAt W p l) (hl : l.length ≤ 1000) (hcap : l.length ≤ cap) (hcm : cap ≤ maxLen) :
    Calls Tryd.prog 11 #[.slice p l.length cap] W fun x w' => ∃ B p' c', x = .returned (.func (.func 24) #[] #[.pointer (some ⟨B, 0, none⟩)]) ∧ w'.cell? ⟨B, 0, none⟩ = some (.slice p' (cycs l).length c') ∧ CyR w' p' (cycs l) ∧ Below W.heap.size W w' := by
  have HC := Lib.hid (cycles_any p cap l W h hl hcap hcm)
  clear h
  go_enter Tryd.func11, Tryd.ntmps11
  go_wp2_with (go_at_call 8; fail)
  refine HC.out.mono ?_
  rintro e w1 ⟨p', c', rfl, ho, hb⟩
  have HR := Lib.hid (CyR.of_owns ho)
  have HB := Lib.hid hb
  clear ho hb
  go_wp2_with (go_at_call 18; fail)
  refine (all_any _ _ _ _).mono ?_
  rintro e w2 ⟨rfl, hw2⟩
  have HB2 : Hid (Below w1.heap.size w1 w2) := Lib.hid (by rw [← hw2]; exact (Below.refl _ _).alloc (Nat.le_refl _) _)
  have HCL : Hid (w2.cell? ⟨w1.heap.size, 0, none⟩ = some (.slice p' (cycs l).length c')) := Lib.hid (by rw [← hw2, World.cell?_alloc_new]; rfl)
  clear hw2
  go_wp2
  go_ret
  exact ⟨w1.heap.size, p', c', rfl, HCL.out, HR.out.later HB2.out, HB.out.trans (HB2.out.mono HB.out.size)⟩

theorem eql_func_nil (f : Fn) (xs ys : Array Value) (w : World) : (binOp .eql 29 (.func f xs ys) .nilFunc).run Tryd.prog w = .ok (.bool false) w := by
  have hu := Tryd.underlying29
  have h : ∀ d : Nat, (Op.equalIn (d + 1) 29 (.func f xs ys) .nilFunc).run Tryd.prog w = .ok false w := fun d => by
    simp [Op.equalIn, run_underlying hu]
  simp only [binOp]
  simp [Op.equal, Op.maxDepth, h 9999]

set_option maxRecDepth 100000 in
set_option maxHeartbeats 8000000 in
theorem cycles_big (p : Option Addr) (len cap st : Nat) (W : World) (ht : LibTab W) (h : 100 < len) :
    Calls Tryd.prog 3 #[.slice p len cap, .int .u8 st] W fun x w' => x = .returned (.bool true) ∧ Below W.heap.size W w' := by
  have i0 : (100 : Int) < (len : Int) := by omega
  obtain ⟨w1, hw1⟩ : ∃ w1, (W.alloc (.cells #[.int .u8 st] 5)).alloc (.cells #[.bool false] 4) = w1 := ⟨_, rfl⟩
  have hb1 : Below W.heap.size W w1 := by rw [← hw1]; exact ((Below.refl _ _).alloc (Nat.le_refl _) _).alloc (by simp) _
  have x1 : Boxed w1 (W.heap.size + 1) 4 (.bool false) := by rw [← hw1]; exact boxed_new (by simp)
  have HB1 := Lib.hid hb1
  have HX1 := Lib.hid x1
  have HAW := Lib.hid (awake_any w1 (ht.later hb1))
  clear hb1 x1 ht
  go_enter Tryd.func3, Tryd.ntmps3
  go_wp2_with (go_at_call 7; fail)
  refine HAW.out.mono ?_
  rintro e w2 ⟨rfl, hb2⟩
  have x2 := Boxed.below HX1.out hb2 HX1.out.lt
  have k2 := x2.cell
  have f2 := x2.frozen
  have hb := HB1.out.trans (hb2.mono HB1.out.size)
  have HF : Hid (Below W.heap.size W (w2.setCell ⟨W.heap.size + 1, 0, none⟩ (.bool true)) ∧ (w2.setCell ⟨W.heap.size + 1, 0, none⟩ (.bool true)).cell? ⟨W.heap.size + 1, 0, none⟩ = some (.bool true)) := Lib.hid ⟨hb.setCell (by show W.heap.size ≤ W.heap.size + 1; omega) _, same k2⟩
  have k7 := HF.out.2
  clear x2 hb2 hb hw1
  go_wp2
  exact bodyPost_ret (v := .bool true) (by simp [results, Tryd.results3, go_sem, k7]) rfl ⟨rfl, HF.out.1⟩
end Go.Proofs.YtodfkklkgcoddaaDoor.Ss
