/-
  The reference's In; a row with one more at its front; lists beside the law's own record; opening what a law of layer 8 is given.
-/
import Derived.Test.YtooojajagkbhiaaDoorLisQ
import Derived.Test.YtooojajagkbhiaaDoorLaw
import Derived.SizedLaws
import Derived.Deep.Slices
namespace Go.Proofs.YtooojajagkbhiaaDoor.Lis
open Go.RowKit
open Blk (Cfg TbIs ownB blk kAt rowB cellsK)
open Go.Proofs.YtooojajagkbhiaaDoor.Row (Chg Rd Rd0 cellsZ cellsZ_length cellsZ_at info_parts infoInt one_at)
open Go.Proofs.YtooojajagkbhiaaDoor.Addr (Tabs)
attribute [local go_sem] Oper.semAt_some

set_option maxHeartbeats 1000000 in
theorem in_any (p : Option Addr) (cp : Nat) (l : List Int) (x : Int) (w : World) (hp : Rd0 w p l) (hl : l.length ≤ 1048576) :
    Calls Tryd.prog 13 #[.slice p l.length cp, .int .i64 x] w fun e w' => e = .returned (.bool (decide (x ∈ l))) ∧ w = w' := by
  have HP := Lib.hid hp
  clear hp
  go_enter Tryd.func13, Tryd.ntmps13
  go_wp2
  go_loopw [5] (fun i wr => ∃ c : Nat, c ≤ l.length ∧ i = .int .i64 c ∧ x ∉ l.take c ∧ w = wr) (fun i _ => l.length - (intOf i).toNat)
  case atStart => exact ⟨0, by omega, rfl, by simp, rfl⟩
  case round =>
    obtain ⟨c, hc, rfl, hno, rfl⟩ := hrel
    have HNO := Lib.hid hno
    clear hno
    by_cases hlt : c < l.length
    · obtain ⟨b, off, rfl, h1⟩ := HP.out c hlt
      have i0 : (0 : Int) ≤ (c : Int) := Int.natCast_nonneg _
      have i1 : (c : Int) < (l.length : Int) := by omega
      have hget : l[c]? = some (l.getD c 0) := by rw [List.getD_eq_getElem?_getD]; simp [hlt]
      have hmem : l.getD c 0 ∈ l := List.mem_of_getElem? hget
      have HGET := Lib.hid hget
      have HMEM := Lib.hid hmem
      clear hget hmem
      generalize l.getD c 0 = y at *
      by_cases he : y = x
      · subst he
        have hyy : (y == y) = true := by simp
        have hd : decide (y ∈ l) = true := by simpa using HMEM.out
        go_wp2
        go_ret
        exact ⟨by rw [hd]; rfl, rfl⟩
      · have hyx : (y == x) = false := by simpa using he
        have hn2 : x ∉ l.take (c + 1) := by
          rw [List.take_add_one, HGET.out]
          simp only [Option.toList_some, List.mem_append, List.mem_singleton]
          exact fun h => h.elim HNO.out (fun e => he e.symm)
        have HN2 := Lib.hid hn2
        clear hn2
        go_wp2
        go_roundw
        case rel => exact ⟨c + 1, by omega, by go_num, HN2.out, trivial⟩
        case measure => simp [intOf]; omega
    · have hd : decide (x ∈ l) = false := by
        have := HNO.out
        rw [List.take_of_length_le (by omega)] at this
        simpa using this
      go_wp2
      go_ret
      exact ⟨by rw [hd]; rfl, rfl⟩

theorem run_append_ints (w : World) (base : Nat) (i : TypeInfo) (hi : Tryd.prog.info? 3 = some i) (hz : i.zero = some (.int .i64 0)) (hs : i.size = 1) (hb : i.bytes = 8) (ty : TypeId) (g n cap : Nat) (xs : List Value) (hown : w.ownsRow base 3 1 (.slice (some ⟨g, 0, none⟩) n cap) n xs) (hnc : n ≤ cap)
    (pa : Option Addr) (ca : Nat) (za : List Int) (ha : Rd w pa za) (hl : n + za.length ≤ 1048576) (hbase : base ≤ w.heap.size) :
    ∃ v' w', (Builtin.append_ #[33, 33] ty #[.slice (some ⟨g, 0, none⟩) n cap, .slice pa za.length ca]).run Tryd.prog w = .ok v' w' ∧ w'.ownsRow base 3 1 v' (n + za.length) (xs ++ cellsZ za) ∧ w.grownBy w' (Value.slice (some ⟨g, 0, none⟩) n cap).ownBlock := by
  rcases ha with ⟨rfl, rfl⟩ | ⟨b, off, rfl, hc⟩
  · exact ⟨_, w, run_append_none w _ _ _ i Tryd.underlying33 hi _ n cap ca hnc, by simpa [cellsZ] using hown, ⟨rfl, rfl, rfl, Nat.le_refl _, fun _ _ _ => rfl⟩⟩
  · obtain ⟨v', w', h1, h2, h3, _, _⟩ := run_append_own_at (P := Tryd.prog) w base 33 ty 3 i (.int .i64 0) 1 8 Tryd.underlying33 hi hz hs hb rfl (by decide) _ n xs hown ⟨b, off, none⟩ za.length ca (cellsZ za) (by simp [cellsZ]) (fun j u hj => by
      have hjl : j < za.length := by have := (List.getElem?_eq_some_iff.1 hj).1; simpa [cellsZ] using this
      rw [cellsZ_at za hjl] at hj
      cases hj
      rw [Addr.add_lit]
      exact hc j hjl) (fun u hu => by obtain ⟨x, _, rfl⟩ := List.mem_map.1 hu; rfl) (by unfold maxLen; omega) (by omega) hbase
    exact ⟨v', w', h1, h2, h3⟩
theorem wpList_append_ints {ops : Array Oper} {rest : List Oper} {o : Oper} {a : Act} {w : World} {Q : Exit → Act → World → Prop} (hgd : o.guard = none) (s x : Operand)
    (ho : o.op = .call { callee := .builtin .append, args := #[s, x], argTypes := #[33, 33] })
    (base : Nat) (i : TypeInfo) (hi : Tryd.prog.info? 3 = some i) (hz : i.zero = some (.int .i64 0)) (hs : i.size = 1) (hb : i.bytes = 8) (g n cap : Nat) (xs : List Value) (he : a.eval s = .slice (some ⟨g, 0, none⟩) n cap) (hown : w.ownsRow base 3 1 (.slice (some ⟨g, 0, none⟩) n cap) n xs) (hnc : n ≤ cap)
    (pa : Option Addr) (ca : Nat) (za : List Int) (hx : a.eval x = .slice pa za.length ca) (ha : Rd w pa za) (hl : n + za.length ≤ 1048576) (hbase : base ≤ w.heap.size)
    (h : ∀ v' w', w'.ownsRow base 3 1 v' (n + za.length) (xs ++ cellsZ za) → w.grownBy w' (Value.slice (some ⟨g, 0, none⟩) n cap).ownBlock → wpList Tryd.prog ops Q rest (a.put o.dst v') w') :
    wpList Tryd.prog ops Q (o :: rest) a w := by
  refine wpList_plain hgd fun K hK => ?_
  obtain ⟨v', w', hr, h2, h3⟩ := run_append_ints w base i hi hz hs hb o.type g n cap xs hown hnc pa ca za ha hl hbase
  unfold Oper.wp execOp
  simp only [ho, resolve, invoke, builtin, Sem.run_bind, Sem.run_pure, Result.andThen_ok, List.map_toArray, List.map_cons, List.map_nil, he, hx, hr]
  exact hK _ _ (h v' w' h2 h3)

set_option maxHeartbeats 1000000 in
theorem first_any (p : Option Addr) (cp : Nat) (l : List Int) (x : Int) (w : World) (hp : Rd w p l) (hl : l.length ≤ 100000) :
    Calls Tryd.prog 14 #[.slice p l.length cp, .int .i64 x] w fun e w' => ∃ p' c', e = .returned (.slice p' (l.length + 1) c') ∧ w'.ownsRow w.heap.size 3 1 (.slice p' (l.length + 1) c') (l.length + 1) (cellsZ (x :: l)) ∧ Below w.heap.size w w' := by
  obtain ⟨i0, hinf, hz0, hz1, hz2⟩ := info_parts infoInt
  have hb1 : Below w.heap.size w (w.alloc (.cells #[.int .i64 x] 3)) := (Below.refl _ _).alloc (Nat.le_refl _) _
  have HRD := Lib.hid (hp.later hb1)
  have how : (w.alloc (.cells #[.int .i64 x] 3)).ownsRow w.heap.size 3 1 (.slice (some ⟨w.heap.size, 0, none⟩) 1 1) 1 [.int .i64 x] := ⟨by simp, .inr ⟨w.heap.size, 1, #[.int .i64 x], rfl, Nat.le_refl _, heap_alloc_new w _, by decide, by decide, rfl, rfl⟩⟩
  have HOW := Lib.hid how
  have HB1 := Lib.hid hb1
  clear hp how hb1
  go_enter Tryd.func14, Tryd.ntmps14
  go_wp2_with (at_builtin; refine wpList_append_ints rfl _ _ rfl w.heap.size i0 hinf hz0 hz1 hz2 w.heap.size 1 1 [.int .i64 x] rfl HOW.out (Nat.le_refl _) p cp l rfl HRD.out (by omega) (by simp) ?_)
  intro v' w3 hown hgrow
  obtain ⟨p', c', rfl⟩ := Row.owns_slice hown
  have hfin : w3.ownsRow w.heap.size 3 1 (.slice p' (l.length + 1) c') (l.length + 1) (cellsZ (x :: l)) ∧ Below w.heap.size w w3 := by
    rw [show 1 + l.length = l.length + 1 by omega] at hown
    exact ⟨hown, HB1.out.grown hgrow (by simp) (by intro k hk; simp [Value.ownBlock] at hk; omega)⟩
  have HF := Lib.hid hfin
  rw [show 1 + l.length = l.length + 1 by omega]
  clear hown hgrow hfin
  go_wp2
  go_ret
  exact ⟨p', c', rfl, HF.out.1, HF.out.2⟩

/-- What a list has had at its front is in no list then. -/
theorem HasL.gone {w : World} {L A G T I J n base m : Nat} {ps : Nat → Option Addr} {hv : Nat → List Nat} (h : HasL w L A G T I J n base ps hv m) {k a : Nat} {l : List Nat} (hk : k < 4) (he : hv k = a :: l) : (∀ j, j < 4 → a ∉ upd hv k l j) ∧ a ≤ n := by
  obtain ⟨cap, capS, cs, ws, sw, ld, st, h1, h2, h3, h4, h5, h6, h7⟩ := h
  have hc := h2.chain k hk
  have ho := h2.once k hk
  rw [he] at hc ho
  refine ⟨fun j hj hm => ?_, by have := hc.2.2.1; omega⟩
  by_cases e : j = k
  · subst e
    rw [upd_same] at hm
    exact (List.nodup_cons.1 ho).1 hm
  · rw [upd_other _ _ e] at hm
    exact e (h2.apart j k a hj hk hm (by rw [he]; exact List.mem_cons_self ..))
theorem HasL.le_n {w : World} {L A G T I J n base m : Nat} {ps : Nat → Option Addr} {hv : Nat → List Nat} (h : HasL w L A G T I J n base ps hv m) : n ≤ 1048576 ∧ ∀ k, k < 4 → (hv k).length ≤ m := by
  obtain ⟨cap, capS, cs, ws, sw, ld, st, h1, h2, h3, h4, h5, h6, h7⟩ := h
  exact ⟨h4, h7⟩
end Go.Proofs.YtooojajagkbhiaaDoor.Lis

namespace Go.Proofs.YtooojajagkbhiaaDoor.Lis
open Go.RowKit
open Class (isB isB_true isB_false)
open Blk (Cfg TbIs ownB blk kAt rowB cellsK other same cell_of_block frozen_of_block)
open Go.Proofs.YtooojajagkbhiaaDoor.Row (Chg Rd Rd0)
open Go.Proofs.YtooojajagkbhiaaDoor.Addr (Tabs)

/-- What is left alone: the table, its row, the record, its rows. -/
def KP (T Hb : Nat) (pt : Option Addr) (hp : Nat → Option Addr) (g : Nat) : Prop := g = T ∨ rowB pt g ∨ g = Hb ∨ ∃ i, i < 4 ∧ rowB (hp i) g
/-- Lists beside the law's own record of what each has. -/
structure Pv (S : Nat) (w wr : World) (L A G T I J n base : Nat) (ps : Nat → Option Addr) (hv : Nat → List Nat) (m bt : Nat) (c : Cfg) (ks : List Nat) (pt : Option Addr) (capT : Nat) (Hb : Nat) (hp : Nat → Option Addr) (hc : Nat → Nat) (hl : Nat → List Nat) : Prop where
  bun : Bun S w wr L A G T I J n base ps hv m bt c ks pt capT (KP T Hb pt hp)
  cell : ∀ k, k < 4 → wr.cell? ⟨Hb, k, none⟩ = some (.slice (hp k) (hl k).length (hc k))
  fz : ∀ k, k < 4 → wr.frozen? ⟨Hb, k, none⟩ = false
  rd : ∀ k, k < 4 → Rd wr (hp k) (intsN (hl k))
  le : ∀ k, k < 4 → (hl k).length ≤ hc k
  nT : Hb ≠ T
  nR : ¬ rowB pt Hb
  nH : ∀ k, k < 4 → ¬ rowB (hp k) Hb
  sH : S ≤ Hb
section
variable {S : Nat} {w wr w' : World} {L A G T I J n base : Nat} {ps : Nat → Option Addr} {hv : Nat → List Nat} {m bt : Nat} {c : Cfg} {ks : List Nat} {pt : Option Addr} {capT : Nat} {Hb : Nat} {hp : Nat → Option Addr} {hc : Nat → Nat} {hl : Nat → List Nat}
theorem Pv.ltH (h : Pv S w wr L A G T I J n base ps hv m bt c ks pt capT Hb hp hc hl) : Hb < wr.heap.size := h.bun.kl Hb (.inr (.inr (.inl rfl)))
theorem Pv.step (h : Pv S w wr L A G T I J n base ps hv m bt c ks pt capT Hb hp hc hl) {ps' : Nat → Option Addr} {hv' : Nat → List Nat} {m' : Nat} (hb : Bun S w w' L A G T I J n base ps' hv' m' bt c ks pt capT (KP T Hb pt hp)) (hC : Chg (Own L A G I J ps) wr w') :
    Pv S w w' L A G T I J n base ps' hv' m' bt c ks pt capT Hb hp hc hl := by
  have hH : w'.heap[Hb]? = wr.heap[Hb]? := hC.block Hb h.ltH (fun e => (h.bun.av Hb e).1 (.inr (.inr (.inl rfl))))
  exact ⟨hb, fun k hk => (cell_of_block (a := ⟨Hb, k, none⟩) hH).trans (h.cell k hk), fun k hk => (frozen_of_block (a := ⟨Hb, k, none⟩) hH).trans (h.fz k hk), fun k hk => (h.rd k hk).chg hC (fun g hg e => (h.bun.av g e).1 (.inr (.inr (.inr ⟨k, hk, hg⟩)))), h.le, h.nT, h.nR, h.nH, h.sH⟩
theorem Pv.later (h : Pv S w wr L A G T I J n base ps hv m bt c ks pt capT Hb hp hc hl) (hS : S ≤ w.heap.size) (hb : Below wr.heap.size wr w') : Pv S w w' L A G T I J n base ps hv m bt c ks pt capT Hb hp hc hl :=
  h.step (h.bun.later hS hb) (Chg.of_below hb)
theorem Pv.lay (h : Pv S w wr L A G T I J n base ps hv m bt c ks pt capT Hb hp hc hl) (hS : S ≤ w.heap.size) {k : Nat} (hk : k < 4) {p' : Option Addr} {c' : Nat} {l : List Nat} (hr : Rd wr p' (intsN l)) (hle : l.length ≤ c') (hg : ∀ g, rowB p' g → ¬ Own L A G I J ps g ∧ g ≠ Hb ∧ g < wr.heap.size) :
    Pv S w (wr.setCell ⟨Hb, k, none⟩ (.slice p' l.length c')) L A G T I J n base ps hv m bt c ks pt capT Hb (upd hp k p') (upd hc k c') (upd hl k l) := by
  have hC : Chg (fun g => g = Hb) wr (wr.setCell ⟨Hb, k, none⟩ (.slice p' l.length c')) := Chg.set (S := fun g => g = Hb) (Chg.refl _ wr) (.inl rfl) _
  have hB := h.bun.chg hS hC (fun j hj => ⟨by rw [hj]; exact .inr (.inr (.inl rfl)), by rw [hj]; exact h.nT, by rw [hj]; exact h.nR, by rw [hj]; exact h.sH⟩)
  have hsz : (wr.setCell ⟨Hb, k, none⟩ (.slice p' l.length c')).heap.size = wr.heap.size := by simp [World.setCell]
  have nH' : ∀ j, j < 4 → ¬ rowB (upd hp k p' j) Hb := fun j hj hr => by
    by_cases e : j = k
    · subst e; rw [upd_same] at hr; exact (hg Hb hr).2.1 rfl
    · rw [upd_other _ _ e] at hr; exact h.nH j hj hr
  refine ⟨hB.keep (.inl rfl) (fun g hg => .inr (.inl hg)) (fun j hj => ?_) (fun j hj => ?_), fun j hj => ?_, fun j hj => (World.frozen?_setCell ..).trans (h.fz j hj), fun j hj => ?_, fun j hj => ?_, h.nT, h.nR, nH', h.sH⟩
  · rcases hj with e | e | e | ⟨i, hi, e⟩
    · exact .inl (.inl e)
    · exact .inl (.inr (.inl e))
    · exact .inl (.inr (.inr (.inl e)))
    · by_cases e2 : i = k
      · subst e2; rw [upd_same] at e; exact .inr (hg j e).1
      · rw [upd_other _ _ e2] at e; exact .inl (.inr (.inr (.inr ⟨i, hi, e⟩)))
  · rcases hj with e | e | e | ⟨i, hi, e⟩
    · exact hB.kl j (.inl e)
    · exact hB.kl j (.inr (.inl e))
    · exact hB.kl j (.inr (.inr (.inl e)))
    · by_cases e2 : i = k
      · subst e2; rw [upd_same] at e; rw [hsz]; exact (hg j e).2.2
      · rw [upd_other _ _ e2] at e; exact hB.kl j (.inr (.inr (.inr ⟨i, hi, e⟩)))
  · by_cases e : j = k
    · subst e; rw [upd_same, upd_same, upd_same]; exact same (h.cell j hj)
    · rw [upd_other _ _ e, upd_other _ _ e, upd_other _ _ e]
      exact (other (by first | (simp; done) | (simp; omega))).trans (h.cell j hj)
  · by_cases e : j = k
    · subst e; rw [upd_same, upd_same]
      exact hr.chg hC (fun g hg' e => (hg g hg').2.1 e)
    · rw [upd_other _ _ e, upd_other _ _ e]
      exact (h.rd j hj).chg hC (fun g hg' e2 => h.nH j hj (e2 ▸ hg'))
  · by_cases e : j = k
    · subst e; rw [upd_same, upd_same]; exact hle
    · rw [upd_other _ _ e, upd_other _ _ e]; exact h.le j hj
end

theorem mem_ints (l : List Nat) (a : Nat) : (a : Int) ∈ intsN l ↔ a ∈ l := by
  unfold intsN
  rw [List.mem_map]
  constructor
  · rintro ⟨b, hb, e⟩
    have e2 : b = a := Int.ofNat_inj.1 e
    exact e2 ▸ hb
  · exact fun h => ⟨a, h, rfl⟩

/-- What is done, that came in, below S. -/
def DeedsL (S : Nat) (W : World) (p : Option Addr) (l : List (Bool × Int)) : Prop := ∀ j, j < l.length → ∃ b off, p = some ⟨b, off, none⟩ ∧ b < S ∧ W.cell? ⟨b, off + j * 2, none⟩ = some (.bool (l.getD j (false, 0)).1) ∧ W.cell? ⟨b, off + j * 2 + 1, none⟩ = some (.int .i64 (l.getD j (false, 0)).2)
theorem take_nothing_bun {S : Nat} {w wr : World} {L A G T I J n base : Nat} {ps : Nat → Option Addr} {hv : Nat → List Nat} {m bt : Nat} {c : Cfg} {ks : List Nat} {pt : Option Addr} {capT : Nat} {K : Nat → Prop} (h : Bun S w wr L A G T I J n base ps hv m bt c ks pt capT K) (k : Nat) (hk : k < 4) (he : hv k = []) :
    Calls Tryd.prog 9 #[.pointer (some ⟨L, 0, none⟩), .int .i64 k] wr fun e w' => e = .returned (.tuple #[.int .i64 0, .int .i64 12]) ∧ Below wr.heap.size wr w' := take_nothing wr h.has k hk he
/-- What is in no list the lists haven't. -/
theorem has_not {w : World} {L A G T I J n m baseL : Nat} {ps : Nat → Option Addr} {hv : Nat → List Nat} (h : HasL w L A G T I J n baseL ps hv m) (a : Int) (ha : ∀ b : Nat, a = (b : Int) → ∀ k, k < 4 → b ∉ hv k) :
    Calls Tryd.prog 10 #[.pointer (some ⟨L, 0, none⟩), .int .i64 a] w fun e w' => e = .returned (.bool false) ∧ ∃ q, w' = w.drewN q := by
  by_cases h0 : a < 0 ∨ (n : Int) < a
  · exact has_no w h a h0
  · obtain ⟨b, rfl⟩ : ∃ b : Nat, a = (b : Int) := ⟨a.toNat, by omega⟩
    exact has_held w h b (by omega) false ⟨(fun e => by cases e), fun ⟨k, hk, hm⟩ => absurd hm (ha b rfl k hk)⟩
theorem has_yes {w : World} {L A G T I J n m baseL : Nat} {ps : Nat → Option Addr} {hv : Nat → List Nat} (h : HasL w L A G T I J n baseL ps hv m) (a k : Nat) (hk : k < 4) (hm : a ∈ hv k) (ha : a ≤ n) :
    Calls Tryd.prog 10 #[.pointer (some ⟨L, 0, none⟩), .int .i64 a] w fun e w' => e = .returned (.bool true) ∧ ∃ q, w' = w.drewN q :=
  has_held w h a ha true ⟨fun _ => ⟨k, hk, hm⟩, fun _ => rfl⟩
end Go.Proofs.YtooojajagkbhiaaDoor.Lis

namespace Go.Proofs.YtooojajagkbhiaaDoor.Lis
open Go.ChangeShapes Go.WideShapes Go.ChangeAt Go.RowKit
open Blk (BytesP)

section
variable {H : Type} {enc : TypeId × Value → H} {w : World} {base : Nat} {spare : Nat → Bool} {held : Bool}
set_option maxRecDepth 100000 in
/-- A row of bytes that came in; how long it is, by what it weighs. -/
theorem open_bytesW {r : Reach} {b0 : Nat} {v : Value} {d : DataW H} {p : List MemPlace} (hv : Value.okWide Tryd.prog w r b0 24 v) (h : DataW.Trod enc Tryd.prog w base spare held 24 v d p) :
    ∃ (a : Option Addr) (zs : List Nat) (cap : Nat), v = .slice a zs.length cap ∧ BytesP w.heap.size w a zs ∧ (a = none → zs = []) ∧ (zs = [] ∨ ∃ e s, d = .slice e s ∧ zs.length ≤ e.length) := by
  have hc3 : Tryd.prog.cellsOf 5 = 1 := by kernel_rfl
  obtain ⟨a, len, cap, rfl⟩ := okWide_slice Tryd.underlying24 hv
  obtain ⟨fuel, hf⟩ := h
  rcases open_ints Tryd.underlying24 Tryd.underlying5 hc3 hf with ⟨hcs, _⟩ | ⟨a', len', cap', zs, hcs, _, hl, hm, hz, hd, hcell, hwf⟩
  · simp [Value.cells] at hcs
    obtain ⟨rfl, rfl, rfl⟩ := hcs
    exact ⟨none, [], 0, rfl, fun j hj => absurd hj (by simp), fun _ => rfl, .inl rfl⟩
  · simp [Value.cells] at hcs
    obtain ⟨rfl, rfl, rfl⟩ := hcs
    have hlz : len ≤ zs.length := by rw [hz]; split <;> omega
    have htl : ((zs.take len).map Int.toNat).length = len := by simp; omega
    refine ⟨some a', (zs.take len).map Int.toNat, cap, by rw [htl], fun j hj => ?_, (fun e => by cases e), .inr ⟨_, _, (Prod.mk.inj hd).1, by rw [htl]; simp [lits]; omega⟩⟩
    rw [htl] at hj
    obtain ⟨b, off, e, hc⟩ := ints_at hcell (by omega)
    subst e
    have hjz : j < zs.length := by omega
    have hb := bounds_u8 (hwf zs[j] (List.getElem_mem hjz))
    have hg : ((zs.take len).map Int.toNat).getD j 0 = zs[j].toNat := by simp [List.getD_eq_getElem?_getD, hj, hjz]
    refine ⟨b, off, rfl, World.block_lt_of_cell? w _ (hc j hjz), by rw [hg]; omega, ?_⟩
    rw [hc j hjz, hg, Int.toNat_of_nonneg hb.1]
    simp [List.getD_eq_getElem?_getD, hjz]
set_option maxRecDepth 100000 in
theorem long_of {ts : List TypeId} {ds : List (DataW H)} (hw : (DataW.weightsEach Tryd.prog ts ds).all (· ≤ reachBytes) = true) {j : Nat} {d : DataW H} {zs : List Nat} (ht : ts[j]? = some 24) (hd : ds[j]? = some d) (h : zs = [] ∨ ∃ e s, d = .slice e s ∧ zs.length ≤ e.length) : zs.length ≤ 140737488351232 := by
  rcases h with rfl | ⟨e, s, rfl, h⟩
  · simp
  · have hs := sized_slice hw ht hd Tryd.underlying24
    have hb : Tryd.prog.bytesOf 5 = 1 := by kernel_rfl
    rw [hb] at hs
    have : reachBytes = 140737488351232 := by kernel_rfl
    omega

set_option maxRecDepth 100000 in
/-- One of what is done, cell by cell. -/
theorem deed_cells {fuel : Nat} {c0 c1 : Value} {x : DataW H × List MemPlace} (h : DataW.trod enc Tryd.prog w base spare held fuel 36 [c0, c1] = some x) : ∃ (a : Bool) (b : Int), c0 = .bool a ∧ c1 = .int .i64 b := by
  have hc3 : Tryd.prog.cellsOf 4 = 1 := by kernel_rfl
  have hc6 : Tryd.prog.cellsOf 3 = 1 := by kernel_rfl
  obtain ⟨xs, n, _, hx, _, hlen, hg⟩ := DataW.trod_struct Tryd.underlying36 h
  match xs, hlen with
  | [y0, y1], _ =>
    obtain ⟨a, e0, _⟩ := DataW.trod_bool Tryd.underlying4 (show DataW.trod enc _ _ _ _ _ _ 4 [c0] = some y0 by simpa [Value.cells, hc3] using hg 0 _ rfl)
    obtain ⟨b, e1, _⟩ := DataW.trod_int Tryd.underlying3 (show DataW.trod enc _ _ _ _ _ _ 3 [c1] = some y1 by simpa [Value.cells, hc6] using hg 1 _ rfl)
    simp only [List.cons.injEq, and_true] at e0 e1
    exact ⟨a, b, e0, e1⟩

set_option maxRecDepth 100000 in
theorem open_deeds {r : Reach} {b0 : Nat} {v : Value} {d : DataW H} {p : List MemPlace} (hv : Value.okWide Tryd.prog w r b0 25 v) (h : DataW.Trod enc Tryd.prog w base spare held 25 v d p) :
    ∃ (a : Option Addr) (l : List (Bool × Int)) (cap : Nat), v = .slice a l.length cap ∧ DeedsL w.heap.size w a l := by
  have hC : Tryd.prog.cellsOf 36 = 2 := by kernel_rfl
  obtain ⟨a, len, cap, rfl⟩ := okWide_slice Tryd.underlying25 hv
  obtain ⟨fuel, hf⟩ := h
  rcases Deep.open_slice Tryd.underlying25 hf with ⟨hcs, _⟩ | ⟨a', len', cap', m, n, D, Pl, hcs, _, hl, hm, hmm, _, hx⟩
  · simp [Value.cells] at hcs
    obtain ⟨rfl, rfl, rfl⟩ := hcs
    exact ⟨none, [], 0, rfl, fun j hj => absurd hj (by simp)⟩
  · simp [Value.cells] at hcs
    obtain ⟨rfl, rfl, rfl⟩ := hcs
    have hlm : len ≤ m := by rw [hmm]; split <;> omega
    have each : ∀ i, i < len → ∃ q : Bool × Int, w.cell? (a'.add (i * 2)) = some (.bool q.1) ∧ w.cell? (a'.add (i * 2 + 1)) = some (.int .i64 q.2) := fun i hi => by
      obtain ⟨cs', h1, h2⟩ := hx i (by omega)
      rw [hC] at h1
      obtain ⟨_, hlen, hcell⟩ := World.cells?_some h1
      match cs', hlen with
      | [v0, v1], _ =>
        obtain ⟨x, y, rfl, rfl⟩ := deed_cells h2
        have e0 := hcell 0 (by omega)
        have e1 := hcell 1 (by omega)
        rw [Deep.add_add] at e0 e1
        exact ⟨(x, y), by simpa using e0, by simpa using e1⟩
    obtain ⟨q, hq⟩ := Deep.choose_lt each
    refine ⟨some a', (List.range len).map q, cap, by simp, fun j hj => ?_⟩
    have hj' : j < len := by simpa using hj
    obtain ⟨c0, c1⟩ := hq j hj'
    obtain ⟨b, off, spot⟩ := a'
    have hspot : spot = none := by simpa [Addr.add] using World.cell?_spot (hq 0 (by omega)).1
    subst hspot
    rw [Go.WideShapes.add_plain] at c0 c1
    refine ⟨b, off, rfl, World.block_lt_of_cell? w _ c0, ?_, ?_⟩
    · rw [c0]; simp [hj', List.getD_eq_getElem?_getD]
    · rw [Nat.add_assoc, c1]; simp [hj', List.getD_eq_getElem?_getD]
end
end Go.Proofs.YtooojajagkbhiaaDoor.Lis
