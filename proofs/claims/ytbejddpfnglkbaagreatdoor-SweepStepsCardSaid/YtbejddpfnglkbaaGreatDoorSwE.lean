/-
  A block, swept; all blocks, swept.
-/
import Derived.Test.YtbejddpfnglkbaaGreatDoorSwD
import Derived.WalkMore
namespace Go.Proofs.YtbejddpfnglkbaaGreatDoor.Sw
open Go.RowKit
open Blk (Cfg TbIs kAt seg seg_length perN allP allP_succ allP_len)
open Hp (Ids St Wf Is To Mine bnI bn coE coV frE frS colB holdsF)
open Go.Proofs.YtbejddpfnglkbaaGreatDoor.Row (Chg Rd Rd0 cell_of_block frozen_of_block other same rowB cellsZ cellsZ_length cellsZ_at cellsZ_snoc owns_lt owns_chg owns_slice owns_base owns_cap owns_block push_row info_parts infoInt one_at)
open Go.Proofs.YtbejddpfnglkbaaGreatDoor.Addr (Tabs)

theorem swT_c (s : St) (col a : Int) : (swT s col a).c = s.c := by unfold swT; split <;> rfl
theorem swT_ks (s : St) (col a : Int) : (swT s col a).ks = s.ks := by unfold swT; split <;> rfl
theorem swS_c (s : St) (col : Int) (l : List Int) : (swS s col l).c = s.c := by
  induction l generalizing s with
  | nil => rfl
  | cons a l ih => rw [swS, ih, swT_c]
theorem swS_ks (s : St) (col : Int) (l : List Int) : (swS s col l).ks = s.ks := by
  induction l generalizing s with
  | nil => rfl
  | cons a l ih => rw [swS, ih, swT_ks]
theorem swS_append (s : St) (col : Int) (l l2 : List Int) : swS s col (l ++ l2) = swS (swS s col l) col l2 := by
  induction l generalizing s with
  | nil => rfl
  | cons a l ih => rw [List.cons_append, swS, ih, swS]
theorem swF_append (s : St) (col : Int) (l l2 : List Int) : swF s col (l ++ l2) = swF s col l ++ swF (swS s col l) col l2 := by
  induction l generalizing s with
  | nil => rfl
  | cons a l ih => rw [List.cons_append, swF, ih, swF, swS, List.append_assoc]

/-- What sweeping leaves: what was freed, in a new row. -/
def Swept (w : World) (H : Nat) (d : Ids) (s' : St) (m' : Nat) (l : List Int) (e : Ending) (w' : World) : Prop :=
  ∃ d' po co, e = .returned (.tuple #[.slice po l.length co, .int .i64 0]) ∧ Is w' H d' s' m' ∧ Tabs w' ∧ Chg (Mine H d) w w' ∧ (∀ j, Mine H d' j → Mine H d j ∨ w.heap.size ≤ j) ∧ w'.ownsRow w.heap.size 3 1 (.slice po l.length co) l.length (cellsZ l) ∧ ∀ g, rowB po g → ¬ Mine H d' g

section
variable {H m : Nat} {d : Ids} {s : St}
theorem block_bad (b c : Int) (w : World) (h : Is w H d s m) (hb : colB c = false ∨ b < 0 ∨ (s.ks.length : Int) ≤ b) : Calls Tryz.prog 11 #[.pointer (some ⟨H, 0, none⟩), .int .i64 b, .int .i64 c] w fun e w' => e = .returned (.tuple #[.slice none 0 0, .int .i64 1]) ∧ Below w.heap.size w w' := by
  have HN : Hid (Calls Tryz.prog 15 #[.pointer (some ⟨H, 0, none⟩), .int .i64 b, .int .i64 c] w fun e w' => e = .returned (.tuple #[.pointer none, .int .i64 1]) ∧ Below w.heap.size w w') := Lib.hid (by
    rcases hb with hb | hb
    · refine (new_color b c w hb).mono ?_
      rintro e w' ⟨rfl, rfl⟩
      exact ⟨rfl, Below.refl _ _⟩
    · exact new_out b c w h hb)
  clear h hb
  go_enter Tryz.func11, Tryz.ntmps11
  go_wp2_with (go_at_call 15; refine HN.out.mono ?_; rintro e w1 ⟨rfl, hb1⟩; have HB1 := Lib.hid hb1; clear hb1)
  go_ret2
  exact ⟨rfl, HB1.out⟩
theorem block_good (b : Nat) (c : Int) (w : World) (h : Is w H d s m) (ht : Tabs w) (hb : b < s.ks.length) (hc : colB c = true) (hm : m < 500000) : Calls Tryz.prog 11 #[.pointer (some ⟨H, 0, none⟩), .int .i64 b, .int .i64 c] w
    (Swept w H d (swS s c (seg s.c s.ks b)) (m + (seg s.c s.ks b).length) (swF s c (seg s.c s.ks b))) := by
  have HN := Lib.hid (new_good b c w h ht hb hc)
  have hl := seg_le s b
  have HI := Lib.hid h
  clear h ht
  go_enter Tryz.func11, Tryz.ntmps11
  go_wp2_with (first
    | (go_at_call 15; refine HN.out.mono ?_; rintro e w1 ⟨C, p, cap, rfl, hh, hb1, hC, hp⟩; have HH := Lib.hid hh; have HB1 := Lib.hid hb1; have HC := Lib.hid hC; clear hh hb1 hC hp)
    | (go_at_call 33; refine (freed_any w1 HH.out (by omega) (by omega)).mono ?_; rintro e w2 ⟨d2, p2, cap2, po, co, rfl, ho⟩; have HO := Lib.hid ho; clear ho))
  go_ret2
  have hO := HO.out
  have hz := HB1.out.size
  refine ⟨d2, po, co, rfl, hO.hc.is, hO.hc.tb, (Chg.of_below (S := Mine H d) HB1.out).trans hO.hc.chg (fun q (e : Mine H d q ∨ q = C) => e.imp id (fun (x : q = C) => x.symm ▸ HC.out)), fun j hj => (hO.hc.inD j hj).imp id (fun x => by omega), owns_base hz hO.own, fun g hg => (hO.av g hg).1⟩

theorem all_bad (c : Int) (w : World) (hc : colB c = false) : Calls Tryz.prog 23 #[.pointer (some ⟨H, 0, none⟩), .int .i64 c] w fun e w' => e = .returned (.tuple #[.slice none 0 0, .int .i64 1]) ∧ w = w' := by
  go_enter Tryz.func23, Tryz.ntmps23
  go_wp2
  go_step3
  go_wp2_with (go_at_call 44; refine (col_any _ _).mono ?_; rw [hc]; rintro e w' ⟨rfl, rfl⟩)
  try rw [Exit.noGoto_ret]
  go_ret2
  exact ⟨rfl, rfl⟩
end

theorem run_append_row2 (w : World) (base : Nat) (ty : TypeId) (pl : Option Addr) (cap : Nat) (l : List Int) (hown : w.ownsRow base 3 1 (.slice pl l.length cap) l.length (cellsZ l))
    (pa : Option Addr) (ca : Nat) (za : List Int) (ha : Rd0 w pa za) (hl : l.length + za.length ≤ 1048576) (hbase : base ≤ w.heap.size) :
    ∃ p' c' w', (Builtin.append_ #[32, 32] ty #[.slice pl l.length cap, .slice pa za.length ca]).run Tryz.prog w = .ok (.slice p' (l ++ za).length c') w' ∧ w'.ownsRow base 3 1 (.slice p' (l ++ za).length c') (l ++ za).length (cellsZ (l ++ za)) ∧ Chg (rowB pl) w w' ∧ ∀ g, rowB p' g → rowB pl g ∨ w.heap.size ≤ g := by
  obtain ⟨i, hi, hz, hs, hb⟩ := info_parts infoInt
  have hcz : cellsZ (l ++ za) = cellsZ l ++ cellsZ za := by simp [cellsZ]
  rw [List.length_append, hcz]
  cases pa with
  | none =>
    have hza : za = [] := by
      cases za with
      | nil => rfl
      | cons x xs => obtain ⟨g, off, e, _⟩ := ha 0 (by simp); cases e
    subst hza
    obtain ⟨h1, ⟨h2, h3⟩ | ⟨g, c, cur, e1, e2, e3, e4, r⟩⟩ := id hown
    · obtain rfl := List.eq_nil_of_length_eq_zero h3
      cases h2
      exact ⟨none, 0, w, Hp.run_append_none0 w _ _ _ i Tryz.underlying32 hi ca, by simpa [cellsZ] using hown, Chg.refl _ _, fun g hg => .inl hg⟩
    · cases e1
      exact ⟨_, _, w, Lis.run_append_none w _ _ _ i Tryz.underlying32 hi _ _ _ ca e4, by simpa [cellsZ] using hown, Chg.refl _ _, fun g hg => .inl hg⟩
  | some ad =>
    obtain ⟨v', w', h1, h2, h3, _, h5⟩ := run_append_own_at (P := Tryz.prog) w base 32 ty 3 i (.int .i64 0) 1 8 Tryz.underlying32 hi hz hs hb rfl (by decide) _ _ _ hown ad za.length ca (cellsZ za) (by simp [cellsZ]) (fun j u hj => by
      have hjl : j < za.length := by have := (List.getElem?_eq_some_iff.1 hj).1; simpa [cellsZ] using this
      rw [cellsZ_at za hjl] at hj
      cases hj
      obtain ⟨g, off, e, hc⟩ := ha j hjl
      cases e
      rw [Addr.add_lit]
      exact hc) (fun u hu => by obtain ⟨x, _, rfl⟩ := List.mem_map.1 hu; rfl) (by unfold maxLen; omega) (by omega) hbase
    obtain ⟨p', c', rfl, hC, hR⟩ := push_row (Below.refl _ w) h2 h3 h5
    exact ⟨p', c', w', h1, h2, hC, hR⟩
theorem wpList_append_row2 {ops : Array Oper} {rest : List Oper} {o : Oper} {a : Act} {w : World} {Q : Exit → Act → World → Prop} (hgd : o.guard = none) (s x : Operand)
    (ho : o.op = .call { callee := .builtin .append, args := #[s, x], argTypes := #[32, 32] })
    (base : Nat) (pl : Option Addr) (cap : Nat) (l : List Int) (he : a.eval s = .slice pl l.length cap) (hown : w.ownsRow base 3 1 (.slice pl l.length cap) l.length (cellsZ l))
    (pa : Option Addr) (ca : Nat) (za : List Int) (hx : a.eval x = .slice pa za.length ca) (ha : Rd0 w pa za) (hl : l.length + za.length ≤ 1048576) (hbase : base ≤ w.heap.size)
    (h : ∀ p' c' w', w'.ownsRow base 3 1 (.slice p' (l ++ za).length c') (l ++ za).length (cellsZ (l ++ za)) → Chg (rowB pl) w w' → (∀ g, rowB p' g → rowB pl g ∨ w.heap.size ≤ g) → wpList Tryz.prog ops Q rest (a.put o.dst (.slice p' (l ++ za).length c')) w') :
    wpList Tryz.prog ops Q (o :: rest) a w := by
  refine wpList_plain hgd fun K hK => ?_
  obtain ⟨p', c', w', hr, h2, h3, h4⟩ := run_append_row2 w base o.type pl cap l hown pa ca za ha hl hbase
  unfold Oper.wp execOp
  simp only [ho, resolve, invoke, builtin, Sem.run_bind, Sem.run_pure, Result.andThen_ok, List.map_toArray, List.map_cons, List.map_nil, he, hx, hr]
  exact hK _ _ (h p' c' w' h2 h3 h4)
end Go.Proofs.YtbejddpfnglkbaaGreatDoor.Sw
