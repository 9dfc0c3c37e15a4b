/-
  A row of bytes appended to a row that is owned, wherever it lies; a table's slots, and whose they are.
-/
import Derived.Test.YtooojajagkbhiaaDoorLisL
namespace Go.Proofs.YtooojajagkbhiaaDoor.Lis
open Go.RowKit
open Class (isB isB_true isB_false is_any sizI perI)
open Blk (Cfg TbIs ownB ownV ownV_yes ownV_no blk kAt rowB BytesP kL cellsK own_adr adr perN)
open Go.Proofs.YtooojajagkbhiaaDoor.Row (Chg Rd Rd0 same_any cellsZ)
open Go.Proofs.YtooojajagkbhiaaDoor.Addr (Tabs)

def cellsB (l : List Nat) : List Value := l.map fun n => .int .u8 ((n : Nat) : Int)
theorem infoByte : (Tryd.prog.info? 5).map (fun i => (i.zero, i.size, i.bytes)) = some (some (.int .u8 0), 1, 1) := by kernel_rfl
theorem run_append_none {P : Program} (w : World) (t ty e : TypeId) (i : TypeInfo) (ht : P.underlying t = some (.slice e)) (hi : P.info? e = some i) (b : Addr) (n cap c : Nat) (hle : n ≤ cap) :
    (Builtin.append_ #[t, t] ty #[.slice (some b) n cap, .slice none 0 c]).run P w = .ok (.slice (some b) n cap) w := by
  simp [Builtin.append_, run_underlying ht, sizeOf, typeInfo, hi, Builtin.lenOf, Builtin.firstCells, loadCells, loadCellsFrom, storeCells, hle]
theorem run_append_bytes (w : World) (base : Nat) (i : TypeInfo) (hi : Tryd.prog.info? 5 = some i) (hz : i.zero = some (.int .u8 0)) (hs : i.size = 1) (hb : i.bytes = 1) (ty : TypeId) (g n cap : Nat) (xs : List Value) (hown : w.ownsRow base 5 1 (.slice (some ⟨g, 0, none⟩) n cap) n xs) (hnc : n ≤ cap)
    (S : Nat) (pa : Option Addr) (ca : Nat) (za : List Nat) (ha : BytesP S w pa za) (hl : n + za.length ≤ 140737488355328) (hpa : pa = none → za = []) (hbase : base ≤ w.heap.size) :
    ∃ v' w', (Builtin.append_ #[24, 24] ty #[.slice (some ⟨g, 0, none⟩) n cap, .slice pa za.length ca]).run Tryd.prog w = .ok v' w' ∧ w'.ownsRow base 5 1 v' (n + za.length) (xs ++ cellsB za) ∧ w.grownBy w' (Value.slice (some ⟨g, 0, none⟩) n cap).ownBlock := by
  cases pa with
  | none =>
    obtain rfl := hpa rfl
    exact ⟨_, w, run_append_none w _ _ _ i Tryd.underlying24 hi _ n cap ca hnc, by simpa [cellsB] using hown, ⟨rfl, rfl, rfl, Nat.le_refl _, fun _ _ _ => rfl⟩⟩
  | some ad =>
    obtain ⟨v', w', h1, h2, h3, _, _⟩ := run_append_own_at (P := Tryd.prog) w base 24 ty 5 i (.int .u8 0) 1 1 Tryd.underlying24 hi hz hs hb rfl (by decide) _ n xs hown ad za.length ca (cellsB za) (by simp [cellsB]) (fun j u hj => by
      have hjl : j < za.length := by have := (List.getElem?_eq_some_iff.1 hj).1; simpa [cellsB] using this
      obtain ⟨b, off, e, _, _, hc⟩ := ha j hjl
      cases e
      rw [Addr.add_lit, hc]
      simp only [cellsB, List.getElem?_map] at hj
      simp [hjl] at hj
      rw [← hj, List.getD_eq_getElem?_getD]
      simp [hjl]) (fun u hu => by obtain ⟨x, _, rfl⟩ := List.mem_map.1 hu; rfl) (by unfold maxLen; omega) (by omega) hbase
    exact ⟨v', w', h1, h2, h3⟩
/-- append of bytes, as one step of a region that draws. -/
theorem step_append_bytes {ops : Array Oper} {o : Oper} {a : Act} {w : World} {K : Act → World → Prop} {Q : Exit → Act → World → Prop} {E : Prop}
    (hg : o.guard = none) (s x : Operand) (hop : o.op = Op.call { callee := Callee.builtin Builtin.append, args := #[s, x], argTypes := #[24, 24] })
    (base : Nat) (i : TypeInfo) (hi : Tryd.prog.info? 5 = some i) (hz : i.zero = some (.int .u8 0)) (hs : i.size = 1) (hb : i.bytes = 1) (g n cap : Nat) (xs : List Value) (he : a.eval s = .slice (some ⟨g, 0, none⟩) n cap) (hown : w.ownsRow base 5 1 (.slice (some ⟨g, 0, none⟩) n cap) n xs) (hnc : n ≤ cap)
    (S : Nat) (pa : Option Addr) (ca : Nat) (za : List Nat) (hx : a.eval x = .slice pa za.length ca) (ha : BytesP S w pa za) (hl : n + za.length ≤ 140737488355328) (hpa : pa = none → za = []) (hbase : base ≤ w.heap.size)
    (hK : ∀ v' w', w'.ownsRow base 5 1 v' (n + za.length) (xs ++ cellsB za) → w.grownBy w' (Value.slice (some ⟨g, 0, none⟩) n cap).ownBlock → K (a.put o.dst v') w') :
    if Region.wanted o (yielded ops a.tmps) = true then Oper.wp Tryd.prog o a w K Q else E := by
  have hw : Region.wanted o (yielded ops a.tmps) = true := by simp [Region.wanted, hg]
  rw [if_pos hw]
  obtain ⟨v', w', hr, h2, h3⟩ := run_append_bytes w base i hi hz hs hb o.type g n cap xs hown hnc S pa ca za ha hl hpa hbase
  unfold Oper.wp execOp
  simp only [hop, resolve, invoke, builtin, Sem.run_bind, Sem.run_pure, Result.andThen_ok, List.map_toArray, List.map_cons, List.map_nil, he, hx, hr]
  exact hK _ _ h2 h3

theorem own_adr2 {c : Cfg} {ks : List Nat} {b i : Nat} (hR : rightB c.b c.wd c.m c.r c.ce c.lg c.st = true) (hb : b < ks.length) (hbb : (b : Int) < c.b) (hk : kAt ks b < 4) (hi : i < perN c (kAt ks b)) :
    ownB c ks (adr c (kAt ks b) b i) = true ∧ blk c (adr c (kAt ks b) b i) = b := by
  have h := own_adr hR hb hbb hk hi
  cases ho : ownB c ks (adr c (kAt ks b) b i) with
  | true =>
    refine ⟨rfl, ?_⟩
    rw [ownV_yes ho] at h
    simp only [Value.tuple.injEq, Array.mk.injEq, List.cons.injEq, Value.int.injEq] at h
    omega
  | false =>
    rw [ownV_no ho] at h
    simp at h
/-- A row of bytes that is owned reads so. -/
theorem bytes_of_owns {w : World} {base cap n : Nat} {p : Option Addr} {za : List Nat} (h : w.ownsRow base 5 1 (.slice p n cap) n (cellsB za)) (hz : ∀ z ∈ za, z < 256) : BytesP w.heap.size w p za := fun j hj => by
  have h' := h
  obtain ⟨h1, ⟨_, h2⟩ | ⟨g, c, cur, e1, r⟩⟩ := h
  · simp [cellsB] at h1; omega
  · cases e1
    have hc : w.cell? ⟨g, j, none⟩ = some (.int .u8 ((za.getD j 0 : Nat) : Int)) := Row.owns_cell h' j _ (by simp [cellsB, List.getD_eq_getElem?_getD, hj])
    refine ⟨g, 0, rfl, World.block_lt_of_cell? w _ hc, ?_, by rw [Nat.zero_add]; exact hc⟩
    rw [List.getD_eq_getElem?_getD]
    simp [hj, hz]
end Go.Proofs.YtooojajagkbhiaaDoor.Lis
