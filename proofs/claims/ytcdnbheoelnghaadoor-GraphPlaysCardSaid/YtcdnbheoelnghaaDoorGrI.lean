/-
  The deeds that take a register: drop, get, move.
-/
import Derived.Test.YtcdnbheoelnghaaDoorGrH
import Derived.Deep.RegionWith
import Derived.StillTailTactics
namespace Go.Proofs.YtcdnbheoelnghaaDoor.Gra
open Go.RowKit Go.Proofs.YtcdnbheoelnghaaDoor.Opr
open Go.Proofs.YtcdnbheoelnghaaDoor.Row (rowB rowB_none Chg owns_chg owns_cell owns_lt owns_block owns_slice owns_cap cellsZ cellsZ_length cellsZ_at)

/-- What a deed leaves. -/
def Ef (c : C7) (G : Nat) (P : Nat → Option Addr) (W w' : World) (s' : GSt) : Prop := ∃ P' K', GIs c w' G P' K' s' ∧ Chg (mine G P) W w' ∧ ∀ x, mine G P' x → mine G P x ∨ W.heap.size ≤ x
theorem Ef.before {c : C7} {G : Nat} {P : Nat → Option Addr} {W W1 w' : World} {s' : GSt} (hb : Below W.heap.size W W1) (h : Ef c G P W1 w' s') : Ef c G P W w' s' := by
  obtain ⟨P', K', h1, h2, h3⟩ := h
  have hs := hb.size
  refine ⟨P', K', h1, (Chg.of_below hb).trans h2 (fun _ e => .inl e), fun x hx => ?_⟩
  rcases h3 x hx with h | h
  · exact .inl h
  · exact .inr (by omega)
theorem Ef.behind {c : C7} {G : Nat} {P : Nat → Option Addr} {W W1 w' : World} {s' : GSt} (h : Ef c G P W W1 s') (hb : Below W1.heap.size W1 w') : Ef c G P W w' s' := by
  obtain ⟨P', K', h1, h2, h3⟩ := h
  refine ⟨P', K', h1.later hb, h2.trans (Chg.of_below (S := fun _ => False) hb) (fun _ e => e.elim), h3⟩
theorem Ef.self {c : C7} {G : Nat} {P : Nat → Option Addr} {K : Nat → Nat} {W w' : World} {s : GSt} (h : GIs c W G P K s) (hb : Below W.heap.size W w') : Ef c G P W w' s :=
  ⟨P, K, h.later hb, Chg.of_below hb, fun _ hx => .inl hx⟩
theorem V_reg {s : GSt} {m : Nat} (hm : m < s.nR) : s.V (4 + 2 * m) := .inr (.inr ⟨m, hm, rfl⟩)
theorem V_obj {s : GSt} {m : Nat} (hm : m < s.nO) : s.V (3 + 2 * m) := .inr (.inl ⟨m, hm, rfl⟩)
theorem V_cells (s : GSt) : s.V 2 := .inl rfl

theorem take_is {c : C7} {W : World} {G : Nat} {P : Nat → Option Addr} {K : Nat → Nat} {s : GSt} (h : GIs c W G P K s) {m r : Nat} (hm : m < s.nR) (hr : r < (s.E (4 + 2 * m)).length) (id : Int) :
    Calls Tryd.prog 60 #[.pointer (some ⟨G, 0, none⟩), .int .i64 m, .int .i64 r, .int .i64 id] W fun e w' => e = .returned (.tuple #[.int .i64 id, .int .i64 0]) ∧ Ef c G P W w' (s.set (4 + 2 * m) r id) := by
  obtain ⟨R, h1, h2⟩ := h.rowR hm
  obtain ⟨Q, h3, h4, h5, h6, h7⟩ := h.set (V_reg hm) hr
  have h8 := h.r
  rw [h1] at h8
  rw [h3] at h2
  refine (take_any (ro := 0) (qo := 0) id W h8 hm (by rw [Nat.zero_add]; exact h2) hr (by rw [Nat.zero_add]; exact h4) (by rw [Nat.zero_add]; exact h5)).mono ?_
  rintro e w' ⟨rfl, rfl⟩
  rw [Nat.zero_add]
  exact ⟨rfl, P, K, (h7 id).1, (h7 id).2, fun _ hx => .inl hx⟩

set_option maxRecDepth 100000 in
set_option maxHeartbeats 2000000 in
theorem drop_any {c : C7} {W : World} {G : Nat} {P : Nat → Option Addr} {K : Nat → Nat} {s : GSt} (h : GIs c W G P K s) {m a : Nat} (hm : m < s.nR) (hr : a < (s.E (4 + 2 * m)).length) (k x cc : Int) :
    Calls Tryd.prog 47 #[.pointer (some ⟨G, 0, none⟩), .int .i64 m, .agg #[.int .i64 k, .int .i64 a, .int .i64 x, .int .i64 cc]] W fun e w' => e = .returned (.tuple #[.int .i64 0, .int .i64 0]) ∧ Ef c G P W w' (s.set (4 + 2 * m) a 0) := by
  obtain ⟨w0, hw0⟩ : ∃ w0, W.alloc (.cells #[.int .i64 k, .int .i64 a, .int .i64 x, .int .i64 cc] 39) = w0 := ⟨_, rfl⟩
  have HA : Hid (Below W.heap.size W w0) := Lib.hid (by rw [← hw0]; exact (Below.refl _ _).alloc (Nat.le_refl _) _)
  have hO : CellsAt w0 W.heap.size [.int .i64 k, .int .i64 a, .int .i64 x, .int .i64 cc] := by rw [← hw0]; exact CellsAt.new _ _ _
  have o1 := hO 1 _ rfl
  have HT : Hid (∀ V, Below W.heap.size W V → Calls Tryd.prog 60 #[.pointer (some ⟨G, 0, none⟩), .int .i64 m, .int .i64 a, .int .i64 0] V fun e w' => e = .returned (.tuple #[.int .i64 0, .int .i64 0]) ∧ Ef c G P W w' (s.set (4 + 2 * m) a 0)) :=
    Lib.hid fun V hV => (take_is (h.later hV) hm hr 0).mono fun e w' h2 => ⟨h2.1, h2.2.before hV⟩
  have HD : Hid (Below W.heap.size W w0.drew) := Lib.hid HA.out.drew
  clear hO h hr hm
  go_enter Tryd.func47, Tryd.ntmps47
  go_wp2_with (go_at_call 60; refine (HT.out _ HA.out).mono ?_; rintro e w7 ⟨rfl, hE⟩; have HE := Lib.hid hE; clear hE)
  go_ret2
  exact ⟨rfl, HE.out⟩
end Go.Proofs.YtcdnbheoelnghaaDoor.Gra
