/-
  slices.Clone of a set's words: as many words, the same ones, in memory of the call's own.
-/
import Derived.Test.YtahhenbphnejiaaDoorBitsH
import Derived.Deep.LoopGhost
import Derived.Lib.Walk
import Derived.Lib.SliceRun
namespace Go.Proofs.YtahhenbphnejiaaDoor.Bits
open Go.RowKit Go.Shelf
attribute [local go_sem] Oper.semAt_some

theorem infoU64 : (Tryd.prog.info? 66).map (fun i => (i.zero, i.size, i.bytes)) = some (some (.int .u64 0), 1, 8) := by kernel_rfl

/-- Words that lie in memory, not frozen. -/
structure WordsAt (w : World) (G cap : Nat) (ws : List Nat) : Prop where
  capn : ws.length ≤ cap
  at_ : ∀ j, j < ws.length → w.cell? ⟨G, j, none⟩ = some (.int .u64 (wd ws j))
  fz : ∀ j, j < ws.length → w.frozen? ⟨G, j, none⟩ = false

theorem words_of_owns {w : World} {B : Nat} {v : Value} {ws : List Nat} (h : w.ownsRow B 66 1 v ws.length ((List.range ws.length).map fun j => .int .u64 (wd ws j))) (hn : v ≠ .slice none 0 0) :
    ∃ G cap, v = .slice (some ⟨G, 0, none⟩) ws.length cap ∧ B ≤ G ∧ G < w.heap.size ∧ WordsAt w G cap ws := by
  obtain ⟨h1, ⟨h2, _⟩ | ⟨g, cap, cur, rfl, hb, hg, hc, hm, hs, ht⟩⟩ := h
  · exact absurd h2 hn
  · refine ⟨g, cap, rfl, hb, (Array.getElem?_eq_some_iff.1 hg).1, hc, fun j hj => ?_, fun j hj => ?_⟩
    · have e : cur[j]? = some (.int .u64 (wd ws j)) := by
        have h3 := congrArg (fun l => l[j]?) ht
        simp [hj] at h3
        exact h3
      simp [World.cell?, hg, e]
    · simp [World.frozen?, hg]

set_option maxHeartbeats 2000000 in
set_option maxRecDepth 100000 in
theorem clone_any (G cap : Nat) (ws : List Nat) (w : World) (hlen : ws.length ≤ 2097152) (hc : ∀ j, j < ws.length → w.cell? ⟨G, j, none⟩ = some (.int .u64 (wd ws j))) :
    Calls Tryd.prog 51 #[.slice (some ⟨G, 0, none⟩) ws.length cap] w fun e w' => ∃ G' cap', e = .returned (.slice (some ⟨G', 0, none⟩) ws.length cap') ∧ w.heap.size ≤ G' ∧ G' < w'.heap.size ∧ WordsAt w' G' cap' ws ∧ Below w.heap.size w w' := by
  obtain ⟨i0, hi, hz0, hz1, hz2⟩ := info_parts infoU64
  have q22 : ∀ (w : World) (a : Option Addr) (n c n' c' : Nat), (binOp .eql 60 (.slice a n c) (.slice none n' c')).run Tryd.prog w = .ok (.bool a.isNone) w := fun w a n c n' c' => Lib.run_eql_slice_nil w _ _ a n c n' c' Tryd.underlying60
  have A := Lib.hid hc
  clear hc
  go_enter Tryd.func51, Tryd.ntmps51
  go_wp2_with (at_builtin; refine wpList_append_own _ rfl _ _ 60 rfl w.heap.size 66 i0 (.int .u64 0) 1 8 Tryd.underlying60 hi hz0 hz1 hz2 rfl (by decide) _ _ _ rfl (World.ownsRow_made w #[] 0 (Nat.le_refl _) (Nat.zero_le _) rfl) ⟨G, 0, none⟩ ws.length cap ((List.range ws.length).map fun j => .int .u64 (wd ws j)) rfl ?qc1 ?qc2 ?qc3 ?qc4 ?qc5 ?qc6 ?_)
  case qc1 => simp
  case qc2 =>
    intro j u hj
    have hjn : j < ws.length := by
      have := (List.getElem?_eq_some_iff.1 hj).1
      simpa using this
    rw [Addr.add_lit, Nat.zero_add]
    refine Lib.cell?_alloc_some _ ?_
    rw [A.out j hjn]
    simpa [hjn] using hj
  case qc3 => intro u hu; obtain ⟨x, _, rfl⟩ := List.mem_map.1 hu; rfl
  case qc4 => unfold maxLen; omega
  case qc5 => omega
  case qc6 => simp
  intro v' w1 hown hgrow hnil
  go_wp2
  go_ret
  obtain ⟨G', cap', rfl, h1, h2, h3⟩ := words_of_owns (by simpa using hown) (by simpa using hnil)
  refine ⟨G', cap', rfl, h1, h2, h3, ?_⟩
  exact ((Below.refl _ w).alloc (Nat.le_refl _) _).grown hgrow (by simp) (by intro k hk; simp [Value.ownBlock] at hk; omega)
end Go.Proofs.YtahhenbphnejiaaDoor.Bits
