/-
  slices.Clone of an arena's words; (*arena.Arena).Dump, and Copy of none.
-/
import Derived.Test.YtibnbbachoignaaArB
import Derived.Deep.LoopGhost
import Derived.Lib.Walk
import Derived.Lib.SliceRun
namespace Go.Proofs.Ytibnbbachoignaa.Arena
open Go.RowKit
attribute [local go_sem] Oper.semAt_some

theorem info_parts {i : Option TypeInfo} (h : i.map (fun i => (i.zero, i.size, i.bytes)) = some (some (.int .u64 0), 1, 8)) : ∃ j, i = some j ∧ j.zero = some (.int .u64 0) ∧ j.size = 1 ∧ j.bytes = 8 := by
  cases i with
  | none => cases h
  | some i =>
    simp only [Option.map_some, Option.some.injEq, Prod.mk.injEq] at h
    exact ⟨i, rfl, h.1, h.2.1, h.2.2⟩

/-- Words that lie in memory, not frozen. -/
structure WordsAt (w : World) (G cap : Nat) (ws : List Nat) : Prop where
  capn : ws.length ≤ cap
  at_ : ∀ j, j < ws.length → w.cell? ⟨G, j, none⟩ = some (.int .u64 (wd ws j))
  fz : ∀ j, j < ws.length → w.frozen? ⟨G, j, none⟩ = false

theorem words_of_owns {w : World} {B : Nat} {v : Value} {ws : List Nat} (h : w.ownsRow B 23 1 v ws.length ((List.range ws.length).map fun j => .int .u64 (wd ws j))) (hn : v ≠ .slice none 0 0) :
    ∃ G cap, v = .slice (some ⟨G, 0, none⟩) ws.length cap ∧ B ≤ G ∧ G < w.heap.size ∧ WordsAt w G cap ws := by
  obtain ⟨h1, ⟨h2, _⟩ | ⟨g, cap, cur, rfl, hb, hg, hc, hm, hs, ht⟩⟩ := h
  · exact absurd h2 hn
  · refine ⟨g, cap, rfl, hb, (Array.getElem?_eq_some_iff.1 hg).1, hc, fun j hj => ?_, fun j hj => ?_⟩
    · have e : cur[j]? = some (.int .u64 (wd ws j)) := by
        have h3 := congrArg (fun l => l[j]?) ht
        simp [hj] at h3
        exact h3
      simp [World.cell?, hg, e]
    · simp [World.frozen?, hg]

set_option maxHeartbeats 2000000 in
set_option maxRecDepth 100000 in
theorem clone_any (G cap : Nat) (ws : List Nat) (w : World) (hlen : ws.length ≤ 1048576) (hc : ∀ j, j < ws.length → w.cell? ⟨G, j, none⟩ = some (.int .u64 (wd ws j))) :
    Calls Try.prog 19 #[.slice (some ⟨G, 0, none⟩) ws.length cap] w fun e w' => ∃ G' cap', e = .returned (.slice (some ⟨G', 0, none⟩) ws.length cap') ∧ w.heap.size ≤ G' ∧ G' < w'.heap.size ∧ WordsAt w' G' cap' ws ∧ Below w.heap.size w w' := by
  obtain ⟨i0, hi, hz0, hz1, hz2⟩ := info_parts info64
  have q22 : ∀ (w : World) (a : Option Addr) (n c n' c' : Nat), (binOp .eql 32 (.slice a n c) (.slice none n' c')).run Try.prog w = .ok (.bool a.isNone) w := fun w a n c n' c' => Lib.run_eql_slice_nil w _ _ a n c n' c' Try.underlying32
  have A := Lib.hid hc
  clear hc
  go_enter Try.func19, Try.ntmps19
  go_wp2_with (at_builtin; refine wpList_append_own _ rfl _ _ 32 rfl w.heap.size 23 i0 (.int .u64 0) 1 8 Try.underlying32 hi hz0 hz1 hz2 rfl (by decide) _ _ _ rfl (World.ownsRow_made w #[] 0 (Nat.le_refl _) (Nat.zero_le _) rfl) ⟨G, 0, none⟩ ws.length cap ((List.range ws.length).map fun j => .int .u64 (wd ws j)) rfl ?qc1 ?qc2 ?qc3 ?qc4 ?qc5 ?qc6 ?_)
  case qc1 => simp
  case qc2 =>
    intro j u hj
    have hjn : j < ws.length := by
      have := (List.getElem?_eq_some_iff.1 hj).1
      simpa using this
    rw [Addr.add_lit, Nat.zero_add]
    refine Lib.cell?_alloc_some _ ?_
    rw [A.out j hjn]
    simpa [hjn] using hj
  case qc3 => intro u hu; obtain ⟨x, _, rfl⟩ := List.mem_map.1 hu; rfl
  case qc4 => unfold maxLen; omega
  case qc5 => omega
  case qc6 => simp
  intro v' w1 hown hgrow hnil
  go_wp2
  go_ret
  obtain ⟨G', cap', rfl, h1, h2, h3⟩ := words_of_owns (by simpa using hown) (by simpa using hnil)
  refine ⟨G', cap', rfl, h1, h2, h3, ?_⟩
  exact ((Below.refl _ w).alloc (Nat.le_refl _) _).grown hgrow (by simp) (by intro k hk; simp [Value.ownBlock] at hk; omega)

theorem dump_nil (w : World) : Calls Try.prog 13 #[.pointer none] w fun e w' => e = .returned (.slice none 0 0) ∧ w = w' := by
  go_enter Try.func13, Try.ntmps13
  go_wp2
  go_ret
  exact ⟨rfl, rfl⟩
theorem copy_nil (w : World) : Calls Try.prog 12 #[.pointer none] w fun e w' => e = .returned (.pointer none) ∧ w = w' := by
  go_enter Try.func12, Try.ntmps12
  go_wp2
  go_ret
  exact ⟨rfl, rfl⟩

set_option maxHeartbeats 1000000 in
theorem dump_any {B G cap ld st : Nat} {ws : List Nat} (w : World) (h : ArIs w B G cap ws ld st) :
    Calls Try.prog 13 #[.pointer (some ⟨B, 0, none⟩)] w fun e w' => ∃ G' cap', e = .returned (.slice (some ⟨G', 0, none⟩) ws.length cap') ∧ w.heap.size ≤ G' ∧ G' < w'.heap.size ∧ WordsAt w' G' cap' ws ∧ Below w.heap.size w w' := by
  have hc := h.cw
  have HC := Lib.hid (fun (W1 : World) (h2 : ∀ j, j < ws.length → W1.cell? ⟨G, j, none⟩ = some (.int .u64 (wd ws j))) => clone_any G cap ws W1 h.small h2)
  have HA := Lib.hid h.at_
  clear h
  go_enter Try.func13, Try.ntmps13
  go_wp2_with (go_at_call 19; refine (HC.out _ HA.out).mono ?_; rintro e w1 ⟨G', cap', rfl, hG1, hG2, hwat, hb1⟩)
  go_ret
  exact ⟨G', cap', rfl, hG1, hG2, hwat, hb1⟩

end Go.Proofs.Ytibnbbachoignaa.Arena
