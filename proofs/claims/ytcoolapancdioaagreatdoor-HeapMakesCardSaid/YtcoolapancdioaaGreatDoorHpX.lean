/-
  A heap's config, its table, its free slots: what is told of them.
-/
import Derived.Test.YtcoolapancdioaaGreatDoorHpU
namespace Go.Proofs.YtcoolapancdioaaGreatDoor.Hp
open Go.RowKit Go.Shelf
open Class (isB isB_true isB_false below_drewN)
open Blk (Cfg TbIs collect_any cellsF cellsK)
open Go.Proofs.YtcoolapancdioaaGreatDoor.Row (Chg cellsZ Rd)
open Lis (intsN intsN_length cellsZ_ints told_rev tellB)
open Go.Proofs.YtcoolapancdioaaGreatDoor.Addr (Tabs)

theorem frees_any {H : Nat} {d : Ids} {s : St} {m : Nat} (k : Nat) (w : World) (h : Is w H d s m) (hm : m ≤ 1000000) (hk : k < 4) : Calls Tryz.prog 37 #[.pointer (some ⟨H, 0, none⟩), .int .i64 k] w (NewRow w (intsN (s.hv k))) := by
  have hcL := h.cL
  have hl := h.cnt.2.2 k hk
  have hlen : (intsN (s.hv k).reverse).length = (s.hv k).length := by simp [intsN]
  have hb0 := two_new (w := w) (.pointer (some ⟨d.L, 0, none⟩)) (.int .i64 k) 78 3
  generalize hW0 : (w.alloc (.cells #[.pointer (some ⟨d.L, 0, none⟩)] 78)).alloc (.cells #[.int .i64 k] 3) = W0 at hb0
  have c0 : W0.cell? ⟨w.heap.size, 0, none⟩ = some (.pointer (some ⟨d.L, 0, none⟩)) := by rw [← hW0]; simp
  have c1 : W0.cell? ⟨w.heap.size + 1, 0, none⟩ = some (.int .i64 k) := by rw [← hW0]; simp
  have hLs := h.sit.ls.later hb0
  have hown := hLs.own k hk
  have hsl : ∀ W1, Below W0.heap.size W0 W1 → Calls Tryz.prog 128 #[.pointer (some ⟨d.L, 0, none⟩), .int .i64 k] W1 fun e w' => e = .returned (.slice (d.ps k) (intsN (s.hv k).reverse).length (d.cs k)) ∧ Below W1.heap.size W1 w' := fun W1 hW1 => by
    have := Lis.slots_good W1 (hLs.later hW1) k hk
    rw [hlen]
    simp only [List.length_reverse] at this
    exact this
  have hrd : Rd W0 (d.ps k) (intsN (s.hv k).reverse) := Rd.of_owns (base := d.base) (cap := d.cs k) (by rw [cellsZ_ints, intsN_length]; exact hown)
  have hto := Lis.all1_told 4 w.heap.size (w.heap.size + 1) (some ⟨d.L, 0, none⟩) (k : Int) (d.ps k) (d.cs k) (intsN (s.hv k).reverse) (by rw [hlen]; omega) W0 c0 c1 hsl hrd (fun e => by
    obtain ⟨_, ⟨h8, _⟩ | ⟨g, c, cur, e1, r⟩⟩ := hown
    · simp only [Value.slice.injEq] at h8; exact h8.2.2
    · rw [e] at e1; simp at e1)
  rw [hlen] at hto
  have hc := collect_any 127 #[.pointer (some ⟨w.heap.size, 0, none⟩), .pointer (some ⟨w.heap.size + 1, 0, none⟩)] (s.hv k).length (tellB (intsN (s.hv k).reverse)) (fun _ => True) W0 (by omega) (enters_of Tryz.func127 (by kernel_rfl) rfl) hto (fun _ _ => trivial)
  rw [told_rev] at hc
  have HC := Lib.hid hc
  have HB := Lib.hid hb0
  have HAL := Lib.hid (Lis.all_fn (some ⟨d.L, 0, none⟩) (k : Int) w)
  rw [hW0] at HAL
  unfold NewRow
  rw [intsN_length, cellsZ_ints]
  clear h hto hc hsl hrd hown hLs hb0 hW0 c0 c1 hl hlen
  go_enter Tryz.func37, Tryz.ntmps37
  go_wp2_with (first
    | (go_at_call 94; refine HAL.out.mono ?_; rintro e w1 ⟨rfl, rfl⟩)
    | (go_at_call 92; refine HC.out.mono ?_; rintro e w2 ⟨p, cap, rfl, ho, hb⟩))
  go_ret
  exact ⟨p, cap, rfl, Row.owns_base HB.out.size ho, HB.out.trans (hb.mono HB.out.size)⟩
theorem table_any {H : Nat} {d : Ids} {s : St} {m : Nat} (w : World) (h : Is w H d s m) : Calls Tryz.prog 35 #[.pointer (some ⟨H, 0, none⟩)] w fun e w' => ∃ B p cap, e = .returned (.pointer (some ⟨B, 0, none⟩)) ∧ TbIs w' B w.heap.size s.c s.ks p cap ∧ Below w.heap.size w w' := by
  have hcT := h.cT
  have HC := Lib.hid (Blk.copy_any w h.tb)
  clear h
  go_enter Tryz.func35, Tryz.ntmps35
  go_wp2_with (go_at_call 91; refine HC.out.mono ?_; rintro e w1 ⟨B, p, cap, rfl, hT, hb⟩)
  go_ret
  exact ⟨B, p, cap, rfl, hT, hb⟩
theorem config_any {H : Nat} {d : Ids} {s : St} {m : Nat} (w : World) (h : Is w H d s m) : Calls Tryz.prog 34 #[.pointer (some ⟨H, 0, none⟩)] w fun e w' => e = .returned (.agg #[.int .i64 s.c.b, .int .i64 s.c.wd, .int .i64 s.c.m, .int .i64 s.c.r, .int .i64 s.c.ce, .int .i64 s.c.lg, .int .i64 s.c.st]) ∧ Below w.heap.size w w' := by
  have hcT := h.cT
  have HC := Lib.hid (fun (W : World) (hb : Below w.heap.size w W) => Blk.config_any W (h.later hb).tb)
  have hHl := h.ltH
  clear h
  go_enter Tryz.func34, Tryz.ntmps34
  go_wp2_with (go_at_call 90; refine (HC.out _ ((Below.refl _ _).alloc (Nat.le_refl _) _)).mono ?_; rintro e w1 ⟨rfl, hb⟩; obtain ⟨hc1, hf1⟩ := bcell hb; have hz1 : w.heap.size < w1.heap.size := by have := hb.size; simp at this; omega)
  refine bodyPost_ret (v := .agg #[.int .i64 s.c.b, .int .i64 s.c.wd, .int .i64 s.c.m, .int .i64 s.c.r, .int .i64 s.c.ce, .int .i64 s.c.lg, .int .i64 s.c.st]) (by simp [results, Tryz.results34, go_sem, hc1]) rfl ⟨rfl, ?_⟩
  have hbA : Below w.heap.size w w1 := ((Below.refl w.heap.size w).alloc (Nat.le_refl _) _).trans (hb.mono (by simp))
  exact ((((((hbA.setCell (by simp) _).setCell (by simp) _).setCell (by simp) _).setCell (by simp) _).setCell (by simp) _).setCell (by simp) _).setCell (by simp) _
end Go.Proofs.YtcoolapancdioaaGreatDoor.Hp
