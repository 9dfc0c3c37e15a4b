/-
  Do: a deed of each kind.
-/
import Derived.Test.YtcdnbheoelnghaaDoorGrM1
import Derived.Deep.RegionWith
namespace Go.Proofs.YtcdnbheoelnghaaDoor.Gra
open Go.RowKit Go.Proofs.YtcdnbheoelnghaaDoor.Opr

set_option maxRecDepth 100000 in
set_option maxHeartbeats 4000000 in
theorem do_set {b wd ms r ce lg st : Int} {g M cM m : Nat} {p : Option Addr} (a x c t co : Int) (E : World → World → Prop) (W : World) (hc : CellsAt W g [.int .i64 b, .int .i64 wd, .int .i64 ms, .int .i64 r, .int .i64 ce, .int .i64 lg, .int .i64 st]) (h8 : W.cell? ⟨g, 8, none⟩ = some (.slice p M cM)) (hm : m < M)
    (ht : FormTab W) (hl : LimTab W) (hv : checkE b wd ms r ce lg st 5 a x c = 0)
    (HD : ∀ V, Below W.heap.size W V → Calls Tryd.prog 46 #[.pointer (some ⟨g, 0, none⟩), .int .i64 m, .agg #[.int .i64 5, .int .i64 a, .int .i64 x, .int .i64 c]] V fun e w' => e = .returned (.tuple #[.int .i64 t, .int .i64 co]) ∧ E V w') :
    Calls Tryd.prog 9 #[.pointer (some ⟨g, 0, none⟩), .int .i64 m, .agg #[.int .i64 5, .int .i64 a, .int .i64 x, .int .i64 c]] W fun e w' => e = .returned (.tuple #[.int .i64 t, .int .i64 co]) ∧ ∃ V, Below W.heap.size W V ∧ E V w' := by
  have HDD := Lib.hid HD
  obtain ⟨w0, hw0⟩ : ∃ w0, W.alloc (.cells #[.int .i64 5, .int .i64 a, .int .i64 x, .int .i64 c] 39) = w0 := ⟨_, rfl⟩
  have hA : Below W.heap.size W w0 := by rw [← hw0]; exact (Below.refl _ _).alloc (Nat.le_refl _) _
  have g8 := (hA.cell (p := ⟨g, 8, none⟩) (lt_of_cell h8)).trans h8
  have hO : CellsAt w0 W.heap.size [.int .i64 5, .int .i64 a, .int .i64 x, .int .i64 c] := by rw [← hw0]; exact CellsAt.new _ _ _
  have HO := Lib.hid hO
  have hC := hc.later hA
  have HA := Lib.hid hA
  have HCK : Hid (∀ V, Below W.heap.size W V → Calls Tryd.prog 26 #[.agg #[.int .i64 b, .int .i64 wd, .int .i64 ms, .int .i64 r, .int .i64 ce, .int .i64 lg, .int .i64 st], .agg #[.int .i64 5, .int .i64 a, .int .i64 x, .int .i64 c]] V fun e w' => e = .returned (.int .i64 0) ∧ Below V.heap.size V w') := Lib.hid fun V hV => by
    have := check_any b wd ms r ce lg st 5 a x c V (ht.later hV) (hl.later hV)
    rw [hv] at this; exact this
  have hy := Lib.hid (hasRows_any p M cM m w0)
  rw [has_yes hm] at hy
  have c0 := hC 0 _ rfl
  have c1 := hC 1 _ rfl
  have c2 := hC 2 _ rfl
  have c3 := hC 3 _ rfl
  have c4 := hC 4 _ rfl
  have c5 := hC 5 _ rfl
  have c6 := hC 6 _ rfl
  have o0 := hO 0 _ rfl
  have o1 := hO 1 _ rfl
  have o2 := hO 2 _ rfl
  have o3 := hO 3 _ rfl
  have d0 := cell_regrown c0
  have d1 := cell_regrown c1
  have d2 := cell_regrown c2
  have d3 := cell_regrown c3
  have d4 := cell_regrown c4
  have d5 := cell_regrown c5
  have d6 := cell_regrown c6
  have e0 := cell_regrown o0
  have e1 := cell_regrown o1
  have e2 := cell_regrown o2
  have e3 := cell_regrown o3
  have HGR : Hid (∀ d os, Below W.heap.size W (Sort.grow (redrawn w0 d) os)) := Lib.hid fun d os => HA.out.trans ((below_regrown w0 d os).mono HA.out.size)
  clear hA hv hC hO hc ht hl h8 HD
  go_enter Tryd.func9, Tryd.ntmps9
  go_wp2_with (go_at_call 25; refine hy.out.mono ?_; rintro e w9 ⟨rfl, hw9⟩; obtain rfl : w0 = w9 := hw9.symm)
  refine wp_region_quiet_below (by kernel_rfl) (by kernel_rfl) ?_
  repeat (go_big_quiet_step (first
    | (go_at_call 26; exact Calls.regrown_of (HCK.out _ (HGR.out _ _)))))
  refine wpQuiet_nil ?_
  intro W5 hw'
  have HB5 := Lib.hid (below_of_regrown hw')
  clear hw' c0 c1 c2 c3 c4 c5 c6 d0 d1 d2 d3 d4 d5 d6 e0 e1 e2 e3 o0 o1 o2 o3 g8 HGR
  have HO5 := Lib.hid (HO.out.later HB5.out)
  have HBW := Lib.hid (HA.out.trans (HB5.out.mono HA.out.size))
  have o0 := HO5.out 0 _ rfl
  have o1 := HO5.out 1 _ rfl
  have o2 := HO5.out 2 _ rfl
  have o3 := HO5.out 3 _ rfl
  have hlo : W.heap.size < W5.heap.size := lt_of_cell o0
  have hgot : (Instr.lookup 65 (.map (some W5.heap.size)) (.int .i64 5) false).run Tryd.prog (W5.alloc (.map deedsM 8)).drew = .ok (.func (.func 46) #[] #[]) (W5.alloc (.map deedsM 8)).drew := run_got _ _ deedsM 8 _ _ _ (Go.MapKept.heap_alloc W5 _).1 (by rfl)
  have HAL2 : Hid (Below W.heap.size W (W5.alloc (.map deedsM 8)).drew) := Lib.hid (HBW.out.trans ((Below.refl _ _).alloc HBW.out.size _).drew)
  have HAL : Hid (Below W.heap.size W (W5.alloc (.map deedsM 8))) := Lib.hid (HBW.out.trans ((Below.refl _ _).alloc HBW.out.size _))
  go_wp2_with fail
  go_region_law (first
    | (go_simp; go_at_call 27; refine (deeds_any _).mono ?_; rintro e w6 ⟨rfl, rfl⟩; try go_simp)
    | (go_simp; go_at_call 46; refine (HDD.out _ HAL2.out).mono ?_; rintro e w7 ⟨rfl, hE⟩; have HE := Lib.hid hE; clear hE; try go_simp))
  all_goals go_wp2_with fail
  all_goals go_ret2
  all_goals exact ⟨rfl, _, HAL2.out, HE.out⟩
end Go.Proofs.YtcdnbheoelnghaaDoor.Gra
