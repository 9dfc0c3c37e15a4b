/-
  chosen, Of, Unassigned: the blocks for which something holds.
-/
import Derived.Test.YtfifliepjmpgkaaDoorBlkG
namespace Go.Proofs.YtfifliepjmpgkaaDoor.Blk
open Go.RowKit Go.Shelf
open Class (isB isB_true isB_false sizI perI SizTab)
open Go.Proofs.YtfifliepjmpgkaaDoor.Addr (Tabs)

/-- The numbers for which something holds. -/
def pick (h : Nat → Bool) (m : Nat) : List Nat := (List.range m).filter h
theorem pick_yes {h : Nat → Bool} {m : Nat} (hm : h m = true) : pick h (m + 1) = pick h m ++ [m] := by simp [pick, List.range_succ, hm]
theorem pick_no {h : Nat → Bool} {m : Nat} (hm : h m = false) : pick h (m + 1) = pick h m := by simp [pick, List.range_succ, hm]
theorem pick_len (h : Nat → Bool) (m : Nat) : (pick h m).length ≤ m := by simpa [pick] using List.length_filter_le h (List.range m)

/-- What an append of one number to a slot's row leaves. -/
theorem push_slot {W Y w3 : World} {base n cap : Nat} {p : Option Addr} {v' : Value} {x : Value} {xs : List Value} (hb : Below W.heap.size W Y) (hW : W.heap.size ≤ base)
    (ho : Y.ownsRow base 3 1 (.slice p n cap) n xs) (hown : w3.ownsRow base 3 1 v' (n + 1) (xs ++ [x])) (hg : (Y.alloc (.cells #[x] 3)).grownBy w3 (Value.slice p n cap).ownBlock) :
    ∃ p' cap', v' = .slice p' (n + 1) cap' ∧ w3.ownsRow base 3 1 (.slice p' (n + 1) cap') (n + 1) (xs ++ [x]) ∧ Below W.heap.size W w3 := by
  obtain ⟨g, cap', rfl⟩ := ownsRow_succ hown
  exact ⟨_, _, rfl, hown, (hb.alloc hb.size _).grown hg (by have := hb.size; simp; omega) (fun k e => by have := (owns_lt ho ((ownBlock_slice p n cap k).1 e)).1; omega)⟩

set_option maxRecDepth 100000 in
set_option maxHeartbeats 4000000 in
theorem chosen_gen (q : Option Addr) (g : Nat) (lb : Array Value) (holds : Nat → Bool) (nb : Nat) (x1 x2 x3 x4 x5 x6 : Int) (w : World) (hnb : nb ≤ 4096) (eg : ∀ args w, (callFunc g args).run Tryd.prog w = .ok (.enter g args) w)
    (hcfg : ∀ W, Below w.heap.size w W → Calls Tryd.prog 13 #[.pointer q] W fun e w' => e = .returned (.agg #[.int .i64 (nb : Int), .int .i64 x1, .int .i64 x2, .int .i64 x3, .int .i64 x4, .int .i64 x5, .int .i64 x6]) ∧ Below W.heap.size W w')
    (hh : ∀ W (b : Nat), Below w.heap.size w W → Calls Tryd.prog g (#[.int .i64 b] ++ lb) W fun e w' => e = .returned (.bool (holds b)) ∧ W = w') :
    Calls Tryd.prog 48 #[.pointer q, .func (.func g) #[] lb] w fun e w' => ∃ p cap, e = .returned (.slice p (pick holds nb).length cap) ∧ w'.ownsRow w.heap.size 3 1 (.slice p (pick holds nb).length cap) (pick holds nb).length (cellsK (pick holds nb)) ∧ Below w.heap.size w w' := by
  obtain ⟨i0, hinf, hz0, hz1, hz2⟩ := info_parts infoInt
  have hfd : ∀ w : World, (Instr.field 23 (.agg #[.int .i64 (nb : Int), .int .i64 x1, .int .i64 x2, .int .i64 x3, .int .i64 x4, .int .i64 x5, .int .i64 x6]) 0).run Tryd.prog w = .ok (.int .i64 (nb : Int)) w := fun _ => by kernel_rfl
  have HC := Lib.hid hcfg
  have HH := Lib.hid hh
  clear hcfg hh
  go_enter Tryd.func48, Tryd.ntmps48
  go_wp2_with (go_at_call 13; refine (HC.out _ (Below.refl _ _)).mono ?_; rintro e w1 ⟨rfl, hb1⟩)
  go_loopw [5, 10] (fun v i wr => ∃ (m : Nat) (p : Option Addr) (cap : Nat), m ≤ nb ∧ i = .int .i64 (m : Int) ∧ v = .slice p (pick holds m).length cap ∧ wr.ownsRow w.heap.size 3 1 (.slice p (pick holds m).length cap) (pick holds m).length (cellsK (pick holds m)) ∧ Below w.heap.size w wr) (fun _ i _ => nb - (intOf i).toNat)
  case atStart => exact ⟨0, none, 0, Nat.zero_le _, by simp, rfl, ⟨rfl, .inl ⟨rfl, rfl⟩⟩, hb1⟩
  case round =>
    obtain ⟨m, p, cap, hm, rfl, rfl, ho, hb⟩ := hrel
    have HO := Lib.hid ho
    have HB := Lib.hid hb
    clear ho hb hb1
    by_cases hlt : m < nb
    · go_wp2_with fail
      refine (HH.out wr m HB.out).mono ?_
      rintro e w' ⟨rfl, rfl⟩
      have hlen := pick_len holds m
      rcases hho : holds m with _ | _
      · go_wp2
        go_roundw
        case rel => exact ⟨m + 1, p, cap, by omega, by go_num, by rw [pick_no hho], by rw [pick_no hho]; exact HO.out, HB.out⟩
        case measure => simp [intOf]; omega
      · go_wp2_with (at_builtin; refine wpList_append_own _ rfl _ _ 24 rfl w.heap.size 3 i0 (.int .i64 0) 1 8 Tryd.underlying24 hinf hz0 hz1 hz2 rfl (by decide) _ _ _ rfl (HO.out.alloc _) ⟨wr.heap.size, 0, none⟩ 1 1 [.int .i64 (m : Int)] rfl rfl (one_at rfl) (by simp [Value.oneCell']) (by unfold maxLen; omega) (by omega) (by have := HB.out.size; simp; omega) ?_)
        intro v' w3 hown hgrow _
        obtain ⟨p', cap', rfl, ho3, hb3⟩ := push_slot HB.out (Nat.le_refl _) HO.out hown hgrow
        have e1 : (pick holds (m + 1)).length = (pick holds m).length + 1 := by rw [pick_yes hho]; simp
        have HO3 := Lib.hid ho3
        have HB3 := Lib.hid hb3
        clear hown hgrow ho3 hb3
        go_wp2
        go_roundw
        case rel => exact ⟨m + 1, p', cap', by omega, by go_num, by rw [e1], by rw [e1, pick_yes hho, cellsK_snoc]; exact HO3.out, HB3.out⟩
        case measure => simp [intOf]; omega
    · go_wp2
      obtain rfl : m = nb := by omega
      go_ret
      exact ⟨p, cap, rfl, HO.out, HB.out⟩

/-- Is a block of a class? -/
def isOf (ks : List Nat) (k : Int) (b : Nat) : Bool := decide (b < ks.length) && (((kAt ks b : Nat) : Int) == k)
theorem of1_any {B base cap : Nat} {c : Cfg} {ks : List Nat} {p : Option Addr} (Bt Bk b : Nat) (k : Int) (w : World) (h : TbIs w B base c ks p cap) (hBt : w.cell? ⟨Bt, 0, none⟩ = some (.pointer (some ⟨B, 0, none⟩))) (hBk : w.cell? ⟨Bk, 0, none⟩ = some (.int .i64 k)) :
    Calls Tryd.prog 49 #[.int .i64 b, .pointer (some ⟨Bt, 0, none⟩), .pointer (some ⟨Bk, 0, none⟩)] w fun e w' => e = .returned (.bool (isOf ks k b)) ∧ w = w' := by
  by_cases hb : b < ks.length
  · have HC := Lib.hid (class_in b w h hb)
    have e1 : isOf ks k b = (((kAt ks b : Nat) : Int) == k) := by simp [isOf, hb]
    clear h
    go_enter Tryd.func49, Tryd.ntmps49
    go_wp2_with (go_at_call 16; refine HC.out.mono ?_; rintro e w' ⟨rfl, rfl⟩)
    go_ret
    exact ⟨ret_bool e1.symm, rfl⟩
  · have HC := Lib.hid (class_out b w h (.inr (by omega)))
    have e1 : isOf ks k b = false := by simp [isOf, hb]
    clear h
    go_enter Tryd.func49, Tryd.ntmps49
    go_wp2_with (go_at_call 16; refine HC.out.mono ?_; rintro e w' ⟨rfl, rfl⟩)
    go_ret
    exact ⟨ret_bool e1.symm, rfl⟩
theorem un1_any {B base cap : Nat} {c : Cfg} {ks : List Nat} {p : Option Addr} (Bt b : Nat) (w : World) (h : TbIs w B base c ks p cap) (hBt : w.cell? ⟨Bt, 0, none⟩ = some (.pointer (some ⟨B, 0, none⟩))) :
    Calls Tryd.prog 52 #[.int .i64 b, .pointer (some ⟨Bt, 0, none⟩)] w fun e w' => e = .returned (.bool (decide (ks.length ≤ b))) ∧ w = w' := by
  by_cases hb : b < ks.length
  · have HC := Lib.hid (class_in b w h hb)
    have e1 : decide (ks.length ≤ b) = false := by simp; omega
    clear h
    go_enter Tryd.func52, Tryd.ntmps52
    go_wp2_with (go_at_call 16; refine HC.out.mono ?_; rintro e w' ⟨rfl, rfl⟩)
    go_ret
    exact ⟨ret_bool e1.symm, rfl⟩
  · have HC := Lib.hid (class_out b w h (.inr (by omega)))
    have e1 : decide (ks.length ≤ b) = true := by simp; omega
    clear h
    go_enter Tryd.func52, Tryd.ntmps52
    go_wp2_with (go_at_call 16; refine HC.out.mono ?_; rintro e w' ⟨rfl, rfl⟩)
    go_ret
    exact ⟨ret_bool e1.symm, rfl⟩
/-- The closures, of no table. -/
theorem of1_nil (Bt Bk b : Nat) (k : Int) (w : World) (hBt : w.cell? ⟨Bt, 0, none⟩ = some (.pointer none)) (_ : w.cell? ⟨Bk, 0, none⟩ = some (.int .i64 k)) :
    Calls Tryd.prog 49 #[.int .i64 b, .pointer (some ⟨Bt, 0, none⟩), .pointer (some ⟨Bk, 0, none⟩)] w fun e w' => e = .returned (.bool false) ∧ w = w' := by
  go_enter Tryd.func49, Tryd.ntmps49
  go_wp2_with (go_at_call 16; refine (class_nil _ _).mono ?_; rintro e w' ⟨rfl, rfl⟩)
  go_ret
  exact ⟨rfl, rfl⟩
theorem un1_nil (Bt b : Nat) (w : World) (hBt : w.cell? ⟨Bt, 0, none⟩ = some (.pointer none)) :
    Calls Tryd.prog 52 #[.int .i64 b, .pointer (some ⟨Bt, 0, none⟩)] w fun e w' => e = .returned (.bool true) ∧ w = w' := by
  go_enter Tryd.func52, Tryd.ntmps52
  go_wp2_with (go_at_call 16; refine (class_nil _ _).mono ?_; rintro e w' ⟨rfl, rfl⟩)
  go_ret
  exact ⟨rfl, rfl⟩

/-- The blocks of a class. -/
def ofK (c : Cfg) (ks : List Nat) (k : Int) : List Nat := pick (isOf ks k) c.b.toNat
/-- The blocks that aren't assigned. -/
def unK (c : Cfg) (ks : List Nat) : List Nat := pick (fun b => decide (ks.length ≤ b)) c.b.toNat

theorem of_any {B base cap : Nat} {c : Cfg} {ks : List Nat} {p : Option Addr} (k : Int) (w : World) (h : TbIs w B base c ks p cap) (hb0 : 0 ≤ c.b) (hb1 : c.b ≤ 4096) :
    Calls Tryd.prog 21 #[.pointer (some ⟨B, 0, none⟩), .int .i64 k] w fun e w' => ∃ p cap, e = .returned (.slice p (ofK c ks k).length cap) ∧ w'.ownsRow w.heap.size 3 1 (.slice p (ofK c ks k).length cap) (ofK c ks k).length (cellsK (ofK c ks k)) ∧ Below w.heap.size w w' := by
  obtain ⟨W0, hW0, bW, c0, c1, hs0⟩ := two_new (w := w) (q := some ⟨B, 0, none⟩) (b := k)
  have hcb : c.b = ((c.b.toNat : Nat) : Int) := by omega
  have HC := Lib.hid (chosen_gen (some ⟨B, 0, none⟩) 49 #[.pointer (some ⟨w.heap.size, 0, none⟩), .pointer (some ⟨w.heap.size + 1, 0, none⟩)] (isOf ks k) c.b.toNat c.wd c.m c.r c.ce c.lg c.st W0 (by omega) (enters_of Tryd.func49 (by kernel_rfl) rfl)
    (fun W hW => by have := config_any W ((h.later bW).later hW); rwa [hcb] at this)
    (fun W b hW => of1_any w.heap.size (w.heap.size + 1) b k W ((h.later bW).later hW) ((hW.cell (p := ⟨w.heap.size, 0, none⟩) (by simp; omega)).trans c0) ((hW.cell (p := ⟨w.heap.size + 1, 0, none⟩) (by simp; omega)).trans c1)))
  clear h hcb
  go_enter Tryd.func21, Tryd.ntmps21
  go_wp2_with fail
  refine HC.out.mono ?_
  rintro e w1 ⟨p', cap', rfl, h1, h2⟩
  go_wp2
  go_ret
  exact ⟨p', cap', rfl, owns_base (by omega) h1, bW.trans (h2.mono (by omega))⟩
theorem of_nil (k : Int) (w : World) :
    Calls Tryd.prog 21 #[.pointer none, .int .i64 k] w fun e w' => ∃ p cap, e = .returned (.slice p 0 cap) ∧ Below w.heap.size w w' := by
  obtain ⟨W0, hW0, bW, c0, c1, hs0⟩ := two_new (w := w) (q := none) (b := k)
  have HC := Lib.hid (chosen_gen none 49 #[.pointer (some ⟨w.heap.size, 0, none⟩), .pointer (some ⟨w.heap.size + 1, 0, none⟩)] (fun _ => false) 0 0 0 0 0 0 0 W0 (by omega) (enters_of Tryd.func49 (by kernel_rfl) rfl)
    (fun W _ => config_nil W)
    (fun W b hW => of1_nil w.heap.size (w.heap.size + 1) b k W ((hW.cell (p := ⟨w.heap.size, 0, none⟩) (by simp; omega)).trans c0) ((hW.cell (p := ⟨w.heap.size + 1, 0, none⟩) (by simp; omega)).trans c1)))
  go_enter Tryd.func21, Tryd.ntmps21
  go_wp2_with fail
  refine HC.out.mono ?_
  rintro e w1 ⟨p', cap', rfl, h1, h2⟩
  go_wp2
  go_ret
  exact ⟨p', cap', rfl, bW.trans (h2.mono (by omega))⟩

theorem one_new {w : World} {q : Option Addr} : ∃ W0, w.alloc (.cells #[.pointer q] 27) = W0 ∧ Below w.heap.size w W0 ∧ W0.cell? ⟨w.heap.size, 0, none⟩ = some (.pointer q) ∧ W0.heap.size = w.heap.size + 1 :=
  ⟨_, rfl, (Below.refl _ _).alloc (Nat.le_refl _) _, (Boxed.new w _ _).cell, by simp⟩
theorem unassigned_any {B base cap : Nat} {c : Cfg} {ks : List Nat} {p : Option Addr} (w : World) (h : TbIs w B base c ks p cap) (hb0 : 0 ≤ c.b) (hb1 : c.b ≤ 4096) :
    Calls Tryd.prog 23 #[.pointer (some ⟨B, 0, none⟩)] w fun e w' => ∃ p cap, e = .returned (.slice p (unK c ks).length cap) ∧ w'.ownsRow w.heap.size 3 1 (.slice p (unK c ks).length cap) (unK c ks).length (cellsK (unK c ks)) ∧ Below w.heap.size w w' := by
  obtain ⟨W0, hW0, bW, c0, hs0⟩ := one_new (w := w) (q := some ⟨B, 0, none⟩)
  have hcb : c.b = ((c.b.toNat : Nat) : Int) := by omega
  have HC := Lib.hid (chosen_gen (some ⟨B, 0, none⟩) 52 #[.pointer (some ⟨w.heap.size, 0, none⟩)] (fun b => decide (ks.length ≤ b)) c.b.toNat c.wd c.m c.r c.ce c.lg c.st W0 (by omega) (enters_of Tryd.func52 (by kernel_rfl) rfl)
    (fun W hW => by have := config_any W ((h.later bW).later hW); rwa [hcb] at this)
    (fun W b hW => un1_any w.heap.size b W ((h.later bW).later hW) ((hW.cell (p := ⟨w.heap.size, 0, none⟩) (by simp; omega)).trans c0)))
  clear h hcb
  go_enter Tryd.func23, Tryd.ntmps23
  go_wp2_with fail
  refine HC.out.mono ?_
  rintro e w1 ⟨p', cap', rfl, h1, h2⟩
  go_wp2
  go_ret
  exact ⟨p', cap', rfl, owns_base (by omega) h1, bW.trans (h2.mono (by omega))⟩
theorem unassigned_nil (w : World) :
    Calls Tryd.prog 23 #[.pointer none] w fun e w' => ∃ p cap, e = .returned (.slice p 0 cap) ∧ Below w.heap.size w w' := by
  obtain ⟨W0, hW0, bW, c0, hs0⟩ := one_new (w := w) (q := none)
  have HC := Lib.hid (chosen_gen none 52 #[.pointer (some ⟨w.heap.size, 0, none⟩)] (fun _ => true) 0 0 0 0 0 0 0 W0 (by omega) (enters_of Tryd.func52 (by kernel_rfl) rfl)
    (fun W _ => config_nil W)
    (fun W b hW => un1_nil w.heap.size b W ((hW.cell (p := ⟨w.heap.size, 0, none⟩) (by simp; omega)).trans c0)))
  go_enter Tryd.func23, Tryd.ntmps23
  go_wp2_with fail
  refine HC.out.mono ?_
  rintro e w1 ⟨p', cap', rfl, h1, h2⟩
  go_wp2
  go_ret
  exact ⟨p', cap', rfl, bW.trans (h2.mono (by omega))⟩
end Go.Proofs.YtfifliepjmpgkaaDoor.Blk
