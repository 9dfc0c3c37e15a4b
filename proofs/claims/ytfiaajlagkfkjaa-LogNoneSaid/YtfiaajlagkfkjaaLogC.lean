/-
  A buffer and a box, above what lay; the document's example; the law LogNone answers true, for every room and number.
-/
import Derived.Test.YtfiaajlagkfkjaaLogB
namespace Go.Proofs.Ytfiaajlagkfkjaa.Lg
open Go.RowKit
open Go.Proofs.Ytfiaajlagkfkjaa.Row

/-- A buffer's block, or a box's. -/
def BX (B X : Nat) (k : Nat) : Prop := k = B ∨ k = X
/-- A buffer and a box in memory, above what lay. -/
structure Lo (S : Nat) (T : Nat → Prop) (w wr : World) (B X room : Nat) (xs ys : List Int) : Prop where
  bf : BfIs T wr B room xs
  bx : BxIs T wr X ys
  bel : Below S w wr
  ne : X ≠ B
  sB : S ≤ B
  sX : S ≤ X
  tl : ∀ k, T k → k < wr.heap.size
theorem Lo.tX {S : Nat} {T : Nat → Prop} {w wr : World} {B X room : Nat} {xs ys : List Int} (h : Lo S T w wr B X room xs ys) : T X := by
  obtain ⟨p, cap, hr⟩ := h.bx
  exact hr.tb
theorem Lo.tB {S : Nat} {T : Nat → Prop} {w wr : World} {B X room : Nat} {xs ys : List Int} (h : Lo S T w wr B X room xs ys) : T B := h.bf.tb
/-- Behind something that turns the two blocks alone. -/
theorem Lo.next {S : Nat} {T : Nat → Prop} {w wr w' : World} {B X room : Nat} {xs ys xs' ys' : List Int} (h : Lo S T w wr B X room xs ys) (hS : S ≤ w.heap.size) (hc : Chg (BX B X) wr w') (hb : BfIs T w' B room xs') (hx : BxIs T w' X ys') : Lo S T w w' B X room xs' ys' :=
  ⟨hb, hx, h.bel.trans (hc.below (fun k e => e.elim (fun e => e ▸ h.sB) (fun e => e ▸ h.sX)) (Nat.le_trans hS h.bel.size)), h.ne, h.sB, h.sX, fun k hk => Nat.lt_of_lt_of_le (h.tl k hk) hc.size⟩
theorem Lo.later {S : Nat} {T : Nat → Prop} {w wr w' : World} {B X room : Nat} {xs ys : List Int} (h : Lo S T w wr B X room xs ys) (hS : S ≤ w.heap.size) (hb : Below wr.heap.size wr w') : Lo S T w w' B X room xs ys :=
  h.next hS (Chg.of_below hb) (h.bf.later hb) (h.bx.later hb)
/-- Behind something that turns neither. -/
theorem Lo.chg {S : Nat} {T U : Nat → Prop} {w wr w' : World} {B X room : Nat} {xs ys : List Int} (h : Lo S T w wr B X room xs ys) (hb : Below S w w') (hc : Chg U wr w') (hU : ∀ k, U k → T k) (hB : ¬ U B) (hX : ¬ U X) : Lo S T w w' B X room xs ys :=
  ⟨h.bf.chg hc hU hB, h.bx.chg hc hU hX, hb, h.ne, h.sB, h.sX, fun k hk => Nat.lt_of_lt_of_le (h.tl k hk) hc.size⟩
/-- Other blocks in which none of the numbers lies. -/
theorem RwIs.retag {T U : Nat → Prop} {w : World} {B cap : Nat} {p : Option Addr} {xs : List Int} (h : RwIs T w B cap p xs) (hU : ∀ k, U k → k < w.heap.size → T k) (hB : U B) : RwIs U w B cap p xs :=
  ⟨h.len, h.c, h.f, h.rd, h.nc, h.le, fun g hg => ⟨fun e => (h.ap g hg).1 (hU g e (h.ap g hg).2), (h.ap g hg).2⟩, hB⟩
theorem Lo.add {S : Nat} {T : Nat → Prop} {w wr : World} {B X room : Nat} {xs ys : List Int} (h : Lo S T w wr B X room xs ys) (hS : S ≤ w.heap.size) (hl : xs.length < room) (a : Int) :
    Calls Try.prog 26 #[.pointer (some ⟨B, 0, none⟩), .int .i64 a] wr fun e w' => e = .returned (.bool true) ∧ Lo S T w w' B X room (xs ++ [a]) ys ∧ Chg (BX B X) wr w' :=
  (add_good a wr h.bf h.tl hl).mono fun e w' ⟨he, hb, hc⟩ => by
    have hc' : Chg (BX B X) wr w' := hc.mono fun _ e => .inl e
    exact ⟨he, h.next hS hc' hb (h.bx.chg hc (fun k e => e ▸ h.tB) h.ne), hc'⟩
theorem Lo.drew {S : Nat} {T : Nat → Prop} {w wr : World} {B X room : Nat} {xs ys : List Int} (h : Lo S T w wr B X room xs ys) (hS : S ≤ w.heap.size) (q : Nat) : Lo S T w (wr.drewN q) B X room xs ys := h.later hS (below_drewN (Below.refl _ wr) q)
theorem Lo.no {S : Nat} {T : Nat → Prop} {w wr : World} {B X room : Nat} {xs ys : List Int} (h : Lo S T w wr B X room xs ys) (hS : S ≤ w.heap.size) (hl : xs.length = room) (a : Int) :
    Calls Try.prog 26 #[.pointer (some ⟨B, 0, none⟩), .int .i64 a] wr fun e w' => e = .returned (.bool false) ∧ Lo S T w w' B X room xs ys ∧ Chg (BX B X) wr w' :=
  (add_full a wr h.bf hl).mono fun e w' ⟨he, q, hw⟩ => ⟨he, hw ▸ h.drew hS q, hw ▸ (Chg.refl _ wr).drewN q⟩
theorem Lo.full {S : Nat} {T : Nat → Prop} {w wr : World} {B X room : Nat} {xs ys : List Int} (h : Lo S T w wr B X room xs ys) (hS : S ≤ w.heap.size) :
    Calls Try.prog 29 #[.pointer (some ⟨B, 0, none⟩)] wr fun e w' => e = .returned (.bool (decide (xs.length = room))) ∧ Lo S T w w' B X room xs ys ∧ Chg (BX B X) wr w' :=
  (full_any wr h.bf).mono fun e w' ⟨he, q, hw⟩ => ⟨he, hw ▸ h.drew hS q, hw ▸ (Chg.refl _ wr).drewN q⟩
theorem Lo.len {S : Nat} {T : Nat → Prop} {w wr : World} {B X room : Nat} {xs ys : List Int} (h : Lo S T w wr B X room xs ys) :
    Calls Try.prog 27 #[.pointer (some ⟨B, 0, none⟩)] wr fun e w' => e = .returned (.int .i64 xs.length) ∧ wr = w' := len_any wr h.bf
theorem Lo.blen {S : Nat} {T : Nat → Prop} {w wr : World} {B X room : Nat} {xs ys : List Int} (h : Lo S T w wr B X room xs ys) :
    Calls Try.prog 28 #[.pointer (some ⟨X, 0, none⟩)] wr fun e w' => e = .returned (.int .i64 ys.length) ∧ wr = w' := blen_any wr h.bx
theorem Lo.take {S : Nat} {T : Nat → Prop} {w wr : World} {B X room : Nat} {x : Int} {xs ys : List Int} (h : Lo S T w wr B X room (x :: xs) ys) (hS : S ≤ w.heap.size) :
    Calls Try.prog 22 #[.pointer (some ⟨B, 0, none⟩)] wr fun e w' => e = .returned (.tuple #[.int .i64 x, .bool true]) ∧ Lo S T w w' B X room xs ys ∧ Chg (BX B X) wr w' :=
  (next_first wr h.bf).mono fun e w' ⟨he, hb, hc⟩ => by
    have hc' : Chg (BX B X) wr w' := hc.mono fun _ e => .inl e
    exact ⟨he, h.next hS hc' hb (h.bx.chg hc (fun k e => e ▸ h.tB) h.ne), hc'⟩
theorem Lo.btake {S : Nat} {T : Nat → Prop} {w wr : World} {B X room : Nat} {y : Int} {xs ys : List Int} (h : Lo S T w wr B X room xs (y :: ys)) (hS : S ≤ w.heap.size) :
    Calls Try.prog 23 #[.pointer (some ⟨X, 0, none⟩)] wr fun e w' => e = .returned (.tuple #[.int .i64 y, .bool true]) ∧ Lo S T w w' B X room xs ys ∧ Chg (BX B X) wr w' :=
  (bnext_first wr h.bx).mono fun e w' ⟨he, hb, hc⟩ => by
    have hc' : Chg (BX B X) wr w' := hc.mono fun _ e => .inr e
    exact ⟨he, h.next hS hc' (h.bf.chg hc (fun k e => e ▸ h.tX) (fun e => h.ne e.symm)) hb, hc'⟩
theorem Lo.clear {S : Nat} {T : Nat → Prop} {w wr : World} {B X room : Nat} {xs ys : List Int} (h : Lo S T w wr B X room xs ys) (hS : S ≤ w.heap.size) :
    Calls Try.prog 24 #[.pointer (some ⟨B, 0, none⟩)] wr fun e w' => e = .returned (.tuple #[]) ∧ Lo S T w w' B X room [] ys ∧ Chg (BX B X) wr w' :=
  (clear_any wr h.bf).mono fun e w' ⟨he, hb, hc⟩ => by
    have hc' : Chg (BX B X) wr w' := hc.mono fun _ e => .inl e
    exact ⟨he, h.next hS hc' hb (h.bx.chg hc (fun k e => e ▸ h.tB) h.ne), hc'⟩
theorem Lo.hand {S : Nat} {T : Nat → Prop} {w wr : World} {B X room : Nat} {xs : List Int} (h : Lo S T w wr B X room xs []) (hS : S ≤ w.heap.size) :
    Calls Try.prog 25 #[.pointer (some ⟨X, 0, none⟩), .pointer (some ⟨B, 0, none⟩)] wr fun e w' => e = .returned (.bool true) ∧ Lo S T w w' B X room [] xs ∧ Chg (BX B X) wr w' :=
  (hand_good wr h.bx h.bf h.ne).mono fun e w' ⟨he, hx, hb, hc⟩ => ⟨he, h.next hS hc hb hx, hc⟩

set_option maxHeartbeats 1000000 in
theorem awake_any (w : World) : Calls Try.prog 19 #[] w fun e w' => e = .returned (.bool true) ∧ Below w.heap.size w w' := by
  go_enter Try.func19, Try.ntmps19
  go_wp2_with fail
  refine (new_good 2 2 rfl _ (by decide) (by decide)).mono ?_
  rintro e w1 ⟨rfl, hb, hb1, hz1⟩
  have HB := Lib.hid hb
  have HB1 := Lib.hid hb1
  clear hb hb1
  go_wp2_with fail
  refine (box_new _).mono ?_
  rintro e w2 ⟨rfl, hx, hb2, hz2⟩
  have hlo : Lo w.heap.size (BX w.heap.size w1.heap.size) w w2 w.heap.size w1.heap.size 2 [] [] :=
    ⟨(HB.out _ (.inl rfl)).later hb2, hx _ (.inr rfl), HB1.out.trans (hb2.mono HB1.out.size), by omega, Nat.le_refl _, by omega, fun k hk => hk.elim (fun e => by omega) (fun e => by omega)⟩
  have HO := Lib.hid hlo
  clear hx hb2 hlo HB HB1
  generalize hB : w.heap.size = B at *
  have HS : Hid (B = w.heap.size) := Lib.hid hB.symm
  generalize w1.heap.size = X at *
  clear hz1 hz2 hB
  go_wp2_with fail
  refine (HO.out.add (Nat.le_of_eq HS.out) (by decide) 7).mono ?_
  rintro e w3 ⟨rfl, h3, _⟩
  have H3 := Lib.hid h3
  clear h3 HO
  go_wp2_with fail
  refine (H3.out.add (Nat.le_of_eq HS.out) (by decide) 8).mono ?_
  rintro e w4 ⟨rfl, h4, _⟩
  have H4 := Lib.hid h4
  clear h4 H3
  go_wp2_with fail
  refine (H4.out.full (Nat.le_of_eq HS.out)).mono ?_
  rintro e w5 ⟨rfl, h5, _⟩
  have H5 := Lib.hid h5
  have hd : decide ((([] : List Int) ++ [7] ++ [8]).length = 2) = true := by decide
  rw [hd]
  clear h5 H4 hd
  go_wp2_with fail
  refine (H5.out.hand (Nat.le_of_eq HS.out)).mono ?_
  rintro e w6 ⟨rfl, h6, _⟩
  have H6 := Lib.hid h6
  clear h6 H5
  go_wp2_with fail
  refine (Lo.btake (y := 7) (ys := [8]) H6.out (Nat.le_of_eq HS.out)).mono ?_
  rintro e w7 ⟨rfl, h7, _⟩
  have H7 := Lib.hid h7
  clear h7 H6
  go_wp2
  go_ret
  exact ⟨rfl, HS.out ▸ H7.out.bel⟩

set_option maxRecDepth 100000 in
set_option maxHeartbeats 2000000 in
theorem none_walk (room a : Int) (w : World) :
    Calls Try.prog 8 #[.int .i64 room, .int .i64 a] w fun e w' => e = .returned (.bool true) ∧ Below w.heap.size w w' := by
  by_cases hz : room < 1
  · have HSZ : Hid (room < 1 ∨ 256 < room) := Lib.hid (Or.inl hz)
    go_enter Try.func8, Try.ntmps8
    go_wp2_with fail
    refine (new_bad room _ HSZ.out).mono ?_
    rintro e wa ⟨rfl, rfl⟩
    go_wp2_with fail
    refine (clear_nil _).mono ?_
    rintro e wa ⟨rfl, rfl⟩
    go_wp2_with fail
    refine (next_nil _).mono ?_
    rintro e wa ⟨rfl, rfl⟩
    go_wp2_with fail
    refine (bnext_nil _).mono ?_
    rintro e wa ⟨rfl, rfl⟩
    go_wp2_with fail
    refine (add_nil a _).mono ?_
    rintro e wa ⟨rfl, rfl⟩
    go_wp2_with fail
    refine (full_nil _).mono ?_
    rintro e w1 ⟨rfl, q, rfl⟩
    have HB1 : Hid (Below w.heap.size w (w.drewN q)) := Lib.hid (below_drewN (Below.refl _ w) q)
    go_wp2_with fail
    refine (len_nil _).mono ?_
    rintro e wa ⟨rfl, rfl⟩
    go_wp2_with fail
    refine (all_nil _).mono ?_
    rintro e wa ⟨rfl, rfl⟩
    go_wp2_with fail
    refine (hand_nil none _).mono ?_
    rintro e wa ⟨rfl, rfl⟩
    go_wp2_with fail
    refine (blen_nil _).mono ?_
    rintro e wa ⟨rfl, rfl⟩
    go_wp2_with fail
    refine (box_new _).mono ?_
    rintro e w2 ⟨rfl, _, hb2, _⟩
    have HB2 := Lib.hid (HB1.out.trans (hb2.mono HB1.out.size))
    clear hb2
    go_wp2_with fail
    refine (hand_none _ _).mono ?_
    rintro e wa ⟨rfl, rfl⟩
    go_wp2_with fail
    refine (awake_any _).mono ?_
    rintro e w5 ⟨rfl, hb5⟩
    have HB5 := Lib.hid hb5
    clear hb5
    go_wp2
    go_ret
    exact ⟨rfl, HB2.out.trans (HB5.out.mono HB2.out.size)⟩
  by_cases hz2 : 256 < room
  · have HSZ : Hid (room < 1 ∨ 256 < room) := Lib.hid (Or.inr hz2)
    go_enter Try.func8, Try.ntmps8
    go_wp2_with fail
    refine (new_bad room _ HSZ.out).mono ?_
    rintro e wa ⟨rfl, rfl⟩
    go_wp2_with fail
    refine (clear_nil _).mono ?_
    rintro e wa ⟨rfl, rfl⟩
    go_wp2_with fail
    refine (next_nil _).mono ?_
    rintro e wa ⟨rfl, rfl⟩
    go_wp2_with fail
    refine (bnext_nil _).mono ?_
    rintro e wa ⟨rfl, rfl⟩
    go_wp2_with fail
    refine (add_nil a _).mono ?_
    rintro e wa ⟨rfl, rfl⟩
    go_wp2_with fail
    refine (full_nil _).mono ?_
    rintro e w1 ⟨rfl, q, rfl⟩
    have HB1 : Hid (Below w.heap.size w (w.drewN q)) := Lib.hid (below_drewN (Below.refl _ w) q)
    go_wp2_with fail
    refine (len_nil _).mono ?_
    rintro e wa ⟨rfl, rfl⟩
    go_wp2_with fail
    refine (all_nil _).mono ?_
    rintro e wa ⟨rfl, rfl⟩
    go_wp2_with fail
    refine (hand_nil none _).mono ?_
    rintro e wa ⟨rfl, rfl⟩
    go_wp2_with fail
    refine (blen_nil _).mono ?_
    rintro e wa ⟨rfl, rfl⟩
    go_wp2_with fail
    refine (box_new _).mono ?_
    rintro e w2 ⟨rfl, _, hb2, _⟩
    have HB2 := Lib.hid (HB1.out.trans (hb2.mono HB1.out.size))
    clear hb2
    go_wp2_with fail
    refine (hand_none _ _).mono ?_
    rintro e wa ⟨rfl, rfl⟩
    go_wp2_with fail
    refine (awake_any _).mono ?_
    rintro e w5 ⟨rfl, hb5⟩
    have HB5 := Lib.hid hb5
    clear hb5
    go_wp2
    go_ret
    exact ⟨rfl, HB2.out.trans (HB5.out.mono HB2.out.size)⟩
  · have h1 : 1 ≤ room := by omega
    have h2 : room ≤ 256 := by omega
    go_enter Try.func8, Try.ntmps8
    go_wp2_with fail
    refine (clear_nil _).mono ?_
    rintro e wa ⟨rfl, rfl⟩
    go_wp2_with fail
    refine (next_nil _).mono ?_
    rintro e wa ⟨rfl, rfl⟩
    go_wp2_with fail
    refine (bnext_nil _).mono ?_
    rintro e wa ⟨rfl, rfl⟩
    go_wp2_with fail
    refine (add_nil a _).mono ?_
    rintro e wa ⟨rfl, rfl⟩
    go_wp2_with fail
    refine (full_nil _).mono ?_
    rintro e w1 ⟨rfl, q, rfl⟩
    have HB1 : Hid (Below w.heap.size w (w.drewN q)) := Lib.hid (below_drewN (Below.refl _ w) q)
    go_wp2_with fail
    refine (len_nil _).mono ?_
    rintro e wa ⟨rfl, rfl⟩
    go_wp2_with fail
    refine (all_nil _).mono ?_
    rintro e wa ⟨rfl, rfl⟩
    go_wp2_with fail
    refine (hand_nil none _).mono ?_
    rintro e wa ⟨rfl, rfl⟩
    go_wp2_with fail
    refine (blen_nil _).mono ?_
    rintro e wa ⟨rfl, rfl⟩
    go_wp2_with fail
    refine (box_new _).mono ?_
    rintro e w2 ⟨rfl, _, hb2, _⟩
    have HB2 := Lib.hid (HB1.out.trans (hb2.mono HB1.out.size))
    clear hb2
    go_wp2_with fail
    refine (hand_none _ _).mono ?_
    rintro e wa ⟨rfl, rfl⟩
    go_wp2_with fail
    refine (awake_any _).mono ?_
    rintro e w5 ⟨rfl, hb5⟩
    have HB5 := Lib.hid hb5
    clear hb5
    go_wp2
    go_ret
    exact ⟨rfl, HB2.out.trans (HB5.out.mono HB2.out.size)⟩
end Go.Proofs.Ytfiaajlagkfkjaa.Lg
