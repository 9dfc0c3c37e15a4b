/-
  What is told of a heap: Is, isLoose, inHand, begun, isTaken, Fields.
-/
import Derived.Test.YtcoolapancdioaaGreatDoorHpB
namespace Go.Proofs.YtcoolapancdioaaGreatDoor.Hp
open Go.RowKit
open Class (isB isB_true isB_false is_any sizI sizI_bd roomI SizTab quiet_left)
open Blk (Cfg TbIs ownB ownB_true blk kAt rowB adr perN seg ownV ownV_yes ownV_no OwnIs owner_any)
open Go.Proofs.YtcoolapancdioaaGreatDoor.Row (Chg Rd)
open Arena (ArIs Two)
open Bits (SetIs)
open Lis (Sit Five Held upd upd_same upd_other set_kept lastN)
open Go.Proofs.YtcoolapancdioaaGreatDoor.Addr (Tabs adrB adrB_true)

theorem ret_int {k : IntKind} {a b : Int} (h : a = b) : Ending.returned (.int k a) = .returned (.int k b) := by rw [h]
theorem ret_bool {a b : Bool} (h : a = b) : Ending.returned (.bool a) = .returned (.bool b) := by rw [h]

/-- Is an address an object's? A free slot's? -/
def bnI (s : St) (a : Int) : Bool := decide (0 ≤ a) && bn s a.toNat
def frI (s : St) (a : Int) : Bool := decide (0 ≤ a) && fr s a.toNat
theorem bnI_nat (s : St) (a : Nat) : bnI s (a : Int) = bn s a := by simp [bnI]
theorem frI_nat (s : St) (a : Nat) : frI s (a : Int) = fr s a := by simp [frI]
/-- Is a slot in hand? -/
def handB (s : St) (a : Int) : Bool := own s a && (!bnI s a && !frI s a)

theorem Wf.own_bd {s : St} (h : Wf s) {a : Int} (ho : own s a = true) : 1 ≤ a ∧ a ≤ (s.ws.length : Int) := by
  obtain ⟨_, h1, h2⟩ := adrB_true.1 (ownB_true.1 ho).1
  have := h.words
  omega
theorem Wf.bn_bd {s : St} (h : Wf s) {a : Nat} (ho : bn s a = true) : 1 ≤ a ∧ a ≤ s.ws.length := by
  have := h.own_bd (h.born a ho).1; omega
theorem Wf.fr_bd {s : St} (h : Wf s) {a : Nat} (ho : fr s a = true) : 1 ≤ a ∧ a ≤ s.ws.length := by
  obtain ⟨k, hk, hm⟩ := fr_true.1 ho
  have := h.own_bd (h.free k hk a hm).1; omega
theorem Wf.bnI_eq {s : St} (h : Wf s) (a : Int) : (Bits.mayB a (s.ws.length + 1 : Nat) && hasB s.bs a.toNat) = bnI s a := by
  rw [Bool.eq_iff_iff]
  simp only [Bits.mayB, bnI, bn, Bool.and_eq_true, decide_eq_true_eq]
  constructor
  · rintro ⟨⟨h1, h2⟩, h3⟩; exact ⟨h1, h3⟩
  · rintro ⟨h1, h3⟩; have := (h.bn_bd h3).2; exact ⟨⟨h1, by omega⟩, h3⟩
theorem Wf.own_cls {s : St} (_ : Wf s) {a : Int} (ho : own s a = true) : blk s.c a < s.ks.length := (ownB_true.1 ho).2.1

section
variable {w w' : World} {H : Nat} {d : Ids} {s : St} {m : Nat}
theorem Is.frI_eq (h : Is w H d s m) (a : Int) : (Bits.mayB a (s.ws.length + 1 : Nat) && hasB d.sw a.toNat) = frI s a := by
  rw [Bool.eq_iff_iff]
  simp only [Bits.mayB, frI, Bool.and_eq_true, decide_eq_true_eq]
  constructor
  · rintro ⟨⟨h1, h2⟩, h3⟩; exact ⟨h1, fr_true.2 ((h.held.isIn a.toNat (by omega)).1 h3)⟩
  · rintro ⟨h1, h3⟩
    have := (h.wf.fr_bd h3).2
    exact ⟨⟨h1, by omega⟩, (h.held.isIn a.toNat (by omega)).2 (fr_true.1 h3)⟩
end

theorem is_nil (a : Int) (w : World) : Calls Tryz.prog 20 #[.pointer none, .int .i64 a] w fun e w' => e = .returned (.bool false) ∧ w = w' := by
  go_enter Tryz.func20, Tryz.ntmps20
  go_wp2
  go_ret
  exact ⟨rfl, rfl⟩
theorem isO_any {H : Nat} {d : Ids} {s : St} {m : Nat} (a : Int) (w : World) (h : Is w H d s m) : Calls Tryz.prog 20 #[.pointer (some ⟨H, 0, none⟩), .int .i64 a] w fun e w' => e = .returned (.bool (bnI s a)) ∧ ∃ q, w' = w.drewN q := by
  have hcB := h.cB
  have hb := Lib.hid h.born
  rw [← h.wf.bnI_eq a]
  clear h
  go_enter Tryz.func20, Tryz.ntmps20
  go_wp2_with (go_at_call 66; refine (Bits.has_any _ _ _ _ _ a _ hb.out).mono ?_; rintro e w' ⟨rfl, k, rfl⟩)
  go_ret
  exact ⟨rfl, _, rfl⟩
theorem has_any {H : Nat} {d : Ids} {s : St} {m : Nat} (a : Int) (w : World) (h : Is w H d s m) : Calls Tryz.prog 129 #[.pointer (some ⟨d.L, 0, none⟩), .int .i64 a] w fun e w' => e = .returned (.bool (frI s a)) ∧ ∃ q, w' = w.drewN q := by
  have := Lis.has_any a w h.sit.ls h.sit.si
  rw [h.frI_eq a] at this
  exact this
theorem loose_any {H : Nat} {d : Ids} {s : St} {m : Nat} (a : Int) (w : World) (h : Is w H d s m) : Calls Tryz.prog 95 #[.pointer (some ⟨H, 0, none⟩), .int .i64 a] w fun e w' => e = .returned (.bool (!bnI s a && !frI s a)) ∧ ∃ q, w' = w.drewN q := by
  have hcL := h.cL
  have HI := Lib.hid (isO_any a w h)
  have HF := Lib.hid (fun n => has_any a _ (h.drewN n))
  clear h
  generalize frI s a = y at *
  cases hb : bnI s a with
  | true =>
    rw [hb] at HI
    go_enter Tryz.func95, Tryz.ntmps95
    go_wp2_with (go_at_call 20; refine HI.out.mono ?_; rintro e w' ⟨rfl, k, rfl⟩)
    go_ret
    exact ⟨rfl, _, rfl⟩
  | false =>
    rw [hb] at HI
    go_enter Tryz.func95, Tryz.ntmps95
    go_wp2_with (first
      | (go_at_call 20; refine HI.out.mono ?_; rintro e w' ⟨rfl, k, rfl⟩)
      | (go_at_call 129; refine (HF.out _).mono ?_; rintro e w' ⟨rfl, k2, rfl⟩))
    go_ret
    exact ⟨rfl, _, rfl⟩
set_option maxHeartbeats 1000000 in
theorem hand_any {H : Nat} {d : Ids} {s : St} {m : Nat} (a : Int) (w : World) (h : Is w H d s m) (ht : Tabs w) : Calls Tryz.prog 105 #[.pointer (some ⟨H, 0, none⟩), .int .i64 a] w fun e w' => e = .returned (.tuple #[.int .i64 ((if handB s a = true then cls s a else 0 : Nat) : Int), .bool (handB s a)]) ∧ Below w.heap.size w w' := by
  have hcT := h.cT
  have HH := Lib.hid h
  have HO := Lib.hid (owner_any a w h.tb ht h.wf.right)
  cases ho : own s a with
  | false =>
    have hh : handB s a = false := by simp [handB, ho]
    rw [hh]
    rw [ownV_no ho] at HO
    clear h
    go_enter Tryz.func105, Tryz.ntmps105
    go_wp2_with (go_at_call 118; refine HO.out.mono ?_; rintro e w1 ⟨rfl, hb1⟩)
    go_ret2
    exact ⟨rfl, hb1⟩
  | true =>
    have hh : handB s a = (!bnI s a && !frI s a) := by simp [handB, ho]
    rw [ownV_yes ho] at HO
    rw [hh]
    clear h
    cases hl : (!bnI s a && !frI s a) with
    | true =>
      go_enter Tryz.func105, Tryz.ntmps105
      go_wp2_with (first
        | (go_at_call 118; refine HO.out.mono ?_; rintro e w1 ⟨rfl, hb1⟩)
        | (go_at_call 95; refine (loose_any a _ (HH.out.later hb1)).mono ?_; rintro e w2 ⟨rfl, q, rfl⟩; rw [hl]))
      go_ret2
      exact ⟨rfl, Class.below_drewN hb1 _⟩
    | false =>
      go_enter Tryz.func105, Tryz.ntmps105
      go_wp2_with (first
        | (go_at_call 118; refine HO.out.mono ?_; rintro e w1 ⟨rfl, hb1⟩)
        | (go_at_call 95; refine (loose_any a _ (HH.out.later hb1)).mono ?_; rintro e w2 ⟨rfl, q, rfl⟩; rw [hl]))
      go_ret2
      exact ⟨rfl, Class.below_drewN hb1 _⟩
theorem taken_any {H : Nat} {d : Ids} {s : St} {m : Nat} (a : Int) (w : World) (h : Is w H d s m) (ht : Tabs w) : Calls Tryz.prog 58 #[.pointer (some ⟨H, 0, none⟩), .int .i64 a] w fun e w' => e = .returned (.bool (bnI s a || handB s a)) ∧ Below w.heap.size w w' := by
  have HI := Lib.hid (isO_any a w h)
  have HT := Lib.hid (fun n => hand_any a _ (h.drewN n) (ht.drewN n))
  clear h ht
  cases hb : bnI s a with
  | true =>
    rw [hb] at HI
    go_enter Tryz.func58, Tryz.ntmps58
    go_wp2_with (go_at_call 20; refine HI.out.mono ?_; rintro e w' ⟨rfl, k, rfl⟩)
    go_ret
    exact ⟨rfl, Class.below_drewN (Below.refl _ _) _⟩
  | false =>
    rw [hb] at HI
    rw [Bool.false_or]
    generalize handB s a = v at *
    generalize (if v = true then cls s a else 0) = u at *
    go_enter Tryz.func58, Tryz.ntmps58
    go_wp2_with (first
      | (go_at_call 20; refine HI.out.mono ?_; rintro e w' ⟨rfl, k, rfl⟩)
      | (go_at_call 105; refine (HT.out _).mono ?_; rintro e w2 ⟨rfl, hb2⟩))
    go_ret
    exact ⟨rfl, (Class.below_drewN (Below.refl _ _) _).trans hb2⟩

/-- A word that is loaded: the arena counts it. -/
theorem Is.loaded {w w' : World} {H : Nat} {d : Ids} {s : St} {m : Nat} (h : Is w H d s m) (ha : ArIs w' d.A d.G d.cap s.ws (d.ld + 1) d.st) (ht : Two d.A d.G w w') : To w w' H d s (m + 1) := by
  have F := h.sit.five
  have hl : ∀ k, lo d k → k ≠ d.A → k ≠ d.G → w'.heap[k]? = w.heap[k]? := fun k hk n1 n2 => ht.block k (h.lt (.inl hk)) n1 n2
  have hs : Sit w' d.L d.A d.G d.T d.I d.J d.cap d.capS d.base d.ps d.cs (fun k => (s.hv k).reverse) s.ws d.sw (d.ld + 1) d.st :=
    ⟨h.sit.ls.kept (hl _ (.inl rfl) F.la F.lg) (fun k hk g hg => hl g (.inr (.inr (.inr (.inr (.inr ⟨k, hk, hg⟩))))) (h.sit.rows k hk g hg).1 (h.sit.rows k hk g hg).2.1), ha, set_kept h.sit.si (hl _ (.inr (.inr (.inr (.inl rfl)))) (Ne.symm F.ai) (Ne.symm F.gi)) (hl _ (.inr (.inr (.inr (.inr (.inl rfl))))) (Ne.symm F.aj) (Ne.symm F.gj)), F,
      Nat.lt_of_lt_of_le h.sit.ltG ht.size, Nat.lt_of_lt_of_le h.sit.ltJ ht.size, h.sit.rows, Nat.le_trans h.sit.bs ht.size⟩
  have hc := Lis.own_two (L := d.L) (I := d.I) (J := d.J) (ps := d.ps) ht
  obtain ⟨c1, c2, c3⟩ := h.cnt
  exact ⟨_, h.lists hs h.held rfl hc (fun _ e => .inl e) ⟨by omega, by omega, fun k hk => by have := c3 k hk; omega⟩ h.wf, hc.mono (fun _ e => .inl e), fun _ e => .inl e⟩
set_option maxHeartbeats 1000000 in
theorem begun_any {H : Nat} {d : Ids} {s : St} {m : Nat} (a : Nat) (w : World) (h : Is w H d s m) (ht : Tabs w) (hm : m < 1000000) (h1 : 1 ≤ a) (h2 : a ≤ s.ws.length) :
    Calls Tryz.prog 59 #[.pointer (some ⟨H, 0, none⟩), .int .i64 a] w fun e w' => e = .returned (.tuple #[.int .i64 (Hdr.obF (wdA s a)), .bool (Hdr.isOb (wdA s a))]) ∧ To w w' H d s (m + 1) := by
  have hcA := h.cA
  have hz : Arena.codeN s.ws.length (a : Int) = 0 := by unfold Arena.codeN; rw [if_neg (by omega), if_neg (by omega)]
  have e1 : Arena.getR s.ws (a : Int) = wdA s a := by rw [Arena.getR, if_pos hz, Int.toNat_natCast]; rfl
  have e2 : Arena.oneN s.ws.length (a : Int) = 1 := if_pos hz
  have hld := h.cnt.1
  have hl := Arena.load_any w h.sit.ar h.sit.ltG (by omega) (a : Int)
  rw [e1, e2, hz] at hl
  have HL := Lib.hid hl
  have HP := Lib.hid (fun W : World => fun hs : SizTab W => Hdr.parse_any (wdA s a) W (h.held.word _) hs)
  have HX : Hid (∀ w1 : World, ArIs w1 d.A d.G d.cap s.ws (d.ld + 1) d.st → Two d.A d.G w w1 → SizTab w1 ∧ To w w1 H d s (m + 1)) := Lib.hid fun w1 ha h2 => by
    have ht1 := h.loaded ha h2
    obtain ⟨d', h3, h4, h5⟩ := ht1
    exact ⟨(h.tabs h4 ht).siz, d', h3, h4, h5⟩
  clear h ht hl e1 e2 hz
  generalize wdA s a = x at *
  go_enter Tryz.func59, Tryz.ntmps59
  go_wp2_with (first
    | (go_at_call 63; refine HL.out.mono ?_; rintro e w1 ⟨rfl, ha, h2⟩)
    | (go_at_call 106; refine (HP.out _ (HX.out _ ha h2).1).mono ?_; rintro e w2 ⟨rfl, rfl⟩))
  go_ret2
  exact ⟨rfl, (HX.out _ ha h2).2⟩
end Go.Proofs.YtcoolapancdioaaGreatDoor.Hp
