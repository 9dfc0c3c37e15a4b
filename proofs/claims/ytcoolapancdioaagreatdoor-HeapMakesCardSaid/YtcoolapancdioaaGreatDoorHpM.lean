/-
  Make: an object is made.
-/
import Derived.Test.YtcoolapancdioaaGreatDoorHpL
namespace Go.Proofs.YtcoolapancdioaaGreatDoor.Hp
open Go.RowKit
open Class (isB isB_true isB_false is_any sizI sizI_bd roomI SizTab clsI clsI_bd)
open Blk (Cfg TbIs ownB ownB_true blk kAt adr perN perN_pos)
open Go.Proofs.YtcoolapancdioaaGreatDoor.Row (Chg)
open Lis (upd upd_same upd_other)
open Go.Proofs.YtcoolapancdioaaGreatDoor.Addr (Tabs)

theorem To.tabs {w w1 : World} {H : Nat} {d : Ids} {s s1 : St} {m m1 : Nat} (h : Is w H d s m) (hT : To w w1 H d s1 m1) (ht : Tabs w) : Tabs w1 := by
  obtain ⟨d1, h1, h2, h3⟩ := hT
  exact h.tabs h2 ht

/-- Which slot an object gets; what is there then. -/
def rmA (s : St) (k : Nat) : Nat := match s.hv k with | a :: _ => a | [] => ad s k 0
def rmS (s : St) (k : Nat) : St := match s.hv k with | _ :: l => { s with hv := upd s.hv k l } | [] => roN s k
def rmOk (s : St) (k : Nat) : Bool := !(s.hv k).isEmpty || decide ((s.ks.length : Int) < s.c.b)
theorem rm_hand {w : World} {H : Nat} {d : Ids} {s : St} {m k : Nat} (h : Is w H d s m) (hk : k < 4) (hr : rmOk s k = true) : handB (rmS s k) (rmA s k) = true ∧ cls (rmS s k) (rmA s k) = k := by
  cases he : s.hv k with
  | cons a l =>
    have e1 : rmA s k = a := by rw [rmA, he]
    have e2 : rmS s k = { s with hv := upd s.hv k l } := by rw [rmS, he]
    rw [e1, e2]
    obtain ⟨c1, c2, c3, c4⟩ := h.wf.free k hk a (by rw [he]; exact List.mem_cons_self ..)
    refine ⟨?_, c2⟩
    have hno : a ∉ l := by have := h.held.once k hk; rw [he] at this; exact (List.nodup_cons.1 this).1
    have hfr : fr { s with hv := upd s.hv k l } a = false := by
      rw [fr_false]
      intro j hj hm
      have hm' : a ∈ upd s.hv k l j := hm
      by_cases e : j = k
      · subst e; rw [upd_same] at hm'; exact hno hm'
      · rw [upd_other _ _ e] at hm'
        exact e (h.held.apart j k a hj hk hm' (by rw [he]; exact List.mem_cons_self ..))
    unfold handB
    rw [bnI_nat, frI_nat, hfr]
    have e3 : own { s with hv := upd s.hv k l } a = own s a := rfl
    have e4 : bn { s with hv := upd s.hv k l } a = bn s a := rfl
    rw [e3, e4, c1, c3]
    rfl
  | nil =>
    have e1 : rmA s k = ad s k 0 := by rw [rmA, he]
    have e2 : rmS s k = roN s k := by rw [rmS, he]
    have hf : (s.ks.length : Int) < s.c.b := by
      unfold rmOk at hr
      rw [he] at hr
      simpa using hr
    rw [e1, e2]
    obtain ⟨h1, h2, h3⟩ := ad_hand h.wf hk hf (perN_pos h.wf.right hk)
    refine ⟨puL_hand h1 _ (fun hm => ?_), ?_⟩
    · rw [List.take_of_length_le (by rw [List.length_reverse]; exact Nat.le_refl _), List.mem_reverse] at hm
      unfold tl at hm
      obtain ⟨j, _, e⟩ := List.mem_map.1 hm
      have := ad_inj h.wf hk e
      omega
    · obtain ⟨p1, p2, _⟩ := puL_c (asS s k) ((tl s k).reverse.take (tl s k).length)
      unfold roN pu cls
      rw [p1, p2]
      exact h2
theorem room_any {H : Nat} {d : Ids} {s : St} {m : Nat} (k : Nat) (w : World) (h : Is w H d s m) (ht : Tabs w) (hm : m < 800000) (hk : k < 4) (hr : rmOk s k = true) :
    Calls Tryz.prog 79 #[.pointer (some ⟨H, 0, none⟩), .int .i64 k] w fun e w' => e = .returned (.tuple #[.int .i64 (rmA s k), .int .i64 0]) ∧ To w w' H d (rmS s k) (m + 128) := by
  cases he : s.hv k with
  | cons a l =>
    have e1 : rmA s k = a := by rw [rmA, he]
    have e2 : rmS s k = { s with hv := upd s.hv k l } := by rw [rmS, he]
    rw [e1, e2]
    exact (room_take k a l w h hk he).mono fun e w' ⟨x, y⟩ => ⟨x, y.more (by omega)⟩
  | nil =>
    have e1 : rmA s k = ad s k 0 := by rw [rmA, he]
    have e2 : rmS s k = roN s k := by rw [rmS, he]
    rw [e1, e2]
    exact room_new k w h ht hm hk he (by unfold rmOk at hr; rw [he] at hr; simpa using hr)

/-- Fields laid 0. -/
def zr (s : St) (a : Nat) : Nat → St
  | 0 => s
  | j + 1 => stS (zr s a j) a j 0
theorem hand_ws (s : St) (ws : List Nat) (a : Int) : handB { s with ws := ws } a = handB s a := rfl
theorem zr_rest (s : St) (a j : Nat) : (zr s a j).c = s.c ∧ (zr s a j).ks = s.ks ∧ (zr s a j).hv = s.hv ∧ (zr s a j).bs = s.bs ∧ (zr s a j).os = s.os ∧ (zr s a j).ce = s.ce ∧ (zr s a j).ws.length = s.ws.length := by
  induction j with
  | zero => exact ⟨rfl, rfl, rfl, rfl, rfl, rfl, rfl⟩
  | succ j ih =>
    obtain ⟨h1, h2, h3, h4, h5, h6, h7⟩ := ih
    exact ⟨h1, h2, h3, h4, h5, h6, by show ((zr s a j).ws.set _ _).length = _; rw [List.length_set]; exact h7⟩
theorem zr_hand (s : St) (a j : Nat) (b : Int) : handB (zr s a j) b = handB s b := by
  induction j with
  | zero => rfl
  | succ j ih => exact ih
theorem wdA_st (s : St) {a f v : Nat} (h1 : 1 ≤ a) : wdA (stS s a f v) a = wdA s a := by
  show Arena.wd (s.ws.set (a + f) v) (a - 1) = _
  rw [Arena.wd_set, if_neg (by omega)]
  rfl
theorem zr_wdA (s : St) {a : Nat} (h1 : 1 ≤ a) (j : Nat) : wdA (zr s a j) a = wdA s a := by
  induction j with
  | zero => rfl
  | succ j ih => exact (wdA_st _ h1).trans ih
theorem wdA_be {s : St} {a n : Nat} (h1 : 1 ≤ a) (h2 : a ≤ s.ws.length) : wdA (beS s a n) a = Hdr.obI (cls s a : Nat) (n : Nat) := by
  show Arena.wd (s.ws.set (a - 1) _) (a - 1) = _
  rw [Arena.wd_set, if_pos ⟨rfl, by omega⟩]

/-- What Make tells, and leaves. -/
def mkE (s : St) (n c : Int) : Int := if 0 ≤ n ∧ n ≤ 15 then (if colB c = true then (if rmOk s (clsI n).toNat = true then 0 else 10) else 1) else 8
def mkA (s : St) (n : Int) : Nat := rmA s (clsI n).toNat
def mk2 (s : St) (n : Int) : St := beS (rmS s (clsI n).toNat) (mkA s n) n.toNat
def mkS (s : St) (n c : Int) : St := baS (zr (mk2 s n) (mkA s n) n.toNat) (mkA s n) c

set_option maxRecDepth 100000 in
set_option maxHeartbeats 1000000 in
theorem make_nil (n c : Int) (w : World) (ht : Tabs w) : Calls Tryz.prog 27 #[.pointer none, .int .i64 n, .int .i64 c] w fun e w' => e = .returned (.tuple #[.int .i64 0, .int .i64 11]) ∧ w = w' := by
  by_cases hn : 0 ≤ n ∧ n ≤ 15
  · have HO := Lib.hid (Class.of_yes n w ht.siz hn.1 hn.2)
    go_enter Tryz.func27, Tryz.ntmps27
    go_wp2_with (go_at_call 78; refine HO.out.mono ?_; rintro e w1 ⟨rfl, rfl⟩)
    go_ret2
    exact ⟨rfl, rfl⟩
  · have HO := Lib.hid (Class.of_no n w (by omega))
    go_enter Tryz.func27, Tryz.ntmps27
    go_wp2_with (go_at_call 78; refine HO.out.mono ?_; rintro e w1 ⟨rfl, rfl⟩)
    go_ret2
    exact ⟨rfl, rfl⟩
set_option maxRecDepth 100000 in
set_option maxHeartbeats 1000000 in
theorem make_bad {H : Nat} {d : Ids} {s : St} {m : Nat} (n c : Int) (w : World) (h : Is w H d s m) (ht : Tabs w) (hm : m < 800000) (he : mkE s n c ≠ 0) :
    Calls Tryz.prog 27 #[.pointer (some ⟨H, 0, none⟩), .int .i64 n, .int .i64 c] w fun e w' => e = .returned (.tuple #[.int .i64 0, .int .i64 (mkE s n c)]) ∧ To w w' H d s (m + 160) := by
  unfold mkE at he ⊢
  by_cases hn : 0 ≤ n ∧ n ≤ 15
  · rw [if_pos hn] at he ⊢
    have HO := Lib.hid (Class.of_yes n w ht.siz hn.1 hn.2)
    have HC := Lib.hid (color_any c w)
    have HH := Lib.hid h
    cases hc : colB c with
    | false =>
      rw [if_neg (by simp)]
      rw [hc] at HC
      clear h ht he
      go_enter Tryz.func27, Tryz.ntmps27
      go_wp2_with (first
        | (go_at_call 78; refine HO.out.mono ?_; rintro e w1 ⟨rfl, rfl⟩)
        | (go_at_call 76; refine HC.out.mono ?_; rintro e w1 ⟨rfl, rfl⟩))
      go_ret2
      exact ⟨rfl, To.of_below (HH.out.more (by omega)) (Below.refl _ _)⟩
    | true =>
      rw [hc, if_pos rfl] at he
      rw [if_pos rfl]
      have hr : rmOk s (clsI n).toNat = false := by
        cases e : rmOk s (clsI n).toNat with
        | false => rfl
        | true => rw [e] at he; exact absurd rfl he
      rw [hr, if_neg (by simp)]
      rw [hc] at HC
      have hcl := clsI_bd n
      obtain ⟨k, hk⟩ : ∃ k : Nat, clsI n = (k : Int) := ⟨(clsI n).toNat, by omega⟩
      rw [hk, Int.toNat_natCast] at hr
      rw [hk] at HO hcl
      unfold rmOk at hr
      rw [Bool.or_eq_false_iff] at hr
      have he2 : s.hv k = [] := by simpa using hr.1
      have hf : (s.ks.length : Int) = s.c.b := by have := h.wf.full; have := hr.2; simp at this; omega
      have HR := Lib.hid (room_full k w h (by omega) he2 hf)
      clear h ht he hr hk
      go_enter Tryz.func27, Tryz.ntmps27
      go_wp2_with (first
        | (go_at_call 78; refine HO.out.mono ?_; rintro e w1 ⟨rfl, rfl⟩)
        | (go_at_call 76; refine HC.out.mono ?_; rintro e w1 ⟨rfl, rfl⟩)
        | (go_at_call 79; refine HR.out.mono ?_; rintro e w1 ⟨rfl, hT⟩))
      go_ret2
      exact ⟨rfl, hT.more (by omega)⟩
  · rw [if_neg hn]
    have HO := Lib.hid (Class.of_no n w (by omega))
    have HH := Lib.hid h
    clear h ht he
    go_enter Tryz.func27, Tryz.ntmps27
    go_wp2_with (go_at_call 78; refine HO.out.mono ?_; rintro e w1 ⟨rfl, rfl⟩)
    go_ret2
    exact ⟨rfl, To.of_below (HH.out.more (by omega)) (Below.refl _ _)⟩

theorem takB_hand {s : St} {a : Nat} (h : handB s a = true) (hi : Hdr.isOb (wdA s a) = true) : takB s a = true := by
  unfold takB
  rw [h, Int.toNat_natCast, hi]
  simp
theorem sE_zero {s : St} {a j n : Nat} (hw : Wf s) (h : handB s a = true) (hi : Hdr.isOb (wdA s a) = true) (hn : Hdr.obF (wdA s a) = n) (hj : j < n) : sE s a j 0 = 0 := by
  have hbd := hw.own_bd (handB_parts h).1
  have ht := takB_hand h hi
  have h0 : (a : Int) ≠ 0 := by omega
  have e1 : fE s a = 0 := by rw [fE, if_neg h0, if_pos ht]
  have e2 : fN s a = n := by rw [fN, if_neg h0, if_pos ht, Int.toNat_natCast, hn]
  have e3 : lE s a j = 0 := by rw [lE, if_pos e1, e2, if_pos ⟨by omega, by omega⟩]
  rw [sE, if_pos e3, if_pos (mayV_true.2 ⟨by omega, by omega⟩)]
set_option maxRecDepth 100000 in
set_option maxHeartbeats 4000000 in
theorem make_good {H : Nat} {d : Ids} {s : St} {m : Nat} (n c : Int) (w : World) (h : Is w H d s m) (ht : Tabs w) (hm : m < 700000) (he : mkE s n c = 0) :
    Calls Tryz.prog 27 #[.pointer (some ⟨H, 0, none⟩), .int .i64 n, .int .i64 c] w fun e w' => e = .returned (.tuple #[.int .i64 (mkA s n), .int .i64 0]) ∧ To w w' H d (mkS s n c) (m + 160) := by
  have hn : 0 ≤ n ∧ n ≤ 15 := by
    unfold mkE at he
    split at he
    · assumption
    · omega
  have hc : colB c = true := by
    unfold mkE at he
    rw [if_pos hn] at he
    split at he
    · assumption
    · omega
  have hr : rmOk s (clsI n).toNat = true := by
    unfold mkE at he
    rw [if_pos hn, if_pos hc] at he
    split at he
    · assumption
    · omega
  obtain ⟨f, rfl⟩ := Int.eq_ofNat_of_zero_le hn.1
  obtain ⟨k, hk⟩ : ∃ k : Nat, clsI f = (k : Int) := ⟨(clsI f).toNat, by have := clsI_bd f; omega⟩
  have hcl := clsI_bd f
  have hlf := Class.least_facts hn.1 hn.2
  unfold mkS mk2 mkA
  rw [hk, Int.toNat_natCast] at hr
  rw [hk] at hcl hlf
  simp only [hk, Int.toNat_natCast]
  obtain ⟨hh1, hh2⟩ := rm_hand h (by omega) hr
  have HO := Lib.hid (Class.of_yes f w ht.siz hn.1 hn.2)
  rw [hk] at HO
  have HC := Lib.hid (color_any c w)
  rw [hc] at HC
  have HR := Lib.hid (room_any k w h ht (by omega) (by omega) hr)
  have hok : Hdr.okB (cls (rmS s k) (rmA s k) : Nat) (f : Nat) = true := by rw [hh2]; exact Hdr.okB_true.2 ⟨hlf.1, hn.1, hlf.2.1⟩
  have hbe : beE (rmS s k) (rmA s k) f = 0 := by rw [beE, if_pos hh1, if_pos hok]
  have HTB : Hid (∀ (W : World) (S : St) (M : Nat), To w W H d S M → Tabs W) := Lib.hid fun W S M hT => To.tabs h hT ht
  obtain ⟨i1, i2, i3⟩ := Hdr.isOb_ob hok
  have HBE := Lib.hid (fun (W : World) (d1 : Ids) (hI : Is W H d1 (rmS s k) (m + 128)) (ht : Tabs W) => (by
    have := begin_any (rmA s k : Nat) (f : Nat) W hI ht (by omega)
    rw [hbe, if_pos rfl, Int.toNat_natCast, Int.toNat_natCast] at this
    exact this : Calls Tryz.prog 29 #[.pointer (some ⟨H, 0, none⟩), .int .i64 (rmA s k : Nat), .int .i64 (f : Nat)] W fun e w' => e = .returned (.int .i64 0) ∧ To W w' H d1 (beS (rmS s k) (rmA s k) f) (m + 128 + 1)))
  have hfacts : ∀ (W : World) (d1 : Ids), Is W H d1 (rmS s k) (m + 128) → 1 ≤ rmA s k ∧ wdA (beS (rmS s k) (rmA s k) f) (rmA s k) = Hdr.obI (cls (rmS s k) (rmA s k) : Nat) (f : Nat) := fun W d1 hI => by
    have hbd := hI.wf.own_bd (handB_parts hh1).1
    exact ⟨by omega, wdA_be (by omega) (by omega)⟩
  have HFA := Lib.hid hfacts
  have hh3 : handB (beS (rmS s k) (rmA s k) f) (rmA s k) = true := hh1
  have HST := Lib.hid (fun (W : World) (d1 : Ids) (j : Nat) (hj : j < f) (h1 : 1 ≤ rmA s k) (hw2 : wdA (beS (rmS s k) (rmA s k) f) (rmA s k) = Hdr.obI (cls (rmS s k) (rmA s k) : Nat) (f : Nat)) (hI : Is W H d1 (zr (beS (rmS s k) (rmA s k) f) (rmA s k) j) (m + 129 + 2 * j)) (ht : Tabs W) => (by
    have hwz : wdA (zr (beS (rmS s k) (rmA s k) f) (rmA s k) j) (rmA s k) = Hdr.obI (cls (rmS s k) (rmA s k) : Nat) (f : Nat) := (zr_wdA _ h1 j).trans hw2
    have hs0 : sE (zr (beS (rmS s k) (rmA s k) f) (rmA s k) j) (rmA s k : Nat) j 0 = 0 := sE_zero hI.wf (by rw [zr_hand]; exact hh3) (by rw [hwz]; exact i1) (by rw [hwz]; exact i3) hj
    have := storeF_any (rmA s k : Nat) (j : Nat) 0 W hI ht (by omega)
    rw [hs0, if_pos rfl, Int.toNat_natCast, Int.toNat_natCast] at this
    exact this : Calls Tryz.prog 32 #[.pointer (some ⟨H, 0, none⟩), .int .i64 (rmA s k : Nat), .int .i64 (j : Nat), .int .i64 0] W fun e w' => e = .returned (.int .i64 0) ∧ To W w' H d1 (zr (beS (rmS s k) (rmA s k) f) (rmA s k) (j + 1)) (m + 129 + 2 * j + 2)))
  have HBA := Lib.hid (fun (W : World) (d1 : Ids) (h1 : 1 ≤ rmA s k) (hw2 : wdA (beS (rmS s k) (rmA s k) f) (rmA s k) = Hdr.obI (cls (rmS s k) (rmA s k) : Nat) (f : Nat)) (hI : Is W H d1 (zr (beS (rmS s k) (rmA s k) f) (rmA s k) f) (m + 129 + 2 * f)) (ht : Tabs W) => (by
    have hwz : wdA (zr (beS (rmS s k) (rmA s k) f) (rmA s k) f) (rmA s k) = Hdr.obI (cls (rmS s k) (rmA s k) : Nat) (f : Nat) := (zr_wdA _ h1 f).trans hw2
    have hs0 : baE (zr (beS (rmS s k) (rmA s k) f) (rmA s k) f) (rmA s k : Nat) c = 0 := by rw [baE, zr_hand, if_pos hh3, if_pos hc, Int.toNat_natCast, hwz, if_pos i1]
    have := bear_any (rmA s k : Nat) c W hI ht (by omega)
    rw [hs0, if_pos rfl, Int.toNat_natCast] at this
    exact this : Calls Tryz.prog 30 #[.pointer (some ⟨H, 0, none⟩), .int .i64 (rmA s k : Nat), .int .i64 c] W fun e w' => e = .returned (.int .i64 0) ∧ To W w' H d1 (baS (zr (beS (rmS s k) (rmA s k) f) (rmA s k) f) (rmA s k) c) (m + 129 + 2 * f + 1)))
  have hf15 : f ≤ 15 := by omega
  clear h ht he hn hr hlf hh1 hh2 hok hbe i1 i2 i3 hfacts hh3 hk hc
  generalize rmA s k = a at *
  generalize beS (rmS s k) a f = s2 at *
  generalize rmS s k = s1 at *
  go_enter Tryz.func27, Tryz.ntmps27
  go_wp2_with (first
    | (go_at_call 78; refine HO.out.mono ?_; rintro e w1 ⟨rfl, rfl⟩)
    | (go_at_call 76; refine HC.out.mono ?_; rintro e w1 ⟨rfl, rfl⟩)
    | (go_at_call 79; refine HR.out.mono ?_; rintro e w1 ⟨rfl, hT1⟩; have HTT1 := Lib.hid (HTB.out _ _ _ hT1); obtain ⟨d1, hI1, hC1, hR1⟩ := hT1; obtain ⟨g1, g2⟩ := HFA.out _ _ hI1; have HI1 := Lib.hid hI1; have HC1 := Lib.hid hC1; have HR1 := Lib.hid hR1; clear hI1 hC1 hR1)
    | (go_at_call 29; refine (HBE.out _ _ HI1.out HTT1.out).mono ?_; rintro e w2 ⟨rfl, hT2⟩; have HT2 := Lib.hid (To.step HC1.out HR1.out hT2); clear hT2))
  have G2 := Lib.hid g2
  clear g2
  go_loopw [42] (fun i wr => ∃ j : Nat, j ≤ f ∧ i = .int .i64 (j : Int) ∧ To w wr H d (zr s2 a j) (m + 129 + 2 * j)) (fun i _ => f - (intOf i).toNat)
  case atStart => exact ⟨0, Nat.zero_le _, rfl, HT2.out⟩
  case round =>
    obtain ⟨j, hj, rfl, hT⟩ := hrel
    have HTT := Lib.hid (HTB.out _ _ _ hT)
    obtain ⟨d3, hI3, hC3, hR3⟩ := hT
    have HI3 := Lib.hid hI3
    have HC3 := Lib.hid hC3
    have HR3 := Lib.hid hR3
    clear hI3 hC3 hR3
    by_cases hlt : j < f
    · have i5 : (j : Int) < (f : Int) := by omega
      go_wp2_with (go_at_call 32; refine (HST.out _ _ j hlt g1 G2.out HI3.out HTT.out).mono ?_; rintro e w4 ⟨rfl, hT4⟩; have HT4 := Lib.hid (To.step HC3.out HR3.out hT4); clear hT4)
      go_roundw
      case rel => exact ⟨j + 1, by omega, by go_num, HT4.out⟩
      case measure => simp [intOf]; omega
    · obtain rfl : j = f := by omega
      go_wp2_with (go_at_call 30; refine (HBA.out _ _ g1 G2.out HI3.out HTT.out).mono ?_; rintro e w4 ⟨rfl, hT4⟩)
      go_ret2
      exact ⟨rfl, (To.step HC3.out HR3.out hT4).more (by omega)⟩
end Go.Proofs.YtcoolapancdioaaGreatDoor.Hp
