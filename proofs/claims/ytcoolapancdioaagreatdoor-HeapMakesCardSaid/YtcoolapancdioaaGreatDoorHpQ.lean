/-
  All objects, all slots in hand, the free slots of a class, in rows; of no heap.
-/
import Derived.Test.YtcoolapancdioaaGreatDoorHpP
namespace Go.Proofs.YtcoolapancdioaaGreatDoor.Hp
open Go.RowKit Go.Shelf
open Class (isB isB_true isB_false is_any sizI sizI_bd roomI SizTab below_drewN)
open Blk (Cfg TbIs allP allP_len valA cellsF collect_any kAt)
open Go.Proofs.YtcoolapancdioaaGreatDoor.Row (Chg cellsZ)
open Go.Proofs.YtcoolapancdioaaGreatDoor.Addr (Tabs)

theorem cellsF_list (l : List Int) : cellsF (fun i => l.getD i 0) l.length = cellsZ l := by
  unfold cellsF cellsZ
  apply List.ext_getElem?
  intro i
  rw [List.getElem?_map, List.getElem?_map]
  by_cases h : i < l.length
  · rw [List.getElem?_range h]
    simp [List.getD_eq_getElem?_getD, h]
  · rw [List.getElem?_eq_none (by simp; omega), List.getElem?_eq_none (by omega)]
    rfl
theorem pkA_len {s : St} (h : Wf s) (P : Int → Bool) : (pkA s P).length ≤ 1048576 := by
  have h1 : (pkA s P).length ≤ nSl s := by
    unfold pkA pk
    refine Nat.le_trans (List.length_filter_le _ _) ?_
    simp
  have h2 : nSl s ≤ 128 * s.ks.length := allP_len s.c s.ks s.ks.length
  have h3 := h.full
  have h4 := (Blk.slots_bd h.right).b1
  omega
/-- A new row of numbers. -/
def NewRow (w : World) (l : List Int) (e : Ending) (w' : World) : Prop := ∃ p cap, e = .returned (.slice p l.length cap) ∧ w'.ownsRow w.heap.size 3 1 (.slice p l.length cap) l.length (cellsZ l) ∧ Below w.heap.size w w'
theorem pick_any {H : Nat} {d : Ids} {s : St} {m : Nat} (f : Nat) (P : Int → Bool) (w : World) (h : Is w H d s m) (ht : Tabs w)
    (hf : ∀ (a : Int) (W : World), Is W H d s m → Calls Tryz.prog f #[.pointer (some ⟨H, 0, none⟩), .int .i64 a] W fun e w' => e = .returned (.bool (P a)) ∧ ∃ q, w' = W.drewN q) (eg : ∀ args w, (callFunc f args).run Tryz.prog w = .ok (.enter f args) w) :
    Calls Tryz.prog 92 #[.func (.func 125) #[] #[.pointer (some ⟨w.heap.size, 0, none⟩), .pointer (some ⟨w.heap.size + 1, 0, none⟩)]] ((w.alloc (.cells #[.pointer (some ⟨H, 0, none⟩)] 27)).alloc (.cells #[holdsF f (.pointer (some ⟨H, 0, none⟩))] 46)) (NewRow w (pkA s P)) := by
  have hb := two_new (w := w) (.pointer (some ⟨H, 0, none⟩)) (holdsF f (.pointer (some ⟨H, 0, none⟩))) 27 46
  have hs : ∀ W : World, Below w.heap.size w W → w.heap.size ≤ W.heap.size := fun W h => h.size
  refine (collect_any 125 #[.pointer (some ⟨w.heap.size, 0, none⟩), .pointer (some ⟨w.heap.size + 1, 0, none⟩)] (pkA s P).length (fun i => (pkA s P).getD i 0) (fun W => Below _ _ W) _ (pkA_len h.wf P) (enters_of Tryz.func125 (by kernel_rfl) rfl)
    (slots1_told 4 w.heap.size (w.heap.size + 1) f P _ _ (h.later hb) (ht.later hb) (by simp) (by simp) (fun a W hW => hf a W ((h.later hb).later hW)) eg) (fun _ h => h)).mono ?_
  rintro e w' ⟨p, cap, rfl, ho, hb2⟩
  rw [cellsF_list] at ho
  exact ⟨p, cap, rfl, Row.owns_base hb.size ho, hb.trans (hb2.mono hb.size)⟩
def objL (s : St) : List Int := pkA s (bnI s)
def hanL (s : St) : List Int := pkA s (fun a => !bnI s a && !frI s a)
theorem objects_any {H : Nat} {d : Ids} {s : St} {m : Nat} (w : World) (h : Is w H d s m) (ht : Tabs w) : Calls Tryz.prog 36 #[.pointer (some ⟨H, 0, none⟩)] w (NewRow w (objL s)) := by
  have HS := Lib.hid (slots_fn (some ⟨H, 0, none⟩) 20 w)
  have HC := Lib.hid (pick_any 20 (bnI s) w h ht (fun a W hI => isO_any a W hI) (enters_of Tryz.func20 (by kernel_rfl) rfl))
  unfold holdsF at HS HC
  clear h ht
  go_enter Tryz.func36, Tryz.ntmps36
  go_wp2_with (first
    | (go_at_call 93; refine HS.out.mono ?_; rintro e w1 ⟨rfl, rfl⟩)
    | (go_at_call 92; refine HC.out.mono ?_; rintro e w1 ⟨p, cap, rfl, ho, hb⟩))
  go_ret
  exact ⟨p, cap, rfl, ho, hb⟩
theorem hands_any {H : Nat} {d : Ids} {s : St} {m : Nat} (w : World) (h : Is w H d s m) (ht : Tabs w) : Calls Tryz.prog 38 #[.pointer (some ⟨H, 0, none⟩)] w (NewRow w (hanL s)) := by
  have HS := Lib.hid (slots_fn (some ⟨H, 0, none⟩) 95 w)
  have HC := Lib.hid (pick_any 95 (fun a => !bnI s a && !frI s a) w h ht (fun a W hI => loose_any a W hI) (enters_of Tryz.func95 (by kernel_rfl) rfl))
  unfold holdsF at HS HC
  clear h ht
  go_enter Tryz.func38, Tryz.ntmps38
  go_wp2_with (first
    | (go_at_call 93; refine HS.out.mono ?_; rintro e w1 ⟨rfl, rfl⟩)
    | (go_at_call 92; refine HC.out.mono ?_; rintro e w1 ⟨p, cap, rfl, ho, hb⟩))
  go_ret
  exact ⟨p, cap, rfl, ho, hb⟩
end Go.Proofs.YtcoolapancdioaaGreatDoor.Hp
