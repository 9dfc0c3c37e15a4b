/-
  The document's example: the law's awake is true.
-/
import Derived.Test.YtkfgchhlekdpgaaGreatDoorNtM
import Derived.Deep.RegionHeld3
namespace Go.Proofs.YtkfgchhlekdpgaaGreatDoor.Nt
open Go.RowKit
open Class (below_drewN)
open Hp (Ids St Is To Mine bnI coE coV colB objL st0)
open Lg (BfIs BxIs)
open Blk (Cfg little little_any little_right)
open Sw (ThingsP thAt madeS MadeP Mad Sm made_any)
open Go.Proofs.YtkfgchhlekdpgaaGreatDoor.Row (Chg rowB Rd Rd0)
open Go.Proofs.YtkfgchhlekdpgaaGreatDoor.Addr (Tabs)

def eC : Cfg := ⟨0, 0, 0, 0, 0, 0, 0⟩
def eL : List (Nat × Nat × Bool) := [(1, 0, false)]
def eS : St := madeS (st0 (little eC) 16 0) (eL.take 40)
theorem e_n : (little eC).b * (little eC).wd = ((16 : Nat) : Int) ∧ (little eC).ce = ((0 : Nat) : Int) := by decide
theorem e_obj : coE eS 1 = 0 ∧ coV eS 1 = 0 := by decide
theorem pb_new {w0 w4 w5 w6 w7 : World} {H : Nat} {d : Ids} {s : St} {m room : Nat} (hI : Is w4 H d s m) (ht : Tabs w0) (hg : ∀ k, Mine H d k → w0.heap.size ≤ k) (b04 : Below w0.heap.size w0 w4) (b45 : Below w4.heap.size w4 w5) (b56 : Below w5.heap.size w5 w6) (b67 : Below w6.heap.size w6 w7)
    (z5 : w5.heap.size = w4.heap.size + 1) (z6 : w6.heap.size = w5.heap.size + 1) (hB : ∀ T : Nat → Prop, T w4.heap.size → BfIs T w5 w4.heap.size room []) (hX : ∀ T : Nat → Prop, T w5.heap.size → BxIs T w6 w5.heap.size [])
    {up : Bool} (hc : w7.cell? ⟨w6.heap.size, 0, none⟩ = some (.bool up)) (hf : w7.frozen? ⟨w6.heap.size, 0, none⟩ = false) : Pb w0 w7 H d s m w4.heap.size w5.heap.size w6.heap.size room [] [] up := by
  have b46 := b45.trans (b56.mono b45.size)
  have b47 := b46.trans (b67.mono b46.size)
  have lM : ∀ k, Mine H d k → k < w4.heap.size := fun k hk => hI.lt hk
  have lF := World.block_lt_of_cell? _ _ hc
  have g0 := b04.size
  have lF' : w6.heap.size < w7.heap.size := lF
  refine ⟨hI.later b47, ⟨own H d w4.heap.size w5.heap.size w6.heap.size, ((hB _ (.inr (.inl rfl))).later b56).later b67, (hX _ (.inr (.inr (.inl rfl)))).later b67, ?_, fun k hk => hk⟩, ⟨by omega, by omega, by omega⟩, ⟨fun e => (by have := lM _ e; omega), fun e => (by have := lM _ e; omega), fun e => (by have := lM _ e; omega)⟩, hc, hf, b04.trans (b47.mono g0), ?_, ht⟩
  · rintro k (hk | rfl | rfl | rfl)
    · have := lM k hk; omega
    · omega
    · omega
    · exact lF'
  · rintro k (hk | rfl | rfl | rfl)
    · exact hg k hk
    · omega
    · omega
    · omega
set_option maxRecDepth 100000 in
set_option maxHeartbeats 2000000 in
theorem awake_any (w : World) (ht : Tabs w) : Calls Tryz.prog 12 #[] w fun e w' => e = .returned (.bool true) ∧ Below w.heap.size w w' := by
  have HT := Lib.hid ht
  clear ht
  go_enter Tryz.func12, Tryz.ntmps12
  go_wp2_with fail
  refine (little_any eC w).mono ?_
  rintro e w2 ⟨rfl, hb2⟩
  have HB2 := Lib.hid hb2
  clear hb2
  go_wp2_with (go_at_call 66; fail)
  have hth : ThingsP (w2.heap.size + 1) (w2.alloc (.cells #[.int .u8 1, .int .u8 0, .bool false] 114)) (some ⟨w2.heap.size, 0, none⟩) eL := fun j hj => by
    refine ⟨w2.heap.size, 0, rfl, Nat.lt_succ_self _, ?_⟩
    match j, hj with
    | 0, _ => exact ⟨by simp [thAt, eL], by simp [thAt, eL], by simp [thAt, eL], by simp [thAt, eL], by simp [thAt, eL]⟩
  have hb3 : Below w.heap.size w (w2.alloc (.cells #[.int .u8 1, .int .u8 0, .bool false] 114)) := HB2.out.alloc HB2.out.size _
  have HB3 := Lib.hid hb3
  have HM := Lib.hid (made_any (w2.heap.size + 1) (little eC) 16 0 (some ⟨w2.heap.size, 0, none⟩) 1 eL _ (HT.out.later hb3) (little_right eC) e_n.1 e_n.2 (by decide) (by simp) hth (by simp [eL, maxLen]))
  clear hb3 hth
  refine HM.out.mono ?_
  rintro e w4 ⟨H, M, base, d, i, m, rfl, hmad⟩
  have HMD := Lib.hid hmad
  have HB4 : Hid (Below w.heap.size w w4) := Lib.hid (HB3.out.trans (hmad.bel.mono HB3.out.size))
  clear hmad HM
  go_wp2_with (go_at_call 67; fail)
  refine (Lg.new_good 2 2 rfl w4 (by decide) (by decide)).mono ?_
  rintro e w5 ⟨rfl, hN5, hb5, s5⟩
  have HN5 := Lib.hid hN5
  have HB5 := Lib.hid hb5
  have HZ5 := Lib.hid s5
  clear hN5 hb5 s5
  go_wp2_with (go_at_call 68; fail)
  refine (Lg.box_new w5).mono ?_
  rintro e w6 ⟨rfl, hN6, hb6, s6⟩
  have HN6 := Lib.hid hN6
  have HB6 := Lib.hid hb6
  have HZ6 := Lib.hid s6
  clear hN6 hb6 s6
  have hg : ∀ k, Mine H d k → w.heap.size ≤ k := fun k hk => by
    have h1 := HMD.out.g1 k hk
    have h2 := HB3.out.size
    omega
  have HPB : Hid (Pb w (w6.alloc (.cells #[.bool false] 119)) H d eS m w4.heap.size w5.heap.size w6.heap.size 2 [] [] false) :=
    Lib.hid (pb_new HMD.out.bo.is HT.out hg HB4.out HB5.out HB6.out ((Below.refl _ _).alloc (Nat.le_refl _) _) HZ5.out HZ6.out HN5.out HN6.out (by simp) (by simp))
  clear hg
  go_wp2_with (go_at_call 14; fail)
  refine (new_any HPB.out).mono ?_
  rintro e w8 ⟨rfl, hn⟩
  generalize w4.heap.size = B at *
  generalize w5.heap.size = X at *
  generalize w6.heap.size = F at *
  generalize (w6.alloc (.cells #[.bool false] 119)).heap.size = N at *
  have hsk : nSkip 1 eS 1 = False := by
    unfold nSkip
    rw [e_obj.1, e_obj.2]
    simp
  have HNO := Lib.hid (note_any 1 1 0 ⟨fun _ => True, fun V => ∃ d', Nb ⟨w, fun _ => False, fun _ => False⟩ V H d' eS m B X F N 2 [1] [] false []⟩ (fun _ _ _ _ _ _ _ => trivial) .nilFunc (.inl rfl) [] [] d eS false [] w8 hn (fun V d' h => ⟨rfl, d', by
    have hs : ¬ nSkip 1 eS 1 := by rw [hsk]; exact fun e => e
    unfold nS nX nY nU at h
    rw [if_neg hs, if_neg hs, if_neg hs, if_neg hs, if_pos (by simp), if_pos (by simp), if_pos (by simp), if_pos (by simp)] at h
    exact h⟩))
  have ek : nK 1 eS 1 2 [] [] + 0 = 1 := by
    have hs : ¬ nSkip 1 eS 1 := by rw [hsk]; exact fun e => e
    unfold nK
    rw [if_neg (by decide), if_neg hs, if_pos (by simp)]
  rw [ek] at HNO
  clear hn hsk ek
  go_wp2_with (go_at_call 19; fail)
  refine HNO.out.mono ?_
  rintro e w9 ⟨u, rfl, hd⟩
  have HR := Lib.hid (run_any _ 1 9 u w9 hd (by decide) (by decide))
  clear hd HNO
  go_wp2_with (go_at_call 18; fail)
  refine HR.out.mono ?_
  rintro e w10 ⟨rfl, d2, hn2⟩
  have HN2 := Lib.hid hn2
  clear hn2 HR
  obtain ⟨T, hT⟩ := HN2.out.lg
  have HA := Lib.hid (Lg.all_any w10 hT.1)
  clear hT
  go_wp2_with (go_at_call 16; fail)
  refine HA.out.mono ?_
  rintro e w11 ⟨pa, ca, rfl, hrd, hb11⟩
  have HRD := Lib.hid hrd
  have HB11 : Hid (Below w.heap.size w w11) := Lib.hid ((HN2.out.bel.below (fun _ e => e.elim) (Nat.le_refl _)).trans (hb11.mono HN2.out.bel.size))
  clear hrd hb11 HA
  go_wp2_with (go_at_call 24; fail)
  have hq : Rd (w11.alloc (.cells #[.int .i64 1] 3)) (some ⟨w11.heap.size, 0, none⟩) [1] := by
    refine .inr ⟨w11.heap.size, 0, rfl, fun j hj => ?_⟩
    obtain rfl : j = 0 := by simp at hj; omega
    simp
  have HS := Lib.hid (Row.same_any pa (some ⟨w11.heap.size, 0, none⟩) ca 1 [1] _ (HRD.out.later ((Below.refl w11.heap.size w11).alloc (Nat.le_refl _) (.cells #[.int .i64 1] 3))) hq (by simp))
  have HB12 := Lib.hid (HB11.out.alloc HB11.out.size (.cells #[.int .i64 1] 3))
  clear hq
  refine HS.out.mono ?_
  rintro e w12 ⟨rfl, q, rfl⟩
  have HB13 := Lib.hid (below_drewN HB12.out q)
  go_wp2_with fail
  go_ret
  exact ⟨rfl, HB13.out⟩
end Go.Proofs.YtkfgchhlekdpgaaGreatDoor.Nt
