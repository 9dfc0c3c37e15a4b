/-
  What the laws look at beside a noter.
-/
import Derived.Test.YtkfgchhlekdpgaaGreatDoorNtO
namespace Go.Proofs.YtkfgchhlekdpgaaGreatDoor.Nt
open Go.RowKit
open Class (below_drewN)
open Hp (Ids St Is To Mine bnI bn coE coV colB objL st0)
open Lg (BfIs BxIs)
open Go.Proofs.YtkfgchhlekdpgaaGreatDoor.Row (Chg rowB Rd Rd0)
open Go.Proofs.YtkfgchhlekdpgaaGreatDoor.Addr (Tabs)

theorem Og.of {w : World} {H : Nat} {d : Ids} {s : St} {m : Nat} (h : Is w H d s m) : Og s := by
  refine ⟨h.ones.row, fun x hx => ?_⟩
  unfold bnI at hx
  simp only [Bool.and_eq_true, decide_eq_true_eq] at hx
  have := (h.wf.bn_bd hx.2).2
  omega
theorem obj_mem {w : World} {H : Nat} {d : Ids} {s : St} {m : Nat} (h : Is w H d s m) {x : Int} : x ∈ objL s ↔ bnI s x = true := by
  have hk : ∀ j, Blk.kAt s.ks j < 4 := fun j => h.tb.kLt j
  unfold objL
  rw [Hp.pkA_eq, List.mem_filter, Hp.mem_allP h.wf hk]
  exact ⟨fun h => h.2, fun h2 => ⟨h.wf.bnI_own h2, h2⟩⟩
theorem obj_le {s : St} {c : Blk.Cfg} (h : Sw.Sm s c) : (objL s).length ≤ 1000 := by
  have h1 := Hp.objL_len (s := s)
  have h2 := h.ks
  omega
theorem objL_bn {s : St} {a : Int} (h : a ∈ objL s) : bnI s a = true := by
  unfold objL at h
  rw [Hp.pkA_eq, List.mem_filter] at h
  exact h.2
theorem addL_mem {r : Nat} {acc : List Int} {v x : Int} (h : x ∈ addL r acc v) : x ∈ acc ∨ x = v := by
  unfold addL at h
  split at h
  · simpa using h
  · exact .inl h
theorem addsL_mem {r : Nat} {al : List Int} {zs : List Nat} {x : Int} (h : x ∈ addsL r al zs) : x ∈ al := by
  unfold addsL at h
  split at h
  · cases h
  · rename_i hne
    have hp : 0 < al.length := List.length_pos_iff.2 hne
    have key : ∀ (l : List Nat) (acc : List Int), (∀ y ∈ acc, y ∈ al) → ∀ y ∈ l.foldl (fun acc z => addL r acc (pkV al z)) acc, y ∈ al := by
      intro l
      induction l with
      | nil => intro acc ha y hy; exact ha y hy
      | cons z q ih =>
        intro acc ha y hy
        refine ih _ (fun y hy => ?_) y hy
        rcases addL_mem hy with h1 | rfl
        · exact ha y h1
        · unfold pkV
          have hz := Nat.mod_lt z hp
          rw [List.getD_eq_getElem?_getD, List.getElem?_eq_getElem hz]
          exact List.getElem_mem hz
    exact key zs [] (fun y hy => by cases hy) x h
theorem addsL_len {r : Nat} {al : List Int} {zs : List Nat} : (addsL r al zs).length ≤ r := by
  unfold addsL
  split
  · simp
  · have key : ∀ (l : List Nat) (acc : List Int), acc.length ≤ r → (l.foldl (fun acc z => addL r acc (pkV al z)) acc).length ≤ r := by
      intro l
      induction l with
      | nil => intro acc ha; exact ha
      | cons z q ih => intro acc ha; exact ih _ (addL_le ha)
    exact key zs [] (Nat.zero_le _)
section
variable {w : Bas} {wr : World} {H : Nat} {d : Ids} {s : St} {m B X F N room : Nat} {xs ys : List Int} {up : Bool} {ex : List (Nat × Value)}
set_option maxRecDepth 100000 in
theorem nb_all (h : Nb w wr H d s m B X F N room xs ys up ex) : Calls Tryz.prog 16 #[.pointer (some ⟨B, 0, none⟩)] wr fun e w' => ∃ p cap, e = .returned (.slice p xs.length cap) ∧ Rd w' p xs ∧ Below wr.heap.size wr w' ∧ ∀ g, rowB p g → wr.heap.size ≤ g := by
  obtain ⟨T, t1, _⟩ := h.lg
  obtain ⟨p, cap, hr⟩ := t1.row
  have hc := hr.c
  have HR := Lib.hid (Row.clone_any p xs wr (by have := hr.len; omega) hr.nc hr.rd)
  clear h hr t1
  go_enter Tryz.func16, Tryz.ntmps16
  go_wp2_with (first
    | go_enter Tryz.func71, Tryz.ntmps71
    | (go_at_call 101; refine HR.out.mono ?_; rintro e w' ⟨p', cap', rfl, ho, hb⟩))
  go_ret
  exact ⟨p', cap', rfl, Rd.of_owns ho, hb, fun g hg => (Row.owns_lt ho hg).1⟩
theorem nb_blen (h : Nb w wr H d s m B X F N room xs ys up ex) : Calls Tryz.prog 17 #[.pointer (some ⟨X, 0, none⟩)] wr fun e w' => e = .returned (.int .i64 ys.length) ∧ Below wr.heap.size wr w' := by
  obtain ⟨T, _, t2, _⟩ := h.lg
  refine (Lg.blen_any wr t2).mono fun e w' h => ⟨h.1, ?_⟩
  first | (obtain ⟨_, q, rfl⟩ := h; exact below_drewN (Below.refl _ _) q) | (obtain ⟨_, rfl⟩ := h; exact Below.refl _ _)
theorem nb_up (h : Nb w wr H d s m B X F N room xs ys up ex) : Calls Tryz.prog 25 #[.pointer (some ⟨F, 0, none⟩)] wr fun e w' => e = .returned (.bool up) ∧ Below wr.heap.size wr w' := by
  have c0 := h.fl
  clear h
  have HR0 := Lib.hid (Below.refl wr.heap.size wr)
  have HR1 := Lib.hid (Below.refl wr.heap.size wr).drew
  go_enter Tryz.func25, Tryz.ntmps25
  cases up
  · go_wp2_with fail
    go_ret
    exact ⟨rfl, HR0.out⟩
  · go_wp2_with fail
    go_ret
    exact ⟨rfl, HR0.out⟩
end
end Go.Proofs.YtkfgchhlekdpgaaGreatDoor.Nt
