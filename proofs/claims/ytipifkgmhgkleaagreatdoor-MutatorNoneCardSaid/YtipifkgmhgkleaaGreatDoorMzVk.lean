/-
  Texts one behind the other: Mvg Mvh Mvi Mvj Mvk Mvl (theorems that nobody names are left out).
-/
import Derived.Test.YtipifkgmhgkleaaGreatDoorMzVj
import Derived.Laws.AppendOwn
namespace Go.Proofs.YtipifkgmhgkleaaGreatDoor.Mv
open Go.RowKit
open Hp (Ids St Is To Mine bnI coE coV fE fN lV lE sE stS ccE cV scE scS puE puS beE beS baE baS asS colB)
open Rf (paE paF paS)
open Mu (Sy Sd Ml Md lt_of_cell O4 CellsL mutA)
open Go.Proofs.YtipifkgmhgkleaaGreatDoor.Row (Chg rowB Rd)
/-- A mutator's own step. -/
def mutK : K → Bool
  | .fail _ => true
  | .object _ _ _ => true
  | .take _ _ => true
  | .safe => true
  | .lay _ _ => true
  | .over _ _ _ => true
  | .slotA _ _ => true
  | .slotR _ _ => true
  | .assign _ _ => true
  | .late _ _ => true
  | .sdone _ _ => true
  | .put _ _ _ => true
  | .begin _ _ => true
  | .blank _ _ _ => true
  | .ans _ => true
  | .note _ _ _ => true
  | .add _ _ => true
  | .pour _ _ => true
  | .paint _ _ _ => true
  | .raise _ => true
  | _ => false
theorem Ls.enters {O : Nat → Nat} {w : World} {a N : Nat} {q : K} {v : Value} (hq : mutK q = true) (h : Ls O w a N q v) : ∃ f cap, v = fn f cap ∧ ∀ args V, (callFunc f args).run Tryz.prog V = .ok (.enter f args) V := by
  cases q
  case fail => obtain ⟨_, _, e, _⟩ := h; exact ⟨_, _, e, enters_of Tryz.func112 (by kernel_rfl) rfl⟩
  case object => obtain ⟨_, _, _, _, _, e, _⟩ := h; exact ⟨_, _, e, enters_of Tryz.func253 (by kernel_rfl) rfl⟩
  case take => obtain ⟨_, _, _, _, e, _⟩ := h; exact ⟨_, _, e, enters_of Tryz.func255 (by kernel_rfl) rfl⟩
  case safe => obtain ⟨_, e, _⟩ := h; exact ⟨_, _, e, enters_of Tryz.func212 (by kernel_rfl) rfl⟩
  case lay => obtain ⟨_, _, _, _, e, _⟩ := h; exact ⟨_, _, e, enters_of Tryz.func259 (by kernel_rfl) rfl⟩
  case over => obtain ⟨_, _, _, _, _, _, e, _⟩ := h; exact ⟨_, _, e, enters_of Tryz.func260 (by kernel_rfl) rfl⟩
  case slotA => obtain ⟨_, _, _, _, _, _, _, _, _, e, _⟩ := h; exact ⟨_, _, e, enters_of Tryz.func241 (by kernel_rfl) rfl⟩
  case slotR => obtain ⟨_, _, _, _, _, e, _⟩ := h; exact ⟨_, _, e, enters_of Tryz.func241 (by kernel_rfl) rfl⟩
  case assign => obtain ⟨_, _, _, _, _, e, _⟩ := h; exact ⟨_, _, e, enters_of Tryz.func250 (by kernel_rfl) rfl⟩
  case late => obtain ⟨_, _, _, _, e, _⟩ := h; exact ⟨_, _, e, enters_of Tryz.func244 (by kernel_rfl) rfl⟩
  case sdone => obtain ⟨_, _, _, e, _⟩ := h; exact ⟨_, _, e, enters_of Tryz.func248 (by kernel_rfl) rfl⟩
  case put => obtain ⟨_, _, _, _, _, _, _, e, _⟩ := h; exact ⟨_, _, e, enters_of Tryz.func296 (by kernel_rfl) rfl⟩
  case begin => obtain ⟨_, _, _, e, _⟩ := h; exact ⟨_, _, e, enters_of Tryz.func285 (by kernel_rfl) rfl⟩
  case blank => obtain ⟨_, _, _, _, e, _⟩ := h; exact ⟨_, _, e, enters_of Tryz.func318 (by kernel_rfl) rfl⟩
  case ans => obtain ⟨_, _, _, _, e, _⟩ := h; exact ⟨_, _, e, enters_of Tryz.func239 (by kernel_rfl) rfl⟩
  case note => obtain ⟨_, _, _, _, _, _, e, _⟩ := h; exact ⟨_, _, e, enters_of Tryz.func232 (by kernel_rfl) rfl⟩
  case add => obtain ⟨_, _, _, _, e, _⟩ := h; exact ⟨_, _, e, enters_of Tryz.func230 (by kernel_rfl) rfl⟩
  case pour => obtain ⟨_, _, _, _, e, _⟩ := h; exact ⟨_, _, e, enters_of Tryz.func236 (by kernel_rfl) rfl⟩
  case paint => obtain ⟨_, _, _, _, _, e, _⟩ := h; exact ⟨_, _, e, enters_of Tryz.func278 (by kernel_rfl) rfl⟩
  case raise => obtain ⟨_, _, _, e, _⟩ := h; exact ⟨_, _, e, enters_of Tryz.func281 (by kernel_rfl) rfl⟩
  all_goals cases hq
def wnx (m : Md) (v : Value) : Md := { m with nx := v }
/-- A mutator beside what is shared, whatever closure its step is. -/
def Alx (O : Nat → Nat) (w : World) (y : Sy) (n nb : Nat) (x : Sd) (z : Ml) (m : Md) (q : Option K) : Prop := ∃ v, Al O w y n nb x z (wnx m v) q
/-- A pick turns the one state to the other. -/
def Stp (z : Ml) (y : Sy) (n nb : Nat) (x : Sd) (m : Md) (q : Option K) (x' : Sd) (m' : Md) (q' : Option K) : Prop :=
  ∀ O w, Alx O w y n nb x z m q → Calls Tryz.prog 13 #[.pointer (some ⟨z.M, 0, none⟩)] w fun e w' =>
    e = .returned (.tuple #[.agg #[.int .i64 (m'.ev 0), .int .i64 (m'.ev 1), .int .i64 (m'.ev 2), .int .i64 (m'.ev 3), .int .i64 (m'.ev 4), .int .i64 (m'.ev 5)], .bool (m'.ev 2 != 0)]) ∧
      ∃ O', Mv (Pm z.id) O O' w w' ∧ Alx O' w' y n nb x' z m' q'
/-- What a pick may count on. -/
structure Gd (z : Ml) (n nb : Nat) (m : Md) : Prop where
  n : z.id < n
  nb : z.id < nb
  t0 : 0 ≤ m.tk
  t1 : m.tk ≤ 1000000
  id : z.id < 2996
def tick (m : Md) : Md := { m with ev := fun _ => 0, tk := m.tk + 1 }
def tick1 (m : Md) : Md := { m with ev := fun _ => 0, tk := 1 }
section
variable {z : Ml} {sy : Sy} {n n' nb : Nat} {x x' : Sd} {m m' : Md} {q' : Option K}
theorem stp_busy {q : K} (hq : mutK q = true) (hg : Gd z n nb m)
    (HS : ∀ (b : Ba) (W : World) (v nx : Value), Fits b z → b.y = sy → Cx b (mxR b.y z (wnx (tick m) nx)) W x [] [(q, v)] → ∃ f cap, v = fn f cap ∧ Calls Tryz.prog f cap W fun e w' => ∃ v', e = .returned v' ∧ Out b z w' x' (wnx m' nx) q' v') :
    Stp z sy n nb x m (some q) x' m' q' := by
  rintro O w ⟨v0, h⟩
  refine (pick_busy (m := wnx m v0) (m' := wnx m' v0) (x' := x') (q' := q') rfl h hg.n hg.nb hg.t0 hg.t1 hg.id (fun b W v hf hyS _ _ hx => ?_)).mono ?_
  · obtain ⟨f, cap, hv, hc⟩ := HS b W v v0 hf hyS hx
    obtain ⟨O', d, ps, cs, hcx⟩ := hx
    obtain ⟨f', cap', hv', he⟩ := Ls.enters hq (hcx.Q _ (List.mem_singleton.2 rfl))
    have e : fn f cap = fn f' cap' := hv.symm.trans hv'
    cases e
    exact ⟨f, cap, hv, he _, hc⟩
  · rintro e w' ⟨rfl, O', v', hm, ha⟩
    exact ⟨rfl, O', hm, v', ha⟩
theorem stp_first (hg : Gd z n nb m)
    (HS : ∀ (b : Ba) (W : World) (nx : Value), Fits b z → b.y = sy → b.P = Pi z.id → Cx b (mxR b.y z (wnx (tick1 m) nx)) W x [] [] → Calls Tryz.prog 49 #[.pointer (some ⟨z.M, 0, none⟩)] W fun e w' => ∃ v', e = .returned v' ∧ Out b z w' x' (wnx m' nx) q' v') :
    Stp z sy n nb x m none x' m' q' := by
  rintro O w ⟨v0, h⟩
  refine (pick_first (m := wnx m v0) (m' := wnx m' v0) (x' := x') (q' := q') rfl h hg.n hg.nb hg.id (fun b W hf hyS _ _ hP hx => HS b W v0 hf hyS hP hx)).mono ?_
  rintro e w' ⟨rfl, O', v', hm, ha⟩
  exact ⟨rfl, O', hm, v', ha⟩
/-- Nothing is to be done. -/
theorem sp_none (hg : Gd z n nb m) (how : x.ow z.id = false) (hle : m.pg.length ≤ m.rs.length) : Stp z sy n nb x m none x (tick1 m) none :=
  stp_first hg fun _ _ _ hf _hyS _ hx => (first_none hx hf how hle).mono fun _ _ ⟨e, h⟩ => ⟨_, e, rfl, h⟩
/-- An operation begins. -/
theorem sp_op (o : O4) (hz : o.1 = 1 → Tz sy) (hg : Gd z n nb m) (hr : x.s.c.r = (m.rg.length : Int)) (hl64 : m.rg.length ≤ 64) (how : x.ow z.id = false) (ho : m.pg[m.rs.length]? = some o) (hp : m.pg.length ≤ 100000) : Stp z sy n nb x m none x (tick1 m) (some (opK x (tick1 m) o)) :=
  stp_first hg fun _ _ _ hf hyS _ hx => (first_op o (fun e => by rw [hyS]; exact hz e) hx hf hr hl64 how ho hp).mono fun _ _ ⟨g, c2, e, h⟩ => ⟨_, e, ⟨g, c2, rfl⟩, h⟩
theorem sp_take (r : Int) (rd : Rk) (n : Nat) (hE : rkE x m rd = 0) (hr : r = (n : Nat)) (hn : n < m.rg.length) (hok : rkOk sy m rd) (hl64 : m.rg.length ≤ 64) (hmm : x.m < 800000) (hlen : m.rs.length ≤ 100000) (hg : Gd z n' nb m) : Stp z sy n' nb x m (some (K.take r rd)) (rkX x m rd) (endM z.id { (tick m) with rg := (tick m).rg.set n (rkV x (tick m) rd) } (rkV x (tick m) rd) 0) (none) :=
  stp_busy rfl hg fun _ _ _ nx hf hyS hcx => st_take (m := wnx (tick m) nx) r rd n hE hr hn (by rw [hyS]; exact hok) hl64 hmm hf hlen hcx (List.mem_singleton.2 rfl)
theorem sp_slotA (k : Nat) (o : O4) {a : Nat} {l : List Nat} (hk : k < 4) (he : x.s.hv k = a :: l) (hg : Gd z n' nb m) : Stp z sy n' nb x m (some (K.slotA k o)) (hp x { x.s with hv := Lis.upd x.s.hv k l } x.m) ((tick m)) (some (.begin a o)) :=
  stp_busy rfl hg fun _ _ _ nx hf _hyS hcx => st_slotA (m := wnx (tick m) nx) k o hk he hf hcx (List.mem_singleton.2 rfl)
theorem sp_slotA_none (k : Nat) (o : O4) (hk : k < 4) (he : x.s.hv k = []) (hg : Gd z n' nb m) : Stp z sy n' nb x m (some (K.slotA k o)) (x) ((tick m)) (some (.assign k o)) :=
  stp_busy rfl hg fun _ _ _ nx hf _hyS hcx => st_slotA_none (m := wnx (tick m) nx) k o hk he hf hcx (List.mem_singleton.2 rfl)
theorem sp_begin (y : Int) (o : O4) (hz : Tz sy) (hmm : x.m < 800000) (hg : Gd z n' nb m) : Stp z sy n' nb x m (some (K.begin y o)) (hp x (beX x.s y o.2.2.1) (x.m + 1)) ((tick m)) (some (blankK y 0 o)) :=
  stp_busy rfl hg fun _ _ _ nx hf hyS hcx => st_begin (m := wnx (tick m) nx) y o (by rw [hyS]; exact hz) hmm hf hcx (List.mem_singleton.2 rfl)
theorem sp_blank (y : Int) (n : Nat) (o : O4) (hz : Tz sy) (hmm : x.m < 800000) (hf15 : n ≤ 100) (hg : Gd z n' nb m) : Stp z sy n' nb x m (some (K.blank y n o)) (hp x (stX x.s y n 0) (x.m + 2)) ((tick m)) (some (blankK y (n + 1) o)) :=
  stp_busy rfl hg fun _ _ _ nx hf hyS hcx => st_blank (m := wnx (tick m) nx) y n o (by rw [hyS]; exact hz) hmm hf15 hf hcx (List.mem_singleton.2 rfl)
theorem sp_put (sl : List Int) (y : Int) (o : O4) (n : Nat) {av : Int} {s2 : List Int} (hz : Tz sy) (hsl : sl.length = n + 1) (hav : sl.getD n 0 = av) (hs2 : sl.take n = s2) (hn : n ≤ 1000) (hmm : x.m < 800000) (hg : Gd z n' nb m) : Stp z sy n' nb x m (some (K.put sl y o)) (hp x (puX x.s av) (x.m + 1)) ((tick m)) (some (putK s2 y o)) :=
  stp_busy rfl hg fun _ _ _ nx hf hyS hcx => st_put (m := wnx (tick m) nx) sl y o n (by rw [hyS]; exact hz) hsl hav hs2 hn hmm hf hcx (List.mem_singleton.2 rfl)
theorem sp_assign (k : Nat) (o : O4) {a0 : Int} {al : List Int} {N : Nat} (hz : Tz sy) (hk : k < 4) (hfr : (x.s.ks.length : Int) < x.s.c.b) (hal : asL x.s k = a0 :: al) (hN : al.length = N) (hN2 : N ≤ 1000) (hg : Gd z n' nb m) : Stp z sy n' nb x m (some (K.assign k o)) (hp x (asS x.s k) x.m) ((tick m)) (some (putK al a0 o)) :=
  stp_busy rfl hg fun _ _ _ nx hf hyS hcx => st_assign (m := wnx (tick m) nx) k o (by rw [hyS]; exact hz) hk hfr hal hN hN2 hf hcx (List.mem_singleton.2 rfl)
/-- What an answer leaves of a mutator. -/
def ansM (m : Md) (t : An) : Md := { anM m t with man := max (anM m t).man (anM m t).tk }
end
end Go.Proofs.YtipifkgmhgkleaaGreatDoor.Mv

namespace Go.Proofs.YtipifkgmhgkleaaGreatDoor.Mv
open Go.RowKit
open Hp (Ids St Is To Mine bnI coE coV fE fN lV lE sE stS ccE cV scE scS puE puS beE beS baE baS asS colB st0)
open Mu (Sy Sd Ml Md lt_of_cell O4 CellsL mutA sd0 md0)
open Go.Proofs.YtipifkgmhgkleaaGreatDoor.Row (Chg rowB Rd)
def rkB (m : Md) : Rk → Bool
  | .move o => decide (0 ≤ o.2.2.1 ∧ o.2.2.1 < (m.rg.length : Int))
  | _ => true
/-- The next state, of the picks of an alloc that finds a block, and of a move. -/
def nxA (id : Nat) (x : Sd) (m : Md) : Option K → Option (Sd × Md × Option K)
  | none => if x.ow id = false then match m.pg[m.rs.length]? with
      | some o => if x.s.c.r = (m.rg.length : Int) ∧ m.pg.length ≤ 100000 then some (x, tick1 m, some (opK x (tick1 m) o)) else none
      | none => some (x, tick1 m, none)
    else none
  | some (.slotA k o) => if k < 4 then match x.s.hv k with
      | [] => some (x, tick m, some (.assign k o))
      | a :: l => some (hp x { x.s with hv := Lis.upd x.s.hv k l } x.m, tick m, some (.begin a o))
    else none
  | some (.assign k o) => if k < 4 ∧ (x.s.ks.length : Int) < x.s.c.b then match asL x.s k with
      | a0 :: al => if al.length ≤ 1000 then some (hp x (asS x.s k) x.m, tick m, some (putK al a0 o)) else none
      | [] => none
    else none
  | some (.put sl y o) => if sl.length ≤ 1000 ∧ 1 ≤ sl.length then some (hp x (puX x.s (sl.getD (sl.length - 1) 0)) (x.m + 1), tick m, some (putK (sl.take (sl.length - 1)) y o)) else none
  | some (.begin y o) => some (hp x (beX x.s y o.2.2.1) (x.m + 1), tick m, some (blankK y 0 o))
  | some (.blank y n o) => if n ≤ 100 then some (hp x (stX x.s y n 0) (x.m + 2), tick m, some (blankK y (n + 1) o)) else none
  | some (.take r rd) => if rkE x m rd = 0 ∧ 0 ≤ r ∧ r.toNat < m.rg.length ∧ rkB m rd = true then some (rkX x m rd, endM id (tick { m with rg := m.rg.set r.toNat (rkV x m rd) }) (rkV x m rd) 0, none) else none
  | _ => none
/-- What a pick may count on, as it is reckoned. -/
def okA (x : Sd) (m : Md) : Bool := decide (0 ≤ m.tk ∧ m.tk ≤ 1000000 ∧ m.rs.length ≤ 100000 ∧ m.rg.length ≤ 64 ∧ x.m < 800000)
section
variable {z : Ml} {sy : Sy} {n nb : Nat}
theorem nxA_stp (hT : Tz sy) (hn : z.id < n) (hnb : z.id < nb) (hid : z.id < 2996) {x x' : Sd} {m m' : Md} {q q' : Option K} (hk : okA x m = true) (h : nxA z.id x m q = some (x', m', q')) : Stp z sy n nb x m q x' m' q' := by
  obtain ⟨a1, a2, a3, a4, a5⟩ := of_decide_eq_true hk
  have hg : Gd z n nb m := ⟨hn, hnb, a1, a2, hid⟩
  cases q with
  | none =>
    simp only [nxA] at h
    split at h
    case isTrue how =>
      split at h
      case h_1 o ho =>
        split at h
        case isTrue hc => cases h; exact sp_op o (fun _ => hT) hg hc.1 a4 how ho hc.2
        case isFalse => cases h
      case h_2 ho =>
        cases h
        exact sp_none hg how (by rw [List.getElem?_eq_none_iff] at ho; exact ho)
    case isFalse => cases h
  | some q =>
    cases q
    case slotA k o =>
      simp only [nxA] at h
      split at h
      case isTrue hk4 =>
        split at h
        case h_1 he => cases h; exact sp_slotA_none k o hk4 he hg
        case h_2 a l he => cases h; exact sp_slotA k o hk4 he hg
      case isFalse => cases h
    case assign k o =>
      simp only [nxA] at h
      split at h
      case isTrue hc =>
        split at h
        case h_1 a0 al he =>
          split at h
          case isTrue hl => cases h; exact sp_assign k o hT hc.1 hc.2 he rfl hl hg
          case isFalse => cases h
        case h_2 => cases h
      case isFalse => cases h
    case put sl y o =>
      simp only [nxA] at h
      split at h
      case isTrue hc => cases h; exact sp_put sl y o (sl.length - 1) hT (by omega) rfl rfl (by omega) a5 hg
      case isFalse => cases h
    case begin y o => simp only [nxA] at h; cases h; exact sp_begin y o hT a5 hg
    case blank y k o =>
      simp only [nxA] at h
      split at h
      case isTrue hc => cases h; exact sp_blank y k o hT a5 hc hg
      case isFalse => cases h
    case take r rd =>
      simp only [nxA] at h
      split at h
      case isTrue hc =>
        cases h
        refine sp_take r rd r.toNat hc.1 (by omega) hc.2.2.1 ?_ a4 a5 a3 hg
        have hc4 := hc.2.2.2
        cases rd <;> first | exact hT | trivial | (simp only [rkB, decide_eq_true_eq] at hc4; exact hc4)
      case isFalse => cases h
    all_goals (simp only [nxA] at h; cases h)
end
/-- So many picks, as they are reckoned. -/
def runA (id : Nat) : Nat → Sd × Md × Option K → Option (Sd × Md × Option K)
  | 0, s => some s
  | k + 1, (x, m, q) => if okA x m = true then match nxA id x m q with
      | some s => runA id k s
      | none => none
    else none
/-- The document's example: an alloc of one field, and a move. -/
def exC : Blk.Cfg := ⟨1, 16, 1, 2, 0, 1, 1⟩
def exX : Sd := sd0 exC 16 0
def exM : Md := md0 2 1 [(1, 0, 1, 0), (7, 1, 0, 0)]
def exS (k : Nat) : Option (Sd × Md × Option K) := runA 0 k (exX, exM, none)
end Go.Proofs.YtipifkgmhgkleaaGreatDoor.Mv

namespace Go.Proofs.YtipifkgmhgkleaaGreatDoor.Mv
open Go.RowKit
open Hp (Mine)
open Mu (Sy Sd Ml Md lt_of_cell ShIs MIs ownS ownM bf_tag)
open Go.Proofs.YtipifkgmhgkleaaGreatDoor.Row (Chg rowB Rd)
open Go.Proofs.YtipifkgmhgkleaaGreatDoor.Addr (Tabs)
def wtz (y : Sy) (b : Bool) : Sy := { y with tz := b }
theorem _root_.Go.Proofs.YtipifkgmhgkleaaGreatDoor.Mu.ShIs.tzd {w : World} {y : Sy} {T : Nat → Prop} {x : Sd} {n nb : Nat} (h : ShIs w y T x n nb) (b : Bool) : ShIs w (wtz y b) T x n nb :=
  ⟨h.c0, h.c1, h.c2, h.c3, h.c4, h.hp, h.bd, h.qu, h.fl, h.ff, h.bx, h.pr, h.hT, h.tl, h.nS, h.nP, h.dHB, h.dHQ, h.dF, h.dX, h.dXX⟩
theorem _root_.Go.Proofs.YtipifkgmhgkleaaGreatDoor.Mu.MIs.tzd {w : World} {y : Sy} {T : Nat → Prop} {z : Ml} {m : Md} (h : MIs w y T z m) (b : Bool) : MIs w (wtz y b) T z m :=
  ⟨h.c0, h.c1, h.c2, h.c3, h.c4, h.c5, h.c6, h.c7, h.c8, h.c9, h.c10, h.c11, h.c12, h.ce, h.c19, h.c20, h.fz, h.rg, h.rf, h.gl, h.bf, h.n0, h.n1, h.n2, h.n3, h.pg, h.pc, h.rs, h.hT, h.tN, h.tl, h.nN, h.nP, h.dMG, h.dMB, h.dGB, h.dR⟩
theorem Alx.of (tz : Bool) {w : World} {y : Sy} {T : Nat → Prop} {x : Sd} {n nb s lo : Nat} {z : Ml} {m : Md} (hsz : tz = true → Class.SizTab w) (hs : ShIs w y T x n nb) (hm : MIs w y T z m) (tS : T y.S) (tP : ∀ g, rowB y.px g → T g) (hnx : m.nx = .nilFunc)
    (h1 : ∀ k, ownM z k ∨ k = z.N ∨ rowB z.pp k → s ≤ k) (h2 : ∀ k, ownS y nb k ∨ k = y.S ∨ rowB y.px k → k < s ∧ lo ≤ k) (hgl : gl ≤ lo) (hls : lo ≤ s) (ht : LimTab w) (hsb : 9 < w.heap.size) (hf : Opr.FormTab w) : ∃ O, Alx O w (wtz y tz) n nb x z m none ∧ ∀ k, O k ≠ 0 → lo ≤ k := by
  classical
  obtain ⟨O, hO⟩ : ∃ O : Nat → Nat, O = fun k => if ownM z k then 4 + z.id else if k = z.N ∨ rowB z.pp k then 2 else if ownS y nb k then 1 else if k = y.S ∨ rowB y.px k then 2 else 0 := ⟨_, rfl⟩
  have eM : ∀ k, ownM z k → O k = 4 + z.id := fun k hk => by rw [hO]; exact if_pos hk
  have e2 : ∀ k, ¬ ownM z k → k = z.N ∨ rowB z.pp k → O k = 2 := fun k hn hk => by
    rw [hO]
    show (if ownM z k then _ else _) = 2
    rw [if_neg hn, if_pos hk]
  have far : ∀ k, k < s → ¬ ownM z k ∧ ¬ (k = z.N ∨ rowB z.pp k) := fun k hk => ⟨fun e => by have := h1 k (.inl e); omega, fun e => by have := h1 k (.inr e); omega⟩
  have eS : ∀ k, ownS y nb k → O k = 1 := fun k hk => by
    obtain ⟨a, b⟩ := far k (h2 k (.inl hk)).1
    rw [hO]
    show (if ownM z k then _ else _) = 1
    rw [if_neg a, if_neg b, if_pos hk]
  have e3 : ∀ k, ¬ ownS y nb k → k = y.S ∨ rowB y.px k → O k = 2 := fun k hn hk => by
    obtain ⟨a, b⟩ := far k (h2 k (.inr hk)).1
    rw [hO]
    show (if ownM z k then _ else _) = 2
    rw [if_neg a, if_neg b, if_neg hn, if_pos hk]
  have nz : ∀ k, O k ≠ 0 → (ownM z k ∨ k = z.N ∨ rowB z.pp k) ∨ (ownS y nb k ∨ k = y.S ∨ rowB y.px k) := fun k hk => by
    by_cases a : ownM z k
    · exact .inl (.inl a)
    by_cases b : k = z.N ∨ rowB z.pp k
    · exact .inl (.inr b)
    by_cases c : ownS y nb k
    · exact .inr (.inl c)
    by_cases d : k = y.S ∨ rowB y.px k
    · exact .inr (.inr d)
    exfalso
    apply hk
    rw [hO]
    show (if ownM z k then _ else _) = 0
    rw [if_neg a, if_neg b, if_neg c, if_neg d]
  have sub : ∀ k, O k ≠ 0 → T k := fun k hk => by
    rcases nz k hk with (a | rfl | a) | (a | rfl | a)
    · exact hm.hT k a
    · exact hm.tN
    · exact (hm.nP k a).1
    · exact hs.hT k a
    · exact tS
    · exact tP k a
  have oN : O z.N = 2 := e2 _ hm.nN (.inl rfl)
  have oPp : ∀ g, rowB z.pp g → O g = 2 := fun g hg => e2 _ (hm.nP g hg).2 (.inr hg)
  have hmi : MIs w y (fun k => O k ≠ 0) z m := { hm with
    bf := bf_tag hm.bf (fun k hk => .inl (sub k hk)) (by rw [eM _ (.inr (.inr (.inl rfl)))]; omega)
    hT := fun k hk => by rw [eM k hk]; omega
    tN := by rw [oN]; omega
    tl := fun k hk => hm.tl k (sub k hk)
    nP := fun g hg => ⟨by rw [oPp g hg]; omega, (hm.nP g hg).2⟩ }
  have hlo : ∀ k, O k ≠ 0 → lo ≤ k := fun k hk => by
    rcases nz k hk with a | a
    · have := h1 k a; omega
    · exact (h2 k a).2
  refine ⟨O, ⟨m.nx, ⟨⟨fun k hk => hs.tl k (sub k hk), fun k hk => Nat.le_trans hgl (hlo k hk), ht, hsb, hf⟩, ⟨y.d, y.ps, y.cs, ShIs.tzd (hs.tag (fun k hk => .inl (sub k hk)) (fun k hk => ?_) (fun k hk => hs.tl k (sub k hk))) tz, eS, e3 _ hs.nS (.inl rfl), fun g hg => e3 g (hs.nP g hg) (.inr hg), fun hz => ⟨hsz hz, fun k hk => ?_⟩⟩, ⟨z.pr, z.cr, hmi.tzd tz, eM, oN, oPp⟩, hnx⟩⟩, hlo⟩
  · show O k ≠ 0
    rw [eS k hk]; omega
  · exact Classical.byContradiction fun e => by have := hlo k e; unfold gl at hgl; omega
end Go.Proofs.YtipifkgmhgkleaaGreatDoor.Mv

namespace Go.Proofs.YtipifkgmhgkleaaGreatDoor.Mv
open Go.RowKit
open Hp (Ids Mine)
open Mu (Sy Sd Ml Md lt_of_cell ShIs MIs O4 OpsR cellsO ownS ownM sd0 md0 share_anyT mnew_any mdone_yes mdone_no)
open Blk (Cfg little little_any)
open Go.Proofs.YtipifkgmhgkleaaGreatDoor.Row (Chg rowB Rd)
open Go.Proofs.YtipifkgmhgkleaaGreatDoor.Addr (Tabs)
theorem Alx.later {O : Nat → Nat} {w w' : World} {y : Sy} {n nb : Nat} {x : Sd} {z : Ml} {m : Md} {q : Option K} (h : Alx O w y n nb x z m q) (hb : Below w.heap.size w w') : Alx O w' y n nb x z m q := by
  obtain ⟨v, hok, ⟨d, ps, cs, hsx⟩, ⟨p, c, hmx⟩, hnx⟩ := h
  have hm : Mv (fun _ => False) O O w w' := Mv.later hok hb
  refine ⟨v, hok.mv hm id, ⟨d, ps, cs, hsx.mv hm id id id⟩, ⟨p, c, hmx.mv hm id id id⟩, ?_⟩
  cases q with
  | none => exact hnx
  | some q => exact ⟨hnx.1, Ls.mv hm id _ _ hnx.2⟩
theorem Alx.done {O : Nat → Nat} {w : World} {y : Sy} {n nb : Nat} {x : Sd} {z : Ml} {m : Md} {q : Option K} (h : Alx O w y n nb x z m q) :
    Calls Tryz.prog 22 #[.pointer (some ⟨z.M, 0, none⟩)] w fun e w' => e = .returned (.bool (q.isNone && decide (m.rs.length = m.pg.length))) ∧ ∃ k, w' = w.drewN k := by
  obtain ⟨v, _, _, ⟨p, c, hmx⟩, hnx⟩ := h
  cases q with
  | none => exact (mdone_no w hmx.mi hnx).mono fun _ _ hq => hq
  | some q => exact (mdone_yes w hmx.mi hnx.1).mono fun _ _ hq => hq
/-- So many picks of the example. -/
theorem ex_step {z : Ml} {sy : Sy} (hT : Tz sy) (hz : z.id = 0) {k : Nat} {x x' : Sd} {m m' : Md} {q q' : Option K} (h : exS k = some (x, m, q)) (h' : exS (k + 1) = some (x', m', q')) : Stp z sy 1 1 x m q x' m' q' := by
  have e : ∀ (k : Nat) (s : Sd × Md × Option K), runA 0 (k + 1) s = (runA 0 k s).bind fun s => runA 0 1 s := by
    intro k
    induction k with
    | zero => intro s; rfl
    | succ k ih =>
      rintro ⟨x, m, q⟩
      rw [runA]
      split
      · split
        · rw [ih]; rename_i hs; conv => rhs; rw [runA]
          simp [*]
        · conv => rhs; rw [runA]
          simp [*]
      · conv => rhs; rw [runA]
        simp [*]
  unfold exS at h h'
  rw [e, h] at h'
  simp only [Option.bind_some, runA] at h'
  split at h'
  case isTrue hok =>
    split at h'
    case h_1 s hs => cases h'; exact nxA_stp hT (by omega) (by omega) (by omega) hok (by rw [hz]; exact hs)
    case h_2 => cases h'
  case isFalse => cases h'
end Go.Proofs.YtipifkgmhgkleaaGreatDoor.Mv

namespace Go.Proofs.YtipifkgmhgkleaaGreatDoor.Mv
open Go.RowKit
open Mu (Sy Sd Ml Md owns_cellN own_none lt_of_cell)
open Go.Proofs.YtipifkgmhgkleaaGreatDoor.Row (Chg rowB rowB_none other same cell_of_block frozen_of_block owns_lt owns_chg owns_cell owns_slice info_parts)
/-- A result. -/
abbrev R2 := Int × Int
def r2C (x : R2) : List Value := [.int .i64 x.1, .int .i64 x.2]
def cells2 (l : List R2) : List Value := l.flatMap r2C
theorem r2C_len (x : R2) : (r2C x).length = 2 := rfl
theorem cells2_len (l : List R2) : (cells2 l).length = l.length * 2 := by
  induction l with
  | nil => rfl
  | cons x l ih => simp only [cells2, List.flatMap_cons, List.length_append, List.length_cons] at ih ⊢; rw [ih, r2C_len]; omega
theorem infoRs : (Tryz.prog.info? 110).map (fun i => (i.zero, i.size, i.bytes)) = some (some (.agg #[.int .i64 0, .int .i64 0]), 2, 16) := by kernel_rfl
/-- Results that can be read. -/
def ResR (w : World) (p : Option Addr) (l : List R2) : Prop := (p = none ∧ l = []) ∨ ∃ g off, p = some ⟨g, off, none⟩ ∧ ∀ (j : Nat) (u : Value), (cells2 l)[j]? = some u → w.cell? ⟨g, off + j, none⟩ = some u
theorem ResR.later {w w' : World} {p : Option Addr} {l : List R2} (h : ResR w p l) (hb : Below w.heap.size w w') : ResR w' p l := by
  rcases h with h | ⟨g, off, e, hc⟩
  · exact .inl h
  · exact .inr ⟨g, off, e, fun j u hu => (hb.cell (p := ⟨g, off + j, none⟩) (lt_of_cell (hc j u hu))).trans (hc j u hu)⟩
theorem ResR.chg {S : Nat → Prop} {w w' : World} {p : Option Addr} {l : List R2} (h : ResR w p l) (hc : Chg S w w') (hS : ∀ g, rowB p g → ¬ S g) : ResR w' p l := by
  rcases h with h | ⟨g, off, e, h2⟩
  · exact .inl h
  · exact .inr ⟨g, off, e, fun j u hu => (hc.cell (p := ⟨g, off + j, none⟩) (lt_of_cell (h2 j u hu)) (hS g (by rw [e]; rfl))).trans (h2 j u hu)⟩
theorem ResR.of_owns {w : World} {base cap : Nat} {p : Option Addr} {l : List R2} (h : w.ownsRow base 110 2 (.slice p l.length cap) l.length (cells2 l)) : ResR w p l := by
  have h2 := h
  obtain ⟨_, ⟨e, hn⟩ | ⟨g, c, cur, e, r⟩⟩ := h2
  · exact .inl ⟨by injection e, List.eq_nil_of_length_eq_zero hn⟩
  · obtain rfl : p = some ⟨g, 0, none⟩ := by injection e
    exact .inr ⟨g, 0, rfl, fun j u hu => by rw [Nat.zero_add]; exact owns_cellN h j u hu⟩
set_option maxHeartbeats 2000000 in
set_option maxRecDepth 100000 in
theorem clone_res_some (g off cap : Nat) (l : List R2) (w : World) (hlen : l.length ≤ 100000) (hc : ∀ (j : Nat) (u : Value), (cells2 l)[j]? = some u → w.cell? ⟨g, off + j, none⟩ = some u) :
    Calls Tryz.prog 52 #[.slice (some ⟨g, off, none⟩) l.length cap] w fun e w' => ∃ p' cap', e = .returned (.slice p' l.length cap') ∧ w'.ownsRow w.heap.size 110 2 (.slice p' l.length cap') l.length (cells2 l) ∧ Below w.heap.size w w' := by
  obtain ⟨i0, hi, hz0, hz1, hz2⟩ := info_parts infoRs
  have q22 : ∀ (w : World) (a : Option Addr) (n c n' c' : Nat), (binOp .eql 43 (.slice a n c) (.slice none n' c')).run Tryz.prog w = .ok (.bool a.isNone) w := fun w a n c n' c' => Lib.run_eql_slice_nil w _ _ a n c n' c' Tryz.underlying43
  have A := Lib.hid hc
  clear hc
  go_enter Tryz.func52, Tryz.ntmps52
  go_wp2_with (at_builtin; refine wpList_append_own _ rfl _ _ 43 rfl w.heap.size 110 i0 (.agg #[.int .i64 0, .int .i64 0]) 2 16 Tryz.underlying43 hi hz0 hz1 hz2 rfl (by decide) _ _ _ rfl (World.ownsRow_made w #[] 0 (Nat.le_refl _) (Nat.zero_le _) rfl) ⟨g, off, none⟩ l.length cap (cells2 l) rfl ?qc1 ?qc2 ?qc3 ?qc4 ?qc5 ?qc6 ?_)
  case qc1 => exact cells2_len l
  case qc2 =>
    intro j u hj
    rw [Addr.add_lit]
    exact Lib.cell?_alloc_some _ (A.out j u hj)
  case qc3 =>
    intro u hu
    obtain ⟨x, _, hx⟩ := List.mem_flatMap.1 hu
    simp only [r2C, List.mem_cons, List.not_mem_nil, or_false] at hx
    rcases hx with rfl | rfl <;> rfl
  case qc4 => unfold maxLen; omega
  case qc5 => omega
  case qc6 => simp
  intro v' w1 hown hgrow _
  have hown : w1.ownsRow w.heap.size 110 2 v' l.length (cells2 l) := by simpa using hown
  obtain ⟨p', cap', rfl⟩ := owns_slice hown
  go_wp2
  go_ret
  refine ⟨p', cap', rfl, hown, ?_⟩
  exact ((Below.refl _ w).alloc (Nat.le_refl _) _).grown hgrow (by simp) (by intro k hk; simp [Value.ownBlock] at hk; omega)
theorem clone_res_nil (w : World) : Calls Tryz.prog 52 #[.slice none 0 0] w fun e w' => e = .returned (.slice none 0 0) ∧ w' = w := by
  have q22 : ∀ (w : World) (a : Option Addr) (n c n' c' : Nat), (binOp .eql 43 (.slice a n c) (.slice none n' c')).run Tryz.prog w = .ok (.bool a.isNone) w := fun w a n c n' c' => Lib.run_eql_slice_nil w _ _ a n c n' c' Tryz.underlying43
  go_enter Tryz.func52, Tryz.ntmps52
  go_wp2
  go_ret
  exact ⟨rfl, rfl⟩
theorem clone_res {cap : Nat} (p : Option Addr) (l : List R2) (w : World) (hlen : l.length ≤ 100000) (hp : p = none → cap = 0) (h : ResR w p l) :
    Calls Tryz.prog 52 #[.slice p l.length cap] w fun e w' => ∃ p' cap', e = .returned (.slice p' l.length cap') ∧ w'.ownsRow w.heap.size 110 2 (.slice p' l.length cap') l.length (cells2 l) ∧ Below w.heap.size w w' := by
  rcases h with ⟨rfl, rfl⟩ | ⟨g, off, rfl, hc⟩
  · rw [hp rfl]
    exact (clone_res_nil w).mono fun e w' ⟨he, hw⟩ => ⟨none, 0, he, by subst hw; exact ⟨rfl, .inl ⟨rfl, rfl⟩⟩, hw ▸ Below.refl _ _⟩
  · exact clone_res_some g off cap l w hlen hc

set_option maxRecDepth 100000 in
/-- Results. -/
theorem Alx.results {O : Nat → Nat} {w : World} {y : Sy} {n nb : Nat} {x : Sd} {z : Ml} {m : Md} {q : Option K} (h : Alx O w y n nb x z m q) (hl : m.rs.length ≤ 100000) :
    Calls Tryz.prog 20 #[.pointer (some ⟨z.M, 0, none⟩)] w fun e w' => ∃ p' cap', e = .returned (.slice p' m.rs.length cap') ∧ w'.ownsRow w.heap.size 110 2 (.slice p' m.rs.length cap') m.rs.length (cells2 m.rs) ∧ Below w.heap.size w w' := by
  obtain ⟨v, _, _, ⟨p, c, hmx⟩, _⟩ := h
  have c9 := hmx.mi.c9
  have hr := hmx.mi.rs
  have HC := Lib.hid (clone_res (cap := c) p m.rs w hl (fun e => own_none hr e) (ResR.of_owns hr))
  have c9 : w.cell? ⟨z.M, 9, none⟩ = some (.slice p m.rs.length c) := c9
  clear hr hmx
  go_enter Tryz.func20, Tryz.ntmps20
  go_wp2_with (go_at_call 52; fail)
  refine HC.out.mono ?_
  rintro e w2 ⟨p', c', rfl, h2, h3⟩
  have H2 := Lib.hid h2
  have H3 := Lib.hid h3
  clear h2 h3 c9
  go_wp2_with fail
  go_ret
  exact ⟨_, _, rfl, H2.out, H3.out⟩
end Go.Proofs.YtipifkgmhgkleaaGreatDoor.Mv

namespace Go.Proofs.YtipifkgmhgkleaaGreatDoor.Mv
open Go.RowKit
open Hp (Ids Mine)
open Mu (Sy Sd Ml Md lt_of_cell ShIs MIs O4 OpsR cellsO ownS ownM sd0 md0 share_anyT mnew_any)
open Blk (Cfg little little_any)
open Go.Proofs.YtipifkgmhgkleaaGreatDoor.Row (Chg rowB Rd)
open Go.Proofs.YtipifkgmhgkleaaGreatDoor.Addr (Tabs)
/-- Behind k picks of the example. -/
def Rl (w1 : World) (y : Sy) (z : Ml) (k : Nat) (wr : World) : Prop :=
  ∃ x m q O, exS k = some (x, m, q) ∧ Alx O wr y 1 1 x z m q ∧ (∀ j, O j ≠ 0 → w1.heap.size ≤ j) ∧ Below w1.heap.size w1 wr
def exD (k : Nat) : Option Bool := (exS k).map fun s => s.2.2.isNone && decide (s.2.1.rs.length = s.2.1.pg.length)
theorem exD_all : ((List.range 16).all fun k => exD k == some (k == 15)) = true := by kernel_rfl
theorem exD_at {k : Nat} (hk : k ≤ 15) : exD k = some (k == 15) := by
  have h := List.all_eq_true.1 exD_all k (List.mem_range.2 (by omega))
  simpa using h
theorem Rl.later {w1 wr w' : World} {y : Sy} {z : Ml} {k : Nat} (h : Rl w1 y z k wr) (hb : Below wr.heap.size wr w') : Rl w1 y z k w' := by
  obtain ⟨x, m, q, O, h1, h2, h3, h4⟩ := h
  exact ⟨x, m, q, O, h1, h2.later hb, h3, h4.trans (hb.mono h4.size)⟩
theorem Rl.done {w1 wr : World} {y : Sy} {z : Ml} {k : Nat} (hk : k ≤ 15) (h : Rl w1 y z k wr) : Calls Tryz.prog 22 #[.pointer (some ⟨z.M, 0, none⟩)] wr fun e w' => e = .returned (.bool (k == 15)) ∧ Rl w1 y z k w' := by
  have h0 := h
  obtain ⟨x, m, q, O, h1, h2, h3, h4⟩ := h
  have hd := exD_at hk
  unfold exD at hd
  rw [h1] at hd
  have hd : (q.isNone && decide (m.rs.length = m.pg.length)) = (k == 15) := Option.some.inj hd
  refine h2.done.mono ?_
  rintro e w' ⟨rfl, j, rfl⟩
  rw [hd]
  exact ⟨rfl, h0.later (Class.below_drewN (Below.refl _ _) j)⟩
theorem Rl.pick {w1 wr : World} {y : Sy} {z : Ml} {k : Nat} (hT : Tz y) (hz : z.id = 0) (hk : k < 15) (h : Rl w1 y z k wr) : Calls Tryz.prog 13 #[.pointer (some ⟨z.M, 0, none⟩)] wr fun e w' => (∃ v, e = .returned v) ∧ Rl w1 y z (k + 1) w' := by
  obtain ⟨x, m, q, O, h1, h2, h3, h4⟩ := h
  have hd := exD_at (show k + 1 ≤ 15 by omega)
  unfold exD at hd
  cases hs : exS (k + 1) with
  | none => rw [hs] at hd; cases hd
  | some s =>
    obtain ⟨x', m', q'⟩ := s
    refine (ex_step hT hz h1 hs O wr h2).mono ?_
    rintro e w' ⟨rfl, O', hm, hA⟩
    refine ⟨⟨_, rfl⟩, x', m', q', O', hs, hA, fun j hj => ?_, ?_⟩
    · by_cases e : j < wr.heap.size
      · rw [hm.old j e] at hj; exact h3 j hj
      · have := h4.size; omega
    · refine h4.trans (hm.chg.below (fun j hj => h3 j (fun e => ?_)) h4.size)
      rw [e] at hj
      unfold Pm loc at hj
      omega
theorem exR_end : (exS 15).map (fun s => s.2.1.rs) = some [(0, 1), (0, 1)] := by kernel_rfl
theorem Rl.told {w1 wr : World} {y : Sy} {z : Ml} (h : Rl w1 y z 15 wr) : Calls Tryz.prog 20 #[.pointer (some ⟨z.M, 0, none⟩)] wr fun e w' => ∃ B cap, e = .returned (.slice (some ⟨B, 0, none⟩) 2 cap) ∧
    w'.cell? ⟨B, 0, none⟩ = some (.int .i64 0) ∧ w'.cell? ⟨B, 1, none⟩ = some (.int .i64 1) ∧ w'.cell? ⟨B, 2, none⟩ = some (.int .i64 0) ∧ w'.cell? ⟨B, 3, none⟩ = some (.int .i64 1) ∧ Below w1.heap.size w1 w' := by
  obtain ⟨x, m, q, O, h1, h2, h3, h4⟩ := h
  have he := exR_end
  rw [h1] at he
  have he : m.rs = [(0, 1), (0, 1)] := Option.some.inj he
  refine (h2.results (by rw [he]; decide)).mono ?_
  rintro e w' ⟨p', cap', rfl, ho, hb⟩
  rw [he] at ho ⊢
  have ho2 := ho
  obtain ⟨_, ⟨_, e0⟩ | ⟨g, c, cur, e1, _⟩⟩ := ho2
  · cases e0
  · obtain rfl : p' = some ⟨g, 0, none⟩ := by injection e1
    exact ⟨g, cap', rfl, Mu.owns_cellN ho 0 _ rfl, Mu.owns_cellN ho 1 _ rfl, Mu.owns_cellN ho 2 _ rfl, Mu.owns_cellN ho 3 _ rfl, h4.trans (hb.mono h4.size)⟩
set_option maxRecDepth 100000 in
set_option maxHeartbeats 4000000 in
theorem awake_any (w : World) (ht : Tabs w) (hf : Opr.FormTab w) : Calls Tryz.prog 23 #[] w fun e w' => e = .returned (.bool true) ∧ Below w.heap.size w w' := by
  have eC : little (⟨0, 0, 0, 1, 0, 0, 0⟩ : Cfg) = exC := by kernel_rfl
  have HL := fun V => little_any (⟨0, 0, 0, 1, 0, 0, 0⟩ : Cfg) V
  simp only [eC] at HL
  have HL := Lib.hid HL
  clear eC
  have HT := Lib.hid ht
  have HF := Lib.hid hf
  clear ht hf
  go_enter Tryz.func23, Tryz.ntmps23
  go_wp2_with (go_at_call 11; fail)
  refine (HL.out _).mono ?_
  rintro e w1 ⟨rfl, hb1⟩
  have HB1 := Lib.hid hb1
  clear hb1
  go_wp2_with (go_at_call 9; fail)
  refine (share_anyT exC 16 0 1 w1 (HT.out.later HB1.out) (by kernel_rfl) (by kernel_rfl) (by kernel_rfl) (by kernel_rfl) (by omega) (by omega)).mono ?_
  rintro e w2 ⟨y, T, rfl, hsh, hge, hS, hpx, tS, tP, hb2⟩
  have HB2 := Lib.hid hb2
  have HSH := Lib.hid (And.intro hsh (And.intro tS tP))
  have HGE := Lib.hid (And.intro hge (And.intro hS hpx))
  clear hsh hge hS hpx tS tP hb2
  go_wp2_with (go_at_call 12; fail)
  generalize hW3 : World.alloc w2 _ = w3
  have hb3 : Below w2.heap.size w2 w3 := by rw [← hW3]; exact (Below.refl _ _).alloc (Nat.le_refl _) _
  have hpg : OpsR w3 (some ⟨w2.heap.size, 0, none⟩) [(1, 0, 1, 0), (7, 1, 0, 0)] := .inr ⟨_, 0, rfl, fun j u hu => by
    rw [← hW3, World.cell?_alloc_new, Nat.zero_add]
    simpa [cellsO, Mu.o4C] using hu⟩
  refine (mnew_any (nb := 1) (cp := 2) w3 (HSH.out.1.later hb3) (by kernel_rfl) 0 (by omega) (some ⟨w2.heap.size, 0, none⟩) [(1, 0, 1, 0), (7, 1, 0, 0)] hpg (by decide) (fun e => by cases e)).mono ?_
  rintro e w4 ⟨z, T', r, room, rfl, hzid, hr, hlg, hsh4, hmi4, hT1, _, hown, hb4⟩
  have hr2 : (2 : Int) = (r : Int) := hr
  have hlg2 : (1 : Int) = (room : Int) := hlg
  obtain rfl : r = 2 := by omega
  obtain rfl : room = 1 := by omega
  have ht1 := HT.out.later HB1.out
  have hf1 := HF.out.later HB1.out
  have hb14 : Below w1.heap.size w1 w4 := HB2.out.trans ((hb3.trans (hb4.mono hb3.size)).mono HB2.out.size)
  have hgl : gl ≤ w1.heap.size := by
    have a1 := ht1.lim.blk
    have a2 := ht1.siz.blk
    have a3 := hf1.blk
    unfold gl; omega
  obtain ⟨O, hA, hlo⟩ := Alx.of true (fun _ => ht1.later hb14 |>.siz) (lo := w1.heap.size) (s := w3.heap.size) hsh4 hmi4 (hT1 _ HSH.out.2.1) (fun g hg => hT1 _ (HSH.out.2.2 g hg)) rfl hown (fun k hk => by
      have h3 := hb3.size
      rcases hk with hk | rfl | hk
      · have := HSH.out.1.ltO hk; have := HGE.out.1 k (HSH.out.1.hT k hk); omega
      · have := HSH.out.1.ltS; have := HGE.out.2.1; omega
      · have := HSH.out.1.tl k (HSH.out.2.2 k hk); have := HGE.out.2.2 k hk; omega) hgl (Nat.le_trans HB2.out.size hb3.size) (ht1.later hb14).lim (ht1.later hb14).siz.blk (hf1.later hb14)
  have HA := Lib.hid (show ∃ O, Alx O w4 (wtz y true) 1 1 exX z exM none ∧ ∀ k, O k ≠ 0 → w1.heap.size ≤ k from ⟨O, hA, hlo⟩)
  have HB14 := Lib.hid hb14
  have HZ := Lib.hid hzid
  clear hA hlo hsh4 hmi4 hT1 hown hb4 hb3 hpg hr hlg hr2 hlg2 ht1 hf1 hb14 hgl hzid hW3
  go_wp2_with fail
  go_loopw [5] (fun i wr => ∃ k : Nat, k ≤ 15 ∧ i = .int .i64 k ∧ Rl w1 (wtz y true) z k wr) (fun i _ => 15 - (intOf i).toNat)
  case atStart =>
    obtain ⟨O, hA, hlo⟩ := HA.out
    exact ⟨0, Nat.zero_le _, rfl, exX, exM, none, O, rfl, hA, hlo, HB14.out⟩
  case round =>
    clear HA HB14
    obtain ⟨k, hk, rfl, hR⟩ := hrel
    have k0 : (0 : Int) ≤ (k : Int) := by omega
    have k1 : (k : Int) < 100 := by omega
    have HR := Lib.hid hR
    clear hR
    go_wp2_with (go_at_call 22; fail)
    refine (HR.out.done hk).mono ?_
    rintro e w6 ⟨rfl, hR6⟩
    have HR6 := Lib.hid hR6
    clear hR6
    by_cases hlt : k < 15
    · have hb : (k == 15) = false := by simpa using (by omega : k ≠ 15)
      rw [hb]
      have HP := Lib.hid (HR6.out.pick (show Tz (wtz y true) from rfl) HZ.out hlt)
      go_wp2_with (go_at_call 13; fail)
      refine HP.out.mono ?_
      rintro e w7 ⟨⟨v, rfl⟩, hR7⟩
      have HR7 := Lib.hid hR7
      clear hR7
      go_wp2_with fail
      exact ⟨⟨k + 1, by omega, by go_num, HR7.out⟩, by simp [intOf]; omega⟩
    · obtain rfl : k = 15 := by omega
      rw [show ((15 : Nat) == 15) = true from rfl]
      have HT6 := Lib.hid (Rl.told HR6.out)
      go_wp2_with (go_at_call 20; fail)
      refine HT6.out.mono ?_
      rintro e w8 ⟨B, cap, rfl, c0, c1, c2, c3, hb8⟩
      have HB8 := Lib.hid hb8
      clear hb8
      go_wp2_with fail
      go_ret
      exact ⟨rfl, HB1.out.trans (HB8.out.mono HB1.out.size)⟩
end Go.Proofs.YtipifkgmhgkleaaGreatDoor.Mv
