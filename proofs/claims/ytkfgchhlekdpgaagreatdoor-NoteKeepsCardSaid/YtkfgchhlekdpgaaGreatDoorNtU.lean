/-
  NoteKeeps.
-/
import Derived.Test.YtkfgchhlekdpgaaGreatDoorNtU0
import Derived.Lib.QuietBelow
import Derived.BigQuiet
namespace Go.Proofs.YtkfgchhlekdpgaaGreatDoor.Nt
open Go.RowKit
open Class (below_drewN)
open Hp (Ids St Is To Mine bnI bn coE coV colB objL st0)
open Lg (BfIs BxIs)
open Blk (Cfg little BytesP)
open Sw (ThingsP madeS Sm)
open Go.Proofs.YtkfgchhlekdpgaaGreatDoor.Row (Chg rowB Rd Rd0 cellsZ)
open Go.Proofs.YtkfgchhlekdpgaaGreatDoor.Addr (Tabs)

/-- What the loop that notes hands on. -/
def KR (V w6 : World) (q : Cs) (b : Nat) (p1 : Option Addr) (S : St) (H m B X F N R L0 j : Nat) (hd : Value) (wr : World) : Prop :=
  ∃ d s xs ys up ph ch had E, hd = .slice ph (L0 + j) ch ∧ had.length = L0 + j ∧ ys.length ≤ 256 ∧ Kv S s xs ys had ∧ Ks V w6 q b p1 (objL S) E wr H d s m B X F N R xs ys up ph ch had
theorem pK_le (c : Int) (s : St) (xs ys : List Int) : pK c s xs ys ≤ xs.length + 2 := by
  unfold pK
  split
  · omega
  · split
    · omega
    · split <;> omega
theorem nK_le (c : Int) (s : St) (v : Int) (R : Nat) (xs ys : List Int) : nK c s v R xs ys ≤ xs.length + 4 := by
  have := pK_le c s xs ys
  unfold nK
  split
  · omega
  · split
    · omega
    · split <;> omega
theorem nY_le (s : St) (v : Int) (R : Nat) (xs ys : List Int) (hx : xs.length ≤ 256) (hy : ys.length ≤ 256) : (nY 1 s v R xs ys).length ≤ 256 := by
  unfold nY pY
  split
  · exact hy
  · split
    · exact hy
    · split
      · exact hy
      · split
        · exact hx
        · exact hy
theorem sum65 (z : Nat) (_h : z < 256) : IntKind.i64.wrap (5 + IntKind.i64.wrap ((z : Int).tmod 6)) = ((5 + z % 6 : Nat) : Int) := by
  rw [Int.tmod_eq_emod_of_nonneg (by omega), IntKind.wrap_i64, IntKind.wrap_i64]
  omega
theorem nb_rl {w : Bas} {wr : World} {H : Nat} {d : Ids} {s : St} {m B X F N room : Nat} {xs ys : List Int} {up : Bool} {ex : List (Nat × Value)} (h : Nb w wr H d s m B X F N room xs ys up ex) : xs.length ≤ room := by
  obtain ⟨T, t1, _⟩ := h.lg
  exact t1.len
theorem nb_lenU {w : Bas} {wr : World} {H : Nat} {d : Ids} {s : St} {m B X F N room : Nat} {xs ys : List Int} {up : Bool} {ex : List (Nat × Value)} (h : Nb w wr H d s m B X F N room xs ys up ex) : ∀ U, Below wr.heap.size wr U → Calls Tryz.prog 28 #[.pointer (some ⟨B, 0, none⟩)] U fun e w' => e = .returned (.int .i64 xs.length) ∧ w' = U := fun _U hU => nb_len (h.later hU)
theorem append_one {ops : Array Oper} {rest : List Oper} {o : Oper} {a : Act} {w : World} {Q : Exit → Act → World → Prop} (hgd : o.guard = none) (s x : Operand)
    (ho : o.op = .call { callee := .builtin .append, args := #[s, x], argTypes := #[40, 40] })
    (base : Nat) (pl : Option Addr) (cap : Nat) (l : List Int) (n : Nat) (hn : l.length = n) (he : a.eval s = .slice pl n cap) (hown : w.ownsRow base 3 1 (.slice pl n cap) n (cellsZ l))
    (pa : Option Addr) (ca : Nat) (v : Int) (hx : a.eval x = .slice pa 1 ca) (ha : Rd0 w pa [v]) (hl : n + 1 ≤ 1000) (hbase : base ≤ w.heap.size)
    (h : ∀ p' c' w', w'.ownsRow base 3 1 (.slice p' (l ++ [v]).length c') (l ++ [v]).length (cellsZ (l ++ [v])) → Chg (rowB pl) w w' → (∀ g, rowB p' g → rowB pl g ∨ w.heap.size ≤ g) → wpList Tryz.prog ops Q rest (a.put o.dst (.slice p' (n + 1) c')) w') :
    wpList Tryz.prog ops Q (o :: rest) a w := by
  subst hn
  refine Sw.wpList_append_row2 hgd s x ho base pl cap l he hown pa ca [v] hx ha (by simp; omega) hbase (fun p' c' w' h1 h2 h3 => ?_)
  have := h p' c' w' h1 h2 h3
  rw [show (l ++ [v]).length = l.length + 1 by simp]
  exact this
theorem nb_bnext {w : Bas} {wr : World} {H : Nat} {d : Ids} {s : St} {m B X F N room : Nat} {xs ys : List Int} {up : Bool} {ex : List (Nat × Value)} {y : Int} (h : Nb w wr H d s m B X F N room xs (y :: ys) up ex) : Calls Tryz.prog 29 #[.pointer (some ⟨X, 0, none⟩)] wr fun e w' => e = .returned (.tuple #[.int .i64 y, .bool true]) ∧ Nb w w' H d s m B X F N room xs ys up ex := by
  obtain ⟨T, t1, t2, t3, t4⟩ := h.lg
  refine (Lg.bnext_first wr t2).mono ?_
  rintro e w' ⟨rfl, h1, h2⟩
  exact ⟨rfl, h.log (h2.mono fun k hk => .inr hk) t3 t4 (t1.chg h2 (fun k hk => by subst hk; exact t4 _ (.inl (.inr (.inr (.inl rfl))))) (fun e => h.ne.1 e.symm)) h1⟩
theorem nb_bnone {w : Bas} {wr : World} {H : Nat} {d : Ids} {s : St} {m B X F N room : Nat} {xs : List Int} {up : Bool} {ex : List (Nat × Value)} (h : Nb w wr H d s m B X F N room xs [] up ex) : Calls Tryz.prog 29 #[.pointer (some ⟨X, 0, none⟩)] wr fun e w' => e = .returned (.tuple #[.int .i64 0, .bool false]) ∧ w' = wr := by
  obtain ⟨T, t1, t2, t3, t4⟩ := h.lg
  exact (Lg.bnext_empty wr t2).mono fun e w' h => ⟨h.1, h.2.symm⟩
def lenV : Value → Nat
  | .slice _ n _ => n
  | _ => 0
/-- What the loop over the box hands on. -/
def KQ (V wl : World) (q : Cs) (b : Nat) (ph : Option Addr) (had : List Int) (s : St) (H m B X F N R : Nat) (xs ys : List Int) (kn a ok : Value) (wr : World) : Prop :=
  ∃ d up pk ck E j, j ≤ ys.length ∧ kn = .slice pk (xs.length + j) ck ∧
    ((j < ys.length ∧ a = .int .i64 (ys.getD j 0) ∧ ok = .bool true ∧ Ks V wl q b ph had E wr H d s m B X F N R xs (ys.drop (j + 1)) up pk ck (xs ++ ys.take j)) ∨
     (j = ys.length ∧ a = .int .i64 0 ∧ ok = .bool false ∧ Ks V wl q b ph had E wr H d s m B X F N R xs [] up pk ck (xs ++ ys)))
theorem drop_cons {l : List Int} {j : Nat} (h : j < l.length) : l.drop j = l.getD j 0 :: l.drop (j + 1) := by
  rw [List.drop_eq_getElem_cons h, List.getD_eq_getElem?_getD, List.getElem?_eq_getElem h]; rfl
/-- The next one of the box, or none. -/
theorem kq_next {V wl : World} {q : Cs} {b : Nat} {ph : Option Addr} {had : List Int} {s : St} {d : Ids} {H m B X F N R : Nat} {xs ys : List Int} {up : Bool} {pk : Option Addr} {ck : Nat} {E : Nat → Prop} {j : Nat} {wr : World} (ht : Tabs V) (hj : j ≤ ys.length)
    (h : Ks V wl q b ph had E wr H d s m B X F N R xs (ys.drop j) up pk ck (xs ++ ys.take j)) :
    Calls Tryz.prog 29 #[.pointer (some ⟨X, 0, none⟩)] wr fun e w' => ∃ a ok, e = .returned (.tuple #[.int .i64 a, .bool ok]) ∧ KQ V wl q b ph had s H m B X F N R xs ys (.slice pk (xs.length + j) ck) (.int .i64 a) (.bool ok) w' := by
  by_cases hlt : j < ys.length
  · rw [drop_cons hlt] at h
    refine (nb_bnext h.nb).mono ?_
    rintro e w' ⟨rfl, hn⟩
    exact ⟨_, _, rfl, d, up, pk, ck, E, j, hj, rfl, .inl ⟨hlt, rfl, rfl, h.note hn ht⟩⟩
  · obtain rfl : j = ys.length := by omega
    rw [List.drop_length, List.take_length] at h
    refine (nb_bnone h.nb).mono ?_
    rintro e w' ⟨rfl, rfl⟩
    exact ⟨_, _, rfl, d, up, pk, ck, E, ys.length, Nat.le_refl _, rfl, .inr ⟨rfl, rfl, rfl, h⟩⟩
set_option maxRecDepth 200000 in
set_option maxHeartbeats 8000000 in
theorem keeps_N (q : Cs) (pv : Option Addr) (cv : Nat) (lv : List Nat) (n nc S : Nat) (V : World) (hp : Pre q n nc S V) (hgb : gB q = false) (hv : BytesP V.heap.size V pv lv) (hl : lv.length ≤ 40) (hne : objL (sQ q n nc) ≠ []) :
    Calls Tryz.prog 6 #[(.agg #[.int .i64 q.c.b, .int .i64 q.c.wd, .int .i64 q.c.m, .int .i64 q.c.r, .int .i64 q.c.ce, .int .i64 q.c.lg, .int .i64 q.c.st, .slice q.pt q.l.length q.ct, .slice q.pb q.bl.length q.cb, .slice q.px q.xl.length q.cx, .int .u8 q.room, .bool q.up]), .slice pv lv.length cv] V fun e w' => e = .returned (.bool true) ∧ Below V.heap.size V w' := by
  have HPR := Lib.hid hp
  have HHV := Lib.hid hv
  have HHL := Lib.hid hl
  have HNE := Lib.hid hne
  clear hv hl hne
  have HGR : Hid (∀ W, Calls Tryz.prog 11 #[(.agg #[.int .i64 q.c.b, .int .i64 q.c.wd, .int .i64 q.c.m, .int .i64 q.c.r, .int .i64 q.c.ce, .int .i64 q.c.lg, .int .i64 q.c.st, .slice q.pt q.l.length q.ct, .slice q.pb q.bl.length q.cb, .slice q.px q.xl.length q.cx, .int .u8 q.room, .bool q.up])] W fun e w' => e = .returned (.bool false) ∧ Below W.heap.size W w') := Lib.hid fun W => by
    have h := great_any q W
    rw [hgb] at h
    exact h
  obtain ⟨V1, hV1⟩ : ∃ V1, V.alloc (.cells #[.int .i64 q.c.b, .int .i64 q.c.wd, .int .i64 q.c.m, .int .i64 q.c.r, .int .i64 q.c.ce, .int .i64 q.c.lg, .int .i64 q.c.st, .slice q.pt q.l.length q.ct, .slice q.pb q.bl.length q.cb, .slice q.px q.xl.length q.cx, .int .u8 q.room, .bool q.up] 27) = V1 := ⟨_, rfl⟩
  have HC1 : Hid (CaseAt q V1 V.heap.size) := Lib.hid (hV1 ▸ CaseAt.new q V)
  have HB1 : Hid (Below V.heap.size V V1) := Lib.hid (by rw [← hV1]; exact (Below.refl _ _).alloc (Nat.le_refl _) _)
  have HBV : Hid (∀ U, Below V1.heap.size V1 U → Below V.heap.size V U) := Lib.hid fun U hU => HB1.out.trans (hU.mono HB1.out.size)
  clear hp hgb
  obtain ⟨k0, k1, k2, k3, k4, k5, k6, k7, k8, k9, k10, k11⟩ := HC1.out
  go_enter Tryz.func6, Tryz.ntmps6
  go_wp2_with fail
  refine (HGR.out _).mono ?_
  rintro e w2 ⟨rfl, hb2⟩
  have HP2 : Hid (Below V1.heap.size V1 w2) := Lib.hid hb2
  clear hb2 HGR k0 k1 k2 k3 k4 k5 k6 k7 k8 k9 k10 k11
  have hl40 : decide ((40 : Int) < (lv.length : Int)) = false := decide_eq_false (by have := HHL.out; omega)
  have hl41 : decide (40 < lv.length) = false := decide_eq_false (by have := HHL.out; omega)
  go_wp2_with (go_at_call 12; fail)
  refine (awake_any _ (HPR.out.ht.later (HBV.out _ HP2.out))).mono ?_
  rintro e w3 ⟨rfl, hb3⟩
  have HP3 : Hid (Below V1.heap.size V1 w3) := Lib.hid (HP2.out.trans (hb3.mono HP2.out.size))
  clear hb3 HP2
  obtain ⟨k0, k1, k2, k3, k4, k5, k6, k7, k8, k9, k10, k11⟩ := HC1.out.later HP3.out
  go_wp2_with (go_at_call 13; fail)
  refine ((HPR.out.later (HBV.out _ HP3.out)).parts).mono ?_
  rintro e w4 ⟨H, B, X, F, d, m, rfl, hp, hm, hsm⟩
  have HPB := Lib.hid hp
  have HLE : Hid ((objL (sQ q n nc)).length ≤ 1000) := Lib.hid (obj_le hsm)
  have HP4 : Hid (Below V1.heap.size V1 w4) := Lib.hid (HP3.out.trans (hp.bel.mono HP3.out.size))
  clear hp hm hsm k0 k1 k2 k3 k4 k5 k6 k7 k8 k9 k10 k11
  go_wp2_with (go_at_call 14; fail)
  refine (new_any HPB.out).mono ?_
  rintro e w5 ⟨rfl, hn5⟩
  generalize w4.heap.size = N at *
  have HP5 : Hid (Below V1.heap.size V1 w5) := Lib.hid (HP3.out.trans ((hn5.bel.below (fun _ e => e.elim) (Nat.le_refl _)).mono HP3.out.size))
  have HN5 := Lib.hid hn5
  have HGE : Hid (∀ k, own H d B X F k → V.heap.size < k) := Lib.hid fun k hk => by
    have h1 := HPB.out.ge k hk
    have h2 := HP3.out.size
    have h3 := HC1.out.lt
    omega
  clear hn5 HPB
  go_wp2_with (go_at_call 32; fail)
  refine (Hp.objects_any w5 HN5.out.is (HPR.out.ht.later (HBV.out _ HP5.out))).mono ?_
  rintro e w6 ⟨p1, c1, rfl, ho1, hb6⟩
  have HR1 := Lib.hid (Rd.of_owns ho1)
  have HG1 : Hid (∀ g, rowB p1 g → g < w6.heap.size ∧ ¬ own H d B X F g) := Lib.hid fun g hg => ⟨(Row.owns_lt ho1 hg).2, fun e => by
    have h1 := (Row.owns_lt ho1 hg).1
    have h2 := HN5.out.lt e
    omega⟩
  have HN6 := Lib.hid (HN5.out.later hb6)
  have HP6 : Hid (Below V1.heap.size V1 w6) := Lib.hid (HP5.out.trans (hb6.mono HP5.out.size))
  clear ho1 hb6 HN5
  obtain ⟨L, hL⟩ : ∃ L, (objL (sQ q n nc)).length = L := ⟨_, rfl⟩
  rw [hL]
  have HLL := Lib.hid hL
  have hL0 : 0 < L := by rw [← hL]; exact List.length_pos_iff.2 HNE.out
  have hL1 : ¬ L = 0 := by omega
  have hLb : ((L : Int) == 0) = false := by rw [beq_eq_false_iff_ne]; omega
  have hL2 : (L : Int) ≤ 1000 := by have := HLE.out; omega
  clear hL
  go_wp2_with (go_at_call 16; fail)
  refine (nb_allO HN6.out).mono ?_
  rintro e w7 ⟨p3, c3, rfl, ho3, hb7⟩
  have hN6 : N < w6.heap.size := lt_of_cell HN6.out.n0
  have HOV : Hid (∀ k, own H d B X F k → V.heap.size ≤ k) := Lib.hid fun k e => by have := HGE.out _ e; omega
  have hb7V : Below V.heap.size V w7 := HBV.out _ (HP6.out.trans (hb7.mono HP6.out.size))
  have HTV : Hid (Tabs V) := Lib.hid HPR.out.ht
  have hz6 : V.heap.size ≤ w6.heap.size := (HBV.out _ HP6.out).size
  have hbn : ∀ a ∈ objL (sQ q n nc), bnI (sQ q n nc) a = true := fun a ha => (obj_mem HN6.out.is).1 ha
  have hlb : V.heap.size < w6.heap.size := by have := HC1.out.lt; have := HP6.out.size; omega
  have HK0 : Hid (KR V w6 q V.heap.size p1 (sQ q n nc) H m B X F N (1 + q.room % 6) (qX q n nc).length 0 (.slice p3 (qX q n nc).length c3) w7) := Lib.hid ⟨d, (sQ q n nc), (qX q n nc), (qY q n nc), q.up, p3, c3, (qX q n nc), fun k => w6.heap.size ≤ k ∧ k < w7.heap.size, rfl, rfl, addsL_len,
    ⟨fun _ => rfl, fun a ha => hbn a (addsL_mem ha), fun a ha => hbn a (addsL_mem ha), fun a ha => hbn a (addsL_mem ha), fun a ha => .inr (.inl ha)⟩,
    ⟨(HN6.out.keep hb7 (HTV.out.later (HBV.out _ HP6.out)) (fun k hk => hk)).rebase (HTV.out.later hb7V), HR1.out.later hb7, HG1.out, HC1.out.later (HP6.out.trans (hb7.mono HP6.out.size)), ⟨hlb, fun e => by have := HGE.out _ e; omega⟩, hb7V, HOV.out, ho3, fun g hg => Row.owns_lt ho3 hg, fun k hk => hk.1, hz6, hb7.size, hN6⟩⟩
  have HBN := Lib.hid hbn
  have HIS := Lib.hid HN6.out.is
  have HXL : Hid ((qX q n nc).length ≤ 6) := Lib.hid (by
    have := addsL_len (r := (1 + q.room % 6)) (al := objL (sQ q n nc)) (zs := q.bl)
    unfold qX
    omega)
  have hqx : addsL (1 + q.room % 6) (objL (sQ q n nc)) q.bl = qX q n nc := rfl
  rw [hqx]
  clear hqx ho3 hb7 hN6 hb7V hz6 hbn hlb HN6 HP6 HR1 HG1 HGE HOV HC1 HB1 HBV HP5 HP4
  have hrz : q.room < 256 := HPR.out.hq.r
  have HRZ := Lib.hid hrz
  clear hrz
  generalize (qX q n nc).length = L0 at *
  generalize hLV : lv.length = LV at *
  have HLV := Lib.hid hLV
  clear hLV hl40 hl41
  have hLV40 : (LV : Int) ≤ 40 := by have := HHL.out; omega
  go_wp2_with fail
  go_loopw [12, 13] (fun hd i wr => ∃ j : Nat, j ≤ LV ∧ i = .int .i64 j ∧ KR V w6 q V.heap.size p1 (sQ q n nc) H m B X F N (1 + q.room % 6) L0 j hd wr) (fun _ i _ => LV - (intOf i).toNat)
  case atStart => exact ⟨0, Nat.zero_le _, rfl, HK0.out⟩
  case round =>
    clear HK0
    obtain ⟨j, hj, rfl, hkr⟩ := hrel
    have HKR := Lib.hid hkr
    clear hkr
    have j0 : (0 : Int) ≤ (j : Int) := by omega
    by_cases hlt : j < LV
    · have j1 : (j : Int) < (LV : Int) := by omega
      obtain ⟨d1, s1, xs1, ys1, up1, ph, ch, had, E, rfl, hlen, hyl, hkv, hks⟩ := HKR.out
      clear HKR
      have HYL := Lib.hid (nY_le s1 ((objL (sQ q n nc)).getD (lv.getD j 0 % L) 0) (1 + q.room % 6) xs1 ys1 (by have := nb_rl hks.nb; have := HPR.out.hq.r; omega) hyl)
      clear hyl
      have HKV := Lib.hid hkv
      have HKS := Lib.hid hks
      have HHN := Lib.hid hlen
      obtain ⟨bv, offv, rfl, -, hz8, cz⟩ := (HHV.out.below hks.bv) j (by rw [HLV.out]; exact hlt)
      obtain ⟨k, hzm, hkk⟩ : ∃ k : Nat, ((lv.getD j 0 : Nat) : Int) % (L : Int) = (k : Int) ∧ lv.getD j 0 % L = k := ⟨_, by simp, rfl⟩
      have hk : k < L := by rw [← hkk]; exact Nat.mod_lt _ hL0
      obtain ⟨g2, off2, rfl, c2⟩ := hks.r1.at (j := k) (by rw [HLL.out]; exact hk)
      have hvm : (objL (sQ q n nc)).getD k 0 ∈ objL (sQ q n nc) := by
        rw [List.getD_eq_getElem?_getD, List.getElem?_eq_getElem (by rw [HLL.out]; exact hk)]
        exact List.getElem_mem _
      have HVB := Lib.hid (HBN.out _ hvm)
      have kk0 : (0 : Int) ≤ (k : Int) := Int.natCast_nonneg _
      have kk1 : (k : Int) < (L : Int) := by omega
      rw [hkk] at HYL
      generalize lv.getD j 0 = z at *
      generalize (objL (sQ q n nc)).getD k 0 = v at *
      clear hkk hvm hkv hks hlen
      have HNO := Lib.hid (note_any v 1 0 ⟨fun _ => True, fun U => ∃ d', Nb ⟨wr, own H d1 B X F, E⟩ U H d' (nS 1 s1 v (1 + q.room % 6) xs1 ys1) m B X F N (1 + q.room % 6) (nX 1 s1 v (1 + q.room % 6) xs1) (nY 1 s1 v (1 + q.room % 6) xs1 ys1) (nU 1 s1 v (1 + q.room % 6) xs1 ys1 up1) []⟩ (fun _ _ _ _ _ _ _ => trivial) .nilFunc (.inl rfl) xs1 ys1 d1 s1 up1 [] wr HKS.out.nb (fun U d' h => ⟨rfl, d', h⟩))
      rw [Nat.add_zero] at HNO
      have HKK := Lib.hid (Nat.le_trans (nK_le 1 s1 v (1 + q.room % 6) xs1 ys1) (Nat.add_le_add_right (nb_rl HKS.out.nb) 4))
      have HKV2 := Lib.hid (HKV.out.step (R := (1 + q.room % 6)) (Og.of HKS.out.nb.is) HVB.out (obj_nz HIS.out HVB.out))
      generalize nK 1 s1 v (1 + q.room % 6) xs1 ys1 = kk at *
      generalize nS 1 s1 v (1 + q.room % 6) xs1 ys1 = s2 at *
      generalize nX 1 s1 v (1 + q.room % 6) xs1 = xs2 at *
      generalize nY 1 s1 v (1 + q.room % 6) xs1 ys1 = ys2 at *
      generalize nU 1 s1 v (1 + q.room % 6) xs1 ys1 up1 = up2 at *
      go_wp2_with (go_at_call 19; fail)
      refine HNO.out.mono ?_
      rintro e w9 ⟨u, rfl, hd⟩
      have HRN := Lib.hid (run_any _ _ 1000 u w9 hd (by have := HKK.out; omega) (by decide))
      clear hd HNO
      go_wp2_with (go_at_call 18; fail)
      refine HRN.out.mono ?_
      rintro e w2 ⟨rfl, d2, hn2⟩
      have hks2 := HKS.out.note hn2 HTV.out
      have HKS2 := Lib.hid hks2
      have HLN2 := Lib.hid (nb_lenU hks2.nb)
      have HDQ : Hid (∀ nn, Below w2.heap.size w2 (w2.drewN nn)) := Lib.hid fun nn => below_drewN (Below.refl _ _) nn
      have k10 := hks2.cs.2.2.2.2.2.2.2.2.2.2.1
      have hxr := nb_rl hks2.nb
      have hg5 : decide (5 + (q.room : Int) % 6 < (kk : Int)) = false := decide_eq_false (by have := HKK.out; omega)
      have hg1 : decide (1 + (q.room : Int) % 6 < (xs2.length : Int)) = false := decide_eq_false (by omega)
      clear hn2 hks2 HRN hxr cz c2
      go_wp2_with fail
      go_quiet ((go_at_call 28; exact Calls.quiet_of_same (HLN2.out _ (by first | exact HDQ.out _ | exact HDQ.out 0))))
      obtain ⟨wq, hwq⟩ : ∃ wq, w2.drewN nq = wq := ⟨_, rfl⟩
      rw [hwq]
      have HKS3 := Lib.hid (hwq ▸ HKS2.out.later (HDQ.out nq) HTV.out)
      have HKS4 := Lib.hid (HKS3.out.later ((Below.refl _ _).alloc (Nat.le_refl _) (.cells #[.int .i64 v] 3)) HTV.out)
      have hsz : w6.heap.size ≤ wq.heap.size := HKS3.out.z6.2.1
      have HSZ : Hid (w6.heap.size ≤ (wq.alloc (.cells #[.int .i64 v] 3)).heap.size) := Lib.hid HKS4.out.z6.2.1
      have HHL2 : Hid (had.length + 1 ≤ 1000) := Lib.hid (by have := HHN.out; have := HXL.out; omega)
      have hsl : Value.slice ph (L0 + j) ch = .slice ph had.length ch := by rw [HHN.out]
      rw [hsl]
      clear hwq hsl k10 hg5 hg1 HLN2 HDQ HKS2 HKS HKV HKK hsz
      generalize hhn : had.length = hn at *
      have HHN2 := Lib.hid hhn
      clear hhn
      have hHO : ∀ w3, (wq.alloc (.cells #[.int .i64 v] 3)) = w3 → w3.ownsRow w6.heap.size 3 1 (.slice ph hn ch) hn (cellsZ had) := fun w3 e => by
        subst e
        have h := HKS4.out.oh
        rw [HHN2.out] at h
        exact h
      have HHO := Lib.hid hHO
      clear hHO
      go_wp2_with (at_builtin; refine append_one rfl (.tmp 110) (.tmp 112) rfl w6.heap.size ph ch had hn HHN2.out rfl (HHO.out _ rfl) (some ⟨wq.heap.size, 0, none⟩) 1 v rfl (one_rd0 wq v) HHL2.out HSZ.out ?_; intro p' c' w3 ho hC hR; have HO3 := Lib.hid ho; have HC3 := Lib.hid hC; have HR3 := Lib.hid hR; clear ho hC hR)
      have HFI := Lib.hid (HKS4.out.push HO3.out HC3.out HR3.out HTV.out)
      go_roundw
      case rel => exact ⟨j + 1, by omega, by go_num, d2, s2, xs2, ys2, up2, p', c', had ++ [v], _, by rw [← Nat.add_assoc, ← HHN.out], by rw [List.length_append, HHN2.out, HHN.out]; rfl, HYL.out, HKV2.out, HFI.out⟩
      case measure => simp [intOf]; omega
    · obtain rfl : j = LV := by omega
      obtain ⟨d1, s1, xs1, ys1, up1, ph, ch, had, E, rfl, hlen, hyl, hkv, hks⟩ := HKR.out
      clear HKR
      have HYL := Lib.hid hyl
      have HXL1 : Hid (xs1.length ≤ 256) := Lib.hid (by have := nb_rl hks.nb; have := HRZ.out; omega)
      clear hyl
      have HKV := Lib.hid hkv
      have HKS := Lib.hid hks
      have HHN := Lib.hid hlen
      clear hkv hks hlen
      obtain ⟨wl, rfl⟩ : ∃ wl, wl = wr := ⟨_, rfl⟩
      go_wp2_with (go_at_call 16; fail)
      refine (nb_allO HKS.out.nb).mono ?_
      rintro e w8 ⟨pk, ck, rfl, hok, hb8⟩
      have hbv8 : Below V.heap.size V w8 := HKS.out.bv.trans (hb8.mono HKS.out.bv.size)
      have hKS2 : Ks V wl q V.heap.size ph had (fun k => wl.heap.size ≤ k ∧ k < w8.heap.size) w8 H d1 s1 m B X F N (1 + q.room % 6) xs1 ys1 up1 pk ck xs1 :=
        ⟨(HKS.out.nb.lessE.keep hb8 (HTV.out.later HKS.out.bv) (fun k hk => hk)).rebase (HTV.out.later hbv8), (Rd.of_owns HKS.out.oh).later hb8, fun g hg => ⟨(Row.owns_lt HKS.out.oh hg).2, fun e => HKS.out.nb.ap g e (HKS.out.eh g hg)⟩, HKS.out.cs.later hb8, ⟨HKS.out.cs.lt, HKS.out.lb.2⟩, hbv8, HKS.out.ov, hok, fun g hg => Row.owns_lt hok hg, fun k hk => hk.1, HKS.out.bv.size, hb8.size, by have := HKS.out.z6; omega⟩
      have HNX := Lib.hid (kq_next (j := 0) (ys := ys1) HTV.out (Nat.zero_le _) (by rw [List.take_zero, List.append_nil]; exact hKS2))
      clear hok hb8 hbv8 hKS2
      rw [Nat.add_zero] at HNX
      go_wp2_with (go_at_call 29; fail)
      refine HNX.out.mono ?_
      rintro e w9 ⟨av, bv9, rfl, hkq⟩
      have HKQ := Lib.hid hkq
      clear hkq HNX
      go_wp2_with fail
      go_loopw [17, 18, 19] (fun kn a ok wr => KQ V wl q V.heap.size ph had s1 H m B X F N (1 + q.room % 6) xs1 ys1 kn a ok wr) (fun kn _ _ _ => xs1.length + ys1.length - lenV kn)
      case atStart => exact HKQ.out
      case round =>
        clear HKQ
        obtain ⟨d2, up2, pk2, ck2, E2, i, hi, rfl, hcs⟩ := hrel
        have HCS := Lib.hid hcs
        clear hcs
        rcases HCS.out with ⟨hlt2, rfl, rfl, hks2⟩ | ⟨rfl, rfl, rfl, hks2⟩
        · clear HCS
          have HKA := Lib.hid (hks2.later ((Below.refl _ _).alloc (Nat.le_refl _) (.cells #[.int .i64 (ys1.getD i 0)] 3)) HTV.out)
          have HSZ : Hid (wl.heap.size ≤ (wr.alloc (.cells #[.int .i64 (ys1.getD i 0)] 3)).heap.size) := Lib.hid HKA.out.z6.2.1
          have HTK : Hid (xs1 ++ ys1.take i ++ [ys1.getD i 0] = xs1 ++ ys1.take (i + 1)) := Lib.hid (by rw [take_snoc hlt2, List.append_assoc])
          have HLT2 := Lib.hid hlt2
          have hnl : (xs1 ++ ys1.take i).length = xs1.length + i := by rw [List.length_append, List.length_take]; omega
          have HNL := Lib.hid hnl
          have HL9 : Hid (xs1.length + i + 1 ≤ 1000) := Lib.hid (by have := HYL.out; have := HXL1.out; omega)
          have HHO : Hid (∀ w3, (wr.alloc (.cells #[.int .i64 (ys1.getD i 0)] 3)) = w3 → w3.ownsRow wl.heap.size 3 1 (.slice pk2 (xs1.length + i) ck2) (xs1.length + i) (cellsZ (xs1 ++ ys1.take i))) := Lib.hid fun w3 e => by
            subst e
            have h := HKA.out.oh
            rw [HNL.out] at h
            exact h
          clear hnl hks2
          generalize hyv : ys1.getD i 0 = yv at *
          have HYV := Lib.hid hyv
          clear hyv
          obtain ⟨xn, hxn⟩ : ∃ xn, xs1.length = xn := ⟨_, rfl⟩
          rw [hxn] at HHO HNL HL9 ⊢
          have HXN := Lib.hid hxn
          clear hxn
          go_wp2_with (first
            | (at_builtin; refine append_one rfl (.tmp 127) (.tmp 129) rfl wl.heap.size pk2 ck2 (xs1 ++ ys1.take i) (xn + i) HNL.out rfl (HHO.out _ rfl) (some ⟨wr.heap.size, 0, none⟩) 1 yv rfl (one_rd0 wr yv) HL9.out HSZ.out ?_; intro p' c' w3 ho hC hR; have HO3 := Lib.hid ho; have HC3 := Lib.hid hC; have HR3 := Lib.hid hR; clear ho hC hR)
            | (go_at_call 29; fail))
          have hfi := HKA.out.push HO3.out HC3.out HR3.out HTV.out
          rw [HTK.out] at hfi
          have HNX := Lib.hid (kq_next (j := i + 1) (ys := ys1) HTV.out HLT2.out hfi)
          clear hfi
          rw [HXN.out] at HNX
          refine HNX.out.mono ?_
          rintro e w4 ⟨a4, b4, rfl, hkq4⟩
          have HKQ4 := Lib.hid hkq4
          clear hkq4
          go_wp2_with fail
          go_roundw
          case rel => exact HKQ4.out
          case measure => simp only [lenV]; have := HLT2.out; have := HXN.out; omega
        · clear HCS
          have HK2 := Lib.hid hks2
          clear hks2
          obtain ⟨wz, rfl⟩ : ∃ wz, wz = wr := ⟨_, rfl⟩
          have HRH := Lib.hid HK2.out.r1
          have HRN := Lib.hid (Rd.of_owns HK2.out.oh)
          have hnl : (xs1 ++ ys1).length = xs1.length + ys1.length := List.length_append
          have HNL := Lib.hid hnl
          have HBZ := Lib.hid HK2.out.bv
          have HIZ := Lib.hid HK2.out.nb.is
          have hL46 : (L0 : Int) + (j : Int) ≤ 1000 := by have := HXL.out; omega
          clear hnl
          go_wp2_with fail
          go_loopw [20] (fun i wr => ∃ t : Nat, t ≤ L0 + j ∧ i = .int .i64 t ∧ Below wz.heap.size wz wr) (fun i _ => L0 + j - (intOf i).toNat)
          case atStart => exact ⟨0, Nat.zero_le _, rfl, Below.refl _ _⟩
          case round =>
            obtain ⟨t, ht9, rfl, hbz⟩ := hrel
            have HBW := Lib.hid hbz
            clear hbz
            have t0 : (0 : Int) ≤ (t : Int) := by omega
            by_cases hlt3 : t < L0 + j
            · have t1 : (t : Int) < (L0 : Int) + (j : Int) := by omega
              have t6 : (t : Int) ≤ 1000 := by omega
              obtain ⟨g5, off5, ep5, c5⟩ := (HRH.out.later HBW.out).at (j := t) (by rw [HHN.out]; exact hlt3)
              subst ep5
              have hmem : had.getD t 0 ∈ had := by
                rw [List.getD_eq_getElem?_getD, List.getElem?_eq_getElem (by rw [HHN.out]; exact hlt3)]
                exact List.getElem_mem _
              have hkn := HKV.out.kn _ hmem
              have hce : coE s1 (had.getD t 0) = 0 := coE_in (by rw [HKV.out.bn]; exact HKV.out.hb _ hmem)
              have HCO := Lib.hid (Hp.color_any' (had.getD t 0) wr (HIZ.out.later HBW.out))
              rw [hce] at HCO
              have HIA := Lib.hid (fun (U : World) (hU : Below wr.heap.size wr U) => in_any pk2 ck2 (xs1 ++ ys1) (had.getD t 0) U (HRN.out.later (HBW.out.trans (hU.mono HBW.out.size))).rd0 (by have := HNL.out; have := HXL1.out; have := HYL.out; omega))
              rw [HNL.out] at HIA
              clear hmem hce
              generalize had.getD t 0 = a at *
              by_cases hc1 : coV s1 a = 1
              · rw [hc1] at HCO
                clear hkn hc1
                go_wp2_with (go_at_call 33; fail)
                refine HCO.out.mono ?_
                rintro e w5 ⟨rfl, hb5⟩
                have HB5 : Hid (Below wz.heap.size wz w5) := Lib.hid (HBW.out.trans (hb5.mono HBW.out.size))
                clear hb5
                go_wp2_with fail
                go_roundw
                case rel => exact ⟨t + 1, by omega, by go_num, HB5.out⟩
                case measure => simp [intOf]; omega
              · have hin : decide (a ∈ xs1 ++ ys1) = true := decide_eq_true (by
                  rcases hkn with e | e | e
                  · exact absurd e hc1
                  · exact List.mem_append_left _ e
                  · exact List.mem_append_right _ e)
                rw [hin] at HIA
                have hcb : (coV s1 a != 1) = true := by rw [bne_iff_ne]; exact hc1
                clear hkn hc1 hin
                generalize coV s1 a = cv9 at *
                go_wp2_with (go_at_call 33; fail)
                refine HCO.out.mono ?_
                rintro e w5 ⟨rfl, hb5⟩
                have HI5 := Lib.hid (HIA.out w5 hb5)
                have HB5 : Hid (Below wz.heap.size wz w5) := Lib.hid (HBW.out.trans (hb5.mono HBW.out.size))
                have d5 := (hb5.cell (p := ⟨g5, off5 + t, none⟩) (lt_of_cell c5)).trans c5
                clear hb5 c5
                go_wp2_with (go_at_call 21; refine HI5.out.mono ?_; rintro e w9 ⟨rfl, hw9⟩; cases hw9)
                go_roundw
                case rel => exact ⟨t + 1, by omega, by go_num, HB5.out⟩
                case measure => simp [intOf]; omega
            · obtain rfl : t = L0 + j := by omega
              have HFB : Hid (Below V.heap.size V wr) := Lib.hid (HBZ.out.trans (HBW.out.mono HBZ.out.size))
              go_wp2_with fail
              go_ret
              exact ⟨rfl, HFB.out⟩
set_option maxRecDepth 200000 in
set_option maxHeartbeats 8000000 in
theorem keeps_O (q : Cs) (pv : Option Addr) (cv : Nat) (lv : List Nat) (n nc S : Nat) (V : World) (hp : Pre q n nc S V) (hgb : gB q = false) (hl : lv.length ≤ 40) (hne : objL (sQ q n nc) = []) :
    Calls Tryz.prog 6 #[(.agg #[.int .i64 q.c.b, .int .i64 q.c.wd, .int .i64 q.c.m, .int .i64 q.c.r, .int .i64 q.c.ce, .int .i64 q.c.lg, .int .i64 q.c.st, .slice q.pt q.l.length q.ct, .slice q.pb q.bl.length q.cb, .slice q.px q.xl.length q.cx, .int .u8 q.room, .bool q.up]), .slice pv lv.length cv] V fun e w' => e = .returned (.bool true) ∧ Below V.heap.size V w' := by
  have HPR := Lib.hid hp
  have HHL := Lib.hid hl
  have HNE := Lib.hid hne
  clear hl hne
  have HGR : Hid (∀ W, Calls Tryz.prog 11 #[(.agg #[.int .i64 q.c.b, .int .i64 q.c.wd, .int .i64 q.c.m, .int .i64 q.c.r, .int .i64 q.c.ce, .int .i64 q.c.lg, .int .i64 q.c.st, .slice q.pt q.l.length q.ct, .slice q.pb q.bl.length q.cb, .slice q.px q.xl.length q.cx, .int .u8 q.room, .bool q.up])] W fun e w' => e = .returned (.bool false) ∧ Below W.heap.size W w') := Lib.hid fun W => by
    have h := great_any q W
    rw [hgb] at h
    exact h
  obtain ⟨V1, hV1⟩ : ∃ V1, V.alloc (.cells #[.int .i64 q.c.b, .int .i64 q.c.wd, .int .i64 q.c.m, .int .i64 q.c.r, .int .i64 q.c.ce, .int .i64 q.c.lg, .int .i64 q.c.st, .slice q.pt q.l.length q.ct, .slice q.pb q.bl.length q.cb, .slice q.px q.xl.length q.cx, .int .u8 q.room, .bool q.up] 27) = V1 := ⟨_, rfl⟩
  have HC1 : Hid (CaseAt q V1 V.heap.size) := Lib.hid (hV1 ▸ CaseAt.new q V)
  have HB1 : Hid (Below V.heap.size V V1) := Lib.hid (by rw [← hV1]; exact (Below.refl _ _).alloc (Nat.le_refl _) _)
  have HBV : Hid (∀ U, Below V1.heap.size V1 U → Below V.heap.size V U) := Lib.hid fun U hU => HB1.out.trans (hU.mono HB1.out.size)
  clear hp hgb
  obtain ⟨k0, k1, k2, k3, k4, k5, k6, k7, k8, k9, k10, k11⟩ := HC1.out
  go_enter Tryz.func6, Tryz.ntmps6
  go_wp2_with fail
  refine (HGR.out _).mono ?_
  rintro e w2 ⟨rfl, hb2⟩
  have HP2 : Hid (Below V1.heap.size V1 w2) := Lib.hid hb2
  clear hb2 HGR k0 k1 k2 k3 k4 k5 k6 k7 k8 k9 k10 k11
  have hl40 : decide ((40 : Int) < (lv.length : Int)) = false := decide_eq_false (by have := HHL.out; omega)
  have hl41 : decide (40 < lv.length) = false := decide_eq_false (by have := HHL.out; omega)
  go_wp2_with (go_at_call 12; fail)
  refine (awake_any _ (HPR.out.ht.later (HBV.out _ HP2.out))).mono ?_
  rintro e w3 ⟨rfl, hb3⟩
  have HP3 : Hid (Below V1.heap.size V1 w3) := Lib.hid (HP2.out.trans (hb3.mono HP2.out.size))
  clear hb3 HP2
  obtain ⟨k0, k1, k2, k3, k4, k5, k6, k7, k8, k9, k10, k11⟩ := HC1.out.later HP3.out
  go_wp2_with (go_at_call 13; fail)
  refine ((HPR.out.later (HBV.out _ HP3.out)).parts).mono ?_
  rintro e w4 ⟨H, B, X, F, d, m, rfl, hp, hm, hsm⟩
  have HPB := Lib.hid hp
  have HLE : Hid ((objL (sQ q n nc)).length ≤ 1000) := Lib.hid (obj_le hsm)
  have HP4 : Hid (Below V1.heap.size V1 w4) := Lib.hid (HP3.out.trans (hp.bel.mono HP3.out.size))
  clear hp hm hsm k0 k1 k2 k3 k4 k5 k6 k7 k8 k9 k10 k11
  go_wp2_with (go_at_call 14; fail)
  refine (new_any HPB.out).mono ?_
  rintro e w5 ⟨rfl, hn5⟩
  generalize w4.heap.size = N at *
  have HP5 : Hid (Below V1.heap.size V1 w5) := Lib.hid (HP3.out.trans ((hn5.bel.below (fun _ e => e.elim) (Nat.le_refl _)).mono HP3.out.size))
  have HN5 := Lib.hid hn5
  have HGE : Hid (∀ k, own H d B X F k → V.heap.size < k) := Lib.hid fun k hk => by
    have h1 := HPB.out.ge k hk
    have h2 := HP3.out.size
    have h3 := HC1.out.lt
    omega
  clear hn5 HPB
  go_wp2_with (go_at_call 32; fail)
  refine (Hp.objects_any w5 HN5.out.is (HPR.out.ht.later (HBV.out _ HP5.out))).mono ?_
  rintro e w6 ⟨p1, c1, rfl, ho1, hb6⟩
  have HR1 := Lib.hid (Rd.of_owns ho1)
  have HG1 : Hid (∀ g, rowB p1 g → g < w6.heap.size ∧ ¬ own H d B X F g) := Lib.hid fun g hg => ⟨(Row.owns_lt ho1 hg).2, fun e => by
    have h1 := (Row.owns_lt ho1 hg).1
    have h2 := HN5.out.lt e
    omega⟩
  have HN6 := Lib.hid (HN5.out.later hb6)
  have HP6 : Hid (Below V1.heap.size V1 w6) := Lib.hid (HP5.out.trans (hb6.mono HP5.out.size))
  clear ho1 hb6 HN5
  obtain ⟨L, hL⟩ : ∃ L, (objL (sQ q n nc)).length = L := ⟨_, rfl⟩
  rw [hL]
  obtain rfl : L = 0 := by rw [← hL, HNE.out]; rfl
  clear hL
  have HF : Hid (Below V.heap.size V w6) := Lib.hid (HBV.out _ HP6.out)
  clear HR1 HG1 HN6
  go_wp2_with fail
  go_ret
  exact ⟨rfl, HF.out⟩
set_option maxRecDepth 200000 in
set_option maxHeartbeats 8000000 in
theorem keeps_L (q : Cs) (pv : Option Addr) (cv : Nat) (lv : List Nat) (n nc S : Nat) (V : World) (hp : Pre q n nc S V) (hgb : gB q = false) (hl : 40 < lv.length) :
    Calls Tryz.prog 6 #[(.agg #[.int .i64 q.c.b, .int .i64 q.c.wd, .int .i64 q.c.m, .int .i64 q.c.r, .int .i64 q.c.ce, .int .i64 q.c.lg, .int .i64 q.c.st, .slice q.pt q.l.length q.ct, .slice q.pb q.bl.length q.cb, .slice q.px q.xl.length q.cx, .int .u8 q.room, .bool q.up]), .slice pv lv.length cv] V fun e w' => e = .returned (.bool true) ∧ Below V.heap.size V w' := by
  have HPR := Lib.hid hp
  have HHL := Lib.hid hl
  clear hl
  have HGR : Hid (∀ W, Calls Tryz.prog 11 #[(.agg #[.int .i64 q.c.b, .int .i64 q.c.wd, .int .i64 q.c.m, .int .i64 q.c.r, .int .i64 q.c.ce, .int .i64 q.c.lg, .int .i64 q.c.st, .slice q.pt q.l.length q.ct, .slice q.pb q.bl.length q.cb, .slice q.px q.xl.length q.cx, .int .u8 q.room, .bool q.up])] W fun e w' => e = .returned (.bool false) ∧ Below W.heap.size W w') := Lib.hid fun W => by
    have h := great_any q W
    rw [hgb] at h
    exact h
  obtain ⟨V1, hV1⟩ : ∃ V1, V.alloc (.cells #[.int .i64 q.c.b, .int .i64 q.c.wd, .int .i64 q.c.m, .int .i64 q.c.r, .int .i64 q.c.ce, .int .i64 q.c.lg, .int .i64 q.c.st, .slice q.pt q.l.length q.ct, .slice q.pb q.bl.length q.cb, .slice q.px q.xl.length q.cx, .int .u8 q.room, .bool q.up] 27) = V1 := ⟨_, rfl⟩
  have HC1 : Hid (CaseAt q V1 V.heap.size) := Lib.hid (hV1 ▸ CaseAt.new q V)
  have HB1 : Hid (Below V.heap.size V V1) := Lib.hid (by rw [← hV1]; exact (Below.refl _ _).alloc (Nat.le_refl _) _)
  have HBV : Hid (∀ U, Below V1.heap.size V1 U → Below V.heap.size V U) := Lib.hid fun U hU => HB1.out.trans (hU.mono HB1.out.size)
  clear hp hgb
  obtain ⟨k0, k1, k2, k3, k4, k5, k6, k7, k8, k9, k10, k11⟩ := HC1.out
  go_enter Tryz.func6, Tryz.ntmps6
  go_wp2_with fail
  refine (HGR.out _).mono ?_
  rintro e w2 ⟨rfl, hb2⟩
  have HP2 : Hid (Below V1.heap.size V1 w2) := Lib.hid hb2
  clear hb2 HGR k0 k1 k2 k3 k4 k5 k6 k7 k8 k9 k10 k11
  have hl40 : decide ((40 : Int) < (lv.length : Int)) = true := decide_eq_true (by have := HHL.out; omega)
  have hl41 : decide (40 < lv.length) = true := decide_eq_true HHL.out
  go_wp2_with (go_at_call 12; fail)
  refine (awake_any _ (HPR.out.ht.later (HBV.out _ HP2.out))).mono ?_
  rintro e w3 ⟨rfl, hb3⟩
  have HP3 : Hid (Below V.heap.size V w3) := Lib.hid (HBV.out _ (HP2.out.trans (hb3.mono HP2.out.size)))
  clear hb3
  go_wp2_with fail
  go_ret
  exact ⟨rfl, HP3.out⟩
set_option maxRecDepth 200000 in
set_option maxHeartbeats 8000000 in
theorem keeps_great (q : Cs) (pv : Option Addr) (cv : Nat) (lv : List Nat) (n nc S : Nat) (V : World) (hp : Pre q n nc S V) (hgb : gB q = true)  :
    Calls Tryz.prog 6 #[(.agg #[.int .i64 q.c.b, .int .i64 q.c.wd, .int .i64 q.c.m, .int .i64 q.c.r, .int .i64 q.c.ce, .int .i64 q.c.lg, .int .i64 q.c.st, .slice q.pt q.l.length q.ct, .slice q.pb q.bl.length q.cb, .slice q.px q.xl.length q.cx, .int .u8 q.room, .bool q.up]), .slice pv lv.length cv] V fun e w' => e = .returned (.bool true) ∧ Below V.heap.size V w' := by
  have HPR := Lib.hid hp
  have HGR : Hid (∀ W, Calls Tryz.prog 11 #[(.agg #[.int .i64 q.c.b, .int .i64 q.c.wd, .int .i64 q.c.m, .int .i64 q.c.r, .int .i64 q.c.ce, .int .i64 q.c.lg, .int .i64 q.c.st, .slice q.pt q.l.length q.ct, .slice q.pb q.bl.length q.cb, .slice q.px q.xl.length q.cx, .int .u8 q.room, .bool q.up])] W fun e w' => e = .returned (.bool true) ∧ Below W.heap.size W w') := Lib.hid fun W => by
    have h := great_any q W
    rw [hgb] at h
    exact h
  obtain ⟨V1, hV1⟩ : ∃ V1, V.alloc (.cells #[.int .i64 q.c.b, .int .i64 q.c.wd, .int .i64 q.c.m, .int .i64 q.c.r, .int .i64 q.c.ce, .int .i64 q.c.lg, .int .i64 q.c.st, .slice q.pt q.l.length q.ct, .slice q.pb q.bl.length q.cb, .slice q.px q.xl.length q.cx, .int .u8 q.room, .bool q.up] 27) = V1 := ⟨_, rfl⟩
  have HC1 : Hid (CaseAt q V1 V.heap.size) := Lib.hid (hV1 ▸ CaseAt.new q V)
  have HB1 : Hid (Below V.heap.size V V1) := Lib.hid (by rw [← hV1]; exact (Below.refl _ _).alloc (Nat.le_refl _) _)
  have HBV : Hid (∀ U, Below V1.heap.size V1 U → Below V.heap.size V U) := Lib.hid fun U hU => HB1.out.trans (hU.mono HB1.out.size)
  clear hp hgb
  obtain ⟨k0, k1, k2, k3, k4, k5, k6, k7, k8, k9, k10, k11⟩ := HC1.out
  go_enter Tryz.func6, Tryz.ntmps6
  go_wp2_with fail
  refine (HGR.out _).mono ?_
  rintro e w2 ⟨rfl, hb2⟩
  have HP2 : Hid (Below V1.heap.size V1 w2) := Lib.hid hb2
  clear hb2 HGR k0 k1 k2 k3 k4 k5 k6 k7 k8 k9 k10 k11
  go_wp2_with (go_at_call 12; fail)
  refine (awake_any _ (HPR.out.ht.later (HBV.out _ HP2.out))).mono ?_
  rintro e w3 ⟨rfl, hb3⟩
  have HP3 : Hid (Below V.heap.size V w3) := Lib.hid (HBV.out _ (HP2.out.trans (hb3.mono HP2.out.size)))
  clear hb3
  go_wp2_with fail
  go_ret
  exact ⟨rfl, HP3.out⟩
theorem keeps_walk (q : Cs) (pv : Option Addr) (cv : Nat) (lv : List Nat) (V : World) (ht : Tabs V) (hq : CsP V.heap.size V q) (hv : BytesP V.heap.size V pv lv) (_hvl : lv.length ≤ maxLen) :
    Calls Tryz.prog 6 #[(.agg #[.int .i64 q.c.b, .int .i64 q.c.wd, .int .i64 q.c.m, .int .i64 q.c.r, .int .i64 q.c.ce, .int .i64 q.c.lg, .int .i64 q.c.st, .slice q.pt q.l.length q.ct, .slice q.pb q.bl.length q.cb, .slice q.px q.xl.length q.cx, .int .u8 q.room, .bool q.up]), .slice pv lv.length cv] V fun e w' => e = .returned (.bool true) ∧ Below V.heap.size V w' := by
  obtain ⟨n, nc, hp⟩ := pre_of ht hq
  cases hgb : gB q with
  | true => exact keeps_great q pv cv lv n nc _ V hp hgb
  | false =>
    by_cases hl : lv.length ≤ 40
    · by_cases hne : objL (sQ q n nc) = []
      · exact keeps_O q pv cv lv n nc _ V hp hgb hl hne
      · exact keeps_N q pv cv lv n nc _ V hp hgb hv hl hne
    · exact keeps_L q pv cv lv n nc _ V hp hgb (by omega)
end Go.Proofs.YtkfgchhlekdpgaaGreatDoor.Nt
