/-
  The law HeapMakes answers true, for every config, row of sizes and number.
-/
import Derived.Test.YtdldbmpkpjlmmaaGreatDoorHq5
import Derived.Test.YtdldbmpkpjlmmaaGreatDoorHq3
namespace Go.Proofs.YtdldbmpkpjlmmaaGreatDoor.Hp
open Go.RowKit
open Class (clsI clsI_bd)
open Blk (Cfg BoxIs little little_any little_right box7 BytesP)
open Go.Proofs.YtdldbmpkpjlmmaaGreatDoor.Row (Chg Rd cellsZ rowB Rd0 owns_lt owns_chg infoInt info_parts one_at push_row)
open Lis (intsN intsN_length)
open Go.Proofs.YtdldbmpkpjlmmaaGreatDoor.Addr (Tabs)

theorem little_ce (c : Cfg) : ∃ nc : Nat, (little c).ce = (nc : Int) ∧ nc ≤ 3 := by
  have : (little c).ce = c.ce % 4 := rfl
  exact ⟨(little c).ce.toNat, by omega, by omega⟩
theorem little_n (c : Cfg) : ∃ n : Nat, (little c).b * (little c).wd = (n : Int) ∧ n ≤ 1048576 := by
  obtain ⟨p0, p1⟩ := (Blk.slots_bd (little_right c)).words
  exact ⟨((little c).b * (little c).wd).toNat, by omega, by omega⟩

/-- The heap, and beside it the law's two rows. -/
structure Mk (w wr : World) (H : Nat) (dd : Ids) (s : St) (m : Nat) (d : Cfg) (n nc : Nat) (la lf : List Int) (pa : Option Addr) (ca : Nat) (pf : Option Addr) (cf : Nat) : Prop where
  ce : Ce w wr H dd s m d n nc
  ra : wr.ownsRow (w.heap.size + 1) 3 1 (.slice pa la.length ca) la.length (cellsZ la)
  rf : wr.ownsRow (w.heap.size + 1) 3 1 (.slice pf lf.length cf) lf.length (cellsZ lf)
  na : ∀ g, rowB pa g → ¬ Mine H dd g
  nf : ∀ g, rowB pf g → ¬ Mine H dd g
  ap : ∀ g, rowB pa g → ¬ rowB pf g
theorem Mk.step {w wr w' : World} {H : Nat} {dd : Ids} {s s' : St} {m m' : Nat} {d : Cfg} {n nc : Nat} {la lf : List Int} {pa : Option Addr} {ca : Nat} {pf : Option Addr} {cf : Nat} (h : Mk w wr H dd s m d n nc la lf pa ca pf cf) (hT : To wr w' H dd s' m') (h1 : s'.c = s.c) (h2 : s'.ce.length = s.ce.length) (h3 : s'.ws.length = s.ws.length) :
    ∃ dd', Mk w w' H dd' s' m' d n nc la lf pa ca pf cf := by
  obtain ⟨d', g1, g2, g3⟩ := h.ce.step hT h1 h2 h3
  exact ⟨d', g1, owns_chg h.ra g2 h.na, owns_chg h.rf g2 h.nf, fun g hg e => (g3 g e).elim (h.na g hg) (fun x => by have := (owns_lt h.ra hg).2; omega), fun g hg e => (g3 g e).elim (h.nf g hg) (fun x => by have := (owns_lt h.rf hg).2; omega), h.ap⟩
theorem Mk.later {w wr w' : World} {H : Nat} {dd : Ids} {s : St} {m : Nat} {d : Cfg} {n nc : Nat} {la lf : List Int} {pa : Option Addr} {ca : Nat} {pf : Option Addr} {cf : Nat} (h : Mk w wr H dd s m d n nc la lf pa ca pf cf) (hb : Below wr.heap.size wr w') : Mk w w' H dd s m d n nc la lf pa ca pf cf :=
  ⟨h.ce.later hb, owns_below h.ra hb (fun _ hg => (owns_lt h.ra hg).2), owns_below h.rf hb (fun _ hg => (owns_lt h.rf hg).2), h.na, h.nf, h.ap⟩
theorem Ce.chg {w wr w' : World} {H : Nat} {dd : Ids} {s : St} {m : Nat} {d : Cfg} {n nc : Nat} {S : Nat → Prop} (h : Ce w wr H dd s m d n nc) (hc : Chg S wr w') (hS : ∀ k, S k → ¬ Mine H dd k ∧ w.heap.size < k) : Ce w w' H dd s m d n nc :=
  have hb : Below (w.heap.size + 1) wr w' := hc.below (fun k hk => (hS k hk).2) (by have := h.box.lt; omega)
  ⟨h.is.kept (fun k hk => hc.block k (h.is.lt hk) (fun e => (hS k e).1 hk)) hc.size, h.hc, h.hn, h.hl, h.box.below hb (Nat.lt_succ_self _), h.ge, h.bel.trans (hb.mono (Nat.le_succ _))⟩
theorem Mk.growA {w wr w' : World} {H : Nat} {dd : Ids} {s : St} {m : Nat} {d : Cfg} {n nc : Nat} {la lf : List Int} {pa : Option Addr} {ca : Nat} {pf : Option Addr} {cf : Nat} (h : Mk w wr H dd s m d n nc la lf pa ca pf cf) {x : Int} {p' : Option Addr} {c' : Nat} (hc : Chg (rowB pa) wr w') (hR : ∀ k, rowB p' k → rowB pa k ∨ wr.heap.size ≤ k)
    (ho : w'.ownsRow (w.heap.size + 1) 3 1 (.slice p' (la ++ [x]).length c') (la ++ [x]).length (cellsZ (la ++ [x]))) : Mk w w' H dd s m d n nc (la ++ [x]) lf p' c' pf cf :=
  ⟨h.ce.chg hc (fun k hk => ⟨h.na k hk, (owns_lt h.ra hk).1⟩), ho, owns_chg h.rf hc (fun g hg e => h.ap g e hg), fun g hg e => (hR g hg).elim (fun x => h.na g x e) (fun x => by have := h.ce.is.lt e; omega), h.nf, fun g hg e => (hR g hg).elim (fun x => h.ap g x e) (fun x => by have := (owns_lt h.rf e).2; omega)⟩
theorem Mk.growF {w wr w' : World} {H : Nat} {dd : Ids} {s : St} {m : Nat} {d : Cfg} {n nc : Nat} {la lf : List Int} {pa : Option Addr} {ca : Nat} {pf : Option Addr} {cf : Nat} (h : Mk w wr H dd s m d n nc la lf pa ca pf cf) {x : Int} {p' : Option Addr} {c' : Nat} (hc : Chg (rowB pf) wr w') (hR : ∀ k, rowB p' k → rowB pf k ∨ wr.heap.size ≤ k)
    (ho : w'.ownsRow (w.heap.size + 1) 3 1 (.slice p' (lf ++ [x]).length c') (lf ++ [x]).length (cellsZ (lf ++ [x]))) : Mk w w' H dd s m d n nc la (lf ++ [x]) pa ca p' c' :=
  ⟨h.ce.chg hc (fun k hk => ⟨h.nf k hk, (owns_lt h.rf hk).1⟩), owns_chg h.ra hc (fun g hg e => h.ap g hg e), ho, h.na, fun g hg e => (hR g hg).elim (fun x => h.nf g x e) (fun x => by have := h.ce.is.lt e; omega), fun g hg e => (hR g e).elim (fun x => h.ap g hg x) (fun x => by have := (owns_lt h.ra hg).2; omega)⟩
set_option maxHeartbeats 1000000 in
theorem in_any (p : Option Addr) (cp : Nat) (l : List Int) (x : Int) (w : World) (hp : Rd0 w p l) (hl : l.length ≤ 1048576) :
    Calls Tryz.prog 39 #[.slice p l.length cp, .int .i64 x] w fun e w' => e = .returned (.bool (decide (x ∈ l))) ∧ w = w' := by
  have HP := Lib.hid hp
  clear hp
  go_enter Tryz.func39, Tryz.ntmps39
  go_wp2
  go_loopw [5] (fun i wr => ∃ c : Nat, c ≤ l.length ∧ i = .int .i64 c ∧ x ∉ l.take c ∧ w = wr) (fun i _ => l.length - (intOf i).toNat)
  case atStart => exact ⟨0, by omega, rfl, by simp, rfl⟩
  case round =>
    obtain ⟨c, hc, rfl, hno, rfl⟩ := hrel
    have HNO := Lib.hid hno
    clear hno
    by_cases hlt : c < l.length
    · obtain ⟨b, off, rfl, h1⟩ := HP.out c hlt
      have i0 : (0 : Int) ≤ (c : Int) := Int.natCast_nonneg _
      have i1 : (c : Int) < (l.length : Int) := by omega
      have hget : l[c]? = some (l.getD c 0) := by rw [List.getD_eq_getElem?_getD]; simp [hlt]
      have hmem : l.getD c 0 ∈ l := List.mem_of_getElem? hget
      have HGET := Lib.hid hget
      have HMEM := Lib.hid hmem
      clear hget hmem
      generalize l.getD c 0 = y at *
      by_cases he : y = x
      · subst he
        have hyy : (y == y) = true := by simp
        have hd : decide (y ∈ l) = true := by simpa using HMEM.out
        go_wp2
        go_ret
        exact ⟨by rw [hd]; rfl, rfl⟩
      · have hyx : (y == x) = false := by simpa using he
        have hn2 : x ∉ l.take (c + 1) := by
          rw [List.take_add_one, HGET.out]
          simp only [Option.toList_some, List.mem_append, List.mem_singleton]
          exact fun h => h.elim HNO.out (fun e => he e.symm)
        have HN2 := Lib.hid hn2
        clear hn2
        go_wp2
        go_roundw
        case rel => exact ⟨c + 1, by omega, by go_num, HN2.out, trivial⟩
        case measure => simp [intOf]; omega
    · have hd : decide (x ∈ l) = false := by
        have := HNO.out
        rw [List.take_of_length_le (by omega)] at this
        simpa using this
      go_wp2
      go_ret
      exact ⟨by rw [hd]; rfl, rfl⟩
/-- append of one number, as a statement. -/
theorem wpList_append_one {ops : Array Oper} {rest : List Oper} {o : Oper} {a : Act} {w : World} {Q : Exit → Act → World → Prop} (hgd : o.guard = none) (s x : Operand)
    (ho : o.op = .call { callee := .builtin .append, args := #[s, x], argTypes := #[48, 48] })
    (Y : World) (base : Nat) (pl : Option Addr) (cap : Nat) (l : List Int) (y : Int) (hw : Y.alloc (.cells #[.int .i64 y] 3) = w) (he : a.eval s = .slice pl l.length cap) (hown : Y.ownsRow base 3 1 (.slice pl l.length cap) l.length (cellsZ l))
    (hx : a.eval x = .slice (some ⟨Y.heap.size, 0, none⟩) 1 1) (hl : l.length ≤ 1000000) (hbase : base ≤ Y.heap.size)
    (h : ∀ p' c' w', w'.ownsRow base 3 1 (.slice p' (l ++ [y]).length c') (l ++ [y]).length (cellsZ (l ++ [y])) → Chg (rowB pl) Y w' → (∀ k, rowB p' k → rowB pl k ∨ Y.heap.size ≤ k) → wpList Tryz.prog ops Q rest (a.put o.dst (.slice p' (l.length + 1) c')) w') :
    wpList Tryz.prog ops Q (o :: rest) a w := by
  subst hw
  refine wpList_plain hgd fun K hK => ?_
  obtain ⟨i, hi, hz, hs, hb⟩ := info_parts infoInt
  have hbl : Below Y.heap.size Y (Y.alloc (.cells #[.int .i64 y] 3)) := (Below.refl _ _).alloc (Nat.le_refl _) _
  have hown2 := owns_below hown hbl (fun _ hg => (owns_lt hown hg).2)
  obtain ⟨v', w', hr, h2, h3, _, h5⟩ := run_append_own_at (P := Tryz.prog) (Y.alloc (.cells #[.int .i64 y] 3)) base 48 o.type 3 i (.int .i64 0) 1 8 Tryz.underlying48 hi hz hs hb rfl (by decide) _ _ _ hown2 ⟨Y.heap.size, 0, none⟩ 1 1 [.int .i64 y] rfl (one_at rfl) (by simp [Value.oneCell']) (by unfold maxLen; omega) (by omega) (by simp; omega)
  obtain ⟨p', c', rfl, hC, hR⟩ := push_row hbl h2 h3 (by simpa using h5)
  unfold Oper.wp execOp
  simp only [ho, resolve, invoke, builtin, Sem.run_bind, Sem.run_pure, Result.andThen_ok, List.map_toArray, List.map_cons, List.map_nil, he, hx, hr]
  refine hK _ _ (h p' c' w' ?_ hC (fun k hk => by have := hR k hk; simpa using this))
  rw [Row.cellsZ_snoc, List.length_append]
  exact h2

set_option maxRecDepth 100000 in
set_option maxHeartbeats 8000000 in
theorem makes_walk (c : Cfg) (pb : Option Addr) (cb : Nat) (zb : List Nat) (gg : Nat) (w : World) (ht : Tabs w) (hb : BytesP w.heap.size w pb zb) (hgg : gg < 256) :
    Calls Tryz.prog 7 #[(.agg #[.int .i64 c.b, .int .i64 c.wd, .int .i64 c.m, .int .i64 c.r, .int .i64 c.ce, .int .i64 c.lg, .int .i64 c.st]), .slice pb zb.length cb, .int .u8 gg] w fun e w' => e = .returned (.bool true) ∧ Below w.heap.size w w' := by
  have HT := Lib.hid ht
  have HB := Lib.hid hb
  have HR := Lib.hid (little_right c)
  obtain ⟨nc, hnc, hnc3⟩ := little_ce c
  obtain ⟨n, hn, hn2⟩ := little_n c
  have hd4 : (little c).b ≤ 4 := (Blk.little_b c).2
  clear ht hb
  go_enter Tryz.func7, Tryz.ntmps7
  go_wp2_with fail
  refine (little_any c _).mono ?_
  rintro e w1 ⟨rfl, hb⟩
  have HW := Lib.hid (fun W2 hW => box7 (d := little c) (W2 := W2) (by simpa using hb) hW)
  obtain ⟨hc1, hf1⟩ := bcell hb
  have hz1 : w.heap.size < w1.heap.size := by have := hb.size; simp at this; omega
  clear hb
  generalize hL : little c = d at *
  clear hL
  have HNC := Lib.hid hnc
  have HN := Lib.hid hn
  clear hnc hn
  by_cases hbig : 60 < zb.length
  · have h1 : (60 : Int) < (zb.length : Int) := by omega
    go_wp2_with fail
    generalize hW : World.setCell _ _ _ = W2
    obtain ⟨hbox, hb2⟩ := HW.out W2 hW
    refine (awake_any _ (HT.out.later hb2)).mono ?_
    rintro e w3 ⟨rfl, hb3⟩
    have HF := Lib.hid (hb2.trans (hb3.mono hb2.size))
    clear hW HW hc1 hf1 hz1 hb2 hbox hb3
    go_wp2
    go_ret
    exact ⟨rfl, HF.out⟩
  have h1 : (zb.length : Int) ≤ 60 := by omega
  have hd1 : decide ((60 : Int) < (zb.length : Int)) = false := by simpa using h1
  go_wp2_with fail
  generalize hW : World.setCell _ _ _ = W1
  obtain ⟨hbox, hb2⟩ := HW.out W1 hW
  clear hW HW hc1 hf1 hz1
  refine (awake_any _ (HT.out.later hb2)).mono ?_
  rintro e W2 ⟨rfl, hb3⟩
  have HB2 := Lib.hid (hb2.trans (hb3.mono hb2.size))
  have HX2 := Lib.hid (hbox.later hb3)
  have c0 := (hbox.later hb3).b0
  have c1 := (hbox.later hb3).b1
  have c2 := (hbox.later hb3).b2
  have c3 := (hbox.later hb3).b3
  have c4 := (hbox.later hb3).b4
  have c5 := (hbox.later hb3).b5
  have c6 := (hbox.later hb3).b6
  clear hb2 hb3 hbox
  go_wp2_with fail
  refine (new_good d n nc _ (HT.out.later HB2.out) HR.out HN.out HNC.out).mono ?_
  rintro e w3 ⟨H, dd, rfl, hI, hM, hb3⟩
  have HC3 := Lib.hid (Ce.start HB2.out HX2.out hI hM hb3)
  have HM3 := Lib.hid hM
  clear hI hM hb3 c0 c1 c2 c3 c4 c5 c6
  clear HM3
  go_wp2_with fail
  go_loopw [9, 10, 11] (fun va vf i wr => ∃ (j : Nat) (dd : Ids) (s : St) (m : Nat) (al fl : List Nat) (pa : Option Addr) (ca : Nat) (pf : Option Addr) (cf : Nat), j ≤ zb.length ∧ i = .int .i64 (j : Int) ∧ va = .slice pa (intsN al).length ca ∧ vf = .slice pf (intsN fl).length cf ∧ m ≤ 400 * j ∧ al.length ≤ j ∧ Mad s al fl ∧ Mk w wr H dd s m d n nc (intsN al) (intsN fl) pa ca pf cf) (fun _ _ i _ => zb.length - (intOf i).toNat)
  case atStart => exact ⟨0, dd, _, 0, [], [], none, 0, none, 0, Nat.zero_le _, rfl, rfl, rfl, Nat.le_refl _, Nat.le_refl _, Mad.start _, ⟨HC3.out, owns_nil _ _ _, owns_nil _ _ _, fun g hg => (by cases hg), fun g hg => (by cases hg), fun g hg => (by cases hg)⟩⟩
  case round =>
    clear HC3
    obtain ⟨j, dd, s, m, al, fl, pa, ca, pf, cf, hj, rfl, rfl, rfl, hm, haj, hMd, hMk⟩ := hrel
    have HMK := Lib.hid hMk
    have HMD := Lib.hid hMd
    have i1 : (0 : Int) ≤ (j : Int) := Int.natCast_nonneg _
    by_cases hltj : j < zb.length
    · have i2 : (j : Int) < (zb.length : Int) := by omega
      obtain ⟨b, off, rfl, hbS, hz8, hcx⟩ := HB.out j hltj
      have hcx1 := (hMk.ce.bel.cell (p := ⟨b, _, none⟩) hbS).trans hcx
      obtain ⟨nn, hnn⟩ : ∃ nn, zb.getD j 0 % 16 = nn := ⟨_, rfl⟩
      have hn15 : nn ≤ 15 := by omega
      have hmod : ((zb.getD j 0 : Nat) : Int) % (16 : Int) = (nn : Int) := by omega
      have hmodt : Int.tmod ((zb.getD j 0 : Nat) : Int) (16 : Int) = (nn : Int) := by rw [Int.tmod_eq_emod_of_nonneg (by omega)]; exact hmod
      obtain ⟨cc, hcc⟩ : ∃ cc, j % 2 = cc := ⟨_, rfl⟩
      have hcm : (j : Int) % (2 : Int) = (cc : Int) := by omega
      have hcmt : Int.tmod (j : Int) (2 : Int) = (cc : Int) := by rw [Int.tmod_eq_emod_of_nonneg (by omega)]; exact hcm
      have n0 : (0 : Int) ≤ (nn : Int) := Int.natCast_nonneg _
      have n1 : (nn : Int) ≤ 15 := by omega
      clear hcx hMk hMd
      generalize zb.getD j 0 = z at *
      have hcc2 : cc < 2 := by omega
      have hce := HMK.out.ce.is
      have htt := HMK.out.ce.tabs HT.out
      by_cases he : mkE s nn cc = 0
      · have HMG := Lib.hid (make_good (nn : Int) (cc : Int) wr hce htt (by omega) he)
        obtain ⟨hnin, hmad⟩ := HMD.out.made hce he
        obtain ⟨hb1, _, _, ha1, ha2⟩ := mkS_bn hce he
        obtain ⟨r1, r2, r3⟩ := mkS_rest s nn cc
        have HOB := Lib.hid (fun (W : World) (d' : Ids) (m' : Nat) (h' : Is W H d' (mkS s nn cc) m') => mkS_ob hce he h')
        have hbn := hb1 (mkA s nn)
        rw [if_pos rfl] at hbn
        have HR3 := Lib.hid (show (mkS s nn cc).c = s.c ∧ (mkS s nn cc).ce.length = s.ce.length ∧ (mkS s nn cc).ws.length = s.ws.length from ⟨r1, by rw [r2], r3⟩)
        have HBN := Lib.hid hbn
        have HMAD := Lib.hid hmad
        have HNI := Lib.hid (show ((mkA s nn : Nat) : Int) ∉ intsN al from fun hm => by
          obtain ⟨x, hx, e⟩ := mem_ints.1 hm
          obtain rfl : x = mkA s nn := by omega
          exact hnin hx)
        have hall : mkA s nn ≤ 1048576 := by
          have := hce.wf.words
          rw [HMK.out.ce.hc, HN.out] at this
          omega
        clear hce htt hnin hmad hb1 ha1 ha2 r1 r2 r3 hbn he
        generalize mkS s nn cc = s2 at *
        generalize mkA s nn = a at *
        go_wp2_with fail
        refine HMG.out.mono ?_
        rintro e w6 ⟨rfl, hT6⟩
        obtain ⟨d6, hM6⟩ := HMK.out.step hT6 HR3.out.1 HR3.out.2.1 HR3.out.2.2
        obtain ⟨ho1, ho2⟩ := HOB.out _ _ _ hM6.ce.is
        have HM6 := Lib.hid hM6
        have HZ0 := Lib.hid (show Zf s2 a nn 0 s2.ws from ⟨rfl, rfl, fun k' _ h => ho2 k' h⟩)
        have HO1 := Lib.hid ho1
        have HIN := Lib.hid (show Calls Tryz.prog 39 #[.slice pa (intsN al).length ca, .int .i64 (a : Int)] w6 fun e w' => e = .returned (.bool false) ∧ w6 = w' from by
          have h1 := in_any pa ca (intsN al) (a : Int) w6 (Rd.of_owns hM6.ra).rd0 (by rw [intsN_length]; omega)
          rw [decide_eq_false HNI.out] at h1
          exact h1)
        clear hT6 hM6 ho1 ho2 HMG HMK HOB HNI HR3
        go_wp2_with fail
        refine HIN.out.mono ?_
        rintro e w7 ⟨rfl, rfl⟩
        go_wp2_with fail
        go_loopw [15] (fun x wr => ∃ (k : Nat) (dd : Ids) (ws : List Nat) (m : Nat), k ≤ nn ∧ x = .int .i64 (k : Int) ∧ m ≤ 400 * j + 160 + 4 * k ∧ Zf s2 a nn k ws ∧ Mk w wr H dd (ww s2 ws) m d n nc (intsN al) (intsN fl) pa ca pf cf) (fun x _ => nn - (intOf x).toNat)
        case atStart => exact ⟨0, d6, s2.ws, _, Nat.zero_le _, rfl, by omega, HZ0.out, HM6.out⟩
        case round =>
          clear HM6 HZ0 HIN
          obtain ⟨k, d7, ws, m7, hk, rfl, hm7, hz, hM⟩ := hrel
          have k1 : (0 : Int) ≤ (k : Int) := Int.natCast_nonneg _
          by_cases hkn : k < nn
          · have k2 : (k : Int) < (nn : Int) := by omega
            have hld := load_any (a : Int) (k : Int) wr hM.ce.is (hM.ce.tabs HT.out) (by omega)
            obtain ⟨e1, e2⟩ := hz.load hM.ce.is.wf HBN.out HO1.out hkn
            rw [e1, e2] at hld
            obtain ⟨s1, hz2⟩ := hz.store hM.ce.is.wf HBN.out HO1.out hkn
            have HLD := Lib.hid hld
            have HMQ := Lib.hid hM
            have HZ2 := Lib.hid hz2
            have HS1 := Lib.hid s1
            clear hld e1 e2 s1 hz2 hM hz
            go_wp2_with fail
            refine HLD.out.mono ?_
            rintro e w8 ⟨rfl, hT8⟩
            obtain ⟨d8, hM8⟩ := HMQ.out.step hT8 rfl rfl rfl
            have hst := storeF_any (a : Int) (k : Int) (a : Int) w8 hM8.ce.is (hM8.ce.tabs HT.out) (by omega)
            rw [HS1.out, if_pos rfl, Int.toNat_natCast, Int.toNat_natCast] at hst
            have HST := Lib.hid hst
            have HM8 := Lib.hid hM8
            clear hT8 hM8 hst HMQ HLD HS1
            go_wp2_with fail
            refine HST.out.mono ?_
            rintro e w9 ⟨rfl, hT9⟩
            obtain ⟨d9, hM9⟩ := HM8.out.step hT9 rfl rfl (by show (ws.set _ _).length = ws.length; rw [List.length_set])
            have HM9 := Lib.hid hM9
            clear hT9 hM9 HM8 HST
            go_wp2
            go_roundw
            case rel => exact ⟨k + 1, d9, _, _, by omega, by go_num, by omega, HZ2.out, HM9.out⟩
            case measure => simp [intOf]; omega
          · obtain rfl : k = nn := by omega
            have HMQ := Lib.hid hM
            clear hM hz
            go_wp2_with (first
              | (at_builtin; refine wpList_append_one rfl _ _ rfl wr (w.heap.size + 1) pa ca (intsN al) (a : Int) rfl rfl HMQ.out.ra rfl (by rw [intsN_length]; omega) (by have := HMQ.out.ce.bel.size; have := HMQ.out.ce.box.lt; omega) ?_; intro p5 c5 w10 ho5 hC5 hR5; have HM10 := Lib.hid (HMQ.out.growA hC5 hR5 ho5); clear ho5 hC5 hR5)
              | (at_builtin; refine wpList_append_one rfl _ _ rfl w10 (w.heap.size + 1) pf cf (intsN fl) (k : Int) rfl rfl HM10.out.rf rfl (by rw [intsN_length, HMD.out.len]; omega) (by have := HM10.out.ce.bel.size; have := HM10.out.ce.box.lt; omega) ?_; intro p6 c6 w11 ho6 hC6 hR6; have HM11 := Lib.hid (HM10.out.growF hC6 hR6 ho6); clear ho6 hC6 hR6))
            go_roundw
            case rel => 
              have e1 : intsN al ++ [(a : Int)] = intsN (al ++ [a]) := by simp [intsN]
              have e2 : intsN fl ++ [(k : Int)] = intsN (fl ++ [k]) := by simp [intsN]
              have hq := HM11.out
              rw [e1, e2] at hq
              exact ⟨j + 1, d7, _, m7, al ++ [a], fl ++ [k], p5, c5, p6, c6, by omega, by go_num, by rw [← e1, List.length_append]; rfl, by rw [← e2, List.length_append]; rfl, by omega, by rw [List.length_append, List.length_singleton]; omega, HMAD.out.words ws, hq⟩
            case measure => simp [intOf]; omega
      · have h10 : mkE s nn cc = 10 := by
          unfold mkE at he ⊢
          rw [if_pos ⟨n0, n1⟩] at he ⊢
          have hcb : colB (cc : Int) = true := by unfold colB; rcases (show cc = 0 ∨ cc = 1 by omega) with e | e <;> subst e <;> rfl
          rw [if_pos hcb] at he ⊢
          split
          · rename_i h; rw [if_pos h] at he; exact absurd rfl he
          · rfl
        have hmb := make_bad (nn : Int) (cc : Int) wr hce htt (by omega) he
        rw [h10] at hmb
        have HMB := Lib.hid hmb
        clear hce htt he h10 hmb
        go_wp2_with fail
        refine HMB.out.mono ?_
        rintro e w6 ⟨rfl, hT6⟩
        obtain ⟨d6, hM6⟩ := HMK.out.step hT6 rfl rfl rfl
        have HM6 := Lib.hid hM6
        clear hT6 hM6 HMB HMK
        go_wp2
        go_roundw
        case rel => exact ⟨j + 1, d6, s, m + 160, al, fl, pa, ca, pf, cf, by omega, by go_num, rfl, rfl, by omega, by omega, HMD.out, HM6.out⟩
        case measure => simp [intOf]; omega
    · obtain rfl : j = zb.length := by omega
      clear hMk hMd
      have hla : (intsN al).length = al.length := intsN_length al
      have hlf : (intsN fl).length = al.length := by rw [intsN_length]; exact HMD.out.len
      have hrd := Rd.of_owns HMK.out.ra
      have hrf := Rd.of_owns HMK.out.rf
      have HLF := Lib.hid hlf
      rw [hla, hlf]
      generalize hL : al.length = L at *
      by_cases hz : L = 0
      · subst hz
        clear hrd hrf hlf hla
        go_wp2
        go_ret
        exact ⟨rfl, HMK.out.ce.bel⟩
      · obtain ⟨t, ht, htl⟩ : ∃ t : Nat, gg % L = t ∧ t < L := ⟨_, rfl, Nat.mod_lt _ (by omega)⟩
        have hL0 : ¬ (L : Int) = 0 := by omega
        have hL2 : ((L : Int) == 0) = false := by rw [beq_eq_false_iff_ne]; omega
        have hmod : (gg : Int) % (L : Int) = (t : Int) := by rw [← ht, Int.natCast_emod]
        have hm2 : (gg : Int).tmod (L : Int) = (t : Int) := by rw [Int.tmod_eq_emod_of_nonneg (by omega)]; exact hmod
        have t1 : (0 : Int) ≤ (t : Int) := Int.natCast_nonneg _
        have t2 : (t : Int) < (L : Int) := by omega
        have g1 : (0 : Int) ≤ (gg : Int) := Int.natCast_nonneg _
        have g2 : (gg : Int) < 256 := by omega
        obtain ⟨ga, offa, rfl, hca⟩ := hrd.at (j := t) (by rw [hla]; exact htl)
        obtain ⟨gf, offf, rfl, hcf⟩ := hrf.at (j := t) (by rw [hlf]; exact htl)
        have ea : (intsN al).getD t 0 = ((al.getD t 0 : Nat) : Int) := by simp [intsN, List.getD_eq_getElem?_getD, hL, htl]
        have ef : (intsN fl).getD t 0 = ((fl.getD t 0 : Nat) : Int) := by
          have := HMD.out.len
          simp [intsN, List.getD_eq_getElem?_getD, show t < fl.length by omega]
        rw [ea] at hca
        rw [ef] at hcf
        have hta : t < al.length := by omega
        have hmem : al.getD t 0 ∈ al := by
          rw [List.getD_eq_getElem?_getD, List.getElem?_eq_getElem hta]
          exact List.getElem_mem hta
        have hbn := HMD.out.born _ hmem
        have hcl := HMD.out.cl t hta
        have hle := HMD.out.le t hta
        generalize al.getD t 0 = a at *
        generalize fl.getD t 0 = n5 at *
        obtain ⟨e1, e2⟩ := fr_next (s := s) hcl hle
        have hfr := free_any (a : Int) wr HMK.out.ce.is (HMK.out.ce.tabs HT.out) (by omega)
        have hfe : frE s (a : Int) = 0 := by rw [frE, bnI_nat, if_pos hbn]
        rw [hfe, if_pos rfl, Int.toNat_natCast] at hfr
        have HFR := Lib.hid hfr
        have HE1 := Lib.hid e1
        have HE2 := Lib.hid e2
        have HCF := Lib.hid hcf
        have HCA := Lib.hid hca
        have hag := HMK.out.na ga rfl
        have hfg := HMK.out.nf gf rfl
        have hag5 := fun (W : World) (h : To wr W H dd (frS s a) (m + 1)) => h.cell hca hag
        have hfg5 := fun (W : World) (h : To wr W H dd (frS s a) (m + 1)) => h.cell hcf hfg
        have HAG := Lib.hid hag5
        have HFG := Lib.hid hfg5
        have hab : ((a : Int) == (a : Int)) = true := by simp
        clear hfr e1 e2 hrd hrf hla hlf ea ef hmem hcl hle hfe hag hfg hag5 hfg5 hbn hcf
        go_wp2_with fail
        refine HFR.out.mono ?_
        rintro e w5 ⟨rfl, hT5⟩
        have hca5 := HAG.out _ hT5
        have hcf5 := HFG.out _ hT5
        obtain ⟨d5, hM5⟩ := HMK.out.step hT5 rfl rfl (by show (s.ws.set _ _).length = _; rw [List.length_set])
        have hmg := make_good (n5 : Int) 0 w5 hM5.ce.is (hM5.ce.tabs HT.out) (by omega) HE1.out
        rw [HE2.out] at hmg
        have HMG := Lib.hid hmg
        have HM5 := Lib.hid hM5
        have HCA5 := Lib.hid hca5
        obtain ⟨r1, r2, r3⟩ := mkS_rest (frS s a) n5 0
        have HR3 := Lib.hid (show (mkS (frS s a) n5 0).c = (frS s a).c ∧ (mkS (frS s a) n5 0).ce.length = (frS s a).ce.length ∧ (mkS (frS s a) n5 0).ws.length = (frS s a).ws.length from ⟨r1, by rw [r2], r3⟩)
        clear hT5 hM5 hmg hca5 hca HFR HMK HE1 HE2 HAG HFG HCF HCA r1 r2 r3
        go_wp2_with fail
        refine HMG.out.mono ?_
        rintro e w6 ⟨rfl, hT6⟩
        have hca6 := hT6.cell HCA5.out (HM5.out.na ga rfl)
        obtain ⟨d6, hM6⟩ := HM5.out.step hT6 HR3.out.1 HR3.out.2.1 HR3.out.2.2
        have HPA := Lib.hid (parted_any w6 hM6.ce.is (hM6.ce.tabs HT.out) (by omega) (by rw [hM6.ce.hc]; exact hd4))
        have HM6 := Lib.hid hM6
        clear hT6 hM6 HMG HM5 HCA5 HR3 hcf5
        go_wp2_with (go_at_call 22; refine HPA.out.mono ?_; rintro e w7 ⟨rfl, hb7⟩)
        go_ret
        exact ⟨rfl, HM6.out.ce.bel.trans (hb7.mono HM6.out.ce.bel.size)⟩
end Go.Proofs.YtdldbmpkpjlmmaaGreatDoor.Hp
