/-
  A slot's word, loaded: it links to the next one. The document's example of lists.
-/
import Derived.Test.YtooojajagkbhiaaDoorLisE
import Derived.Test.YtooojajagkbhiaaDoorLisJ
namespace Go.Proofs.YtooojajagkbhiaaDoor.Lis
open Go.RowKit
open Class (isB isB_true isB_false is_any)
open Blk (Cfg TbIs ownB blk kAt rowB BytesP kL cellsK)
open Go.Proofs.YtooojajagkbhiaaDoor.Row (Chg Rd Rd0 same_any)
open Arena (ArIs Two)
open Bits (SetIs)
open Go.Proofs.YtooojajagkbhiaaDoor.Addr (Tabs)

theorem load_link {L A G T I J n m baseL : Nat} {ps : Nat → Option Addr} {hv : Nat → List Nat} (w : World) (h : HasL w L A G T I J n baseL ps hv m) (hm : m < 1000000) {k a : Nat} (hk : k < 4) {l1 l2 : List Nat} (he : hv k = l1 ++ a :: l2) :
    Calls Tryd.prog 18 #[.pointer (some ⟨A, 0, none⟩), .int .i64 a] w fun e w' => ∃ x : Nat, e = .returned (.tuple #[.int .u64 x, .int .i64 0]) ∧ x < 18446744073709551616 ∧ Hdr.isLk x = true ∧ Hdr.nx x = l2.headD 0 ∧ HasL w' L A G T I J n baseL ps hv (m + 1) ∧ Chg (Own L A G I J ps) w w' := by
  obtain ⟨cap, capS, cs, ws, sw, ld, st, h1, h2, h3, h4, h5, h6, h7⟩ := h
  have hc := h2.chain k hk
  rw [he] at hc
  obtain ⟨c1, c2, c3, c4⟩ := hc.mid
  have hz : Arena.codeN ws.length (a : Int) = 0 := by unfold Arena.codeN; rw [if_neg (by omega), if_neg (by omega)]
  have e1 : Arena.getR ws (a : Int) = Arena.wd ws (a - 1) := by rw [Arena.getR, if_pos hz, Int.toNat_natCast]
  have e2 : Arena.oneN ws.length (a : Int) = 1 := if_pos hz
  refine (Arena.load_any w h1.ar h1.ltG (by omega) (a : Int)).mono ?_
  rintro e w' ⟨rfl, ha', ht⟩
  rw [e2] at ha'
  have F := h1.five
  have hl : ∀ k, Own L A G I J ps k → k ≠ A → k ≠ G → w'.heap[k]? = w.heap[k]? := fun k hk n1 n2 => ht.block k (h1.ltO hk) n1 n2
  refine ⟨_, by rw [e1, hz], h2.word _, c3, c4, ⟨cap, capS, cs, ws, sw, ld + 1, st, ⟨h1.ls.kept (hl _ (.inl rfl) F.la F.lg) (fun k hk g hg => hl g (.inr (.inr (.inr (.inr (.inr ⟨k, hk, hg⟩))))) (h1.rows k hk g hg).1 (h1.rows k hk g hg).2.1), ha', set_kept h1.si (hl _ (.inr (.inr (.inr (.inl rfl)))) (Ne.symm F.ai) (Ne.symm F.gi)) (hl _ (.inr (.inr (.inr (.inr (.inl rfl))))) (Ne.symm F.aj) (Ne.symm F.gj)), F, Nat.lt_of_lt_of_le h1.ltG ht.size, Nat.lt_of_lt_of_le h1.ltJ ht.size, h1.rows, Nat.le_trans h1.bs ht.size⟩, h2, h3, h4, by omega, by omega, fun k hk => by have := h7 k hk; omega⟩, own_two ht⟩

theorem made_has {w w' : World} {d : Cfg} {ks : List Nat} {e : Ending} (h : Made w w' d ks e) : ∃ (A G T L I J n capT base : Nat) (p : Option Addr),
    e = .returned (.tuple #[.pointer (some ⟨A, 0, none⟩), .pointer (some ⟨T, 0, none⟩), .pointer (some ⟨L, 0, none⟩)]) ∧ d.b * d.wd = (n : Int) ∧ HasL w' L A G T I J n base (fun _ => none) (fun _ => []) 0 ∧
    TbIs w' T w.heap.size d ks p capT ∧ (∀ j, Own L A G I J (fun _ => none) j → j ≠ T ∧ ¬ rowB p j ∧ w.heap.size ≤ j) ∧ Below w.heap.size w w' := by
  obtain ⟨A, G, T, L, I, J, n, capT, base, p, he, hn, hS, ht, ho, hb⟩ := h
  have hsm := hS.ar.small
  have hlen : (ws0 n).length = n := by simp [ws0]
  rw [hlen] at hsm
  exact ⟨A, G, T, L, I, J, n, capT, base, p, he, hn, ⟨n, _, _, _, _, 0, 0, hS, Held.start n _ rfl, hlen, hsm, Nat.le_refl _, Nat.le_refl _, fun _ _ => by simp⟩, ht, ho, hb⟩

/-- The document's config. -/
def exL : Cfg := ⟨1, 16, 1, 1, 0, 1, 1⟩
theorem exL_right : rightB exL.b exL.wd exL.m exL.r exL.ce exL.lg exL.st = true := by decide
theorem exL_own : ownB exL [0] 1 = true ∧ ownB exL [0] 3 = true := by decide
theorem exL_blk : kAt [0] (blk exL 1) = 0 ∧ kAt [0] (blk exL 3) = 0 := by decide
end Go.Proofs.YtooojajagkbhiaaDoor.Lis
