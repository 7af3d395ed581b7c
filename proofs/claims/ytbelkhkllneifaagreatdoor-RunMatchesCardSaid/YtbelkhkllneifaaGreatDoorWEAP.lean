import Derived.Test.YtbelkhkllneifaaGreatDoorWEAM
import Derived.Test.YtbelkhkllneifaaGreatDoorWEAI
import Derived.Test.YtbelkhkllneifaaGreatDoorWEAO
import Derived.Deep.RegionHeld3
import Derived.Test.YtbelkhkllneifaaGreatDoorWEAJ
import Derived.Test.YtbelkhkllneifaaGreatDoorWEAD
import Derived.Laws.BitsAllLaws
import Derived.Deep.RegionWith
import Derived.BigQuiet
import Derived.Test.YtbelkhkllneifaaGreatDoorWEAL
import Derived.Test.YtbelkhkllneifaaGreatDoorWEAA
import Derived.Deep.OwnRows
import Derived.Laws.Rows
import Derived.Laws.ResultCell
namespace Go.Proofs.YtbelkhkllneifaaGreatDoor
section
open Go.RowKit
open Tx (encT)
def Bk.wS (s : List Kn.C) (L : List Dd.D) : List UInt8 := if Bk.wE s L = 0 then Bk.enc s L else []
def Bk.wV (s : List Kn.C) (L : List Dd.D) : Value := .tuple #[.string (Ty.S (Bk.wS s L)), .int .i64 (Bk.wE s L)]
theorem Bk.wV_bad {s : List Kn.C} {L : List Dd.D} {q : Int} (h : Bk.wE s L = q) (hq : q ≠ 0) : Bk.wV s L = .tuple #[.string (Ty.S []), .int .i64 q] := by
 unfold Bk.wV Bk.wS
 rw [h, if_neg hq]
theorem Bk.wV_ok {s : List Kn.C} {L : List Dd.D} (h : Bk.wE s L = 0) : Bk.wV s L = .tuple #[.string (Ty.S (Bk.enc s L)), .int .i64 0] := by
 unfold Bk.wV Bk.wS
 rw [h, if_pos rfl]
theorem Bk.encC_append : ∀ (a b : List Kn.C) (i : Nat) (L : List Dd.D), Bk.encC i (a ++ b) L = Bk.encC i a L ++ Bk.encC (i + a.length) b L
 | [], b, i, L => rfl
 | c :: a, b, i, L => by
   show encT (Cl.enc c (Bk.col L i)) ++ Bk.encC (i + 1) (a ++ b) L = (encT (Cl.enc c (Bk.col L i)) ++ Bk.encC (i + 1) a L) ++ Bk.encC (i + (a.length + 1)) b L
   rw [Bk.encC_append a b (i + 1) L, List.append_assoc, show i + 1 + a.length = i + (a.length + 1) by omega]
theorem Bk.encC_take {s : List Kn.C} {k : Nat} {c : Kn.C} (h : s[k]? = some c) (L : List Dd.D) : Bk.encC 0 (s.take (k + 1)) L = Bk.encC 0 (s.take k) L ++ encT (Cl.enc c (Bk.col L k)) := by
 obtain ⟨hk, rfl⟩ := List.getElem?_eq_some_iff.1 h
 rw [List.take_succ_eq_append_getElem hk, Bk.encC_append, List.length_take, Nat.min_eq_left (by omega), Nat.zero_add]
 congr 1
 unfold Bk.encC Bk.encC
 rw [List.append_nil]
theorem Bk.encC_len {s : List Kn.C} {L : List Dd.D} (h : ∀ j c, s[j]? = some c → (Cl.enc c (Bk.col L j)).length ≤ 1048576) : ∀ k, k ≤ s.length → (Bk.encC 0 (s.take k) L).length ≤ k * 1048585
 | 0, _ => by simp [Bk.encC]
 | k + 1, hk => by
   have hx := List.getElem?_eq_getElem (show k < s.length by omega)
   have ih := Bk.encC_len h k (by omega)
   have h1 := h k _ hx
   rw [Bk.encC_take hx, List.length_append]
   unfold encT
   rw [List.length_append]
   have := Ty.encU_len9 (Cl.enc s[k] (Bk.col L k)).length
   omega
end
section
open Go.RowKit
open Tx (encT)
theorem Bk.col_i64 {s : List Kn.C} {L : List Dd.D} (hf : ∀ d ∈ L, Dd.fitE s d = 0) (hi : ∀ d ∈ L, ∀ x ∈ d.row, Ty.I64 x.n) {j : Nat} {c : Kn.C} (hc : s[j]? = some c) : ∀ v ∈ Bk.col L j, Ty.I64 v.n := fun v hv => by
 obtain ⟨d, hd, hh, rfl⟩ := Bk.mem_col.1 hv
 have hcol : (Dd.cols s d.gone)[j]? = some c := Bk.cols_at.2 ⟨hc, Bk.has_zero.1 hh⟩
 have hj : j < d.row.length := by rw [(Dd.fitE_0 (hf d hd)).2.1]; exact (List.getElem?_eq_some_iff.1 hcol).1
 rw [List.getD_eq_getElem?_getD, List.getElem?_eq_getElem hj, Option.getD_some]
 exact hi d hd _ (List.getElem_mem hj)
theorem Bk.col_has {s : List Kn.C} {L : List Dd.D} (hf : ∀ d ∈ L, Dd.fitE s d = 0) {j : Nat} {c : Kn.C} (hc : s[j]? = some c) : ∀ d ∈ L, Bk.has j d = true → j < d.row.length := fun d hd hh => by
 have hcol : (Dd.cols s d.gone)[j]? = some c := Bk.cols_at.2 ⟨hc, Bk.has_zero.1 hh⟩
 rw [(Dd.fitE_0 (hf d hd)).2.1]
 exact (List.getElem?_eq_some_iff.1 hcol).1
theorem Bk.col_le {L : List Dd.D} (h8 : L.length ≤ 8) (j : Nat) : (Bk.col L j).length ≤ 8 := by
 unfold Bk.col
 rw [List.length_map]
 exact Nat.le_trans (List.length_filter_le _ _) h8
def Bk.pre (s : List Kn.C) (L : List Dd.D) (k : Nat) : List UInt8 := Ty.encU L.length ++ (Bk.bools L ++ Bk.encC 0 (s.take k) L)
theorem Bk.pre_all (s : List Kn.C) (L : List Dd.D) : Bk.pre s L s.length = Bk.enc s L := by
 unfold Bk.pre Bk.enc
 rw [List.take_length]
theorem Bk.pre_next {s : List Kn.C} {k : Nat} {c : Kn.C} (h : s[k]? = some c) (L : List Dd.D) : Bk.pre s L (k + 1) = Bk.pre s L k ++ encT (Cl.enc c (Bk.col L k)) := by
 unfold Bk.pre
 rw [Bk.encC_take h, ← List.append_assoc (Bk.bools L), ← List.append_assoc (Ty.encU L.length)]
theorem Bk.meas2 {k n : Nat} (h : k < n) : n - (k + 1) < n - k := by omega
theorem Bk.pre_size {s : List Kn.C} {L : List Dd.D} {k : Nat} (h1 : (Bk.bools L).length = 1) (h2 : (Bk.encC 0 (s.take k) L).length ≤ k * 1048585) (h3 : k ≤ 6) : (Ty.S (Bk.pre s L k)).size ≤ 6291520 := by
 rw [Ty.size_S]
 unfold Bk.pre
 rw [List.length_append, List.length_append, h1]
 have := Ty.encU_len9 L.length
 omega
theorem Bk.txt_size {E : List UInt8} (h : E.length ≤ 1048576) : (Ty.S (encT E)).size ≤ 1048585 := by
 rw [Ty.size_S]
 unfold encT
 rw [List.length_append]
 have := Ty.encU_len9 E.length
 omega
end
section
open Go.RowKit
theorem Fr.Tn_last (j r : Nat) : Fr.Tn (j + 1) r = Fr.T (Fr.Tn j r) := Fr.Tn_add j 1 r
theorem Fr.T_odd {r : Nat} (h : r % 2 = 1) : Fr.T r = r / 2 ^^^ 2197175160 := by unfold Fr.T; rw [if_pos h]; rfl
theorem Fr.T_even {r : Nat} (h : r % 2 = 0) : Fr.T r = r / 2 := by unfold Fr.T; rw [if_neg (by omega), Nat.xor_zero]
theorem Fr.reg_snoc (l : List UInt8) (b : UInt8) (r : Nat) : Fr.reg r (l ++ [b]) = Fr.Tn 8 (Fr.reg r l ^^^ b.toNat) := by
 rw [Fr.reg_append]
 rfl
theorem Fr.reg_step {s : ByteArray} {k : Nat} (h : k < s.size) (r : Nat) : Fr.reg r (s.data.toList.take (k + 1)) = Fr.Tn 8 (Fr.reg r (s.data.toList.take k) ^^^ (s[k]).toNat) := by
 have hl : k < s.data.toList.length := by rw [Ty.length_data]; exact h
 rw [List.take_succ_eq_append_getElem hl, Fr.reg_snoc]
 rfl
theorem Fr.four_buf (n : Nat) (hn : n < 4294967296) (w : World) : Ty.Buf w.heap.size (w.alloc (.cells #[.int .u8 ((n : Int) % 256), .int .u8 ((n : Int) / 256 % 256), .int .u8 ((n : Int) / 65536 % 256), .int .u8 ((n : Int) / 16777216)] 5)) (.slice (some ⟨w.heap.size, 0, none⟩) 4 4) (Fr.four n) := by
 refine ⟨by simp, .inr ⟨w.heap.size, 4, _, rfl, Nat.le_refl _, heap_alloc_new w _, Nat.le_refl _, by unfold maxLen; omega, by simp, ?_⟩⟩
 have e0 := Ty.toNat_ofNat8 (n % 256) (by omega)
 have e1 := Ty.toNat_ofNat8 (n / 256 % 256) (by omega)
 have e2 := Ty.toNat_ofNat8 (n / 65536 % 256) (by omega)
 have e3 := Ty.toNat_ofNat8 (n / 16777216 % 256) (by omega)
 have i3 : ((n / 16777216 % 256 : Nat) : Int) = (n : Int) / 16777216 := by omega
 simp only [Fr.four, List.map_cons, List.map_nil, Ty.B, e0, e1, e2, e3, i3]
 simp
def Fr.at4 (s : ByteArray) : Nat := Fr.val (s.data.toList.take 4)
theorem Fr.val4 {s : ByteArray} (h : 4 ≤ s.size) : Fr.val (s.data.toList.take 4) = s[0].toNat + s[1].toNat * 256 + s[2].toNat * 65536 + s[3].toNat * 16777216 := by
 have hl : 4 ≤ s.data.toList.length := by rw [Ty.length_data]; exact h
 have e : s.data.toList.take 4 = [s[0], s[1], s[2], s[3]] := by
  refine List.ext_getElem (by rw [List.length_take]; simp; omega) fun i h1 h2 => ?_
  have hi : i < 4 := by simpa using h2
  rw [List.getElem_take]
  rcases (by omega : i = 0 ∨ i = 1 ∨ i = 2 ∨ i = 3) with rfl | rfl | rfl | rfl <;> rfl
 rw [e]
 simp only [Fr.val]
 omega
theorem Fr.S_add (a b : List UInt8) : Ty.S a ++ Ty.S b = Ty.S (a ++ b) := by
 apply ByteArray.ext
 apply Array.toList_inj.1
 rw [ByteArray.data_append, Array.toList_append]
 simp [Ty.S]
theorem Fr.four_mod (n : Nat) : Fr.four (n % 4294967296) = Fr.four n := by
 unfold Fr.four
 rw [show n % 4294967296 % 256 = n % 256 by omega, show n % 4294967296 / 256 % 256 = n / 256 % 256 by omega, show n % 4294967296 / 65536 % 256 = n / 65536 % 256 by omega, show n % 4294967296 / 16777216 % 256 = n / 16777216 % 256 by omega]
end
section
open Go.RowKit
def Rn.pre (s : List Kn.C) (L : List Dd.D) (k : Nat) : List UInt8 := ((List.range k).map (Rn.bk L)).flatMap fun b => Fr.frm (Bk.enc s b)
def Rn.ipre (s : List Kn.C) (L : List Dd.D) (k : Nat) : List UInt8 := Ty.encU (Rn.nb L.length) ++ ((List.range k).map (Rn.bk L)).flatMap fun b => Ty.encU (Fr.frm (Bk.enc s b)).length
theorem Rn.pre_next (s : List Kn.C) (L : List Dd.D) (k : Nat) : Rn.pre s L (k + 1) = Rn.pre s L k ++ Fr.frm (Bk.enc s (Rn.bk L k)) := by
 unfold Rn.pre
 rw [List.range_succ, List.map_append, List.flatMap_append]
 simp
theorem Rn.ipre_next (s : List Kn.C) (L : List Dd.D) (k : Nat) : Rn.ipre s L (k + 1) = Rn.ipre s L k ++ Ty.encU (Fr.frm (Bk.enc s (Rn.bk L k))).length := by
 unfold Rn.ipre
 rw [List.range_succ, List.map_append, List.flatMap_append, List.append_assoc]
 simp
theorem Rn.enc_is (s : List Kn.C) (L : List Dd.D) : Rn.enc s L = Rn.pre s L (Rn.nb L.length) ++ Fr.frm (Rn.ipre s L (Rn.nb L.length)) := by
 unfold Rn.enc Rn.texts Rn.pre
 rw [List.flatMap_append, List.flatMap_map]
 simp only [List.flatMap_cons, List.flatMap_nil, List.append_nil]
 rfl
theorem Rn.wE_k {s : List Kn.C} {L : List Dd.D} (h : Kn.right s = false) : Rn.wE s L = 4 := by unfold Rn.wE; rw [if_neg (by rw [h]; decide)]
theorem Rn.wE_n {s : List Kn.C} {L : List Dd.D} (h : Kn.right s = true) (h1 : L.length = 0) : Rn.wE s L = 1 := by unfold Rn.wE; rw [if_pos h, if_pos h1]
theorem Rn.wE_f {s : List Kn.C} {L : List Dd.D} (h : Kn.right s = true) (h1 : L.length ≠ 0) (h2 : Bk.fitsE s L ≠ 0) : Rn.wE s L = Bk.fitsE s L := by unfold Rn.wE; rw [if_pos h, if_neg h1, if_neg h2]
theorem Rn.wE_l {s : List Kn.C} {L : List Dd.D} (h : Kn.right s = true) (h1 : L.length ≠ 0) (h2 : Bk.fitsE s L = 0) (h3 : 1048576 < (Rn.enc s L).length) : Rn.wE s L = 3 := by unfold Rn.wE; rw [if_pos h, if_neg h1, if_pos h2, if_pos h3]
theorem Rn.wE_g {s : List Kn.C} {L : List Dd.D} (h : Kn.right s = true) (h1 : L.length ≠ 0) (h2 : Bk.fitsE s L = 0) (h3 : ¬ 1048576 < (Rn.enc s L).length) : Rn.wE s L = 0 := by unfold Rn.wE; rw [if_pos h, if_neg h1, if_pos h2, if_neg h3]
theorem Rn.wV_bad {s : List Kn.C} {L : List Dd.D} {q : Int} (h : Rn.wE s L = q) (hq : q ≠ 0) : Rn.wV s L = .tuple #[.string (Ty.S []), .int .i64 q] := by
 unfold Rn.wV Rn.wS
 rw [h, if_neg hq]
theorem Rn.wV_ok {s : List Kn.C} {L : List Dd.D} (h : Rn.wE s L = 0) : Rn.wV s L = .tuple #[.string (Ty.S (Rn.enc s L)), .int .i64 0] := by
 unfold Rn.wV Rn.wS
 rw [h, if_pos rfl]
theorem Rn.enc_few {s : List Kn.C} {b : List Dd.D} (h : Bk.wE s b = 0) : (Bk.enc s b).length ≤ 6291520 := by
 obtain ⟨hr, h1, h8, hf, _⟩ := Bk.wE_0 h
 have hln := Bk.encC_len (s := s) (L := b) fun j c hc => Bk.enc_le (Bk.col_fit hr h8 hf hc) (Bk.col_le h8 j)
 have := Bk.pre_size (s := s) (L := b) (k := s.length) (by rw [Bk.bools_one h1 h8]; rfl) (hln s.length (Nat.le_refl _)) (Kn.right_len hr).2
 rw [Bk.pre_all, Ty.size_S] at this
 exact this
theorem Rn.pre_few {s : List Kn.C} {L : List Dd.D} (h : ∀ i, i < Rn.nb L.length → Bk.wE s (Rn.bk L i) = 0) : ∀ k, k ≤ Rn.nb L.length → (Rn.pre s L k).length ≤ k * 6291528 ∧ (Rn.ipre s L k).length ≤ 9 + k * 9
 | 0, _ => by
   refine ⟨by simp [Rn.pre], ?_⟩
   unfold Rn.ipre
   simp only [List.range_zero, List.map_nil, List.flatMap_nil, List.append_nil, Nat.zero_mul, Nat.add_zero]
   exact Ty.encU_len9 _
 | k + 1, hk => by
   obtain ⟨h1, h2⟩ := Rn.pre_few h k (by omega)
   rw [Rn.pre_next, Rn.ipre_next, List.length_append, List.length_append, Fr.frm_len]
   have h3 := Rn.enc_few (h k (by omega))
   have h4 := Ty.encU_len9 ((Bk.enc s (Rn.bk L k)).length + 8)
   omega
end
section
open Go.RowKit
abbrev Zn.cs (z : Zn.Zo) : Array Value := #[.bool z.nulls, .bool z.values, .bool z.lo.null, .int .i64 z.lo.n, .string z.lo.s, .bool z.hi.null, .int .i64 z.hi.n, .string z.hi.s]
def Zn.Blk (w : World) (q : Nat) (z : Zn.Zo) : Prop := w.heap[q]? = some (.cells (Zn.cs z) 68 (0, 0))
theorem Zn.Blk.lt {w : World} {q : Nat} {z : Zn.Zo} (h : Zn.Blk w q z) : q < w.heap.size := lt_of_block h
theorem Zn.Blk.new (w : World) (z : Zn.Zo) : Zn.Blk (w.alloc (.cells (Zn.cs z) 68)) w.heap.size z := heap_alloc_new w _
theorem Zn.Blk.kept {w w' : World} {q : Nat} {z : Zn.Zo} (h : Zn.Blk w q z) (g : Below w.heap.size w w') : Zn.Blk w' q z := (g.block q h.lt).trans h
theorem Zn.Blk.alloc {w : World} {q : Nat} {z : Zn.Zo} (h : Zn.Blk w q z) (o : Obj) : Zn.Blk (w.alloc o) q z := h.kept ((Below.refl _ w).alloc (Nat.le_refl _) o)
theorem Zn.Blk.drew {w : World} {q : Nat} {z : Zn.Zo} (h : Zn.Blk w q z) : Zn.Blk w.drew q z := h
theorem Zn.Blk.other {w : World} {q g : Nat} {z : Zn.Zo} (h : Zn.Blk w q z) (hne : q ≠ g) (i : Nat) (v : Value) : Zn.Blk (w.setCell ⟨g, i, none⟩ v) q z := (heap_setCell_other w ⟨g, i, none⟩ q v hne).trans h
theorem Zn.Blk.cells {w : World} {q : Nat} {z : Zn.Zo} (h : Zn.Blk w q z) :
 w.cell? ⟨q, 0, none⟩ = some (.bool z.nulls) ∧ w.cell? ⟨q, 1, none⟩ = some (.bool z.values) ∧ w.cell? ⟨q, 2, none⟩ = some (.bool z.lo.null) ∧ w.cell? ⟨q, 3, none⟩ = some (.int .i64 z.lo.n) ∧ w.cell? ⟨q, 4, none⟩ = some (.string z.lo.s)
 ∧ w.cell? ⟨q, 5, none⟩ = some (.bool z.hi.null) ∧ w.cell? ⟨q, 6, none⟩ = some (.int .i64 z.hi.n) ∧ w.cell? ⟨q, 7, none⟩ = some (.string z.hi.s) := by
 unfold Zn.Blk at h
 refine ⟨?_, ?_, ?_, ?_, ?_, ?_, ?_, ?_⟩ <;> simp [World.cell?, h]
theorem Zn.Blk.frozen {w : World} {q : Nat} {z : Zn.Zo} (h : Zn.Blk w q z) (i : Nat) : w.frozen? ⟨q, i, none⟩ = false := by
 unfold Zn.Blk at h
 simp [World.frozen?, h]
theorem Zn.Blk.frozens {w : World} {q : Nat} {z : Zn.Zo} (h : Zn.Blk w q z) : w.frozen? ⟨q, 0, none⟩ = false ∧ w.frozen? ⟨q, 1, none⟩ = false ∧ w.frozen? ⟨q, 2, none⟩ = false ∧ w.frozen? ⟨q, 3, none⟩ = false ∧ w.frozen? ⟨q, 4, none⟩ = false
 ∧ w.frozen? ⟨q, 5, none⟩ = false ∧ w.frozen? ⟨q, 6, none⟩ = false ∧ w.frozen? ⟨q, 7, none⟩ = false :=
 ⟨h.frozen 0, h.frozen 1, h.frozen 2, h.frozen 3, h.frozen 4, h.frozen 5, h.frozen 6, h.frozen 7⟩
theorem Zn.Blk.set0 {w : World} {q : Nat} {z : Zn.Zo} (h : Zn.Blk w q z) (b : Bool) : Zn.Blk (w.setCell ⟨q, 0, none⟩ (.bool b)) q ⟨b, z.values, z.lo, z.hi⟩ :=
 heap_setCell_same w q 0 _ _ _ h
theorem Zn.Blk.set1 {w : World} {q : Nat} {z : Zn.Zo} (h : Zn.Blk w q z) (b : Bool) : Zn.Blk (w.setCell ⟨q, 1, none⟩ (.bool b)) q ⟨z.nulls, b, z.lo, z.hi⟩ :=
 heap_setCell_same w q 1 _ _ _ h
theorem Zn.Blk.set4 {w : World} {q : Nat} {z : Zn.Zo} (h : Zn.Blk w q z) (s : ByteArray) : Zn.Blk (w.setCell ⟨q, 4, none⟩ (.string s)) q ⟨z.nulls, z.values, ⟨z.lo.null, z.lo.n, s⟩, z.hi⟩ :=
 heap_setCell_same w q 4 _ _ _ h
theorem Zn.Blk.set7 {w : World} {q : Nat} {z : Zn.Zo} (h : Zn.Blk w q z) (s : ByteArray) : Zn.Blk (w.setCell ⟨q, 7, none⟩ (.string s)) q ⟨z.nulls, z.values, z.lo, ⟨z.hi.null, z.hi.n, s⟩⟩ :=
 heap_setCell_same w q 7 _ _ _ h
theorem Zn.Blk.setLo {w : World} {q : Nat} {z : Zn.Zo} (h : Zn.Blk w q z) (v : Kn.V) : Zn.Blk (((w.setCell ⟨q, 2, none⟩ (.bool v.null)).setCell ⟨q, 3, none⟩ (.int .i64 v.n)).setCell ⟨q, 4, none⟩ (.string v.s)) q ⟨z.nulls, z.values, v, z.hi⟩ :=
 heap_setCell_same _ q 4 _ _ _ (heap_setCell_same _ q 3 _ _ _ (heap_setCell_same _ q 2 _ _ _ h))
theorem Zn.Blk.setHi {w : World} {q : Nat} {z : Zn.Zo} (h : Zn.Blk w q z) (v : Kn.V) : Zn.Blk (((w.setCell ⟨q, 5, none⟩ (.bool v.null)).setCell ⟨q, 6, none⟩ (.int .i64 v.n)).setCell ⟨q, 7, none⟩ (.string v.s)) q ⟨z.nulls, z.values, z.lo, v⟩ :=
 heap_setCell_same _ q 7 _ _ _ (heap_setCell_same _ q 6 _ _ _ (heap_setCell_same _ q 5 _ _ _ h))
theorem Zn.below_set {B : Nat} {w w' : World} {q : Nat} (g : Below B w w') (h : B ≤ q) (i : Nat) (v : Value) : Below B w (w'.setCell ⟨q, i, none⟩ v) :=
 ⟨g.os, g.tape, g.output, by have := g.size; simpa [World.setCell] using this, fun b hb => (heap_setCell_other w' ⟨q, i, none⟩ b v (by show b ≠ q; omega)).trans (g.block b hb)⟩
theorem Zn.below_set3 {B : Nat} {w w' : World} {q : Nat} (g : Below B w w') (h : B ≤ q) (i j k : Nat) (x y z : Value) : Below B w (((w'.setCell ⟨q, i, none⟩ x).setCell ⟨q, j, none⟩ y).setCell ⟨q, k, none⟩ z) :=
 Zn.below_set (Zn.below_set (Zn.below_set g h i x) h j y) h k z
def Zn.put (w : World) (q : Nat) (z : Zn.Zo) : World := (((((((w.setCell ⟨q, 0, none⟩ (.bool z.nulls)).setCell ⟨q, 1, none⟩ (.bool z.values)).setCell ⟨q, 2, none⟩ (.bool z.lo.null)).setCell ⟨q, 3, none⟩ (.int .i64 z.lo.n)).setCell ⟨q, 4, none⟩ (.string z.lo.s)).setCell ⟨q, 5, none⟩ (.bool z.hi.null)).setCell ⟨q, 6, none⟩ (.int .i64 z.hi.n)).setCell ⟨q, 7, none⟩ (.string z.hi.s)
theorem Zn.put_below {B : Nat} {w w' : World} {q : Nat} (g : Below B w w') (h : B ≤ q) (z : Zn.Zo) : Below B w (Zn.put w' q z) :=
 Zn.below_set (Zn.below_set (Zn.below_set (Zn.below_set (Zn.below_set (Zn.below_set (Zn.below_set (Zn.below_set g h _ _) h _ _) h _ _) h _ _) h _ _) h _ _) h _ _) h _ _
theorem Zn.Blk.put {w : World} {q : Nat} {y : Zn.Zo} (h : Zn.Blk w q y) (z : Zn.Zo) : Zn.Blk (Zn.put w q z) q z :=
 (((h.set0 z.nulls).set1 z.values).setLo z.lo).setHi z.hi
abbrev Zn.acs (a : Zn.As) : Array Value := #[.int .i64 a.op, .int .i64 a.col, .bool a.v.null, .int .i64 a.v.n, .string a.v.s]
structure Zn.ABlk (w : World) (q : Nat) (a : Zn.As) : Prop where
 c0 : w.cell? ⟨q, 0, none⟩ = some (.int .i64 a.op)
 c1 : w.cell? ⟨q, 1, none⟩ = some (.int .i64 a.col)
 c2 : w.cell? ⟨q, 2, none⟩ = some (.bool a.v.null)
 c3 : w.cell? ⟨q, 3, none⟩ = some (.int .i64 a.v.n)
 c4 : w.cell? ⟨q, 4, none⟩ = some (.string a.v.s)
theorem Zn.ABlk.lt {w : World} {q : Nat} {a : Zn.As} (h : Zn.ABlk w q a) : q < w.heap.size := World.block_lt_of_cell? w _ h.c0
theorem Zn.ABlk.kept {w w' : World} {q : Nat} {a : Zn.As} (h : Zn.ABlk w q a) (g : Below w.heap.size w w') : Zn.ABlk w' q a :=
 ⟨(g.cell (p := ⟨q, 0, none⟩) h.lt).trans h.c0, (g.cell (p := ⟨q, 1, none⟩) h.lt).trans h.c1, (g.cell (p := ⟨q, 2, none⟩) h.lt).trans h.c2, (g.cell (p := ⟨q, 3, none⟩) h.lt).trans h.c3, (g.cell (p := ⟨q, 4, none⟩) h.lt).trans h.c4⟩
theorem Zn.ABlk.new (w : World) (a : Zn.As) (t : TypeId) : Zn.ABlk (w.alloc (.cells (Zn.acs a) t)) w.heap.size a :=
 ⟨Kn.cell_new w _ t 0 _ rfl, Kn.cell_new w _ t 1 _ rfl, Kn.cell_new w _ t 2 _ rfl, Kn.cell_new w _ t 3 _ rfl, Kn.cell_new w _ t 4 _ rfl⟩
end
section
open Go.RowKit
theorem Kn.Cols.alloc {w : World} {v : Value} {l : List Kn.C} (h : Kn.Cols w v l) (x : Obj) : Kn.Cols (w.alloc x) v l := h.later ((Below.refl _ w).alloc (Nat.le_refl _) x)
theorem Kn.Vals.alloc {w : World} {v : Value} {l : List Kn.V} (h : Kn.Vals w v l) (x : Obj) : Kn.Vals (w.alloc x) v l := h.later ((Below.refl _ w).alloc (Nat.le_refl _) x)
end
section
open Go.RowKit
theorem Kn.drewN_below (w : World) (n : Nat) : Below w.heap.size w (w.drewN n) := Kn.below_drewN (Below.refl _ _) n
end
section
open Go.RowKit
theorem Zn.ops (x : Int) : x = 0 ∨ x = 4 ∨ x = 5 ∨ x = 1 ∨ x = 2 ∨ x = 3 ∨ ((x == 0) = false ∧ (x == 1) = false ∧ (x == 2) = false ∧ (x == 3) = false ∧ (x == 4) = false ∧ (x == 5) = false ∧ x ≠ 0 ∧ x ≠ 1 ∧ x ≠ 2 ∧ x ≠ 3 ∧ x ≠ 4 ∧ x ≠ 5) := by
 simp only [beq_eq_false_iff_ne]
 omega
theorem Zn.boxedA (w : World) (a : Zn.As) (v : Kn.V) (t t' : TypeId) : Zn.ABlk ((w.alloc (.cells #[.int .i64 a.op, .int .i64 a.col, .bool a.v.null, .int .i64 a.v.n, .string a.v.s] t)).alloc (.cells #[.bool v.null, .int .i64 v.n, .string v.s] t')) w.heap.size a ∧
 Kn.At ((w.alloc (.cells #[.int .i64 a.op, .int .i64 a.col, .bool a.v.null, .int .i64 a.v.n, .string a.v.s] t)).alloc (.cells #[.bool v.null, .int .i64 v.n, .string v.s] t')) (w.heap.size + 1) 0 v ∧
 Below w.heap.size w ((w.alloc (.cells #[.int .i64 a.op, .int .i64 a.col, .bool a.v.null, .int .i64 a.v.n, .string a.v.s] t)).alloc (.cells #[.bool v.null, .int .i64 v.n, .string v.s] t')) := by
 refine ⟨(Zn.ABlk.new w a t).kept ((Below.refl _ _).alloc (Nat.le_refl _) _), ?_, ((Below.refl _ w).alloc (Nat.le_refl _) _).alloc (by simp) _⟩
 have := Kn.At.new (w.alloc (.cells #[.int .i64 a.op, .int .i64 a.col, .bool a.v.null, .int .i64 a.v.n, .string a.v.s] t)) v t'
 rwa [World.size_alloc] at this
set_option maxHeartbeats 1000000 in
set_option maxRecDepth 100000 in
theorem Zn.holds_c (a : Zn.As) (v : Kn.V) (w : World) : Calls Tryz.prog 52 #[a.val, v.val] w fun e w' => e = .returned (.bool (Zn.holds a v)) ∧ Below w.heap.size w w' := by
 obtain ⟨⟨a0, a1, a2, a3, a4⟩, ⟨v0, v1, v2⟩, hb⟩ := Zn.boxedA w a v 54 33
 have cC := Kn.compare_c v a.v
 obtain ⟨op, col, ⟨an, ai, sa⟩⟩ := a
 obtain ⟨vn, vi, sv⟩ := v
 unfold Kn.V.val at cC
 simp only at a0 a1 a2 a3 a4 v0 v1 v2 hb cC
 unfold Kn.V.val
 have HB := Lib.hid hb
 have HC : Hid (∀ w, _) := Lib.hid cC
 clear hb cC
 rcases Zn.ops op with rfl | rfl | rfl | rfl | rfl | rfl | ⟨h0, h1, h2, h3, h4, h5, n0, n1, n2, n3, n4, n5⟩
 ·have hB : Zn.holds ⟨0, col, ⟨an, ai, sa⟩⟩ ⟨vn, vi, sv⟩ = true := by simp [Zn.holds]
  rw [hB]
  clear hB
  go_enter Tryz.func52, Tryz.ntmps52
  go_wp2
  go_ret
  exact ⟨rfl, HB.out⟩
 ·have hB : Zn.holds ⟨4, col, ⟨an, ai, sa⟩⟩ ⟨vn, vi, sv⟩ = vn := by simp [Zn.holds]
  rw [hB]
  clear hB
  go_enter Tryz.func52, Tryz.ntmps52
  go_wp2
  go_ret
  exact ⟨rfl, HB.out⟩
 ·have hB : Zn.holds ⟨5, col, ⟨an, ai, sa⟩⟩ ⟨vn, vi, sv⟩ = !vn := by simp [Zn.holds]
  rw [hB]
  clear hB
  go_enter Tryz.func52, Tryz.ntmps52
  go_wp2
  go_ret
  exact ⟨rfl, HB.out⟩
 ·cases vn <;> cases an
  ·have hB : Zn.holds ⟨1, col, ⟨false, ai, sa⟩⟩ ⟨false, vi, sv⟩ = (Kn.cmp ⟨false, vi, sv⟩ ⟨false, ai, sa⟩ == 0) := by simp [Zn.holds]
   rw [hB]
   clear hB
   go_enter Tryz.func52, Tryz.ntmps52
   go_wp2_with fail
   with_reducible refine (HC.out _).mono ?_
   rintro e w1 ⟨rfl, g1⟩
   go_wp2
   go_ret
   exact ⟨rfl, HB.out.trans (g1.mono HB.out.size)⟩
  all_goals
   have hB : ∀ x y, x = true ∨ y = true → Zn.holds ⟨1, col, ⟨x, ai, sa⟩⟩ ⟨y, vi, sv⟩ = false := by intro x y h; cases x <;> cases y <;> simp [Zn.holds] at h ⊢
   rw [hB _ _ (by decide)]
   clear hB
   go_enter Tryz.func52, Tryz.ntmps52
   go_wp2
   go_ret
   exact ⟨rfl, HB.out⟩
 ·cases vn <;> cases an
  ·have hB : Zn.holds ⟨2, col, ⟨false, ai, sa⟩⟩ ⟨false, vi, sv⟩ = decide (Kn.cmp ⟨false, vi, sv⟩ ⟨false, ai, sa⟩ < 0) := by simp [Zn.holds]
   rw [hB]
   clear hB
   go_enter Tryz.func52, Tryz.ntmps52
   go_wp2_with fail
   with_reducible refine (HC.out _).mono ?_
   rintro e w1 ⟨rfl, g1⟩
   go_wp2
   go_ret
   exact ⟨rfl, HB.out.trans (g1.mono HB.out.size)⟩
  all_goals
   have hB : ∀ x y, x = true ∨ y = true → Zn.holds ⟨2, col, ⟨x, ai, sa⟩⟩ ⟨y, vi, sv⟩ = false := by intro x y h; cases x <;> cases y <;> simp [Zn.holds] at h ⊢
   rw [hB _ _ (by decide)]
   clear hB
   go_enter Tryz.func52, Tryz.ntmps52
   go_wp2
   go_ret
   exact ⟨rfl, HB.out⟩
 ·cases vn <;> cases an
  ·have hB : Zn.holds ⟨3, col, ⟨false, ai, sa⟩⟩ ⟨false, vi, sv⟩ = decide (0 ≤ Kn.cmp ⟨false, vi, sv⟩ ⟨false, ai, sa⟩) := by simp [Zn.holds]
   rw [hB]
   clear hB
   go_enter Tryz.func52, Tryz.ntmps52
   go_wp2_with fail
   with_reducible refine (HC.out _).mono ?_
   rintro e w1 ⟨rfl, g1⟩
   go_wp2
   go_ret
   exact ⟨rfl, HB.out.trans (g1.mono HB.out.size)⟩
  all_goals
   have hB : ∀ x y, x = true ∨ y = true → Zn.holds ⟨3, col, ⟨x, ai, sa⟩⟩ ⟨y, vi, sv⟩ = false := by intro x y h; cases x <;> cases y <;> simp [Zn.holds] at h ⊢
   rw [hB _ _ (by decide)]
   clear hB
   go_enter Tryz.func52, Tryz.ntmps52
   go_wp2
   go_ret
   exact ⟨rfl, HB.out⟩
 ·have hB : Zn.holds ⟨op, col, ⟨an, ai, sa⟩⟩ ⟨vn, vi, sv⟩ = false := by simp [Zn.holds, n0, n1, n2, n3, n4, n5]
  rw [hB]
  clear hB n0 n1 n2 n3 n4 n5
  cases vn <;> cases an
  all_goals
   go_enter Tryz.func52, Tryz.ntmps52
   go_wp2
   go_ret
   exact ⟨rfl, HB.out⟩
end
section
open Go.RowKit
theorem Zn.results_cell {fn : Func} {p : Tmp} {ty : TypeId} (h : fn.results = #[.cell p ty]) (tmps : Array Value) (P : Program) (w : World) :
 (results fn tmps).run P w = ((asAddr (tmps.getD p undef)).run P w).andThen fun a w1 => (loadVar ty a).run P w1 := by
 simp only [results, h]
 simp [Sem.run_bind, Result.andThen]
set_option maxHeartbeats 1000000 in
set_option maxRecDepth 100000 in
theorem Zn.filled_x (v : Kn.V) (w : World) : Calls Tryz.prog 135 #[v.val] w fun e w' => e = .returned (Zn.bare v).val ∧ w' = (w.alloc (.cells #[.bool v.null, .int .i64 v.n, .string v.s] 33)).alloc (.cells #[.bool false, .int .i64 v.n, .string v.s] 33) := by
 unfold Kn.V.val Zn.bare
 go_enter Tryz.func135, Tryz.ntmps135
 go_wp2
 (try simp only [Exit.inBlock, Exit.then])
 refine bodyPost_ret (v := .agg #[.bool false, .int .i64 v.n, .string v.s]) ?_ rfl ⟨rfl, rfl⟩
 rw [Zn.results_cell rfl]
 go_simp
end
end Go.Proofs.YtbelkhkllneifaaGreatDoor
