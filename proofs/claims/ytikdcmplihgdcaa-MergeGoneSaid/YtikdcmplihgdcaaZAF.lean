import Derived.Test.YtikdcmplihgdcaaZAD
import Derived.Test.YtikdcmplihgdcaaZAC
import Derived.Test.YtikdcmplihgdcaaZAE
namespace Go.Proofs.Ytikdcmplihgdcaa
section
open Go.RowKit
open Ty (num encU U64)
open Ig (rest read_encU splitU)
def Cl.is (c : Kn.C) (v : Kn.V) : Bool := Kn.isK c.k v && (!v.null || c.null)
def Cl.live (l : List Kn.V) : List Kn.V := l.filter fun v => !v.null
def Cl.nums (l : List Kn.V) : List Int := (Cl.live l).map fun v => v.n
def Cl.words (l : List Kn.V) : List Tx.Str := (Cl.live l).map fun v => v.s.data.toList
def Cl.vals (c : Kn.C) (l : List Kn.V) : List UInt8 := if c.k = 1 then Ig.enc (Ig.bk (Cl.nums l) 3) (Cl.nums l) else Tx.enc (Tx.bestK (Cl.words l)) (Cl.words l)
def Cl.nulls (l : List Kn.V) (i : Nat) : Bool := (l.getD i Cl.nul).null
def Cl.enc (c : Kn.C) (l : List Kn.V) : List UInt8 := encU l.length ++ ((Bt.bytes (Bt.need l.length) (Bt.tr l.length (Cl.nulls l))).data.toList ++ Cl.vals c l)
def Cl.wE (c : Kn.C) (l : List Kn.V) : Nat := if c.good = true then (if 65536 < l.length then 3 else if l.all (Cl.is c) = true then 0 else 6) else 4
def Cl.fill : List Bool → List Kn.V → Option (List Kn.V)
 | [], [] => some []
 | [], _ :: _ => none
 | true :: T, M => (Cl.fill T M).map (Cl.nul :: ·)
 | false :: _, [] => none
 | false :: T, x :: M => (Cl.fill T M).map (x :: ·)
def Cl.back (c : Kn.C) (r : List UInt8) : Nat × List Kn.V := if c.k = 1 then ((Ig.rd r).1, (Ig.rd r).2.map Cl.ofN) else ((Tx.rd r).1, (Tx.rd r).2.map Cl.ofS)
def Cl.bits (n : Nat) (s : ByteArray) : List Bool := (List.range n).map (Bt.bit s)
def Cl.rdV (c : Kn.C) (T : List Bool) (r : List UInt8) : Nat × List Kn.V :=
 if (Cl.back c r).1 ≠ 0 then ((Cl.back c r).1, [])
 else match Cl.fill T (Cl.back c r).2 with
  | none => (4, [])
  | some out => if Cl.vals c out = r then (0, out) else (4, [])
def Cl.rd (c : Kn.C) (l : List UInt8) : Nat × List Kn.V :=
 if c.good = false then (4, [])
 else if (num l).2.2 ≠ 0 then ((num l).2.2, [])
 else if 65536 < (num l).1 then (3, [])
 else if (rest l).length < Bt.need (num l).1 then (2, [])
 else if Bt.chk (Ty.S ((rest l).take (Bt.need (num l).1))) (num l).1 ≠ 0 then (Bt.chk (Ty.S ((rest l).take (Bt.need (num l).1))) (num l).1, [])
 else if (!c.null && (Cl.bits (num l).1 (Ty.S ((rest l).take (Bt.need (num l).1)))).any id) = true then (6, [])
 else Cl.rdV c (Cl.bits (num l).1 (Ty.S ((rest l).take (Bt.need (num l).1)))) ((rest l).drop (Bt.need (num l).1))
end
section
open Go
open Ty (num txt encU U64 I64)
open Ig (rest)
open Tx (encT)
def Bk.key (d : Dd.D) : Kn.V := d.row.headD Cl.nul
def Bk.nod : Dd.D := ⟨false, []⟩
def Bk.step (L : List Dd.D) (k : Nat) : Bool := !(L.getD k Bk.nod).row.isEmpty && (k == 0 || decide (Kn.cmp (Bk.key (L.getD (k - 1) Bk.nod)) (Bk.key (L.getD k Bk.nod)) < 0))
def Bk.sorted (L : List Dd.D) : Bool := (List.range L.length).all (Bk.step L)
def Bk.firstE (s : List Kn.C) : List Dd.D → Int
 | [] => 0
 | d :: r => if Dd.fitE s d = 0 then Bk.firstE s r else Dd.fitE s d
def Bk.fitsE (s : List Kn.C) (L : List Dd.D) : Int := if Bk.firstE s L = 0 then (if Bk.sorted L = true then 0 else 1) else Bk.firstE s L
def Bk.wE (s : List Kn.C) (L : List Dd.D) : Int := if Kn.right s = true then (if L.length < 1 ∨ 8 < L.length then 1 else Bk.fitsE s L) else 4
def Bk.has (i : Nat) (d : Dd.D) : Bool := i == 0 || !d.gone
def Bk.col (L : List Dd.D) (i : Nat) : List Kn.V := (L.filter (Bk.has i)).map fun d => d.row.getD i Cl.nul
def Bk.gones (L : List Dd.D) (i : Nat) : Bool := (L.getD i Bk.nod).gone
def Bk.encC : Nat → List Kn.C → List Dd.D → List UInt8
 | _, [], _ => []
 | i, c :: s, L => encT (Cl.enc c (Bk.col L i)) ++ Bk.encC (i + 1) s L
def Bk.bools (L : List Dd.D) : List UInt8 := (Bt.bytes (Bt.need L.length) (Bt.tr L.length (Bk.gones L))).data.toList
def Bk.enc (s : List Kn.C) (L : List Dd.D) : List UInt8 := encU L.length ++ (Bk.bools L ++ Bk.encC 0 s L)
def Bk.dist (i : Nat) : List Dd.D → List Kn.V → List Dd.D
 | [], _ => []
 | d :: r, vs => if Bk.has i d = true then ⟨d.gone, d.row ++ [vs.headD Cl.nul]⟩ :: Bk.dist i r vs.tail else d :: Bk.dist i r vs
def Bk.most : Int := 1048576
def Bk.restM (l : List UInt8) : List UInt8 := l.drop (txt l Bk.most).2.1
def Bk.rdC : Nat → List Kn.C → List Dd.D → List UInt8 → Option (List Dd.D × List UInt8)
 | _, [], A, l => some (A, l)
 | i, c :: s, A, l => if (txt l Bk.most).2.2 = 0 ∧ (Cl.rd c (txt l Bk.most).1).1 = 0 ∧ (Cl.rd c (txt l Bk.most).1).2.length = (A.filter (Bk.has i)).length then Bk.rdC (i + 1) s (Bk.dist i A (Cl.rd c (txt l Bk.most).1).2) (Bk.restM l) else none
def Bk.none_ (n : Nat) (b : UInt8) : List Dd.D := (List.range n).map fun i => ⟨b.toNat.testBit i, []⟩
def Bk.rd (s : List Kn.C) (l : List UInt8) : Nat × List Dd.D :=
 if Kn.right s = false then (4, [])
 else if (num l).2.2 ≠ 0 then (8, [])
 else match rest l with
  | [] => (8, [])
  | b :: r => if (num l).1 < 1 ∨ 8 < (num l).1 ∨ b.toNat / 2 ^ (num l).1 ≠ 0 then (8, [])
    else match Bk.rdC 0 s (Bk.none_ (num l).1 b) r with
     | none => (8, [])
     | some (L, r') => if r' = [] ∧ Bk.sorted L = true then (0, L) else (8, [])
def Bk.cut (i : Nat) (L : List Dd.D) : List Dd.D := L.map fun d => ⟨d.gone, d.row.take i⟩
def Bk.Len (i : Nat) (A : List Dd.D) : Prop := ∀ d ∈ A, d.row.length = if d.gone = true then min i 1 else i
end
section
open Go
def Mg.puts (M l : List Dd.D) : List Dd.D := l.foldl (Sk.put Bk.key) M
def Mg.nw : List (List Dd.D) → List Dd.D
 | [] => []
 | l :: LL => Mg.puts (Mg.nw LL) l
def Mg.all (LL : List (List Dd.D)) : Bool := LL.all Bk.sorted
def Mg.live (L : List Dd.D) : List Dd.D := L.filter fun d => !d.gone
def Mg.res (LL : List (List Dd.D)) : List Dd.D := if Mg.all LL = true then Mg.nw LL else []
def Mg.err (LL : List (List Dd.D)) : Int := if Mg.all LL = true then 0 else 1
theorem Mg.asc_of {L : List Dd.D} (h : Bk.sorted L = true) : ∀ (j i : Nat), i < j → j < L.length → Kn.cmp (Bk.key (L.getD i Bk.nod)) (Bk.key (L.getD j Bk.nod)) < 0
 | 0, _, h, _ => by omega
 | j + 1, i, hij, hj => by
   unfold Bk.sorted at h
   have hs := List.all_eq_true.1 h (j + 1) (List.mem_range.2 hj)
   unfold Bk.step at hs
   rw [Bool.and_eq_true, Bool.or_eq_true] at hs
   have h1 : Kn.cmp (Bk.key (L.getD j Bk.nod)) (Bk.key (L.getD (j + 1) Bk.nod)) < 0 := by
    rcases hs.2 with h2 | h2
    ·rw [beq_iff_eq] at h2; omega
    ·simpa using h2
   rcases Nat.lt_or_ge i j with h2 | h2
   ·exact Sk.lt_trans (Mg.asc_of (by unfold Bk.sorted; exact h) j i h2 (by omega)) h1
   ·obtain rfl : i = j := by omega
    exact h1
theorem Mg.getD_of {L : List Dd.D} {i : Nat} {x : Dd.D} (h : L[i]? = some x) : L.getD i Bk.nod = x := by rw [List.getD_eq_getElem?_getD, h]; rfl
theorem Mg.sorted_iff {L : List Dd.D} : Bk.sorted L = true ↔ (∀ d ∈ L, d.row ≠ []) ∧ Sk.Asc Bk.key L := by
 constructor
 ·intro h
  refine ⟨fun d hd he => ?_, ?_⟩
  ·obtain ⟨i, hi, e⟩ := List.getElem_of_mem hd
   have hx : L[i]? = some d := by rw [List.getElem?_eq_getElem hi, e]
   unfold Bk.sorted at h
   have hs := List.all_eq_true.1 h i (List.mem_range.2 hi)
   unfold Bk.step at hs
   rw [Mg.getD_of hx, he] at hs
   cases hs
  ·unfold Sk.Asc
   rw [List.pairwise_iff_getElem]
   intro i j hi hj hij
   have := Mg.asc_of h j i hij hj
   rwa [Mg.getD_of (List.getElem?_eq_getElem hi), Mg.getD_of (List.getElem?_eq_getElem hj)] at this
 ·rintro ⟨hr, ha⟩
  unfold Bk.sorted
  rw [List.all_eq_true]
  intro j hj
  have hj := List.mem_range.1 hj
  have hx : L[j]? = some L[j] := List.getElem?_eq_getElem hj
  unfold Bk.step
  rw [Mg.getD_of hx, Bool.and_eq_true]
  refine ⟨?_, ?_⟩
  ·have := hr L[j] (List.getElem_mem hj)
   cases e : L[j].row with
   | nil => exact absurd e this
   | cons _ _ => rfl
  ·cases j with
   | zero => rfl
   | succ j =>
     have hy : L[j]? = some (L[j]'(by omega)) := List.getElem?_eq_getElem _
     have := Sk.asc_behind ha (Nat.lt_succ_self j) hy hx
     rw [Nat.add_sub_cancel, Mg.getD_of hy]
     simp [this]
theorem Mg.puts_asc : ∀ (l : List Dd.D) {M : List Dd.D}, Sk.Asc Bk.key M → Sk.Asc Bk.key (Mg.puts M l)
 | [], _, h => h
 | x :: l, _, h => Mg.puts_asc l (Sk.put_asc h x)
theorem Mg.nw_asc : ∀ LL : List (List Dd.D), Sk.Asc Bk.key (Mg.nw LL)
 | [] => List.Pairwise.nil
 | l :: LL => Mg.puts_asc l (Mg.nw_asc LL)
theorem Mg.get_nil (k : Kn.V) : Sk.get Bk.key ([] : List Dd.D) k = none := rfl
theorem Mg.get_puts (k : Kn.V) : ∀ {l M : List Dd.D}, Sk.Asc Bk.key M → Sk.Asc Bk.key l → Sk.get Bk.key (Mg.puts M l) k = (Sk.get Bk.key l k).or (Sk.get Bk.key M k)
 | [], M, _, _ => by rw [Mg.get_nil]; rfl
 | x :: l, M, hM, hl => by
   have hl' : Sk.Asc Bk.key l := (List.pairwise_cons.1 hl).2
   have ih := Mg.get_puts k (Sk.put_asc hM x) hl'
   show Sk.get Bk.key (Mg.puts (Sk.put Bk.key M x) l) k = _
   rw [ih, Sk.get_put hM]
   by_cases h : Kn.cmp (Bk.key x) k = 0
   ·have h1 : Sk.get Bk.key (x :: l) k = some x := (Sk.get_mem hl).2 ⟨List.mem_cons_self, h⟩
    have h2 : Sk.get Bk.key l k = none := (Sk.get_none hl').2 fun y hy he => by
     have := (List.pairwise_cons.1 hl).1 y hy
     rw [Sk.eq_right he] at this
     omega
    rw [h1, h2, if_pos h]
    rfl
   ·rw [if_neg h]
    have h1 : Sk.get Bk.key (x :: l) k = Sk.get Bk.key l k := by
     cases hg : Sk.get Bk.key l k with
     | none =>
       rw [Sk.get_none hl]
       intro y hy
       rcases List.mem_cons.1 hy with rfl | hy
       ·exact h
       ·exact (Sk.get_none hl').1 hg y hy
     | some y =>
       obtain ⟨hy, he⟩ := (Sk.get_mem hl').1 hg
       exact (Sk.get_mem hl).2 ⟨List.mem_cons_of_mem _ hy, he⟩
    rw [h1]
def Mg.gg : List (List Dd.D) → Kn.V → Option Dd.D
 | [], _ => none
 | l :: LL, k => (Sk.get Bk.key l k).or (Mg.gg LL k)
theorem Mg.all_cons {l : List Dd.D} {LL : List (List Dd.D)} (h : Mg.all (l :: LL) = true) : Bk.sorted l = true ∧ Mg.all LL = true := by
 unfold Mg.all at h ⊢
 simpa using h
theorem Mg.get_nw (k : Kn.V) : ∀ {LL : List (List Dd.D)}, Mg.all LL = true → Sk.get Bk.key (Mg.nw LL) k = Mg.gg LL k
 | [], _ => rfl
 | l :: LL, h => by
   obtain ⟨h1, h2⟩ := Mg.all_cons h
   show Sk.get Bk.key (Mg.puts (Mg.nw LL) l) k = _
   rw [Mg.get_puts k (Mg.nw_asc LL) (Mg.sorted_iff.1 h1).2, Mg.get_nw k h2]
   rfl
theorem Mg.mem_iff {L : List Dd.D} (h : Sk.Asc Bk.key L) (y : Dd.D) : y ∈ L ↔ Sk.get Bk.key L (Bk.key y) = some y :=
 ⟨fun hy => (Sk.get_mem h).2 ⟨hy, Sk.cmp_self _⟩, fun hg => ((Sk.get_mem h).1 hg).1⟩
theorem Mg.ext {L M : List Dd.D} (h : Sk.Asc Bk.key L) (g : Sk.Asc Bk.key M) (e : ∀ k, Sk.get Bk.key L k = Sk.get Bk.key M k) : L = M :=
 Sk.asc_ext h g fun y => by rw [Mg.mem_iff h, Mg.mem_iff g, e]
theorem Mg.gg_append (k : Kn.V) : ∀ A B : List (List Dd.D), Mg.gg (A ++ B) k = (Mg.gg A k).or (Mg.gg B k)
 | [], B => rfl
 | l :: A, B => by
   show (Sk.get Bk.key l k).or (Mg.gg (A ++ B) k) = ((Sk.get Bk.key l k).or (Mg.gg A k)).or (Mg.gg B k)
   rw [Mg.gg_append k A B, Option.or_assoc]
theorem Mg.all_append (A B : List (List Dd.D)) : Mg.all (A ++ B) = (Mg.all A && Mg.all B) := by unfold Mg.all; exact List.all_append
theorem Mg.mem_puts : ∀ {l M : List Dd.D} {y : Dd.D}, Sk.Asc Bk.key M → y ∈ Mg.puts M l → y ∈ l ∨ y ∈ M
 | [], M, y, _, h => .inr h
 | x :: l, M, y, hM, h => by
   rcases Mg.mem_puts (Sk.put_asc hM x) h with h1 | h1
   ·exact .inl (List.mem_cons_of_mem _ h1)
   ·rcases (Sk.mem_put hM).1 h1 with rfl | ⟨h2, _⟩
    ·exact .inl List.mem_cons_self
    ·exact .inr h2
theorem Mg.mem_nw : ∀ {LL : List (List Dd.D)} {y : Dd.D}, y ∈ Mg.nw LL → ∃ l ∈ LL, y ∈ l
 | l :: LL, y, h => by
   rcases Mg.mem_puts (Mg.nw_asc LL) h with h1 | h1
   ·exact ⟨l, List.mem_cons_self, h1⟩
   ·obtain ⟨m, hm, hy⟩ := Mg.mem_nw h1
    exact ⟨m, List.mem_cons_of_mem _ hm, hy⟩
theorem Mg.all_mem {LL : List (List Dd.D)} (h : Mg.all LL = true) {l : List Dd.D} (hl : l ∈ LL) : Bk.sorted l = true := by
 unfold Mg.all at h
 exact List.all_eq_true.1 h l hl
theorem Mg.nw_sorted {LL : List (List Dd.D)} (h : Mg.all LL = true) : Bk.sorted (Mg.nw LL) = true :=
 Mg.sorted_iff.2 ⟨fun d hd => by
  obtain ⟨l, hl, hdl⟩ := Mg.mem_nw hd
  exact (Mg.sorted_iff.1 (Mg.all_mem h hl)).1 d hdl, Mg.nw_asc LL⟩
theorem Mg.steps {A B C : List (List Dd.D)} (h : Mg.all (A ++ (B ++ C)) = true) : Mg.all B = true ∧ Mg.all (A ++ (Mg.nw B :: C)) = true ∧ Mg.nw (A ++ (Mg.nw B :: C)) = Mg.nw (A ++ (B ++ C)) := by
 have h0 := h
 rw [Mg.all_append, Mg.all_append, Bool.and_eq_true, Bool.and_eq_true] at h
 have h1 : Mg.all (Mg.nw B :: C) = true := by
  unfold Mg.all
  rw [List.all_cons, Bool.and_eq_true]
  exact ⟨Mg.nw_sorted h.2.1, h.2.2⟩
 have h2 : Mg.all (A ++ (Mg.nw B :: C)) = true := by rw [Mg.all_append, h.1, h1]; rfl
 refine ⟨h.2.1, h2, Mg.ext (Mg.nw_asc _) (Mg.nw_asc _) fun k => ?_⟩
 rw [Mg.get_nw k h2, Mg.get_nw k h0, Mg.gg_append, Mg.gg_append, Mg.gg_append]
 show (Mg.gg A k).or ((Sk.get Bk.key (Mg.nw B) k).or (Mg.gg C k)) = _
 rw [Mg.get_nw k h.2.1]
theorem Mg.mem_live {l : List Dd.D} {y : Dd.D} : y ∈ Mg.live l ↔ y ∈ l ∧ y.gone = false := by unfold Mg.live; rw [List.mem_filter]; simp
theorem Mg.live_asc {l : List Dd.D} (h : Sk.Asc Bk.key l) : Sk.Asc Bk.key (Mg.live l) := List.Pairwise.sublist List.filter_sublist h
theorem Mg.live_sorted {l : List Dd.D} (h : Bk.sorted l = true) : Bk.sorted (Mg.live l) = true :=
 Mg.sorted_iff.2 ⟨fun d hd => (Mg.sorted_iff.1 h).1 d (Mg.mem_live.1 hd).1, Mg.live_asc (Mg.sorted_iff.1 h).2⟩
theorem Mg.gone {A : List (List Dd.D)} {l : List Dd.D} (h : Mg.all (A ++ [l]) = true) : Mg.all (A ++ [Mg.live l]) = true ∧ Mg.live (Mg.nw (A ++ [Mg.live l])) = Mg.live (Mg.nw (A ++ [l])) := by
 have h0 := h
 rw [Mg.all_append, Bool.and_eq_true] at h
 have hl : Bk.sorted l = true := (Mg.all_cons h.2).1
 have h2 : Mg.all (A ++ [Mg.live l]) = true := by
  rw [Mg.all_append, h.1]
  unfold Mg.all
  simp [Mg.live_sorted hl]
 refine ⟨h2, Sk.asc_ext (key := Bk.key) (Mg.live_asc (Mg.nw_asc _)) (Mg.live_asc (Mg.nw_asc _)) fun y => ?_⟩
 rw [Mg.mem_live, Mg.mem_live]
 refine and_congr_left fun hg => ?_
 rw [Mg.mem_iff (Mg.nw_asc _), Mg.mem_iff (Mg.nw_asc _), Mg.get_nw _ h2, Mg.get_nw _ h0, Mg.gg_append, Mg.gg_append]
 show (Mg.gg A (Bk.key y)).or ((Sk.get Bk.key (Mg.live l) (Bk.key y)).or none) = some y ↔ (Mg.gg A (Bk.key y)).or ((Sk.get Bk.key l (Bk.key y)).or none) = some y
 cases Mg.gg A (Bk.key y) with
 | some z => simp
 | none =>
   simp only [Option.none_or, Option.or_none]
   rw [← Mg.mem_iff (Mg.live_asc (Mg.sorted_iff.1 hl).2), ← Mg.mem_iff (Mg.sorted_iff.1 hl).2, Mg.mem_live]
   exact ⟨fun h => h.1, fun h => ⟨h, hg⟩⟩
theorem Mg.one {l : List Dd.D} (h : Bk.sorted l = true) : Mg.nw [l] = l := by
 have ha : Mg.all [l] = true := by unfold Mg.all; simp [h]
 refine Mg.ext (Mg.nw_asc _) (Mg.sorted_iff.1 h).2 fun k => ?_
 rw [Mg.get_nw k ha]
 show (Sk.get Bk.key l k).or none = _
 rw [Option.or_none]
theorem Mg.two {l : List Dd.D} (h : Bk.sorted l = true) : Mg.nw [l, l] = l := by
 have ha : Mg.all [l, l] = true := by unfold Mg.all; simp [h]
 refine Mg.ext (Mg.nw_asc _) (Mg.sorted_iff.1 h).2 fun k => ?_
 rw [Mg.get_nw k ha]
 show (Sk.get Bk.key l k).or ((Sk.get Bk.key l k).or none) = _
 cases Sk.get Bk.key l k <;> rfl
theorem Mg.ahead {l : List Dd.D} (h : Bk.sorted l = true) : Mg.nw [[], l] = l := Mg.one h
def Mg.has (L : List Dd.D) (k : Kn.V) : Bool := L.any fun d => Kn.cmp (Bk.key d) k == 0
theorem Mg.has_iff {L : List Dd.D} {k : Kn.V} : Mg.has L k = true ↔ ∃ d ∈ L, Kn.cmp (Bk.key d) k = 0 := by
 unfold Mg.has
 rw [List.any_eq_true]
 simp
theorem Mg.has_nw {LL : List (List Dd.D)} (h : Mg.all LL = true) {l : List Dd.D} (hl : l ∈ LL) {d : Dd.D} (hd : d ∈ l) : Mg.has (Mg.nw LL) (Bk.key d) = true := by
 cases hg : Sk.get Bk.key (Mg.nw LL) (Bk.key d) with
 | some y => exact Mg.has_iff.2 ⟨y, (Sk.get_mem (Mg.nw_asc _)).1 hg⟩
 | none =>
   exfalso
   rw [Mg.get_nw _ h] at hg
   induction LL with
   | nil => cases hl
   | cons m LL ih =>
     have h12 := Mg.all_cons h
     have hg : (Sk.get Bk.key m (Bk.key d)).or (Mg.gg LL (Bk.key d)) = none := hg
     rw [Option.or_eq_none_iff] at hg
     rcases List.mem_cons.1 hl with rfl | hl
     ·rw [(Mg.mem_iff (Mg.sorted_iff.1 h12.1).2 d).1 hd] at hg
      cases hg.1
     ·exact ih h12.2 hl hg.2
theorem Mg.has_one {LL : List (List Dd.D)} {y : Dd.D} (hy : y ∈ Mg.nw LL) : ∃ l ∈ LL, Mg.has l (Bk.key y) = true := by
 obtain ⟨l, hl, h⟩ := Mg.mem_nw hy
 exact ⟨l, hl, Mg.has_iff.2 ⟨y, h, Sk.cmp_self _⟩⟩
end
section
open Go
structure Mg.It where
 b : Nat
 r : Option Addr × Nat × Nat
 age : Nat
 L : List Dd.D
def Mg.hk (x : Mg.It) : Kn.V := Bk.key (x.L.headD Bk.nod)
def Mg.od (a b : Kn.V) (i j : Nat) : Int := if Kn.cmp a b = 0 then (if i < j then -1 else if j < i then 1 else 0) else Kn.cmp a b
def Mg.lt (x y : Mg.It) : Bool := decide (Mg.od (Mg.hk x) (Mg.hk y) x.age y.age < 0)
theorem Mg.ord : Mh.Ord Mg.lt where
 asym x y h := by
  unfold Mg.lt Mg.od at h ⊢
  have h1 := Sk.cmp_anti (Mg.hk x) (Mg.hk y)
  rw [decide_eq_true_eq] at h
  rw [decide_eq_false_iff_not]
  split at h <;> split <;> (try split at h) <;> (try split) <;> omega
 trans x y z h g := by
  unfold Mg.lt Mg.od at h g ⊢
  rw [decide_eq_false_iff_not] at h g ⊢
  have a1 := Sk.cmp_anti (Mg.hk x) (Mg.hk y)
  have a2 := Sk.cmp_anti (Mg.hk y) (Mg.hk z)
  have a3 := Sk.cmp_anti (Mg.hk x) (Mg.hk z)
  by_cases e1 : Kn.cmp (Mg.hk y) (Mg.hk x) = 0
  ·have e3 := Sk.eq_right (a := Mg.hk z) e1
   rw [if_pos e1] at h
   rw [← e3]
   split at g <;> split <;> (try split at g) <;> (try split at h) <;> (try split) <;> omega
  ·rw [if_neg e1] at h
   by_cases e2 : Kn.cmp (Mg.hk z) (Mg.hk y) = 0
   ·have e3 := Sk.eq_left (c := Mg.hk x) e2
    rw [e3, if_neg e1]
    exact h
   ·rw [if_neg e2] at g
    have := Sk.lt_trans (a := Mg.hk x) (b := Mg.hk y) (c := Mg.hk z) (by omega) (by omega)
    rw [if_neg (by omega)]
    omega
def Mg.pk (k : Kn.V) (d : Dd.D) : Bool := Kn.cmp (Bk.key d) k == 0
theorem Mg.get_find {L : List Dd.D} (h : Sk.Asc Bk.key L) (k : Kn.V) : Sk.get Bk.key L k = L.find? (Mg.pk k) := by
 cases hf : L.find? (Mg.pk k) with
 | none =>
   refine (Sk.get_none h).2 fun x hx e => ?_
   have := List.find?_eq_none.1 hf x hx
   unfold Mg.pk at this
   rw [e] at this
   exact this rfl
 | some x =>
   have h1 := List.find?_some hf
   unfold Mg.pk at h1
   exact (Sk.get_mem h).2 ⟨List.mem_of_find?_eq_some hf, by simpa using h1⟩
theorem Mg.gg_find (k : Kn.V) : ∀ {LL : List (List Dd.D)}, Mg.all LL = true → Mg.gg LL k = LL.flatten.find? (Mg.pk k)
 | [], _ => rfl
 | l :: LL, h => by
   obtain ⟨h1, h2⟩ := Mg.all_cons h
   show (Sk.get Bk.key l k).or (Mg.gg LL k) = _
   rw [Mg.get_find (Mg.sorted_iff.1 h1).2, Mg.gg_find k h2, List.flatten_cons, List.find?_append]
structure Mg.Far (LL RL : List (List Dd.D)) (M : List Dd.D) : Prop where
 all : Mg.all RL = true
 asc : Sk.Asc Bk.key M
 low : ∀ d ∈ RL.flatten, ∀ m ∈ M, Kn.cmp (Bk.key m) (Bk.key d) ≤ 0
 same : ∀ k, LL.flatten.find? (Mg.pk k) = (M ++ RL.flatten).find? (Mg.pk k)
 sub : ∀ d ∈ RL.flatten, d ∈ LL.flatten
 mem : ∀ d ∈ M, d ∈ LL.flatten
 nw : M.length ≤ (Mg.nw LL).length
theorem Mg.Far.start {LL : List (List Dd.D)} (h : Mg.all LL = true) : Mg.Far LL LL [] :=
 ⟨h, List.Pairwise.nil, fun _ _ _ hm => by simp at hm, fun _ => rfl, fun _ hd => hd, fun _ hd => by simp at hd, Nat.zero_le _⟩
theorem Mg.Far.eq {LL RL : List (List Dd.D)} {M : List Dd.D} (ha : Mg.all LL = true) (h : Mg.Far LL RL M) (he : RL.flatten = []) : Mg.nw LL = M :=
 Mg.ext (Mg.nw_asc _) h.asc fun k => by rw [Mg.get_nw k ha, Mg.gg_find k ha, h.same k, he, List.append_nil, Mg.get_find h.asc]
theorem Mg.nodup_le {α : Type} : ∀ {M N : List α}, M.Nodup → (∀ x ∈ M, x ∈ N) → M.length ≤ N.length
 | [], _, _, _ => Nat.zero_le _
 | x :: M, N, hn, hs => by
   obtain ⟨h1, h2⟩ := List.nodup_cons.1 hn
   obtain ⟨A, B, rfl⟩ := List.append_of_mem (hs x List.mem_cons_self)
   have := Mg.nodup_le (M := M) (N := A ++ B) h2 fun y hy => by
    have h3 := hs y (List.mem_cons_of_mem _ hy)
    rcases List.mem_append.1 h3 with h4 | h4
    ·exact List.mem_append_left _ h4
    ·rcases List.mem_cons.1 h4 with rfl | h4
     ·exact absurd hy h1
     ·exact List.mem_append_right _ h4
   simp only [List.length_append, List.length_cons] at this ⊢
   omega
theorem Mg.len_nw {LL RL : List (List Dd.D)} {M : List Dd.D} (ha : Mg.all LL = true) (hasc : Sk.Asc Bk.key M) (hs : ∀ k, LL.flatten.find? (Mg.pk k) = (M ++ RL.flatten).find? (Mg.pk k)) : M.length ≤ (Mg.nw LL).length := by
 have hsub : ∀ m ∈ M, m ∈ Mg.nw LL := fun m hm => by
  rw [Mg.mem_iff (Mg.nw_asc _), Mg.get_nw _ ha, Mg.gg_find _ ha, hs, List.find?_append, ← Mg.get_find hasc, (Mg.mem_iff hasc m).1 hm]
  rfl
 have hnd : M.Nodup := List.Pairwise.imp (fun {a b} h e => by rw [e, Sk.cmp_self] at h; omega) hasc
 exact Mg.nodup_le hnd hsub
def Mg.add (M : List Dd.D) (d : Dd.D) : List Dd.D := if M = [] ∨ Kn.cmp (Bk.key (M.getD (M.length - 1) Bk.nod)) (Bk.key d) ≠ 0 then M ++ [d] else M
theorem Mg.last_of {M : List Dd.D} (h : M ≠ []) : ∃ A y, M = A ++ [y] ∧ M.getD (M.length - 1) Bk.nod = y := by
 refine ⟨M.dropLast, M.getLast h, (List.dropLast_concat_getLast h).symm, ?_⟩
 rw [List.getD_eq_getElem?_getD, ← List.getLast?_eq_getElem?, List.getLast?_eq_some_getLast h]
 rfl
theorem Mg.head_le {l : List Dd.D} (h : Bk.sorted l = true) {d : Dd.D} (hd : d ∈ l) : Kn.cmp (Bk.key (l.headD Bk.nod)) (Bk.key d) ≤ 0 := by
 cases l with
 | nil => cases hd
 | cons x l =>
   show Kn.cmp (Bk.key x) (Bk.key d) ≤ 0
   rcases List.mem_cons.1 hd with rfl | hd
   ·rw [Sk.cmp_self]; omega
   ·have := (List.pairwise_cons.1 (Mg.sorted_iff.1 h).2).1 d hd
    omega
theorem Mg.le_trans {a b c : Kn.V} (h : Kn.cmp a b ≤ 0) (g : Kn.cmp b c ≤ 0) : Kn.cmp a c ≤ 0 := by
 by_cases e1 : Kn.cmp a b = 0
 ·rw [Sk.eq_left e1]; exact g
 ·by_cases e2 : Kn.cmp b c = 0
  ·rw [← Sk.eq_right e2]; exact h
  ·have := Sk.lt_trans (a := a) (b := b) (c := c) (by omega) (by omega)
   omega
theorem Mg.Far.step {LL A B : List (List Dd.D)} {M : List Dd.D} {d : Dd.D} {t : List Dd.D} (ha : Mg.all LL = true) (h : Mg.Far LL (A ++ (d :: t) :: B) M)
 (hA : ∀ l ∈ A, l ≠ [] → 0 < Kn.cmp (Bk.key (l.headD Bk.nod)) (Bk.key d)) (hB : ∀ l ∈ B, l ≠ [] → 0 ≤ Kn.cmp (Bk.key (l.headD Bk.nod)) (Bk.key d)) : Mg.Far LL (A ++ t :: B) (Mg.add M d) := by
 have hf1 : (A ++ (d :: t) :: B).flatten = A.flatten ++ (d :: (t ++ B.flatten)) := by simp
 have hf2 : (A ++ t :: B).flatten = A.flatten ++ (t ++ B.flatten) := by simp
 have h0 := h.all
 rw [Mg.all_append, Bool.and_eq_true] at h0
 obtain ⟨hs, hB0⟩ := Mg.all_cons h0.2
 have hs2 := Mg.sorted_iff.1 hs
 have ht : Bk.sorted t = true := Mg.sorted_iff.2 ⟨fun x hx => hs2.1 x (List.mem_cons_of_mem _ hx), (List.pairwise_cons.1 hs2.2).2⟩
 have hall : Mg.all (A ++ t :: B) = true := by
  rw [Mg.all_append, h0.1]
  unfold Mg.all at hB0 ⊢
  rw [List.all_cons, ht, hB0]
  rfl
 have hin : ∀ x ∈ (A ++ t :: B).flatten, x ∈ (A ++ (d :: t) :: B).flatten := fun x hx => by
  rw [hf2] at hx
  rw [hf1]
  rcases List.mem_append.1 hx with h1 | h1
  ·exact List.mem_append_left _ h1
  ·exact List.mem_append_right _ (List.mem_cons_of_mem _ h1)
 have hdin : d ∈ (A ++ (d :: t) :: B).flatten := by rw [hf1]; simp
 have hge : ∀ x ∈ (A ++ t :: B).flatten, Kn.cmp (Bk.key d) (Bk.key x) ≤ 0 := fun x hx => by
  rw [hf2] at hx
  rcases List.mem_append.1 hx with h1 | h1
  ·obtain ⟨l, hl, hx⟩ := List.mem_flatten.1 h1
   have h2 := hA l hl (fun e => by rw [e] at hx; cases hx)
   have h3 := Mg.head_le (Mg.all_mem h0.1 hl) hx
   exact Mg.le_trans (by rw [Sk.cmp_anti]; omega) h3
  ·rcases List.mem_append.1 h1 with h1 | h1
   ·have := (List.pairwise_cons.1 hs2.2).1 x h1
    omega
   ·obtain ⟨l, hl, hx⟩ := List.mem_flatten.1 h1
    have h2 := hB l hl (fun e => by rw [e] at hx; cases hx)
    have h3 := Mg.head_le (Mg.all_mem hB0 hl) hx
    exact Mg.le_trans (by rw [Sk.cmp_anti]; omega) h3
 have hAn : ∀ k, Kn.cmp (Bk.key d) k = 0 → A.flatten.find? (Mg.pk k) = none := fun k hk => List.find?_eq_none.2 fun x hx => by
  obtain ⟨l, hl, hx⟩ := List.mem_flatten.1 hx
  have h2 := hA l hl (fun e => by rw [e] at hx; cases hx)
  have h3 := Mg.head_le (Mg.all_mem h0.1 hl) hx
  unfold Mg.pk
  intro e
  have e : Kn.cmp (Bk.key x) k = 0 := by simpa using e
  have e2 : Kn.cmp (Bk.key x) (Bk.key d) = 0 := by rw [Sk.eq_left e]; rw [Sk.cmp_anti]; omega
  rw [Sk.eq_right e2] at h3
  omega
 have hlow : ∀ m ∈ M, Kn.cmp (Bk.key m) (Bk.key d) ≤ 0 := fun m hm => h.low d hdin m hm
 unfold Mg.add
 by_cases hc : M = [] ∨ Kn.cmp (Bk.key (M.getD (M.length - 1) Bk.nod)) (Bk.key d) ≠ 0
 ·rw [if_pos hc]
  have hlt : ∀ m ∈ M, Kn.cmp (Bk.key m) (Bk.key d) < 0 := fun m hm => by
   have hne : M ≠ [] := fun e => by rw [e] at hm; cases hm
   have hc := hc.resolve_left hne
   obtain ⟨A2, y, hM, hy⟩ := Mg.last_of hne
   rw [hy] at hc
   have hyM : y ∈ M := by rw [hM]; simp
   have h1 := hlow y hyM
   have hasc := h.asc
   rw [hM] at hm hasc
   rcases List.mem_append.1 hm with h2 | h2
   ·exact Sk.lt_trans ((List.pairwise_append.1 hasc).2.2 m h2 y (by simp)) (by omega)
   ·obtain rfl : m = y := by simpa using h2
    omega
  have hasc : Sk.Asc Bk.key (M ++ [d]) := List.pairwise_append.2 ⟨h.asc, List.pairwise_singleton .., fun m hm x hx => by
   obtain rfl : x = d := by simpa using hx
   exact hlt m hm⟩
  have hsame : ∀ k, LL.flatten.find? (Mg.pk k) = (M ++ [d] ++ (A ++ t :: B).flatten).find? (Mg.pk k) := fun k => by
   rw [h.same k, hf1, hf2]
   simp only [List.find?_append, List.find?_cons, List.find?_nil]
   cases hp : Mg.pk k d with
   | false => simp
   | true =>
     rw [hAn k (by unfold Mg.pk at hp; simpa using hp)]
     cases M.find? (Mg.pk k) <;> simp
  exact ⟨hall, hasc, fun x hx m hm => by
   rcases List.mem_append.1 hm with h1 | h1
   ·exact h.low x (hin x hx) m h1
   ·obtain rfl : m = d := by simpa using h1
    exact hge x hx, hsame, fun x hx => h.sub x (hin x hx), fun x hx => by
   rcases List.mem_append.1 hx with h1 | h1
   ·exact h.mem x h1
   ·obtain rfl : x = d := by simpa using h1
    exact h.sub _ hdin, Mg.len_nw ha hasc hsame⟩
 ·rw [if_neg hc]
  have hc1 : M ≠ [] := fun e => hc (.inl e)
  have hc2 : Kn.cmp (Bk.key (M.getD (M.length - 1) Bk.nod)) (Bk.key d) = 0 := Decidable.byContradiction fun e => hc (.inr e)
  obtain ⟨A2, y, hM, hy⟩ := Mg.last_of hc1
  rw [hy] at hc2
  refine ⟨hall, h.asc, fun x hx m hm => h.low x (hin x hx) m hm, fun k => ?_, fun x hx => h.sub x (hin x hx), h.mem, h.nw⟩
  rw [h.same k, hf1, hf2]
  simp only [List.find?_append, List.find?_cons]
  cases hp : Mg.pk k d with
  | false => simp
  | true =>
    have hyk : Mg.pk k y = true := by
     unfold Mg.pk at hp ⊢
     have hp : Kn.cmp (Bk.key d) k = 0 := by simpa using hp
     rw [← Sk.eq_right hp, hc2]
     rfl
    have : ∃ z, M.find? (Mg.pk k) = some z := by
     cases hf : M.find? (Mg.pk k) with
     | some z => exact ⟨z, rfl⟩
     | none =>
       have := List.find?_eq_none.1 hf y (by rw [hM]; simp)
       exact absurd hyk this
    obtain ⟨z, hz⟩ := this
    rw [hz]
    simp
structure Mg.Lnk (RL : List (List Dd.D)) (H : List Mg.It) : Prop where
 is : ∀ x ∈ H, RL[x.age]? = some x.L ∧ x.L ≠ []
 has : ∀ (i : Nat) (l : List Dd.D), RL[i]? = some l → l ≠ [] → ∃ x ∈ H, x.age = i
 one : (H.map Mg.It.age).Nodup
theorem Mg.Lnk.perm {RL : List (List Dd.D)} {H H' : List Mg.It} (h : Mg.Lnk RL H) (p : H'.Perm H) : Mg.Lnk RL H' :=
 ⟨fun x hx => h.is x (p.mem_iff.1 hx), fun i l hi hl => by
  obtain ⟨x, hx, e⟩ := h.has i l hi hl
  exact ⟨x, p.mem_iff.2 hx, e⟩, (p.map Mg.It.age).nodup_iff.2 h.one⟩
theorem Mg.Lnk.empty {RL : List (List Dd.D)} (h : Mg.Lnk RL []) : RL.flatten = [] := by
 rw [List.flatten_eq_nil_iff]
 intro l hl
 obtain ⟨i, hi, e⟩ := List.getElem_of_mem hl
 rcases Decidable.em (l = []) with h0 | h0
 ·exact h0
 ·obtain ⟨x, hx, _⟩ := h.has i l (by rw [List.getElem?_eq_getElem hi, e]) h0
  cases hx
theorem Mg.Lnk.take {RL : List (List Dd.D)} {T H' : List Mg.It} {x : Mg.It} {d : Dd.D} {t : List Dd.D} (h : Mg.Lnk RL (T ++ [x])) (hx : x.L = d :: t)
 (hH : (t = [] ∧ H' = T) ∨ (t ≠ [] ∧ ∃ x', x'.age = x.age ∧ x'.L = t ∧ H'.Perm (T ++ [x']))) : Mg.Lnk (RL.set x.age t) H' := by
 have hxi := (h.is x (by simp)).1
 have hlt := (List.getElem?_eq_some_iff.1 hxi).1
 have h1 := h.one
 rw [List.map_append, List.nodup_append] at h1
 have hTn : ∀ y ∈ T, y.age ≠ x.age := fun y hy e => h1.2.2 y.age (List.mem_map_of_mem hy) x.age (by simp) e
 have hT : ∀ y ∈ T, (RL.set x.age t)[y.age]? = some y.L ∧ y.L ≠ [] := fun y hy => by
  rw [List.getElem?_set_ne (fun e => hTn y hy e.symm)]
  exact h.is y (List.mem_append_left _ hy)
 have hback : ∀ (i : Nat) (l : List Dd.D), (RL.set x.age t)[i]? = some l → l ≠ [] → i ≠ x.age → ∃ y ∈ T, y.age = i := fun i l hi hl hne => by
  rw [List.getElem?_set_ne (fun e => hne e.symm)] at hi
  obtain ⟨y, hy, e⟩ := h.has i l hi hl
  rcases List.mem_append.1 hy with h2 | h2
  ·exact ⟨y, h2, e⟩
  ·obtain rfl : y = x := by simpa using h2
   exact absurd e.symm hne
 rcases hH with ⟨rfl, rfl⟩ | ⟨ht, x', e1, e2, p⟩
 ·refine ⟨hT, fun i l hi hl => ?_, h1.1⟩
  refine hback i l hi hl fun e => hl ?_
  rw [e, List.getElem?_set_self hlt] at hi
  simpa using hi.symm
 ·refine Mg.Lnk.perm ⟨fun y hy => ?_, fun i l hi hl => ?_, ?_⟩ p
  ·rcases List.mem_append.1 hy with h2 | h2
   ·exact hT y h2
   ·obtain rfl : y = x' := by simpa using h2
    rw [e1, List.getElem?_set_self hlt, e2]
    exact ⟨rfl, ht⟩
  ·by_cases hi2 : i = x.age
   ·exact ⟨x', by simp, by rw [e1, hi2]⟩
   ·obtain ⟨y, hy, e⟩ := hback i l hi hl hi2
    exact ⟨y, List.mem_append_left _ hy, e⟩
  ·rw [List.map_append, List.nodup_append]
   refine ⟨h1.1, by simp, fun a ha b hb e => ?_⟩
   obtain ⟨y, hy, rfl⟩ := List.mem_map.1 ha
   obtain rfl : b = x'.age := by simpa using hb
   exact hTn y hy (by rw [e, e1])
theorem Mg.Lnk.far {LL RL : List (List Dd.D)} {M : List Dd.D} {H : List Mg.It} {x : Mg.It} {d : Dd.D} {t : List Dd.D} (ha : Mg.all LL = true) (h : Mg.Far LL RL M) (k : Mg.Lnk RL H) (hx : x ∈ H) (hl : ∀ y ∈ H, Mg.lt y x = false) (hL : x.L = d :: t) : Mg.Far LL (RL.set x.age t) (Mg.add M d) := by
 have hxi := (k.is x hx).1
 obtain ⟨hi, e⟩ := List.getElem?_eq_some_iff.1 hxi
 have hsplit : RL = RL.take x.age ++ (d :: t) :: RL.drop (x.age + 1) := by
  rw [← hL, ← e, ← List.drop_eq_getElem_cons hi, List.take_append_drop]
 have hset : RL.set x.age t = RL.take x.age ++ t :: RL.drop (x.age + 1) := by rw [List.set_eq_take_append_cons_drop, if_pos hi]
 have hhead : ∀ (j : Nat) (l : List Dd.D), RL[j]? = some l → l ≠ [] → ∃ y ∈ H, y.age = j ∧ y.L = l := fun j l hj hl0 => by
  obtain ⟨y, hy, e⟩ := k.has j l hj hl0
  have h2 := (k.is y hy).1
  rw [e, hj] at h2
  exact ⟨y, hy, e, by simpa using h2.symm⟩
 have hkey : Mg.hk x = Bk.key d := by unfold Mg.hk; rw [hL]; rfl
 rw [hset]
 rw [hsplit] at h
 refine Mg.Far.step ha h (fun l hl2 h0 => ?_) (fun l hl2 h0 => ?_)
 ·obtain ⟨j, hj, e2⟩ := List.getElem_of_mem hl2
  rw [List.length_take] at hj
  rw [List.getElem_take] at e2
  obtain ⟨y, hy, e3, rfl⟩ := hhead j l (by rw [List.getElem?_eq_getElem (by omega), e2]) h0
  have h3 := hl y hy
  unfold Mg.lt Mg.od at h3
  rw [decide_eq_false_iff_not, hkey] at h3
  show 0 < Kn.cmp (Mg.hk y) (Bk.key d)
  split at h3
  ·rw [if_pos (by omega)] at h3; omega
  ·omega
 ·obtain ⟨j, hj, e2⟩ := List.getElem_of_mem hl2
  rw [List.getElem_drop] at e2
  obtain ⟨y, hy, e3, rfl⟩ := hhead (x.age + 1 + j) l (by rw [List.length_drop] at hj; rw [List.getElem?_eq_getElem (by omega), e2]) h0
  have h3 := hl y hy
  unfold Mg.lt Mg.od at h3
  rw [decide_eq_false_iff_not, hkey] at h3
  show 0 ≤ Kn.cmp (Mg.hk y) (Bk.key d)
  split at h3
  ·omega
  ·omega
end
end Go.Proofs.Ytikdcmplihgdcaa
