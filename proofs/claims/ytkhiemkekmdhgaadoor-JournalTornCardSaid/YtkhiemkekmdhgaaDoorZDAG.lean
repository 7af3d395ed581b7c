import Derived.Test.YtkhiemkekmdhgaaDoorZDAE
import Derived.Test.YtkhiemkekmdhgaaDoorZDAD
import Derived.Test.YtkhiemkekmdhgaaDoorZDAF
import Derived.Test.YtkhiemkekmdhgaaDoorZDAC
namespace Go.Proofs.YtkhiemkekmdhgaaDoor
open Go.RowKit
open Ty (num encU U64)
open Ig (rest read_encU splitU)
def Cl.is (c : Kn.C) (v : Kn.V) : Bool := Kn.isK c.k v && (!v.null || c.null)
def Cl.live (l : List Kn.V) : List Kn.V := l.filter fun v => !v.null
def Cl.nums (l : List Kn.V) : List Int := (Cl.live l).map fun v => v.n
def Cl.words (l : List Kn.V) : List Tx.Str := (Cl.live l).map fun v => v.s.data.toList
def Cl.vals (c : Kn.C) (l : List Kn.V) : List UInt8 := if c.k = 1 then Ig.enc (Ig.bk (Cl.nums l) 3) (Cl.nums l) else Tx.enc (Tx.bestK (Cl.words l)) (Cl.words l)
def Cl.nulls (l : List Kn.V) (i : Nat) : Bool := (l.getD i Cl.nul).null
def Cl.enc (c : Kn.C) (l : List Kn.V) : List UInt8 := encU l.length ++ ((Bt.bytes (Bt.need l.length) (Bt.tr l.length (Cl.nulls l))).data.toList ++ Cl.vals c l)
def Cl.wE (c : Kn.C) (l : List Kn.V) : Nat := if c.good = true then (if 65536 < l.length then 3 else if l.all (Cl.is c) = true then 0 else 6) else 4
def Cl.fill : List Bool → List Kn.V → Option (List Kn.V)
 | [], [] => some []
 | [], _ :: _ => none
 | true :: T, M => (Cl.fill T M).map (Cl.nul :: ·)
 | false :: _, [] => none
 | false :: T, x :: M => (Cl.fill T M).map (x :: ·)
def Cl.back (c : Kn.C) (r : List UInt8) : Nat × List Kn.V := if c.k = 1 then ((Ig.rd r).1, (Ig.rd r).2.map Cl.ofN) else ((Tx.rd r).1, (Tx.rd r).2.map Cl.ofS)
def Cl.bits (n : Nat) (s : ByteArray) : List Bool := (List.range n).map (Bt.bit s)
def Cl.rdV (c : Kn.C) (T : List Bool) (r : List UInt8) : Nat × List Kn.V :=
 if (Cl.back c r).1 ≠ 0 then ((Cl.back c r).1, [])
 else match Cl.fill T (Cl.back c r).2 with
  | none => (4, [])
  | some out => if Cl.vals c out = r then (0, out) else (4, [])
def Cl.rd (c : Kn.C) (l : List UInt8) : Nat × List Kn.V :=
 if c.good = false then (4, [])
 else if (num l).2.2 ≠ 0 then ((num l).2.2, [])
 else if 65536 < (num l).1 then (3, [])
 else if (rest l).length < Bt.need (num l).1 then (2, [])
 else if Bt.chk (Ty.S ((rest l).take (Bt.need (num l).1))) (num l).1 ≠ 0 then (Bt.chk (Ty.S ((rest l).take (Bt.need (num l).1))) (num l).1, [])
 else if (!c.null && (Cl.bits (num l).1 (Ty.S ((rest l).take (Bt.need (num l).1)))).any id) = true then (6, [])
 else Cl.rdV c (Cl.bits (num l).1 (Ty.S ((rest l).take (Bt.need (num l).1)))) ((rest l).drop (Bt.need (num l).1))
end Go.Proofs.YtkhiemkekmdhgaaDoor
namespace Go.Proofs.YtkhiemkekmdhgaaDoor
open Go
open Ty (num txt encU U64 I64)
open Ig (rest)
open Tx (encT)
def Bk.key (d : Dd.D) : Kn.V := d.row.headD Cl.nul
def Bk.nod : Dd.D := ⟨false, []⟩
def Bk.step (L : List Dd.D) (k : Nat) : Bool := !(L.getD k Bk.nod).row.isEmpty && (k == 0 || decide (Kn.cmp (Bk.key (L.getD (k - 1) Bk.nod)) (Bk.key (L.getD k Bk.nod)) < 0))
def Bk.sorted (L : List Dd.D) : Bool := (List.range L.length).all (Bk.step L)
def Bk.firstE (s : List Kn.C) : List Dd.D → Int
 | [] => 0
 | d :: r => if Dd.fitE s d = 0 then Bk.firstE s r else Dd.fitE s d
def Bk.fitsE (s : List Kn.C) (L : List Dd.D) : Int := if Bk.firstE s L = 0 then (if Bk.sorted L = true then 0 else 1) else Bk.firstE s L
def Bk.wE (s : List Kn.C) (L : List Dd.D) : Int := if Kn.right s = true then (if L.length < 1 ∨ 8 < L.length then 1 else Bk.fitsE s L) else 4
def Bk.has (i : Nat) (d : Dd.D) : Bool := i == 0 || !d.gone
def Bk.col (L : List Dd.D) (i : Nat) : List Kn.V := (L.filter (Bk.has i)).map fun d => d.row.getD i Cl.nul
def Bk.gones (L : List Dd.D) (i : Nat) : Bool := (L.getD i Bk.nod).gone
def Bk.encC : Nat → List Kn.C → List Dd.D → List UInt8
 | _, [], _ => []
 | i, c :: s, L => encT (Cl.enc c (Bk.col L i)) ++ Bk.encC (i + 1) s L
def Bk.bools (L : List Dd.D) : List UInt8 := (Bt.bytes (Bt.need L.length) (Bt.tr L.length (Bk.gones L))).data.toList
def Bk.enc (s : List Kn.C) (L : List Dd.D) : List UInt8 := encU L.length ++ (Bk.bools L ++ Bk.encC 0 s L)
def Bk.dist (i : Nat) : List Dd.D → List Kn.V → List Dd.D
 | [], _ => []
 | d :: r, vs => if Bk.has i d = true then ⟨d.gone, d.row ++ [vs.headD Cl.nul]⟩ :: Bk.dist i r vs.tail else d :: Bk.dist i r vs
def Bk.most : Int := 1048576
def Bk.restM (l : List UInt8) : List UInt8 := l.drop (txt l Bk.most).2.1
def Bk.rdC : Nat → List Kn.C → List Dd.D → List UInt8 → Option (List Dd.D × List UInt8)
 | _, [], A, l => some (A, l)
 | i, c :: s, A, l => if (txt l Bk.most).2.2 = 0 ∧ (Cl.rd c (txt l Bk.most).1).1 = 0 ∧ (Cl.rd c (txt l Bk.most).1).2.length = (A.filter (Bk.has i)).length then Bk.rdC (i + 1) s (Bk.dist i A (Cl.rd c (txt l Bk.most).1).2) (Bk.restM l) else none
def Bk.none_ (n : Nat) (b : UInt8) : List Dd.D := (List.range n).map fun i => ⟨b.toNat.testBit i, []⟩
def Bk.rd (s : List Kn.C) (l : List UInt8) : Nat × List Dd.D :=
 if Kn.right s = false then (4, [])
 else if (num l).2.2 ≠ 0 then (8, [])
 else match rest l with
  | [] => (8, [])
  | b :: r => if (num l).1 < 1 ∨ 8 < (num l).1 ∨ b.toNat / 2 ^ (num l).1 ≠ 0 then (8, [])
    else match Bk.rdC 0 s (Bk.none_ (num l).1 b) r with
     | none => (8, [])
     | some (L, r') => if r' = [] ∧ Bk.sorted L = true then (0, L) else (8, [])
def Bk.cut (i : Nat) (L : List Dd.D) : List Dd.D := L.map fun d => ⟨d.gone, d.row.take i⟩
def Bk.Len (i : Nat) (A : List Dd.D) : Prop := ∀ d ∈ A, d.row.length = if d.gone = true then min i 1 else i
end Go.Proofs.YtkhiemkekmdhgaaDoor
namespace Go.Proofs.YtkhiemkekmdhgaaDoor
open Go
def Mg.puts (M l : List Dd.D) : List Dd.D := l.foldl (Sk.put Bk.key) M
def Mg.nw : List (List Dd.D) → List Dd.D
 | [] => []
 | l :: LL => Mg.puts (Mg.nw LL) l
def Mg.all (LL : List (List Dd.D)) : Bool := LL.all Bk.sorted
def Mg.live (L : List Dd.D) : List Dd.D := L.filter fun d => !d.gone
def Mg.res (LL : List (List Dd.D)) : List Dd.D := if Mg.all LL = true then Mg.nw LL else []
def Mg.err (LL : List (List Dd.D)) : Int := if Mg.all LL = true then 0 else 1
theorem Mg.asc_of {L : List Dd.D} (h : Bk.sorted L = true) : ∀ (j i : Nat), i < j → j < L.length → Kn.cmp (Bk.key (L.getD i Bk.nod)) (Bk.key (L.getD j Bk.nod)) < 0
 | 0, _, h, _ => by omega
 | j + 1, i, hij, hj => by
   unfold Bk.sorted at h
   have hs := List.all_eq_true.1 h (j + 1) (List.mem_range.2 hj)
   unfold Bk.step at hs
   rw [Bool.and_eq_true, Bool.or_eq_true] at hs
   have h1 : Kn.cmp (Bk.key (L.getD j Bk.nod)) (Bk.key (L.getD (j + 1) Bk.nod)) < 0 := by
    rcases hs.2 with h2 | h2
    ·rw [beq_iff_eq] at h2; omega
    ·simpa using h2
   rcases Nat.lt_or_ge i j with h2 | h2
   ·exact Sk.lt_trans (Mg.asc_of (by unfold Bk.sorted; exact h) j i h2 (by omega)) h1
   ·obtain rfl : i = j := by omega
    exact h1
theorem Mg.getD_of {L : List Dd.D} {i : Nat} {x : Dd.D} (h : L[i]? = some x) : L.getD i Bk.nod = x := by rw [List.getD_eq_getElem?_getD, h]; rfl
theorem Mg.sorted_iff {L : List Dd.D} : Bk.sorted L = true ↔ (∀ d ∈ L, d.row ≠ []) ∧ Sk.Asc Bk.key L := by
 constructor
 ·intro h
  refine ⟨fun d hd he => ?_, ?_⟩
  ·obtain ⟨i, hi, e⟩ := List.getElem_of_mem hd
   have hx : L[i]? = some d := by rw [List.getElem?_eq_getElem hi, e]
   unfold Bk.sorted at h
   have hs := List.all_eq_true.1 h i (List.mem_range.2 hi)
   unfold Bk.step at hs
   rw [Mg.getD_of hx, he] at hs
   cases hs
  ·unfold Sk.Asc
   rw [List.pairwise_iff_getElem]
   intro i j hi hj hij
   have := Mg.asc_of h j i hij hj
   rwa [Mg.getD_of (List.getElem?_eq_getElem hi), Mg.getD_of (List.getElem?_eq_getElem hj)] at this
 ·rintro ⟨hr, ha⟩
  unfold Bk.sorted
  rw [List.all_eq_true]
  intro j hj
  have hj := List.mem_range.1 hj
  have hx : L[j]? = some L[j] := List.getElem?_eq_getElem hj
  unfold Bk.step
  rw [Mg.getD_of hx, Bool.and_eq_true]
  refine ⟨?_, ?_⟩
  ·have := hr L[j] (List.getElem_mem hj)
   cases e : L[j].row with
   | nil => exact absurd e this
   | cons _ _ => rfl
  ·cases j with
   | zero => rfl
   | succ j =>
     have hy : L[j]? = some (L[j]'(by omega)) := List.getElem?_eq_getElem _
     have := Sk.asc_behind ha (Nat.lt_succ_self j) hy hx
     rw [Nat.add_sub_cancel, Mg.getD_of hy]
     simp [this]
theorem Mg.puts_asc : ∀ (l : List Dd.D) {M : List Dd.D}, Sk.Asc Bk.key M → Sk.Asc Bk.key (Mg.puts M l)
 | [], _, h => h
 | x :: l, _, h => Mg.puts_asc l (Sk.put_asc h x)
theorem Mg.nw_asc : ∀ LL : List (List Dd.D), Sk.Asc Bk.key (Mg.nw LL)
 | [] => List.Pairwise.nil
 | l :: LL => Mg.puts_asc l (Mg.nw_asc LL)
theorem Mg.get_nil (k : Kn.V) : Sk.get Bk.key ([] : List Dd.D) k = none := rfl
theorem Mg.get_puts (k : Kn.V) : ∀ {l M : List Dd.D}, Sk.Asc Bk.key M → Sk.Asc Bk.key l → Sk.get Bk.key (Mg.puts M l) k = (Sk.get Bk.key l k).or (Sk.get Bk.key M k)
 | [], M, _, _ => by rw [Mg.get_nil]; rfl
 | x :: l, M, hM, hl => by
   have hl' : Sk.Asc Bk.key l := (List.pairwise_cons.1 hl).2
   have ih := Mg.get_puts k (Sk.put_asc hM x) hl'
   show Sk.get Bk.key (Mg.puts (Sk.put Bk.key M x) l) k = _
   rw [ih, Sk.get_put hM]
   by_cases h : Kn.cmp (Bk.key x) k = 0
   ·have h1 : Sk.get Bk.key (x :: l) k = some x := (Sk.get_mem hl).2 ⟨List.mem_cons_self, h⟩
    have h2 : Sk.get Bk.key l k = none := (Sk.get_none hl').2 fun y hy he => by
     have := (List.pairwise_cons.1 hl).1 y hy
     rw [Sk.eq_right he] at this
     omega
    rw [h1, h2, if_pos h]
    rfl
   ·rw [if_neg h]
    have h1 : Sk.get Bk.key (x :: l) k = Sk.get Bk.key l k := by
     cases hg : Sk.get Bk.key l k with
     | none =>
       rw [Sk.get_none hl]
       intro y hy
       rcases List.mem_cons.1 hy with rfl | hy
       ·exact h
       ·exact (Sk.get_none hl').1 hg y hy
     | some y =>
       obtain ⟨hy, he⟩ := (Sk.get_mem hl').1 hg
       exact (Sk.get_mem hl).2 ⟨List.mem_cons_of_mem _ hy, he⟩
    rw [h1]
def Mg.gg : List (List Dd.D) → Kn.V → Option Dd.D
 | [], _ => none
 | l :: LL, k => (Sk.get Bk.key l k).or (Mg.gg LL k)
theorem Mg.all_cons {l : List Dd.D} {LL : List (List Dd.D)} (h : Mg.all (l :: LL) = true) : Bk.sorted l = true ∧ Mg.all LL = true := by
 unfold Mg.all at h ⊢
 simpa using h
theorem Mg.get_nw (k : Kn.V) : ∀ {LL : List (List Dd.D)}, Mg.all LL = true → Sk.get Bk.key (Mg.nw LL) k = Mg.gg LL k
 | [], _ => rfl
 | l :: LL, h => by
   obtain ⟨h1, h2⟩ := Mg.all_cons h
   show Sk.get Bk.key (Mg.puts (Mg.nw LL) l) k = _
   rw [Mg.get_puts k (Mg.nw_asc LL) (Mg.sorted_iff.1 h1).2, Mg.get_nw k h2]
   rfl
theorem Mg.mem_iff {L : List Dd.D} (h : Sk.Asc Bk.key L) (y : Dd.D) : y ∈ L ↔ Sk.get Bk.key L (Bk.key y) = some y :=
 ⟨fun hy => (Sk.get_mem h).2 ⟨hy, Sk.cmp_self _⟩, fun hg => ((Sk.get_mem h).1 hg).1⟩
theorem Mg.ext {L M : List Dd.D} (h : Sk.Asc Bk.key L) (g : Sk.Asc Bk.key M) (e : ∀ k, Sk.get Bk.key L k = Sk.get Bk.key M k) : L = M :=
 Sk.asc_ext h g fun y => by rw [Mg.mem_iff h, Mg.mem_iff g, e]
theorem Mg.gg_append (k : Kn.V) : ∀ A B : List (List Dd.D), Mg.gg (A ++ B) k = (Mg.gg A k).or (Mg.gg B k)
 | [], B => rfl
 | l :: A, B => by
   show (Sk.get Bk.key l k).or (Mg.gg (A ++ B) k) = ((Sk.get Bk.key l k).or (Mg.gg A k)).or (Mg.gg B k)
   rw [Mg.gg_append k A B, Option.or_assoc]
theorem Mg.all_append (A B : List (List Dd.D)) : Mg.all (A ++ B) = (Mg.all A && Mg.all B) := by unfold Mg.all; exact List.all_append
theorem Mg.mem_puts : ∀ {l M : List Dd.D} {y : Dd.D}, Sk.Asc Bk.key M → y ∈ Mg.puts M l → y ∈ l ∨ y ∈ M
 | [], M, y, _, h => .inr h
 | x :: l, M, y, hM, h => by
   rcases Mg.mem_puts (Sk.put_asc hM x) h with h1 | h1
   ·exact .inl (List.mem_cons_of_mem _ h1)
   ·rcases (Sk.mem_put hM).1 h1 with rfl | ⟨h2, _⟩
    ·exact .inl List.mem_cons_self
    ·exact .inr h2
theorem Mg.mem_nw : ∀ {LL : List (List Dd.D)} {y : Dd.D}, y ∈ Mg.nw LL → ∃ l ∈ LL, y ∈ l
 | l :: LL, y, h => by
   rcases Mg.mem_puts (Mg.nw_asc LL) h with h1 | h1
   ·exact ⟨l, List.mem_cons_self, h1⟩
   ·obtain ⟨m, hm, hy⟩ := Mg.mem_nw h1
    exact ⟨m, List.mem_cons_of_mem _ hm, hy⟩
theorem Mg.all_mem {LL : List (List Dd.D)} (h : Mg.all LL = true) {l : List Dd.D} (hl : l ∈ LL) : Bk.sorted l = true := by
 unfold Mg.all at h
 exact List.all_eq_true.1 h l hl
theorem Mg.nw_sorted {LL : List (List Dd.D)} (h : Mg.all LL = true) : Bk.sorted (Mg.nw LL) = true :=
 Mg.sorted_iff.2 ⟨fun d hd => by
  obtain ⟨l, hl, hdl⟩ := Mg.mem_nw hd
  exact (Mg.sorted_iff.1 (Mg.all_mem h hl)).1 d hdl, Mg.nw_asc LL⟩
theorem Mg.steps {A B C : List (List Dd.D)} (h : Mg.all (A ++ (B ++ C)) = true) : Mg.all B = true ∧ Mg.all (A ++ (Mg.nw B :: C)) = true ∧ Mg.nw (A ++ (Mg.nw B :: C)) = Mg.nw (A ++ (B ++ C)) := by
 have h0 := h
 rw [Mg.all_append, Mg.all_append, Bool.and_eq_true, Bool.and_eq_true] at h
 have h1 : Mg.all (Mg.nw B :: C) = true := by
  unfold Mg.all
  rw [List.all_cons, Bool.and_eq_true]
  exact ⟨Mg.nw_sorted h.2.1, h.2.2⟩
 have h2 : Mg.all (A ++ (Mg.nw B :: C)) = true := by rw [Mg.all_append, h.1, h1]; rfl
 refine ⟨h.2.1, h2, Mg.ext (Mg.nw_asc _) (Mg.nw_asc _) fun k => ?_⟩
 rw [Mg.get_nw k h2, Mg.get_nw k h0, Mg.gg_append, Mg.gg_append, Mg.gg_append]
 show (Mg.gg A k).or ((Sk.get Bk.key (Mg.nw B) k).or (Mg.gg C k)) = _
 rw [Mg.get_nw k h.2.1]
theorem Mg.mem_live {l : List Dd.D} {y : Dd.D} : y ∈ Mg.live l ↔ y ∈ l ∧ y.gone = false := by unfold Mg.live; rw [List.mem_filter]; simp
theorem Mg.live_asc {l : List Dd.D} (h : Sk.Asc Bk.key l) : Sk.Asc Bk.key (Mg.live l) := List.Pairwise.sublist List.filter_sublist h
theorem Mg.live_sorted {l : List Dd.D} (h : Bk.sorted l = true) : Bk.sorted (Mg.live l) = true :=
 Mg.sorted_iff.2 ⟨fun d hd => (Mg.sorted_iff.1 h).1 d (Mg.mem_live.1 hd).1, Mg.live_asc (Mg.sorted_iff.1 h).2⟩
theorem Mg.gone {A : List (List Dd.D)} {l : List Dd.D} (h : Mg.all (A ++ [l]) = true) : Mg.all (A ++ [Mg.live l]) = true ∧ Mg.live (Mg.nw (A ++ [Mg.live l])) = Mg.live (Mg.nw (A ++ [l])) := by
 have h0 := h
 rw [Mg.all_append, Bool.and_eq_true] at h
 have hl : Bk.sorted l = true := (Mg.all_cons h.2).1
 have h2 : Mg.all (A ++ [Mg.live l]) = true := by
  rw [Mg.all_append, h.1]
  unfold Mg.all
  simp [Mg.live_sorted hl]
 refine ⟨h2, Sk.asc_ext (key := Bk.key) (Mg.live_asc (Mg.nw_asc _)) (Mg.live_asc (Mg.nw_asc _)) fun y => ?_⟩
 rw [Mg.mem_live, Mg.mem_live]
 refine and_congr_left fun hg => ?_
 rw [Mg.mem_iff (Mg.nw_asc _), Mg.mem_iff (Mg.nw_asc _), Mg.get_nw _ h2, Mg.get_nw _ h0, Mg.gg_append, Mg.gg_append]
 show (Mg.gg A (Bk.key y)).or ((Sk.get Bk.key (Mg.live l) (Bk.key y)).or none) = some y ↔ (Mg.gg A (Bk.key y)).or ((Sk.get Bk.key l (Bk.key y)).or none) = some y
 cases Mg.gg A (Bk.key y) with
 | some z => simp
 | none =>
   simp only [Option.none_or, Option.or_none]
   rw [← Mg.mem_iff (Mg.live_asc (Mg.sorted_iff.1 hl).2), ← Mg.mem_iff (Mg.sorted_iff.1 hl).2, Mg.mem_live]
   exact ⟨fun h => h.1, fun h => ⟨h, hg⟩⟩
theorem Mg.one {l : List Dd.D} (h : Bk.sorted l = true) : Mg.nw [l] = l := by
 have ha : Mg.all [l] = true := by unfold Mg.all; simp [h]
 refine Mg.ext (Mg.nw_asc _) (Mg.sorted_iff.1 h).2 fun k => ?_
 rw [Mg.get_nw k ha]
 show (Sk.get Bk.key l k).or none = _
 rw [Option.or_none]
theorem Mg.two {l : List Dd.D} (h : Bk.sorted l = true) : Mg.nw [l, l] = l := by
 have ha : Mg.all [l, l] = true := by unfold Mg.all; simp [h]
 refine Mg.ext (Mg.nw_asc _) (Mg.sorted_iff.1 h).2 fun k => ?_
 rw [Mg.get_nw k ha]
 show (Sk.get Bk.key l k).or ((Sk.get Bk.key l k).or none) = _
 cases Sk.get Bk.key l k <;> rfl
def Mg.has (L : List Dd.D) (k : Kn.V) : Bool := L.any fun d => Kn.cmp (Bk.key d) k == 0
end Go.Proofs.YtkhiemkekmdhgaaDoor
namespace Go.Proofs.YtkhiemkekmdhgaaDoor.Fr
open Go
def P : Nat := 2197175160
def T (r : Nat) : Nat := (r / 2) ^^^ (if r % 2 = 1 then P else 0)
theorem xor_half (a b : Nat) : (a ^^^ b) / 2 = (a / 2) ^^^ (b / 2) := by
 have := Nat.shiftRight_xor_distrib (a := a) (b := b) (i := 1)
 simpa [Nat.shiftRight_eq_div_pow] using this
theorem xor_odd (a b : Nat) : (a ^^^ b) % 2 = (a + b) % 2 := by
 have h := Nat.testBit_xor a b 0
 simp only [Nat.testBit_zero] at h
 rcases Nat.mod_two_eq_zero_or_one a with ha | ha <;> rcases Nat.mod_two_eq_zero_or_one b with hb | hb <;> rcases Nat.mod_two_eq_zero_or_one (a ^^^ b) with hc | hc <;> simp [ha, hb, hc] at h <;> omega
theorem T_xor (a b : Nat) : T (a ^^^ b) = T a ^^^ T b := by
 unfold T
 rw [xor_half, xor_odd]
 rcases Nat.mod_two_eq_zero_or_one a with ha | ha <;> rcases Nat.mod_two_eq_zero_or_one b with hb | hb
 ·rw [if_neg (by omega), if_neg (by omega), if_neg (by omega)]; simp
 ·rw [if_pos (by omega), if_neg (by omega), if_pos hb]; simp [Nat.xor_assoc]
 ·rw [if_pos (by omega), if_pos ha, if_neg (by omega)]
  rw [Nat.xor_zero, Nat.xor_assoc, Nat.xor_assoc, Nat.xor_comm P]
 ·rw [if_neg (by omega), if_pos ha, if_pos hb, Nat.xor_zero]
  have e : (a / 2 ^^^ P) ^^^ (b / 2 ^^^ P) = (a / 2 ^^^ b / 2) ^^^ (P ^^^ P) := by
   rw [Nat.xor_assoc, Nat.xor_assoc, ← Nat.xor_assoc P, Nat.xor_comm P, Nat.xor_assoc]
  rw [e, Nat.xor_self, Nat.xor_zero]
theorem T_double (r : Nat) : T (2 * r) = r := by
 unfold T
 rw [if_neg (by omega), Nat.xor_zero]
 omega
theorem T_lt {r : Nat} (h : r < 2 ^ 32) : T r < 2 ^ 32 := by
 unfold T
 refine Nat.xor_lt_two_pow (by omega) ?_
 split
 ·decide
 ·decide
def Tn : Nat → Nat → Nat
 | 0, r => r
 | k + 1, r => Tn k (T r)
theorem Tn_add (j k r : Nat) : Tn (j + k) r = Tn k (Tn j r) := by
 induction j generalizing r with
 | zero => rw [Nat.zero_add]; rfl
 | succ j ih => rw [Nat.succ_add]; exact ih (T r)
theorem Tn_xor (k a b : Nat) : Tn k (a ^^^ b) = Tn k a ^^^ Tn k b := by
 induction k generalizing a b with
 | zero => rfl
 | succ k ih =>
   show Tn k (T (a ^^^ b)) = _
   rw [T_xor]
   exact ih (T a) (T b)
theorem Tn_shift (k r : Nat) : Tn k (2 ^ k * r) = r := by
 induction k generalizing r with
 | zero => simp [Tn]
 | succ k ih =>
   show Tn k (T (2 ^ (k + 1) * r)) = r
   have e : 2 ^ (k + 1) * r = 2 * (2 ^ k * r) := by rw [Nat.pow_succ, Nat.mul_comm (2 ^ k) 2, Nat.mul_assoc]
   rw [e, T_double, ih]
theorem Tn_lt {k r : Nat} (h : r < 2 ^ 32) : Tn k r < 2 ^ 32 := by
 induction k generalizing r with
 | zero => exact h
 | succ k ih => exact ih (T_lt h)
theorem Tn_split (k r : Nat) : Tn k r = (r / 2 ^ k) ^^^ Tn k (r % 2 ^ k) := by
 have e : r = (2 ^ k * (r / 2 ^ k)) ^^^ (r % 2 ^ k) := by
  have h := Nat.div_add_mod r (2 ^ k)
  have h2 := Nat.mod_lt r (Nat.two_pow_pos k)
  refine Nat.eq_of_testBit_eq fun i => ?_
  rw [Nat.testBit_xor, Nat.testBit_two_pow_mul, Nat.testBit_mod_two_pow, Nat.testBit_div_two_pow]
  by_cases hi : k ≤ i
  ·have h3 : ¬ i < k := by omega
   have h4 : i - k + k = i := by omega
   simp [hi, h3, h4]
  ·have h3 : i < k := by omega
   simp [hi, h3]
 conv => lhs; rw [e]
 rw [Tn_xor, Tn_shift]
def reg : Nat → List UInt8 → Nat
 | r, [] => r
 | r, b :: l => reg (Tn 8 (r ^^^ b.toNat)) l
def val : List UInt8 → Nat
 | [] => 0
 | b :: l => 256 * val l + b.toNat
theorem val_lt (l : List UInt8) : val l < 2 ^ (8 * l.length) := by
 induction l with
 | nil => simp [val]
 | cons b l ih =>
   have hb := b.toNat_lt
   have e : 2 ^ (8 * (b :: l).length) = 256 * 2 ^ (8 * l.length) := by
    rw [List.length_cons, Nat.mul_add, Nat.pow_add, Nat.mul_comm]
   rw [e]
   unfold val
   omega
theorem reg_append (a b : List UInt8) (r : Nat) : reg r (a ++ b) = reg (reg r a) b := by
 induction a generalizing r with
 | nil => rfl
 | cons x a ih => exact ih _
theorem reg_lt (l : List UInt8) : ∀ r, r < 2 ^ 32 → reg r l < 2 ^ 32 := by
 induction l with
 | nil => intro r h; exact h
 | cons b l ih =>
   intro r h
   exact ih _ (Tn_lt (Nat.xor_lt_two_pow h (Nat.lt_of_lt_of_le b.toNat_lt (by decide))))
def ones : Nat := 4294967295
def sum (l : List UInt8) : Nat := reg ones l ^^^ ones
theorem sum_lt (l : List UInt8) : sum l < 2 ^ 32 := Nat.xor_lt_two_pow (reg_lt l ones (by decide)) (by decide)
end Go.Proofs.YtkhiemkekmdhgaaDoor.Fr
namespace Go.Proofs.YtkhiemkekmdhgaaDoor.Fr
open Go
abbrev Str := List UInt8
def four (n : Nat) : List UInt8 := [UInt8.ofNat (n % 256), UInt8.ofNat (n / 256 % 256), UInt8.ofNat (n / 65536 % 256), UInt8.ofNat (n / 16777216 % 256)]
theorem four_len (n : Nat) : (four n).length = 4 := rfl
theorem val_four (n : Nat) (h : n < 2 ^ 32) : val (four n) = n := by
 unfold four val val val val val
 simp only [UInt8.toNat_ofNat']
 omega
def frm (t : Str) : List UInt8 := four t.length ++ (t ++ four (sum t))
theorem frm_len (t : Str) : (frm t).length = t.length + 8 := by simp [frm, four_len]; omega
def scanF : Nat → List UInt8 → Nat × List Str × Nat
 | 0, _ => (0, [], 0)
 | f + 1, l =>
   if l.length < 4 then (0, [], 0)
   else if 1048576 < val (l.take 4) then (8, [], 0)
   else if l.length < val (l.take 4) + 8 then (0, [], 0)
   else if val ((l.drop (4 + val (l.take 4))).take 4) ≠ sum ((l.drop 4).take (val (l.take 4))) then (8, [], 0)
   else if (scanF f (l.drop (val (l.take 4) + 8))).1 ≠ 0 then (8, [], 0)
   else (0, (l.drop 4).take (val (l.take 4)) :: (scanF f (l.drop (val (l.take 4) + 8))).2.1, val (l.take 4) + 8 + (scanF f (l.drop (val (l.take 4) + 8))).2.2)
theorem scanF_any : ∀ (f g : Nat) (l : List UInt8), l.length < f → l.length < g → scanF f l = scanF g l
 | 0, _, l, h, _ => by omega
 | _ + 1, 0, l, _, h => by omega
 | f + 1, g + 1, l, h1, h2 => by
   simp only [scanF]
   by_cases a : l.length < 4
   ·rw [if_pos a, if_pos a]
   ·have e : scanF f (l.drop (val (l.take 4) + 8)) = scanF g (l.drop (val (l.take 4) + 8)) := scanF_any f g _ (by rw [List.length_drop]; omega) (by rw [List.length_drop]; omega)
    rw [e]
def scan (l : List UInt8) : Nat × List Str × Nat := scanF (l.length + 1) l
theorem scan_is (l : List UInt8) : scan l =
 if l.length < 4 then (0, [], 0)
 else if 1048576 < val (l.take 4) then (8, [], 0)
 else if l.length < val (l.take 4) + 8 then (0, [], 0)
 else if val ((l.drop (4 + val (l.take 4))).take 4) ≠ sum ((l.drop 4).take (val (l.take 4))) then (8, [], 0)
 else if (scan (l.drop (val (l.take 4) + 8))).1 ≠ 0 then (8, [], 0)
 else (0, (l.drop 4).take (val (l.take 4)) :: (scan (l.drop (val (l.take 4) + 8))).2.1, val (l.take 4) + 8 + (scan (l.drop (val (l.take 4) + 8))).2.2) := by
 by_cases a : l.length < 4
 ·rw [if_pos a]
  show scanF (l.length + 1) l = _
  simp only [scanF]
  rw [if_pos a]
 ·have e : scanF l.length (l.drop (val (l.take 4) + 8)) = scan (l.drop (val (l.take 4) + 8)) := scanF_any _ _ _ (by rw [List.length_drop]; omega) (by omega)
  rw [← e]
  rfl
def more (t : Str) (q : Nat × List Str × Nat) : Nat × List Str × Nat := if q.1 ≠ 0 then (8, [], 0) else (0, t :: q.2.1, t.length + 8 + q.2.2)
theorem scan_frm (t : Str) (h : t.length ≤ 1048576) (r : List UInt8) : scan (frm t ++ r) = more t (scan r) := by
 have e1 : (frm t ++ r).take 4 = four t.length := by
  unfold frm
  rw [List.append_assoc, List.take_append_of_le_length (by rw [four_len]; omega)]
  rfl
 have e2 : val ((frm t ++ r).take 4) = t.length := by rw [e1, val_four _ (by omega)]
 have e3 : (frm t ++ r).drop 4 = t ++ (four (sum t) ++ r) := by unfold frm; simp [four]
 have e4 : ((frm t ++ r).drop 4).take t.length = t := by rw [e3]; simp
 have e5 : ((frm t ++ r).drop (4 + t.length)).take 4 = four (sum t) := by
  rw [← List.drop_drop, e3]
  simp [four]
 have e6 : (frm t ++ r).drop (t.length + 8) = r := by
  rw [← frm_len]; simp
 have e7 : (frm t ++ r).length = t.length + 8 + r.length := by rw [List.length_append, frm_len]
 rw [scan_is, e2, e4, e5, e6, e7, if_neg (by omega), if_neg (by omega), if_neg (by omega), if_neg (by rw [val_four _ (sum_lt t)]; simp)]
 rfl
theorem scan_nil : scan [] = (0, [], 0) := by rw [scan_is]; simp
def size (L : List Str) : Nat := (L.map fun t => t.length + 8).sum
theorem size_is (L : List Str) : (L.flatMap frm).length = size L := by
 induction L with
 | nil => rfl
 | cons t L ih =>
   rw [List.flatMap_cons, List.length_append, ih, frm_len]
   simp [size]
def whole : List Str → Nat → Nat
 | [], _ => 0
 | t :: L, k => if t.length + 8 ≤ k then whole L (k - (t.length + 8)) + 1 else 0
theorem scan_torn : ∀ (L : List Str) (k : Nat), (∀ t ∈ L, t.length ≤ 1048576) → scan ((L.flatMap frm).take k) = (0, L.take (whole L k), size (L.take (whole L k)))
 | [], k, _ => by simp [whole, scan_nil, size]
 | t :: L, k, h => by
   have ht := h t (by simp)
   unfold whole
   by_cases hk : t.length + 8 ≤ k
   ·rw [if_pos hk]
    have e : ((t :: L).flatMap frm).take k = frm t ++ (L.flatMap frm).take (k - (t.length + 8)) := by
     rw [List.flatMap_cons, List.take_append, frm_len, List.take_of_length_le (by rw [frm_len]; omega)]
    rw [e, scan_frm t ht, scan_torn L _ fun y hy => h y (by simp [hy])]
    simp [more, size]
   ·rw [if_neg hk]
    have e : ((t :: L).flatMap frm).take k = (frm t).take k := by
     rw [List.flatMap_cons, List.take_append_of_le_length (by rw [frm_len]; omega)]
    have hl : ((frm t).take k).length = k := by rw [List.length_take, frm_len]; omega
    rw [e, scan_is, hl]
    by_cases h4 : k < 4
    ·rw [if_pos h4]
     simp [size]
    ·have e2 : ((frm t).take k).take 4 = four t.length := by
      rw [List.take_take, Nat.min_eq_left (by omega)]
      unfold frm
      rw [List.take_append_of_le_length (by rw [four_len]; omega)]
      rfl
     rw [if_neg h4, e2, val_four _ (by omega), if_neg (by omega), if_pos (by omega)]
     simp [size]
theorem scan_err (l : List UInt8) : (scan l).1 = 0 ∨ scan l = (8, [], 0) := by
 rw [scan_is]
 repeat' split
 all_goals first | exact .inl rfl | exact .inr rfl
def both (a : List UInt8) (p q : Nat × List Str × Nat) : Nat × List Str × Nat := if p.1 ≠ 0 then (8, [], 0) else if q.1 ≠ 0 then (8, [], 0) else (0, p.2.1 ++ q.2.1, a.length + q.2.2)
end Go.Proofs.YtkhiemkekmdhgaaDoor.Fr
