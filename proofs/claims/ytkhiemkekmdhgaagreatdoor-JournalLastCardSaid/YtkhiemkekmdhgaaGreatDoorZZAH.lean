import Derived.Test.YtkhiemkekmdhgaaGreatDoorZZAG
import Derived.Test.YtkhiemkekmdhgaaGreatDoorZZAD
import Derived.Test.YtkhiemkekmdhgaaGreatDoorZZAE
import Derived.Test.YtkhiemkekmdhgaaGreatDoorZZAC
import Derived.Test.YtkhiemkekmdhgaaGreatDoorZZAB
import Derived.Laws.BitsAllLaws
import Derived.Deep.RegionWith
import Derived.BigQuiet
namespace Go.Proofs.YtkhiemkekmdhgaaGreatDoor
open Go
open Ty (num txt encU U64 I64)
open Ig (rest)
open Tx (encT)
def Bk.key (d : Dd.D) : Kn.V := d.row.headD Cl.nul
def Bk.nod : Dd.D := ⟨false, []⟩
def Bk.step (L : List Dd.D) (k : Nat) : Bool := !(L.getD k Bk.nod).row.isEmpty && (k == 0 || decide (Kn.cmp (Bk.key (L.getD (k - 1) Bk.nod)) (Bk.key (L.getD k Bk.nod)) < 0))
def Bk.sorted (L : List Dd.D) : Bool := (List.range L.length).all (Bk.step L)
def Bk.firstE (s : List Kn.C) : List Dd.D → Int
 | [] => 0
 | d :: r => if Dd.fitE s d = 0 then Bk.firstE s r else Dd.fitE s d
def Bk.fitsE (s : List Kn.C) (L : List Dd.D) : Int := if Bk.firstE s L = 0 then (if Bk.sorted L = true then 0 else 1) else Bk.firstE s L
def Bk.wE (s : List Kn.C) (L : List Dd.D) : Int := if Kn.right s = true then (if L.length < 1 ∨ 8 < L.length then 1 else Bk.fitsE s L) else 4
def Bk.has (i : Nat) (d : Dd.D) : Bool := i == 0 || !d.gone
def Bk.col (L : List Dd.D) (i : Nat) : List Kn.V := (L.filter (Bk.has i)).map fun d => d.row.getD i Cl.nul
def Bk.gones (L : List Dd.D) (i : Nat) : Bool := (L.getD i Bk.nod).gone
def Bk.encC : Nat → List Kn.C → List Dd.D → List UInt8
 | _, [], _ => []
 | i, c :: s, L => encT (Cl.enc c (Bk.col L i)) ++ Bk.encC (i + 1) s L
def Bk.bools (L : List Dd.D) : List UInt8 := (Bt.bytes (Bt.need L.length) (Bt.tr L.length (Bk.gones L))).data.toList
def Bk.enc (s : List Kn.C) (L : List Dd.D) : List UInt8 := encU L.length ++ (Bk.bools L ++ Bk.encC 0 s L)
def Bk.dist (i : Nat) : List Dd.D → List Kn.V → List Dd.D
 | [], _ => []
 | d :: r, vs => if Bk.has i d = true then ⟨d.gone, d.row ++ [vs.headD Cl.nul]⟩ :: Bk.dist i r vs.tail else d :: Bk.dist i r vs
def Bk.most : Int := 1048576
def Bk.restM (l : List UInt8) : List UInt8 := l.drop (txt l Bk.most).2.1
def Bk.rdC : Nat → List Kn.C → List Dd.D → List UInt8 → Option (List Dd.D × List UInt8)
 | _, [], A, l => some (A, l)
 | i, c :: s, A, l => if (txt l Bk.most).2.2 = 0 ∧ (Cl.rd c (txt l Bk.most).1).1 = 0 ∧ (Cl.rd c (txt l Bk.most).1).2.length = (A.filter (Bk.has i)).length then Bk.rdC (i + 1) s (Bk.dist i A (Cl.rd c (txt l Bk.most).1).2) (Bk.restM l) else none
def Bk.none_ (n : Nat) (b : UInt8) : List Dd.D := (List.range n).map fun i => ⟨b.toNat.testBit i, []⟩
def Bk.rd (s : List Kn.C) (l : List UInt8) : Nat × List Dd.D :=
 if Kn.right s = false then (4, [])
 else if (num l).2.2 ≠ 0 then (8, [])
 else match rest l with
  | [] => (8, [])
  | b :: r => if (num l).1 < 1 ∨ 8 < (num l).1 ∨ b.toNat / 2 ^ (num l).1 ≠ 0 then (8, [])
    else match Bk.rdC 0 s (Bk.none_ (num l).1 b) r with
     | none => (8, [])
     | some (L, r') => if r' = [] ∧ Bk.sorted L = true then (0, L) else (8, [])
def Bk.cut (i : Nat) (L : List Dd.D) : List Dd.D := L.map fun d => ⟨d.gone, d.row.take i⟩
def Bk.Len (i : Nat) (A : List Dd.D) : Prop := ∀ d ∈ A, d.row.length = if d.gone = true then min i 1 else i
end Go.Proofs.YtkhiemkekmdhgaaGreatDoor
namespace Go.Proofs.YtkhiemkekmdhgaaGreatDoor
open Go
def Mg.puts (M l : List Dd.D) : List Dd.D := l.foldl (Sk.put Bk.key) M
def Mg.nw : List (List Dd.D) → List Dd.D
 | [] => []
 | l :: LL => Mg.puts (Mg.nw LL) l
def Mg.all (LL : List (List Dd.D)) : Bool := LL.all Bk.sorted
def Mg.live (L : List Dd.D) : List Dd.D := L.filter fun d => !d.gone
def Mg.res (LL : List (List Dd.D)) : List Dd.D := if Mg.all LL = true then Mg.nw LL else []
def Mg.err (LL : List (List Dd.D)) : Int := if Mg.all LL = true then 0 else 1
theorem Mg.asc_of {L : List Dd.D} (h : Bk.sorted L = true) : ∀ (j i : Nat), i < j → j < L.length → Kn.cmp (Bk.key (L.getD i Bk.nod)) (Bk.key (L.getD j Bk.nod)) < 0
 | 0, _, h, _ => by omega
 | j + 1, i, hij, hj => by
   unfold Bk.sorted at h
   have hs := List.all_eq_true.1 h (j + 1) (List.mem_range.2 hj)
   unfold Bk.step at hs
   rw [Bool.and_eq_true, Bool.or_eq_true] at hs
   have h1 : Kn.cmp (Bk.key (L.getD j Bk.nod)) (Bk.key (L.getD (j + 1) Bk.nod)) < 0 := by
    rcases hs.2 with h2 | h2
    ·rw [beq_iff_eq] at h2; omega
    ·simpa using h2
   rcases Nat.lt_or_ge i j with h2 | h2
   ·exact Sk.lt_trans (Mg.asc_of (by unfold Bk.sorted; exact h) j i h2 (by omega)) h1
   ·obtain rfl : i = j := by omega
    exact h1
theorem Mg.getD_of {L : List Dd.D} {i : Nat} {x : Dd.D} (h : L[i]? = some x) : L.getD i Bk.nod = x := by rw [List.getD_eq_getElem?_getD, h]; rfl
theorem Mg.sorted_iff {L : List Dd.D} : Bk.sorted L = true ↔ (∀ d ∈ L, d.row ≠ []) ∧ Sk.Asc Bk.key L := by
 constructor
 ·intro h
  refine ⟨fun d hd he => ?_, ?_⟩
  ·obtain ⟨i, hi, e⟩ := List.getElem_of_mem hd
   have hx : L[i]? = some d := by rw [List.getElem?_eq_getElem hi, e]
   unfold Bk.sorted at h
   have hs := List.all_eq_true.1 h i (List.mem_range.2 hi)
   unfold Bk.step at hs
   rw [Mg.getD_of hx, he] at hs
   cases hs
  ·unfold Sk.Asc
   rw [List.pairwise_iff_getElem]
   intro i j hi hj hij
   have := Mg.asc_of h j i hij hj
   rwa [Mg.getD_of (List.getElem?_eq_getElem hi), Mg.getD_of (List.getElem?_eq_getElem hj)] at this
 ·rintro ⟨hr, ha⟩
  unfold Bk.sorted
  rw [List.all_eq_true]
  intro j hj
  have hj := List.mem_range.1 hj
  have hx : L[j]? = some L[j] := List.getElem?_eq_getElem hj
  unfold Bk.step
  rw [Mg.getD_of hx, Bool.and_eq_true]
  refine ⟨?_, ?_⟩
  ·have := hr L[j] (List.getElem_mem hj)
   cases e : L[j].row with
   | nil => exact absurd e this
   | cons _ _ => rfl
  ·cases j with
   | zero => rfl
   | succ j =>
     have hy : L[j]? = some (L[j]'(by omega)) := List.getElem?_eq_getElem _
     have := Sk.asc_behind ha (Nat.lt_succ_self j) hy hx
     rw [Nat.add_sub_cancel, Mg.getD_of hy]
     simp [this]
theorem Mg.puts_asc : ∀ (l : List Dd.D) {M : List Dd.D}, Sk.Asc Bk.key M → Sk.Asc Bk.key (Mg.puts M l)
 | [], _, h => h
 | x :: l, _, h => Mg.puts_asc l (Sk.put_asc h x)
theorem Mg.nw_asc : ∀ LL : List (List Dd.D), Sk.Asc Bk.key (Mg.nw LL)
 | [] => List.Pairwise.nil
 | l :: LL => Mg.puts_asc l (Mg.nw_asc LL)
theorem Mg.get_nil (k : Kn.V) : Sk.get Bk.key ([] : List Dd.D) k = none := rfl
theorem Mg.get_puts (k : Kn.V) : ∀ {l M : List Dd.D}, Sk.Asc Bk.key M → Sk.Asc Bk.key l → Sk.get Bk.key (Mg.puts M l) k = (Sk.get Bk.key l k).or (Sk.get Bk.key M k)
 | [], M, _, _ => by rw [Mg.get_nil]; rfl
 | x :: l, M, hM, hl => by
   have hl' : Sk.Asc Bk.key l := (List.pairwise_cons.1 hl).2
   have ih := Mg.get_puts k (Sk.put_asc hM x) hl'
   show Sk.get Bk.key (Mg.puts (Sk.put Bk.key M x) l) k = _
   rw [ih, Sk.get_put hM]
   by_cases h : Kn.cmp (Bk.key x) k = 0
   ·have h1 : Sk.get Bk.key (x :: l) k = some x := (Sk.get_mem hl).2 ⟨List.mem_cons_self, h⟩
    have h2 : Sk.get Bk.key l k = none := (Sk.get_none hl').2 fun y hy he => by
     have := (List.pairwise_cons.1 hl).1 y hy
     rw [Sk.eq_right he] at this
     omega
    rw [h1, h2, if_pos h]
    rfl
   ·rw [if_neg h]
    have h1 : Sk.get Bk.key (x :: l) k = Sk.get Bk.key l k := by
     cases hg : Sk.get Bk.key l k with
     | none =>
       rw [Sk.get_none hl]
       intro y hy
       rcases List.mem_cons.1 hy with rfl | hy
       ·exact h
       ·exact (Sk.get_none hl').1 hg y hy
     | some y =>
       obtain ⟨hy, he⟩ := (Sk.get_mem hl').1 hg
       exact (Sk.get_mem hl).2 ⟨List.mem_cons_of_mem _ hy, he⟩
    rw [h1]
def Mg.gg : List (List Dd.D) → Kn.V → Option Dd.D
 | [], _ => none
 | l :: LL, k => (Sk.get Bk.key l k).or (Mg.gg LL k)
theorem Mg.all_cons {l : List Dd.D} {LL : List (List Dd.D)} (h : Mg.all (l :: LL) = true) : Bk.sorted l = true ∧ Mg.all LL = true := by
 unfold Mg.all at h ⊢
 simpa using h
theorem Mg.get_nw (k : Kn.V) : ∀ {LL : List (List Dd.D)}, Mg.all LL = true → Sk.get Bk.key (Mg.nw LL) k = Mg.gg LL k
 | [], _ => rfl
 | l :: LL, h => by
   obtain ⟨h1, h2⟩ := Mg.all_cons h
   show Sk.get Bk.key (Mg.puts (Mg.nw LL) l) k = _
   rw [Mg.get_puts k (Mg.nw_asc LL) (Mg.sorted_iff.1 h1).2, Mg.get_nw k h2]
   rfl
theorem Mg.mem_iff {L : List Dd.D} (h : Sk.Asc Bk.key L) (y : Dd.D) : y ∈ L ↔ Sk.get Bk.key L (Bk.key y) = some y :=
 ⟨fun hy => (Sk.get_mem h).2 ⟨hy, Sk.cmp_self _⟩, fun hg => ((Sk.get_mem h).1 hg).1⟩
theorem Mg.ext {L M : List Dd.D} (h : Sk.Asc Bk.key L) (g : Sk.Asc Bk.key M) (e : ∀ k, Sk.get Bk.key L k = Sk.get Bk.key M k) : L = M :=
 Sk.asc_ext h g fun y => by rw [Mg.mem_iff h, Mg.mem_iff g, e]
theorem Mg.gg_append (k : Kn.V) : ∀ A B : List (List Dd.D), Mg.gg (A ++ B) k = (Mg.gg A k).or (Mg.gg B k)
 | [], B => rfl
 | l :: A, B => by
   show (Sk.get Bk.key l k).or (Mg.gg (A ++ B) k) = ((Sk.get Bk.key l k).or (Mg.gg A k)).or (Mg.gg B k)
   rw [Mg.gg_append k A B, Option.or_assoc]
theorem Mg.all_append (A B : List (List Dd.D)) : Mg.all (A ++ B) = (Mg.all A && Mg.all B) := by unfold Mg.all; exact List.all_append
theorem Mg.mem_puts : ∀ {l M : List Dd.D} {y : Dd.D}, Sk.Asc Bk.key M → y ∈ Mg.puts M l → y ∈ l ∨ y ∈ M
 | [], M, y, _, h => .inr h
 | x :: l, M, y, hM, h => by
   rcases Mg.mem_puts (Sk.put_asc hM x) h with h1 | h1
   ·exact .inl (List.mem_cons_of_mem _ h1)
   ·rcases (Sk.mem_put hM).1 h1 with rfl | ⟨h2, _⟩
    ·exact .inl List.mem_cons_self
    ·exact .inr h2
theorem Mg.mem_nw : ∀ {LL : List (List Dd.D)} {y : Dd.D}, y ∈ Mg.nw LL → ∃ l ∈ LL, y ∈ l
 | l :: LL, y, h => by
   rcases Mg.mem_puts (Mg.nw_asc LL) h with h1 | h1
   ·exact ⟨l, List.mem_cons_self, h1⟩
   ·obtain ⟨m, hm, hy⟩ := Mg.mem_nw h1
    exact ⟨m, List.mem_cons_of_mem _ hm, hy⟩
theorem Mg.all_mem {LL : List (List Dd.D)} (h : Mg.all LL = true) {l : List Dd.D} (hl : l ∈ LL) : Bk.sorted l = true := by
 unfold Mg.all at h
 exact List.all_eq_true.1 h l hl
theorem Mg.nw_sorted {LL : List (List Dd.D)} (h : Mg.all LL = true) : Bk.sorted (Mg.nw LL) = true :=
 Mg.sorted_iff.2 ⟨fun d hd => by
  obtain ⟨l, hl, hdl⟩ := Mg.mem_nw hd
  exact (Mg.sorted_iff.1 (Mg.all_mem h hl)).1 d hdl, Mg.nw_asc LL⟩
theorem Mg.steps {A B C : List (List Dd.D)} (h : Mg.all (A ++ (B ++ C)) = true) : Mg.all B = true ∧ Mg.all (A ++ (Mg.nw B :: C)) = true ∧ Mg.nw (A ++ (Mg.nw B :: C)) = Mg.nw (A ++ (B ++ C)) := by
 have h0 := h
 rw [Mg.all_append, Mg.all_append, Bool.and_eq_true, Bool.and_eq_true] at h
 have h1 : Mg.all (Mg.nw B :: C) = true := by
  unfold Mg.all
  rw [List.all_cons, Bool.and_eq_true]
  exact ⟨Mg.nw_sorted h.2.1, h.2.2⟩
 have h2 : Mg.all (A ++ (Mg.nw B :: C)) = true := by rw [Mg.all_append, h.1, h1]; rfl
 refine ⟨h.2.1, h2, Mg.ext (Mg.nw_asc _) (Mg.nw_asc _) fun k => ?_⟩
 rw [Mg.get_nw k h2, Mg.get_nw k h0, Mg.gg_append, Mg.gg_append, Mg.gg_append]
 show (Mg.gg A k).or ((Sk.get Bk.key (Mg.nw B) k).or (Mg.gg C k)) = _
 rw [Mg.get_nw k h.2.1]
theorem Mg.mem_live {l : List Dd.D} {y : Dd.D} : y ∈ Mg.live l ↔ y ∈ l ∧ y.gone = false := by unfold Mg.live; rw [List.mem_filter]; simp
theorem Mg.live_asc {l : List Dd.D} (h : Sk.Asc Bk.key l) : Sk.Asc Bk.key (Mg.live l) := List.Pairwise.sublist List.filter_sublist h
theorem Mg.live_sorted {l : List Dd.D} (h : Bk.sorted l = true) : Bk.sorted (Mg.live l) = true :=
 Mg.sorted_iff.2 ⟨fun d hd => (Mg.sorted_iff.1 h).1 d (Mg.mem_live.1 hd).1, Mg.live_asc (Mg.sorted_iff.1 h).2⟩
theorem Mg.gone {A : List (List Dd.D)} {l : List Dd.D} (h : Mg.all (A ++ [l]) = true) : Mg.all (A ++ [Mg.live l]) = true ∧ Mg.live (Mg.nw (A ++ [Mg.live l])) = Mg.live (Mg.nw (A ++ [l])) := by
 have h0 := h
 rw [Mg.all_append, Bool.and_eq_true] at h
 have hl : Bk.sorted l = true := (Mg.all_cons h.2).1
 have h2 : Mg.all (A ++ [Mg.live l]) = true := by
  rw [Mg.all_append, h.1]
  unfold Mg.all
  simp [Mg.live_sorted hl]
 refine ⟨h2, Sk.asc_ext (key := Bk.key) (Mg.live_asc (Mg.nw_asc _)) (Mg.live_asc (Mg.nw_asc _)) fun y => ?_⟩
 rw [Mg.mem_live, Mg.mem_live]
 refine and_congr_left fun hg => ?_
 rw [Mg.mem_iff (Mg.nw_asc _), Mg.mem_iff (Mg.nw_asc _), Mg.get_nw _ h2, Mg.get_nw _ h0, Mg.gg_append, Mg.gg_append]
 show (Mg.gg A (Bk.key y)).or ((Sk.get Bk.key (Mg.live l) (Bk.key y)).or none) = some y ↔ (Mg.gg A (Bk.key y)).or ((Sk.get Bk.key l (Bk.key y)).or none) = some y
 cases Mg.gg A (Bk.key y) with
 | some z => simp
 | none =>
   simp only [Option.none_or, Option.or_none]
   rw [← Mg.mem_iff (Mg.live_asc (Mg.sorted_iff.1 hl).2), ← Mg.mem_iff (Mg.sorted_iff.1 hl).2, Mg.mem_live]
   exact ⟨fun h => h.1, fun h => ⟨h, hg⟩⟩
theorem Mg.one {l : List Dd.D} (h : Bk.sorted l = true) : Mg.nw [l] = l := by
 have ha : Mg.all [l] = true := by unfold Mg.all; simp [h]
 refine Mg.ext (Mg.nw_asc _) (Mg.sorted_iff.1 h).2 fun k => ?_
 rw [Mg.get_nw k ha]
 show (Sk.get Bk.key l k).or none = _
 rw [Option.or_none]
theorem Mg.two {l : List Dd.D} (h : Bk.sorted l = true) : Mg.nw [l, l] = l := by
 have ha : Mg.all [l, l] = true := by unfold Mg.all; simp [h]
 refine Mg.ext (Mg.nw_asc _) (Mg.sorted_iff.1 h).2 fun k => ?_
 rw [Mg.get_nw k ha]
 show (Sk.get Bk.key l k).or ((Sk.get Bk.key l k).or none) = _
 cases Sk.get Bk.key l k <;> rfl
theorem Mg.ahead {l : List Dd.D} (h : Bk.sorted l = true) : Mg.nw [[], l] = l := Mg.one h
def Mg.has (L : List Dd.D) (k : Kn.V) : Bool := L.any fun d => Kn.cmp (Bk.key d) k == 0
end Go.Proofs.YtkhiemkekmdhgaaGreatDoor
namespace Go.Proofs.YtkhiemkekmdhgaaGreatDoor.Fr
open Go
def P : Nat := 2197175160
def T (r : Nat) : Nat := (r / 2) ^^^ (if r % 2 = 1 then P else 0)
theorem xor_half (a b : Nat) : (a ^^^ b) / 2 = (a / 2) ^^^ (b / 2) := by
 have := Nat.shiftRight_xor_distrib (a := a) (b := b) (i := 1)
 simpa [Nat.shiftRight_eq_div_pow] using this
theorem xor_odd (a b : Nat) : (a ^^^ b) % 2 = (a + b) % 2 := by
 have h := Nat.testBit_xor a b 0
 simp only [Nat.testBit_zero] at h
 rcases Nat.mod_two_eq_zero_or_one a with ha | ha <;> rcases Nat.mod_two_eq_zero_or_one b with hb | hb <;> rcases Nat.mod_two_eq_zero_or_one (a ^^^ b) with hc | hc <;> simp [ha, hb, hc] at h <;> omega
theorem T_xor (a b : Nat) : T (a ^^^ b) = T a ^^^ T b := by
 unfold T
 rw [xor_half, xor_odd]
 rcases Nat.mod_two_eq_zero_or_one a with ha | ha <;> rcases Nat.mod_two_eq_zero_or_one b with hb | hb
 ·rw [if_neg (by omega), if_neg (by omega), if_neg (by omega)]; simp
 ·rw [if_pos (by omega), if_neg (by omega), if_pos hb]; simp [Nat.xor_assoc]
 ·rw [if_pos (by omega), if_pos ha, if_neg (by omega)]
  rw [Nat.xor_zero, Nat.xor_assoc, Nat.xor_assoc, Nat.xor_comm P]
 ·rw [if_neg (by omega), if_pos ha, if_pos hb, Nat.xor_zero]
  have e : (a / 2 ^^^ P) ^^^ (b / 2 ^^^ P) = (a / 2 ^^^ b / 2) ^^^ (P ^^^ P) := by
   rw [Nat.xor_assoc, Nat.xor_assoc, ← Nat.xor_assoc P, Nat.xor_comm P, Nat.xor_assoc]
  rw [e, Nat.xor_self, Nat.xor_zero]
theorem T_double (r : Nat) : T (2 * r) = r := by
 unfold T
 rw [if_neg (by omega), Nat.xor_zero]
 omega
theorem T_lt {r : Nat} (h : r < 2 ^ 32) : T r < 2 ^ 32 := by
 unfold T
 refine Nat.xor_lt_two_pow (by omega) ?_
 split
 ·decide
 ·decide
def Tn : Nat → Nat → Nat
 | 0, r => r
 | k + 1, r => Tn k (T r)
theorem Tn_add (j k r : Nat) : Tn (j + k) r = Tn k (Tn j r) := by
 induction j generalizing r with
 | zero => rw [Nat.zero_add]; rfl
 | succ j ih => rw [Nat.succ_add]; exact ih (T r)
theorem Tn_xor (k a b : Nat) : Tn k (a ^^^ b) = Tn k a ^^^ Tn k b := by
 induction k generalizing a b with
 | zero => rfl
 | succ k ih =>
   show Tn k (T (a ^^^ b)) = _
   rw [T_xor]
   exact ih (T a) (T b)
theorem Tn_shift (k r : Nat) : Tn k (2 ^ k * r) = r := by
 induction k generalizing r with
 | zero => simp [Tn]
 | succ k ih =>
   show Tn k (T (2 ^ (k + 1) * r)) = r
   have e : 2 ^ (k + 1) * r = 2 * (2 ^ k * r) := by rw [Nat.pow_succ, Nat.mul_comm (2 ^ k) 2, Nat.mul_assoc]
   rw [e, T_double, ih]
theorem Tn_lt {k r : Nat} (h : r < 2 ^ 32) : Tn k r < 2 ^ 32 := by
 induction k generalizing r with
 | zero => exact h
 | succ k ih => exact ih (T_lt h)
theorem Tn_split (k r : Nat) : Tn k r = (r / 2 ^ k) ^^^ Tn k (r % 2 ^ k) := by
 have e : r = (2 ^ k * (r / 2 ^ k)) ^^^ (r % 2 ^ k) := by
  have h := Nat.div_add_mod r (2 ^ k)
  have h2 := Nat.mod_lt r (Nat.two_pow_pos k)
  refine Nat.eq_of_testBit_eq fun i => ?_
  rw [Nat.testBit_xor, Nat.testBit_two_pow_mul, Nat.testBit_mod_two_pow, Nat.testBit_div_two_pow]
  by_cases hi : k ≤ i
  ·have h3 : ¬ i < k := by omega
   have h4 : i - k + k = i := by omega
   simp [hi, h3, h4]
  ·have h3 : i < k := by omega
   simp [hi, h3]
 conv => lhs; rw [e]
 rw [Tn_xor, Tn_shift]
def reg : Nat → List UInt8 → Nat
 | r, [] => r
 | r, b :: l => reg (Tn 8 (r ^^^ b.toNat)) l
def val : List UInt8 → Nat
 | [] => 0
 | b :: l => 256 * val l + b.toNat
theorem val_lt (l : List UInt8) : val l < 2 ^ (8 * l.length) := by
 induction l with
 | nil => simp [val]
 | cons b l ih =>
   have hb := b.toNat_lt
   have e : 2 ^ (8 * (b :: l).length) = 256 * 2 ^ (8 * l.length) := by
    rw [List.length_cons, Nat.mul_add, Nat.pow_add, Nat.mul_comm]
   rw [e]
   unfold val
   omega
theorem reg_append (a b : List UInt8) (r : Nat) : reg r (a ++ b) = reg (reg r a) b := by
 induction a generalizing r with
 | nil => rfl
 | cons x a ih => exact ih _
theorem reg_lt (l : List UInt8) : ∀ r, r < 2 ^ 32 → reg r l < 2 ^ 32 := by
 induction l with
 | nil => intro r h; exact h
 | cons b l ih =>
   intro r h
   exact ih _ (Tn_lt (Nat.xor_lt_two_pow h (Nat.lt_of_lt_of_le b.toNat_lt (by decide))))
def ones : Nat := 4294967295
def sum (l : List UInt8) : Nat := reg ones l ^^^ ones
theorem sum_lt (l : List UInt8) : sum l < 2 ^ 32 := Nat.xor_lt_two_pow (reg_lt l ones (by decide)) (by decide)
end Go.Proofs.YtkhiemkekmdhgaaGreatDoor.Fr
namespace Go.Proofs.YtkhiemkekmdhgaaGreatDoor.Fr
open Go
abbrev Str := List UInt8
def four (n : Nat) : List UInt8 := [UInt8.ofNat (n % 256), UInt8.ofNat (n / 256 % 256), UInt8.ofNat (n / 65536 % 256), UInt8.ofNat (n / 16777216 % 256)]
theorem four_len (n : Nat) : (four n).length = 4 := rfl
theorem val_four (n : Nat) (h : n < 2 ^ 32) : val (four n) = n := by
 unfold four val val val val val
 simp only [UInt8.toNat_ofNat']
 omega
def frm (t : Str) : List UInt8 := four t.length ++ (t ++ four (sum t))
theorem frm_len (t : Str) : (frm t).length = t.length + 8 := by simp [frm, four_len]; omega
def scanF : Nat → List UInt8 → Nat × List Str × Nat
 | 0, _ => (0, [], 0)
 | f + 1, l =>
   if l.length < 4 then (0, [], 0)
   else if 1048576 < val (l.take 4) then (8, [], 0)
   else if l.length < val (l.take 4) + 8 then (0, [], 0)
   else if val ((l.drop (4 + val (l.take 4))).take 4) ≠ sum ((l.drop 4).take (val (l.take 4))) then (8, [], 0)
   else if (scanF f (l.drop (val (l.take 4) + 8))).1 ≠ 0 then (8, [], 0)
   else (0, (l.drop 4).take (val (l.take 4)) :: (scanF f (l.drop (val (l.take 4) + 8))).2.1, val (l.take 4) + 8 + (scanF f (l.drop (val (l.take 4) + 8))).2.2)
theorem scanF_any : ∀ (f g : Nat) (l : List UInt8), l.length < f → l.length < g → scanF f l = scanF g l
 | 0, _, l, h, _ => by omega
 | _ + 1, 0, l, _, h => by omega
 | f + 1, g + 1, l, h1, h2 => by
   simp only [scanF]
   by_cases a : l.length < 4
   ·rw [if_pos a, if_pos a]
   ·have e : scanF f (l.drop (val (l.take 4) + 8)) = scanF g (l.drop (val (l.take 4) + 8)) := scanF_any f g _ (by rw [List.length_drop]; omega) (by rw [List.length_drop]; omega)
    rw [e]
def scan (l : List UInt8) : Nat × List Str × Nat := scanF (l.length + 1) l
theorem scan_is (l : List UInt8) : scan l =
 if l.length < 4 then (0, [], 0)
 else if 1048576 < val (l.take 4) then (8, [], 0)
 else if l.length < val (l.take 4) + 8 then (0, [], 0)
 else if val ((l.drop (4 + val (l.take 4))).take 4) ≠ sum ((l.drop 4).take (val (l.take 4))) then (8, [], 0)
 else if (scan (l.drop (val (l.take 4) + 8))).1 ≠ 0 then (8, [], 0)
 else (0, (l.drop 4).take (val (l.take 4)) :: (scan (l.drop (val (l.take 4) + 8))).2.1, val (l.take 4) + 8 + (scan (l.drop (val (l.take 4) + 8))).2.2) := by
 by_cases a : l.length < 4
 ·rw [if_pos a]
  show scanF (l.length + 1) l = _
  simp only [scanF]
  rw [if_pos a]
 ·have e : scanF l.length (l.drop (val (l.take 4) + 8)) = scan (l.drop (val (l.take 4) + 8)) := scanF_any _ _ _ (by rw [List.length_drop]; omega) (by omega)
  rw [← e]
  rfl
def more (t : Str) (q : Nat × List Str × Nat) : Nat × List Str × Nat := if q.1 ≠ 0 then (8, [], 0) else (0, t :: q.2.1, t.length + 8 + q.2.2)
theorem scan_frm (t : Str) (h : t.length ≤ 1048576) (r : List UInt8) : scan (frm t ++ r) = more t (scan r) := by
 have e1 : (frm t ++ r).take 4 = four t.length := by
  unfold frm
  rw [List.append_assoc, List.take_append_of_le_length (by rw [four_len]; omega)]
  rfl
 have e2 : val ((frm t ++ r).take 4) = t.length := by rw [e1, val_four _ (by omega)]
 have e3 : (frm t ++ r).drop 4 = t ++ (four (sum t) ++ r) := by unfold frm; simp [four]
 have e4 : ((frm t ++ r).drop 4).take t.length = t := by rw [e3]; simp
 have e5 : ((frm t ++ r).drop (4 + t.length)).take 4 = four (sum t) := by
  rw [← List.drop_drop, e3]
  simp [four]
 have e6 : (frm t ++ r).drop (t.length + 8) = r := by
  rw [← frm_len]; simp
 have e7 : (frm t ++ r).length = t.length + 8 + r.length := by rw [List.length_append, frm_len]
 rw [scan_is, e2, e4, e5, e6, e7, if_neg (by omega), if_neg (by omega), if_neg (by omega), if_neg (by rw [val_four _ (sum_lt t)]; simp)]
 rfl
theorem scan_nil : scan [] = (0, [], 0) := by rw [scan_is]; simp
def size (L : List Str) : Nat := (L.map fun t => t.length + 8).sum
theorem scan_all (L : List Str) (h : ∀ t ∈ L, t.length ≤ 1048576) : scan (L.flatMap frm) = (0, L, size L) := by
 induction L with
 | nil => exact scan_nil
 | cons t L ih =>
   rw [List.flatMap_cons, scan_frm t (h t (by simp)), ih fun y hy => h y (by simp [hy])]
   simp [more, size]
def whole : List Str → Nat → Nat
 | [], _ => 0
 | t :: L, k => if t.length + 8 ≤ k then whole L (k - (t.length + 8)) + 1 else 0
theorem scan_err (l : List UInt8) : (scan l).1 = 0 ∨ scan l = (8, [], 0) := by
 rw [scan_is]
 repeat' split
 all_goals first | exact .inl rfl | exact .inr rfl
def both (a : List UInt8) (p q : Nat × List Str × Nat) : Nat × List Str × Nat := if p.1 ≠ 0 then (8, [], 0) else if q.1 ≠ 0 then (8, [], 0) else (0, p.2.1 ++ q.2.1, a.length + q.2.2)
end Go.Proofs.YtkhiemkekmdhgaaGreatDoor.Fr
namespace Go.Proofs.YtkhiemkekmdhgaaGreatDoor
open Go
def Jn.wS (s : List Kn.C) (d : Dd.D) : List UInt8 := if Dd.fitE s d = 0 then Fr.frm (Dd.enc s d) else []
def Jn.wV (s : List Kn.C) (d : Dd.D) : Value := .tuple #[.string (Ty.S (Jn.wS s d)), .int .i64 (Dd.fitE s d)]
def Jn.rds (s : List Kn.C) : List Fr.Str → Option (List Dd.D)
 | [] => some []
 | t :: r => if (Dd.rd s t).1 = 0 then (match Jn.rds s r with | some L => some ((Dd.rd s t).2 :: L) | none => none) else none
def Jn.rd (s : List Kn.C) (l : List UInt8) : Nat × List Dd.D :=
 if Kn.right s = false then (4, [])
 else if (Fr.scan l).1 ≠ 0 then ((Fr.scan l).1, [])
 else match Jn.rds s (Fr.scan l).2.1 with | some L => (0, L) | none => (8, [])
def Jn.rpA (s : List Kn.C) : List Dd.D → List (List UInt8) → Nat × List Dd.D
 | X, [] => (0, X)
 | X, t :: r => if (Jn.rd s t).1 = 0 then Jn.rpA s (Mg.puts X (Jn.rd s t).2) r else ((Jn.rd s t).1, [])
def Jn.rp (s : List Kn.C) (ts : List (List UInt8)) : Nat × List Dd.D := Jn.rpA s [] ts
theorem Jn.fit_ne {s : List Kn.C} {d : Dd.D} (h : Dd.fitE s d = 0) : d.row ≠ [] := fun e => by
 obtain ⟨h1, h2, _⟩ := Dd.fitE_0 h
 rw [e] at h2
 unfold Dd.cols at h2
 have hs : s ≠ [] := fun e => by rw [e] at h1; exact absurd h1 (by decide)
 have := List.length_pos_iff.2 hs
 split at h2
 ·rw [List.length_take] at h2
  simp only [List.length_nil] at h2
  omega
 ·simp only [List.length_nil] at h2
  omega
theorem Jn.rd_ne {s : List Kn.C} {t : Fr.Str} (h : (Dd.rd s t).1 = 0) : (Dd.rd s t).2.row ≠ [] := Jn.fit_ne (Dd.enc_rd h).1
theorem Jn.rds_len {s : List Kn.C} : ∀ {ts : List Fr.Str} {L : List Dd.D}, Jn.rds s ts = some L → L.length = ts.length
 | [], L, h => by
   obtain rfl : [] = L := by simpa [Jn.rds] using h
   rfl
 | t :: r, L, h => by
   unfold Jn.rds at h
   split at h
   ·cases hr : Jn.rds s r with
    | none => rw [hr] at h; cases h
    | some M =>
      rw [hr] at h
      obtain rfl : (Dd.rd s t).2 :: M = L := by simpa using h
      rw [List.length_cons, List.length_cons, Jn.rds_len hr]
   ·cases h
theorem Jn.rds_fit {s : List Kn.C} : ∀ {ts : List Fr.Str} {L : List Dd.D}, Jn.rds s ts = some L → ∀ d ∈ L, Dd.fitE s d = 0
 | [], L, h, d, hd => by
   obtain rfl : [] = L := by simpa [Jn.rds] using h
   cases hd
 | t :: r, L, h, d, hd => by
   unfold Jn.rds at h
   split at h
   ·next h0 =>
    cases hr : Jn.rds s r with
    | none => rw [hr] at h; cases h
    | some M =>
      rw [hr] at h
      obtain rfl : (Dd.rd s t).2 :: M = L := by simpa using h
      rcases List.mem_cons.1 hd with rfl | hd
      ·exact (Dd.enc_rd h0).1
      ·exact Jn.rds_fit hr d hd
   ·cases h
theorem Jn.rds_append {s : List Kn.C} : ∀ (A B : List Fr.Str), Jn.rds s (A ++ B) = (match Jn.rds s A, Jn.rds s B with | some L, some M => some (L ++ M) | _, _ => none)
 | [], B => by
   show Jn.rds s B = _
   simp only [Jn.rds]
   cases Jn.rds s B <;> rfl
 | t :: A, B => by
   show Jn.rds s (t :: (A ++ B)) = _
   simp only [Jn.rds]
   rw [Jn.rds_append A B]
   split
   ·cases Jn.rds s A <;> cases Jn.rds s B <;> rfl
   ·rfl
theorem Jn.rds_enc {s : List Kn.C} : ∀ (L : List Dd.D), (∀ d ∈ L, Dd.fitE s d = 0) → (∀ d ∈ L, ∀ v ∈ d.row, Ty.I64 v.n) → Jn.rds s (L.map (Dd.enc s)) = some L
 | [], _, _ => rfl
 | d :: L, h, hi => by
   have e := Dd.rd_enc (h d List.mem_cons_self) (hi d List.mem_cons_self)
   rw [List.map_cons]
   unfold Jn.rds
   rw [e, if_pos rfl, Jn.rds_enc L (fun x hx => h x (List.mem_cons_of_mem _ hx)) (fun x hx => hi x (List.mem_cons_of_mem _ hx))]
theorem Jn.rd_fit {s : List Kn.C} {l : List UInt8} : ∀ d ∈ (Jn.rd s l).2, Dd.fitE s d = 0 := by
 unfold Jn.rd
 split
 ·intro d hd; cases hd
 ·split
  ·intro d hd; cases hd
  ·cases h : Jn.rds s (Fr.scan l).2.1 with
   | none => intro d hd; cases hd
   | some L => exact Jn.rds_fit h
theorem Jn.rds_take {s : List Kn.C} {ts : List Fr.Str} {i : Nat} {t : Fr.Str} {L : List Dd.D} (ht : ts[i]? = some t) (h : Jn.rds s (ts.take i) = some L) :
 ((Dd.rd s t).1 = 0 → Jn.rds s (ts.take (i + 1)) = some (L ++ [(Dd.rd s t).2])) ∧ ((Dd.rd s t).1 ≠ 0 → Jn.rds s ts = none) := by
 obtain ⟨hi, rfl⟩ := List.getElem?_eq_some_iff.1 ht
 refine ⟨fun h0 => ?_, fun h0 => ?_⟩
 ·rw [List.take_succ_eq_append_getElem hi, Jn.rds_append, h]
  unfold Jn.rds
  rw [if_pos h0]
  rfl
 ·have e : ts = ts.take i ++ (ts[i] :: ts.drop (i + 1)) := by rw [← List.drop_eq_getElem_cons hi, List.take_append_drop]
  rw [e, Jn.rds_append, h]
  have : Jn.rds s (ts[i] :: ts.drop (i + 1)) = none := by
   simp only [Jn.rds]
   rw [if_neg h0]
  rw [this]
theorem Jn.scan_inv : ∀ (n : Nat) (l : List UInt8), l.length ≤ n → 8 * (Fr.scan l).2.1.length ≤ l.length ∧ ∀ x ∈ (Fr.scan l).2.1, x.length ≤ 1048576
 | 0, l, h => by
   obtain rfl : l = [] := List.eq_nil_of_length_eq_zero (by omega)
   rw [Fr.scan_nil]
   exact ⟨Nat.le_refl _, fun x hx => by cases hx⟩
 | n + 1, l, h => by
   rw [Fr.scan_is]
   split
   ·exact ⟨Nat.zero_le _, fun x hx => by cases hx⟩
   ·split
    ·exact ⟨Nat.zero_le _, fun x hx => by cases hx⟩
    ·split
     ·exact ⟨Nat.zero_le _, fun x hx => by cases hx⟩
     ·split
      ·exact ⟨Nat.zero_le _, fun x hx => by cases hx⟩
      ·split
       ·exact ⟨Nat.zero_le _, fun x hx => by cases hx⟩
       ·next h1 h2 h3 _ _ =>
        obtain ⟨i1, i2⟩ := Jn.scan_inv n (l.drop (Fr.val (l.take 4) + 8)) (by rw [List.length_drop]; omega)
        rw [List.length_drop] at i1
        refine ⟨by simp only [List.length_cons]; omega, fun x hx => ?_⟩
        rcases List.mem_cons.1 hx with rfl | hx
        ·rw [List.length_take]; omega
        ·exact i2 x hx
theorem Jn.scan_n (l : List UInt8) : 8 * (Fr.scan l).2.1.length ≤ l.length := (Jn.scan_inv _ l (Nat.le_refl _)).1
theorem Jn.scan_txt (l : List UInt8) : ∀ x ∈ (Fr.scan l).2.1, x.length ≤ 1048576 := (Jn.scan_inv _ l (Nat.le_refl _)).2
end Go.Proofs.YtkhiemkekmdhgaaGreatDoor
namespace Go.Proofs.YtkhiemkekmdhgaaGreatDoor
open Go.RowKit
theorem Fr.Tn_last (j r : Nat) : Fr.Tn (j + 1) r = Fr.T (Fr.Tn j r) := Fr.Tn_add j 1 r
theorem Fr.T_odd {r : Nat} (h : r % 2 = 1) : Fr.T r = r / 2 ^^^ 2197175160 := by unfold Fr.T; rw [if_pos h]; rfl
theorem Fr.T_even {r : Nat} (h : r % 2 = 0) : Fr.T r = r / 2 := by unfold Fr.T; rw [if_neg (by omega), Nat.xor_zero]
theorem Fr.reg_snoc (l : List UInt8) (b : UInt8) (r : Nat) : Fr.reg r (l ++ [b]) = Fr.Tn 8 (Fr.reg r l ^^^ b.toNat) := by
 rw [Fr.reg_append]
 rfl
theorem Fr.reg_step {s : ByteArray} {k : Nat} (h : k < s.size) (r : Nat) : Fr.reg r (s.data.toList.take (k + 1)) = Fr.Tn 8 (Fr.reg r (s.data.toList.take k) ^^^ (s[k]).toNat) := by
 have hl : k < s.data.toList.length := by rw [Ty.length_data]; exact h
 rw [List.take_succ_eq_append_getElem hl, Fr.reg_snoc]
 rfl
set_option maxHeartbeats 4000000 in
set_option maxRecDepth 100000 in
theorem Fr.rsum_c (s : ByteArray) (hs : s.size ≤ 9223372036854775807) (w : World) :
 Calls Tryz.prog 45 #[.string s] w fun e w' => e = .returned (.int .u32 ((Fr.sum s.data.toList : Nat) : Int)) ∧ w' = w := by
 have HS := Lib.hid hs
 have HST : Hid (∀ k (h : k < s.size), Fr.reg Fr.ones (s.data.toList.take (k + 1)) = Fr.Tn 8 (Fr.reg Fr.ones (s.data.toList.take k) ^^^ (s[k]).toNat)) := Lib.hid fun k h => Fr.reg_step h _
 have HLT : Hid (∀ l, Fr.reg Fr.ones l < 4294967296) := Lib.hid fun l => Fr.reg_lt l Fr.ones (by decide)
 go_enter Tryz.func45, Tryz.ntmps45
 go_wp2
 go_loop [3, 4] (fun r i => ∃ k : Nat, k ≤ s.size ∧ i = .int .i64 k ∧ r = .int .u32 (Fr.reg Fr.ones (s.data.toList.take k) : Nat)) (fun _ i => s.size - (intOf i).toNat)
 case atStart => exact ⟨0, by omega, rfl, rfl⟩
 case round =>
  obtain ⟨k, hk, rfl, rfl⟩ := hrel
  have hk0 : (0 : Int) ≤ (k : Int) := by omega
  have hr := HLT.out (s.data.toList.take k)
  by_cases hl : k < s.size
  ·have hki : (k : Int) < (s.size : Int) := by omega
   have hks : (k : Int) < 9223372036854775807 := by have := HS.out; omega
   have HN := Lib.hid (HST.out k hl)
   have hb := (s[k]).toNat_lt
   generalize Fr.reg Fr.ones (s.data.toList.take k) = R at hr HN ⊢
   generalize hbb : s[k] = b at hb HN
   obtain ⟨X, hX⟩ : ∃ X, X = R ^^^ b.toNat := ⟨_, rfl⟩
   have hx : bits .xor .u32 (R : Int) (b.toNat : Int) = (X : Int) := by rw [hX]; exact u32_xor_nat R b.toNat hr (by omega)
   have hXl : X < 4294967296 := by rw [hX]; exact Nat.xor_lt_two_pow (n := 32) hr (by omega)
   rw [← hX] at HN
   have HTL : Hid (∀ j, Fr.Tn j X < 4294967296) := Lib.hid fun j => Fr.Tn_lt hXl
   clear hX
   go_wp2_with fail
   go_loop [3, 5] (fun r j => ∃ i : Nat, i ≤ 8 ∧ j = .int .i64 i ∧ r = .int .u32 (Fr.Tn i X : Nat)) (fun _ j => 8 - (intOf j).toNat)
   case atStart => exact ⟨0, by omega, rfl, rfl⟩
   case round =>
    obtain ⟨i, hi, rfl, rfl⟩ := hrel
    have hi0 : (0 : Int) ≤ (i : Int) := by omega
    by_cases hi8 : i < 8
    ·have hii : (i : Int) < 8 := by omega
     have hT := HTL.out i
     have HTN := Lib.hid (Fr.Tn_last i X)
     generalize Fr.Tn i X = Y at hT HTN ⊢
     obtain ⟨Z, hZ⟩ : ∃ Z, Z = Y / 2 := ⟨_, rfl⟩
     have hd : (Y : Int) / 2 = (Z : Int) := by omega
     have hZl : Z < 4294967296 := by omega
     rcases Nat.mod_two_eq_zero_or_one Y with hm | hm
     ·have hmi : (Y : Int) % 2 = 0 := by omega
      have HE := Lib.hid (HTN.out.trans (Fr.T_even hm))
      rw [← hZ] at HE
      clear hZ hm
      go_wp2
      go_round
      case rel => exact ⟨i + 1, by omega, by simp, by rw [HE.out]⟩
      case measure => simp [intOf]; omega
     ·have hmi : (Y : Int) % 2 = 1 := by omega
      have HE := Lib.hid (HTN.out.trans (Fr.T_odd hm))
      rw [← hZ] at HE
      have hx2 : bits .xor .u32 (Z : Int) 2197175160 = ((Z ^^^ 2197175160 : Nat) : Int) := u32_xor_nat Z 2197175160 hZl (by decide)
      clear hZ hm
      go_wp2
      go_round
      case rel => exact ⟨i + 1, by omega, by simp, by rw [HE.out]⟩
      case measure => simp [intOf]; omega
    ·obtain rfl : i = 8 := by omega
     go_wp2
     go_round
     case rel => exact ⟨k + 1, by omega, by simp, by rw [HN.out]⟩
     case measure => simp [intOf]; omega
  ·obtain rfl : k = s.size := by omega
   have hki : ¬ (s.size : Int) < (s.size : Int) := by omega
   have hta : s.data.toList.take s.size = s.data.toList := List.take_of_length_le (by rw [Ty.length_data]; exact Nat.le_refl _)
   have HSM : Hid (Fr.sum s.data.toList = Fr.reg Fr.ones (s.data.toList.take s.size) ^^^ 4294967295) := Lib.hid (by rw [hta]; rfl)
   generalize Fr.reg Fr.ones (s.data.toList.take s.size) = R at hr HSM ⊢
   have hx : bits .xor .u32 IntKind.u32.max (R : Int) = ((4294967295 ^^^ R : Nat) : Int) := u32_xor_nat 4294967295 R (by decide) hr
   go_wp2
   go_ret
   exact ⟨by rw [HSM.out, Nat.xor_comm]; rfl, rfl⟩
theorem Fr.four_buf (n : Nat) (hn : n < 4294967296) (w : World) : Ty.Buf w.heap.size (w.alloc (.cells #[.int .u8 ((n : Int) % 256), .int .u8 ((n : Int) / 256 % 256), .int .u8 ((n : Int) / 65536 % 256), .int .u8 ((n : Int) / 16777216)] 5)) (.slice (some ⟨w.heap.size, 0, none⟩) 4 4) (Fr.four n) := by
 refine ⟨by simp, .inr ⟨w.heap.size, 4, _, rfl, Nat.le_refl _, heap_alloc_new w _, Nat.le_refl _, by unfold maxLen; omega, by simp, ?_⟩⟩
 have e0 := Ty.toNat_ofNat8 (n % 256) (by omega)
 have e1 := Ty.toNat_ofNat8 (n / 256 % 256) (by omega)
 have e2 := Ty.toNat_ofNat8 (n / 65536 % 256) (by omega)
 have e3 := Ty.toNat_ofNat8 (n / 16777216 % 256) (by omega)
 have i3 : ((n / 16777216 % 256 : Nat) : Int) = (n : Int) / 16777216 := by omega
 simp only [Fr.four, List.map_cons, List.map_nil, Ty.B, e0, e1, e2, e3, i3]
 simp
set_option maxHeartbeats 1000000 in
set_option maxRecDepth 100000 in
theorem Fr.rfour_c (n : Nat) (hn : n < 4294967296) (w : World) :
 Calls Tryz.prog 59 #[.int .u32 (n : Int)] w fun e w' => e = .returned (.string (Ty.S (Fr.four n))) ∧ Below w.heap.size w w' := by
 have hcv := (Fr.four_buf n hn w).str
 go_enter Tryz.func59, Tryz.ntmps59
 go_wp2
 go_ret
 exact ⟨rfl, (Below.refl _ _).alloc (Nat.le_refl _) _⟩
def Fr.at4 (s : ByteArray) : Nat := Fr.val (s.data.toList.take 4)
theorem Fr.val4 {s : ByteArray} (h : 4 ≤ s.size) : Fr.val (s.data.toList.take 4) = s[0].toNat + s[1].toNat * 256 + s[2].toNat * 65536 + s[3].toNat * 16777216 := by
 have hl : 4 ≤ s.data.toList.length := by rw [Ty.length_data]; exact h
 have e : s.data.toList.take 4 = [s[0], s[1], s[2], s[3]] := by
  refine List.ext_getElem (by rw [List.length_take]; simp; omega) fun i h1 h2 => ?_
  have hi : i < 4 := by simpa using h2
  rw [List.getElem_take]
  rcases (by omega : i = 0 ∨ i = 1 ∨ i = 2 ∨ i = 3) with rfl | rfl | rfl | rfl <;> rfl
 rw [e]
 simp only [Fr.val]
 omega
set_option maxHeartbeats 2000000 in
set_option maxRecDepth 100000 in
theorem Fr.rnumber_c (s : ByteArray) (h : 4 ≤ s.size) (w : World) :
 Calls Tryz.prog 44 #[.string s] w fun e w' => e = .returned (.int .u32 ((Fr.val (s.data.toList.take 4) : Nat) : Int)) ∧ ∃ n, w' = w.drewN n := by
 have hv := Fr.val4 h
 have h0 := (s[0]).toNat_lt
 have h1 := (s[1]).toNat_lt
 have h2 := (s[2]).toNat_lt
 have h3 := (s[3]).toNat_lt
 have z0 : (0 : Int) < (s.size : Int) := by omega
 have z1 : (1 : Int) < (s.size : Int) := by omega
 have z2 : (2 : Int) < (s.size : Int) := by omega
 have z3 : (3 : Int) < (s.size : Int) := by omega
 have n0 : 0 < s.size := by omega
 have n1 : 1 < s.size := by omega
 have n2 : 2 < s.size := by omega
 have n3 : 3 < s.size := by omega
 have HV := Lib.hid hv
 clear hv
 go_enter Tryz.func44, Tryz.ntmps44
 go_wp2_with fail
 go_quiet (fail)
 go_wp2
 go_ret
 refine ⟨?_, _, rfl⟩
 rw [HV.out]
 exact congrArg (fun x : Int => Ending.returned (Value.int IntKind.u32 x)) (by omega)
theorem Fr.S_add (a b : List UInt8) : Ty.S a ++ Ty.S b = Ty.S (a ++ b) := by
 apply ByteArray.ext
 apply Array.toList_inj.1
 rw [ByteArray.data_append, Array.toList_append]
 simp [Ty.S]
theorem Fr.four_mod (n : Nat) : Fr.four (n % 4294967296) = Fr.four n := by
 unfold Fr.four
 rw [show n % 4294967296 % 256 = n % 256 by omega, show n % 4294967296 / 256 % 256 = n / 256 % 256 by omega, show n % 4294967296 / 65536 % 256 = n / 65536 % 256 by omega, show n % 4294967296 / 16777216 % 256 = n / 16777216 % 256 by omega]
set_option maxHeartbeats 2000000 in
set_option maxRecDepth 100000 in
theorem Fr.rwrite_c (s : ByteArray) (hs : s.size ≤ 9223372036854775000) (w : World) :
 Calls Tryz.prog 28 #[.string s] w fun e w' => e = .returned (.string (Ty.S (Fr.frm s.data.toList))) ∧ Below w.heap.size w w' := by
 have hN : s.size % 4294967296 < 4294967296 := Nat.mod_lt _ (by decide)
 have hw : IntKind.u32.wrap (s.size : Int) = ((s.size % 4294967296 : Nat) : Int) := by rw [IntKind.wrap_u32]; omega
 have c1 := fun wz => Fr.rfour_c (s.size % 4294967296) hN wz
 have c2 := fun wz => Fr.rsum_c s (by omega) wz
 have c3 := fun wz => Fr.rfour_c (Fr.sum s.data.toList) (Fr.sum_lt _) wz
 have HF : Hid (Ty.S (Fr.frm s.data.toList) = (Ty.S (Fr.four (s.size % 4294967296)) ++ s) ++ Ty.S (Fr.four (Fr.sum s.data.toList))) := Lib.hid (by
  unfold Fr.frm
  rw [Fr.four_mod, Ty.length_data]
  conv => rhs; lhs; rhs; rw [← Ty.S_data s]
  rw [Fr.S_add, Fr.S_add, List.append_assoc])
 have e1 : (Ty.S (Fr.four (s.size % 4294967296))).size = 4 := rfl
 have e3 : (Ty.S (Fr.four (Fr.sum s.data.toList))).size = 4 := rfl
 obtain ⟨A, hA⟩ : ∃ A, A = Ty.S (Fr.four (s.size % 4294967296)) := ⟨_, rfl⟩
 obtain ⟨B, hB⟩ : ∃ B, B = Ty.S (Fr.four (Fr.sum s.data.toList)) := ⟨_, rfl⟩
 rw [← hA] at c1 HF e1
 rw [← hB] at c3 HF e3
 generalize Fr.sum s.data.toList = M at c2 c3
 generalize s.size % 4294967296 = N at c1 hw
 have n1 : ¬ 9223372036854775807 < A.size + s.size := by omega
 have n2 : ¬ 9223372036854775807 < A.size + s.size + B.size := by omega
 clear hA hB e1 e3 hN
 go_enter Tryz.func28, Tryz.ntmps28
 go_wp2_with fail
 with_reducible refine (c1 _).mono ?_
 rintro e w1 ⟨rfl, g1⟩
 have HB1 := Lib.hid g1
 clear g1 c1
 go_wp2_with fail
 with_reducible refine (c2 _).mono ?_
 rintro e w2 ⟨rfl, h2⟩
 subst w2
 clear c2
 go_wp2_with fail
 with_reducible refine (c3 _).mono ?_
 rintro e w3 ⟨rfl, g3⟩
 have HB3 := Lib.hid (HB1.out.trans (g3.mono HB1.out.size))
 clear g3 c3
 go_wp2
 go_ret
 exact ⟨by rw [HF.out]; rfl, HB3.out⟩
end Go.Proofs.YtkhiemkekmdhgaaGreatDoor
namespace Go.Proofs.YtkhiemkekmdhgaaGreatDoor
open Go.RowKit
def Fr.Mid (l : List UInt8) (a : Nat) (L : List Fr.Str) : Prop :=
 a ≤ l.length ∧ 8 * L.length ≤ a ∧ Fr.scan l = if (Fr.scan (l.drop a)).1 ≠ 0 then (8, [], 0) else (0, L ++ (Fr.scan (l.drop a)).2.1, a + (Fr.scan (l.drop a)).2.2)
theorem Fr.Mid.start (l : List UInt8) : Fr.Mid l 0 [] := by
 refine ⟨Nat.zero_le _, by simp, ?_⟩
 rw [List.drop_zero]
 rcases Fr.scan_err l with e | e
 ·rw [if_neg (by rw [e]; simp)]
  exact Prod.ext e (Prod.ext (by simp) (by simp))
 ·rw [e]; rfl
theorem Fr.Mid.short {l : List UInt8} {a : Nat} {L : List Fr.Str} (h : Fr.Mid l a L) (h4 : (l.drop a).length < 4) : Fr.scan l = (0, L, a) := by
 rw [h.2.2, Fr.scan_is (l.drop a), if_pos h4]
 simp
theorem Fr.Mid.big {l : List UInt8} {a : Nat} {L : List Fr.Str} (h : Fr.Mid l a L) (h4 : ¬ (l.drop a).length < 4) (hb : 1048576 < Fr.val ((l.drop a).take 4)) : Fr.scan l = (8, [], 0) := by
 rw [h.2.2, Fr.scan_is (l.drop a), if_neg h4, if_pos hb]
 rfl
theorem Fr.Mid.torn {l : List UInt8} {a : Nat} {L : List Fr.Str} (h : Fr.Mid l a L) (h4 : ¬ (l.drop a).length < 4) (hb : ¬ 1048576 < Fr.val ((l.drop a).take 4)) (ht : (l.drop a).length < Fr.val ((l.drop a).take 4) + 8) : Fr.scan l = (0, L, a) := by
 rw [h.2.2, Fr.scan_is (l.drop a), if_neg h4, if_neg hb, if_pos ht]
 simp
theorem Fr.Mid.wrong {l : List UInt8} {a : Nat} {L : List Fr.Str} (h : Fr.Mid l a L) (h4 : ¬ (l.drop a).length < 4) (hb : ¬ 1048576 < Fr.val ((l.drop a).take 4)) (ht : ¬ (l.drop a).length < Fr.val ((l.drop a).take 4) + 8)
 (hs : Fr.val (((l.drop a).drop (4 + Fr.val ((l.drop a).take 4))).take 4) ≠ Fr.sum (((l.drop a).drop 4).take (Fr.val ((l.drop a).take 4)))) : Fr.scan l = (8, [], 0) := by
 rw [h.2.2, Fr.scan_is (l.drop a), if_neg h4, if_neg hb, if_neg ht, if_pos hs]
 rfl
theorem Fr.Mid.next {l : List UInt8} {a : Nat} {L : List Fr.Str} (h : Fr.Mid l a L) (h4 : ¬ (l.drop a).length < 4) (hb : ¬ 1048576 < Fr.val ((l.drop a).take 4)) (ht : ¬ (l.drop a).length < Fr.val ((l.drop a).take 4) + 8)
 (hs : Fr.val (((l.drop a).drop (4 + Fr.val ((l.drop a).take 4))).take 4) = Fr.sum (((l.drop a).drop 4).take (Fr.val ((l.drop a).take 4)))) : Fr.Mid l (a + (Fr.val ((l.drop a).take 4) + 8)) (L ++ [((l.drop a).drop 4).take (Fr.val ((l.drop a).take 4))]) := by
 have hlen : (l.drop a).length = l.length - a := List.length_drop
 refine ⟨by omega, by rw [List.length_append, List.length_singleton]; have := h.2.1; omega, ?_⟩
 have e := Fr.scan_is (l.drop a)
 rw [if_neg h4, if_neg hb, if_neg ht, if_neg (fun h => h hs), show (l.drop a).drop (Fr.val ((l.drop a).take 4) + 8) = l.drop (a + (Fr.val ((l.drop a).take 4) + 8)) from List.drop_drop] at e
 rw [h.2.2, e]
 generalize Fr.scan (l.drop (a + (Fr.val ((l.drop a).take 4) + 8))) = q
 generalize Fr.val ((l.drop a).take 4) = N
 by_cases h5 : q.1 ≠ 0
 ·simp [h5]
 ·have h6 : q.1 = 0 := by simpa using h5
  simp [h6, Nat.add_assoc]
def Fr.Got (w : World) (r : Nat × List Fr.Str × Nat) (e : Ending) (w' : World) : Prop :=
 ∃ v, e = .returned (.tuple #[v, .int .i64 ((r.2.2 : Nat) : Int), .int .i64 ((r.1 : Nat) : Int)]) ∧ Tx.At w'.heap.size w' v r.2.1 ∧ Below w.heap.size w w'
theorem Fr.Got.bad {w w' : World} {r : Nat × List Fr.Str × Nat} (hr : r = (8, [], 0)) (g : Below w.heap.size w w') : Fr.Got w r (.returned (.tuple #[.slice none 0 0, .int .i64 0, .int .i64 8])) w' :=
 ⟨_, by rw [hr]; rfl, by rw [hr]; exact Tx.At.nil _, g⟩
theorem Fr.Got.good {w w' : World} {r : Nat × List Fr.Str × Nat} {v : Value} {L : List Fr.Str} {a : Nat} (hr : r = (0, L, a)) (h : Tx.At w'.heap.size w' v L) (g : Below w.heap.size w w') : Fr.Got w r (.returned (.tuple #[v, .int .i64 (a : Int), .int .i64 0])) w' :=
 ⟨_, by rw [hr]; rfl, by rw [hr]; exact h, g⟩
theorem Fr.ext_at (s : ByteArray) (a b : Nat) : s.extract a b = Ty.S ((s.data.toList.drop a).take (b - a)) := Ty.extract_S s a b
end Go.Proofs.YtkhiemkekmdhgaaGreatDoor
