import Derived.Test.YtbelkhkllneifaaGreatDoorWEAB
import Derived.Test.YtbelkhkllneifaaGreatDoorWEAA
import Derived.Test.YtbelkhkllneifaaGreatDoorRows
import Derived.WalkKit
import Derived.WalkSpells
import Derived.WalkLawsBesides
import Derived.Lib.AppendStr
import Derived.Laws.AppendOwnNone
import Derived.Lib.Hide
namespace Go.Proofs.YtbelkhkllneifaaGreatDoor.Tx
open Go Go.RowKit
open Ty (num encU txt U64)
open Ig (rest read_encU splitU un)
abbrev Str := List UInt8
def encT (t : Str) : List UInt8 := encU t.length ++ t
def restT (l : List UInt8) : List UInt8 := l.drop (txt l 64).2.1
theorem read_encT (t : Str) (h : t.length ≤ 64) (r : List UInt8) : (txt (encT t ++ r) 64).2.2 = 0 ∧ (txt (encT t ++ r) 64).1 = t ∧ restT (encT t ++ r) = r := by
 have e : num (encT t ++ r) = (t.length, (encU t.length).length, 0) := by
  unfold encT
  rw [List.append_assoc]
  exact Ty.num_encU _ (by unfold U64; omega) _
 have e0 : (num (encT t ++ r)).2.2 = 0 := by rw [e]
 have e1 : (num (encT t ++ r)).1 = t.length := by rw [e]
 have e2 : (num (encT t ++ r)).2.1 = (encU t.length).length := by rw [e]
 have hl : (encT t ++ r).length = (encU t.length).length + (t.length + r.length) := by simp [encT]
 have hw := Ty.txt_whole (most := 64) e0 (by rw [e1]; omega) (by rw [e1, e2, hl]; omega)
 have hd : (encT t ++ r).drop (encU t.length).length = t ++ r := by simp [encT]
 refine ⟨by rw [hw], by rw [hw, e1, e2, hd]; simp, ?_⟩
 unfold restT
 rw [hw, e1, e2, ← List.drop_drop, hd]
 simp
theorem splitT {l : List UInt8} (h : (txt l 64).2.2 = 0) : l = encT (txt l 64).1 ++ restT l ∧ (txt l 64).1.length ≤ 64 := by
 have h1 : (num l).2.2 = 0 := by
  rcases Nat.eq_zero_or_pos (num l).2.2 with h1 | h1
  ·exact h1
  ·rw [Ty.txt_bad (by omega)] at h
   exact h
 by_cases h2 : (64 : Int) < 0 ∨ (64 : Int) < ((num l).1 : Int)
 ·rw [Ty.txt_long h1 h2] at h
  cases h
 ·by_cases h3 : l.length - (num l).2.1 < (num l).1
  ·rw [Ty.txt_short h1 h2 h3] at h
   cases h
  ·have hw := Ty.txt_whole h1 h2 h3
   have hs := Ty.encU_num l h1
   have hlen : ((l.drop (num l).2.1).take (num l).1).length = (num l).1 := by
    rw [List.length_take, List.length_drop]; omega
   unfold restT
   rw [hw]
   refine ⟨?_, by rw [hlen]; omega⟩
   unfold encT
   rw [hlen, hs.1, ← List.drop_drop, List.append_assoc, List.take_append_drop, List.take_append_drop]
def lt (a b : Str) : Bool := Op.bytesLess a b
def Asc : Option Str → List Str → Prop
 | _, [] => True
 | p, a :: d => (∀ q, p = some q → lt q a = true) ∧ Asc (some a) d
theorem asc_all : ∀ (d : List Str) (p : Option Str), Asc p d → ∀ q, p = some q → ∀ x ∈ d, lt q x = true
 | [], _, _, _, _, x, hx => by cases hx
 | a :: d, p, h, q, hq, x, hx => by
   have h1 := h.1 q hq
   rcases List.mem_cons.1 hx with rfl | hx
   ·exact h1
   ·exact Kn.bl_trans q a x h1 (asc_all d (some a) h.2 a rfl x hx)
def ins (t : Str) : List Str → List Str
 | [] => [t]
 | a :: d => if a = t then a :: d else if lt a t = true then a :: ins t d else t :: a :: d
def dict (L : List Str) : List Str := L.foldl (fun d t => ins t d) []
theorem ins_mem (t : Str) : ∀ (d : List Str) (x : Str), x ∈ ins t d ↔ x = t ∨ x ∈ d
 | [], x => by simp [ins]
 | a :: d, x => by
   unfold ins
   by_cases h1 : a = t
   ·subst h1
    rw [if_pos rfl]
    simp
   ·rw [if_neg h1]
    by_cases h2 : lt a t = true
    ·rw [if_pos h2, List.mem_cons, ins_mem t d x, List.mem_cons]
     constructor
     ·rintro (h | h | h)
      ·exact .inr (.inl h)
      ·exact .inl h
      ·exact .inr (.inr h)
     ·rintro (h | h | h)
      ·exact .inr (.inl h)
      ·exact .inl h
      ·exact .inr (.inr h)
    ·rw [if_neg h2]
     simp
theorem ins_asc (t : Str) : ∀ (d : List Str) (p : Option Str), Asc p d → (∀ q, p = some q → lt q t = true) → Asc p (ins t d)
 | [], p, _, hp => ⟨hp, trivial⟩
 | a :: d, p, h, hp => by
   unfold ins
   by_cases h1 : a = t
   ·rw [if_pos h1]; exact h
   ·rw [if_neg h1]
    by_cases h2 : lt a t = true
    ·rw [if_pos h2]
     exact ⟨h.1, ins_asc t d (some a) h.2 fun q hq => by cases hq; exact h2⟩
    ·rw [if_neg h2]
     refine ⟨hp, fun q hq => ?_, h.2⟩
     cases hq
     rcases Kn.bl_total a t with h3 | h3 | h3
     ·exact absurd h3 h2
     ·exact absurd h3 h1
     ·exact h3
theorem fold_asc (L : List Str) : ∀ d, Asc none d → Asc none (L.foldl (fun d t => ins t d) d) := by
 induction L with
 | nil => intro d h; exact h
 | cons t L ih => intro d h; exact ih _ (ins_asc t d none h fun q hq => by cases hq)
theorem fold_mem (L : List Str) : ∀ d x, x ∈ L.foldl (fun d t => ins t d) d ↔ x ∈ L ∨ x ∈ d := by
 induction L with
 | nil => intro d x; simp
 | cons t L ih =>
   intro d x
   simp only [List.foldl_cons]
   rw [ih, ins_mem, List.mem_cons]
   constructor
   ·rintro (h | h | h)
    ·exact .inl (.inr h)
    ·exact .inl (.inl h)
    ·exact .inr h
   ·rintro ((h | h) | h)
    ·exact .inr (.inl h)
    ·exact .inl h
    ·exact .inr (.inr h)
theorem dict_asc (L : List Str) : Asc none (dict L) := fold_asc L [] trivial
theorem dict_mem (L : List Str) (x : Str) : x ∈ dict L ↔ x ∈ L := by
 unfold dict
 rw [fold_mem]
 simp
theorem asc_same : ∀ (d e : List Str) (p q : Option Str), Asc p d → Asc q e → (∀ x, x ∈ d ↔ x ∈ e) → d = e
 | [], [], _, _, _, _, _ => rfl
 | [], b :: e, _, _, _, _, h => by have := (h b).2 (by simp); cases this
 | a :: d, [], _, _, _, _, h => by have := (h a).1 (by simp); cases this
 | a :: d, b :: e, p, q, hd, he, h => by
   have h1 := asc_all d (some a) hd.2 a rfl
   have h2 := asc_all e (some b) he.2 b rfl
   have hab : a = b := by
    have ha := (h a).1 (by simp)
    have hb := (h b).2 (by simp)
    rcases List.mem_cons.1 ha with e1 | ha
    ·exact e1
    ·rcases List.mem_cons.1 hb with e1 | hb
     ·exact e1.symm
     ·have k1 := h2 a ha
      have k2 := h1 b hb
      have := Kn.bl_asymm b a k1
      have k3 : lt a b = false := this
      rw [k2] at k3
      cases k3
   subst hab
   rw [asc_same d e (some a) (some a) hd.2 he.2 fun x => ?_]
   constructor
   ·intro hx
    rcases List.mem_cons.1 ((h x).1 (List.mem_cons_of_mem _ hx)) with e1 | h3
    ·have := h1 x hx
     rw [e1] at this
     have k : lt a a = false := Kn.bl_irrefl a
     rw [this] at k
     cases k
    ·exact h3
   ·intro hx
    rcases List.mem_cons.1 ((h x).2 (List.mem_cons_of_mem _ hx)) with e1 | h3
    ·have := h2 x hx
     rw [e1] at this
     have k : lt a a = false := Kn.bl_irrefl a
     rw [this] at k
     cases k
    ·exact h3
def pos (d : List Str) (t : Str) : Nat := d.idxOf t
theorem pos_lt {d : List Str} {t : Str} (h : t ∈ d) : pos d t < d.length := List.idxOf_lt_length_of_mem h
theorem pos_get {d : List Str} {t : Str} (h : t ∈ d) : d[pos d t]? = some t := by
 rw [List.getElem?_eq_getElem (pos_lt h)]
 congr 1
 exact List.getElem_idxOf (pos_lt h)
theorem pos_at : ∀ (d : List Str) (p : Option Str), Asc p d → ∀ (i : Nat) (t : Str), d[i]? = some t → pos d t = i
 | [], _, _, i, t, h => by simp at h
 | a :: d, p, hd, 0, t, h => by
   obtain rfl : a = t := by simpa using h
   simp [pos]
 | a :: d, p, hd, i + 1, t, h => by
   have h' : d[i]? = some t := by simpa using h
   have hne : a ≠ t := by
    intro e
    subst e
    have := asc_all d (some a) hd.2 a rfl a (List.mem_of_getElem? h')
    have k : lt a a = false := Kn.bl_irrefl a
    rw [this] at k
    cases k
   have ih := pos_at d (some a) hd.2 i t h'
   unfold pos at ih ⊢
   rw [List.idxOf_cons]
   have hb : (a == t) = false := by simpa using hne
   rw [hb]
   simp [ih]
def rdWords (ord : Bool) : Nat → Option Str → List UInt8 → Nat × List Str × List UInt8
 | 0, _, l => (0, [], l)
 | n + 1, p, l =>
   if (txt l 64).2.2 ≠ 0 then ((txt l 64).2.2, [], l)
   else if ord = true ∧ (p.any fun q => !lt q (txt l 64).1) = true then (4, [], l)
   else ((rdWords ord n (some (txt l 64).1) (restT l)).1, (txt l 64).1 :: (rdWords ord n (some (txt l 64).1) (restT l)).2.1, (rdWords ord n (some (txt l 64).1) (restT l)).2.2)
theorem rdWords_back (ord : Bool) : ∀ (L : List Str) (p : Option Str) (r : List UInt8), (∀ t ∈ L, t.length ≤ 64) → (ord = true → Asc p L) → rdWords ord L.length p (L.flatMap encT ++ r) = (0, L, r)
 | [], _, _, _, _ => rfl
 | t :: L, p, r, h, ha => by
   have e : (t :: L).flatMap encT ++ r = encT t ++ (L.flatMap encT ++ r) := by simp
   obtain ⟨a1, a2, a3⟩ := read_encT t (h t (by simp)) (L.flatMap encT ++ r)
   have hno : ¬ (ord = true ∧ (p.any fun q => !lt q t) = true) := by
    rintro ⟨h1, h2⟩
    cases p with
    | none => cases h2
    | some q =>
      have := (ha h1).1 q rfl
      simp [this] at h2
   rw [e]
   simp only [List.length_cons, rdWords]
   rw [if_neg (by rw [a1]; simp), a2, if_neg hno, a3, rdWords_back ord L (some t) r (fun y hy => h y (by simp [hy])) fun ho => (ha ho).2]
theorem rdWords_only (ord : Bool) : ∀ (n : Nat) (p : Option Str) (l : List UInt8), (rdWords ord n p l).1 = 0 → l = (rdWords ord n p l).2.1.flatMap encT ++ (rdWords ord n p l).2.2 ∧ (rdWords ord n p l).2.1.length = n ∧ (∀ t ∈ (rdWords ord n p l).2.1, t.length ≤ 64) ∧ (ord = true → Asc p (rdWords ord n p l).2.1)
 | 0, _, l, _ => ⟨rfl, rfl, (fun t ht => by cases ht), fun _ => trivial⟩
 | n + 1, p, l, h => by
   simp only [rdWords] at h ⊢
   by_cases h1 : (txt l 64).2.2 ≠ 0
   ·rw [if_pos h1] at h
    exact absurd h h1
   ·rw [if_neg h1] at h ⊢
    by_cases h2 : ord = true ∧ (p.any fun q => !lt q (txt l 64).1) = true
    ·rw [if_pos h2] at h
     cases h
    ·rw [if_neg h2] at h ⊢
     obtain ⟨e1, e2, e3, e4⟩ := rdWords_only ord n (some (txt l 64).1) (restT l) h
     obtain ⟨s1, s2⟩ := splitT (l := l) (by simpa using h1)
     refine ⟨?_, by simp [e2], fun t ht => ?_, fun ho => ⟨fun q hq => ?_, e4 ho⟩⟩
     ·simp only [List.flatMap_cons, List.append_assoc]
      rw [← e1]
      exact s1
     ·rcases List.mem_cons.1 ht with rfl | ht
      ·exact s2
      ·exact e3 t ht
     ·subst hq
      cases hl : lt q (txt l 64).1 with
      | true => rfl
      | false => exact absurd ⟨ho, by simp [hl]⟩ h2
def ix (d : List Str) (L : List Str) (i : Nat) : Nat := pos d (L.getD i [])
def encX (d L : List Str) : List UInt8 := UInt8.ofNat (Bt.wid L.length (ix d L)) :: (Bt.bytes (Bt.need (L.length * Bt.wid L.length (ix d L))) (Bt.pk L.length (ix d L) (Bt.wid L.length (ix d L)))).data.toList
def right (n w : Nat) (d : List Str) (X : Nat → Nat) : Bool := (List.range n).all (fun i => decide (X i < d.length)) && ((List.range d.length).all (fun j => (List.range n).any fun i => X i == j) && (Bt.wid n X == w))
def outs (n : Nat) (d : List Str) (X : Nat → Nat) : List Str := (List.range n).map fun i => d.getD (X i) []
def rdPick (n : Nat) (d : List Str) (l : List UInt8) : Nat × List Str × List UInt8 :=
 match l with
 | [] => (2, [], l)
 | b :: r =>
   if 64 < b.toNat then (4, [], l)
   else if r.length < Bt.need (n * b.toNat) then (2, [], l)
   else if Bt.chk ⟨(r.take (Bt.need (n * b.toNat))).toArray⟩ (n * b.toNat) ≠ 0 then (Bt.chk ⟨(r.take (Bt.need (n * b.toNat))).toArray⟩ (n * b.toNat), [], l)
   else if right n b.toNat d (un ⟨(r.take (Bt.need (n * b.toNat))).toArray⟩ b.toNat) = true then (0, outs n d (un ⟨(r.take (Bt.need (n * b.toNat))).toArray⟩ b.toNat), r.drop (Bt.need (n * b.toNat)))
   else (4, [], l)
theorem right_congr {n w : Nat} {d : List Str} {X Y : Nat → Nat} (h : ∀ i, i < n → X i = Y i) : right n w d X = right n w d Y := by
 have e1 : (List.range n).all (fun i => decide (X i < d.length)) = (List.range n).all (fun i => decide (Y i < d.length)) := by
  rw [Bool.eq_iff_iff, List.all_eq_true, List.all_eq_true]
  constructor
  ·intro g i hi; rw [← h i (List.mem_range.1 hi)]; exact g i hi
  ·intro g i hi; rw [h i (List.mem_range.1 hi)]; exact g i hi
 have e2 : ∀ j, (List.range n).any (fun i => X i == j) = (List.range n).any (fun i => Y i == j) := by
  intro j
  rw [Bool.eq_iff_iff, List.any_eq_true, List.any_eq_true]
  constructor
  ·rintro ⟨i, hi, e⟩; exact ⟨i, hi, by rw [← h i (List.mem_range.1 hi)]; exact e⟩
  ·rintro ⟨i, hi, e⟩; exact ⟨i, hi, by rw [h i (List.mem_range.1 hi)]; exact e⟩
 have e3 : Bt.orN n X = Bt.orN n Y := by
  have : ∀ k, k ≤ n → Bt.orN k X = Bt.orN k Y := by
   intro k
   induction k with
   | zero => intro _; rfl
   | succ k ih => intro hk; simp only [Bt.orN]; rw [ih (by omega), h k (by omega)]
  exact this n (Nat.le_refl _)
 unfold right Bt.wid
 rw [e1, e3]
 simp only [e2]
theorem outs_congr {n : Nat} {d : List Str} {X Y : Nat → Nat} (h : ∀ i, i < n → X i = Y i) : outs n d X = outs n d Y := List.map_congr_left fun i hi => by rw [h i (List.mem_range.1 hi)]
theorem outs_ix (d L : List Str) (h : ∀ t ∈ L, t ∈ d) : outs L.length d (ix d L) = L := by
 unfold outs
 refine List.ext_getElem (by simp) fun i h1 h2 => ?_
 rw [List.getElem_map, List.getElem_range]
 have e : L.getD i [] = L[i] := by rw [List.getD, List.getElem?_eq_getElem h2]; rfl
 unfold ix
 rw [e, List.getD, pos_get (h _ (List.getElem_mem h2))]
 rfl
theorem ix_lt (d L : List Str) (h : ∀ t ∈ L, t ∈ d) (i : Nat) (hi : i < L.length) : ix d L i < d.length := by
 have e : L.getD i [] = L[i] := by rw [List.getD, List.getElem?_eq_getElem hi]; rfl
 unfold ix
 rw [e]
 exact pos_lt (h _ (List.getElem_mem hi))
theorem right_ix (d L : List Str) (p : Option Str) (hd : Asc p d) (h : ∀ t, t ∈ d ↔ t ∈ L) : right L.length (Bt.wid L.length (ix d L)) d (ix d L) = true := by
 unfold right
 simp only [Bool.and_eq_true, List.all_eq_true, List.mem_range, decide_eq_true_iff, beq_self_eq_true, and_true]
 refine ⟨fun i hi => ix_lt d L (fun t ht => (h t).2 ht) i hi, fun j hj => ?_⟩
 have hm := List.getElem?_eq_getElem hj
 obtain ⟨i, hi, e⟩ := List.getElem_of_mem ((h d[j]).1 (List.getElem_mem hj))
 refine List.any_eq_true.2 ⟨i, List.mem_range.2 hi, ?_⟩
 have e2 : L.getD i [] = d[j] := by rw [List.getD, List.getElem?_eq_getElem hi, Option.getD_some, e]
 unfold ix
 rw [e2, pos_at d p hd j _ hm]
 simp
theorem wid_ix (d L : List Str) (h : ∀ t ∈ L, t ∈ d) (hd : d.length ≤ 65536) : Bt.wid L.length (ix d L) ≤ 64 := by
 refine (Bt.wid_le _ _ _).2 fun i hi => ?_
 have := ix_lt d L h i hi
 omega
theorem rdPick_back (d L : List Str) (p : Option Str) (hd : Asc p d) (hl : d.length ≤ 65536) (h : ∀ t, t ∈ d ↔ t ∈ L) (r : List UInt8) : rdPick L.length d (encX d L ++ r) = (0, L, r) := by
 unfold encX
 have hm := fun t ht => (h t).2 ht
 have hw := wid_ix d L hm hl
 have hX := (Bt.wid_le L.length (ix d L) _).1 (Nat.le_refl _)
 have hg := right_ix d L p hd h
 have ho := outs_ix d L hm
 have hB := fun i hi => Bt.back (n := L.length) (X := ix d L) (i := i) hi (hX i hi)
 have hC := Bt.chk_pack L.length (ix d L) (Bt.wid L.length (ix d L))
 generalize Bt.wid L.length (ix d L) = w at hw hg hB hC ⊢
 have hsz := Bt.size_bytes (Bt.need (L.length * w)) (Bt.pk L.length (ix d L) w)
 generalize Bt.bytes (Bt.need (L.length * w)) (Bt.pk L.length (ix d L) w) = s at hB hC hsz ⊢
 have hwn : (UInt8.ofNat w).toNat = w := by simp [UInt8.toNat_ofNat']; omega
 have hlen := Bt.length_data s
 have et : (s.data.toList ++ r).take (Bt.need (L.length * w)) = s.data.toList := by
  rw [← hsz, ← hlen]; simp
 have ed : (s.data.toList ++ r).drop (Bt.need (L.length * w)) = r := by
  rw [← hsz, ← hlen]; simp
 have es : (⟨s.data.toList.toArray⟩ : ByteArray) = s := rfl
 have hc : ∀ i, i < L.length → un s w i = ix d L i := fun i hi => hB i hi
 unfold rdPick
 simp only [List.cons_append, hwn]
 rw [if_neg (by omega), if_neg (by rw [List.length_append, hlen, hsz]; omega), et, ed, es, if_neg (by rw [hC]; simp), right_congr hc, if_pos hg, outs_congr hc, ho]
theorem rdPick_only (n : Nat) (d : List Str) (p : Option Str) (hd : Asc p d) (l : List UInt8) (h : (rdPick n d l).1 = 0) : l = encX d (rdPick n d l).2.1 ++ (rdPick n d l).2.2 ∧ (rdPick n d l).2.1.length = n ∧ ∀ t, t ∈ d ↔ t ∈ (rdPick n d l).2.1 := by
 unfold rdPick at h ⊢
 cases l with
 | nil => cases h
 | cons b r =>
   simp only at h ⊢
   by_cases h2 : 64 < b.toNat
   ·rw [if_pos h2] at h; cases h
   ·rw [if_neg h2] at h ⊢
    by_cases h3 : r.length < Bt.need (n * b.toNat)
    ·rw [if_pos h3] at h; cases h
    ·rw [if_neg h3] at h ⊢
     by_cases h4 : Bt.chk ⟨(r.take (Bt.need (n * b.toNat))).toArray⟩ (n * b.toNat) ≠ 0
     ·rw [if_pos h4] at h
      exact absurd h h4
     ·rw [if_neg h4] at h ⊢
      have hC : Bt.chk ⟨(r.take (Bt.need (n * b.toNat))).toArray⟩ (n * b.toNat) = 0 := by simpa using h4
      by_cases h5 : right n b.toNat d (un ⟨(r.take (Bt.need (n * b.toNat))).toArray⟩ b.toNat) = true
      ·rw [if_pos h5]
       have hO := Bt.only hC
       have hun : (fun i => Bt.num b.toNat (fun j => Bt.bit ⟨(r.take (Bt.need (n * b.toNat))).toArray⟩ (i * b.toNat + j))) = un ⟨(r.take (Bt.need (n * b.toNat))).toArray⟩ b.toNat := rfl
       rw [hun] at hO
       generalize hX : un ⟨(r.take (Bt.need (n * b.toNat))).toArray⟩ b.toNat = X at hO h5 ⊢
       unfold right at h5
       simp only [Bool.and_eq_true, List.all_eq_true, List.mem_range, decide_eq_true_iff, beq_iff_eq] at h5
       obtain ⟨hlt, hused, hW⟩ := h5
       have hlen : (outs n d X).length = n := by simp [outs]
       have hat : ∀ i, i < n → ∃ t, d[X i]? = some t ∧ (outs n d X).getD i [] = t ∧ t ∈ outs n d X := by
        intro i hi
        have hm := List.getElem?_eq_getElem (hlt i hi)
        refine ⟨d[X i]'(hlt i hi), hm, ?_, ?_⟩
        ·rw [List.getD, show (outs n d X)[i]? = some (d.getD (X i) []) by simp [outs, hi], Option.getD_some, List.getD, hm, Option.getD_some]
        ·refine List.mem_map.2 ⟨i, List.mem_range.2 hi, ?_⟩
         rw [List.getD, hm, Option.getD_some]
       have hix : ∀ i, i < n → ix d (outs n d X) i = X i := by
        intro i hi
        obtain ⟨t, h1, h2, _⟩ := hat i hi
        unfold ix
        rw [h2]
        exact pos_at d p hd _ t h1
       have hwid : Bt.wid n (ix d (outs n d X)) = b.toNat := by
        have e : Bt.orN n (ix d (outs n d X)) = Bt.orN n X := by
         have : ∀ k, k ≤ n → Bt.orN k (ix d (outs n d X)) = Bt.orN k X := by
          intro k
          induction k with
          | zero => intro _; rfl
          | succ k ih => intro hk; simp only [Bt.orN]; rw [ih (by omega), hix k (by omega)]
         exact this n (Nat.le_refl _)
        unfold Bt.wid at hW ⊢
        rw [e]; exact hW
       have hpk : Bt.bytes (Bt.need (n * b.toNat)) (Bt.pk n (ix d (outs n d X)) b.toNat) = Bt.bytes (Bt.need (n * b.toNat)) (Bt.pk n X b.toNat) := by
        refine Bt.bytes_congr fun x _ => ?_
        unfold Bt.pk
        by_cases hx : x < n * b.toNat
        ·have hb0 : 0 < b.toNat := by
          rcases Nat.eq_zero_or_pos b.toNat with h0 | h0
          ·rw [h0] at hx; simp at hx
          ·exact h0
         rw [hix (x / b.toNat) ((Nat.div_lt_iff_lt_mul hb0).2 hx)]
        ·simp [hx]
       refine ⟨?_, hlen, fun t => ⟨fun ht => ?_, fun ht => ?_⟩⟩
       ·unfold encX
        rw [hlen, hwid, hpk, hO]
        have hub : UInt8.ofNat b.toNat = b := by simp
        rw [hub]
        simp
       ·obtain ⟨j, hj, e⟩ := List.getElem_of_mem ht
        obtain ⟨i, hi, e2⟩ := List.any_eq_true.1 (hused j hj)
        rw [List.mem_range] at hi
        obtain ⟨u, h1, _, h3⟩ := hat i hi
        have e3 : X i = j := by simpa using e2
        rw [e3, List.getElem?_eq_getElem hj, e] at h1
        cases h1
        exact h3
       ·obtain ⟨i, hi, e⟩ := List.mem_map.1 ht
        rw [List.mem_range] at hi
        rw [← e, List.getD, List.getElem?_eq_getElem (hlt i hi), Option.getD_some]
        exact List.getElem_mem _
      ·rw [if_neg h5] at h; cases h
def body (k : Nat) (L : List Str) : List UInt8 := if k = 0 then L.flatMap encT else encU (dict L).length ++ ((dict L).flatMap encT ++ encX (dict L) L)
def enc (k : Nat) (L : List Str) : List UInt8 := UInt8.ofNat k :: (encU L.length ++ body k L)
def rdBody (k n : Nat) (l : List UInt8) : Nat × List Str × List UInt8 :=
 if k = 0 then rdWords false n none l
 else if (num l).2.2 ≠ 0 then ((num l).2.2, [], l)
 else if 65536 < (num l).1 then (3, [], l)
 else if (rdWords true (num l).1 none (rest l)).1 ≠ 0 then ((rdWords true (num l).1 none (rest l)).1, [], l)
 else rdPick n (rdWords true (num l).1 none (rest l)).2.1 (rdWords true (num l).1 none (rest l)).2.2
def rd (l : List UInt8) : Nat × List Str :=
 match l with
 | [] => (2, [])
 | b :: r =>
   if 1 < b.toNat then (4, [])
   else if (num r).2.2 ≠ 0 then ((num r).2.2, [])
   else if 65536 < (num r).1 then (3, [])
   else if (rdBody b.toNat (num r).1 (rest r)).1 ≠ 0 then ((rdBody b.toNat (num r).1 (rest r)).1, [])
   else if (rdBody b.toNat (num r).1 (rest r)).2.2 ≠ [] then (5, [])
   else (0, (rdBody b.toNat (num r).1 (rest r)).2.1)
theorem dict_len (L : List Str) : (dict L).length ≤ L.length := by
 have hi : ∀ (t : Str) (d : List Str), (ins t d).length ≤ d.length + 1 := by
  intro t d
  induction d with
  | nil => simp [ins]
  | cons a d ih =>
    unfold ins
    repeat' split
    all_goals simp only [List.length_cons] <;> omega
 have : ∀ (L d : List Str), (L.foldl (fun d t => ins t d) d).length ≤ L.length + d.length := by
  intro L
  induction L with
  | nil => intro d; simp
  | cons t L ih =>
    intro d
    have h1 := ih (ins t d)
    have h2 := hi t d
    simp only [List.foldl_cons, List.length_cons]
    omega
 have h := this L []
 unfold dict
 simpa using h
theorem rdBody_back (k : Nat) (L : List Str) (h : ∀ t ∈ L, t.length ≤ 64) (hl : L.length ≤ 65536) (r : List UInt8) : rdBody k L.length (body k L ++ r) = (0, L, r) := by
 unfold rdBody body
 by_cases h1 : k = 0
 ·simp only [h1, if_true]
  exact rdWords_back false L none r h fun e => by cases e
 ·simp only [h1, if_false]
  have hd := dict_len L
  have e : encU (dict L).length ++ ((dict L).flatMap encT ++ encX (dict L) L) ++ r = encU (dict L).length ++ ((dict L).flatMap encT ++ (encX (dict L) L ++ r)) := by simp
  obtain ⟨a1, a2, a3⟩ := read_encU (dict L).length (show U64 (dict L).length by unfold U64; omega) ((dict L).flatMap encT ++ (encX (dict L) L ++ r))
  have hw := rdWords_back true (dict L) none (encX (dict L) L ++ r) (fun t ht => h t ((dict_mem L t).1 ht)) fun _ => dict_asc L
  rw [e, if_neg (by rw [a1]; simp), a2, if_neg (by omega), a3, hw]
  rw [if_neg (by simp)]
  exact rdPick_back (dict L) L none (dict_asc L) (by omega) (dict_mem L) r
theorem rdBody_only (k n : Nat) (l : List UInt8) (h : (rdBody k n l).1 = 0) : l = body k (rdBody k n l).2.1 ++ (rdBody k n l).2.2 ∧ (rdBody k n l).2.1.length = n ∧ ∀ t ∈ (rdBody k n l).2.1, t.length ≤ 64 := by
 unfold rdBody at h ⊢
 unfold body
 by_cases h1 : k = 0
 ·simp only [h1, if_true] at h ⊢
  obtain ⟨e1, e2, e3, _⟩ := rdWords_only false n none l h
  exact ⟨e1, e2, e3⟩
 ·simp only [h1, if_false] at h ⊢
  by_cases h2 : (num l).2.2 ≠ 0
  ·rw [if_pos h2] at h
   exact absurd h h2
  ·rw [if_neg h2] at h ⊢
   by_cases h3 : 65536 < (num l).1
   ·rw [if_pos h3] at h; cases h
   ·rw [if_neg h3] at h ⊢
    by_cases h4 : (rdWords true (num l).1 none (rest l)).1 ≠ 0
    ·rw [if_pos h4] at h
     exact absurd h h4
    ·rw [if_neg h4] at h ⊢
     obtain ⟨e1, e2, e3, e4⟩ := rdWords_only true (num l).1 none (rest l) (by simpa using h4)
     have ha := e4 rfl
     have hs := splitU (l := l) (by simpa using h2)
     generalize (rdWords true (num l).1 none (rest l)).2.1 = d at e1 e2 e3 ha h ⊢
     generalize (rdWords true (num l).1 none (rest l)).2.2 = q at e1 h ⊢
     obtain ⟨f1, f2, f3⟩ := rdPick_only n d none ha q h
     generalize (rdPick n d q).2.1 = L at f1 f2 f3 ⊢
     have hdl : dict L = d := asc_same _ _ none none (dict_asc L) ha fun x => by rw [dict_mem]; exact (f3 x).symm
     refine ⟨?_, f2, fun t ht => e3 t ((f3 t).2 ht)⟩
     rw [hdl, e2, List.append_assoc, List.append_assoc, ← f1, ← e1]
     exact hs
theorem rd_enc (k : Nat) (hk : k ≤ 1) (L : List Str) (h : ∀ t ∈ L, t.length ≤ 64) (hl : L.length ≤ 65536) : rd (enc k L) = (0, L) := by
 have hkn : (UInt8.ofNat k).toNat = k := by simp [UInt8.toNat_ofNat']; omega
 obtain ⟨a1, a2, a3⟩ := read_encU L.length (show U64 L.length by unfold U64; omega) (body k L)
 have hb := rdBody_back k L h hl []
 rw [List.append_nil] at hb
 unfold rd enc
 simp only [hkn]
 rw [if_neg (by omega), if_neg (by rw [a1]; simp), a2, if_neg (by omega), a3, hb]
 simp
theorem enc_rd (l : List UInt8) (h : (rd l).1 = 0) : ∃ b r, l = b :: r ∧ b.toNat ≤ 1 ∧ enc b.toNat (rd l).2 = l ∧ (rd l).2.length ≤ 65536 ∧ ∀ t ∈ (rd l).2, t.length ≤ 64 := by
 unfold rd at h ⊢
 cases l with
 | nil => cases h
 | cons b r =>
   simp only at h ⊢
   refine ⟨b, r, rfl, ?_⟩
   by_cases h1 : 1 < b.toNat
   ·rw [if_pos h1] at h; cases h
   ·rw [if_neg h1] at h ⊢
    by_cases h2 : (num r).2.2 ≠ 0
    ·rw [if_pos h2] at h
     exact absurd h h2
    ·rw [if_neg h2] at h ⊢
     by_cases h3 : 65536 < (num r).1
     ·rw [if_pos h3] at h; cases h
     ·rw [if_neg h3] at h ⊢
      by_cases h4 : (rdBody b.toNat (num r).1 (rest r)).1 ≠ 0
      ·rw [if_pos h4] at h
       exact absurd h h4
      ·rw [if_neg h4] at h ⊢
       by_cases h5 : (rdBody b.toNat (num r).1 (rest r)).2.2 ≠ []
       ·rw [if_pos h5] at h; cases h
       ·rw [if_neg h5]
        obtain ⟨e1, e2, e3⟩ := rdBody_only b.toNat (num r).1 (rest r) (by simpa using h4)
        have e5 : (rdBody b.toNat (num r).1 (rest r)).2.2 = [] := by simpa using h5
        rw [e5, List.append_nil] at e1
        refine ⟨by omega, ?_, by rw [e2]; omega, e3⟩
        unfold enc
        rw [e2, ← e1, ← splitU (by simpa using h2)]
        simp
end Go.Proofs.YtbelkhkllneifaaGreatDoor.Tx
namespace Go.Proofs.YtbelkhkllneifaaGreatDoor
open Go.RowKit
def Ty.G : Nat := Nat.max 0 1 + 1
structure Ty.Tabs (w : World) : Prop where
 z0 : w.cell? ⟨0, 0, none⟩ = some (.int .i64 1)
 z1 : w.cell? ⟨0, 1, none⟩ = some (.int .i64 2)
 z2 : w.cell? ⟨0, 2, none⟩ = some (.int .i64 4)
 z3 : w.cell? ⟨0, 3, none⟩ = some (.int .i64 9)
 s0 : w.cell? ⟨1, 0, none⟩ = some (.int .u64 0)
 s1 : w.cell? ⟨1, 1, none⟩ = some (.int .u64 64)
 s2 : w.cell? ⟨1, 2, none⟩ = some (.int .u64 16384)
 s3 : w.cell? ⟨1, 3, none⟩ = some (.int .u64 1073741824)
 two : Ty.G ≤ w.heap.size
set_option maxHeartbeats 400000 in
theorem Ty.formOf_c (n : Nat) (w : World) (h : Ty.Tabs w) :
 Calls Tryz.prog 118 #[.int .u64 n] w fun e w' => e = .returned (.int .i64 (Ty.form n)) ∧ w' = w := by
 obtain ⟨z0, z1, z2, z3, s0, s1, s2, s3, _⟩ := h
 go_enter Tryz.func118, Tryz.ntmps118
 go_wp2
 go_loop [3] (fun i => ∃ k : Nat, k ≤ 3 ∧ i = .int .i64 k ∧ Ty.form n ≤ k) (fun i => (intOf i).toNat)
 case atStart => exact ⟨3, by omega, by simp, Ty.form_le n⟩
 case round =>
  obtain ⟨k, hk, rfl, hf⟩ := hrel
  have hb := Ty.form_is n
  have hc : (k = 0 ∧ Ty.form n = 0) ∨ (k = 1 ∧ (n : Int) < 64 ∧ Ty.form n ≤ 0) ∨ (k = 1 ∧ ¬ (n : Int) < 64 ∧ Ty.form n = 1) ∨ (k = 2 ∧ (n : Int) < 16384 ∧ Ty.form n ≤ 1) ∨ (k = 2 ∧ ¬ (n : Int) < 16384 ∧ Ty.form n = 2) ∨ (k = 3 ∧ (n : Int) < 1073741824 ∧ Ty.form n ≤ 2) ∨ (k = 3 ∧ ¬ (n : Int) < 1073741824 ∧ Ty.form n = 3) := by omega
  clear hb
  rcases hc with ⟨rfl, hz⟩ | ⟨rfl, hl, hx⟩ | ⟨rfl, hl, hz⟩ | ⟨rfl, hl, hx⟩ | ⟨rfl, hl, hz⟩ | ⟨rfl, hl, hx⟩ | ⟨rfl, hl, hz⟩
  ·have h0 : ¬ (n : Int) < 0 := by omega
   go_wp2
   go_ret
   exact ⟨rfl, rfl⟩
  ·go_wp2
   go_round
   case rel => exact ⟨0, by omega, by simp, hx⟩
   case measure => simp [intOf]
  ·go_wp2
   go_ret
   exact ⟨rfl, rfl⟩
  ·go_wp2
   go_round
   case rel => exact ⟨1, by omega, by simp, hx⟩
   case measure => simp [intOf]
  ·go_wp2
   go_ret
   exact ⟨rfl, rfl⟩
  ·go_wp2
   go_round
   case rel => exact ⟨2, by omega, by simp, hx⟩
   case measure => simp [intOf]
  ·go_wp2
   go_ret
   exact ⟨rfl, rfl⟩
end Go.Proofs.YtbelkhkllneifaaGreatDoor
namespace Go.Proofs.YtbelkhkllneifaaGreatDoor.Ty
open Go Go.RowKit
structure Grew (w w' : World) (v v' : Value) : Prop where
 by_ : w.grownBy w' v.ownBlock
 own : v'.ownBlock = v.ownBlock ∨ ∃ k, v'.ownBlock = some k ∧ w.heap.size ≤ k
theorem Grew.refl (w : World) (v : Value) : Grew w w v v := ⟨⟨rfl, rfl, rfl, Nat.le_refl _, fun _ _ _ => rfl⟩, .inl rfl⟩
theorem Grew.trans {w w1 w2 : World} {v v1 v2 : Value} (h : Grew w w1 v v1) (k : Grew w1 w2 v1 v2) : Grew w w2 v v2 := by
 refine ⟨⟨k.by_.os.trans h.by_.os, k.by_.tape.trans h.by_.tape, k.by_.output.trans h.by_.output, Nat.le_trans h.by_.size k.by_.size, fun i hi hne => ?_⟩, ?_⟩
 ·refine (k.by_.block i (Nat.lt_of_lt_of_le hi h.by_.size) ?_).trans (h.by_.block i hi hne)
  rcases h.own with e | ⟨j, e, hj⟩
  ·rw [e]; exact hne
  ·rw [e]; intro e2; have := Option.some.inj e2; omega
 ·rcases k.own with e | ⟨j, e, hj⟩
  ·rcases h.own with e' | ⟨i, e', hi⟩
   ·exact .inl (e.trans e')
   ·exact .inr ⟨i, e.trans e', hi⟩
  ·exact .inr ⟨j, e, Nat.le_trans h.by_.size hj⟩
theorem Grew.behind {w w' : World} {v v' : Value} (o : Obj) (h : Grew (w.alloc o) w' v v') : Grew w w' v v' := by
 refine ⟨⟨h.by_.os, h.by_.tape, h.by_.output, by have := h.by_.size; simp at this; omega, fun i hi hne => ?_⟩, ?_⟩
 ·exact (h.by_.block i (by simp; omega) hne).trans (Below.heap_alloc w o i hi)
 ·rcases h.own with e | ⟨j, e, hj⟩
  ·exact .inl e
  ·exact .inr ⟨j, e, by simp at hj; omega⟩
theorem Grew.drawn {w w' : World} {v v' : Value} (h : Grew w.drew w' v v') : Grew w w' v v' := ⟨⟨h.by_.os, h.by_.tape, h.by_.output, h.by_.size, h.by_.block⟩, h.own⟩
theorem Grew.below {w w' : World} {v v' : Value} (h : Grew w w' v v') {B : Nat} (hB : B ≤ w.heap.size) (hv : ∀ k, v.ownBlock = some k → B ≤ k) : Below B w w' :=
 ⟨h.by_.os, h.by_.tape, h.by_.output, h.by_.size, fun k hk => h.by_.block k (by omega) (fun e => by have := hv k e.symm; omega)⟩
section
variable {P : Program} (w : World)
theorem append_tight (base : Nat) (t ty e : TypeId) (i : TypeInfo) (z : Value) (size bytes : Nat) (ht : P.underlying t = some (.slice e)) (hi : P.info? e = some i) (hz : i.zero = some z)
 (hsize : i.size = size) (hby : i.bytes = bytes) (hzs : z.cells.size = size) (hsz : 0 < size)
 (v : Value) (n : Nat) (xs : List Value) (hown : w.ownsRow base e size v n xs)
 (a : Addr) (m c : Nat) (news : List Value) (hl : news.length = m * size) (hnews : ∀ j u, news[j]? = some u → w.cell? (a.add j) = some u) (h1 : ∀ u ∈ news, u.oneCell' = true)
 (h63 : n + m ≤ maxLen) (hbytes : (n + m) * bytes ≤ 140737488355328) (hbase : base ≤ w.heap.size) :
 ∃ v' w', (Builtin.append_ #[t, t] ty #[v, .slice (some a) m c]).run P w = .ok v' w' ∧ w'.ownsRow base e size v' (n + m) (xs ++ news) ∧ Grew w w' v v' := by
 obtain ⟨v', w', hr, ho, hg, hn⟩ := run_append_own (P := P) w base t ty e i z size bytes ht hi hz hsize hby hzs hsz v n xs hown a m c news hl hnews h1 h63 hbytes hbase
 refine ⟨v', w', hr, ho, hg, ?_⟩
 subst hsize; subst hby
 have hsmall : n + m ≤ 9223372036854775807 := by simp only [maxLen] at h63; omega
 rcases hown.2 with ⟨rfl, rfl⟩ | ⟨g, cap, cur, rfl, hbg, hgg, hnc, hcm, hcs, htake⟩
 ·by_cases hm : m = 0
  ·obtain rfl := hn.2 ⟨rfl, hm⟩
   exact .inl rfl
  ·have hr2 := run_append_nil (P := P) w t ty e i z ht hi hz a m c news hl hnews (by omega) (by omega) (by have hb := hbytes; simp only [Nat.zero_add] at hb; omega)
   rw [hr] at hr2
   injection hr2 with e1 _
   subst e1
   exact .inr ⟨_, rfl, Nat.le_refl _⟩
 ·by_cases hroom : n + m ≤ cap
  ·have hr2 := run_append_room (P := P) w t ty e i ht hi g n cap cur hgg a m c news hl hnews h1 hroom (by rw [hl, hcs, ← Nat.add_mul]; exact Nat.mul_le_mul_right _ hroom)
   rw [hr] at hr2
   injection hr2 with e1 _
   subst e1
   exact .inl rfl
  ·have hr2 := run_append_grow (P := P) w t ty e i z ht hi hz ⟨g, 0, none⟩ n cap xs hown.1 (hown.cells (g := g) rfl) a m c news hl hnews (by omega) (by omega) (growslice_fits (by omega) hbytes)
   rw [hr] at hr2
   injection hr2 with e1 _
   subst e1
   exact .inr ⟨_, rfl, Nat.le_refl _⟩
theorem append_tight_string (base : Nat) (t u ty e : TypeId) (i : TypeInfo) (ht : P.underlying t = some (.slice e)) (hu : P.underlying u = some .string) (hi : P.info? e = some i) (hz : i.zero = some (.int .u8 0))
 (hsize : i.size = 1) (hby : i.bytes = 1) (v : Value) (n : Nat) (xs : List Value) (hown : w.ownsRow base e 1 v n xs) (s : ByteArray)
 (h63 : n + s.size ≤ maxLen) (hbytes : n + s.size ≤ 140737488355328) (hbase : base ≤ w.heap.size) :
 ∃ v' w', (Builtin.append_ #[t, u] ty #[v, .string s]).run P w = .ok v' w' ∧ w'.ownsRow base e 1 v' (n + s.size) (xs ++ Lib.strCells s) ∧ Grew w w' v v' := by
 obtain ⟨v', w', hr, ho, hg, hn⟩ := Lib.run_append_own_string (P := P) w base t u ty e i ht hu hi hz hsize hby v n xs hown s h63 hbytes hbase
 refine ⟨v', w', hr, ho, hg, ?_⟩
 have hxl : xs.length = n := by simpa using hown.1
 rcases hown.2 with ⟨rfl, rfl⟩ | ⟨g, cap, cur, rfl, hbg, hgg, hnc, hcm, hcs, htake⟩
 ·by_cases hm : s.size = 0
  ·obtain rfl := hn.2 ⟨rfl, hm⟩
   exact .inl rfl
  ·have hr2 := run_append_nil_string (P := P) w t u ty e i (.int .u8 0) ht hu hi hz s (by omega) (by omega) (by rw [hby]; omega)
   rw [hr] at hr2
   injection hr2 with e1 _
   subst e1
   exact .inr ⟨_, rfl, Nat.le_refl _⟩
 ·by_cases hroom : n + s.size ≤ cap
  ·have hcs' : cur.size = cap := by simpa using hcs
   have hr2 := Lib.run_append_room_string (P := P) w t u ty e i ht hu hi hsize g n cap cur hgg s hroom (by omega)
   rw [hr] at hr2
   injection hr2 with e1 _
   subst e1
   exact .inl rfl
  ·have hr2 := Lib.run_append_grow_string (P := P) w t u ty e i (.int .u8 0) ht hu hi hz ⟨g, 0, none⟩ n cap xs (by rw [hsize]; simpa using hxl) (hown.cells (g := g) rfl) s (by omega) (by omega) (by rw [hby]; exact growslice_fits (by omega) (by omega))
   rw [hr] at hr2
   injection hr2 with e1 _
   subst e1
   exact .inr ⟨_, rfl, Nat.le_refl _⟩
theorem wpList_append_tight {ops : Array Oper} {rest : List Oper} {o : Oper} {a : Act} {Q : Exit → Act → World → Prop} (hgd : o.guard = none) (s x : Operand) (t : TypeId)
 (ho : o.op = .call { callee := .builtin .append, args := #[s, x], argTypes := #[t, t] })
 (base : Nat) (e : TypeId) (i : TypeInfo) (z : Value) (size bytes : Nat) (ht : P.underlying t = some (.slice e)) (hi : P.info? e = some i) (hz : i.zero = some z)
 (hsize : i.size = size) (hby : i.bytes = bytes) (hzs : z.cells.size = size) (hsz : 0 < size)
 (v : Value) (n : Nat) (xs : List Value) (hs : a.eval s = v) (hown : w.ownsRow base e size v n xs)
 (ad : Addr) (m c : Nat) (news : List Value) (hx : a.eval x = .slice (some ad) m c) (hl : news.length = m * size) (hnews : ∀ j u, news[j]? = some u → w.cell? (ad.add j) = some u) (h1 : ∀ u ∈ news, u.oneCell' = true)
 (h63 : n + m ≤ maxLen) (hbytes : (n + m) * bytes ≤ 140737488355328) (hbase : base ≤ w.heap.size)
 (h : ∀ v' w', w'.ownsRow base e size v' (n + m) (xs ++ news) → Grew w w' v v' → wpList P ops Q rest (a.put o.dst v') w') : wpList P ops Q (o :: rest) a w := by
 refine wpList_plain hgd fun K hK => ?_
 obtain ⟨v', w', hr, h2, h3⟩ := append_tight (P := P) w base t o.type e i z size bytes ht hi hz hsize hby hzs hsz v n xs hown ad m c news hl hnews h1 h63 hbytes hbase
 unfold Oper.wp execOp
 simp only [ho, resolve, invoke, builtin, Sem.run_bind, Sem.run_pure, Result.andThen_ok, List.map_toArray, List.map_cons, List.map_nil, hs, hx, hr]
 exact hK _ _ (h v' w' h2 h3)
theorem wpList_append_tight_string {ops : Array Oper} {rest : List Oper} {o : Oper} {a : Act} {Q : Exit → Act → World → Prop} (hgd : o.guard = none) (sl x : Operand) (t u : TypeId)
 (ho : o.op = .call { callee := .builtin .append, args := #[sl, x], argTypes := #[t, u] })
 (base : Nat) (e : TypeId) (i : TypeInfo) (ht : P.underlying t = some (.slice e)) (hu : P.underlying u = some .string) (hi : P.info? e = some i) (hz : i.zero = some (.int .u8 0))
 (hsize : i.size = 1) (hby : i.bytes = 1)
 (v : Value) (n : Nat) (xs : List Value) (hs : a.eval sl = v) (hown : w.ownsRow base e 1 v n xs) (s : ByteArray) (hx : a.eval x = .string s)
 (h63 : n + s.size ≤ maxLen) (hbytes : n + s.size ≤ 140737488355328) (hbase : base ≤ w.heap.size)
 (h : ∀ v' w', w'.ownsRow base e 1 v' (n + s.size) (xs ++ Lib.strCells s) → Grew w w' v v' → wpList P ops Q rest (a.put o.dst v') w') : wpList P ops Q (o :: rest) a w := by
 refine wpList_plain hgd fun K hK => ?_
 obtain ⟨v', w', hr, h2, h3⟩ := append_tight_string (P := P) w base t u o.type e i ht hu hi hz hsize hby v n xs hown s h63 hbytes hbase
 unfold Oper.wp execOp
 simp only [ho, resolve, invoke, builtin, Sem.run_bind, Sem.run_pure, Result.andThen_ok, List.map_toArray, List.map_cons, List.map_nil, hs, hx, hr]
 exact hK _ _ (h v' w' h2 h3)
end
def B (u : UInt8) : Value := .int .u8 u.toNat
def Buf (base : Nat) (w : World) (v : Value) (bs : List UInt8) : Prop := w.ownsRow base 5 1 v bs.length (bs.map B)
theorem Buf.nil (base : Nat) (w : World) : Buf base w (.slice none 0 0) [] := World.ownsRow_nil w base _ 1
theorem Buf.len {base : Nat} {w : World} {v : Value} {bs : List UInt8} (h : Buf base w v bs) : v = .slice none 0 0 ∨ ∃ g c, v = .slice (some ⟨g, 0, none⟩) bs.length c ∧ base ≤ g ∧ g < w.heap.size := by
 rcases h.2 with ⟨rfl, _⟩ | ⟨g, cap, cur, rfl, hb, hg, _⟩
 ·exact .inl rfl
 ·exact .inr ⟨g, cap, rfl, hb, (Array.getElem?_eq_some_iff.1 hg).1⟩
theorem Buf.kept {base : Nat} {w w' : World} {v : Value} {bs : List UInt8} (h : Buf base w v bs) (hb : ∀ k, v.ownBlock = some k → w'.heap[k]? = w.heap[k]?) : Buf base w' v bs := by
 refine ⟨h.1, ?_⟩
 rcases h.2 with hn | ⟨g, cap, cur, rfl, hbb, hgg, rest⟩
 ·exact .inl hn
 ·exact .inr ⟨g, cap, cur, rfl, hbb, by rw [hb g rfl]; exact hgg, rest⟩
theorem Buf.string {P : Program} {base : Nat} {w : World} {v : Value} {bs : List UInt8} (h : Buf base w v bs) (src dst : TypeId) (hs : P.underlying src = some (.slice 5)) (he : P.underlying 5 = some (.int .u8)) (hd : P.underlying dst = some .string) :
 (convert src dst v).run P w = .ok (.string ⟨bs.toArray⟩) w := by
 rcases h.2 with ⟨rfl, hn⟩ | ⟨g, cap, cur, rfl, hbb, hgg, hnc, hcm, hcs, htake⟩
 ·rw [List.eq_nil_of_length_eq_zero hn]
  exact run_convert_bytes_nil w src _ hs he 0 0 dst hd
 ·have hc := h.cells (g := g) rfl
  have := run_convert_bytes_arg (P := P) w src _ hs he g 0 bs.length cap (bs.map fun u => (u.toNat : Int)) (by simp) (fun i hi => by
   have := hc i (B bs[i]) (by simp [hi])
   have ea : (⟨g, 0, none⟩ : Addr).add i = ⟨g, 0 + i, none⟩ := by unfold Addr.add; split <;> simp_all
   rw [ea] at this
   rw [this]
   simp [B, hi]) dst hd
  rw [this]
  have e : strOfNums (bs.map fun u => (u.toNat : Int)) = ⟨bs.toArray⟩ := by
   unfold strOfNums
   congr 1
   rw [List.map_map]
   congr 1
   conv => rhs; rw [← List.map_id bs]
   apply List.map_congr_left
   intro u _
   simp
  rw [e]
theorem info8 : (Tryz.prog.info? 5).map (fun i => (i.zero, i.size, i.bytes)) = some (some (.int .u8 0), 1, 1) := by kernel_rfl
theorem wpList_append_byte {base : Nat} {w0 : World} {v : Value} {bs : List UInt8} (hown : Buf base w0 v bs) (hb : base ≤ w0.heap.size) (hl : bs.length + 1 ≤ 140737488355328)
 {ops : Array Oper} {rest : List Oper} {o : Oper} {a : Act} {Q : Exit → Act → World → Prop} (s x : Operand) (X : Int) (hgd : o.guard = none)
 (ho : o.op = .call { callee := .builtin .append, args := #[s, x], argTypes := #[118, 118] })
 (hs : a.eval s = v) (hx : a.eval x = .slice (some ⟨w0.heap.size, 0, none⟩) 1 1)
 (h : ∀ v' w', (∀ u : UInt8, X = u.toNat → Buf base w' v' (bs ++ [u])) → Grew w0 w' v v' → wpList Tryz.prog ops Q rest (a.put o.dst v') w') :
 wpList Tryz.prog ops Q (o :: rest) a (w0.alloc (.cells #[.int .u8 X] 5)) := by
 obtain ⟨i0, hi, hz0, hz1, hz2⟩ := info_parts info8
 refine wpList_append_tight _ hgd s x 118 ho base 5 i0 (.int .u8 0) 1 1 Tryz.underlying118 hi hz0 hz1 hz2 rfl (by decide) v bs.length (bs.map B) hs (World.ownsRow.alloc hown _) ⟨w0.heap.size, 0, none⟩ 1 1 [.int .u8 X] hx rfl (cell_one_new _ _ _)
  (fun u hu => by simp at hu; subst hu; rfl) (by unfold maxLen; omega) (by omega) (by simp; omega) fun v' w' h1 h2 => h v' w' (fun u hu => ?_) (h2.behind _)
 subst hu
 unfold Buf
 simpa [B] using h1
theorem wpList_append_text {base : Nat} {w0 : World} {v : Value} {bs : List UInt8} (hown : Buf base w0 v bs) (hb : base ≤ w0.heap.size) {st : ByteArray} (hl : bs.length + st.size ≤ 140737488355328)
 {ops : Array Oper} {rest : List Oper} {o : Oper} {a : Act} {Q : Exit → Act → World → Prop} (s x : Operand) (hgd : o.guard = none)
 (ho : o.op = .call { callee := .builtin .append, args := #[s, x], argTypes := #[118, 9] })
 (hs : a.eval s = v) (hx : a.eval x = .string st)
 (h : ∀ v' w', Buf base w' v' (bs ++ st.data.toList) → Grew w0 w' v v' → wpList Tryz.prog ops Q rest (a.put o.dst v') w') :
 wpList Tryz.prog ops Q (o :: rest) a w0 := by
 obtain ⟨i0, hi, hz0, hz1, hz2⟩ := info_parts info8
 refine wpList_append_tight_string _ hgd s x 118 9 ho base 5 i0 Tryz.underlying118 Tryz.underlying9 hi hz0 hz1 hz2 v bs.length (bs.map B) hs hown st hx
  (by unfold maxLen; omega) hl hb fun v' w' h1 h2 => h v' w' ?_ h2
 unfold Buf
 have e : (bs ++ st.data.toList).length = bs.length + st.size := by rw [List.length_append, Array.length_toList]; rfl
 rw [e, List.map_append]
 exact h1
end Go.Proofs.YtbelkhkllneifaaGreatDoor.Ty
namespace Go.Proofs.YtbelkhkllneifaaGreatDoor
open Go.RowKit
def Ty.Mid (base : Nat) (w : World) (v0 : Value) (bs : List UInt8) (n k : Nat) (wr : World) (v : Value) : Prop :=
 ∃ done, Ty.encU n = done ++ Ty.low k n ∧ done.length + k ≤ 9 ∧ Ty.Buf base wr v (bs ++ done) ∧ Ty.Grew w wr v0 v
def Ty.Written (base : Nat) (w : World) (v : Value) (bs : List UInt8) (e : Ending) (w' : World) : Prop := ∃ v', e = .returned v' ∧ Ty.Buf base w' v' bs ∧ Ty.Grew w w' v v'
theorem Ty.Mid.first {base : Nat} {w : World} {v : Value} {bs : List UInt8} {n k : Nat} {w1 : World} {v1 : Value} (hk : k = Ty.after (Ty.form n)) {X : Int} (hX : X = ((Ty.head n).toNat : Int)) (h1 : ∀ u : UInt8, X = (u.toNat : Int) → Ty.Buf base w1 v1 (bs ++ [u])) (g1 : Ty.Grew w w1 v v1) : Ty.Mid base w v bs n k w1 v1 :=
 ⟨[Ty.head n], by rw [hk]; exact Ty.encU_split n, by have := Ty.after_le n; simp; omega, h1 _ hX, g1⟩
theorem Ty.Mid.next {base : Nat} {w : World} {v0 v : Value} {bs done : List UInt8} {n k : Nat} {wr w1 : World} {v1 : Value} (hd : Ty.encU n = done ++ Ty.low (k + 1) n) (hl : done.length + (k + 1) ≤ 9) (hG : Ty.Grew w wr v0 v)
 (h1 : ∀ u : UInt8, ((n : Int) / 2 ^ (8 * k) % 256) = (u.toNat : Int) → Ty.Buf base w1 v1 (bs ++ done ++ [u])) (g1 : Ty.Grew wr w1 v v1) : Ty.Mid base w v0 bs n k w1 v1 := by
 refine ⟨done ++ [UInt8.ofNat (n / 256 ^ k % 256)], by rw [hd, Ty.low_succ]; simp, by simp; omega, ?_, hG.trans g1⟩
 have := h1 _ (Ty.low_byte n k)
 simpa using this
theorem Ty.Mid.end {base : Nat} {w : World} {v0 v : Value} {bs done : List UInt8} {n : Nat} {wr : World} (hd : Ty.encU n = done ++ Ty.low 0 n) (hB : Ty.Buf base wr v (bs ++ done)) (hG : Ty.Grew w wr v0 v) : Ty.Written base w v0 (bs ++ Ty.encU n) (.returned v) wr :=
 ⟨v, rfl, by rw [hd]; simpa [Ty.low] using hB, hG⟩
set_option maxHeartbeats 1000000 in
theorem Ty.uint_nat (base : Nat) (v : Value) (bs : List UInt8) (n : Nat) (hn : Ty.U64 n) (w : World) (h : Ty.Tabs w) (hown : Ty.Buf base w v bs) (hb : base ≤ w.heap.size) (hlen : bs.length + 9 ≤ 140737488355328) :
 Calls Tryz.prog 89 #[v, .int .u64 n] w (Ty.Written base w v (bs ++ Ty.encU n)) := by
 have H := h
 obtain ⟨z0, z1, z2, z3, s0, s1, s2, s3, _⟩ := h
 have hf : Ty.form n = 0 ∨ Ty.form n = 1 ∨ Ty.form n = 2 ∨ Ty.form n = 3 := by have := Ty.form_le n; omega
 rcases hf with hf | hf | hf | hf
 all_goals
  have HF := Lib.hid hf
  go_enter Tryz.func89, Tryz.ntmps89
  go_wp2_with fail
  refine (Ty.formOf_c n _ H).mono ?_
  rintro e w' ⟨rfl, rfl⟩
  go_wp2_with (at_builtin; refine Ty.wpList_append_byte hown hb (by omega) (.tmp 14) (.tmp 24) _ rfl rfl rfl rfl ?_; intro v1 w1 h1 g1)
  go_loopw [0, 7] (fun vr i wr => ∃ k : Nat, i = .int .i64 ((k : Int) - 1) ∧ Ty.Mid base w' v bs n k wr vr) (fun _ i _ => (intOf i + 1).toNat)
  case atStart =>
   first
    | exact ⟨0, rfl, Ty.Mid.first (by rw [HF.out]; rfl) (Ty.head0 n HF.out) h1 g1⟩
    | exact ⟨1, rfl, Ty.Mid.first (by rw [HF.out]; rfl) (Ty.head1 n HF.out) h1 g1⟩
    | exact ⟨3, rfl, Ty.Mid.first (by rw [HF.out]; rfl) (Ty.head2 n HF.out) h1 g1⟩
    | exact ⟨8, rfl, Ty.Mid.first (by rw [HF.out]; rfl) (Ty.head3 n HF.out hn) h1 g1⟩
  case round =>
   obtain ⟨k, rfl, hm⟩ := hrel
   obtain ⟨done, hd, hl, hB, hG⟩ := hm
   have Hd := Lib.hid hd
   clear hd h1 g1
   have hbs := hG.by_.size
   rcases k with _ | k
   ·go_wp2
    go_ret
    exact Ty.Mid.end Hd.out hB hG
   ·have hk : k ≤ 8 := by omega
    have hl2 : (bs ++ done).length + 1 ≤ 140737488355328 := by simp; omega
    have hb2 : base ≤ wr.heap.size := by omega
    go_wp2_with (at_builtin; refine Ty.wpList_append_byte hB hb2 hl2 (.tmp 32) (.tmp 38) _ rfl rfl rfl rfl ?_; intro v2 w2 h2 g2)
    go_roundw
    case rel => exact ⟨k, rfl, Ty.Mid.next Hd.out hl hG h2 g2⟩
    case measure => simp [intOf]
theorem Ty.uint_c (base : Nat) (v : Value) (bs : List UInt8) (z : Int) (h0 : 0 ≤ z) (hz : Ty.U64 z.toNat) (w : World) (h : Ty.Tabs w) (hown : Ty.Buf base w v bs) (hb : base ≤ w.heap.size) (hlen : bs.length + 9 ≤ 140737488355328) :
 Calls Tryz.prog 89 #[v, .int .u64 z] w (Ty.Written base w v (bs ++ Ty.encU z.toNat)) := by
 have := Ty.uint_nat base v bs z.toNat hz w h hown hb hlen
 rwa [Int.toNat_of_nonneg h0] at this
end Go.Proofs.YtbelkhkllneifaaGreatDoor
namespace Go.Proofs.YtbelkhkllneifaaGreatDoor
open Go.RowKit
theorem Ty.w_neg {n : Int} (h : Ty.I64 n) (h0 : n < 0) : IntKind.u64.wrap (IntKind.u64.wrap (-IntKind.u64.wrap (IntKind.u64.wrap n * 2)) - 1) = Ty.zig n := by
 unfold Ty.I64 at h; unfold Ty.zig; simp only [IntKind.wrap_u64]; rw [if_neg (by omega)]; omega
theorem Ty.w_pos {n : Int} (h : Ty.I64 n) (h0 : 0 ≤ n) : IntKind.u64.wrap (IntKind.u64.wrap n * 2) = Ty.zig n := by
 unfold Ty.I64 at h; unfold Ty.zig; simp only [IntKind.wrap_u64]; rw [if_pos (by omega)]; omega
theorem Ty.w_odd {n : Nat} (h : Ty.U64 n) (h0 : n % 2 = 1) : wrap64 (wrap64 (-wrap64 (IntKind.u64.wrap (↑n / 2))) - 1) = Ty.zag n := by
 unfold Ty.U64 at h; unfold Ty.zag; simp only [IntKind.wrap_u64]; unfold wrap64; rw [if_pos (by omega)]; omega
theorem Ty.w_even {n : Nat} (h : Ty.U64 n) (h0 : ¬ n % 2 = 1) : wrap64 (IntKind.u64.wrap (↑n / 2)) = Ty.zag n := by
 unfold Ty.U64 at h; unfold Ty.zag; simp only [IntKind.wrap_u64]; unfold wrap64; rw [if_neg (by omega)]; omega
theorem Ty.ret_i {k : IntKind} {a b : Int} (h : a = b) : Ending.returned (.int k a) = .returned (.int k b) := by rw [h]
set_option maxHeartbeats 400000 in
theorem Ty.unsigned_c (n : Int) (w : World) (hn : Ty.I64 n) :
 Calls Tryz.prog 119 #[.int .i64 n] w fun e w' => e = .returned (.int .u64 (Ty.zig n)) ∧ w' = w := by
 by_cases h : n < 0
 ·have H := Lib.hid (Ty.w_neg hn h)
  go_enter Tryz.func119, Tryz.ntmps119
  go_wp2
  go_ret
  exact ⟨Ty.ret_i H.out, rfl⟩
 ·have H := Lib.hid (Ty.w_pos hn (by omega))
  go_enter Tryz.func119, Tryz.ntmps119
  go_wp2
  go_ret
  exact ⟨Ty.ret_i H.out, rfl⟩
set_option maxHeartbeats 400000 in
theorem Ty.signed_nat (n : Nat) (w : World) (hn : Ty.U64 n) :
 Calls Tryz.prog 214 #[.int .u64 n] w fun e w' => e = .returned (.int .i64 (Ty.zag n)) ∧ w' = w := by
 by_cases h : n % 2 = 1
 ·have H := Lib.hid (Ty.w_odd hn h)
  go_enter Tryz.func214, Tryz.ntmps214
  go_wp2
  go_ret
  exact ⟨Ty.ret_i H.out, rfl⟩
 ·have H := Lib.hid (Ty.w_even hn h)
  go_enter Tryz.func214, Tryz.ntmps214
  go_wp2
  go_ret
  exact ⟨Ty.ret_i H.out, rfl⟩
set_option maxHeartbeats 400000 in
theorem Ty.int_c (base : Nat) (v : Value) (bs : List UInt8) (n : Int) (hn : Ty.I64 n) (w : World) (h : Ty.Tabs w) (hown : Ty.Buf base w v bs) (hb : base ≤ w.heap.size) (hlen : bs.length + 9 ≤ 140737488355328) :
 Calls Tryz.prog 92 #[v, .int .i64 n] w (Ty.Written base w v (bs ++ Ty.encU (Ty.zig n).toNat)) := by
 go_enter Tryz.func92, Tryz.ntmps92
 go_wp2_with fail
 refine (Ty.unsigned_c n _ hn).mono ?_
 rintro e w' ⟨rfl, rfl⟩
 go_wp2_with fail
 refine (Ty.uint_c base v bs _ (Ty.zig_nonneg n) (Ty.zig_u64 hn) _ h hown hb hlen).mono ?_
 rintro e w1 ⟨v1, rfl, hB, hG⟩
 go_wp2
 go_ret
 exact ⟨v1, rfl, hB, hG⟩
set_option maxHeartbeats 400000 in
theorem Ty.text_c (base : Nat) (v : Value) (bs : List UInt8) (s : ByteArray) (w : World) (h : Ty.Tabs w) (hown : Ty.Buf base w v bs) (hb : base ≤ w.heap.size) (hlen : bs.length + 9 + s.size ≤ 140737488355328) :
 Calls Tryz.prog 91 #[v, .string s] w (Ty.Written base w v (bs ++ Ty.encU s.size ++ s.data.toList)) := by
 have hu : Ty.U64 ((s.size : Int)).toNat := by unfold Ty.U64; omega
 have h9 := Ty.encU_len9 s.size
 go_enter Tryz.func91, Tryz.ntmps91
 go_wp2_with fail
 refine (Ty.uint_c base v bs _ (by omega) hu _ h hown hb (by omega)).mono ?_
 rintro e w1 ⟨v1, rfl, hB, hG⟩
 have hs1 := hG.by_.size
 go_wp2_with (at_builtin; refine Ty.wpList_append_text hB (by omega) (by simp; omega) (.tmp 9) (.tmp 10) rfl rfl rfl rfl ?_; intro v2 w2 h2 g2)
 go_ret
 exact ⟨v2, rfl, by simpa using h2, hG.trans g2⟩
end Go.Proofs.YtbelkhkllneifaaGreatDoor
namespace Go.Proofs.YtbelkhkllneifaaGreatDoor
open Go.RowKit
theorem Ty.length_data (s : ByteArray) : s.data.toList.length = s.size := by rw [Array.length_toList]; rfl
theorem Ty.at_getD (s : ByteArray) (k : Nat) (h : k < s.size) : s[k] = s.data.toList.getD k 0 := by
 have h2 : k < s.data.toList.length := by rw [Ty.length_data]; exact h
 rw [List.getD, List.getElem?_eq_getElem h2]; rfl
theorem Ty.isEmpty_pos (s : ByteArray) (h : 0 < s.size) : s.toList.isEmpty = false := by
 rw [ByteArray.toList_eq, List.isEmpty_eq_false_iff]
 intro e
 have := Ty.length_data s
 rw [e] at this
 simp at this
 omega
theorem Ty.isEmpty_zero (s : ByteArray) (h : s.size = 0) : s.data.toList = [] := List.eq_nil_of_length_eq_zero (by rw [Ty.length_data]; exact h)
def Ty.numV (l : List UInt8) : Value := .tuple #[.int .u64 (Ty.num l).1, .int .i64 (Ty.num l).2.1, .int .i64 (Ty.num l).2.2]
set_option maxHeartbeats 1000000 in
theorem Ty.number_0 (s : ByteArray) (w : World) (h : Ty.Tabs w) (hs : s.size ≤ 9223372036854775807) (h0 : 0 < s.size) (h1 : (s[0].toNat : Int) ≤ 192) (h2 : (s[0].toNat : Int) / 64 = 0) :
 Calls Tryz.prog 164 #[.string s] w fun e w' => e = .returned (Ty.numV s.data.toList) ∧ w' = w := by
 obtain ⟨z0, z1, z2, z3, s0, s1, s2, s3, _⟩ := h
 have hne : s.toList.isEmpty = false := Ty.isEmpty_pos s h0
 have hll : s.data.toList.length = s.size := Ty.length_data s
 have e0 := Ty.at_getD s 0 h0
 have H0 : Hid (0 < s.data.toList.length) := Lib.hid (by omega)
 have Hb : Hid (¬ 192 < (s.data.toList.getD 0 0).toNat) := Lib.hid (by rw [← e0]; omega)
 have Hf : Hid ((s.data.toList.getD 0 0).toNat / 64 = 0) := Lib.hid (by rw [← e0]; omega)
 have Hl : Hid (¬ s.data.toList.length < 1 + Ty.after 0) := Lib.hid (by rw [hll]; show ¬ s.size < 1 + 0; omega)
 have E0 := Lib.hid e0
 clear e0 hll
 have hnz : ¬ ((s[0].toNat : Int) % 64 < 0) := by omega
 have hsz : (1 : Int) ≤ s.size := by omega
 have HN := Lib.hid (Ty.num_whole H0.out Hb.out Hf.out Hl.out (by show ¬ Ty.pv _ 1 < 0; omega))
 go_enter Tryz.func164, Tryz.ntmps164
 go_wp2
 refine wp_loop_rounds 1 ?_; rw [rounds_succ]
 go_wp2
 go_ret3
 exact ⟨by unfold Ty.numV; rw [HN.out]; simp [Ty.pv, Ty.after, E0.out], rfl⟩
set_option maxHeartbeats 1000000 in
theorem Ty.number_1 (s : ByteArray) (w : World) (h : Ty.Tabs w) (hs : s.size ≤ 9223372036854775807) (h0 : 0 < s.size) (h1 : (s[0].toNat : Int) ≤ 192) (h2 : (s[0].toNat : Int) / 64 = 1) :
 Calls Tryz.prog 164 #[.string s] w fun e w' => e = .returned (Ty.numV s.data.toList) ∧ w' = w := by
 obtain ⟨z0, z1, z2, z3, s0, s1, s2, s3, _⟩ := h
 have hne : s.toList.isEmpty = false := Ty.isEmpty_pos s h0
 have hll : s.data.toList.length = s.size := Ty.length_data s
 have e0 := Ty.at_getD s 0 h0
 have H0 : Hid (0 < s.data.toList.length) := Lib.hid (by omega)
 have Hb : Hid (¬ 192 < (s.data.toList.getD 0 0).toNat) := Lib.hid (by rw [← e0]; omega)
 have Hf : Hid ((s.data.toList.getD 0 0).toNat / 64 = 1) := Lib.hid (by rw [← e0]; omega)
 have HL := Lib.hid hll
 have E0 := Lib.hid e0
 clear e0 hll
 by_cases h4 : (2 : Int) ≤ s.size
 ·have Hl : Hid (¬ s.data.toList.length < 1 + Ty.after 1) := Lib.hid (by rw [HL.out]; simp [Ty.after]; omega)
  have Hst : Hid (∀ k, 1 ≤ k → k < 2 → Ty.pv s.data.toList k < 72057594037927936) := Lib.hid fun k a b => Ty.pv_small4 _ k a (by omega)
  obtain ⟨PV, HPV⟩ : ∃ f : Nat → Int, Hid (∀ k, f k = (Ty.pv s.data.toList k : Int)) := ⟨fun k => (Ty.pv s.data.toList k : Int), fun _ => rfl⟩
  by_cases h5 : PV 2 < 64
  ·have HN := Lib.hid (Ty.num_less H0.out Hb.out Hf.out Hl.out (by show Ty.pv _ 2 < 64; have := HPV.out 2; omega))
   go_enter Tryz.func164, Tryz.ntmps164
   go_wp2
   go_loop [8, 9] (fun n i => ∃ k : Nat, 1 ≤ k ∧ k ≤ 2 ∧ i = .int .i64 k ∧ n = .int .u64 (PV k)) (fun _ i => 2 - (intOf i).toNat)
   case atStart => exact ⟨1, by omega, by omega, rfl, by simp [HPV.out, Ty.pv, E0.out]⟩
   case round =>
    obtain ⟨k, hk1, hk2, rfl, rfl⟩ := hrel
    by_cases hk : k < 2
    ·have hks : k < s.size := by omega
     go_wp2
     go_round
     case rel => exact ⟨k + 1, by omega, by omega, by simp, by rw [HPV.out, HPV.out]; exact congrArg (Value.int .u64) (Ty.or_step _ _ k hk1 (Hst.out k hk1 hk) (Ty.at_getD s k hks))⟩
     case measure => simp [intOf]; omega
    ·obtain rfl : k = 2 := by omega
     go_wp2
     go_ret3
     exact ⟨by first | (unfold Ty.numV; rw [HN.out, HPV.out]; rfl) | (unfold Ty.numV; rw [HN.out]; rfl), rfl⟩
  ·have HN := Lib.hid (Ty.num_whole H0.out Hb.out Hf.out Hl.out (by show ¬ Ty.pv _ 2 < 64; have := HPV.out 2; omega))
   go_enter Tryz.func164, Tryz.ntmps164
   go_wp2
   go_loop [8, 9] (fun n i => ∃ k : Nat, 1 ≤ k ∧ k ≤ 2 ∧ i = .int .i64 k ∧ n = .int .u64 (PV k)) (fun _ i => 2 - (intOf i).toNat)
   case atStart => exact ⟨1, by omega, by omega, rfl, by simp [HPV.out, Ty.pv, E0.out]⟩
   case round =>
    obtain ⟨k, hk1, hk2, rfl, rfl⟩ := hrel
    by_cases hk : k < 2
    ·have hks : k < s.size := by omega
     go_wp2
     go_round
     case rel => exact ⟨k + 1, by omega, by omega, by simp, by rw [HPV.out, HPV.out]; exact congrArg (Value.int .u64) (Ty.or_step _ _ k hk1 (Hst.out k hk1 hk) (Ty.at_getD s k hks))⟩
     case measure => simp [intOf]; omega
    ·obtain rfl : k = 2 := by omega
     go_wp2
     go_ret3
     exact ⟨by first | (unfold Ty.numV; rw [HN.out, HPV.out]; rfl) | (unfold Ty.numV; rw [HN.out]; rfl), rfl⟩
 ·have HN := Lib.hid (Ty.num_cut H0.out Hb.out Hf.out (by rw [HL.out]; simp [Ty.after]; omega))
  go_enter Tryz.func164, Tryz.ntmps164
  go_wp2
  go_ret3
  exact ⟨by first | (unfold Ty.numV; rw [HN.out, HPV.out]; rfl) | (unfold Ty.numV; rw [HN.out]; rfl), rfl⟩
set_option maxHeartbeats 1000000 in
theorem Ty.number_2 (s : ByteArray) (w : World) (h : Ty.Tabs w) (hs : s.size ≤ 9223372036854775807) (h0 : 0 < s.size) (h1 : (s[0].toNat : Int) ≤ 192) (h2 : (s[0].toNat : Int) / 64 = 2) :
 Calls Tryz.prog 164 #[.string s] w fun e w' => e = .returned (Ty.numV s.data.toList) ∧ w' = w := by
 obtain ⟨z0, z1, z2, z3, s0, s1, s2, s3, _⟩ := h
 have hne : s.toList.isEmpty = false := Ty.isEmpty_pos s h0
 have hll : s.data.toList.length = s.size := Ty.length_data s
 have e0 := Ty.at_getD s 0 h0
 have H0 : Hid (0 < s.data.toList.length) := Lib.hid (by omega)
 have Hb : Hid (¬ 192 < (s.data.toList.getD 0 0).toNat) := Lib.hid (by rw [← e0]; omega)
 have Hf : Hid ((s.data.toList.getD 0 0).toNat / 64 = 2) := Lib.hid (by rw [← e0]; omega)
 have HL := Lib.hid hll
 have E0 := Lib.hid e0
 clear e0 hll
 by_cases h4 : (4 : Int) ≤ s.size
 ·have Hl : Hid (¬ s.data.toList.length < 1 + Ty.after 2) := Lib.hid (by rw [HL.out]; simp [Ty.after]; omega)
  have Hst : Hid (∀ k, 1 ≤ k → k < 4 → Ty.pv s.data.toList k < 72057594037927936) := Lib.hid fun k a b => Ty.pv_small4 _ k a (by omega)
  obtain ⟨PV, HPV⟩ : ∃ f : Nat → Int, Hid (∀ k, f k = (Ty.pv s.data.toList k : Int)) := ⟨fun k => (Ty.pv s.data.toList k : Int), fun _ => rfl⟩
  by_cases h5 : PV 4 < 16384
  ·have HN := Lib.hid (Ty.num_less H0.out Hb.out Hf.out Hl.out (by show Ty.pv _ 4 < 16384; have := HPV.out 4; omega))
   go_enter Tryz.func164, Tryz.ntmps164
   go_wp2
   go_loop [8, 9] (fun n i => ∃ k : Nat, 1 ≤ k ∧ k ≤ 4 ∧ i = .int .i64 k ∧ n = .int .u64 (PV k)) (fun _ i => 4 - (intOf i).toNat)
   case atStart => exact ⟨1, by omega, by omega, rfl, by simp [HPV.out, Ty.pv, E0.out]⟩
   case round =>
    obtain ⟨k, hk1, hk2, rfl, rfl⟩ := hrel
    by_cases hk : k < 4
    ·have hks : k < s.size := by omega
     go_wp2
     go_round
     case rel => exact ⟨k + 1, by omega, by omega, by simp, by rw [HPV.out, HPV.out]; exact congrArg (Value.int .u64) (Ty.or_step _ _ k hk1 (Hst.out k hk1 hk) (Ty.at_getD s k hks))⟩
     case measure => simp [intOf]; omega
    ·obtain rfl : k = 4 := by omega
     go_wp2
     go_ret3
     exact ⟨by first | (unfold Ty.numV; rw [HN.out, HPV.out]; rfl) | (unfold Ty.numV; rw [HN.out]; rfl), rfl⟩
  ·have HN := Lib.hid (Ty.num_whole H0.out Hb.out Hf.out Hl.out (by show ¬ Ty.pv _ 4 < 16384; have := HPV.out 4; omega))
   go_enter Tryz.func164, Tryz.ntmps164
   go_wp2
   go_loop [8, 9] (fun n i => ∃ k : Nat, 1 ≤ k ∧ k ≤ 4 ∧ i = .int .i64 k ∧ n = .int .u64 (PV k)) (fun _ i => 4 - (intOf i).toNat)
   case atStart => exact ⟨1, by omega, by omega, rfl, by simp [HPV.out, Ty.pv, E0.out]⟩
   case round =>
    obtain ⟨k, hk1, hk2, rfl, rfl⟩ := hrel
    by_cases hk : k < 4
    ·have hks : k < s.size := by omega
     go_wp2
     go_round
     case rel => exact ⟨k + 1, by omega, by omega, by simp, by rw [HPV.out, HPV.out]; exact congrArg (Value.int .u64) (Ty.or_step _ _ k hk1 (Hst.out k hk1 hk) (Ty.at_getD s k hks))⟩
     case measure => simp [intOf]; omega
    ·obtain rfl : k = 4 := by omega
     go_wp2
     go_ret3
     exact ⟨by first | (unfold Ty.numV; rw [HN.out, HPV.out]; rfl) | (unfold Ty.numV; rw [HN.out]; rfl), rfl⟩
 ·have HN := Lib.hid (Ty.num_cut H0.out Hb.out Hf.out (by rw [HL.out]; simp [Ty.after]; omega))
  go_enter Tryz.func164, Tryz.ntmps164
  go_wp2
  go_ret3
  exact ⟨by first | (unfold Ty.numV; rw [HN.out, HPV.out]; rfl) | (unfold Ty.numV; rw [HN.out]; rfl), rfl⟩
set_option maxHeartbeats 1000000 in
theorem Ty.number_3 (s : ByteArray) (w : World) (h : Ty.Tabs w) (hs : s.size ≤ 9223372036854775807) (h0 : 0 < s.size) (h1 : (s[0].toNat : Int) ≤ 192) (h2 : (s[0].toNat : Int) / 64 = 3) :
 Calls Tryz.prog 164 #[.string s] w fun e w' => e = .returned (Ty.numV s.data.toList) ∧ w' = w := by
 obtain ⟨z0, z1, z2, z3, s0, s1, s2, s3, _⟩ := h
 have hne : s.toList.isEmpty = false := Ty.isEmpty_pos s h0
 have hll : s.data.toList.length = s.size := Ty.length_data s
 have e0 := Ty.at_getD s 0 h0
 have H0 : Hid (0 < s.data.toList.length) := Lib.hid (by omega)
 have Hb : Hid (¬ 192 < (s.data.toList.getD 0 0).toNat) := Lib.hid (by rw [← e0]; omega)
 have Hf : Hid ((s.data.toList.getD 0 0).toNat / 64 = 3) := Lib.hid (by rw [← e0]; omega)
 have HL := Lib.hid hll
 have E0 := Lib.hid e0
 clear e0 hll
 by_cases h4 : (9 : Int) ≤ s.size
 ·have Hl : Hid (¬ s.data.toList.length < 1 + Ty.after 3) := Lib.hid (by rw [HL.out]; simp [Ty.after]; omega)
  have Hst : Hid (∀ k, 1 ≤ k → k < 9 → Ty.pv s.data.toList k < 72057594037927936) := Lib.hid fun k a b => Ty.pv_small8 _ (by have := Hb.out; have := Hf.out; omega) k a (by omega)
  obtain ⟨PV, HPV⟩ : ∃ f : Nat → Int, Hid (∀ k, f k = (Ty.pv s.data.toList k : Int)) := ⟨fun k => (Ty.pv s.data.toList k : Int), fun _ => rfl⟩
  by_cases h5 : PV 9 < 1073741824
  ·have HN := Lib.hid (Ty.num_less H0.out Hb.out Hf.out Hl.out (by show Ty.pv _ 9 < 1073741824; have := HPV.out 9; omega))
   go_enter Tryz.func164, Tryz.ntmps164
   go_wp2
   go_loop [8, 9] (fun n i => ∃ k : Nat, 1 ≤ k ∧ k ≤ 9 ∧ i = .int .i64 k ∧ n = .int .u64 (PV k)) (fun _ i => 9 - (intOf i).toNat)
   case atStart => exact ⟨1, by omega, by omega, rfl, by simp [HPV.out, Ty.pv, E0.out]⟩
   case round =>
    obtain ⟨k, hk1, hk2, rfl, rfl⟩ := hrel
    by_cases hk : k < 9
    ·have hks : k < s.size := by omega
     go_wp2
     go_round
     case rel => exact ⟨k + 1, by omega, by omega, by simp, by rw [HPV.out, HPV.out]; exact congrArg (Value.int .u64) (Ty.or_step _ _ k hk1 (Hst.out k hk1 hk) (Ty.at_getD s k hks))⟩
     case measure => simp [intOf]; omega
    ·obtain rfl : k = 9 := by omega
     go_wp2
     go_ret3
     exact ⟨by first | (unfold Ty.numV; rw [HN.out, HPV.out]; rfl) | (unfold Ty.numV; rw [HN.out]; rfl), rfl⟩
  ·have HN := Lib.hid (Ty.num_whole H0.out Hb.out Hf.out Hl.out (by show ¬ Ty.pv _ 9 < 1073741824; have := HPV.out 9; omega))
   go_enter Tryz.func164, Tryz.ntmps164
   go_wp2
   go_loop [8, 9] (fun n i => ∃ k : Nat, 1 ≤ k ∧ k ≤ 9 ∧ i = .int .i64 k ∧ n = .int .u64 (PV k)) (fun _ i => 9 - (intOf i).toNat)
   case atStart => exact ⟨1, by omega, by omega, rfl, by simp [HPV.out, Ty.pv, E0.out]⟩
   case round =>
    obtain ⟨k, hk1, hk2, rfl, rfl⟩ := hrel
    by_cases hk : k < 9
    ·have hks : k < s.size := by omega
     go_wp2
     go_round
     case rel => exact ⟨k + 1, by omega, by omega, by simp, by rw [HPV.out, HPV.out]; exact congrArg (Value.int .u64) (Ty.or_step _ _ k hk1 (Hst.out k hk1 hk) (Ty.at_getD s k hks))⟩
     case measure => simp [intOf]; omega
    ·obtain rfl : k = 9 := by omega
     go_wp2
     go_ret3
     exact ⟨by first | (unfold Ty.numV; rw [HN.out, HPV.out]; rfl) | (unfold Ty.numV; rw [HN.out]; rfl), rfl⟩
 ·have HN := Lib.hid (Ty.num_cut H0.out Hb.out Hf.out (by rw [HL.out]; simp [Ty.after]; omega))
  go_enter Tryz.func164, Tryz.ntmps164
  go_wp2
  go_ret3
  exact ⟨by first | (unfold Ty.numV; rw [HN.out, HPV.out]; rfl) | (unfold Ty.numV; rw [HN.out]; rfl), rfl⟩
end Go.Proofs.YtbelkhkllneifaaGreatDoor
