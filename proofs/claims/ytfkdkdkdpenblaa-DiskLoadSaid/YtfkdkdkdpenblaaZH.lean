/-
  The plain mathematics of package texts: the two encodings of a column of strings, what is read of bytes, there and back, in one way. No program.
  The document's answers for package texts: strings in hand; which string is ahead, where a string stands, the same lists.
  The document's answers for package texts: strings that a call owns; the dictionary.
  Arguments of the laws of bits opened: a slice of numbers, a slice of truths; how long they may be.
  An argument of the laws of ints opened: a slice of numbers that came in.
  An argument of the laws of texts opened: a slice of strings that came in.
-/
import Derived.Test.YtfkdkdkdpenblaaZG
import Derived.Test.YtfkdkdkdpenblaaZD
import Derived.Test.YtfkdkdkdpenblaaZF
import Derived.Lib.QuietBelow
import Derived.Deep.RegionHeld3
import Derived.Test.YtfkdkdkdpenblaaZE
import Derived.Deep.Slices
import Derived.Deep.Grids
import Derived.Deep.Fields
import Derived.ChangeSame
import Derived.ProofKit
import Derived.OpenShut
import Derived.SizedLaws
namespace Go.Proofs.Ytfkdkdkdpenblaa.Tx
open Go Go.RowKit
open Ty (num encU txt U64)
open Ig (rest read_encU splitU un)
abbrev Str := List UInt8
/-- A string's bytes. -/
def encT (t : Str) : List UInt8 := encU t.length ++ t
/-- What is left behind a string. -/
def restT (l : List UInt8) : List UInt8 := l.drop (txt l 64).2.1
theorem read_encT (t : Str) (h : t.length ≤ 64) (r : List UInt8) : (txt (encT t ++ r) 64).2.2 = 0 ∧ (txt (encT t ++ r) 64).1 = t ∧ restT (encT t ++ r) = r := by
  have e : num (encT t ++ r) = (t.length, (encU t.length).length, 0) := by
    unfold encT
    rw [List.append_assoc]
    exact Ty.num_encU _ (by unfold U64; omega) _
  have e0 : (num (encT t ++ r)).2.2 = 0 := by rw [e]
  have e1 : (num (encT t ++ r)).1 = t.length := by rw [e]
  have e2 : (num (encT t ++ r)).2.1 = (encU t.length).length := by rw [e]
  have hl : (encT t ++ r).length = (encU t.length).length + (t.length + r.length) := by simp [encT]
  have hw := Ty.txt_whole (most := 64) e0 (by rw [e1]; omega) (by rw [e1, e2, hl]; omega)
  have hd : (encT t ++ r).drop (encU t.length).length = t ++ r := by simp [encT]
  refine ⟨by rw [hw], by rw [hw, e1, e2, hd]; simp, ?_⟩
  unfold restT
  rw [hw, e1, e2, ← List.drop_drop, hd]
  simp
theorem splitT {l : List UInt8} (h : (txt l 64).2.2 = 0) : l = encT (txt l 64).1 ++ restT l ∧ (txt l 64).1.length ≤ 64 := by
  have h1 : (num l).2.2 = 0 := by
    rcases Nat.eq_zero_or_pos (num l).2.2 with h1 | h1
    · exact h1
    · rw [Ty.txt_bad (by omega)] at h
      exact h
  by_cases h2 : (64 : Int) < 0 ∨ (64 : Int) < ((num l).1 : Int)
  · rw [Ty.txt_long h1 h2] at h
    cases h
  · by_cases h3 : l.length - (num l).2.1 < (num l).1
    · rw [Ty.txt_short h1 h2 h3] at h
      cases h
    · have hw := Ty.txt_whole h1 h2 h3
      have hs := Ty.encU_num l h1
      have hlen : ((l.drop (num l).2.1).take (num l).1).length = (num l).1 := by
        rw [List.length_take, List.length_drop]; omega
      unfold restT
      rw [hw]
      refine ⟨?_, by rw [hlen]; omega⟩
      unfold encT
      rw [hlen, hs.1, ← List.drop_drop, List.append_assoc, List.take_append_drop, List.take_append_drop]
/-- One string is ahead of another. -/
def lt (a b : Str) : Bool := Op.bytesLess a b
/-- Strictly ascending, from behind p on. -/
def Asc : Option Str → List Str → Prop
  | _, [] => True
  | p, a :: d => (∀ q, p = some q → lt q a = true) ∧ Asc (some a) d
theorem asc_all : ∀ (d : List Str) (p : Option Str), Asc p d → ∀ q, p = some q → ∀ x ∈ d, lt q x = true
  | [], _, _, _, _, x, hx => by cases hx
  | a :: d, p, h, q, hq, x, hx => by
    have h1 := h.1 q hq
    rcases List.mem_cons.1 hx with rfl | hx
    · exact h1
    · exact Kn.bl_trans q a x h1 (asc_all d (some a) h.2 a rfl x hx)
theorem asc_weak : ∀ (d : List Str) (p : Option Str), Asc p d → Asc none d
  | [], _, _ => trivial
  | a :: d, _, h => ⟨(fun q hq => by cases hq), h.2⟩
/-- A string laid into an ascending list. -/
def ins (t : Str) : List Str → List Str
  | [] => [t]
  | a :: d => if a = t then a :: d else if lt a t = true then a :: ins t d else t :: a :: d
def dict (L : List Str) : List Str := L.foldl (fun d t => ins t d) []
theorem ins_mem (t : Str) : ∀ (d : List Str) (x : Str), x ∈ ins t d ↔ x = t ∨ x ∈ d
  | [], x => by simp [ins]
  | a :: d, x => by
    unfold ins
    by_cases h1 : a = t
    · subst h1
      rw [if_pos rfl]
      simp
    · rw [if_neg h1]
      by_cases h2 : lt a t = true
      · rw [if_pos h2, List.mem_cons, ins_mem t d x, List.mem_cons]
        constructor
        · rintro (h | h | h)
          · exact .inr (.inl h)
          · exact .inl h
          · exact .inr (.inr h)
        · rintro (h | h | h)
          · exact .inr (.inl h)
          · exact .inl h
          · exact .inr (.inr h)
      · rw [if_neg h2]
        simp
theorem ins_asc (t : Str) : ∀ (d : List Str) (p : Option Str), Asc p d → (∀ q, p = some q → lt q t = true) → Asc p (ins t d)
  | [], p, _, hp => ⟨hp, trivial⟩
  | a :: d, p, h, hp => by
    unfold ins
    by_cases h1 : a = t
    · rw [if_pos h1]; exact h
    · rw [if_neg h1]
      by_cases h2 : lt a t = true
      · rw [if_pos h2]
        exact ⟨h.1, ins_asc t d (some a) h.2 fun q hq => by cases hq; exact h2⟩
      · rw [if_neg h2]
        refine ⟨hp, fun q hq => ?_, h.2⟩
        cases hq
        rcases Kn.bl_total a t with h3 | h3 | h3
        · exact absurd h3 h2
        · exact absurd h3 h1
        · exact h3
theorem fold_asc (L : List Str) : ∀ d, Asc none d → Asc none (L.foldl (fun d t => ins t d) d) := by
  induction L with
  | nil => intro d h; exact h
  | cons t L ih => intro d h; exact ih _ (ins_asc t d none h fun q hq => by cases hq)
theorem fold_mem (L : List Str) : ∀ d x, x ∈ L.foldl (fun d t => ins t d) d ↔ x ∈ L ∨ x ∈ d := by
  induction L with
  | nil => intro d x; simp
  | cons t L ih =>
    intro d x
    simp only [List.foldl_cons]
    rw [ih, ins_mem, List.mem_cons]
    constructor
    · rintro (h | h | h)
      · exact .inl (.inr h)
      · exact .inl (.inl h)
      · exact .inr h
    · rintro ((h | h) | h)
      · exact .inr (.inl h)
      · exact .inl h
      · exact .inr (.inr h)
theorem dict_asc (L : List Str) : Asc none (dict L) := fold_asc L [] trivial
theorem dict_mem (L : List Str) (x : Str) : x ∈ dict L ↔ x ∈ L := by
  unfold dict
  rw [fold_mem]
  simp
/-- Ascending lists of the same strings are the same. -/
theorem asc_same : ∀ (d e : List Str) (p q : Option Str), Asc p d → Asc q e → (∀ x, x ∈ d ↔ x ∈ e) → d = e
  | [], [], _, _, _, _, _ => rfl
  | [], b :: e, _, _, _, _, h => by have := (h b).2 (by simp); cases this
  | a :: d, [], _, _, _, _, h => by have := (h a).1 (by simp); cases this
  | a :: d, b :: e, p, q, hd, he, h => by
    have h1 := asc_all d (some a) hd.2 a rfl
    have h2 := asc_all e (some b) he.2 b rfl
    have hab : a = b := by
      have ha := (h a).1 (by simp)
      have hb := (h b).2 (by simp)
      rcases List.mem_cons.1 ha with e1 | ha
      · exact e1
      · rcases List.mem_cons.1 hb with e1 | hb
        · exact e1.symm
        · have k1 := h2 a ha
          have k2 := h1 b hb
          have := Kn.bl_asymm b a k1
          have k3 : lt a b = false := this
          rw [k2] at k3
          cases k3
    subst hab
    rw [asc_same d e (some a) (some a) hd.2 he.2 fun x => ?_]
    constructor
    · intro hx
      rcases List.mem_cons.1 ((h x).1 (List.mem_cons_of_mem _ hx)) with e1 | h3
      · have := h1 x hx
        rw [e1] at this
        have k : lt a a = false := Kn.bl_irrefl a
        rw [this] at k
        cases k
      · exact h3
    · intro hx
      rcases List.mem_cons.1 ((h x).2 (List.mem_cons_of_mem _ hx)) with e1 | h3
      · have := h2 x hx
        rw [e1] at this
        have k : lt a a = false := Kn.bl_irrefl a
        rw [this] at k
        cases k
      · exact h3
/-- Where a string stands. -/
def pos (d : List Str) (t : Str) : Nat := d.idxOf t
theorem pos_lt {d : List Str} {t : Str} (h : t ∈ d) : pos d t < d.length := List.idxOf_lt_length_of_mem h
theorem pos_get {d : List Str} {t : Str} (h : t ∈ d) : d[pos d t]? = some t := by
  rw [List.getElem?_eq_getElem (pos_lt h)]
  congr 1
  exact List.getElem_idxOf (pos_lt h)
/-- In an ascending list a string stands once. -/
theorem pos_at : ∀ (d : List Str) (p : Option Str), Asc p d → ∀ (i : Nat) (t : Str), d[i]? = some t → pos d t = i
  | [], _, _, i, t, h => by simp at h
  | a :: d, p, hd, 0, t, h => by
    obtain rfl : a = t := by simpa using h
    simp [pos]
  | a :: d, p, hd, i + 1, t, h => by
    have h' : d[i]? = some t := by simpa using h
    have hne : a ≠ t := by
      intro e
      subst e
      have := asc_all d (some a) hd.2 a rfl a (List.mem_of_getElem? h')
      have k : lt a a = false := Kn.bl_irrefl a
      rw [this] at k
      cases k
    have ih := pos_at d (some a) hd.2 i t h'
    unfold pos at ih ⊢
    rw [List.idxOf_cons]
    have hb : (a == t) = false := by simpa using hne
    rw [hb]
    simp [ih]
/-- So many strings, in order if asked. -/
def rdWords (ord : Bool) : Nat → Option Str → List UInt8 → Nat × List Str × List UInt8
  | 0, _, l => (0, [], l)
  | n + 1, p, l =>
    if (txt l 64).2.2 ≠ 0 then ((txt l 64).2.2, [], l)
    else if ord = true ∧ (p.any fun q => !lt q (txt l 64).1) = true then (4, [], l)
    else ((rdWords ord n (some (txt l 64).1) (restT l)).1, (txt l 64).1 :: (rdWords ord n (some (txt l 64).1) (restT l)).2.1, (rdWords ord n (some (txt l 64).1) (restT l)).2.2)
theorem rdWords_back (ord : Bool) : ∀ (L : List Str) (p : Option Str) (r : List UInt8), (∀ t ∈ L, t.length ≤ 64) → (ord = true → Asc p L) → rdWords ord L.length p (L.flatMap encT ++ r) = (0, L, r)
  | [], _, _, _, _ => rfl
  | t :: L, p, r, h, ha => by
    have e : (t :: L).flatMap encT ++ r = encT t ++ (L.flatMap encT ++ r) := by simp
    obtain ⟨a1, a2, a3⟩ := read_encT t (h t (by simp)) (L.flatMap encT ++ r)
    have hno : ¬ (ord = true ∧ (p.any fun q => !lt q t) = true) := by
      rintro ⟨h1, h2⟩
      cases p with
      | none => cases h2
      | some q =>
        have := (ha h1).1 q rfl
        simp [this] at h2
    rw [e]
    simp only [List.length_cons, rdWords]
    rw [if_neg (by rw [a1]; simp), a2, if_neg hno, a3, rdWords_back ord L (some t) r (fun y hy => h y (by simp [hy])) fun ho => (ha ho).2]
theorem rdWords_only (ord : Bool) : ∀ (n : Nat) (p : Option Str) (l : List UInt8), (rdWords ord n p l).1 = 0 → l = (rdWords ord n p l).2.1.flatMap encT ++ (rdWords ord n p l).2.2 ∧ (rdWords ord n p l).2.1.length = n ∧ (∀ t ∈ (rdWords ord n p l).2.1, t.length ≤ 64) ∧ (ord = true → Asc p (rdWords ord n p l).2.1)
  | 0, _, l, _ => ⟨rfl, rfl, (fun t ht => by cases ht), fun _ => trivial⟩
  | n + 1, p, l, h => by
    simp only [rdWords] at h ⊢
    by_cases h1 : (txt l 64).2.2 ≠ 0
    · rw [if_pos h1] at h
      exact absurd h h1
    · rw [if_neg h1] at h ⊢
      by_cases h2 : ord = true ∧ (p.any fun q => !lt q (txt l 64).1) = true
      · rw [if_pos h2] at h
        cases h
      · rw [if_neg h2] at h ⊢
        obtain ⟨e1, e2, e3, e4⟩ := rdWords_only ord n (some (txt l 64).1) (restT l) h
        obtain ⟨s1, s2⟩ := splitT (l := l) (by simpa using h1)
        refine ⟨?_, by simp [e2], fun t ht => ?_, fun ho => ⟨fun q hq => ?_, e4 ho⟩⟩
        · simp only [List.flatMap_cons, List.append_assoc]
          rw [← e1]
          exact s1
        · rcases List.mem_cons.1 ht with rfl | ht
          · exact s2
          · exact e3 t ht
        · subst hq
          cases hl : lt q (txt l 64).1 with
          | true => rfl
          | false => exact absurd ⟨ho, by simp [hl]⟩ h2
/-- The bytes of the indices. -/
def ix (d : List Str) (L : List Str) (i : Nat) : Nat := pos d (L.getD i [])
def encX (d L : List Str) : List UInt8 := UInt8.ofNat (Bt.wid L.length (ix d L)) :: (Bt.bytes (Bt.need (L.length * Bt.wid L.length (ix d L))) (Bt.pk L.length (ix d L) (Bt.wid L.length (ix d L)))).data.toList
/-- What is right of the indices. -/
def right (n w : Nat) (d : List Str) (X : Nat → Nat) : Bool := (List.range n).all (fun i => decide (X i < d.length)) && ((List.range d.length).all (fun j => (List.range n).any fun i => X i == j) && (Bt.wid n X == w))
def outs (n : Nat) (d : List Str) (X : Nat → Nat) : List Str := (List.range n).map fun i => d.getD (X i) []
/-- So many strings of a dictionary. -/
def rdPick (n : Nat) (d : List Str) (l : List UInt8) : Nat × List Str × List UInt8 :=
  match l with
  | [] => (2, [], l)
  | b :: r =>
    if 64 < b.toNat then (4, [], l)
    else if r.length < Bt.need (n * b.toNat) then (2, [], l)
    else if Bt.chk ⟨(r.take (Bt.need (n * b.toNat))).toArray⟩ (n * b.toNat) ≠ 0 then (Bt.chk ⟨(r.take (Bt.need (n * b.toNat))).toArray⟩ (n * b.toNat), [], l)
    else if right n b.toNat d (un ⟨(r.take (Bt.need (n * b.toNat))).toArray⟩ b.toNat) = true then (0, outs n d (un ⟨(r.take (Bt.need (n * b.toNat))).toArray⟩ b.toNat), r.drop (Bt.need (n * b.toNat)))
    else (4, [], l)
theorem right_congr {n w : Nat} {d : List Str} {X Y : Nat → Nat} (h : ∀ i, i < n → X i = Y i) : right n w d X = right n w d Y := by
  have e1 : (List.range n).all (fun i => decide (X i < d.length)) = (List.range n).all (fun i => decide (Y i < d.length)) := by
    rw [Bool.eq_iff_iff, List.all_eq_true, List.all_eq_true]
    constructor
    · intro g i hi; rw [← h i (List.mem_range.1 hi)]; exact g i hi
    · intro g i hi; rw [h i (List.mem_range.1 hi)]; exact g i hi
  have e2 : ∀ j, (List.range n).any (fun i => X i == j) = (List.range n).any (fun i => Y i == j) := by
    intro j
    rw [Bool.eq_iff_iff, List.any_eq_true, List.any_eq_true]
    constructor
    · rintro ⟨i, hi, e⟩; exact ⟨i, hi, by rw [← h i (List.mem_range.1 hi)]; exact e⟩
    · rintro ⟨i, hi, e⟩; exact ⟨i, hi, by rw [h i (List.mem_range.1 hi)]; exact e⟩
  have e3 : Bt.orN n X = Bt.orN n Y := by
    have : ∀ k, k ≤ n → Bt.orN k X = Bt.orN k Y := by
      intro k
      induction k with
      | zero => intro _; rfl
      | succ k ih => intro hk; simp only [Bt.orN]; rw [ih (by omega), h k (by omega)]
    exact this n (Nat.le_refl _)
  unfold right Bt.wid
  rw [e1, e3]
  simp only [e2]
theorem outs_congr {n : Nat} {d : List Str} {X Y : Nat → Nat} (h : ∀ i, i < n → X i = Y i) : outs n d X = outs n d Y := List.map_congr_left fun i hi => by rw [h i (List.mem_range.1 hi)]
theorem outs_ix (d L : List Str) (h : ∀ t ∈ L, t ∈ d) : outs L.length d (ix d L) = L := by
  unfold outs
  refine List.ext_getElem (by simp) fun i h1 h2 => ?_
  rw [List.getElem_map, List.getElem_range]
  have e : L.getD i [] = L[i] := by rw [List.getD, List.getElem?_eq_getElem h2]; rfl
  unfold ix
  rw [e, List.getD, pos_get (h _ (List.getElem_mem h2))]
  rfl
theorem ix_lt (d L : List Str) (h : ∀ t ∈ L, t ∈ d) (i : Nat) (hi : i < L.length) : ix d L i < d.length := by
  have e : L.getD i [] = L[i] := by rw [List.getD, List.getElem?_eq_getElem hi]; rfl
  unfold ix
  rw [e]
  exact pos_lt (h _ (List.getElem_mem hi))
theorem right_ix (d L : List Str) (p : Option Str) (hd : Asc p d) (h : ∀ t, t ∈ d ↔ t ∈ L) : right L.length (Bt.wid L.length (ix d L)) d (ix d L) = true := by
  unfold right
  simp only [Bool.and_eq_true, List.all_eq_true, List.mem_range, decide_eq_true_iff, beq_self_eq_true, and_true]
  refine ⟨fun i hi => ix_lt d L (fun t ht => (h t).2 ht) i hi, fun j hj => ?_⟩
  have hm := List.getElem?_eq_getElem hj
  obtain ⟨i, hi, e⟩ := List.getElem_of_mem ((h d[j]).1 (List.getElem_mem hj))
  refine List.any_eq_true.2 ⟨i, List.mem_range.2 hi, ?_⟩
  have e2 : L.getD i [] = d[j] := by rw [List.getD, List.getElem?_eq_getElem hi, Option.getD_some, e]
  unfold ix
  rw [e2, pos_at d p hd j _ hm]
  simp
theorem wid_ix (d L : List Str) (h : ∀ t ∈ L, t ∈ d) (hd : d.length ≤ 65536) : Bt.wid L.length (ix d L) ≤ 64 := by
  refine (Bt.wid_le _ _ _).2 fun i hi => ?_
  have := ix_lt d L h i hi
  omega
theorem rdPick_back (d L : List Str) (p : Option Str) (hd : Asc p d) (hl : d.length ≤ 65536) (h : ∀ t, t ∈ d ↔ t ∈ L) (r : List UInt8) : rdPick L.length d (encX d L ++ r) = (0, L, r) := by
  unfold encX
  have hm := fun t ht => (h t).2 ht
  have hw := wid_ix d L hm hl
  have hX := (Bt.wid_le L.length (ix d L) _).1 (Nat.le_refl _)
  have hg := right_ix d L p hd h
  have ho := outs_ix d L hm
  have hB := fun i hi => Bt.back (n := L.length) (X := ix d L) (i := i) hi (hX i hi)
  have hC := Bt.chk_pack L.length (ix d L) (Bt.wid L.length (ix d L))
  generalize Bt.wid L.length (ix d L) = w at hw hg hB hC ⊢
  have hsz := Bt.size_bytes (Bt.need (L.length * w)) (Bt.pk L.length (ix d L) w)
  generalize Bt.bytes (Bt.need (L.length * w)) (Bt.pk L.length (ix d L) w) = s at hB hC hsz ⊢
  have hwn : (UInt8.ofNat w).toNat = w := by simp [UInt8.toNat_ofNat']; omega
  have hlen := Bt.length_data s
  have et : (s.data.toList ++ r).take (Bt.need (L.length * w)) = s.data.toList := by
    rw [← hsz, ← hlen]; simp
  have ed : (s.data.toList ++ r).drop (Bt.need (L.length * w)) = r := by
    rw [← hsz, ← hlen]; simp
  have es : (⟨s.data.toList.toArray⟩ : ByteArray) = s := rfl
  have hc : ∀ i, i < L.length → un s w i = ix d L i := fun i hi => hB i hi
  unfold rdPick
  simp only [List.cons_append, hwn]
  rw [if_neg (by omega), if_neg (by rw [List.length_append, hlen, hsz]; omega), et, ed, es, if_neg (by rw [hC]; simp), right_congr hc, if_pos hg, outs_congr hc, ho]
theorem rdPick_only (n : Nat) (d : List Str) (p : Option Str) (hd : Asc p d) (l : List UInt8) (h : (rdPick n d l).1 = 0) : l = encX d (rdPick n d l).2.1 ++ (rdPick n d l).2.2 ∧ (rdPick n d l).2.1.length = n ∧ ∀ t, t ∈ d ↔ t ∈ (rdPick n d l).2.1 := by
  unfold rdPick at h ⊢
  cases l with
  | nil => cases h
  | cons b r =>
    simp only at h ⊢
    by_cases h2 : 64 < b.toNat
    · rw [if_pos h2] at h; cases h
    · rw [if_neg h2] at h ⊢
      by_cases h3 : r.length < Bt.need (n * b.toNat)
      · rw [if_pos h3] at h; cases h
      · rw [if_neg h3] at h ⊢
        by_cases h4 : Bt.chk ⟨(r.take (Bt.need (n * b.toNat))).toArray⟩ (n * b.toNat) ≠ 0
        · rw [if_pos h4] at h
          exact absurd h h4
        · rw [if_neg h4] at h ⊢
          have hC : Bt.chk ⟨(r.take (Bt.need (n * b.toNat))).toArray⟩ (n * b.toNat) = 0 := by simpa using h4
          by_cases h5 : right n b.toNat d (un ⟨(r.take (Bt.need (n * b.toNat))).toArray⟩ b.toNat) = true
          · rw [if_pos h5]
            have hO := Bt.only hC
            have hun : (fun i => Bt.num b.toNat (fun j => Bt.bit ⟨(r.take (Bt.need (n * b.toNat))).toArray⟩ (i * b.toNat + j))) = un ⟨(r.take (Bt.need (n * b.toNat))).toArray⟩ b.toNat := rfl
            rw [hun] at hO
            generalize hX : un ⟨(r.take (Bt.need (n * b.toNat))).toArray⟩ b.toNat = X at hO h5 ⊢
            unfold right at h5
            simp only [Bool.and_eq_true, List.all_eq_true, List.mem_range, decide_eq_true_iff, beq_iff_eq] at h5
            obtain ⟨hlt, hused, hW⟩ := h5
            have hlen : (outs n d X).length = n := by simp [outs]
            have hat : ∀ i, i < n → ∃ t, d[X i]? = some t ∧ (outs n d X).getD i [] = t ∧ t ∈ outs n d X := by
              intro i hi
              have hm := List.getElem?_eq_getElem (hlt i hi)
              refine ⟨d[X i]'(hlt i hi), hm, ?_, ?_⟩
              · rw [List.getD, show (outs n d X)[i]? = some (d.getD (X i) []) by simp [outs, hi], Option.getD_some, List.getD, hm, Option.getD_some]
              · refine List.mem_map.2 ⟨i, List.mem_range.2 hi, ?_⟩
                rw [List.getD, hm, Option.getD_some]
            have hix : ∀ i, i < n → ix d (outs n d X) i = X i := by
              intro i hi
              obtain ⟨t, h1, h2, _⟩ := hat i hi
              unfold ix
              rw [h2]
              exact pos_at d p hd _ t h1
            have hwid : Bt.wid n (ix d (outs n d X)) = b.toNat := by
              have e : Bt.orN n (ix d (outs n d X)) = Bt.orN n X := by
                have : ∀ k, k ≤ n → Bt.orN k (ix d (outs n d X)) = Bt.orN k X := by
                  intro k
                  induction k with
                  | zero => intro _; rfl
                  | succ k ih => intro hk; simp only [Bt.orN]; rw [ih (by omega), hix k (by omega)]
                exact this n (Nat.le_refl _)
              unfold Bt.wid at hW ⊢
              rw [e]; exact hW
            have hpk : Bt.bytes (Bt.need (n * b.toNat)) (Bt.pk n (ix d (outs n d X)) b.toNat) = Bt.bytes (Bt.need (n * b.toNat)) (Bt.pk n X b.toNat) := by
              refine Bt.bytes_congr fun x _ => ?_
              unfold Bt.pk
              by_cases hx : x < n * b.toNat
              · have hb0 : 0 < b.toNat := by
                  rcases Nat.eq_zero_or_pos b.toNat with h0 | h0
                  · rw [h0] at hx; simp at hx
                  · exact h0
                rw [hix (x / b.toNat) ((Nat.div_lt_iff_lt_mul hb0).2 hx)]
              · simp [hx]
            refine ⟨?_, hlen, fun t => ⟨fun ht => ?_, fun ht => ?_⟩⟩
            · unfold encX
              rw [hlen, hwid, hpk, hO]
              have hub : UInt8.ofNat b.toNat = b := by simp
              rw [hub]
              simp
            · obtain ⟨j, hj, e⟩ := List.getElem_of_mem ht
              obtain ⟨i, hi, e2⟩ := List.any_eq_true.1 (hused j hj)
              rw [List.mem_range] at hi
              obtain ⟨u, h1, _, h3⟩ := hat i hi
              have e3 : X i = j := by simpa using e2
              rw [e3, List.getElem?_eq_getElem hj, e] at h1
              cases h1
              exact h3
            · obtain ⟨i, hi, e⟩ := List.mem_map.1 ht
              rw [List.mem_range] at hi
              rw [← e, List.getD, List.getElem?_eq_getElem (hlt i hi), Option.getD_some]
              exact List.getElem_mem _
          · rw [if_neg h5] at h; cases h
/-- The encoding of a column by a codec. -/
def body (k : Nat) (L : List Str) : List UInt8 := if k = 0 then L.flatMap encT else encU (dict L).length ++ ((dict L).flatMap encT ++ encX (dict L) L)
def enc (k : Nat) (L : List Str) : List UInt8 := UInt8.ofNat k :: (encU L.length ++ body k L)
/-- So many elements by a codec. -/
def rdBody (k n : Nat) (l : List UInt8) : Nat × List Str × List UInt8 :=
  if k = 0 then rdWords false n none l
  else if (num l).2.2 ≠ 0 then ((num l).2.2, [], l)
  else if 65536 < (num l).1 then (3, [], l)
  else if (rdWords true (num l).1 none (rest l)).1 ≠ 0 then ((rdWords true (num l).1 none (rest l)).1, [], l)
  else rdPick n (rdWords true (num l).1 none (rest l)).2.1 (rdWords true (num l).1 none (rest l)).2.2
/-- What is read of bytes: the first error, the elements. -/
def rd (l : List UInt8) : Nat × List Str :=
  match l with
  | [] => (2, [])
  | b :: r =>
    if 1 < b.toNat then (4, [])
    else if (num r).2.2 ≠ 0 then ((num r).2.2, [])
    else if 65536 < (num r).1 then (3, [])
    else if (rdBody b.toNat (num r).1 (rest r)).1 ≠ 0 then ((rdBody b.toNat (num r).1 (rest r)).1, [])
    else if (rdBody b.toNat (num r).1 (rest r)).2.2 ≠ [] then (5, [])
    else (0, (rdBody b.toNat (num r).1 (rest r)).2.1)
theorem dict_len (L : List Str) : (dict L).length ≤ L.length := by
  have hi : ∀ (t : Str) (d : List Str), (ins t d).length ≤ d.length + 1 := by
    intro t d
    induction d with
    | nil => simp [ins]
    | cons a d ih =>
      unfold ins
      repeat' split
      all_goals simp only [List.length_cons] <;> omega
  have : ∀ (L d : List Str), (L.foldl (fun d t => ins t d) d).length ≤ L.length + d.length := by
    intro L
    induction L with
    | nil => intro d; simp
    | cons t L ih =>
      intro d
      have h1 := ih (ins t d)
      have h2 := hi t d
      simp only [List.foldl_cons, List.length_cons]
      omega
  have h := this L []
  unfold dict
  simpa using h
theorem rdBody_back (k : Nat) (L : List Str) (h : ∀ t ∈ L, t.length ≤ 64) (hl : L.length ≤ 65536) (r : List UInt8) : rdBody k L.length (body k L ++ r) = (0, L, r) := by
  unfold rdBody body
  by_cases h1 : k = 0
  · simp only [h1, if_true]
    exact rdWords_back false L none r h fun e => by cases e
  · simp only [h1, if_false]
    have hd := dict_len L
    have e : encU (dict L).length ++ ((dict L).flatMap encT ++ encX (dict L) L) ++ r = encU (dict L).length ++ ((dict L).flatMap encT ++ (encX (dict L) L ++ r)) := by simp
    obtain ⟨a1, a2, a3⟩ := read_encU (dict L).length (show U64 (dict L).length by unfold U64; omega) ((dict L).flatMap encT ++ (encX (dict L) L ++ r))
    have hw := rdWords_back true (dict L) none (encX (dict L) L ++ r) (fun t ht => h t ((dict_mem L t).1 ht)) fun _ => dict_asc L
    rw [e, if_neg (by rw [a1]; simp), a2, if_neg (by omega), a3, hw]
    rw [if_neg (by simp)]
    exact rdPick_back (dict L) L none (dict_asc L) (by omega) (dict_mem L) r
theorem rdBody_only (k n : Nat) (l : List UInt8) (h : (rdBody k n l).1 = 0) : l = body k (rdBody k n l).2.1 ++ (rdBody k n l).2.2 ∧ (rdBody k n l).2.1.length = n ∧ ∀ t ∈ (rdBody k n l).2.1, t.length ≤ 64 := by
  unfold rdBody at h ⊢
  unfold body
  by_cases h1 : k = 0
  · simp only [h1, if_true] at h ⊢
    obtain ⟨e1, e2, e3, _⟩ := rdWords_only false n none l h
    exact ⟨e1, e2, e3⟩
  · simp only [h1, if_false] at h ⊢
    by_cases h2 : (num l).2.2 ≠ 0
    · rw [if_pos h2] at h
      exact absurd h h2
    · rw [if_neg h2] at h ⊢
      by_cases h3 : 65536 < (num l).1
      · rw [if_pos h3] at h; cases h
      · rw [if_neg h3] at h ⊢
        by_cases h4 : (rdWords true (num l).1 none (rest l)).1 ≠ 0
        · rw [if_pos h4] at h
          exact absurd h h4
        · rw [if_neg h4] at h ⊢
          obtain ⟨e1, e2, e3, e4⟩ := rdWords_only true (num l).1 none (rest l) (by simpa using h4)
          have ha := e4 rfl
          have hs := splitU (l := l) (by simpa using h2)
          generalize (rdWords true (num l).1 none (rest l)).2.1 = d at e1 e2 e3 ha h ⊢
          generalize (rdWords true (num l).1 none (rest l)).2.2 = q at e1 h ⊢
          obtain ⟨f1, f2, f3⟩ := rdPick_only n d none ha q h
          generalize (rdPick n d q).2.1 = L at f1 f2 f3 ⊢
          have hdl : dict L = d := asc_same _ _ none none (dict_asc L) ha fun x => by rw [dict_mem]; exact (f3 x).symm
          refine ⟨?_, f2, fun t ht => e3 t ((f3 t).2 ht)⟩
          rw [hdl, e2, List.append_assoc, List.append_assoc, ← f1, ← e1]
          exact hs
/-- THERE AND BACK. -/
theorem rd_enc (k : Nat) (hk : k ≤ 1) (L : List Str) (h : ∀ t ∈ L, t.length ≤ 64) (hl : L.length ≤ 65536) : rd (enc k L) = (0, L) := by
  have hkn : (UInt8.ofNat k).toNat = k := by simp [UInt8.toNat_ofNat']; omega
  obtain ⟨a1, a2, a3⟩ := read_encU L.length (show U64 L.length by unfold U64; omega) (body k L)
  have hb := rdBody_back k L h hl []
  rw [List.append_nil] at hb
  unfold rd enc
  simp only [hkn]
  rw [if_neg (by omega), if_neg (by rw [a1]; simp), a2, if_neg (by omega), a3, hb]
  simp
/-- IN ONE WAY. -/
theorem enc_rd (l : List UInt8) (h : (rd l).1 = 0) : ∃ b r, l = b :: r ∧ b.toNat ≤ 1 ∧ enc b.toNat (rd l).2 = l ∧ (rd l).2.length ≤ 65536 ∧ ∀ t ∈ (rd l).2, t.length ≤ 64 := by
  unfold rd at h ⊢
  cases l with
  | nil => cases h
  | cons b r =>
    simp only at h ⊢
    refine ⟨b, r, rfl, ?_⟩
    by_cases h1 : 1 < b.toNat
    · rw [if_pos h1] at h; cases h
    · rw [if_neg h1] at h ⊢
      by_cases h2 : (num r).2.2 ≠ 0
      · rw [if_pos h2] at h
        exact absurd h h2
      · rw [if_neg h2] at h ⊢
        by_cases h3 : 65536 < (num r).1
        · rw [if_pos h3] at h; cases h
        · rw [if_neg h3] at h ⊢
          by_cases h4 : (rdBody b.toNat (num r).1 (rest r)).1 ≠ 0
          · rw [if_pos h4] at h
            exact absurd h h4
          · rw [if_neg h4] at h ⊢
            by_cases h5 : (rdBody b.toNat (num r).1 (rest r)).2.2 ≠ []
            · rw [if_pos h5] at h; cases h
            · rw [if_neg h5]
              obtain ⟨e1, e2, e3⟩ := rdBody_only b.toNat (num r).1 (rest r) (by simpa using h4)
              have e5 : (rdBody b.toNat (num r).1 (rest r)).2.2 = [] := by simpa using h5
              rw [e5, List.append_nil] at e1
              refine ⟨by omega, ?_, by rw [e2]; omega, e3⟩
              unfold enc
              rw [e2, ← e1, ← splitU (by simpa using h2)]
              simp
end Go.Proofs.Ytfkdkdkdpenblaa.Tx

namespace Go.Proofs.Ytfkdkdkdpenblaa
open Go.RowKit
/-- A string of a list as a cell. -/
def Tx.sv (L : List Tx.Str) (i : Nat) : Value := .string (Ty.S (L.getD i []))
/-- The strings L lie one behind the other below block B. -/
structure Tx.At (B : Nat) (w : World) (v : Value) (L : List Tx.Str) : Prop where
  is : ∃ a c, v = .slice a L.length c ∧ L.length ≤ c ∧ B ≤ w.heap.size ∧ ((L = [] ∧ (a = none → c = 0)) ∨ ∃ b o, a = some ⟨b, o, none⟩ ∧ b < B ∧ ∀ i, i < L.length → w.cell? ⟨b, o + i, none⟩ = some (Tx.sv L i))
theorem Tx.At.below {B : Nat} {w w' : World} {v : Value} {L : List Tx.Str} (h : Tx.At B w v L) (g : Below B w w') : Tx.At B w' v L := by
  obtain ⟨a, c, rfl, hc, hB, h⟩ := h
  refine ⟨a, c, rfl, hc, Nat.le_trans hB g.size, ?_⟩
  rcases h with h | ⟨b, o, rfl, hlt, h⟩
  · exact .inl h
  · exact .inr ⟨b, o, rfl, hlt, fun i hi => (g.cell (p := ⟨b, o + i, none⟩) hlt).trans (h i hi)⟩
theorem Tx.At.mono {B B' : Nat} {w : World} {v : Value} {L : List Tx.Str} (h : Tx.At B w v L) (h1 : B ≤ B') (h2 : B' ≤ w.heap.size) : Tx.At B' w v L := by
  obtain ⟨a, c, rfl, hc, hB, h⟩ := h
  refine ⟨a, c, rfl, hc, h2, ?_⟩
  rcases h with h | ⟨b, o, rfl, hlt, h⟩
  · exact .inl h
  · exact .inr ⟨b, o, rfl, by omega, h⟩
theorem Tx.At.nil (w : World) : Tx.At w.heap.size w (.slice none 0 0) [] := ⟨_, _, rfl, Nat.le_refl _, Nat.le_refl _, .inl ⟨rfl, fun _ => rfl⟩⟩
theorem Tx.S_size (t : Tx.Str) : (Ty.S t).size = t.length := rfl
theorem Tx.S_toList (t : Tx.Str) : (Ty.S t).toList = t := by
  rw [ByteArray.toList_eq]
  rfl
theorem Tx.S_inj {a b : Tx.Str} (h : Ty.S a = Ty.S b) : a = b := by
  have := congrArg ByteArray.toList h
  rwa [Tx.S_toList, Tx.S_toList] at this
theorem Tx.S_yes (a : Tx.Str) : ((Ty.S a).toList == (Ty.S a).toList) = true := by rw [beq_iff_eq]
theorem Tx.S_no {a b : Tx.Str} (h : a ≠ b) : ((Ty.S a).toList == (Ty.S b).toList) = false := by
  rw [beq_eq_false_iff_ne, Tx.S_toList, Tx.S_toList]
  exact h
theorem Tx.cmp_lt (a b : Tx.Str) : decide (Kn.cmp ⟨false, 0, Ty.S a⟩ ⟨false, 0, Ty.S b⟩ < 0) = Tx.lt a b := by
  rw [Kn.ahead_is]
  simp only [Bool.false_eq_true, if_false, bne_self_eq_false]
  rw [Tx.S_toList, Tx.S_toList]
  rfl
/-- Where a string stands; -1: nowhere. -/
def Tx.posI (L : List Tx.Str) (t : Tx.Str) : Int := if t ∈ L then ((Tx.pos L t : Nat) : Int) else -1
theorem Tx.pos_le : ∀ (L : List Tx.Str) (t : Tx.Str) (k : Nat) (hk : k < L.length), L[k] = t → Tx.pos L t ≤ k
  | [], _, k, hk, _ => by simp at hk
  | a :: L, t, 0, _, e => by
    obtain rfl : a = t := e
    simp [Tx.pos]
  | a :: L, t, k + 1, hk, e => by
    have ih := Tx.pos_le L t k (by simpa using hk) (by simpa using e)
    unfold Tx.pos at ih ⊢
    rw [List.idxOf_cons]
    cases (a == t)
    · simpa using ih
    · simp
theorem Tx.posI_here {L : List Tx.Str} {t : Tx.Str} {k : Nat} (hk : k < L.length) (h : ∀ j, j < k → L.getD j [] ≠ t) (e : L.getD k [] = t) : Tx.posI L t = (k : Int) := by
  have hg : L[k] = t := by rw [← e, List.getD, List.getElem?_eq_getElem hk]; rfl
  have hm : t ∈ L := hg ▸ List.getElem_mem hk
  unfold Tx.posI
  rw [if_pos hm]
  have h1 := Tx.pos_get hm
  have h2 := Tx.pos_lt hm
  have h3 : ¬ Tx.pos L t < k := fun hc => h _ hc (by rw [List.getD, h1]; rfl)
  have h4 := Tx.pos_le L t k hk hg
  omega
theorem Tx.posI_none {L : List Tx.Str} {t : Tx.Str} (h : ∀ j, j < L.length → L.getD j [] ≠ t) : Tx.posI L t = -1 := by
  unfold Tx.posI
  rw [if_neg]
  intro hm
  obtain ⟨j, hj, e⟩ := List.getElem_of_mem hm
  exact h j hj (by rw [List.getD, List.getElem?_eq_getElem hj]; exact e)
theorem Tx.drewN_below (w : World) (n : Nat) : Below w.heap.size w (w.drewN n) := Bt.drewN_below w n
set_option maxHeartbeats 1000000 in
theorem Tx.same_c (v u : Value) (L : List Tx.Str) (w : World) (hv : Tx.At w.heap.size w v L) (hu : Tx.At w.heap.size w u L) (hn : L.length ≤ 140737488355328) :
    Calls Try.prog 21 #[v, u] w fun e w' => e = .returned (.bool true) ∧ Below w.heap.size w w' := by
  obtain ⟨a, c, rfl, _, _, h⟩ := hv
  obtain ⟨a2, c2, rfl, _, _, h2⟩ := hu
  have HH := Lib.hid h
  have HH2 := Lib.hid h2
  obtain ⟨n, hnn⟩ : ∃ n, n = L.length := ⟨_, rfl⟩
  rw [← hnn] at hn ⊢
  have HN := Lib.hid hnn
  have hz : ((n : Int) != (n : Int)) = false := by simp
  clear h h2 hnn
  go_enter Try.func21, Try.ntmps21
  go_wp2
  go_loopw [5] (fun i wr => ∃ k : Nat, k ≤ n ∧ i = .int .i64 k ∧ Below w.heap.size w wr) (fun i _ => n - (intOf i).toNat)
  case atStart => exact ⟨0, by omega, rfl, Below.refl _ _⟩
  case round =>
    obtain ⟨k, hk, rfl, hb⟩ := hrel
    have HB := Lib.hid hb
    by_cases hl : k < n
    · rcases HH.out with h | ⟨b, o, rfl, hlt, h⟩
      · exact absurd hl (by rw [HN.out, h.1]; simp)
      · rcases HH2.out with h2 | ⟨b2, o2, rfl, hlt2, h2⟩
        · exact absurd hl (by rw [HN.out, h2.1]; simp)
        · have hc := (hb.cell (p := ⟨b, o + k, none⟩) hlt).trans (h k (by rw [← HN.out]; exact hl))
          have hc2 := (hb.cell (p := ⟨b2, o2 + k, none⟩) hlt2).trans (h2 k (by rw [← HN.out]; exact hl))
          unfold Tx.sv at hc hc2
          have hx := Tx.S_yes (L.getD k [])
          generalize Ty.S (L.getD k []) = x at hc hc2 hx
          have dk : (k : Int) < (n : Int) := by omega
          have dk0 : (0 : Int) ≤ (k : Int) := by omega
          have dk2 : (k : Int) < 140737488355328 := by omega
          have HNN := Lib.hid hn
          clear h h2 hn hb
          go_wp2_with fail
          go_quiet (fail)
          go_wp2
          go_roundw
          case rel => exact ⟨k + 1, by omega, by simp, HB.out.trans ((Bt.drewN_below _ _).mono HB.out.size)⟩
          case measure => simp [intOf]; omega
    · obtain rfl : k = n := by omega
      have dk : ¬ (k : Int) < (k : Int) := by omega
      clear hb
      go_wp2
      go_ret
      exact ⟨rfl, HB.out⟩
end Go.Proofs.Ytfkdkdkdpenblaa

namespace Go.Proofs.Ytfkdkdkdpenblaa
open Go.RowKit
theorem Tx.infoS : (Try.prog.info? 9).map (fun i => (i.zero, i.size, i.bytes)) = some (some (.string ⟨#[]⟩), 1, 16) := by kernel_rfl
theorem Ig.below_reg {w w' : World} (h : ∃ p : Regrown, w' = Sort.grow (redrawn w p.d) p.os) : Below w.heap.size w w' := by
  obtain ⟨p, rfl⟩ := h
  exact below_regrown w p.d p.os
/-- A slice of strings that a call owns. -/
def Tx.Own (base : Nat) (w : World) (v : Value) (L : List Tx.Str) : Prop := Bt.Buf 9 base w v L.length (Tx.sv L)
theorem Tx.Own.nil (base : Nat) (w : World) : Tx.Own base w (.slice none 0 0) [] := Bt.Buf.nil _ _ _ _
theorem Tx.sv_left (M R : List Tx.Str) {i : Nat} (h : i < M.length) : Tx.sv (M ++ R) i = Tx.sv M i := by
  unfold Tx.sv
  rw [List.getD, List.getD, List.getElem?_append_left h]
theorem Tx.sv_right (M R : List Tx.Str) (i : Nat) : Tx.sv (M ++ R) (M.length + i) = Tx.sv R i := by
  unfold Tx.sv
  have e : M.length + i - M.length = i := by omega
  rw [List.getD, List.getD, List.getElem?_append_right (by omega), e]
theorem Tx.sv_drop (M : List Tx.Str) (k i : Nat) : Tx.sv (M.drop k) i = Tx.sv M (k + i) := by
  unfold Tx.sv
  rw [List.getD, List.getD, List.getElem?_drop]
theorem Tx.sv_take (M : List Tx.Str) {k i : Nat} (h : i < k) : Tx.sv (M.take k) i = Tx.sv M i := by
  unfold Tx.sv
  rw [List.getD, List.getD, List.getElem?_take, if_pos h]
theorem Tx.Own.pre {base : Nat} {w : World} {v : Value} {M : List Tx.Str} (h : Tx.Own base w v M) (x : Tx.Str) : Bt.Buf 9 base w v M.length (Tx.sv (M ++ [x])) :=
  Bt.Buf.congr h fun i hi => by rw [Tx.sv_left M [x] hi]
theorem Tx.Own.post {base : Nat} {w : World} {v : Value} {M : List Tx.Str} {x : Tx.Str} (h : Bt.Buf 9 base w v (M.length + 1) (Tx.sv (M ++ [x]))) : Tx.Own base w v (M ++ [x]) := by
  unfold Tx.Own
  rw [List.length_append, List.length_singleton]
  exact h
theorem Tx.sv_snoc (M : List Tx.Str) (x : Tx.Str) : Value.string (Ty.S x) = Tx.sv (M ++ [x]) M.length := by
  have := Tx.sv_right M [x] 0
  rw [Nat.add_zero] at this
  rw [this]
  rfl
theorem Tx.Own.at {base : Nat} {w : World} {v : Value} {L : List Tx.Str} (h : Tx.Own base w v L) : Tx.At w.heap.size w v L := by
  have hs := Bt.Buf.sl h
  obtain ⟨a, c, rfl, h1⟩ := hs
  have hc : L.length ≤ c ∧ (a = none → c = 0) := by
    rcases h.2 with ⟨e, e0⟩ | ⟨g, cap, cur, e, _, _, hcap, _⟩
    · simp only [Value.slice.injEq] at e
      exact ⟨by omega, fun _ => by omega⟩
    · simp only [Value.slice.injEq] at e
      exact ⟨by omega, fun e2 => by rw [e2] at e; exact absurd e.1 (by simp)⟩
  refine ⟨a, c, rfl, hc.1, Nat.le_refl _, ?_⟩
  rcases h1 with h1 | h1
  · exact .inl ⟨List.eq_nil_of_length_eq_zero h1, hc.2⟩
  · exact .inr h1
/-- The strings K can be read off this slice. -/
def Tx.Src (w : World) (u : Value) (K : List Tx.Str) : Prop := (u = .slice none 0 0 ∧ K = []) ∨ ∃ ad c, u = .slice (some ad) K.length c ∧ ∀ i, i < K.length → w.cell? (ad.add i) = some (Tx.sv K i)
theorem Tx.addr_add (b o i : Nat) : (⟨b, o, none⟩ : Addr).add i = ⟨b, o + i, none⟩ := by unfold Addr.add; split <;> simp_all
theorem Tx.Own.form {base : Nat} {w : World} {v : Value} {L : List Tx.Str} (h : Tx.Own base w v L) : (v = .slice none 0 0 ∧ L = []) ∨ ∃ g c, v = .slice (some ⟨g, 0, none⟩) L.length c ∧ L.length ≤ c ∧ g < w.heap.size ∧ ∀ i, i < L.length → w.cell? ⟨g, i, none⟩ = some (Tx.sv L i) := by
  rcases h.2 with ⟨e, e0⟩ | ⟨g, cap, cur, e, _, hgg, hcap, _⟩
  · exact .inl ⟨e, List.eq_nil_of_length_eq_zero e0⟩
  · refine .inr ⟨g, cap, e, hcap, (Array.getElem?_eq_some_iff.1 hgg).1, fun i hi => ?_⟩
    have := h.cells (g := g) (by rw [e]; rfl) i (Tx.sv L i) (by simp [hi])
    rwa [Tx.addr_add, Nat.zero_add] at this
set_option maxRecDepth 100000 in
/-- Many values appended. -/
theorem Tx.append_more {base : Nat} {w0 : World} {v : Value} {M K : List Tx.Str} (hown : Tx.Own base w0 v M) (hb : base ≤ w0.heap.size) (hl : (M.length + K.length) * 16 ≤ 140737488355328) {u : Value} (hu : Tx.Src w0 u K) (ty : TypeId) :
    ∃ v' w', (Builtin.append_ #[39, 39] ty #[v, u]).run Try.prog w0 = .ok v' w' ∧ Tx.Own base w' v' (M ++ K) ∧ Ty.Grew w0 w' v v' := by
  obtain ⟨i0, hi, hz0, hz1, hz2⟩ := info_parts Tx.infoS
  rcases hu with ⟨rfl, rfl⟩ | ⟨ad, c, rfl, hK⟩
  · exact ⟨v, w0, run_append_owned_none (P := Try.prog) w0 base 39 ty 9 i0 1 Try.underlying39 hi v _ _ hown, by rw [List.append_nil]; exact hown, Ty.Grew.refl _ _⟩
  · obtain ⟨v', w', hr, h1, h2⟩ := Ty.append_tight (P := Try.prog) w0 base 39 ty 9 i0 _ 1 16 Try.underlying39 hi hz0 hz1 hz2 rfl (by decide) v M.length ((List.range M.length).map (Tx.sv M)) hown ad K.length c ((List.range K.length).map (Tx.sv K)) (by simp) (fun j u hj => by
      have hjl : j < K.length := by
        rcases Nat.lt_or_ge j K.length with h3 | h3
        · exact h3
        · rw [List.getElem?_eq_none (by simpa using h3)] at hj
          cases hj
      have e : u = Tx.sv K j := by
        rw [List.getElem?_map, List.getElem?_range hjl] at hj
        exact (Option.some.inj hj).symm
      rw [e]
      exact hK j hjl) (fun u hu => by
      obtain ⟨i, _, rfl⟩ := List.mem_map.1 hu
      rfl) (by unfold maxLen; omega) hl hb
    refine ⟨v', w', hr, ?_, h2⟩
    unfold Tx.Own Bt.Buf
    rw [List.length_append]
    have e : (List.range (M.length + K.length)).map (Tx.sv (M ++ K)) = (List.range M.length).map (Tx.sv M) ++ (List.range K.length).map (Tx.sv K) := by
      rw [List.range_add, List.map_append, List.map_map]
      congr 1
      · exact List.map_congr_left fun i hi => Tx.sv_left M K (List.mem_range.1 hi)
      · exact List.map_congr_left fun i _ => Tx.sv_right M K i
    rw [e]
    exact h1
theorem Tx.grew_below {wo w w' : World} {v v' : Value} {L : List Tx.Str} (hb : Below wo.heap.size wo w) (ho : Tx.Own wo.heap.size w v L) (g : Ty.Grew w w' v v') : Below wo.heap.size wo w' :=
  hb.trans (g.below hb.size (Bt.Buf.base_le ho))
theorem Tx.cell_kept {w w' : World} {v' : Value} (g : Ty.Grew w w' (.slice none 0 0) v') {a : Addr} {x : Value} (h : w.cell? a = some x) : w'.cell? a = some x := by
  have hb : Below w.heap.size w w' := g.below (Nat.le_refl _) (fun k hk => by cases hk)
  exact (hb.cell (World.block_lt_of_cell? w _ h)).trans h
/-- At a step of a region that draws its order. -/
theorem Tx.step_append_more {wo w0 : World} {v : Value} {M K : List Tx.Str} (hbW : Below wo.heap.size wo w0) (hown : Tx.Own wo.heap.size w0 v M) (hl : (M.length + K.length) * 16 ≤ 140737488355328)
    {ops : Array Oper} {o : Oper} {a : Act} {Kx : Act → World → Prop} {Q : Exit → Act → World → Prop} {E : Prop} (s x : Operand) (u : Value) (hgd : o.guard = none)
    (ho : o.op = .call { callee := .builtin .append, args := #[s, x], argTypes := #[39, 39] })
    (hs : a.eval s = v) (hx : a.eval x = u) (hu : Tx.Src w0 u K)
    (h : ∀ v' w', Tx.Own wo.heap.size w' v' (M ++ K) → Below wo.heap.size wo w' → Ty.Grew w0 w' v v' → Kx (a.put o.dst v') w') :
    if Region.wanted o (yielded ops a.tmps) = true then Oper.wp Try.prog o a w0 Kx Q else E := by
  have hw : Region.wanted o (yielded ops a.tmps) = true := by simp [Region.wanted, hgd]
  rw [if_pos hw]
  obtain ⟨v', w', hr, h2, h3⟩ := Tx.append_more hown hbW.size hl hu o.type
  unfold Oper.wp execOp
  simp only [ho, resolve, invoke, builtin, Sem.run_bind, Sem.run_pure, Result.andThen_ok, List.map_toArray, List.map_cons, List.map_nil, hs, hx, hr]
  exact h v' w' h2 (Tx.grew_below hbW hown h3) h3
/-- Many values appended: the walk's law. -/
theorem Tx.wpList_append_more {base : Nat} {w0 : World} {v : Value} {M K : List Tx.Str} (hown : Tx.Own base w0 v M) (hb : base ≤ w0.heap.size) (hl : (M.length + K.length) * 16 ≤ 140737488355328)
    {ops : Array Oper} {rest : List Oper} {o : Oper} {a : Act} {Q : Exit → Act → World → Prop} (s x : Operand) (u : Value) (hgd : o.guard = none)
    (ho : o.op = .call { callee := .builtin .append, args := #[s, x], argTypes := #[39, 39] })
    (hs : a.eval s = v) (hx : a.eval x = u) (hu : Tx.Src w0 u K)
    (h : ∀ v' w', Tx.Own base w' v' (M ++ K) → Ty.Grew w0 w' v v' → wpList Try.prog ops Q rest (a.put o.dst v') w') :
    wpList Try.prog ops Q (o :: rest) a w0 := by
  refine wpList_plain hgd fun Kx hKx => ?_
  obtain ⟨v', w', hr, h2, h3⟩ := Tx.append_more hown hb hl hu o.type
  unfold Oper.wp execOp
  simp only [ho, resolve, invoke, builtin, Sem.run_bind, Sem.run_pure, Result.andThen_ok, List.map_toArray, List.map_cons, List.map_nil, hs, hx, hr]
  exact hKx _ _ (h v' w' h2 h3)
theorem Tx.src_take {w W : World} {D : List Tx.Str} {b q : Nat} (hlt : b < w.heap.size) (hc : ∀ i, i < D.length → w.cell? ⟨b, i, none⟩ = some (Tx.sv D i)) (g : Below w.heap.size w W) (hq : q ≤ D.length) (c : Nat) : Tx.Src W (.slice (some ⟨b, 0, none⟩) q c) (D.take q) := by
  have hl : (D.take q).length = q := by rw [List.length_take]; omega
  refine .inr ⟨⟨b, 0, none⟩, c, by rw [hl], fun i hi => ?_⟩
  rw [hl] at hi
  rw [Tx.addr_add, Nat.zero_add, Tx.sv_take D hi]
  exact (g.cell (p := ⟨b, i, none⟩) hlt).trans (hc i (by omega))
theorem Tx.src_drop {w W : World} {D : List Tx.Str} {b q : Nat} (hlt : b < w.heap.size) (hc : ∀ i, i < D.length → w.cell? ⟨b, i, none⟩ = some (Tx.sv D i)) (g : Below w.heap.size w W) (hq : q ≤ D.length) (c : Nat) : Tx.Src W (.slice (some ⟨b, q, none⟩) (D.length - q) c) (D.drop q) := by
  have hl : (D.drop q).length = D.length - q := by rw [List.length_drop]
  refine .inr ⟨⟨b, q, none⟩, c, by rw [hl], fun i hi => ?_⟩
  rw [hl] at hi
  rw [Tx.addr_add, Tx.sv_drop]
  exact (g.cell (p := ⟨b, q + i, none⟩) hlt).trans (hc (q + i) (by omega))
theorem Tx.src_one {w : World} {b : Nat} {t : Tx.Str} (h : w.cell? ⟨b, 0, none⟩ = some (.string (Ty.S t))) (c : Nat) : Tx.Src w (.slice (some ⟨b, 0, none⟩) 1 c) [t] := by
  refine .inr ⟨⟨b, 0, none⟩, c, rfl, fun i hi => ?_⟩
  obtain rfl : i = 0 := by simpa using hi
  rw [Tx.addr_add]
  exact h
theorem Tx.Own.mono {B B' : Nat} {w : World} {v : Value} {L : List Tx.Str} (h : Tx.Own B w v L) (hB : B' ≤ B) : Tx.Own B' w v L := by
  refine ⟨h.1, ?_⟩
  rcases h.2 with hn | ⟨b, cap, cur, rfl, hbb, rest⟩
  · exact .inl hn
  · exact .inr ⟨b, cap, cur, rfl, by omega, rest⟩
/-- A string is laid in where those ahead of it end. -/
theorem Tx.ins_at (t : Tx.Str) : ∀ (d : List Tx.Str) (k : Nat), t ∉ d → k ≤ d.length → (∀ i, i < k → Tx.lt (d.getD i []) t = true) → (k < d.length → Tx.lt (d.getD k []) t = false) → Tx.ins t d = d.take k ++ t :: d.drop k
  | [], k, _, hk, _, _ => by
    obtain rfl : k = 0 := by simpa using hk
    rfl
  | a :: d, 0, hm, _, _, h0 => by
    have h1 : a ≠ t := fun e => hm (by rw [e]; simp)
    have h2 : Tx.lt a t = false := h0 (by simp)
    unfold Tx.ins
    rw [if_neg h1, h2]
    rfl
  | a :: d, k + 1, hm, hk, hb, h0 => by
    have h1 : a ≠ t := fun e => hm (by rw [e]; simp)
    have h2 : Tx.lt a t = true := hb 0 (by omega)
    unfold Tx.ins
    rw [if_neg h1, if_pos h2, Tx.ins_at t d k (fun h => hm (by simp [h])) (by simpa using hk) (fun i hi => hb (i + 1) (by omega)) (fun h => h0 (by simpa using h))]
    rfl
theorem Tx.ins_in (t : Tx.Str) : ∀ (d : List Tx.Str) (p : Option Tx.Str), Tx.Asc p d → t ∈ d → Tx.ins t d = d
  | [], _, _, h => by cases h
  | a :: d, p, ha, h => by
    unfold Tx.ins
    by_cases h1 : a = t
    · rw [if_pos h1]
    · have hm : t ∈ d := by
        rcases List.mem_cons.1 h with e | e
        · exact absurd e.symm h1
        · exact e
      have h2 := Tx.asc_all d (some a) ha.2 a rfl t hm
      rw [if_neg h1, if_pos h2, Tx.ins_in t d (some a) ha.2 hm]
theorem Tx.dict_step (L : List Tx.Str) (k : Nat) (h : k < L.length) : Tx.dict (L.take (k + 1)) = Tx.ins (L.getD k []) (Tx.dict (L.take k)) := by
  unfold Tx.dict
  rw [List.take_succ_eq_append_getElem h, List.foldl_append, List.getD, List.getElem?_eq_getElem h]
  rfl
end Go.Proofs.Ytfkdkdkdpenblaa

namespace Go.Proofs.Ytfkdkdkdpenblaa
open Go.RowKit Go.ChangeShapes Go.WideShapes Go.ChangeAt Go.Deep
section
variable {H : Type} {enc : TypeId × Value → H} {W : World}
theorem Bt.bulk_len (l : List (DataW H)) : l.length ≤ Rows.uptoBulkAll l := by
  induction l with
  | nil => simp [Rows.uptoBulkAll]
  | cons x r ih =>
    have h1 : 1 ≤ Rows.uptoBulk x := by
      cases x with
      | lit l => cases l <;> simp [Rows.uptoBulk]
      | nil => simp [Rows.uptoBulk]
      | ptr d => simp [Rows.uptoBulk]
      | slice elems spare => simp [Rows.uptoBulk]
      | agg parts => simp [Rows.uptoBulk]
      | iface t d => simp [Rows.uptoBulk]
      | map entries => simp [Rows.uptoBulk]
      | held h => simp [Rows.uptoBulk]
    simp only [Rows.uptoBulkAll, List.length_cons]
    omega
/-- What a slice of so many elements is. -/
def Bt.Long (d : DataW H) (n : Nat) : Prop := d = .nil ∧ n = 0 ∨ ∃ es sp, d = .slice es sp ∧ n ≤ es.length
theorem Bt.Long.bulk {d : DataW H} {n : Nat} (h : Bt.Long d n) : n ≤ Rows.uptoBulk d := by
  rcases h with ⟨rfl, rfl⟩ | ⟨es, sp, rfl, h⟩
  · omega
  · have := Bt.bulk_len es
    simp only [Rows.uptoBulk]
    omega
/-- The cells of a slice of one cell each. -/
theorem Bt.sl_of {a : Addr} {len cap : Nat} {f : Nat → Value} (hf : ∀ i, i < len → W.cell? (a.add i) = some (f i)) : Bt.Sl W (.slice (some a) len cap) len f := by
  by_cases hz : len = 0
  · exact ⟨_, cap, rfl, .inl hz⟩
  · obtain ⟨b, off, spot⟩ := a
    have h0 := hf 0 (by omega)
    have hspot : spot = none := by simpa [Addr.add] using World.cell?_spot h0
    subst hspot
    have hlt : b < W.heap.size := by
      have := World.block_lt_of_cell? W _ h0
      simpa [Addr.add] using this
    refine ⟨_, cap, rfl, .inr ⟨b, off, rfl, hlt, fun i hi => ?_⟩⟩
    have := hf i hi
    rwa [add_plain] at this
theorem Bt.sized {ts : List TypeId} {ds : List (DataW H)} (h : (DataW.weightsEach Try.prog ts ds).all (· ≤ reachBytes) = true) {j n : Nat} {t e : TypeId} {d : DataW H} (ht : ts[j]? = some t) (hd : ds[j]? = some d) (hu : Try.prog.underlying t = some (.slice e)) (hl : Bt.Long d n) : n * Try.prog.bytesOf e ≤ 140737488351232 := by
  rcases hl with ⟨rfl, rfl⟩ | ⟨es, sp, rfl, hn⟩
  · omega
  · have := sized_slice h ht hd hu
    unfold reachBytes at this
    have h2 : n * Try.prog.bytesOf e ≤ (es.length + sp.length) * Try.prog.bytesOf e := Nat.mul_le_mul_right _ (by omega)
    omega
end
end Go.Proofs.Ytfkdkdkdpenblaa

namespace Go.Proofs.Ytfkdkdkdpenblaa
open Go.RowKit Go.ChangeShapes Go.WideShapes Go.ChangeAt Go.Deep
open Ig (nth)
section
variable {H : Type} {enc : TypeId × Value → H} {W : World}
theorem Ig.nth_take (zs : List Int) (len i : Nat) (h : i < len) : nth (zs.take len) i = zs.getD i 0 := by
  unfold nth
  rw [List.getD, List.getD, List.getElem?_take_of_lt h]
end
end Go.Proofs.Ytfkdkdkdpenblaa

namespace Go.Proofs.Ytfkdkdkdpenblaa
open Go.RowKit Go.ChangeShapes Go.WideShapes Go.ChangeAt Go.Deep
section
variable {H : Type} {enc : TypeId × Value → H} {W : World}
/-- A slice of strings. -/
theorem Tx.opened {a0 : Option Addr} {len cap : Nat} {d : DataW H} {ps : List MemPlace} (h : DataW.Trod enc Try.prog W 0 (fun _ => true) true 39 (.slice a0 len cap) d ps) :
    ∃ L : List Tx.Str, L.length = len ∧ Tx.At W.heap.size W (.slice a0 len cap) L ∧ Bt.Long d len := by
  obtain ⟨fuel, hf⟩ := h
  have hC : Try.prog.cellsOf 9 = 1 := by kernel_rfl
  rcases open_slice Try.underlying39 hf with ⟨hcs, hx⟩ | ⟨a, len', cap', m, n, D, Pl, hcs, _, hl, hm, hmm, hx, hi⟩
  · have hv : Value.slice a0 len cap = .slice none 0 0 := by simpa [Value.cells] using hcs
    simp only [Value.slice.injEq] at hv
    obtain ⟨rfl, rfl, rfl⟩ := hv
    simp only [Prod.mk.injEq] at hx
    exact ⟨[], rfl, Tx.At.nil W, .inl ⟨hx.1, rfl⟩⟩
  · have hv : Value.slice a0 len cap = .slice (some a) len' cap' := by simpa [Value.cells] using hcs
    simp only [Value.slice.injEq] at hv
    obtain ⟨rfl, rfl, rfl⟩ := hv
    simp only [if_true] at hmm
    have hlong : Bt.Long d len := by
      simp only [Prod.mk.injEq] at hx
      refine .inr ⟨_, _, hx.1, ?_⟩
      simp
    rw [hC] at hi
    have hone : ∀ i, i < len → ∃ x : Tx.Str, W.cell? (a.add i) = some (.string (Ty.S x)) := fun i hil => by
      obtain ⟨cs', hc, ht⟩ := hi i (by omega)
      obtain ⟨hcl, _, hat⟩ := World.cells?_some hc
      match cs', hcl with
      | [c0], _ =>
        obtain ⟨s, e2, _, _⟩ := DataW.trod_string Try.underlying9 ht
        simp only [List.cons.injEq, and_true] at e2
        subst e2
        have a0 := hat 0 (by omega)
        rw [add_add] at a0
        simp only [Nat.mul_one, Nat.add_zero] at a0
        exact ⟨s.data.toList, a0⟩
    have hch : ∃ L : List Tx.Str, L.length = len ∧ ∀ i, i < len → W.cell? (a.add i) = some (Tx.sv L i) := by
      refine ⟨(List.range len).map fun i => if hil : i < len then (hone i hil).choose else [], by simp, fun i hil => ?_⟩
      have hs := (hone i hil).choose_spec
      unfold Tx.sv
      rw [List.getD, List.getElem?_map, List.getElem?_range hil]
      simp only [Option.map_some, Option.getD_some, dif_pos hil]
      exact hs
    obtain ⟨L, hLl, hL⟩ := hch
    have hsl := Bt.sl_of (W := W) (a := a) (len := len) (cap := cap) (f := Tx.sv L) hL
    refine ⟨L, hLl, ?_, hlong⟩
    obtain ⟨a2, c2, e, h2⟩ := hsl
    simp only [Value.slice.injEq] at e
    obtain ⟨rfl, _, rfl⟩ := e
    refine ⟨_, cap, by rw [hLl], by omega, Nat.le_refl _, ?_⟩
    rcases h2 with h2 | ⟨b, o, e2, hlt, h2⟩
    · exact .inl ⟨List.eq_nil_of_length_eq_zero (by omega), fun e => by cases e⟩
    · exact .inr ⟨b, o, e2, hlt, fun i hi => h2 i (by omega)⟩
end
end Go.Proofs.Ytfkdkdkdpenblaa
