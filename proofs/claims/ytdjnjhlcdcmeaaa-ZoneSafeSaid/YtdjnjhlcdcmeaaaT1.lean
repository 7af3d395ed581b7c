/-
  The plain mathematics of package texts: the two encodings of a column of strings, what is read of bytes, there and back, in one way. No program.
-/
import Derived.Test.YtdjnjhlcdcmeaaaI1
import Derived.Test.YtdjnjhlcdcmeaaaK1
namespace Go.Proofs.Ytdjnjhlcdcmeaaa.Tx
open Go Go.RowKit
open Ty (num encU txt U64)
open Ig (rest read_encU splitU un)
abbrev Str := List UInt8
/-- A string's bytes. -/
def encT (t : Str) : List UInt8 := encU t.length ++ t
/-- What is left behind a string. -/
def restT (l : List UInt8) : List UInt8 := l.drop (txt l 64).2.1
theorem read_encT (t : Str) (h : t.length ≤ 64) (r : List UInt8) : (txt (encT t ++ r) 64).2.2 = 0 ∧ (txt (encT t ++ r) 64).1 = t ∧ restT (encT t ++ r) = r := by
  have e : num (encT t ++ r) = (t.length, (encU t.length).length, 0) := by
    unfold encT
    rw [List.append_assoc]
    exact Ty.num_encU _ (by unfold U64; omega) _
  have e0 : (num (encT t ++ r)).2.2 = 0 := by rw [e]
  have e1 : (num (encT t ++ r)).1 = t.length := by rw [e]
  have e2 : (num (encT t ++ r)).2.1 = (encU t.length).length := by rw [e]
  have hl : (encT t ++ r).length = (encU t.length).length + (t.length + r.length) := by simp [encT]
  have hw := Ty.txt_whole (most := 64) e0 (by rw [e1]; omega) (by rw [e1, e2, hl]; omega)
  have hd : (encT t ++ r).drop (encU t.length).length = t ++ r := by simp [encT]
  refine ⟨by rw [hw], by rw [hw, e1, e2, hd]; simp, ?_⟩
  unfold restT
  rw [hw, e1, e2, ← List.drop_drop, hd]
  simp
theorem splitT {l : List UInt8} (h : (txt l 64).2.2 = 0) : l = encT (txt l 64).1 ++ restT l ∧ (txt l 64).1.length ≤ 64 := by
  have h1 : (num l).2.2 = 0 := by
    rcases Nat.eq_zero_or_pos (num l).2.2 with h1 | h1
    · exact h1
    · rw [Ty.txt_bad (by omega)] at h
      exact h
  by_cases h2 : (64 : Int) < 0 ∨ (64 : Int) < ((num l).1 : Int)
  · rw [Ty.txt_long h1 h2] at h
    cases h
  · by_cases h3 : l.length - (num l).2.1 < (num l).1
    · rw [Ty.txt_short h1 h2 h3] at h
      cases h
    · have hw := Ty.txt_whole h1 h2 h3
      have hs := Ty.encU_num l h1
      have hlen : ((l.drop (num l).2.1).take (num l).1).length = (num l).1 := by
        rw [List.length_take, List.length_drop]; omega
      unfold restT
      rw [hw]
      refine ⟨?_, by rw [hlen]; omega⟩
      unfold encT
      rw [hlen, hs.1, ← List.drop_drop, List.append_assoc, List.take_append_drop, List.take_append_drop]
/-- One string is ahead of another. -/
def lt (a b : Str) : Bool := Op.bytesLess a b
/-- Strictly ascending, from behind p on. -/
def Asc : Option Str → List Str → Prop
  | _, [] => True
  | p, a :: d => (∀ q, p = some q → lt q a = true) ∧ Asc (some a) d
theorem asc_all : ∀ (d : List Str) (p : Option Str), Asc p d → ∀ q, p = some q → ∀ x ∈ d, lt q x = true
  | [], _, _, _, _, x, hx => by cases hx
  | a :: d, p, h, q, hq, x, hx => by
    have h1 := h.1 q hq
    rcases List.mem_cons.1 hx with rfl | hx
    · exact h1
    · exact Kn.bl_trans q a x h1 (asc_all d (some a) h.2 a rfl x hx)
theorem asc_weak : ∀ (d : List Str) (p : Option Str), Asc p d → Asc none d
  | [], _, _ => trivial
  | a :: d, _, h => ⟨(fun q hq => by cases hq), h.2⟩
/-- A string laid into an ascending list. -/
def ins (t : Str) : List Str → List Str
  | [] => [t]
  | a :: d => if a = t then a :: d else if lt a t = true then a :: ins t d else t :: a :: d
def dict (L : List Str) : List Str := L.foldl (fun d t => ins t d) []
theorem ins_mem (t : Str) : ∀ (d : List Str) (x : Str), x ∈ ins t d ↔ x = t ∨ x ∈ d
  | [], x => by simp [ins]
  | a :: d, x => by
    unfold ins
    by_cases h1 : a = t
    · subst h1
      rw [if_pos rfl]
      simp
    · rw [if_neg h1]
      by_cases h2 : lt a t = true
      · rw [if_pos h2, List.mem_cons, ins_mem t d x, List.mem_cons]
        constructor
        · rintro (h | h | h)
          · exact .inr (.inl h)
          · exact .inl h
          · exact .inr (.inr h)
        · rintro (h | h | h)
          · exact .inr (.inl h)
          · exact .inl h
          · exact .inr (.inr h)
      · rw [if_neg h2]
        simp
theorem ins_asc (t : Str) : ∀ (d : List Str) (p : Option Str), Asc p d → (∀ q, p = some q → lt q t = true) → Asc p (ins t d)
  | [], p, _, hp => ⟨hp, trivial⟩
  | a :: d, p, h, hp => by
    unfold ins
    by_cases h1 : a = t
    · rw [if_pos h1]; exact h
    · rw [if_neg h1]
      by_cases h2 : lt a t = true
      · rw [if_pos h2]
        exact ⟨h.1, ins_asc t d (some a) h.2 fun q hq => by cases hq; exact h2⟩
      · rw [if_neg h2]
        refine ⟨hp, fun q hq => ?_, h.2⟩
        cases hq
        rcases Kn.bl_total a t with h3 | h3 | h3
        · exact absurd h3 h2
        · exact absurd h3 h1
        · exact h3
theorem fold_asc (L : List Str) : ∀ d, Asc none d → Asc none (L.foldl (fun d t => ins t d) d) := by
  induction L with
  | nil => intro d h; exact h
  | cons t L ih => intro d h; exact ih _ (ins_asc t d none h fun q hq => by cases hq)
theorem fold_mem (L : List Str) : ∀ d x, x ∈ L.foldl (fun d t => ins t d) d ↔ x ∈ L ∨ x ∈ d := by
  induction L with
  | nil => intro d x; simp
  | cons t L ih =>
    intro d x
    simp only [List.foldl_cons]
    rw [ih, ins_mem, List.mem_cons]
    constructor
    · rintro (h | h | h)
      · exact .inl (.inr h)
      · exact .inl (.inl h)
      · exact .inr h
    · rintro ((h | h) | h)
      · exact .inr (.inl h)
      · exact .inl h
      · exact .inr (.inr h)
theorem dict_asc (L : List Str) : Asc none (dict L) := fold_asc L [] trivial
theorem dict_mem (L : List Str) (x : Str) : x ∈ dict L ↔ x ∈ L := by
  unfold dict
  rw [fold_mem]
  simp
/-- Ascending lists of the same strings are the same. -/
theorem asc_same : ∀ (d e : List Str) (p q : Option Str), Asc p d → Asc q e → (∀ x, x ∈ d ↔ x ∈ e) → d = e
  | [], [], _, _, _, _, _ => rfl
  | [], b :: e, _, _, _, _, h => by have := (h b).2 (by simp); cases this
  | a :: d, [], _, _, _, _, h => by have := (h a).1 (by simp); cases this
  | a :: d, b :: e, p, q, hd, he, h => by
    have h1 := asc_all d (some a) hd.2 a rfl
    have h2 := asc_all e (some b) he.2 b rfl
    have hab : a = b := by
      have ha := (h a).1 (by simp)
      have hb := (h b).2 (by simp)
      rcases List.mem_cons.1 ha with e1 | ha
      · exact e1
      · rcases List.mem_cons.1 hb with e1 | hb
        · exact e1.symm
        · have k1 := h2 a ha
          have k2 := h1 b hb
          have := Kn.bl_asymm b a k1
          have k3 : lt a b = false := this
          rw [k2] at k3
          cases k3
    subst hab
    rw [asc_same d e (some a) (some a) hd.2 he.2 fun x => ?_]
    constructor
    · intro hx
      rcases List.mem_cons.1 ((h x).1 (List.mem_cons_of_mem _ hx)) with e1 | h3
      · have := h1 x hx
        rw [e1] at this
        have k : lt a a = false := Kn.bl_irrefl a
        rw [this] at k
        cases k
      · exact h3
    · intro hx
      rcases List.mem_cons.1 ((h x).2 (List.mem_cons_of_mem _ hx)) with e1 | h3
      · have := h2 x hx
        rw [e1] at this
        have k : lt a a = false := Kn.bl_irrefl a
        rw [this] at k
        cases k
      · exact h3
/-- Where a string stands. -/
def pos (d : List Str) (t : Str) : Nat := d.idxOf t
theorem pos_lt {d : List Str} {t : Str} (h : t ∈ d) : pos d t < d.length := List.idxOf_lt_length_of_mem h
theorem pos_get {d : List Str} {t : Str} (h : t ∈ d) : d[pos d t]? = some t := by
  rw [List.getElem?_eq_getElem (pos_lt h)]
  congr 1
  exact List.getElem_idxOf (pos_lt h)
/-- In an ascending list a string stands once. -/
theorem pos_at : ∀ (d : List Str) (p : Option Str), Asc p d → ∀ (i : Nat) (t : Str), d[i]? = some t → pos d t = i
  | [], _, _, i, t, h => by simp at h
  | a :: d, p, hd, 0, t, h => by
    obtain rfl : a = t := by simpa using h
    simp [pos]
  | a :: d, p, hd, i + 1, t, h => by
    have h' : d[i]? = some t := by simpa using h
    have hne : a ≠ t := by
      intro e
      subst e
      have := asc_all d (some a) hd.2 a rfl a (List.mem_of_getElem? h')
      have k : lt a a = false := Kn.bl_irrefl a
      rw [this] at k
      cases k
    have ih := pos_at d (some a) hd.2 i t h'
    unfold pos at ih ⊢
    rw [List.idxOf_cons]
    have hb : (a == t) = false := by simpa using hne
    rw [hb]
    simp [ih]
/-- So many strings, in order if asked. -/
def rdWords (ord : Bool) : Nat → Option Str → List UInt8 → Nat × List Str × List UInt8
  | 0, _, l => (0, [], l)
  | n + 1, p, l =>
    if (txt l 64).2.2 ≠ 0 then ((txt l 64).2.2, [], l)
    else if ord = true ∧ (p.any fun q => !lt q (txt l 64).1) = true then (4, [], l)
    else ((rdWords ord n (some (txt l 64).1) (restT l)).1, (txt l 64).1 :: (rdWords ord n (some (txt l 64).1) (restT l)).2.1, (rdWords ord n (some (txt l 64).1) (restT l)).2.2)
theorem rdWords_back (ord : Bool) : ∀ (L : List Str) (p : Option Str) (r : List UInt8), (∀ t ∈ L, t.length ≤ 64) → (ord = true → Asc p L) → rdWords ord L.length p (L.flatMap encT ++ r) = (0, L, r)
  | [], _, _, _, _ => rfl
  | t :: L, p, r, h, ha => by
    have e : (t :: L).flatMap encT ++ r = encT t ++ (L.flatMap encT ++ r) := by simp
    obtain ⟨a1, a2, a3⟩ := read_encT t (h t (by simp)) (L.flatMap encT ++ r)
    have hno : ¬ (ord = true ∧ (p.any fun q => !lt q t) = true) := by
      rintro ⟨h1, h2⟩
      cases p with
      | none => cases h2
      | some q =>
        have := (ha h1).1 q rfl
        simp [this] at h2
    rw [e]
    simp only [List.length_cons, rdWords]
    rw [if_neg (by rw [a1]; simp), a2, if_neg hno, a3, rdWords_back ord L (some t) r (fun y hy => h y (by simp [hy])) fun ho => (ha ho).2]
theorem rdWords_only (ord : Bool) : ∀ (n : Nat) (p : Option Str) (l : List UInt8), (rdWords ord n p l).1 = 0 → l = (rdWords ord n p l).2.1.flatMap encT ++ (rdWords ord n p l).2.2 ∧ (rdWords ord n p l).2.1.length = n ∧ (∀ t ∈ (rdWords ord n p l).2.1, t.length ≤ 64) ∧ (ord = true → Asc p (rdWords ord n p l).2.1)
  | 0, _, l, _ => ⟨rfl, rfl, (fun t ht => by cases ht), fun _ => trivial⟩
  | n + 1, p, l, h => by
    simp only [rdWords] at h ⊢
    by_cases h1 : (txt l 64).2.2 ≠ 0
    · rw [if_pos h1] at h
      exact absurd h h1
    · rw [if_neg h1] at h ⊢
      by_cases h2 : ord = true ∧ (p.any fun q => !lt q (txt l 64).1) = true
      · rw [if_pos h2] at h
        cases h
      · rw [if_neg h2] at h ⊢
        obtain ⟨e1, e2, e3, e4⟩ := rdWords_only ord n (some (txt l 64).1) (restT l) h
        obtain ⟨s1, s2⟩ := splitT (l := l) (by simpa using h1)
        refine ⟨?_, by simp [e2], fun t ht => ?_, fun ho => ⟨fun q hq => ?_, e4 ho⟩⟩
        · simp only [List.flatMap_cons, List.append_assoc]
          rw [← e1]
          exact s1
        · rcases List.mem_cons.1 ht with rfl | ht
          · exact s2
          · exact e3 t ht
        · subst hq
          cases hl : lt q (txt l 64).1 with
          | true => rfl
          | false => exact absurd ⟨ho, by simp [hl]⟩ h2
/-- The bytes of the indices. -/
def ix (d : List Str) (L : List Str) (i : Nat) : Nat := pos d (L.getD i [])
def encX (d L : List Str) : List UInt8 := UInt8.ofNat (Bt.wid L.length (ix d L)) :: (Bt.bytes (Bt.need (L.length * Bt.wid L.length (ix d L))) (Bt.pk L.length (ix d L) (Bt.wid L.length (ix d L)))).data.toList
/-- What is right of the indices. -/
def right (n w : Nat) (d : List Str) (X : Nat → Nat) : Bool := (List.range n).all (fun i => decide (X i < d.length)) && ((List.range d.length).all (fun j => (List.range n).any fun i => X i == j) && (Bt.wid n X == w))
def outs (n : Nat) (d : List Str) (X : Nat → Nat) : List Str := (List.range n).map fun i => d.getD (X i) []
/-- So many strings of a dictionary. -/
def rdPick (n : Nat) (d : List Str) (l : List UInt8) : Nat × List Str × List UInt8 :=
  match l with
  | [] => (2, [], l)
  | b :: r =>
    if 64 < b.toNat then (4, [], l)
    else if r.length < Bt.need (n * b.toNat) then (2, [], l)
    else if Bt.chk ⟨(r.take (Bt.need (n * b.toNat))).toArray⟩ (n * b.toNat) ≠ 0 then (Bt.chk ⟨(r.take (Bt.need (n * b.toNat))).toArray⟩ (n * b.toNat), [], l)
    else if right n b.toNat d (un ⟨(r.take (Bt.need (n * b.toNat))).toArray⟩ b.toNat) = true then (0, outs n d (un ⟨(r.take (Bt.need (n * b.toNat))).toArray⟩ b.toNat), r.drop (Bt.need (n * b.toNat)))
    else (4, [], l)
theorem right_congr {n w : Nat} {d : List Str} {X Y : Nat → Nat} (h : ∀ i, i < n → X i = Y i) : right n w d X = right n w d Y := by
  have e1 : (List.range n).all (fun i => decide (X i < d.length)) = (List.range n).all (fun i => decide (Y i < d.length)) := by
    rw [Bool.eq_iff_iff, List.all_eq_true, List.all_eq_true]
    constructor
    · intro g i hi; rw [← h i (List.mem_range.1 hi)]; exact g i hi
    · intro g i hi; rw [h i (List.mem_range.1 hi)]; exact g i hi
  have e2 : ∀ j, (List.range n).any (fun i => X i == j) = (List.range n).any (fun i => Y i == j) := by
    intro j
    rw [Bool.eq_iff_iff, List.any_eq_true, List.any_eq_true]
    constructor
    · rintro ⟨i, hi, e⟩; exact ⟨i, hi, by rw [← h i (List.mem_range.1 hi)]; exact e⟩
    · rintro ⟨i, hi, e⟩; exact ⟨i, hi, by rw [h i (List.mem_range.1 hi)]; exact e⟩
  have e3 : Bt.orN n X = Bt.orN n Y := by
    have : ∀ k, k ≤ n → Bt.orN k X = Bt.orN k Y := by
      intro k
      induction k with
      | zero => intro _; rfl
      | succ k ih => intro hk; simp only [Bt.orN]; rw [ih (by omega), h k (by omega)]
    exact this n (Nat.le_refl _)
  unfold right Bt.wid
  rw [e1, e3]
  simp only [e2]
theorem outs_congr {n : Nat} {d : List Str} {X Y : Nat → Nat} (h : ∀ i, i < n → X i = Y i) : outs n d X = outs n d Y := List.map_congr_left fun i hi => by rw [h i (List.mem_range.1 hi)]
theorem outs_ix (d L : List Str) (h : ∀ t ∈ L, t ∈ d) : outs L.length d (ix d L) = L := by
  unfold outs
  refine List.ext_getElem (by simp) fun i h1 h2 => ?_
  rw [List.getElem_map, List.getElem_range]
  have e : L.getD i [] = L[i] := by rw [List.getD, List.getElem?_eq_getElem h2]; rfl
  unfold ix
  rw [e, List.getD, pos_get (h _ (List.getElem_mem h2))]
  rfl
theorem ix_lt (d L : List Str) (h : ∀ t ∈ L, t ∈ d) (i : Nat) (hi : i < L.length) : ix d L i < d.length := by
  have e : L.getD i [] = L[i] := by rw [List.getD, List.getElem?_eq_getElem hi]; rfl
  unfold ix
  rw [e]
  exact pos_lt (h _ (List.getElem_mem hi))
theorem right_ix (d L : List Str) (p : Option Str) (hd : Asc p d) (h : ∀ t, t ∈ d ↔ t ∈ L) : right L.length (Bt.wid L.length (ix d L)) d (ix d L) = true := by
  unfold right
  simp only [Bool.and_eq_true, List.all_eq_true, List.mem_range, decide_eq_true_iff, beq_self_eq_true, and_true]
  refine ⟨fun i hi => ix_lt d L (fun t ht => (h t).2 ht) i hi, fun j hj => ?_⟩
  have hm := List.getElem?_eq_getElem hj
  obtain ⟨i, hi, e⟩ := List.getElem_of_mem ((h d[j]).1 (List.getElem_mem hj))
  refine List.any_eq_true.2 ⟨i, List.mem_range.2 hi, ?_⟩
  have e2 : L.getD i [] = d[j] := by rw [List.getD, List.getElem?_eq_getElem hi, Option.getD_some, e]
  unfold ix
  rw [e2, pos_at d p hd j _ hm]
  simp
theorem wid_ix (d L : List Str) (h : ∀ t ∈ L, t ∈ d) (hd : d.length ≤ 65536) : Bt.wid L.length (ix d L) ≤ 64 := by
  refine (Bt.wid_le _ _ _).2 fun i hi => ?_
  have := ix_lt d L h i hi
  omega
theorem rdPick_back (d L : List Str) (p : Option Str) (hd : Asc p d) (hl : d.length ≤ 65536) (h : ∀ t, t ∈ d ↔ t ∈ L) (r : List UInt8) : rdPick L.length d (encX d L ++ r) = (0, L, r) := by
  unfold encX
  have hm := fun t ht => (h t).2 ht
  have hw := wid_ix d L hm hl
  have hX := (Bt.wid_le L.length (ix d L) _).1 (Nat.le_refl _)
  have hg := right_ix d L p hd h
  have ho := outs_ix d L hm
  have hB := fun i hi => Bt.back (n := L.length) (X := ix d L) (i := i) hi (hX i hi)
  have hC := Bt.chk_pack L.length (ix d L) (Bt.wid L.length (ix d L))
  generalize Bt.wid L.length (ix d L) = w at hw hg hB hC ⊢
  have hsz := Bt.size_bytes (Bt.need (L.length * w)) (Bt.pk L.length (ix d L) w)
  generalize Bt.bytes (Bt.need (L.length * w)) (Bt.pk L.length (ix d L) w) = s at hB hC hsz ⊢
  have hwn : (UInt8.ofNat w).toNat = w := by simp [UInt8.toNat_ofNat']; omega
  have hlen := Bt.length_data s
  have et : (s.data.toList ++ r).take (Bt.need (L.length * w)) = s.data.toList := by
    rw [← hsz, ← hlen]; simp
  have ed : (s.data.toList ++ r).drop (Bt.need (L.length * w)) = r := by
    rw [← hsz, ← hlen]; simp
  have es : (⟨s.data.toList.toArray⟩ : ByteArray) = s := rfl
  have hc : ∀ i, i < L.length → un s w i = ix d L i := fun i hi => hB i hi
  unfold rdPick
  simp only [List.cons_append, hwn]
  rw [if_neg (by omega), if_neg (by rw [List.length_append, hlen, hsz]; omega), et, ed, es, if_neg (by rw [hC]; simp), right_congr hc, if_pos hg, outs_congr hc, ho]
theorem rdPick_only (n : Nat) (d : List Str) (p : Option Str) (hd : Asc p d) (l : List UInt8) (h : (rdPick n d l).1 = 0) : l = encX d (rdPick n d l).2.1 ++ (rdPick n d l).2.2 ∧ (rdPick n d l).2.1.length = n ∧ ∀ t, t ∈ d ↔ t ∈ (rdPick n d l).2.1 := by
  unfold rdPick at h ⊢
  cases l with
  | nil => cases h
  | cons b r =>
    simp only at h ⊢
    by_cases h2 : 64 < b.toNat
    · rw [if_pos h2] at h; cases h
    · rw [if_neg h2] at h ⊢
      by_cases h3 : r.length < Bt.need (n * b.toNat)
      · rw [if_pos h3] at h; cases h
      · rw [if_neg h3] at h ⊢
        by_cases h4 : Bt.chk ⟨(r.take (Bt.need (n * b.toNat))).toArray⟩ (n * b.toNat) ≠ 0
        · rw [if_pos h4] at h
          exact absurd h h4
        · rw [if_neg h4] at h ⊢
          have hC : Bt.chk ⟨(r.take (Bt.need (n * b.toNat))).toArray⟩ (n * b.toNat) = 0 := by simpa using h4
          by_cases h5 : right n b.toNat d (un ⟨(r.take (Bt.need (n * b.toNat))).toArray⟩ b.toNat) = true
          · rw [if_pos h5]
            have hO := Bt.only hC
            have hun : (fun i => Bt.num b.toNat (fun j => Bt.bit ⟨(r.take (Bt.need (n * b.toNat))).toArray⟩ (i * b.toNat + j))) = un ⟨(r.take (Bt.need (n * b.toNat))).toArray⟩ b.toNat := rfl
            rw [hun] at hO
            generalize hX : un ⟨(r.take (Bt.need (n * b.toNat))).toArray⟩ b.toNat = X at hO h5 ⊢
            unfold right at h5
            simp only [Bool.and_eq_true, List.all_eq_true, List.mem_range, decide_eq_true_iff, beq_iff_eq] at h5
            obtain ⟨hlt, hused, hW⟩ := h5
            have hlen : (outs n d X).length = n := by simp [outs]
            have hat : ∀ i, i < n → ∃ t, d[X i]? = some t ∧ (outs n d X).getD i [] = t ∧ t ∈ outs n d X := by
              intro i hi
              have hm := List.getElem?_eq_getElem (hlt i hi)
              refine ⟨d[X i]'(hlt i hi), hm, ?_, ?_⟩
              · rw [List.getD, show (outs n d X)[i]? = some (d.getD (X i) []) by simp [outs, hi], Option.getD_some, List.getD, hm, Option.getD_some]
              · refine List.mem_map.2 ⟨i, List.mem_range.2 hi, ?_⟩
                rw [List.getD, hm, Option.getD_some]
            have hix : ∀ i, i < n → ix d (outs n d X) i = X i := by
              intro i hi
              obtain ⟨t, h1, h2, _⟩ := hat i hi
              unfold ix
              rw [h2]
              exact pos_at d p hd _ t h1
            have hwid : Bt.wid n (ix d (outs n d X)) = b.toNat := by
              have e : Bt.orN n (ix d (outs n d X)) = Bt.orN n X := by
                have : ∀ k, k ≤ n → Bt.orN k (ix d (outs n d X)) = Bt.orN k X := by
                  intro k
                  induction k with
                  | zero => intro _; rfl
                  | succ k ih => intro hk; simp only [Bt.orN]; rw [ih (by omega), hix k (by omega)]
                exact this n (Nat.le_refl _)
              unfold Bt.wid at hW ⊢
              rw [e]; exact hW
            have hpk : Bt.bytes (Bt.need (n * b.toNat)) (Bt.pk n (ix d (outs n d X)) b.toNat) = Bt.bytes (Bt.need (n * b.toNat)) (Bt.pk n X b.toNat) := by
              refine Bt.bytes_congr fun x _ => ?_
              unfold Bt.pk
              by_cases hx : x < n * b.toNat
              · have hb0 : 0 < b.toNat := by
                  rcases Nat.eq_zero_or_pos b.toNat with h0 | h0
                  · rw [h0] at hx; simp at hx
                  · exact h0
                rw [hix (x / b.toNat) ((Nat.div_lt_iff_lt_mul hb0).2 hx)]
              · simp [hx]
            refine ⟨?_, hlen, fun t => ⟨fun ht => ?_, fun ht => ?_⟩⟩
            · unfold encX
              rw [hlen, hwid, hpk, hO]
              have hub : UInt8.ofNat b.toNat = b := by simp
              rw [hub]
              simp
            · obtain ⟨j, hj, e⟩ := List.getElem_of_mem ht
              obtain ⟨i, hi, e2⟩ := List.any_eq_true.1 (hused j hj)
              rw [List.mem_range] at hi
              obtain ⟨u, h1, _, h3⟩ := hat i hi
              have e3 : X i = j := by simpa using e2
              rw [e3, List.getElem?_eq_getElem hj, e] at h1
              cases h1
              exact h3
            · obtain ⟨i, hi, e⟩ := List.mem_map.1 ht
              rw [List.mem_range] at hi
              rw [← e, List.getD, List.getElem?_eq_getElem (hlt i hi), Option.getD_some]
              exact List.getElem_mem _
          · rw [if_neg h5] at h; cases h
/-- The encoding of a column by a codec. -/
def body (k : Nat) (L : List Str) : List UInt8 := if k = 0 then L.flatMap encT else encU (dict L).length ++ ((dict L).flatMap encT ++ encX (dict L) L)
def enc (k : Nat) (L : List Str) : List UInt8 := UInt8.ofNat k :: (encU L.length ++ body k L)
/-- So many elements by a codec. -/
def rdBody (k n : Nat) (l : List UInt8) : Nat × List Str × List UInt8 :=
  if k = 0 then rdWords false n none l
  else if (num l).2.2 ≠ 0 then ((num l).2.2, [], l)
  else if 65536 < (num l).1 then (3, [], l)
  else if (rdWords true (num l).1 none (rest l)).1 ≠ 0 then ((rdWords true (num l).1 none (rest l)).1, [], l)
  else rdPick n (rdWords true (num l).1 none (rest l)).2.1 (rdWords true (num l).1 none (rest l)).2.2
/-- What is read of bytes: the first error, the elements. -/
def rd (l : List UInt8) : Nat × List Str :=
  match l with
  | [] => (2, [])
  | b :: r =>
    if 1 < b.toNat then (4, [])
    else if (num r).2.2 ≠ 0 then ((num r).2.2, [])
    else if 65536 < (num r).1 then (3, [])
    else if (rdBody b.toNat (num r).1 (rest r)).1 ≠ 0 then ((rdBody b.toNat (num r).1 (rest r)).1, [])
    else if (rdBody b.toNat (num r).1 (rest r)).2.2 ≠ [] then (5, [])
    else (0, (rdBody b.toNat (num r).1 (rest r)).2.1)
theorem dict_len (L : List Str) : (dict L).length ≤ L.length := by
  have hi : ∀ (t : Str) (d : List Str), (ins t d).length ≤ d.length + 1 := by
    intro t d
    induction d with
    | nil => simp [ins]
    | cons a d ih =>
      unfold ins
      repeat' split
      all_goals simp only [List.length_cons] <;> omega
  have : ∀ (L d : List Str), (L.foldl (fun d t => ins t d) d).length ≤ L.length + d.length := by
    intro L
    induction L with
    | nil => intro d; simp
    | cons t L ih =>
      intro d
      have h1 := ih (ins t d)
      have h2 := hi t d
      simp only [List.foldl_cons, List.length_cons]
      omega
  have h := this L []
  unfold dict
  simpa using h
theorem rdBody_back (k : Nat) (L : List Str) (h : ∀ t ∈ L, t.length ≤ 64) (hl : L.length ≤ 65536) (r : List UInt8) : rdBody k L.length (body k L ++ r) = (0, L, r) := by
  unfold rdBody body
  by_cases h1 : k = 0
  · simp only [h1, if_true]
    exact rdWords_back false L none r h fun e => by cases e
  · simp only [h1, if_false]
    have hd := dict_len L
    have e : encU (dict L).length ++ ((dict L).flatMap encT ++ encX (dict L) L) ++ r = encU (dict L).length ++ ((dict L).flatMap encT ++ (encX (dict L) L ++ r)) := by simp
    obtain ⟨a1, a2, a3⟩ := read_encU (dict L).length (show U64 (dict L).length by unfold U64; omega) ((dict L).flatMap encT ++ (encX (dict L) L ++ r))
    have hw := rdWords_back true (dict L) none (encX (dict L) L ++ r) (fun t ht => h t ((dict_mem L t).1 ht)) fun _ => dict_asc L
    rw [e, if_neg (by rw [a1]; simp), a2, if_neg (by omega), a3, hw]
    rw [if_neg (by simp)]
    exact rdPick_back (dict L) L none (dict_asc L) (by omega) (dict_mem L) r
theorem rdBody_only (k n : Nat) (l : List UInt8) (h : (rdBody k n l).1 = 0) : l = body k (rdBody k n l).2.1 ++ (rdBody k n l).2.2 ∧ (rdBody k n l).2.1.length = n ∧ ∀ t ∈ (rdBody k n l).2.1, t.length ≤ 64 := by
  unfold rdBody at h ⊢
  unfold body
  by_cases h1 : k = 0
  · simp only [h1, if_true] at h ⊢
    obtain ⟨e1, e2, e3, _⟩ := rdWords_only false n none l h
    exact ⟨e1, e2, e3⟩
  · simp only [h1, if_false] at h ⊢
    by_cases h2 : (num l).2.2 ≠ 0
    · rw [if_pos h2] at h
      exact absurd h h2
    · rw [if_neg h2] at h ⊢
      by_cases h3 : 65536 < (num l).1
      · rw [if_pos h3] at h; cases h
      · rw [if_neg h3] at h ⊢
        by_cases h4 : (rdWords true (num l).1 none (rest l)).1 ≠ 0
        · rw [if_pos h4] at h
          exact absurd h h4
        · rw [if_neg h4] at h ⊢
          obtain ⟨e1, e2, e3, e4⟩ := rdWords_only true (num l).1 none (rest l) (by simpa using h4)
          have ha := e4 rfl
          have hs := splitU (l := l) (by simpa using h2)
          generalize (rdWords true (num l).1 none (rest l)).2.1 = d at e1 e2 e3 ha h ⊢
          generalize (rdWords true (num l).1 none (rest l)).2.2 = q at e1 h ⊢
          obtain ⟨f1, f2, f3⟩ := rdPick_only n d none ha q h
          generalize (rdPick n d q).2.1 = L at f1 f2 f3 ⊢
          have hdl : dict L = d := asc_same _ _ none none (dict_asc L) ha fun x => by rw [dict_mem]; exact (f3 x).symm
          refine ⟨?_, f2, fun t ht => e3 t ((f3 t).2 ht)⟩
          rw [hdl, e2, List.append_assoc, List.append_assoc, ← f1, ← e1]
          exact hs
/-- THERE AND BACK. -/
theorem rd_enc (k : Nat) (hk : k ≤ 1) (L : List Str) (h : ∀ t ∈ L, t.length ≤ 64) (hl : L.length ≤ 65536) : rd (enc k L) = (0, L) := by
  have hkn : (UInt8.ofNat k).toNat = k := by simp [UInt8.toNat_ofNat']; omega
  obtain ⟨a1, a2, a3⟩ := read_encU L.length (show U64 L.length by unfold U64; omega) (body k L)
  have hb := rdBody_back k L h hl []
  rw [List.append_nil] at hb
  unfold rd enc
  simp only [hkn]
  rw [if_neg (by omega), if_neg (by rw [a1]; simp), a2, if_neg (by omega), a3, hb]
  simp
/-- IN ONE WAY. -/
theorem enc_rd (l : List UInt8) (h : (rd l).1 = 0) : ∃ b r, l = b :: r ∧ b.toNat ≤ 1 ∧ enc b.toNat (rd l).2 = l ∧ (rd l).2.length ≤ 65536 ∧ ∀ t ∈ (rd l).2, t.length ≤ 64 := by
  unfold rd at h ⊢
  cases l with
  | nil => cases h
  | cons b r =>
    simp only at h ⊢
    refine ⟨b, r, rfl, ?_⟩
    by_cases h1 : 1 < b.toNat
    · rw [if_pos h1] at h; cases h
    · rw [if_neg h1] at h ⊢
      by_cases h2 : (num r).2.2 ≠ 0
      · rw [if_pos h2] at h
        exact absurd h h2
      · rw [if_neg h2] at h ⊢
        by_cases h3 : 65536 < (num r).1
        · rw [if_pos h3] at h; cases h
        · rw [if_neg h3] at h ⊢
          by_cases h4 : (rdBody b.toNat (num r).1 (rest r)).1 ≠ 0
          · rw [if_pos h4] at h
            exact absurd h h4
          · rw [if_neg h4] at h ⊢
            by_cases h5 : (rdBody b.toNat (num r).1 (rest r)).2.2 ≠ []
            · rw [if_pos h5] at h; cases h
            · rw [if_neg h5]
              obtain ⟨e1, e2, e3⟩ := rdBody_only b.toNat (num r).1 (rest r) (by simpa using h4)
              have e5 : (rdBody b.toNat (num r).1 (rest r)).2.2 = [] := by simpa using h5
              rw [e5, List.append_nil] at e1
              refine ⟨by omega, ?_, by rw [e2]; omega, e3⟩
              unfold enc
              rw [e2, ← e1, ← splitU (by simpa using h2)]
              simp
end Go.Proofs.Ytdjnjhlcdcmeaaa.Tx
