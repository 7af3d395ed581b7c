import Derived.Test.YteaglaijkafphaaDoorRows
import GoSem.Op.String
import Derived.Laws.BitsLemmas
import Derived.IntWalk
import Derived.Laws.Bits64
import Derived.Laws.MathBits
namespace Go.Proofs.YteaglaijkafphaaDoor.Kn
open Go
theorem bl_irrefl : ∀ l : List UInt8, Op.bytesLess l l = false
 | [] => rfl
 | a :: l => by simp [Op.bytesLess, bl_irrefl l]
theorem bl_total : ∀ a b : List UInt8, Op.bytesLess a b = true ∨ a = b ∨ Op.bytesLess b a = true
 | [], [] => .inr (.inl rfl)
 | [], _ :: _ => .inl rfl
 | _ :: _, [] => .inr (.inr rfl)
 | a :: x, b :: y => by
   rcases Nat.lt_trichotomy a.toNat b.toNat with h | h | h
   ·left; simp [Op.bytesLess, UInt8.lt_iff_toNat_lt, h]
   ·have e : a = b := UInt8.toNat_inj.1 h
    subst e
    rcases bl_total x y with g | g | g
    ·left; simp [Op.bytesLess, g]
    ·right; left; rw [g]
    ·right; right; simp [Op.bytesLess, g]
   ·right; right; simp [Op.bytesLess, UInt8.lt_iff_toNat_lt, h]
theorem bl_trans : ∀ a b c : List UInt8, Op.bytesLess a b = true → Op.bytesLess b c = true → Op.bytesLess a c = true
 | _, [], _, h, _ => by simp [Op.bytesLess] at h
 | _, _ :: _, [], _, h => by simp [Op.bytesLess] at h
 | [], _ :: _, _ :: _, _, _ => rfl
 | a :: x, b :: y, c :: z, h, k => by
   simp only [Op.bytesLess, Bool.or_eq_true, decide_eq_true_eq, Bool.and_eq_true, beq_iff_eq, UInt8.lt_iff_toNat_lt] at h k ⊢
   rcases h with h | ⟨rfl, h⟩ <;> rcases k with k | ⟨rfl, k⟩
   ·left; omega
   ·left; exact h
   ·left; exact k
   ·right; exact ⟨rfl, bl_trans x y z h k⟩
theorem bl_asymm (a b : List UInt8) (h : Op.bytesLess a b = true) : Op.bytesLess b a = false := by
 cases hb : Op.bytesLess b a with
 | false => rfl
 | true => have := bl_trans a b a h hb; rw [bl_irrefl] at this; cases this
structure V where
 null : Bool
 n : Int
 s : ByteArray
abbrev V.val (v : V) : Value := .agg #[.bool v.null, .int .i64 v.n, .string v.s]
def ncmp (a b : Int) : Int := if a < b then -1 else if b < a then 1 else 0
def lcmp (a b : List UInt8) : Int := if Op.bytesLess a b = true then -1 else if Op.bytesLess b a = true then 1 else 0
def scmp (a b : ByteArray) : Int := lcmp a.toList b.toList
def or2 (x y : Int) : Int := if x = 0 then y else x
def cmp (a b : V) : Int := if a.null = true then (if b.null = true then 0 else -1) else if b.null = true then 1 else or2 (ncmp a.n b.n) (scmp a.s b.s)
structure Fair (x y z x' y' z' : Int) : Prop where
 xr : -1 ≤ x ∧ x ≤ 1
 yr : -1 ≤ y ∧ y ≤ 1
 zr : -1 ≤ z ∧ z ≤ 1
 xa : x' = -x
 ya : y' = -y
 za : z' = -z
 le : x ≤ 0 → y ≤ 0 → z ≤ 0
 lt : x ≤ 0 → y ≤ 0 → z = 0 → x = 0 ∧ y = 0
 ge : x ≥ 0 → y ≥ 0 → z ≥ 0
 gt : x ≥ 0 → y ≥ 0 → z = 0 → x = 0 ∧ y = 0
theorem ncmp_fair (a b c : Int) : Fair (ncmp a b) (ncmp b c) (ncmp a c) (ncmp b a) (ncmp c b) (ncmp c a) := by
 unfold ncmp
 constructor <;> (repeat' split) <;> omega
theorem bl_ne {a b : List UInt8} (h : Op.bytesLess a b = true) : Op.bytesLess b a = false ∧ a ≠ b := ⟨bl_asymm a b h, fun e => by rw [e, bl_irrefl] at h; cases h⟩
theorem lcmp_lt {a b : List UInt8} (h : Op.bytesLess a b = true) : lcmp a b = -1 ∧ lcmp b a = 1 := by simp [lcmp, h, bl_asymm a b h]
theorem lcmp_self (a : List UInt8) : lcmp a a = 0 := by simp [lcmp, bl_irrefl]
theorem lcmp_anti (a b : List UInt8) : lcmp b a = -lcmp a b ∧ -1 ≤ lcmp a b ∧ lcmp a b ≤ 1 := by
 rcases bl_total a b with h | rfl | h
 ·rw [(lcmp_lt h).1, (lcmp_lt h).2]; omega
 ·rw [lcmp_self]; omega
 ·rw [(lcmp_lt h).1, (lcmp_lt h).2]; omega
theorem lcmp_chain (a b c : List UInt8) (h1 : lcmp a b ≤ 0) (h2 : lcmp b c ≤ 0) : lcmp a c ≤ 0 ∧ (lcmp a c = 0 → lcmp a b = 0 ∧ lcmp b c = 0) := by
 rcases bl_total a b with h | rfl | h
 ·rcases bl_total b c with k | rfl | k
  ·have := (lcmp_lt (bl_trans a b c h k)).1
   omega
  ·rw [lcmp_self]; omega
  ·have := (lcmp_lt k).2; omega
 ·rw [lcmp_self]; omega
 ·have := (lcmp_lt h).2; omega
theorem lcmp_fair (a b c : List UInt8) : Fair (lcmp a b) (lcmp b c) (lcmp a c) (lcmp b a) (lcmp c b) (lcmp c a) := by
 have h1 := lcmp_anti a b
 have h2 := lcmp_anti b c
 have h3 := lcmp_anti a c
 have h4 := lcmp_chain a b c
 have h5 := lcmp_chain c b a
 constructor <;> omega
theorem lex_fair {x y z x' y' z' p q r p' q' r' : Int} (h : Fair x y z x' y' z') (k : Fair p q r p' q' r') : Fair (or2 x p) (or2 y q) (or2 z r) (or2 x' p') (or2 y' q') (or2 z' r') := by
 obtain ⟨⟨h1, h2⟩, ⟨h3, h4⟩, ⟨h5, h6⟩, rfl, rfl, rfl, h10, h11, h12, h13⟩ := h
 obtain ⟨⟨k1, k2⟩, ⟨k3, k4⟩, ⟨k5, k6⟩, rfl, rfl, rfl, k10, k11, k12, k13⟩ := k
 unfold or2
 constructor <;> (repeat' split) <;> omega
theorem cmp_fair (a b c : V) : Fair (cmp a b) (cmp b c) (cmp a c) (cmp b a) (cmp c b) (cmp c a) := by
 have h := lex_fair (ncmp_fair a.n b.n c.n) (show Fair (scmp a.s b.s) (scmp b.s c.s) (scmp a.s c.s) (scmp b.s a.s) (scmp c.s b.s) (scmp c.s a.s) from lcmp_fair a.s.toList b.s.toList c.s.toList)
 unfold cmp
 cases a.null <;> cases b.null <;> cases c.null <;> simp only [Bool.false_eq_true, if_false, if_true]
 ·exact h
 all_goals
  obtain ⟨⟨h1, h2⟩, ⟨h3, h4⟩, ⟨h5, h6⟩, h7, h8, h9, h10, h11, h12, h13⟩ := h
  constructor <;> omega
theorem lcmp_zero (a b : List UInt8) : lcmp a b = 0 ↔ a = b := by
 rcases bl_total a b with h | rfl | h
 ·rw [(lcmp_lt h).1]; exact ⟨fun e => by omega, fun e => absurd e (bl_ne h).2⟩
 ·simp [lcmp_self]
 ·rw [(lcmp_lt h).2]; exact ⟨fun e => by omega, fun e => absurd e.symm (bl_ne h).2⟩
theorem ncmp_zero (a b : Int) : ncmp a b = 0 ↔ a = b := by unfold ncmp; repeat' split <;> omega
theorem or2_zero (x y : Int) : or2 x y = 0 ↔ x = 0 ∧ y = 0 := by unfold or2; split <;> omega
def same (a b : V) : Bool := (a.null && b.null) || ((!a.null && !b.null) && a.n == b.n && a.s.toList == b.s.toList)
theorem cmp_zero (a b : V) : (cmp a b == 0) = same a b := by
 rw [Bool.eq_iff_iff, beq_iff_eq]
 unfold cmp same
 cases a.null <;> cases b.null <;> simp [or2_zero, ncmp_zero, scmp, lcmp_zero]
end Go.Proofs.YteaglaijkafphaaDoor.Kn
namespace Go.Proofs.YteaglaijkafphaaDoor
open Go
structure Mf.P where
 id : Int
 lv : Int
 lo : Kn.V
 hi : Kn.V
structure Mf.E where
 drop : List Int
 add : List Mf.P
 floor : Int
 next : Int
structure Mf.S where
 parts : List Mf.P
 floor : Int
 next : Int
def Mf.nm (n : Int) : Bool := decide (0 ≤ n) && decide (n ≤ 999999999)
def Mf.key (v : Kn.V) : Bool := !v.null && decide (v.s.size ≤ 64)
def Mf.part (p : Mf.P) : Bool := Mf.nm p.id && (decide (0 ≤ p.lv) && decide (p.lv ≤ 3)) && Mf.key p.lo && Mf.key p.hi && decide (Kn.cmp p.lo p.hi ≤ 0)
def Mf.right (e : Mf.E) : Bool := decide (e.drop.length ≤ 1000) && decide (e.add.length ≤ 1000) && e.drop.all Mf.nm && e.add.all Mf.part && Mf.nm e.floor && Mf.nm e.next
theorem Mf.nm_iff (n : Int) : Mf.nm n = true ↔ 0 ≤ n ∧ n ≤ 999999999 := by simp [Mf.nm]
theorem Mf.right_iff (e : Mf.E) : Mf.right e = true ↔ e.drop.length ≤ 1000 ∧ e.add.length ≤ 1000 ∧ (∀ d ∈ e.drop, Mf.nm d = true) ∧ (∀ p ∈ e.add, Mf.part p = true) ∧ Mf.nm e.floor = true ∧ Mf.nm e.next = true := by
 unfold Mf.right
 simp only [Bool.and_eq_true, decide_eq_true_iff, List.all_eq_true, and_assoc]
def Mf.has (L : List Mf.P) (d : Int) : Bool := L.any fun p => p.id == d
def Mf.wo (L : List Mf.P) (d : Int) : List Mf.P := L.filter fun p => !(p.id == d)
def Mf.dr : List Mf.P → List Int → Option (List Mf.P)
 | L, [] => some L
 | L, d :: ds => if Mf.has L d = true then Mf.dr (Mf.wo L d) ds else none
def Mf.ad (n : Int) : List Mf.P → List Mf.P → Option (List Mf.P)
 | L, [] => some L
 | L, p :: ps => if n ≤ p.id ∨ Mf.has L p.id = true then none else Mf.ad n (L ++ [p]) ps
def Mf.ap (s : Mf.S) (e : Mf.E) : Option Mf.S :=
 if Mf.right e = true ∧ s.floor ≤ e.floor ∧ s.next ≤ e.next then
  match Mf.dr s.parts e.drop with
  | none => none
  | some L => match Mf.ad e.next L e.add with
    | none => none
    | some M => some ⟨M, e.floor, e.next⟩
 else none
theorem Mf.ap_not {s : Mf.S} {e : Mf.E} (h : Mf.right e = false ∨ e.floor < s.floor ∨ e.next < s.next) : Mf.ap s e = none := by
 unfold Mf.ap
 refine if_neg ?_
 rintro ⟨h1, h2, h3⟩
 rcases h with h | h | h
 ·rw [h] at h1; cases h1
 ·omega
 ·omega
theorem Mf.ap_is {s : Mf.S} {e : Mf.E} (h1 : Mf.right e = true) (h2 : ¬ e.floor < s.floor) (h3 : ¬ e.next < s.next) :
 Mf.ap s e = match Mf.dr s.parts e.drop with
 | none => none
 | some L => match Mf.ad e.next L e.add with
   | none => none
   | some M => some ⟨M, e.floor, e.next⟩ := by
 unfold Mf.ap
 rw [if_pos ⟨h1, by omega, by omega⟩]
theorem Mf.dr_step {L : List Mf.P} {ds : List Int} {k : Nat} {d : Int} (h : ds[k]? = some d) : Mf.dr L (ds.drop k) = if Mf.has L d = true then Mf.dr (Mf.wo L d) (ds.drop (k + 1)) else none := by
 obtain ⟨hk, rfl⟩ := List.getElem?_eq_some_iff.1 h
 rw [List.drop_eq_getElem_cons hk]
 rfl
theorem Mf.ad_step {n : Int} {L ps : List Mf.P} {k : Nat} {p : Mf.P} (h : ps[k]? = some p) : Mf.ad n L (ps.drop k) = if n ≤ p.id ∨ Mf.has L p.id = true then none else Mf.ad n (L ++ [p]) (ps.drop (k + 1)) := by
 obtain ⟨hk, rfl⟩ := List.getElem?_eq_some_iff.1 h
 rw [List.drop_eq_getElem_cons hk]
 rfl
theorem Mf.dr_end {L : List Mf.P} {ds : List Int} {k : Nat} (h : ¬ k < ds.length) : Mf.dr L (ds.drop k) = some L := by
 rw [List.drop_eq_nil_of_le (by omega)]
 rfl
theorem Mf.ad_end {n : Int} {L ps : List Mf.P} {k : Nat} (h : ¬ k < ps.length) : Mf.ad n L (ps.drop k) = some L := by
 rw [List.drop_eq_nil_of_le (by omega)]
 rfl
def Mf.at_ : List Mf.P → Int → Option Nat
 | [], _ => none
 | p :: L, d => if (p.id == d) = true then some 0 else (Mf.at_ L d).map (· + 1)
theorem Mf.at_none : ∀ (L : List Mf.P) (d : Int), Mf.at_ L d = none ↔ Mf.has L d = false
 | [], d => by simp [Mf.at_, Mf.has]
 | p :: L, d => by
   have ih := Mf.at_none L d
   unfold Mf.at_ Mf.has
   by_cases h : (p.id == d) = true
   ·simp [h]
   ·rw [if_neg h]
    simp only [Option.map_eq_none_iff, List.any_cons, Bool.or_eq_false_iff]
    rw [ih]
    unfold Mf.has
    simp [h]
theorem Mf.at_lt : ∀ {L : List Mf.P} {d : Int} {k : Nat}, Mf.at_ L d = some k → k < L.length
 | [], _, _, h => by cases h
 | p :: L, d, k, h => by
   unfold Mf.at_ at h
   split at h
   ·obtain rfl : 0 = k := by simpa using h
    simp
   ·obtain ⟨j, hj, rfl⟩ := Option.map_eq_some_iff.1 h
    have := Mf.at_lt hj
    simp; omega
theorem Mf.at_is : ∀ {L : List Mf.P} {d : Int} {k : Nat}, Mf.at_ L d = some k → ∃ p, L[k]? = some p ∧ p.id = d
 | [], _, _, h => by cases h
 | p :: L, d, k, h => by
   unfold Mf.at_ at h
   split at h
   ·rename_i hp
    obtain rfl : 0 = k := by simpa using h
    exact ⟨p, rfl, by simpa using hp⟩
   ·obtain ⟨j, hj, rfl⟩ := Option.map_eq_some_iff.1 h
    obtain ⟨q, hq, e⟩ := Mf.at_is hj
    exact ⟨q, hq, e⟩
theorem Mf.wo_cut {L : List Mf.P} {d : Int} {k : Nat} (h : Mf.at_ L d = some k) : Mf.wo (L.take k ++ L.drop (k + 1)) d = Mf.wo L d := by
 obtain ⟨p, hp, e⟩ := Mf.at_is h
 obtain ⟨hk, rfl⟩ := List.getElem?_eq_some_iff.1 hp
 have hL : L = L.take k ++ (L[k] :: L.drop (k + 1)) := by rw [← List.drop_eq_getElem_cons hk, List.take_append_drop]
 conv => rhs; rw [hL]
 unfold Mf.wo
 rw [List.filter_append, List.filter_append, List.filter_cons, if_neg (by simp [e])]
theorem Mf.wo_none {L : List Mf.P} {d : Int} (h : Mf.has L d = false) : Mf.wo L d = L := by
 unfold Mf.wo
 refine List.filter_eq_self.2 fun p hp => ?_
 unfold Mf.has at h
 rw [List.any_eq_false] at h
 have := h p hp
 simpa using this
theorem Mf.has_not {L : List Mf.P} {d : Int} : Mf.has L d = false ↔ ∀ p ∈ L, p.id ≠ d := by
 unfold Mf.has
 rw [List.any_eq_false]
 simp
theorem Mf.wo_len (L : List Mf.P) (d : Int) : (Mf.wo L d).length ≤ L.length := List.length_filter_le _ _
theorem Mf.dr_len : ∀ {ds : List Int} {L M : List Mf.P}, Mf.dr L ds = some M → M.length ≤ L.length
 | [], L, M, h => by obtain rfl : L = M := by simpa [Mf.dr] using h
                     exact Nat.le_refl _
 | d :: ds, L, M, h => by
   unfold Mf.dr at h
   split at h
   ·exact Nat.le_trans (Mf.dr_len h) (Mf.wo_len _ _)
   ·cases h
theorem Mf.ad_len : ∀ {n : Int} {ps L M : List Mf.P}, Mf.ad n L ps = some M → M.length = L.length + ps.length
 | n, [], L, M, h => by obtain rfl : L = M := by simpa [Mf.ad] using h
                        simp
 | n, p :: ps, L, M, h => by
   unfold Mf.ad at h
   split at h
   ·cases h
   ·have := Mf.ad_len h
    simp at this ⊢
    omega
theorem Mf.ap_some {s t : Mf.S} {e : Mf.E} (h : Mf.ap s e = some t) : Mf.right e = true ∧ s.floor ≤ e.floor ∧ s.next ≤ e.next ∧ t.floor = e.floor ∧ t.next = e.next ∧ ∃ L, Mf.dr s.parts e.drop = some L ∧ Mf.ad e.next L e.add = some t.parts := by
 unfold Mf.ap at h
 split at h
 ·rename_i h0
  obtain ⟨h1, h2, h3⟩ := h0
  cases hd : Mf.dr s.parts e.drop with
  | none => rw [hd] at h; cases h
  | some L =>
    rw [hd] at h
    simp only at h
    cases ha : Mf.ad e.next L e.add with
    | none => rw [ha] at h; cases h
    | some M =>
      rw [ha] at h
      simp only [Option.some.injEq] at h
      subst h
      exact ⟨h1, h2, h3, rfl, rfl, L, rfl, ha⟩
 ·cases h
theorem Mf.ap_len {s t : Mf.S} {e : Mf.E} (h : Mf.ap s e = some t) : t.parts.length ≤ s.parts.length + 1000 := by
 obtain ⟨hr, _, _, _, _, L, h1, h2⟩ := Mf.ap_some h
 have := Mf.dr_len h1
 have := Mf.ad_len h2
 have := ((Mf.right_iff e).1 hr).2.1
 omega
structure Mf.Ok (s : Mf.S) : Prop where
 uniq : (s.parts.map (·.id)).Nodup
 below : ∀ p ∈ s.parts, p.id < s.next
 part : ∀ p ∈ s.parts, Mf.part p = true
theorem Mf.Ok.none : Mf.Ok ⟨[], 0, 0⟩ := ⟨List.nodup_nil, (fun _ h => nomatch h), (fun _ h => nomatch h)⟩
theorem Mf.dr_sub : ∀ {ds : List Int} {L M : List Mf.P}, Mf.dr L ds = some M → M.Sublist L
 | [], L, M, h => by obtain rfl : L = M := by simpa [Mf.dr] using h
                     exact List.Sublist.refl _
 | d :: ds, L, M, h => by
   unfold Mf.dr at h
   split at h
   ·exact (Mf.dr_sub h).trans List.filter_sublist
   ·cases h
theorem Mf.ad_ok : ∀ {n : Int} {ps L M : List Mf.P}, Mf.ad n L ps = some M → (L.map (·.id)).Nodup → (∀ p ∈ L, p.id < n) → (∀ p ∈ L, Mf.part p = true) → (∀ p ∈ ps, Mf.part p = true) →
 (M.map (·.id)).Nodup ∧ (∀ p ∈ M, p.id < n) ∧ (∀ p ∈ M, Mf.part p = true)
 | n, [], L, M, h, h1, h2, h3, _ => by
   obtain rfl : L = M := by simpa [Mf.ad] using h
   exact ⟨h1, h2, h3⟩
 | n, p :: ps, L, M, h, h1, h2, h3, h4 => by
   unfold Mf.ad at h
   split at h
   ·cases h
   ·rename_i hn
    have hn1 : p.id < n := by
     by_cases h : p.id < n
     ·exact h
     ·exact absurd (Or.inl (by omega)) hn
    have hn2 : Mf.has L p.id = false := by
     cases hh : Mf.has L p.id with
     | false => rfl
     | true => exact absurd (Or.inr hh) hn
    refine Mf.ad_ok h ?_ ?_ ?_ fun q hq => h4 q (by simp [hq])
    ·rw [List.map_append, List.nodup_append]
     refine ⟨h1, by simp, fun a ha b hb => ?_⟩
     obtain ⟨q, hq, rfl⟩ := List.mem_map.1 ha
     have hb : b = p.id := by simpa using hb
     rw [hb]
     exact Mf.has_not.1 hn2 q hq
    ·intro q hq
     rcases List.mem_append.1 hq with hq | hq
     ·exact h2 q hq
     ·obtain rfl : q = p := by simpa using hq
      exact hn1
    ·intro q hq
     rcases List.mem_append.1 hq with hq | hq
     ·exact h3 q hq
     ·obtain rfl : q = p := by simpa using hq
      exact h4 q (by simp)
theorem Mf.Ok.step {s t : Mf.S} {e : Mf.E} (hs : Mf.Ok s) (h : Mf.ap s e = some t) : Mf.Ok t := by
 obtain ⟨hr, _, hn, _, ht, L, h1, h2⟩ := Mf.ap_some h
 have hsub := Mf.dr_sub h1
 have hr := (Mf.right_iff e).1 hr
 obtain ⟨a, b, c⟩ := Mf.ad_ok h2 (List.Nodup.sublist (hsub.map _) hs.uniq) (fun p hp => by have := hs.below p (hsub.subset hp); omega) (fun p hp => hs.part p (hsub.subset hp)) hr.2.2.2.1
 exact ⟨a, by rw [ht]; exact b, c⟩
def Mf.snap (s : Mf.S) : Mf.E := ⟨[], s.parts, s.floor, s.next⟩
end Go.Proofs.YteaglaijkafphaaDoor
namespace Go.Proofs.YteaglaijkafphaaDoor.Ty
def form (n : Nat) : Nat := if n < 64 then 0 else if n < 16384 then 1 else if n < 1073741824 then 2 else 3
def after : Nat → Nat
 | 0 => 0
 | 1 => 1
 | 2 => 3
 | _ => 8
def low : Nat → Nat → List UInt8
 | 0, _ => []
 | k + 1, n => UInt8.ofNat (n / 256 ^ k % 256) :: low k n
def head (n : Nat) : UInt8 := UInt8.ofNat (64 * form n + (if form n = 3 then 0 else n / 256 ^ after (form n)))
def encU (n : Nat) : List UInt8 := head n :: low (after (form n)) n
theorem form_le (n : Nat) : form n ≤ 3 := by unfold form; (repeat' split) <;> omega
theorem form_is (n : Nat) : (n < 64 ∧ form n = 0) ∨ (¬ n < 64 ∧ n < 16384 ∧ form n = 1) ∨ (¬ n < 16384 ∧ n < 1073741824 ∧ form n = 2) ∨ (¬ n < 1073741824 ∧ form n = 3) := by
 unfold form; (repeat' split) <;> omega
theorem low_length (k n : Nat) : (low k n).length = k := by induction k with
 | zero => rfl
 | succ k ih => simp [low, ih]
theorem toNat_ofNat8 (n : Nat) (h : n < 256) : (UInt8.ofNat n).toNat = n := by simp [UInt8.toNat_ofNat']; omega
def U64 (n : Nat) : Prop := n < 2 ^ 64
theorem low_byte (n k : Nat) : ((n : Int) / 2 ^ (8 * k) % 256) = ((UInt8.ofNat (n / 256 ^ k % 256)).toNat : Int) := by
 rw [toNat_ofNat8 _ (Nat.mod_lt _ (by omega))]
 have e : (2 : Int) ^ (8 * k) = ((256 ^ k : Nat) : Int) := by
  rw [Int.pow_mul, Int.natCast_pow]; rfl
 rw [e]
 simp
theorem low_succ (n k : Nat) : low (k + 1) n = UInt8.ofNat (n / 256 ^ k % 256) :: low k n := rfl
theorem encU_split (n : Nat) : encU n = [head n] ++ low (after (form n)) n := rfl
theorem encU_length (n : Nat) : (encU n).length = 1 + after (form n) := by simp [encU, low_length]; omega
theorem after_le (n : Nat) : after (form n) ≤ 8 := by
 rcases form_is n with ⟨_, h⟩ | ⟨_, _, h⟩ | ⟨_, _, h⟩ | ⟨_, h⟩ <;> rw [h] <;> decide
def zig (n : Int) : Int := if 0 ≤ n then 2 * n else -2 * n - 1
def zag (n : Int) : Int := if n % 2 = 1 then -(n / 2) - 1 else n / 2
def I64 (n : Int) : Prop := -9223372036854775808 ≤ n ∧ n ≤ 9223372036854775807
end Go.Proofs.YteaglaijkafphaaDoor.Ty
namespace Go.Proofs.YteaglaijkafphaaDoor.Ty
theorem wrapu64 (n : Int) (h0 : 0 ≤ n) (h1 : n < 2 ^ 64) : IntKind.u64.wrap n = n := by rw [IntKind.wrap_u64]; omega
def pv (l : List UInt8) : Nat → Nat
 | 0 => 0
 | 1 => (l.getD 0 0).toNat % 64
 | k + 2 => pv l (k + 1) * 256 + (l.getD (k + 1) 0).toNat
def small : Nat → Nat
 | 0 => 0
 | 1 => 64
 | 2 => 16384
 | _ => 1073741824
def num (l : List UInt8) : Nat × Nat × Nat :=
 match l with
 | [] => (0, 0, 2)
 | b :: r => if 192 < b.toNat then (0, 0, 5) else if (b :: r).length < 1 + after (b.toNat / 64) then (0, 0, 2) else
   if pv (b :: r) (1 + after (b.toNat / 64)) < small (b.toNat / 64) then (0, 0, 5) else (pv (b :: r) (1 + after (b.toNat / 64)), 1 + after (b.toNat / 64), 0)
theorem pv_succ (l : List UInt8) (k : Nat) (hk : 1 ≤ k) : pv l (k + 1) = pv l k * 256 + (l.getD k 0).toNat := by
 match k, hk with
 | k + 1, _ => rfl
theorem pv_lt (l : List UInt8) : ∀ k, pv l (k + 1) < 64 * 256 ^ k
 | 0 => by simp [pv]; omega
 | k + 1 => by
   have := pv_lt l k
   have h2 := (l.getD (k + 1) 0).toNat_lt
   rw [pv_succ l (k + 1) (by omega), Nat.pow_succ]
   omega
theorem pv_lt9 (l : List UInt8) (h : (l.getD 0 0).toNat % 64 = 0) : ∀ k, pv l (k + 1) < 256 ^ k
 | 0 => by simp [pv]; simpa using h
 | k + 1 => by
   have := pv_lt9 l h k
   have h2 := (l.getD (k + 1) 0).toNat_lt
   rw [pv_succ l (k + 1) (by omega), Nat.pow_succ]
   omega
theorem or_byte (p b : Nat) (hp : p < 72057594037927936) (hb : b < 256) : bits .or .u64 ((p * 256 : Nat) : Int) (b : Int) = ((p * 256 + b : Nat) : Int) := by
 have h := (bits_nat .u64 64 (by decide) wrapu64 (p * 256) b (by omega) (by omega)).2
 rw [h]
 have := Nat.two_pow_add_eq_or_of_lt (i := 8) (b := b) (by omega) p
 rw [Nat.mul_comm p 256]
 exact congrArg Int.ofNat this.symm
def txt (l : List UInt8) (most : Int) : List UInt8 × Nat × Nat :=
 if (num l).2.2 ≠ 0 then ([], 0, (num l).2.2) else if most < 0 ∨ most < ((num l).1 : Int) then ([], 0, 3) else
  if l.length - (num l).2.1 < (num l).1 then ([], 0, 2) else ((l.drop (num l).2.1).take (num l).1, (num l).2.1 + (num l).1, 0)
theorem num_is (l : List UInt8) (h : 0 < l.length) : num l = if 192 < (l.getD 0 0).toNat then (0, 0, 5) else if l.length < 1 + after ((l.getD 0 0).toNat / 64) then (0, 0, 2) else
 if pv l (1 + after ((l.getD 0 0).toNat / 64)) < small ((l.getD 0 0).toNat / 64) then (0, 0, 5) else (pv l (1 + after ((l.getD 0 0).toNat / 64)), 1 + after ((l.getD 0 0).toNat / 64), 0) := by
 cases l with
 | nil => simp at h
 | cons b r => rfl
theorem num_high {l : List UInt8} (h : 0 < l.length) (hb : 192 < (l.getD 0 0).toNat) : num l = (0, 0, 5) := by rw [num_is l h, if_pos hb]
theorem num_cut {l : List UInt8} (h : 0 < l.length) (hb : ¬ 192 < (l.getD 0 0).toNat) {f : Nat} (hf : (l.getD 0 0).toNat / 64 = f) (hl : l.length < 1 + after f) : num l = (0, 0, 2) := by rw [num_is l h, if_neg hb, hf, if_pos hl]
theorem num_less {l : List UInt8} (h : 0 < l.length) (hb : ¬ 192 < (l.getD 0 0).toNat) {f : Nat} (hf : (l.getD 0 0).toNat / 64 = f) (hl : ¬ l.length < 1 + after f) (hp : pv l (1 + after f) < small f) : num l = (0, 0, 5) := by rw [num_is l h, if_neg hb, hf, if_neg hl, if_pos hp]
theorem num_whole {l : List UInt8} (h : 0 < l.length) (hb : ¬ 192 < (l.getD 0 0).toNat) {f : Nat} (hf : (l.getD 0 0).toNat / 64 = f) (hl : ¬ l.length < 1 + after f) (hp : ¬ pv l (1 + after f) < small f) : num l = (pv l (1 + after f), 1 + after f, 0) := by rw [num_is l h, if_neg hb, hf, if_neg hl, if_neg hp]
theorem or_step (l : List UInt8) (b : UInt8) (k : Nat) (hk : 1 ≤ k) (hp : pv l k < 72057594037927936) (hb : b = l.getD k 0) :
 bits .or .u64 (IntKind.u64.wrap ((pv l k : Int) * 256)) (IntKind.u64.wrap (b.toNat : Int)) = (pv l (k + 1) : Int) := by
 have h2 := b.toNat_lt
 rw [wrapu64 _ (by omega) (by omega), wrapu64 _ (by omega) (by omega), pv_succ l k hk, ← hb]
 exact or_byte (pv l k) b.toNat hp (by omega)
theorem pv_small4 (l : List UInt8) (k : Nat) (h1 : 1 ≤ k) (h : k ≤ 4) : pv l k < 72057594037927936 := by
 have := pv_lt l (k - 1)
 rw [show k - 1 + 1 = k by omega] at this
 have h2 : 256 ^ (k - 1) ≤ 256 ^ 3 := Nat.pow_le_pow_right (by omega) (by omega)
 have h3 : (256 : Nat) ^ 3 = 16777216 := by decide
 omega
theorem pv_small8 (l : List UInt8) (h0 : (l.getD 0 0).toNat % 64 = 0) (k : Nat) (h1 : 1 ≤ k) (h : k ≤ 8) : pv l k < 72057594037927936 := by
 have := pv_lt9 l h0 (k - 1)
 rw [show k - 1 + 1 = k by omega] at this
 have h2 : 256 ^ (k - 1) ≤ 256 ^ 7 := Nat.pow_le_pow_right (by omega) (by omega)
 have h3 : (256 : Nat) ^ 7 = 72057594037927936 := by decide
 omega
theorem num_cases (l : List UInt8) : (num l).2.2 = 0 ∧ l ≠ [] ∧ (∃ f, f ≤ 3 ∧ 64 * f ≤ (l.getD 0 0).toNat ∧ (l.getD 0 0).toNat < 64 * f + 64 ∧ (l.getD 0 0).toNat ≤ 192 ∧ num l = (pv l (1 + after f), 1 + after f, 0) ∧ 1 + after f ≤ l.length ∧ small f ≤ pv l (1 + after f)) ∨
 ((num l).2.2 = 2 ∨ (num l).2.2 = 5) ∧ (num l).1 = 0 ∧ (num l).2.1 = 0 := by
 by_cases h0 : 0 < l.length
 ·by_cases h1 : 192 < (l.getD 0 0).toNat
  ·right; rw [num_high h0 h1]; simp
  ·obtain ⟨f, hf⟩ : ∃ f, (l.getD 0 0).toNat / 64 = f := ⟨_, rfl⟩
   by_cases h2 : l.length < 1 + after f
   ·right; rw [num_cut h0 h1 hf h2]; simp
   ·by_cases h3 : pv l (1 + after f) < small f
    ·right; rw [num_less h0 h1 hf h2 h3]; simp
    ·left
     have e := num_whole h0 h1 hf h2 h3
     exact ⟨by rw [e], by intro e; subst e; simp at h0, f, by omega, by omega, by omega, by omega, e, by omega, by omega⟩
 ·right
  have : l = [] := List.eq_nil_of_length_eq_zero (by omega)
  subst this
  simp [num]
theorem num_u64 (l : List UInt8) : U64 (num l).1 := by
 rcases num_cases l with ⟨_, _, f, hf, h1, h2, h3, e, _, _⟩ | ⟨_, h, _⟩
 ·rw [e]
  unfold U64
  rcases (by omega : f = 0 ∨ f = 1 ∨ f = 2 ∨ f = 3) with rfl | rfl | rfl | rfl
  ·have := pv_lt l 0; show pv l (0 + 1) < 2 ^ 64; omega
  ·have := pv_lt l 1; show pv l (1 + 1) < 2 ^ 64; omega
  ·have := pv_lt l 3; show pv l (3 + 1) < 2 ^ 64; omega
  ·have := pv_lt9 l (by omega) 8; show pv l (8 + 1) < 2 ^ 64; omega
 ·rw [h]; unfold U64; omega
theorem num_size (l : List UInt8) : (num l).2.1 ≤ l.length := by
 rcases num_cases l with ⟨_, _, f, hf, h1, h2, h3, e, hl, _⟩ | ⟨_, _, h⟩
 ·rw [e]; exact hl
 ·rw [h]; omega
theorem num_size9 (l : List UInt8) : (num l).2.1 ≤ 9 := by
 rcases num_cases l with ⟨_, _, f, hf, h1, h2, h3, e, hl, _⟩ | ⟨_, _, h⟩
 ·rw [e]
  rcases (by omega : f = 0 ∨ f = 1 ∨ f = 2 ∨ f = 3) with rfl | rfl | rfl | rfl <;> simp [after]
 ·rw [h]; omega
theorem num_err (l : List UInt8) (h : (num l).2.2 ≠ 0) : (num l).1 = 0 ∧ (num l).2.1 = 0 := by
 rcases num_cases l with ⟨h0, _⟩ | ⟨_, h1, h2⟩
 ·exact absurd h0 h
 ·exact ⟨h1, h2⟩
theorem txt_bad {l : List UInt8} {most : Int} (h : (num l).2.2 ≠ 0) : txt l most = ([], 0, (num l).2.2) := by unfold txt; rw [if_pos h]
theorem txt_long {l : List UInt8} {most : Int} (h : (num l).2.2 = 0) (h2 : most < 0 ∨ most < ((num l).1 : Int)) : txt l most = ([], 0, 3) := by unfold txt; rw [if_neg (by omega), if_pos h2]
theorem txt_short {l : List UInt8} {most : Int} (h : (num l).2.2 = 0) (h2 : ¬ (most < 0 ∨ most < ((num l).1 : Int))) (h3 : l.length - (num l).2.1 < (num l).1) : txt l most = ([], 0, 2) := by unfold txt; rw [if_neg (by omega), if_neg h2, if_pos h3]
theorem txt_whole {l : List UInt8} {most : Int} (h : (num l).2.2 = 0) (h2 : ¬ (most < 0 ∨ most < ((num l).1 : Int))) (h3 : ¬ l.length - (num l).2.1 < (num l).1) : txt l most = ((l.drop (num l).2.1).take (num l).1, (num l).2.1 + (num l).1, 0) := by unfold txt; rw [if_neg (by omega), if_neg h2, if_neg h3]
theorem txt_size (l : List UInt8) (most : Int) : (txt l most).2.1 ≤ l.length := by
 have := num_size l
 unfold txt
 split
 ·simp
 ·split
  ·simp
  ·split
   ·simp
   ·simp only; omega
end Go.Proofs.YteaglaijkafphaaDoor.Ty
namespace Go.Proofs.YteaglaijkafphaaDoor.Ty
theorem head_is (n : Nat) : (head n).toNat = 64 * form n + (if form n = 3 then 0 else n / 256 ^ after (form n)) ∧ (form n ≠ 3 → n / 256 ^ after (form n) < 64) := by
 rcases form_is n with ⟨h1, h⟩ | ⟨_, h1, h⟩ | ⟨_, h1, h⟩ | ⟨_, h⟩
 ·have e : n / 256 ^ 0 = n := by simp
  refine ⟨?_, fun _ => by rw [h]; show n / 256 ^ 0 < 64; omega⟩
  unfold head
  rw [h, toNat_ofNat8 _ (by rw [if_neg (by omega)]; show 64 * 0 + n / 256 ^ 0 < 256; omega)]
 ·have e : (256 : Nat) ^ 1 = 256 := by decide
  refine ⟨?_, fun _ => by rw [h]; show n / 256 ^ 1 < 64; omega⟩
  unfold head
  rw [h, toNat_ofNat8 _ (by rw [if_neg (by omega)]; show 64 * 1 + n / 256 ^ 1 < 256; omega)]
 ·have e : (256 : Nat) ^ 3 = 16777216 := by decide
  refine ⟨?_, fun _ => by rw [h]; show n / 256 ^ 3 < 64; omega⟩
  unfold head
  rw [h, toNat_ofNat8 _ (by rw [if_neg (by omega)]; show 64 * 2 + n / 256 ^ 3 < 256; omega)]
 ·refine ⟨?_, fun hh => absurd h hh⟩
  unfold head
  rw [h, toNat_ofNat8 _ (by rw [if_pos rfl]; omega)]
end Go.Proofs.YteaglaijkafphaaDoor.Ty
namespace Go.Proofs.YteaglaijkafphaaDoor.Ty
theorem low_at : ∀ (a n j : Nat), j < a → (low a n).getD j 0 = UInt8.ofNat (n / 256 ^ (a - 1 - j) % 256)
 | 0, _, _, h => by omega
 | a + 1, n, 0, _ => by rw [low_succ]; simp
 | a + 1, n, j + 1, h => by
   rw [low_succ, List.getD_cons_succ, low_at a n j (by omega), show a + 1 - 1 - (j + 1) = a - 1 - j by omega]
theorem head_mod (n : Nat) (hn : U64 n) : (head n).toNat % 64 = n / 256 ^ after (form n) ∧ (head n).toNat / 64 = form n ∧ (head n).toNat ≤ 192 := by
 obtain ⟨h1, h2⟩ := head_is n
 have := form_le n
 by_cases h3 : form n = 3
 ·have e8 : (256 : Nat) ^ 8 = 18446744073709551616 := by decide
  have ed : n / 256 ^ 8 = 0 := by unfold U64 at hn; omega
  rw [if_pos h3] at h1
  rw [h1, h3]
  refine ⟨?_, by omega, by omega⟩
  show 192 % 64 = n / 256 ^ 8
  omega
 ·rw [if_neg h3] at h1
  have hq := h2 h3
  rw [h1]
  generalize n / 256 ^ after (form n) = q at hq ⊢
  exact ⟨by omega, by omega, by omega⟩
theorem at_zero (n : Nat) (r : List UInt8) : (encU n ++ r).getD 0 0 = head n := rfl
theorem at_succ (n : Nat) (r : List UInt8) (j : Nat) (h : j < after (form n)) : (encU n ++ r).getD (j + 1) 0 = UInt8.ofNat (n / 256 ^ (after (form n) - 1 - j) % 256) := by
 rw [encU_split, List.append_assoc, List.singleton_append, List.getD_cons_succ, ← low_at _ n j h]
 rw [List.getD, List.getD, List.getElem?_append_left (by rw [low_length]; exact h)]
theorem pv_encU (n : Nat) (hn : U64 n) (r : List UInt8) : ∀ j, j ≤ after (form n) → pv (encU n ++ r) (j + 1) = n / 256 ^ (after (form n) - j)
 | 0, _ => by
   show ((encU n ++ r).getD 0 0).toNat % 64 = _
   rw [at_zero, (head_mod n hn).1, Nat.sub_zero]
 | j + 1, h => by
   rw [pv_succ _ (j + 1) (by omega), pv_encU n hn r j (by omega), at_succ n r j (by omega), toNat_ofNat8 _ (Nat.mod_lt _ (by omega))]
   have e : after (form n) - j = after (form n) - 1 - j + 1 := by omega
   rw [e, Nat.pow_succ, ← Nat.div_div_eq_div_mul, show after (form n) - (j + 1) = after (form n) - 1 - j by omega]
   omega
theorem small_le (n : Nat) : small (form n) ≤ n := by
 rcases form_is n with ⟨_, h⟩ | ⟨_, _, h⟩ | ⟨_, _, h⟩ | ⟨_, h⟩ <;> rw [h] <;> simp only [small] <;> omega
theorem num_encU (n : Nat) (hn : U64 n) (r : List UInt8) : num (encU n ++ r) = (n, (encU n).length, 0) := by
 obtain ⟨_, h2, h3⟩ := head_mod n hn
 have hp := pv_encU n hn r (after (form n)) (Nat.le_refl _)
 rw [Nat.sub_self, Nat.pow_zero, Nat.div_one] at hp
 have hl : (encU n ++ r).length = 1 + after (form n) + r.length := by rw [List.length_append, encU_length]
 have e : 1 + after (form n) = after (form n) + 1 := by omega
 rw [num_whole (f := form n) (by omega) (by rw [at_zero]; omega) (by rw [at_zero]; exact h2) (by omega) (by rw [e, hp]; have := small_le n; omega), e, hp, encU_length, e]
theorem pv_div (l : List UInt8) : ∀ (d j : Nat), pv l (j + d + 1) / 256 ^ d = pv l (j + 1)
 | 0, j => by simp
 | d + 1, j => by
   have ih := pv_div l d j
   have hb := (l.getD (j + d + 1) 0).toNat_lt
   rw [show j + (d + 1) + 1 = j + d + 1 + 1 by omega, pv_succ l (j + d + 1) (by omega), Nat.pow_succ, Nat.mul_comm (256 ^ d) 256, ← Nat.div_div_eq_div_mul, ← ih]
   congr 1
   omega
theorem pv_form (l : List UInt8) (f : Nat) (hf : f ≤ 3) (h3 : f = 3 → (l.getD 0 0).toNat % 64 = 0) (hs : small f ≤ pv l (1 + after f)) : form (pv l (1 + after f)) = f := by
 rcases (by omega : f = 0 ∨ f = 1 ∨ f = 2 ∨ f = 3) with rfl | rfl | rfl | rfl
 ·have h1 := pv_lt l 0
  have hs' : 0 ≤ pv l (0 + 1) := by omega
  show form (pv l (0 + 1)) = 0
  unfold form; rw [if_pos (by omega)]
 ·have h1 := pv_lt l 1
  have hs' : 64 ≤ pv l (1 + 1) := hs
  show form (pv l (1 + 1)) = 1
  unfold form; rw [if_neg (by omega), if_pos (by omega)]
 ·have h1 := pv_lt l 3
  have hs' : 16384 ≤ pv l (3 + 1) := hs
  show form (pv l (3 + 1)) = 2
  unfold form; rw [if_neg (by omega), if_neg (by omega), if_pos (by omega)]
 ·have hs' : 1073741824 ≤ pv l (8 + 1) := hs
  show form (pv l (8 + 1)) = 3
  unfold form; rw [if_neg (by omega), if_neg (by omega), if_neg (by omega)]
theorem low_pv (l : List UInt8) : ∀ (a m : Nat), m + a + 1 ≤ l.length → low a (pv l (m + a + 1)) = (l.drop (m + 1)).take a
 | 0, m, _ => by simp [low]
 | a + 1, m, h => by
   rw [low_succ, show m + (a + 1) + 1 = (m + 1) + a + 1 by omega, low_pv l a (m + 1) (by omega), pv_div l a (m + 1), pv_succ l (m + 1) (by omega)]
   have hb := (l.getD (m + 1) 0).toNat_lt
   have hl : m + 1 < l.length := by omega
   rw [List.drop_eq_getElem_cons hl, List.take_succ_cons]
   congr 1
   have e : l.getD (m + 1) 0 = l[m + 1] := by rw [List.getD, List.getElem?_eq_getElem hl]; rfl
   rw [e] at hb ⊢
   rw [show (pv l (m + 1) * 256 + l[m + 1].toNat) % 256 = l[m + 1].toNat by omega]
   simp
theorem encU_num (l : List UInt8) (h : (num l).2.2 = 0) : encU (num l).1 = l.take (num l).2.1 ∧ (num l).2.1 ≤ l.length := by
 rcases num_cases l with ⟨_, hne, f, hf, h1, h2, h3, e, hl, hs⟩ | ⟨h', _⟩
 ·rw [e]
  refine ⟨?_, hl⟩
  have h30 : f = 3 → (l.getD 0 0).toNat % 64 = 0 := by intro h; subst h; omega
  have hfm := pv_form l f hf h30 hs
  show encU (pv l (1 + after f)) = l.take (1 + after f)
  unfold encU
  rw [hfm]
  have hp := low_pv l (after f) 0 (by omega)
  rw [show 0 + after f + 1 = 1 + after f by omega, Nat.zero_add] at hp
  rw [hp]
  obtain ⟨b, r, rfl⟩ : ∃ b r, l = b :: r := by cases l with
   | nil => exact absurd rfl hne
   | cons b r => exact ⟨b, r, rfl⟩
  rw [show 1 + after f = after f + 1 by omega, List.take_succ_cons, List.drop_one, List.tail_cons]
  congr 1
  apply UInt8.toNat_inj.1
  rw [(head_is _).1, show after f + 1 = 1 + after f by omega, hfm]
  have hd := pv_div (b :: r) (after f) 0
  rw [show 0 + after f + 1 = 1 + after f by omega] at hd
  have hb1 : pv (b :: r) (0 + 1) = b.toNat % 64 := rfl
  simp only [List.getD_cons_zero] at h1 h2 h3
  split
  ·rename_i h
   subst h
   omega
  ·rw [hd, hb1]
   omega
 ·omega
end Go.Proofs.YteaglaijkafphaaDoor.Ty
namespace Go.Proofs.YteaglaijkafphaaDoor.Bt
open Go
def num : Nat → (Nat → Bool) → Nat
 | 0, _ => 0
 | w + 1, g => num w g + (g w).toNat * 2 ^ w
theorem num_lt (w : Nat) (g : Nat → Bool) : num w g < 2 ^ w := by
 induction w with
 | zero => simp [num]
 | succ w ih =>
   have : (g w).toNat * 2 ^ w ≤ 2 ^ w := by cases g w <;> simp
   rw [Nat.pow_succ]
   unfold num
   omega
theorem testBit_num (w : Nat) (g : Nat → Bool) (j : Nat) : (num w g).testBit j = (decide (j < w) && g j) := by
 induction w with
 | zero => simp [num]
 | succ w ih =>
   have e : num (w + 1) g = 2 ^ w * (g w).toNat + num w g := by
    show num w g + (g w).toNat * 2 ^ w = _
    rw [Nat.mul_comm, Nat.add_comm]
   rw [e, Nat.testBit_two_pow_mul_add _ (num_lt w g), ih]
   by_cases h : j < w
   ·simp [h, Nat.lt_succ_of_lt h]
   ·rw [if_neg h]
    by_cases h2 : j = w
    ·subst h2
     cases g j <;> simp
    ·have h3 : ¬ j < w + 1 := by omega
     have h4 : (g w).toNat < 2 ^ (j - w) := Nat.lt_of_le_of_lt (Bool.toNat_le _) (Nat.one_lt_two_pow (by omega))
     rw [Nat.testBit_lt_two_pow h4]
     simp [h3]
theorem num_is {w n : Nat} {g : Nat → Bool} (hn : n < 2 ^ w) (h : ∀ j, j < w → n.testBit j = g j) : num w g = n := by
 refine Nat.eq_of_testBit_eq fun j => ?_
 rw [testBit_num]
 by_cases hj : j < w
 ·rw [h j hj]; simp [hj]
 ·rw [Nat.testBit_lt_two_pow (Nat.lt_of_lt_of_le hn (Nat.pow_le_pow_right (by decide) (by omega)))]
  simp [hj]
theorem num_congr {w : Nat} {g h : Nat → Bool} (e : ∀ j, j < w → g j = h j) : num w g = num w h := by
 refine num_is (num_lt w h) fun j hj => ?_
 rw [testBit_num, e j hj]
 simp [hj]
theorem num_add {w : Nat} {g : Nat → Bool} {j : Nat} (hj : j < w) (hg : g j = false) : num w g + 2 ^ j = num w (fun i => g i || decide (i = j)) := by
 induction w with
 | zero => omega
 | succ w ih =>
   unfold num
   by_cases e : j = w
   ·subst e
    have : num j g = num j (fun i => g i || decide (i = j)) := num_congr fun i hi => by
     have : i ≠ j := by omega
     simp [this]
    rw [← this, hg]
    simp
   ·rw [← ih (by omega)]
    have : ¬ w = j := by omega
    simp [this]
    omega
def oct (F : Nat → Bool) (i : Nat) : Nat := num 8 (fun j => F (8 * i + j))
theorem oct_lt (F : Nat → Bool) (i : Nat) : oct F i < 256 := num_lt 8 _
theorem oct_congr {F G : Nat → Bool} {i : Nat} (e : ∀ j, j < 8 → F (8 * i + j) = G (8 * i + j)) : oct F i = oct G i := num_congr e
theorem or_oct (g : Nat → Bool) (n k : Nat) : (num 8 g ||| (n * 2 ^ k % 256)) = num 8 (fun j => g j || (decide (k ≤ j) && n.testBit (j - k))) := by
 refine (num_is (Nat.or_lt_two_pow (n := 8) (num_lt 8 _) (Nat.mod_lt _ (by decide))) fun j hj => ?_).symm
 rw [Nat.testBit_or, testBit_num, Nat.testBit_mod_two_pow, Nat.testBit_mul_two_pow]
 simp [hj]
def laid (F : Nat → Bool) (at_ n : Nat) (x : Nat) : Bool := F x || (decide (x / 8 = at_ / 8) && (decide (at_ ≤ x) && n.testBit (x - at_)))
theorem laid_here (F : Nat → Bool) (at_ n : Nat) : (oct F (at_ / 8) ||| (n * 2 ^ (at_ % 8) % 256)) = oct (laid F at_ n) (at_ / 8) := by
 unfold oct
 rw [or_oct]
 refine num_congr fun j hj => ?_
 unfold laid
 have e1 : (8 * (at_ / 8) + j) / 8 = at_ / 8 := by omega
 have e2 : decide (at_ ≤ 8 * (at_ / 8) + j) = decide (at_ % 8 ≤ j) := by
  rw [decide_eq_decide]; omega
 have e3 : 8 * (at_ / 8) + j - at_ = j - at_ % 8 := by omega
 rw [e1, e2, e3]
 simp
theorem laid_far (F : Nat → Bool) (at_ n i : Nat) (h : i ≠ at_ / 8) : oct F i = oct (laid F at_ n) i := by
 refine oct_congr fun j hj => ?_
 unfold laid
 have e1 : ¬ (8 * i + j) / 8 = at_ / 8 := by omega
 simp [e1]
def putF (F : Nat → Bool) (at_ n : Nat) (x : Nat) : Bool := F x || (decide (at_ ≤ x) && n.testBit (x - at_))
def bit (s : ByteArray) (k : Nat) : Bool := (s.data.toList.getD (k / 8) 0).toNat.testBit (k % 8)
theorem length_data (s : ByteArray) : s.data.toList.length = s.size := by rw [Array.length_toList]; rfl
theorem at_getD (s : ByteArray) (k : Nat) (h : k < s.size) : s[k] = s.data.toList.getD k 0 := by
 have h2 : k < s.data.toList.length := by rw [length_data]; exact h
 rw [List.getD, List.getElem?_eq_getElem h2]; rfl
theorem bit_out (s : ByteArray) (k : Nat) (h : s.size ≤ k / 8) : bit s k = false := by
 unfold bit
 rw [List.getD, List.getElem?_eq_none (by rw [length_data]; exact h)]
 simp
def bytes (sz : Nat) (F : Nat → Bool) : ByteArray := ⟨((List.range sz).map fun i => UInt8.ofNat (oct F i)).toArray⟩
theorem size_bytes (sz : Nat) (F : Nat → Bool) : (bytes sz F).size = sz := by
 rw [← length_data]; simp [bytes]
theorem toNat_oct (F : Nat → Bool) (i : Nat) : (UInt8.ofNat (oct F i)).toNat = oct F i := by
 have := oct_lt F i
 simp [UInt8.toNat_ofNat']; omega
theorem bit_bytes (sz : Nat) (F : Nat → Bool) (k : Nat) : bit (bytes sz F) k = (decide (k < 8 * sz) && F k) := by
 by_cases h : k < 8 * sz
 ·have h2 : k / 8 < sz := by omega
  unfold bit bytes
  rw [List.getD, List.getElem?_map, List.getElem?_range h2]
  show (UInt8.ofNat (oct F (k / 8))).toNat.testBit (k % 8) = _
  rw [toNat_oct, oct, testBit_num]
  have e : 8 * (k / 8) + k % 8 = k := by omega
  have e2 : k % 8 < 8 := by omega
  simp [h, e, e2]
 ·rw [bit_out _ _ (by rw [size_bytes]; omega)]
  simp [h]
theorem bytes_congr {sz : Nat} {F G : Nat → Bool} (e : ∀ x, x < 8 * sz → F x = G x) : bytes sz F = bytes sz G := by
 unfold bytes
 congr 2
 refine List.map_congr_left fun i hi => ?_
 rw [List.mem_range] at hi
 rw [oct_congr fun j hj => e _ (by omega)]
theorem bytes_bit (s : ByteArray) : bytes s.size (bit s) = s := by
 unfold bytes
 have e : ((List.range s.size).map fun i => UInt8.ofNat (oct (bit s) i)) = s.data.toList := by
  refine List.ext_getElem (by rw [length_data]; simp) fun i h1 h2 => ?_
  have h3 : i < s.size := by simpa using h1
  rw [List.getElem_map, List.getElem_range]
  have e2 : oct (bit s) i = (s.data.toList[i]).toNat := by
   refine num_is (s.data.toList[i]).toNat_lt fun j hj => ?_
   have e3 : (8 * i + j) / 8 = i := by omega
   have e4 : (8 * i + j) % 8 = j := by omega
   unfold bit
   rw [e3, e4, List.getD, List.getElem?_eq_getElem h2]
   rfl
  rw [e2]
  simp
 rw [e]
theorem bytes_of {s : ByteArray} {sz : Nat} {F : Nat → Bool} (hs : s.size = sz) (e : ∀ x, x < 8 * sz → F x = bit s x) : bytes sz F = s := by
 subst hs
 rw [bytes_congr e, bytes_bit]
def need (n : Nat) : Nat := (n + 7) / 8
theorem need_room (n : Nat) : n ≤ 8 * need n ∧ 8 * need n < n + 8 := by unfold need; omega
def dirty (s : ByteArray) (n : Nat) : Bool := (List.range (8 * need n)).any fun k => decide (n ≤ k) && bit s k
theorem dirty_iff (s : ByteArray) (n : Nat) : dirty s n = true ↔ ∃ k, k < 8 * need n ∧ n ≤ k ∧ bit s k = true := by
 unfold dirty
 rw [List.any_eq_true]
 constructor
 ·rintro ⟨k, h1, h2⟩
  rw [List.mem_range] at h1
  simp at h2
  exact ⟨k, h1, h2.1, h2.2⟩
 ·rintro ⟨k, h1, h2, h3⟩
  exact ⟨k, List.mem_range.2 h1, by simp [h2, h3]⟩
theorem clean {s : ByteArray} {n k : Nat} (h : dirty s n = false) (h1 : k < 8 * need n) (h2 : n ≤ k) : bit s k = false := by
 rw [Bool.eq_false_iff]
 intro e
 rw [(dirty_iff s n).2 ⟨k, h1, h2, e⟩] at h
 cases h
def chk (s : ByteArray) (n : Nat) : Nat := if s.size < need n then 2 else if need n < s.size then 3 else if dirty s n = true then 5 else 0
theorem chk_ok {s : ByteArray} {n : Nat} (h : chk s n = 0) : s.size = need n ∧ dirty s n = false := by
 unfold chk at h
 split at h
 ·cases h
 ·split at h
  ·cases h
  ·split at h
   ·cases h
   ·rename_i h1 h2 h3
    exact ⟨by omega, by simpa using h3⟩
def Got (s : ByteArray) (at_ d n : Nat) : Prop := n < 2 ^ 64 ∧ ∀ j, n.testBit j = (decide (j < d) && (decide (j < 64) && bit s (at_ + j)))
theorem Got.zero (s : ByteArray) (at_ : Nat) : Got s at_ 0 0 := ⟨by decide, fun j => by simp⟩
theorem Got.next {s : ByteArray} {at_ d n : Nat} (h : Got s at_ d n) (hi : (at_ + d) / 8 < s.size) : Got s at_ (d + (8 - (at_ + d) % 8)) (n ||| (s[(at_ + d) / 8].toNat / 2 ^ ((at_ + d) % 8) * 2 ^ d % 2 ^ 64)) := by
 refine ⟨Nat.or_lt_two_pow h.1 (Nat.mod_lt _ (Nat.two_pow_pos _)), fun j => ?_⟩
 have hb := s[(at_ + d) / 8].toNat_lt
 rw [Nat.testBit_or, h.2 j, Nat.testBit_mod_two_pow, Nat.testBit_mul_two_pow, Nat.testBit_div_two_pow]
 by_cases h64 : j < 64
 ·by_cases h1 : j < d
  ·have h2 : j < d + (8 - (at_ + d) % 8) := by omega
   have h3 : ¬ d ≤ j := by omega
   simp [h64, h1, h2, h3]
  ·have h3 : d ≤ j := by omega
   by_cases h2 : j < d + (8 - (at_ + d) % 8)
   ·have e1 : (at_ + j) / 8 = (at_ + d) / 8 := by omega
    have e2 : (at_ + j) % 8 = j - d + (at_ + d) % 8 := by omega
    have e3 : bit s (at_ + j) = s[(at_ + d) / 8].toNat.testBit (j - d + (at_ + d) % 8) := by
     unfold bit
     rw [e1, e2, ← at_getD s _ hi]
    simp [h64, h1, h2, h3, e3]
   ·have e : s[(at_ + d) / 8].toNat.testBit (j - d + (at_ + d) % 8) = false :=
     Nat.testBit_lt_two_pow (Nat.lt_of_lt_of_le (by simpa using hb) (Nat.pow_le_pow_right (n := 2) (by decide) (by omega : 8 ≤ j - d + (at_ + d) % 8)))
    simp [h64, h1, h2, h3, e]
 ·simp [h64]
def orN : Nat → (Nat → Nat) → Nat
 | 0, _ => 0
 | n + 1, X => orN n X ||| X n
def wid (n : Nat) (X : Nat → Nat) : Nat := bitLen (orN n X)
def pk (n : Nat) (X : Nat → Nat) (w : Nat) (x : Nat) : Bool := decide (x < n * w) && (X (x / w)).testBit (x % w)
theorem div_mid {w i j : Nat} (hj : j < w) : (i * w + j) / w = i ∧ (i * w + j) % w = j := by
 constructor
 ·rw [Nat.mul_comm, Nat.mul_add_div (by omega), Nat.div_eq_of_lt hj]; rfl
 ·rw [Nat.mul_comm, Nat.mul_add_mod, Nat.mod_eq_of_lt hj]
theorem pk_at {n : Nat} (X : Nat → Nat) (w i j : Nat) (hi : i < n) (hj : j < w) : pk n X w (i * w + j) = (X i).testBit j := by
 obtain ⟨d, m⟩ := div_mid (i := i) hj
 have h : i * w + j < n * w := by
  have : (i + 1) * w ≤ n * w := Nat.mul_le_mul_right _ hi
  rw [Nat.succ_mul] at this
  omega
 unfold pk
 rw [d, m]
 simp [h]
theorem num_pk {n : Nat} {X : Nat → Nat} {w i : Nat} (hi : i < n) (h : X i < 2 ^ w) : num w (fun j => pk n X w (i * w + j)) = X i := num_is h fun j hj => (pk_at X w i j hi hj).symm
theorem mid_lt {n w i j : Nat} (hi : i < n) (hj : j < w) : i * w + j < n * w := by
 have : (i + 1) * w ≤ n * w := Nat.mul_le_mul_right _ hi
 rw [Nat.succ_mul] at this
 omega
theorem back {n : Nat} {X : Nat → Nat} {w i : Nat} (hi : i < n) (h : X i < 2 ^ w) : num w (fun j => bit (bytes (need (n * w)) (pk n X w)) (i * w + j)) = X i := by
 rw [← num_pk hi h]
 refine num_congr fun j hj => ?_
 have h1 := mid_lt hi hj
 have h2 := (need_room (n * w)).1
 have h3 : i * w + j < 8 * need (n * w) := by omega
 rw [bit_bytes]
 simp [h3]
theorem only {s : ByteArray} {n w : Nat} (h : chk s (n * w) = 0) : bytes (need (n * w)) (pk n (fun i => num w (fun j => bit s (i * w + j))) w) = s := by
 obtain ⟨hs, hd⟩ := chk_ok h
 refine bytes_of hs fun x hx => ?_
 unfold pk
 by_cases h1 : x < n * w
 ·have hw : 0 < w := by
   rcases Nat.eq_zero_or_pos w with h0 | h0
   ·subst h0; simp at h1
   ·exact h0
  have h2 : x % w < w := Nat.mod_lt _ hw
  have e : x / w * w + x % w = x := by rw [Nat.mul_comm]; exact Nat.div_add_mod x w
  simp [h1, testBit_num, h2, e]
 ·rw [clean hd hx (by omega)]
  simp [h1]
def tr (n : Nat) (T : Nat → Bool) (x : Nat) : Bool := decide (x < n) && T x
theorem tr_add (T : Nat → Bool) (i : Nat) (h : T i = true) : oct (tr i T) (i / 8) + 2 ^ (i % 8) = oct (tr (i + 1) T) (i / 8) := by
 unfold oct
 rw [num_add (by omega) (by unfold tr; have : ¬ 8 * (i / 8) + i % 8 < i := by omega
                            simp [this])]
 refine num_congr fun j hj => ?_
 unfold tr
 by_cases h1 : j = i % 8
 ·subst h1
  have e : 8 * (i / 8) + i % 8 = i := by omega
  simp [e, h]
 ·by_cases h2 : 8 * (i / 8) + j < i
  ·have h3 : 8 * (i / 8) + j < i + 1 := by omega
   simp [h1, h2, h3]
  ·have h3 : ¬ 8 * (i / 8) + j < i + 1 := by omega
   simp [h1, h2, h3]
theorem tr_far (T : Nat → Bool) (i k : Nat) (h : k ≠ i / 8) : oct (tr i T) k = oct (tr (i + 1) T) k := by
 refine oct_congr fun j hj => ?_
 unfold tr
 have : decide (8 * k + j < i) = decide (8 * k + j < i + 1) := by rw [decide_eq_decide]; omega
 rw [this]
end Go.Proofs.YteaglaijkafphaaDoor.Bt
