import Derived.Test.YteaglaijkafphaaDoorRows
import GoSem.Op.String
import Derived.WalkKit
import Derived.WalkSpells
import Derived.WalkLawsBesides
import Derived.Laws.StructEq
import Derived.Lib.QuietBelow
import Derived.Deep.RegionWith
import Derived.Deep.DeepCutAuto
import Derived.BigQuiet
import Derived.StillTailTactics
import Derived.Lib.Hide
import Derived.Deep.QuietTactic
import Derived.IntWalk
import Derived.Lib.AppendStr
import Derived.Laws.AppendOwnNone
import Derived.Laws.BitsLemmas
namespace Go.Proofs.YteaglaijkafphaaDoor.Kn
open Go
theorem bl_irrefl : ∀ l : List UInt8, Op.bytesLess l l = false
 | [] => rfl
 | a :: l => by simp [Op.bytesLess, bl_irrefl l]
theorem bl_total : ∀ a b : List UInt8, Op.bytesLess a b = true ∨ a = b ∨ Op.bytesLess b a = true
 | [], [] => .inr (.inl rfl)
 | [], _ :: _ => .inl rfl
 | _ :: _, [] => .inr (.inr rfl)
 | a :: x, b :: y => by
   rcases Nat.lt_trichotomy a.toNat b.toNat with h | h | h
   ·left; simp [Op.bytesLess, UInt8.lt_iff_toNat_lt, h]
   ·have e : a = b := UInt8.toNat_inj.1 h
    subst e
    rcases bl_total x y with g | g | g
    ·left; simp [Op.bytesLess, g]
    ·right; left; rw [g]
    ·right; right; simp [Op.bytesLess, g]
   ·right; right; simp [Op.bytesLess, UInt8.lt_iff_toNat_lt, h]
theorem bl_trans : ∀ a b c : List UInt8, Op.bytesLess a b = true → Op.bytesLess b c = true → Op.bytesLess a c = true
 | _, [], _, h, _ => by simp [Op.bytesLess] at h
 | _, _ :: _, [], _, h => by simp [Op.bytesLess] at h
 | [], _ :: _, _ :: _, _, _ => rfl
 | a :: x, b :: y, c :: z, h, k => by
   simp only [Op.bytesLess, Bool.or_eq_true, decide_eq_true_eq, Bool.and_eq_true, beq_iff_eq, UInt8.lt_iff_toNat_lt] at h k ⊢
   rcases h with h | ⟨rfl, h⟩ <;> rcases k with k | ⟨rfl, k⟩
   ·left; omega
   ·left; exact h
   ·left; exact k
   ·right; exact ⟨rfl, bl_trans x y z h k⟩
theorem bl_asymm (a b : List UInt8) (h : Op.bytesLess a b = true) : Op.bytesLess b a = false := by
 cases hb : Op.bytesLess b a with
 | false => rfl
 | true => have := bl_trans a b a h hb; rw [bl_irrefl] at this; cases this
structure V where
 null : Bool
 n : Int
 s : ByteArray
abbrev V.val (v : V) : Value := .agg #[.bool v.null, .int .i64 v.n, .string v.s]
def ncmp (a b : Int) : Int := if a < b then -1 else if b < a then 1 else 0
def lcmp (a b : List UInt8) : Int := if Op.bytesLess a b = true then -1 else if Op.bytesLess b a = true then 1 else 0
def scmp (a b : ByteArray) : Int := lcmp a.toList b.toList
def or2 (x y : Int) : Int := if x = 0 then y else x
def cmp (a b : V) : Int := if a.null = true then (if b.null = true then 0 else -1) else if b.null = true then 1 else or2 (ncmp a.n b.n) (scmp a.s b.s)
structure Fair (x y z x' y' z' : Int) : Prop where
 xr : -1 ≤ x ∧ x ≤ 1
 yr : -1 ≤ y ∧ y ≤ 1
 zr : -1 ≤ z ∧ z ≤ 1
 xa : x' = -x
 ya : y' = -y
 za : z' = -z
 le : x ≤ 0 → y ≤ 0 → z ≤ 0
 lt : x ≤ 0 → y ≤ 0 → z = 0 → x = 0 ∧ y = 0
 ge : x ≥ 0 → y ≥ 0 → z ≥ 0
 gt : x ≥ 0 → y ≥ 0 → z = 0 → x = 0 ∧ y = 0
theorem bl_ne {a b : List UInt8} (h : Op.bytesLess a b = true) : Op.bytesLess b a = false ∧ a ≠ b := ⟨bl_asymm a b h, fun e => by rw [e, bl_irrefl] at h; cases h⟩
theorem lcmp_lt {a b : List UInt8} (h : Op.bytesLess a b = true) : lcmp a b = -1 ∧ lcmp b a = 1 := by simp [lcmp, h, bl_asymm a b h]
theorem lcmp_self (a : List UInt8) : lcmp a a = 0 := by simp [lcmp, bl_irrefl]
theorem lcmp_zero (a b : List UInt8) : lcmp a b = 0 ↔ a = b := by
 rcases bl_total a b with h | rfl | h
 ·rw [(lcmp_lt h).1]; exact ⟨fun e => by omega, fun e => absurd e (bl_ne h).2⟩
 ·simp [lcmp_self]
 ·rw [(lcmp_lt h).2]; exact ⟨fun e => by omega, fun e => absurd e.symm (bl_ne h).2⟩
theorem ncmp_zero (a b : Int) : ncmp a b = 0 ↔ a = b := by unfold ncmp; repeat' split <;> omega
theorem or2_zero (x y : Int) : or2 x y = 0 ↔ x = 0 ∧ y = 0 := by unfold or2; split <;> omega
def same (a b : V) : Bool := (a.null && b.null) || ((!a.null && !b.null) && a.n == b.n && a.s.toList == b.s.toList)
theorem cmp_zero (a b : V) : (cmp a b == 0) = same a b := by
 rw [Bool.eq_iff_iff, beq_iff_eq]
 unfold cmp same
 cases a.null <;> cases b.null <;> simp [or2_zero, ncmp_zero, scmp, lcmp_zero]
end Go.Proofs.YteaglaijkafphaaDoor.Kn
namespace Go.Proofs.YteaglaijkafphaaDoor
open Go
structure Mf.P where
 id : Int
 lv : Int
 lo : Kn.V
 hi : Kn.V
structure Mf.E where
 drop : List Int
 add : List Mf.P
 floor : Int
 next : Int
structure Mf.S where
 parts : List Mf.P
 floor : Int
 next : Int
def Mf.nm (n : Int) : Bool := decide (0 ≤ n) && decide (n ≤ 999999999)
def Mf.key (v : Kn.V) : Bool := !v.null && decide (v.s.size ≤ 64)
def Mf.part (p : Mf.P) : Bool := Mf.nm p.id && (decide (0 ≤ p.lv) && decide (p.lv ≤ 3)) && Mf.key p.lo && Mf.key p.hi && decide (Kn.cmp p.lo p.hi ≤ 0)
def Mf.right (e : Mf.E) : Bool := decide (e.drop.length ≤ 1000) && decide (e.add.length ≤ 1000) && e.drop.all Mf.nm && e.add.all Mf.part && Mf.nm e.floor && Mf.nm e.next
theorem Mf.nm_iff (n : Int) : Mf.nm n = true ↔ 0 ≤ n ∧ n ≤ 999999999 := by simp [Mf.nm]
theorem Mf.right_iff (e : Mf.E) : Mf.right e = true ↔ e.drop.length ≤ 1000 ∧ e.add.length ≤ 1000 ∧ (∀ d ∈ e.drop, Mf.nm d = true) ∧ (∀ p ∈ e.add, Mf.part p = true) ∧ Mf.nm e.floor = true ∧ Mf.nm e.next = true := by
 unfold Mf.right
 simp only [Bool.and_eq_true, decide_eq_true_iff, List.all_eq_true, and_assoc]
def Mf.has (L : List Mf.P) (d : Int) : Bool := L.any fun p => p.id == d
def Mf.wo (L : List Mf.P) (d : Int) : List Mf.P := L.filter fun p => !(p.id == d)
def Mf.dr : List Mf.P → List Int → Option (List Mf.P)
 | L, [] => some L
 | L, d :: ds => if Mf.has L d = true then Mf.dr (Mf.wo L d) ds else none
def Mf.ad (n : Int) : List Mf.P → List Mf.P → Option (List Mf.P)
 | L, [] => some L
 | L, p :: ps => if n ≤ p.id ∨ Mf.has L p.id = true then none else Mf.ad n (L ++ [p]) ps
def Mf.ap (s : Mf.S) (e : Mf.E) : Option Mf.S :=
 if Mf.right e = true ∧ s.floor ≤ e.floor ∧ s.next ≤ e.next then
  match Mf.dr s.parts e.drop with
  | none => none
  | some L => match Mf.ad e.next L e.add with
    | none => none
    | some M => some ⟨M, e.floor, e.next⟩
 else none
theorem Mf.ap_not {s : Mf.S} {e : Mf.E} (h : Mf.right e = false ∨ e.floor < s.floor ∨ e.next < s.next) : Mf.ap s e = none := by
 unfold Mf.ap
 refine if_neg ?_
 rintro ⟨h1, h2, h3⟩
 rcases h with h | h | h
 ·rw [h] at h1; cases h1
 ·omega
 ·omega
theorem Mf.ap_is {s : Mf.S} {e : Mf.E} (h1 : Mf.right e = true) (h2 : ¬ e.floor < s.floor) (h3 : ¬ e.next < s.next) :
 Mf.ap s e = match Mf.dr s.parts e.drop with
 | none => none
 | some L => match Mf.ad e.next L e.add with
   | none => none
   | some M => some ⟨M, e.floor, e.next⟩ := by
 unfold Mf.ap
 rw [if_pos ⟨h1, by omega, by omega⟩]
theorem Mf.dr_step {L : List Mf.P} {ds : List Int} {k : Nat} {d : Int} (h : ds[k]? = some d) : Mf.dr L (ds.drop k) = if Mf.has L d = true then Mf.dr (Mf.wo L d) (ds.drop (k + 1)) else none := by
 obtain ⟨hk, rfl⟩ := List.getElem?_eq_some_iff.1 h
 rw [List.drop_eq_getElem_cons hk]
 rfl
theorem Mf.ad_step {n : Int} {L ps : List Mf.P} {k : Nat} {p : Mf.P} (h : ps[k]? = some p) : Mf.ad n L (ps.drop k) = if n ≤ p.id ∨ Mf.has L p.id = true then none else Mf.ad n (L ++ [p]) (ps.drop (k + 1)) := by
 obtain ⟨hk, rfl⟩ := List.getElem?_eq_some_iff.1 h
 rw [List.drop_eq_getElem_cons hk]
 rfl
theorem Mf.dr_end {L : List Mf.P} {ds : List Int} {k : Nat} (h : ¬ k < ds.length) : Mf.dr L (ds.drop k) = some L := by
 rw [List.drop_eq_nil_of_le (by omega)]
 rfl
theorem Mf.ad_end {n : Int} {L ps : List Mf.P} {k : Nat} (h : ¬ k < ps.length) : Mf.ad n L (ps.drop k) = some L := by
 rw [List.drop_eq_nil_of_le (by omega)]
 rfl
def Mf.at_ : List Mf.P → Int → Option Nat
 | [], _ => none
 | p :: L, d => if (p.id == d) = true then some 0 else (Mf.at_ L d).map (· + 1)
theorem Mf.has_not {L : List Mf.P} {d : Int} : Mf.has L d = false ↔ ∀ p ∈ L, p.id ≠ d := by
 unfold Mf.has
 rw [List.any_eq_false]
 simp
theorem Mf.wo_len (L : List Mf.P) (d : Int) : (Mf.wo L d).length ≤ L.length := List.length_filter_le _ _
theorem Mf.dr_len : ∀ {ds : List Int} {L M : List Mf.P}, Mf.dr L ds = some M → M.length ≤ L.length
 | [], L, M, h => by obtain rfl : L = M := by simpa [Mf.dr] using h
                     exact Nat.le_refl _
 | d :: ds, L, M, h => by
   unfold Mf.dr at h
   split at h
   ·exact Nat.le_trans (Mf.dr_len h) (Mf.wo_len _ _)
   ·cases h
theorem Mf.ad_len : ∀ {n : Int} {ps L M : List Mf.P}, Mf.ad n L ps = some M → M.length = L.length + ps.length
 | n, [], L, M, h => by obtain rfl : L = M := by simpa [Mf.ad] using h
                        simp
 | n, p :: ps, L, M, h => by
   unfold Mf.ad at h
   split at h
   ·cases h
   ·have := Mf.ad_len h
    simp at this ⊢
    omega
theorem Mf.ap_some {s t : Mf.S} {e : Mf.E} (h : Mf.ap s e = some t) : Mf.right e = true ∧ s.floor ≤ e.floor ∧ s.next ≤ e.next ∧ t.floor = e.floor ∧ t.next = e.next ∧ ∃ L, Mf.dr s.parts e.drop = some L ∧ Mf.ad e.next L e.add = some t.parts := by
 unfold Mf.ap at h
 split at h
 ·rename_i h0
  obtain ⟨h1, h2, h3⟩ := h0
  cases hd : Mf.dr s.parts e.drop with
  | none => rw [hd] at h; cases h
  | some L =>
    rw [hd] at h
    simp only at h
    cases ha : Mf.ad e.next L e.add with
    | none => rw [ha] at h; cases h
    | some M =>
      rw [ha] at h
      simp only [Option.some.injEq] at h
      subst h
      exact ⟨h1, h2, h3, rfl, rfl, L, rfl, ha⟩
 ·cases h
theorem Mf.ap_len {s t : Mf.S} {e : Mf.E} (h : Mf.ap s e = some t) : t.parts.length ≤ s.parts.length + 1000 := by
 obtain ⟨hr, _, _, _, _, L, h1, h2⟩ := Mf.ap_some h
 have := Mf.dr_len h1
 have := Mf.ad_len h2
 have := ((Mf.right_iff e).1 hr).2.1
 omega
structure Mf.Ok (s : Mf.S) : Prop where
 uniq : (s.parts.map (·.id)).Nodup
 below : ∀ p ∈ s.parts, p.id < s.next
 part : ∀ p ∈ s.parts, Mf.part p = true
theorem Mf.Ok.none : Mf.Ok ⟨[], 0, 0⟩ := ⟨List.nodup_nil, (fun _ h => nomatch h), (fun _ h => nomatch h)⟩
theorem Mf.dr_sub : ∀ {ds : List Int} {L M : List Mf.P}, Mf.dr L ds = some M → M.Sublist L
 | [], L, M, h => by obtain rfl : L = M := by simpa [Mf.dr] using h
                     exact List.Sublist.refl _
 | d :: ds, L, M, h => by
   unfold Mf.dr at h
   split at h
   ·exact (Mf.dr_sub h).trans List.filter_sublist
   ·cases h
theorem Mf.ad_ok : ∀ {n : Int} {ps L M : List Mf.P}, Mf.ad n L ps = some M → (L.map (·.id)).Nodup → (∀ p ∈ L, p.id < n) → (∀ p ∈ L, Mf.part p = true) → (∀ p ∈ ps, Mf.part p = true) →
 (M.map (·.id)).Nodup ∧ (∀ p ∈ M, p.id < n) ∧ (∀ p ∈ M, Mf.part p = true)
 | n, [], L, M, h, h1, h2, h3, _ => by
   obtain rfl : L = M := by simpa [Mf.ad] using h
   exact ⟨h1, h2, h3⟩
 | n, p :: ps, L, M, h, h1, h2, h3, h4 => by
   unfold Mf.ad at h
   split at h
   ·cases h
   ·rename_i hn
    have hn1 : p.id < n := by
     by_cases h : p.id < n
     ·exact h
     ·exact absurd (Or.inl (by omega)) hn
    have hn2 : Mf.has L p.id = false := by
     cases hh : Mf.has L p.id with
     | false => rfl
     | true => exact absurd (Or.inr hh) hn
    refine Mf.ad_ok h ?_ ?_ ?_ fun q hq => h4 q (by simp [hq])
    ·rw [List.map_append, List.nodup_append]
     refine ⟨h1, by simp, fun a ha b hb => ?_⟩
     obtain ⟨q, hq, rfl⟩ := List.mem_map.1 ha
     have hb : b = p.id := by simpa using hb
     rw [hb]
     exact Mf.has_not.1 hn2 q hq
    ·intro q hq
     rcases List.mem_append.1 hq with hq | hq
     ·exact h2 q hq
     ·obtain rfl : q = p := by simpa using hq
      exact hn1
    ·intro q hq
     rcases List.mem_append.1 hq with hq | hq
     ·exact h3 q hq
     ·obtain rfl : q = p := by simpa using hq
      exact h4 q (by simp)
theorem Mf.Ok.step {s t : Mf.S} {e : Mf.E} (hs : Mf.Ok s) (h : Mf.ap s e = some t) : Mf.Ok t := by
 obtain ⟨hr, _, hn, _, ht, L, h1, h2⟩ := Mf.ap_some h
 have hsub := Mf.dr_sub h1
 have hr := (Mf.right_iff e).1 hr
 obtain ⟨a, b, c⟩ := Mf.ad_ok h2 (List.Nodup.sublist (hsub.map _) hs.uniq) (fun p hp => by have := hs.below p (hsub.subset hp); omega) (fun p hp => hs.part p (hsub.subset hp)) hr.2.2.2.1
 exact ⟨a, by rw [ht]; exact b, c⟩
def Mf.snap (s : Mf.S) : Mf.E := ⟨[], s.parts, s.floor, s.next⟩
end Go.Proofs.YteaglaijkafphaaDoor
namespace Go.Proofs.YteaglaijkafphaaDoor
open Go.RowKit
set_option maxRecDepth 100000 in
theorem Kn.isNaNi_c (a : Int) (w : World) : Calls Tryd.prog 104 #[.int .i64 a] w fun e w' => e = .returned (.bool false) ∧ w' = w := by
 go_enter Tryd.func104, Tryd.ntmps104
 go_wp2
 go_ret
 exact ⟨rfl, rfl⟩
set_option maxRecDepth 100000 in
theorem Kn.isNaNs_c (a : ByteArray) (w : World) : Calls Tryd.prog 105 #[.string a] w fun e w' => e = .returned (.bool false) ∧ w' = w := by
 go_enter Tryd.func105, Tryd.ntmps105
 go_wp2
 go_ret
 exact ⟨rfl, rfl⟩
set_option maxRecDepth 100000 in
theorem Kn.cmpi_c (a b : Int) (w : World) : Calls Tryd.prog 88 #[.int .i64 a, .int .i64 b] w fun e w' => e = .returned (.int .i64 (Kn.ncmp a b)) ∧ w' = w := by
 have hc : (a < b ∧ Kn.ncmp a b = -1) ∨ (¬ a < b ∧ b < a ∧ Kn.ncmp a b = 1) ∨ (¬ a < b ∧ ¬ b < a ∧ Kn.ncmp a b = 0) := by unfold Kn.ncmp; repeat' split <;> omega
 rcases hc with ⟨h1, h⟩ | ⟨h1, h2, h⟩ | ⟨h1, h2, h⟩
 all_goals
  rw [h]
  go_enter Tryd.func88, Tryd.ntmps88
  go_wp2_with fail
  refine (Kn.isNaNi_c _ _).mono ?_
  rintro e w1 ⟨rfl, rfl⟩
  go_wp2_with fail
  refine (Kn.isNaNi_c _ _).mono ?_
  rintro e w1 ⟨rfl, rfl⟩
  go_wp2
  go_ret
  exact ⟨rfl, rfl⟩
set_option maxRecDepth 100000 in
theorem Kn.cmps_c (a b : ByteArray) (w : World) : Calls Tryd.prog 89 #[.string a, .string b] w fun e w' => e = .returned (.int .i64 (Kn.scmp a b)) ∧ w' = w := by
 have hc : (Op.bytesLess a.toList b.toList = true ∧ Kn.scmp a b = -1) ∨ (Op.bytesLess a.toList b.toList = false ∧ (a.toList == b.toList) = false ∧ Kn.scmp a b = 1) ∨ (Op.bytesLess a.toList b.toList = false ∧ (a.toList == b.toList) = true ∧ Kn.scmp a b = 0) := by
  unfold Kn.scmp Kn.lcmp
  rcases Kn.bl_total a.toList b.toList with h | h | h
  ·left; rw [h]; exact ⟨rfl, rfl⟩
  ·right; right; rw [h, Kn.bl_irrefl]; exact ⟨rfl, by simp, rfl⟩
  ·right; left; rw [h, (Kn.bl_ne h).1]; exact ⟨rfl, by rw [beq_eq_false_iff_ne]; exact fun e => (Kn.bl_ne h).2 e.symm, rfl⟩
 rcases hc with ⟨h1, h⟩ | ⟨h1, h2, h⟩ | ⟨h1, h2, h⟩
 all_goals
  rw [h]
  go_enter Tryd.func89, Tryd.ntmps89
  go_wp2_with fail
  refine (Kn.isNaNs_c _ _).mono ?_
  rintro e w1 ⟨rfl, rfl⟩
  go_wp2_with fail
  refine (Kn.isNaNs_c _ _).mono ?_
  rintro e w1 ⟨rfl, rfl⟩
  go_wp2
  go_ret
  exact ⟨rfl, rfl⟩
set_option maxRecDepth 100000 in
theorem Kn.or_c (b : Nat) (x y : Int) (w : World) (h0 : w.cell? ⟨b, 0, none⟩ = some (.int .i64 x)) (h1 : w.cell? ⟨b, 1, none⟩ = some (.int .i64 y)) :
 Calls Tryd.prog 87 #[.slice (some ⟨b, 0, none⟩) 2 2] w fun e w' => e = .returned (.int .i64 (Kn.or2 x y)) ∧ w' = w := by
 have hc : ((x != 0) = true ∧ Kn.or2 x y = x) ∨ ((x != 0) = false ∧ (y != 0) = true ∧ Kn.or2 x y = y) ∨ ((x != 0) = false ∧ (y != 0) = false ∧ Kn.or2 x y = 0) := by
  unfold Kn.or2
  by_cases hx : x = 0 <;> by_cases hy : y = 0 <;> simp [hx, hy]
 rcases hc with ⟨h2, h⟩ | ⟨h2, h3, h⟩ | ⟨h2, h3, h⟩
 ·rw [h]
  go_enter Tryd.func87, Tryd.ntmps87
  go_wp2_with fail
  refine wp_loop_rounds 3 ?_; rw [rounds_succ]
  go_wp2
  go_ret
  exact ⟨rfl, rfl⟩
 ·rw [h]
  go_enter Tryd.func87, Tryd.ntmps87
  go_wp2_with fail
  refine wp_loop_rounds 3 ?_; rw [rounds_succ]
  go_wp2
  rw [rounds_succ]
  go_wp2
  go_ret
  exact ⟨rfl, rfl⟩
 ·rw [h]
  go_enter Tryd.func87, Tryd.ntmps87
  go_wp2_with fail
  refine wp_loop_rounds 3 ?_; rw [rounds_succ]
  go_wp2
  rw [rounds_succ]
  go_wp2
  rw [rounds_succ]
  go_wp2
  go_ret
  exact ⟨rfl, rfl⟩
set_option maxRecDepth 100000 in
theorem Kn.new2 (w : World) (x y : Value) (t : TypeId) (b : Nat) (hb : b = w.heap.size) : (w.alloc (.cells #[x, y] t)).drew.cell? ⟨b, 0, none⟩ = some x ∧ (w.alloc (.cells #[x, y] t)).drew.cell? ⟨b, 1, none⟩ = some y := by
 subst hb
 have h := heap_alloc_new w (.cells #[x, y] t)
 show (w.alloc (.cells #[x, y] t)).cell? ⟨w.heap.size, 0, none⟩ = some x ∧ (w.alloc (.cells #[x, y] t)).cell? ⟨w.heap.size, 1, none⟩ = some y
 unfold World.cell?
 simp only [h]
 exact ⟨rfl, rfl⟩
set_option maxRecDepth 100000 in
set_option maxHeartbeats 400000 in
theorem Kn.compare_c (a b : Kn.V) (w : World) : Calls Tryd.prog 65 #[a.val, b.val] w fun e w' => e = .returned (.int .i64 (Kn.cmp a b)) ∧ Below w.heap.size w w' := by
 obtain ⟨an, ai, sa⟩ := a
 obtain ⟨bn, bi, sb⟩ := b
 unfold Kn.V.val
 cases an <;> cases bn
 ·have h : Kn.cmp ⟨false, ai, sa⟩ ⟨false, bi, sb⟩ = Kn.or2 (Kn.ncmp ai bi) (Kn.scmp sa sb) := rfl
  rw [h]
  go_enter Tryd.func65, Tryd.ntmps65
  go_wp2_with fail
  refine wp_region_still_tail 10 (by kernel_rfl) (by kernel_rfl) ?_
  simp only [List.take_succ_cons, List.take_zero, List.drop_succ_cons, List.drop_zero]
  change wpStill _ _ (World.drew _) (fun a' => wpList _ _ _ _ a' (World.drew _)) _ _
  still_step
  still_step
  still_step
  still_step
  still_call (Kn.cmpi_c ai bi _)
  still_step
  still_step
  still_step
  still_step
  still_call (Kn.cmps_c sa sb _)
  refine wpStill_nil ?_
  go_wp2_with fail
  refine (Kn.or_c _ (Kn.ncmp ai bi) (Kn.scmp sa sb) _ (Kn.new2 _ _ _ _ _ (by simp)).1 (Kn.new2 _ _ _ _ _ (by simp)).2).mono ?_
  rintro e wc ⟨rfl, rfl⟩
  go_wp2
  go_ret
  exact ⟨rfl, ((((Below.refl _ w).alloc (Nat.le_refl _) _).alloc (by simp) _).alloc (by simp; omega) _).drew⟩
 all_goals
  go_enter Tryd.func65, Tryd.ntmps65
  go_wp2
  go_ret
  exact ⟨rfl, ((Below.refl _ w).alloc (Nat.le_refl _) _).alloc (by simp) _⟩
end Go.Proofs.YteaglaijkafphaaDoor
namespace Go.Proofs.YteaglaijkafphaaDoor
open Go.RowKit
theorem Kn.below_drewN {B : Nat} {w w' : World} (h : Below B w w') (n : Nat) : Below B w (w'.drewN n) := ⟨h.os, h.tape, h.output, h.size, h.block⟩
structure Kn.At (w : World) (b o : Nat) (v : Kn.V) : Prop where
 c0 : w.cell? ⟨b, o, none⟩ = some (.bool v.null)
 c1 : w.cell? ⟨b, o + 1, none⟩ = some (.int .i64 v.n)
 c2 : w.cell? ⟨b, o + 2, none⟩ = some (.string v.s)
theorem Kn.At.lt {w : World} {b o : Nat} {v : Kn.V} (h : Kn.At w b o v) : b < w.heap.size := World.block_lt_of_cell? w _ h.c0
theorem Kn.At.later {w w' : World} {b o : Nat} {v : Kn.V} (h : Kn.At w b o v) (g : Below w.heap.size w w') : Kn.At w' b o v :=
 ⟨(g.cell (p := ⟨b, o, none⟩) h.lt).trans h.c0, (g.cell (p := ⟨b, o + 1, none⟩) h.lt).trans h.c1, (g.cell (p := ⟨b, o + 2, none⟩) h.lt).trans h.c2⟩
theorem Kn.cell_new (w : World) (cs : Array Value) (t : TypeId) (i : Nat) (v : Value) (h : cs[i]? = some v) : (w.alloc (.cells cs t)).cell? ⟨w.heap.size, i, none⟩ = some v := by
 have e := heap_alloc_new w (.cells cs t)
 unfold World.cell?
 simp only [e]
 exact h
theorem Kn.At.new (w : World) (v : Kn.V) (t : TypeId) : Kn.At (w.alloc (.cells #[.bool v.null, .int .i64 v.n, .string v.s] t)) w.heap.size 0 v :=
 ⟨Kn.cell_new w _ t 0 _ rfl, Kn.cell_new w _ t 1 _ rfl, Kn.cell_new w _ t 2 _ rfl⟩
theorem Kn.At.alloc {w : World} {b o : Nat} {v : Kn.V} (h : Kn.At w b o v) (x : Obj) : Kn.At (w.alloc x) b o v := h.later ((Below.refl _ w).alloc (Nat.le_refl _) x)
def Kn.Z (a : Kn.V) : Prop := a.s.size ≤ 140737488351232
end Go.Proofs.YteaglaijkafphaaDoor
namespace Go.Proofs.YteaglaijkafphaaDoor.Ty
open Go Go.RowKit
structure Grew (w w' : World) (v v' : Value) : Prop where
 by_ : w.grownBy w' v.ownBlock
 own : v'.ownBlock = v.ownBlock ∨ ∃ k, v'.ownBlock = some k ∧ w.heap.size ≤ k
theorem Grew.refl (w : World) (v : Value) : Grew w w v v := ⟨⟨rfl, rfl, rfl, Nat.le_refl _, fun _ _ _ => rfl⟩, .inl rfl⟩
theorem Grew.trans {w w1 w2 : World} {v v1 v2 : Value} (h : Grew w w1 v v1) (k : Grew w1 w2 v1 v2) : Grew w w2 v v2 := by
 refine ⟨⟨k.by_.os.trans h.by_.os, k.by_.tape.trans h.by_.tape, k.by_.output.trans h.by_.output, Nat.le_trans h.by_.size k.by_.size, fun i hi hne => ?_⟩, ?_⟩
 ·refine (k.by_.block i (Nat.lt_of_lt_of_le hi h.by_.size) ?_).trans (h.by_.block i hi hne)
  rcases h.own with e | ⟨j, e, hj⟩
  ·rw [e]; exact hne
  ·rw [e]; intro e2; have := Option.some.inj e2; omega
 ·rcases k.own with e | ⟨j, e, hj⟩
  ·rcases h.own with e' | ⟨i, e', hi⟩
   ·exact .inl (e.trans e')
   ·exact .inr ⟨i, e.trans e', hi⟩
  ·exact .inr ⟨j, e, Nat.le_trans h.by_.size hj⟩
theorem Grew.behind {w w' : World} {v v' : Value} (o : Obj) (h : Grew (w.alloc o) w' v v') : Grew w w' v v' := by
 refine ⟨⟨h.by_.os, h.by_.tape, h.by_.output, by have := h.by_.size; simp at this; omega, fun i hi hne => ?_⟩, ?_⟩
 ·exact (h.by_.block i (by simp; omega) hne).trans (Below.heap_alloc w o i hi)
 ·rcases h.own with e | ⟨j, e, hj⟩
  ·exact .inl e
  ·exact .inr ⟨j, e, by simp at hj; omega⟩
theorem Grew.drawn {w w' : World} {v v' : Value} (h : Grew w.drew w' v v') : Grew w w' v v' := ⟨⟨h.by_.os, h.by_.tape, h.by_.output, h.by_.size, h.by_.block⟩, h.own⟩
theorem Grew.below {w w' : World} {v v' : Value} (h : Grew w w' v v') {B : Nat} (hB : B ≤ w.heap.size) (hv : ∀ k, v.ownBlock = some k → B ≤ k) : Below B w w' :=
 ⟨h.by_.os, h.by_.tape, h.by_.output, h.by_.size, fun k hk => h.by_.block k (by omega) (fun e => by have := hv k e.symm; omega)⟩
section
variable {P : Program} (w : World)
theorem append_tight (base : Nat) (t ty e : TypeId) (i : TypeInfo) (z : Value) (size bytes : Nat) (ht : P.underlying t = some (.slice e)) (hi : P.info? e = some i) (hz : i.zero = some z)
 (hsize : i.size = size) (hby : i.bytes = bytes) (hzs : z.cells.size = size) (hsz : 0 < size)
 (v : Value) (n : Nat) (xs : List Value) (hown : w.ownsRow base e size v n xs)
 (a : Addr) (m c : Nat) (news : List Value) (hl : news.length = m * size) (hnews : ∀ j u, news[j]? = some u → w.cell? (a.add j) = some u) (h1 : ∀ u ∈ news, u.oneCell' = true)
 (h63 : n + m ≤ maxLen) (hbytes : (n + m) * bytes ≤ 140737488355328) (hbase : base ≤ w.heap.size) :
 ∃ v' w', (Builtin.append_ #[t, t] ty #[v, .slice (some a) m c]).run P w = .ok v' w' ∧ w'.ownsRow base e size v' (n + m) (xs ++ news) ∧ Grew w w' v v' := by
 obtain ⟨v', w', hr, ho, hg, hn⟩ := run_append_own (P := P) w base t ty e i z size bytes ht hi hz hsize hby hzs hsz v n xs hown a m c news hl hnews h1 h63 hbytes hbase
 refine ⟨v', w', hr, ho, hg, ?_⟩
 subst hsize; subst hby
 have hsmall : n + m ≤ 9223372036854775807 := by simp only [maxLen] at h63; omega
 rcases hown.2 with ⟨rfl, rfl⟩ | ⟨g, cap, cur, rfl, hbg, hgg, hnc, hcm, hcs, htake⟩
 ·by_cases hm : m = 0
  ·obtain rfl := hn.2 ⟨rfl, hm⟩
   exact .inl rfl
  ·have hr2 := run_append_nil (P := P) w t ty e i z ht hi hz a m c news hl hnews (by omega) (by omega) (by have hb := hbytes; simp only [Nat.zero_add] at hb; omega)
   rw [hr] at hr2
   injection hr2 with e1 _
   subst e1
   exact .inr ⟨_, rfl, Nat.le_refl _⟩
 ·by_cases hroom : n + m ≤ cap
  ·have hr2 := run_append_room (P := P) w t ty e i ht hi g n cap cur hgg a m c news hl hnews h1 hroom (by rw [hl, hcs, ← Nat.add_mul]; exact Nat.mul_le_mul_right _ hroom)
   rw [hr] at hr2
   injection hr2 with e1 _
   subst e1
   exact .inl rfl
  ·have hr2 := run_append_grow (P := P) w t ty e i z ht hi hz ⟨g, 0, none⟩ n cap xs hown.1 (hown.cells (g := g) rfl) a m c news hl hnews (by omega) (by omega) (growslice_fits (by omega) hbytes)
   rw [hr] at hr2
   injection hr2 with e1 _
   subst e1
   exact .inr ⟨_, rfl, Nat.le_refl _⟩
theorem append_tight_string (base : Nat) (t u ty e : TypeId) (i : TypeInfo) (ht : P.underlying t = some (.slice e)) (hu : P.underlying u = some .string) (hi : P.info? e = some i) (hz : i.zero = some (.int .u8 0))
 (hsize : i.size = 1) (hby : i.bytes = 1) (v : Value) (n : Nat) (xs : List Value) (hown : w.ownsRow base e 1 v n xs) (s : ByteArray)
 (h63 : n + s.size ≤ maxLen) (hbytes : n + s.size ≤ 140737488355328) (hbase : base ≤ w.heap.size) :
 ∃ v' w', (Builtin.append_ #[t, u] ty #[v, .string s]).run P w = .ok v' w' ∧ w'.ownsRow base e 1 v' (n + s.size) (xs ++ Lib.strCells s) ∧ Grew w w' v v' := by
 obtain ⟨v', w', hr, ho, hg, hn⟩ := Lib.run_append_own_string (P := P) w base t u ty e i ht hu hi hz hsize hby v n xs hown s h63 hbytes hbase
 refine ⟨v', w', hr, ho, hg, ?_⟩
 have hxl : xs.length = n := by simpa using hown.1
 rcases hown.2 with ⟨rfl, rfl⟩ | ⟨g, cap, cur, rfl, hbg, hgg, hnc, hcm, hcs, htake⟩
 ·by_cases hm : s.size = 0
  ·obtain rfl := hn.2 ⟨rfl, hm⟩
   exact .inl rfl
  ·have hr2 := run_append_nil_string (P := P) w t u ty e i (.int .u8 0) ht hu hi hz s (by omega) (by omega) (by rw [hby]; omega)
   rw [hr] at hr2
   injection hr2 with e1 _
   subst e1
   exact .inr ⟨_, rfl, Nat.le_refl _⟩
 ·by_cases hroom : n + s.size ≤ cap
  ·have hcs' : cur.size = cap := by simpa using hcs
   have hr2 := Lib.run_append_room_string (P := P) w t u ty e i ht hu hi hsize g n cap cur hgg s hroom (by omega)
   rw [hr] at hr2
   injection hr2 with e1 _
   subst e1
   exact .inl rfl
  ·have hr2 := Lib.run_append_grow_string (P := P) w t u ty e i (.int .u8 0) ht hu hi hz ⟨g, 0, none⟩ n cap xs (by rw [hsize]; simpa using hxl) (hown.cells (g := g) rfl) s (by omega) (by omega) (by rw [hby]; exact growslice_fits (by omega) (by omega))
   rw [hr] at hr2
   injection hr2 with e1 _
   subst e1
   exact .inr ⟨_, rfl, Nat.le_refl _⟩
theorem wpList_append_tight {ops : Array Oper} {rest : List Oper} {o : Oper} {a : Act} {Q : Exit → Act → World → Prop} (hgd : o.guard = none) (s x : Operand) (t : TypeId)
 (ho : o.op = .call { callee := .builtin .append, args := #[s, x], argTypes := #[t, t] })
 (base : Nat) (e : TypeId) (i : TypeInfo) (z : Value) (size bytes : Nat) (ht : P.underlying t = some (.slice e)) (hi : P.info? e = some i) (hz : i.zero = some z)
 (hsize : i.size = size) (hby : i.bytes = bytes) (hzs : z.cells.size = size) (hsz : 0 < size)
 (v : Value) (n : Nat) (xs : List Value) (hs : a.eval s = v) (hown : w.ownsRow base e size v n xs)
 (ad : Addr) (m c : Nat) (news : List Value) (hx : a.eval x = .slice (some ad) m c) (hl : news.length = m * size) (hnews : ∀ j u, news[j]? = some u → w.cell? (ad.add j) = some u) (h1 : ∀ u ∈ news, u.oneCell' = true)
 (h63 : n + m ≤ maxLen) (hbytes : (n + m) * bytes ≤ 140737488355328) (hbase : base ≤ w.heap.size)
 (h : ∀ v' w', w'.ownsRow base e size v' (n + m) (xs ++ news) → Grew w w' v v' → wpList P ops Q rest (a.put o.dst v') w') : wpList P ops Q (o :: rest) a w := by
 refine wpList_plain hgd fun K hK => ?_
 obtain ⟨v', w', hr, h2, h3⟩ := append_tight (P := P) w base t o.type e i z size bytes ht hi hz hsize hby hzs hsz v n xs hown ad m c news hl hnews h1 h63 hbytes hbase
 unfold Oper.wp execOp
 simp only [ho, resolve, invoke, builtin, Sem.run_bind, Sem.run_pure, Result.andThen_ok, List.map_toArray, List.map_cons, List.map_nil, hs, hx, hr]
 exact hK _ _ (h v' w' h2 h3)
theorem wpList_append_tight_string {ops : Array Oper} {rest : List Oper} {o : Oper} {a : Act} {Q : Exit → Act → World → Prop} (hgd : o.guard = none) (sl x : Operand) (t u : TypeId)
 (ho : o.op = .call { callee := .builtin .append, args := #[sl, x], argTypes := #[t, u] })
 (base : Nat) (e : TypeId) (i : TypeInfo) (ht : P.underlying t = some (.slice e)) (hu : P.underlying u = some .string) (hi : P.info? e = some i) (hz : i.zero = some (.int .u8 0))
 (hsize : i.size = 1) (hby : i.bytes = 1)
 (v : Value) (n : Nat) (xs : List Value) (hs : a.eval sl = v) (hown : w.ownsRow base e 1 v n xs) (s : ByteArray) (hx : a.eval x = .string s)
 (h63 : n + s.size ≤ maxLen) (hbytes : n + s.size ≤ 140737488355328) (hbase : base ≤ w.heap.size)
 (h : ∀ v' w', w'.ownsRow base e 1 v' (n + s.size) (xs ++ Lib.strCells s) → Grew w w' v v' → wpList P ops Q rest (a.put o.dst v') w') : wpList P ops Q (o :: rest) a w := by
 refine wpList_plain hgd fun K hK => ?_
 obtain ⟨v', w', hr, h2, h3⟩ := append_tight_string (P := P) w base t u o.type e i ht hu hi hz hsize hby v n xs hown s h63 hbytes hbase
 unfold Oper.wp execOp
 simp only [ho, resolve, invoke, builtin, Sem.run_bind, Sem.run_pure, Result.andThen_ok, List.map_toArray, List.map_cons, List.map_nil, hs, hx, hr]
 exact hK _ _ (h v' w' h2 h3)
end
def B (u : UInt8) : Value := .int .u8 u.toNat
def Buf (base : Nat) (w : World) (v : Value) (bs : List UInt8) : Prop := w.ownsRow base 5 1 v bs.length (bs.map B)
theorem Buf.nil (base : Nat) (w : World) : Buf base w (.slice none 0 0) [] := World.ownsRow_nil w base _ 1
theorem Buf.len {base : Nat} {w : World} {v : Value} {bs : List UInt8} (h : Buf base w v bs) : v = .slice none 0 0 ∨ ∃ g c, v = .slice (some ⟨g, 0, none⟩) bs.length c ∧ base ≤ g ∧ g < w.heap.size := by
 rcases h.2 with ⟨rfl, _⟩ | ⟨g, cap, cur, rfl, hb, hg, _⟩
 ·exact .inl rfl
 ·exact .inr ⟨g, cap, rfl, hb, (Array.getElem?_eq_some_iff.1 hg).1⟩
theorem Buf.kept {base : Nat} {w w' : World} {v : Value} {bs : List UInt8} (h : Buf base w v bs) (hb : ∀ k, v.ownBlock = some k → w'.heap[k]? = w.heap[k]?) : Buf base w' v bs := by
 refine ⟨h.1, ?_⟩
 rcases h.2 with hn | ⟨g, cap, cur, rfl, hbb, hgg, rest⟩
 ·exact .inl hn
 ·exact .inr ⟨g, cap, cur, rfl, hbb, by rw [hb g rfl]; exact hgg, rest⟩
theorem Buf.string {P : Program} {base : Nat} {w : World} {v : Value} {bs : List UInt8} (h : Buf base w v bs) (src dst : TypeId) (hs : P.underlying src = some (.slice 5)) (he : P.underlying 5 = some (.int .u8)) (hd : P.underlying dst = some .string) :
 (convert src dst v).run P w = .ok (.string ⟨bs.toArray⟩) w := by
 rcases h.2 with ⟨rfl, hn⟩ | ⟨g, cap, cur, rfl, hbb, hgg, hnc, hcm, hcs, htake⟩
 ·rw [List.eq_nil_of_length_eq_zero hn]
  exact run_convert_bytes_nil w src _ hs he 0 0 dst hd
 ·have hc := h.cells (g := g) rfl
  have := run_convert_bytes_arg (P := P) w src _ hs he g 0 bs.length cap (bs.map fun u => (u.toNat : Int)) (by simp) (fun i hi => by
   have := hc i (B bs[i]) (by simp [hi])
   have ea : (⟨g, 0, none⟩ : Addr).add i = ⟨g, 0 + i, none⟩ := by unfold Addr.add; split <;> simp_all
   rw [ea] at this
   rw [this]
   simp [B, hi]) dst hd
  rw [this]
  have e : strOfNums (bs.map fun u => (u.toNat : Int)) = ⟨bs.toArray⟩ := by
   unfold strOfNums
   congr 1
   rw [List.map_map]
   congr 1
   conv => rhs; rw [← List.map_id bs]
   apply List.map_congr_left
   intro u _
   simp
  rw [e]
theorem info8 : (Tryd.prog.info? 5).map (fun i => (i.zero, i.size, i.bytes)) = some (some (.int .u8 0), 1, 1) := by kernel_rfl
theorem wpList_append_byte {base : Nat} {w0 : World} {v : Value} {bs : List UInt8} (hown : Buf base w0 v bs) (hb : base ≤ w0.heap.size) (hl : bs.length + 1 ≤ 140737488355328)
 {ops : Array Oper} {rest : List Oper} {o : Oper} {a : Act} {Q : Exit → Act → World → Prop} (s x : Operand) (X : Int) (hgd : o.guard = none)
 (ho : o.op = .call { callee := .builtin .append, args := #[s, x], argTypes := #[89, 89] })
 (hs : a.eval s = v) (hx : a.eval x = .slice (some ⟨w0.heap.size, 0, none⟩) 1 1)
 (h : ∀ v' w', (∀ u : UInt8, X = u.toNat → Buf base w' v' (bs ++ [u])) → Grew w0 w' v v' → wpList Tryd.prog ops Q rest (a.put o.dst v') w') :
 wpList Tryd.prog ops Q (o :: rest) a (w0.alloc (.cells #[.int .u8 X] 5)) := by
 obtain ⟨i0, hi, hz0, hz1, hz2⟩ := info_parts info8
 refine wpList_append_tight _ hgd s x 89 ho base 5 i0 (.int .u8 0) 1 1 Tryd.underlying89 hi hz0 hz1 hz2 rfl (by decide) v bs.length (bs.map B) hs (World.ownsRow.alloc hown _) ⟨w0.heap.size, 0, none⟩ 1 1 [.int .u8 X] hx rfl (cell_one_new _ _ _)
  (fun u hu => by simp at hu; subst hu; rfl) (by unfold maxLen; omega) (by omega) (by simp; omega) fun v' w' h1 h2 => h v' w' (fun u hu => ?_) (h2.behind _)
 subst hu
 unfold Buf
 simpa [B] using h1
theorem wpList_append_text {base : Nat} {w0 : World} {v : Value} {bs : List UInt8} (hown : Buf base w0 v bs) (hb : base ≤ w0.heap.size) {st : ByteArray} (hl : bs.length + st.size ≤ 140737488355328)
 {ops : Array Oper} {rest : List Oper} {o : Oper} {a : Act} {Q : Exit → Act → World → Prop} (s x : Operand) (hgd : o.guard = none)
 (ho : o.op = .call { callee := .builtin .append, args := #[s, x], argTypes := #[89, 9] })
 (hs : a.eval s = v) (hx : a.eval x = .string st)
 (h : ∀ v' w', Buf base w' v' (bs ++ st.data.toList) → Grew w0 w' v v' → wpList Tryd.prog ops Q rest (a.put o.dst v') w') :
 wpList Tryd.prog ops Q (o :: rest) a w0 := by
 obtain ⟨i0, hi, hz0, hz1, hz2⟩ := info_parts info8
 refine wpList_append_tight_string _ hgd s x 89 9 ho base 5 i0 Tryd.underlying89 Tryd.underlying9 hi hz0 hz1 hz2 v bs.length (bs.map B) hs hown st hx
  (by unfold maxLen; omega) hl hb fun v' w' h1 h2 => h v' w' ?_ h2
 unfold Buf
 have e : (bs ++ st.data.toList).length = bs.length + st.size := by rw [List.length_append, Array.length_toList]; rfl
 rw [e, List.map_append]
 exact h1
end Go.Proofs.YteaglaijkafphaaDoor.Ty
namespace Go.Proofs.YteaglaijkafphaaDoor.Ty
def form (n : Nat) : Nat := if n < 64 then 0 else if n < 16384 then 1 else if n < 1073741824 then 2 else 3
def after : Nat → Nat
 | 0 => 0
 | 1 => 1
 | 2 => 3
 | _ => 8
def low : Nat → Nat → List UInt8
 | 0, _ => []
 | k + 1, n => UInt8.ofNat (n / 256 ^ k % 256) :: low k n
def head (n : Nat) : UInt8 := UInt8.ofNat (64 * form n + (if form n = 3 then 0 else n / 256 ^ after (form n)))
def encU (n : Nat) : List UInt8 := head n :: low (after (form n)) n
theorem form_le (n : Nat) : form n ≤ 3 := by unfold form; (repeat' split) <;> omega
theorem form_is (n : Nat) : (n < 64 ∧ form n = 0) ∨ (¬ n < 64 ∧ n < 16384 ∧ form n = 1) ∨ (¬ n < 16384 ∧ n < 1073741824 ∧ form n = 2) ∨ (¬ n < 1073741824 ∧ form n = 3) := by
 unfold form; (repeat' split) <;> omega
theorem low_length (k n : Nat) : (low k n).length = k := by induction k with
 | zero => rfl
 | succ k ih => simp [low, ih]
theorem or_head : ∀ (f : Fin 4) (x : Fin 64), (64 * f.val ||| x.val) = 64 * f.val + x.val := by decide
theorem or_u8 (f x : Nat) (hf : f < 4) (hx : x < 64) : bits .or .u8 ((64 * f : Nat) : Int) (x : Int) = ((64 * f + x : Nat) : Int) := by
 have h := (bits_nat .u8 8 (by decide) wraps_u8 (64 * f) x (by omega) (by omega)).2
 rw [h, or_head ⟨f, hf⟩ ⟨x, hx⟩]
theorem toNat_ofNat8 (n : Nat) (h : n < 256) : (UInt8.ofNat n).toNat = n := by simp [UInt8.toNat_ofNat']; omega
def U64 (n : Nat) : Prop := n < 2 ^ 64
theorem head_of (n f x : Nat) (C X : Int) (hC : C = ((64 * f : Nat) : Int)) (hX : X = (x : Int)) (hf : f < 4) (hx : x < 64) (hh : head n = UInt8.ofNat (64 * f + x)) : bits .or .u8 C X = ((head n).toNat : Int) := by
 rw [hC, hX, or_u8 f x hf hx, hh, toNat_ofNat8 _ (by omega)]
theorem head0 (n : Nat) (h : form n = 0) : bits .or .u8 0 ((n : Int) % 256) = ((head n).toNat : Int) := by
 have hb := form_is n
 exact head_of n 0 n _ _ rfl (by omega) (by omega) (by omega) (by unfold head; simp [h, after])
theorem head1 (n : Nat) (h : form n = 1) : bits .or .u8 64 ((n : Int) / 256 % 256) = ((head n).toNat : Int) := by
 have hb := form_is n
 exact head_of n 1 (n / 256) _ _ rfl (by omega) (by omega) (by omega) (by unfold head; simp [h, after])
theorem head2 (n : Nat) (h : form n = 2) : bits .or .u8 128 ((n : Int) / 16777216 % 256) = ((head n).toNat : Int) := by
 have hb := form_is n
 exact head_of n 2 (n / 16777216) _ _ rfl (by omega) (by omega) (by omega) (by unfold head; simp [h, after])
theorem head3 (n : Nat) (h : form n = 3) (hn : U64 n) : bits .or .u8 192 ((n : Int) / 18446744073709551616 % 256) = ((head n).toNat : Int) := by
 unfold U64 at hn
 exact head_of n 3 0 _ _ rfl (by omega) (by omega) (by omega) (by unfold head; simp [h])
theorem low_byte (n k : Nat) : ((n : Int) / 2 ^ (8 * k) % 256) = ((UInt8.ofNat (n / 256 ^ k % 256)).toNat : Int) := by
 rw [toNat_ofNat8 _ (Nat.mod_lt _ (by omega))]
 have e : (2 : Int) ^ (8 * k) = ((256 ^ k : Nat) : Int) := by
  rw [Int.pow_mul, Int.natCast_pow]; rfl
 rw [e]
 simp
theorem low_succ (n k : Nat) : low (k + 1) n = UInt8.ofNat (n / 256 ^ k % 256) :: low k n := rfl
theorem encU_split (n : Nat) : encU n = [head n] ++ low (after (form n)) n := rfl
theorem encU_length (n : Nat) : (encU n).length = 1 + after (form n) := by simp [encU, low_length]; omega
theorem after_le (n : Nat) : after (form n) ≤ 8 := by
 rcases form_is n with ⟨_, h⟩ | ⟨_, _, h⟩ | ⟨_, _, h⟩ | ⟨_, h⟩ <;> rw [h] <;> decide
def zig (n : Int) : Int := if 0 ≤ n then 2 * n else -2 * n - 1
def zag (n : Int) : Int := if n % 2 = 1 then -(n / 2) - 1 else n / 2
def I64 (n : Int) : Prop := -9223372036854775808 ≤ n ∧ n ≤ 9223372036854775807
theorem zig_nonneg (n : Int) : 0 ≤ zig n := by unfold zig; split <;> omega
theorem zig_u64 {n : Int} (h : I64 n) : U64 (zig n).toNat := by unfold zig U64; unfold I64 at h; split <;> omega
theorem zag_zig (n : Int) : zag (zig n) = n := by unfold zag zig; (repeat' split) <;> omega
theorem encU_len9 (n : Nat) : (encU n).length ≤ 9 := by rw [encU_length]; have := after_le n; omega
end Go.Proofs.YteaglaijkafphaaDoor.Ty
namespace Go.Proofs.YteaglaijkafphaaDoor
open Go.RowKit
def Ty.G : Nat := Nat.max 0 1 + 1
structure Ty.Tabs (w : World) : Prop where
 z0 : w.cell? ⟨0, 0, none⟩ = some (.int .i64 1)
 z1 : w.cell? ⟨0, 1, none⟩ = some (.int .i64 2)
 z2 : w.cell? ⟨0, 2, none⟩ = some (.int .i64 4)
 z3 : w.cell? ⟨0, 3, none⟩ = some (.int .i64 9)
 s0 : w.cell? ⟨1, 0, none⟩ = some (.int .u64 0)
 s1 : w.cell? ⟨1, 1, none⟩ = some (.int .u64 64)
 s2 : w.cell? ⟨1, 2, none⟩ = some (.int .u64 16384)
 s3 : w.cell? ⟨1, 3, none⟩ = some (.int .u64 1073741824)
 two : Ty.G ≤ w.heap.size
set_option maxHeartbeats 400000 in
theorem Ty.formOf_c (n : Nat) (w : World) (h : Ty.Tabs w) :
 Calls Tryd.prog 90 #[.int .u64 n] w fun e w' => e = .returned (.int .i64 (Ty.form n)) ∧ w' = w := by
 obtain ⟨z0, z1, z2, z3, s0, s1, s2, s3, _⟩ := h
 go_enter Tryd.func90, Tryd.ntmps90
 go_wp2
 go_loop [3] (fun i => ∃ k : Nat, k ≤ 3 ∧ i = .int .i64 k ∧ Ty.form n ≤ k) (fun i => (intOf i).toNat)
 case atStart => exact ⟨3, by omega, by simp, Ty.form_le n⟩
 case round =>
  obtain ⟨k, hk, rfl, hf⟩ := hrel
  have hb := Ty.form_is n
  have hc : (k = 0 ∧ Ty.form n = 0) ∨ (k = 1 ∧ (n : Int) < 64 ∧ Ty.form n ≤ 0) ∨ (k = 1 ∧ ¬ (n : Int) < 64 ∧ Ty.form n = 1) ∨ (k = 2 ∧ (n : Int) < 16384 ∧ Ty.form n ≤ 1) ∨ (k = 2 ∧ ¬ (n : Int) < 16384 ∧ Ty.form n = 2) ∨ (k = 3 ∧ (n : Int) < 1073741824 ∧ Ty.form n ≤ 2) ∨ (k = 3 ∧ ¬ (n : Int) < 1073741824 ∧ Ty.form n = 3) := by omega
  clear hb
  rcases hc with ⟨rfl, hz⟩ | ⟨rfl, hl, hx⟩ | ⟨rfl, hl, hz⟩ | ⟨rfl, hl, hx⟩ | ⟨rfl, hl, hz⟩ | ⟨rfl, hl, hx⟩ | ⟨rfl, hl, hz⟩
  ·have h0 : ¬ (n : Int) < 0 := by omega
   go_wp2
   go_ret
   exact ⟨rfl, rfl⟩
  ·go_wp2
   go_round
   case rel => exact ⟨0, by omega, by simp, hx⟩
   case measure => simp [intOf]
  ·go_wp2
   go_ret
   exact ⟨rfl, rfl⟩
  ·go_wp2
   go_round
   case rel => exact ⟨1, by omega, by simp, hx⟩
   case measure => simp [intOf]
  ·go_wp2
   go_ret
   exact ⟨rfl, rfl⟩
  ·go_wp2
   go_round
   case rel => exact ⟨2, by omega, by simp, hx⟩
   case measure => simp [intOf]
  ·go_wp2
   go_ret
   exact ⟨rfl, rfl⟩
end Go.Proofs.YteaglaijkafphaaDoor
namespace Go.Proofs.YteaglaijkafphaaDoor
open Go.RowKit
def Ty.Mid (base : Nat) (w : World) (v0 : Value) (bs : List UInt8) (n k : Nat) (wr : World) (v : Value) : Prop :=
 ∃ done, Ty.encU n = done ++ Ty.low k n ∧ done.length + k ≤ 9 ∧ Ty.Buf base wr v (bs ++ done) ∧ Ty.Grew w wr v0 v
def Ty.Written (base : Nat) (w : World) (v : Value) (bs : List UInt8) (e : Ending) (w' : World) : Prop := ∃ v', e = .returned v' ∧ Ty.Buf base w' v' bs ∧ Ty.Grew w w' v v'
theorem Ty.Mid.first {base : Nat} {w : World} {v : Value} {bs : List UInt8} {n k : Nat} {w1 : World} {v1 : Value} (hk : k = Ty.after (Ty.form n)) {X : Int} (hX : X = ((Ty.head n).toNat : Int)) (h1 : ∀ u : UInt8, X = (u.toNat : Int) → Ty.Buf base w1 v1 (bs ++ [u])) (g1 : Ty.Grew w w1 v v1) : Ty.Mid base w v bs n k w1 v1 :=
 ⟨[Ty.head n], by rw [hk]; exact Ty.encU_split n, by have := Ty.after_le n; simp; omega, h1 _ hX, g1⟩
theorem Ty.Mid.next {base : Nat} {w : World} {v0 v : Value} {bs done : List UInt8} {n k : Nat} {wr w1 : World} {v1 : Value} (hd : Ty.encU n = done ++ Ty.low (k + 1) n) (hl : done.length + (k + 1) ≤ 9) (hG : Ty.Grew w wr v0 v)
 (h1 : ∀ u : UInt8, ((n : Int) / 2 ^ (8 * k) % 256) = (u.toNat : Int) → Ty.Buf base w1 v1 (bs ++ done ++ [u])) (g1 : Ty.Grew wr w1 v v1) : Ty.Mid base w v0 bs n k w1 v1 := by
 refine ⟨done ++ [UInt8.ofNat (n / 256 ^ k % 256)], by rw [hd, Ty.low_succ]; simp, by simp; omega, ?_, hG.trans g1⟩
 have := h1 _ (Ty.low_byte n k)
 simpa using this
theorem Ty.Mid.end {base : Nat} {w : World} {v0 v : Value} {bs done : List UInt8} {n : Nat} {wr : World} (hd : Ty.encU n = done ++ Ty.low 0 n) (hB : Ty.Buf base wr v (bs ++ done)) (hG : Ty.Grew w wr v0 v) : Ty.Written base w v0 (bs ++ Ty.encU n) (.returned v) wr :=
 ⟨v, rfl, by rw [hd]; simpa [Ty.low] using hB, hG⟩
set_option maxHeartbeats 1000000 in
theorem Ty.uint_nat (base : Nat) (v : Value) (bs : List UInt8) (n : Nat) (hn : Ty.U64 n) (w : World) (h : Ty.Tabs w) (hown : Ty.Buf base w v bs) (hb : base ≤ w.heap.size) (hlen : bs.length + 9 ≤ 140737488355328) :
 Calls Tryd.prog 66 #[v, .int .u64 n] w (Ty.Written base w v (bs ++ Ty.encU n)) := by
 have H := h
 obtain ⟨z0, z1, z2, z3, s0, s1, s2, s3, _⟩ := h
 have hf : Ty.form n = 0 ∨ Ty.form n = 1 ∨ Ty.form n = 2 ∨ Ty.form n = 3 := by have := Ty.form_le n; omega
 rcases hf with hf | hf | hf | hf
 all_goals
  have HF := Lib.hid hf
  go_enter Tryd.func66, Tryd.ntmps66
  go_wp2_with fail
  refine (Ty.formOf_c n _ H).mono ?_
  rintro e w' ⟨rfl, rfl⟩
  go_wp2_with (at_builtin; refine Ty.wpList_append_byte hown hb (by omega) (.tmp 14) (.tmp 24) _ rfl rfl rfl rfl ?_; intro v1 w1 h1 g1)
  go_loopw [0, 7] (fun vr i wr => ∃ k : Nat, i = .int .i64 ((k : Int) - 1) ∧ Ty.Mid base w' v bs n k wr vr) (fun _ i _ => (intOf i + 1).toNat)
  case atStart =>
   first
    | exact ⟨0, rfl, Ty.Mid.first (by rw [HF.out]; rfl) (Ty.head0 n HF.out) h1 g1⟩
    | exact ⟨1, rfl, Ty.Mid.first (by rw [HF.out]; rfl) (Ty.head1 n HF.out) h1 g1⟩
    | exact ⟨3, rfl, Ty.Mid.first (by rw [HF.out]; rfl) (Ty.head2 n HF.out) h1 g1⟩
    | exact ⟨8, rfl, Ty.Mid.first (by rw [HF.out]; rfl) (Ty.head3 n HF.out hn) h1 g1⟩
  case round =>
   obtain ⟨k, rfl, hm⟩ := hrel
   obtain ⟨done, hd, hl, hB, hG⟩ := hm
   have Hd := Lib.hid hd
   clear hd h1 g1
   have hbs := hG.by_.size
   rcases k with _ | k
   ·go_wp2
    go_ret
    exact Ty.Mid.end Hd.out hB hG
   ·have hk : k ≤ 8 := by omega
    have hl2 : (bs ++ done).length + 1 ≤ 140737488355328 := by simp; omega
    have hb2 : base ≤ wr.heap.size := by omega
    go_wp2_with (at_builtin; refine Ty.wpList_append_byte hB hb2 hl2 (.tmp 32) (.tmp 38) _ rfl rfl rfl rfl ?_; intro v2 w2 h2 g2)
    go_roundw
    case rel => exact ⟨k, rfl, Ty.Mid.next Hd.out hl hG h2 g2⟩
    case measure => simp [intOf]
theorem Ty.uint_c (base : Nat) (v : Value) (bs : List UInt8) (z : Int) (h0 : 0 ≤ z) (hz : Ty.U64 z.toNat) (w : World) (h : Ty.Tabs w) (hown : Ty.Buf base w v bs) (hb : base ≤ w.heap.size) (hlen : bs.length + 9 ≤ 140737488355328) :
 Calls Tryd.prog 66 #[v, .int .u64 z] w (Ty.Written base w v (bs ++ Ty.encU z.toNat)) := by
 have := Ty.uint_nat base v bs z.toNat hz w h hown hb hlen
 rwa [Int.toNat_of_nonneg h0] at this
end Go.Proofs.YteaglaijkafphaaDoor
namespace Go.Proofs.YteaglaijkafphaaDoor
open Go.RowKit
theorem Ty.w_neg {n : Int} (h : Ty.I64 n) (h0 : n < 0) : IntKind.u64.wrap (IntKind.u64.wrap (-IntKind.u64.wrap (IntKind.u64.wrap n * 2)) - 1) = Ty.zig n := by
 unfold Ty.I64 at h; unfold Ty.zig; simp only [IntKind.wrap_u64]; rw [if_neg (by omega)]; omega
theorem Ty.w_pos {n : Int} (h : Ty.I64 n) (h0 : 0 ≤ n) : IntKind.u64.wrap (IntKind.u64.wrap n * 2) = Ty.zig n := by
 unfold Ty.I64 at h; unfold Ty.zig; simp only [IntKind.wrap_u64]; rw [if_pos (by omega)]; omega
theorem Ty.w_odd {n : Nat} (h : Ty.U64 n) (h0 : n % 2 = 1) : wrap64 (wrap64 (-wrap64 (IntKind.u64.wrap (↑n / 2))) - 1) = Ty.zag n := by
 unfold Ty.U64 at h; unfold Ty.zag; simp only [IntKind.wrap_u64]; unfold wrap64; rw [if_pos (by omega)]; omega
theorem Ty.w_even {n : Nat} (h : Ty.U64 n) (h0 : ¬ n % 2 = 1) : wrap64 (IntKind.u64.wrap (↑n / 2)) = Ty.zag n := by
 unfold Ty.U64 at h; unfold Ty.zag; simp only [IntKind.wrap_u64]; unfold wrap64; rw [if_neg (by omega)]; omega
theorem Ty.ret_i {k : IntKind} {a b : Int} (h : a = b) : Ending.returned (.int k a) = .returned (.int k b) := by rw [h]
set_option maxHeartbeats 400000 in
theorem Ty.unsigned_c (n : Int) (w : World) (hn : Ty.I64 n) :
 Calls Tryd.prog 91 #[.int .i64 n] w fun e w' => e = .returned (.int .u64 (Ty.zig n)) ∧ w' = w := by
 by_cases h : n < 0
 ·have H := Lib.hid (Ty.w_neg hn h)
  go_enter Tryd.func91, Tryd.ntmps91
  go_wp2
  go_ret
  exact ⟨Ty.ret_i H.out, rfl⟩
 ·have H := Lib.hid (Ty.w_pos hn (by omega))
  go_enter Tryd.func91, Tryd.ntmps91
  go_wp2
  go_ret
  exact ⟨Ty.ret_i H.out, rfl⟩
set_option maxHeartbeats 400000 in
theorem Ty.signed_nat (n : Nat) (w : World) (hn : Ty.U64 n) :
 Calls Tryd.prog 106 #[.int .u64 n] w fun e w' => e = .returned (.int .i64 (Ty.zag n)) ∧ w' = w := by
 by_cases h : n % 2 = 1
 ·have H := Lib.hid (Ty.w_odd hn h)
  go_enter Tryd.func106, Tryd.ntmps106
  go_wp2
  go_ret
  exact ⟨Ty.ret_i H.out, rfl⟩
 ·have H := Lib.hid (Ty.w_even hn h)
  go_enter Tryd.func106, Tryd.ntmps106
  go_wp2
  go_ret
  exact ⟨Ty.ret_i H.out, rfl⟩
set_option maxHeartbeats 400000 in
theorem Ty.int_c (base : Nat) (v : Value) (bs : List UInt8) (n : Int) (hn : Ty.I64 n) (w : World) (h : Ty.Tabs w) (hown : Ty.Buf base w v bs) (hb : base ≤ w.heap.size) (hlen : bs.length + 9 ≤ 140737488355328) :
 Calls Tryd.prog 68 #[v, .int .i64 n] w (Ty.Written base w v (bs ++ Ty.encU (Ty.zig n).toNat)) := by
 go_enter Tryd.func68, Tryd.ntmps68
 go_wp2_with fail
 refine (Ty.unsigned_c n _ hn).mono ?_
 rintro e w' ⟨rfl, rfl⟩
 go_wp2_with fail
 refine (Ty.uint_c base v bs _ (Ty.zig_nonneg n) (Ty.zig_u64 hn) _ h hown hb hlen).mono ?_
 rintro e w1 ⟨v1, rfl, hB, hG⟩
 go_wp2
 go_ret
 exact ⟨v1, rfl, hB, hG⟩
set_option maxHeartbeats 400000 in
theorem Ty.text_c (base : Nat) (v : Value) (bs : List UInt8) (s : ByteArray) (w : World) (h : Ty.Tabs w) (hown : Ty.Buf base w v bs) (hb : base ≤ w.heap.size) (hlen : bs.length + 9 + s.size ≤ 140737488355328) :
 Calls Tryd.prog 67 #[v, .string s] w (Ty.Written base w v (bs ++ Ty.encU s.size ++ s.data.toList)) := by
 have hu : Ty.U64 ((s.size : Int)).toNat := by unfold Ty.U64; omega
 have h9 := Ty.encU_len9 s.size
 go_enter Tryd.func67, Tryd.ntmps67
 go_wp2_with fail
 refine (Ty.uint_c base v bs _ (by omega) hu _ h hown hb (by omega)).mono ?_
 rintro e w1 ⟨v1, rfl, hB, hG⟩
 have hs1 := hG.by_.size
 go_wp2_with (at_builtin; refine Ty.wpList_append_text hB (by omega) (by simp; omega) (.tmp 9) (.tmp 10) rfl rfl rfl rfl ?_; intro v2 w2 h2 g2)
 go_ret
 exact ⟨v2, rfl, by simpa using h2, hG.trans g2⟩
end Go.Proofs.YteaglaijkafphaaDoor
