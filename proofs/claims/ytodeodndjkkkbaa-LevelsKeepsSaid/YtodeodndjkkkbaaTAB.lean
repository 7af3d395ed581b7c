import Derived.Laws.BitsLemmas
import Derived.Test.YtodeodndjkkkbaaRows
import Derived.WalkKit
import Derived.WalkSpells
import Derived.WalkLawsBesides
import Derived.Test.YtodeodndjkkkbaaTAA
import Derived.Lib.Hide
import Derived.IntWalk
import Derived.Laws.Bits64
namespace Go.Proofs.Ytodeodndjkkkbaa.Ty
def form (n : Nat) : Nat := if n < 64 then 0 else if n < 16384 then 1 else if n < 1073741824 then 2 else 3
def after : Nat → Nat
 | 0 => 0
 | 1 => 1
 | 2 => 3
 | _ => 8
def low : Nat → Nat → List UInt8
 | 0, _ => []
 | k + 1, n => UInt8.ofNat (n / 256 ^ k % 256) :: low k n
def head (n : Nat) : UInt8 := UInt8.ofNat (64 * form n + (if form n = 3 then 0 else n / 256 ^ after (form n)))
def encU (n : Nat) : List UInt8 := head n :: low (after (form n)) n
theorem form_le (n : Nat) : form n ≤ 3 := by unfold form; (repeat' split) <;> omega
theorem form_is (n : Nat) : (n < 64 ∧ form n = 0) ∨ (¬ n < 64 ∧ n < 16384 ∧ form n = 1) ∨ (¬ n < 16384 ∧ n < 1073741824 ∧ form n = 2) ∨ (¬ n < 1073741824 ∧ form n = 3) := by
 unfold form; (repeat' split) <;> omega
theorem low_length (k n : Nat) : (low k n).length = k := by induction k with
 | zero => rfl
 | succ k ih => simp [low, ih]
theorem toNat_ofNat8 (n : Nat) (h : n < 256) : (UInt8.ofNat n).toNat = n := by simp [UInt8.toNat_ofNat']; omega
def U64 (n : Nat) : Prop := n < 2 ^ 64
theorem low_byte (n k : Nat) : ((n : Int) / 2 ^ (8 * k) % 256) = ((UInt8.ofNat (n / 256 ^ k % 256)).toNat : Int) := by
 rw [toNat_ofNat8 _ (Nat.mod_lt _ (by omega))]
 have e : (2 : Int) ^ (8 * k) = ((256 ^ k : Nat) : Int) := by
  rw [Int.pow_mul, Int.natCast_pow]; rfl
 rw [e]
 simp
theorem low_succ (n k : Nat) : low (k + 1) n = UInt8.ofNat (n / 256 ^ k % 256) :: low k n := rfl
theorem encU_split (n : Nat) : encU n = [head n] ++ low (after (form n)) n := rfl
theorem encU_length (n : Nat) : (encU n).length = 1 + after (form n) := by simp [encU, low_length]; omega
theorem after_le (n : Nat) : after (form n) ≤ 8 := by
 rcases form_is n with ⟨_, h⟩ | ⟨_, _, h⟩ | ⟨_, _, h⟩ | ⟨_, h⟩ <;> rw [h] <;> decide
def zig (n : Int) : Int := if 0 ≤ n then 2 * n else -2 * n - 1
def zag (n : Int) : Int := if n % 2 = 1 then -(n / 2) - 1 else n / 2
def I64 (n : Int) : Prop := -9223372036854775808 ≤ n ∧ n ≤ 9223372036854775807
theorem zig_nonneg (n : Int) : 0 ≤ zig n := by unfold zig; split <;> omega
theorem zig_u64 {n : Int} (h : I64 n) : U64 (zig n).toNat := by unfold zig U64; unfold I64 at h; split <;> omega
theorem zag_i64 {n : Nat} (h : U64 n) : I64 (zag n) := by unfold zag I64; unfold U64 at h; split <;> omega
theorem zag_zig (n : Int) : zag (zig n) = n := by unfold zag zig; (repeat' split) <;> omega
theorem zig_zag {n : Int} (h : 0 ≤ n) : zig (zag n) = n := by unfold zag zig; (repeat' split) <;> omega
end Go.Proofs.Ytodeodndjkkkbaa.Ty
namespace Go.Proofs.Ytodeodndjkkkbaa
open Go.RowKit
end Go.Proofs.Ytodeodndjkkkbaa
namespace Go.Proofs.Ytodeodndjkkkbaa
open Go.RowKit
def Ty.Mid (base : Nat) (w : World) (v0 : Value) (bs : List UInt8) (n k : Nat) (wr : World) (v : Value) : Prop :=
 ∃ done, Ty.encU n = done ++ Ty.low k n ∧ done.length + k ≤ 9 ∧ Ty.Buf base wr v (bs ++ done) ∧ Ty.Grew w wr v0 v
def Ty.Written (base : Nat) (w : World) (v : Value) (bs : List UInt8) (e : Ending) (w' : World) : Prop := ∃ v', e = .returned v' ∧ Ty.Buf base w' v' bs ∧ Ty.Grew w w' v v'
theorem Ty.Mid.first {base : Nat} {w : World} {v : Value} {bs : List UInt8} {n k : Nat} {w1 : World} {v1 : Value} (hk : k = Ty.after (Ty.form n)) {X : Int} (hX : X = ((Ty.head n).toNat : Int)) (h1 : ∀ u : UInt8, X = (u.toNat : Int) → Ty.Buf base w1 v1 (bs ++ [u])) (g1 : Ty.Grew w w1 v v1) : Ty.Mid base w v bs n k w1 v1 :=
 ⟨[Ty.head n], by rw [hk]; exact Ty.encU_split n, by have := Ty.after_le n; simp; omega, h1 _ hX, g1⟩
theorem Ty.Mid.next {base : Nat} {w : World} {v0 v : Value} {bs done : List UInt8} {n k : Nat} {wr w1 : World} {v1 : Value} (hd : Ty.encU n = done ++ Ty.low (k + 1) n) (hl : done.length + (k + 1) ≤ 9) (hG : Ty.Grew w wr v0 v)
 (h1 : ∀ u : UInt8, ((n : Int) / 2 ^ (8 * k) % 256) = (u.toNat : Int) → Ty.Buf base w1 v1 (bs ++ done ++ [u])) (g1 : Ty.Grew wr w1 v v1) : Ty.Mid base w v0 bs n k w1 v1 := by
 refine ⟨done ++ [UInt8.ofNat (n / 256 ^ k % 256)], by rw [hd, Ty.low_succ]; simp, by simp; omega, ?_, hG.trans g1⟩
 have := h1 _ (Ty.low_byte n k)
 simpa using this
theorem Ty.Mid.end {base : Nat} {w : World} {v0 v : Value} {bs done : List UInt8} {n : Nat} {wr : World} (hd : Ty.encU n = done ++ Ty.low 0 n) (hB : Ty.Buf base wr v (bs ++ done)) (hG : Ty.Grew w wr v0 v) : Ty.Written base w v0 (bs ++ Ty.encU n) (.returned v) wr :=
 ⟨v, rfl, by rw [hd]; simpa [Ty.low] using hB, hG⟩
end Go.Proofs.Ytodeodndjkkkbaa
namespace Go.Proofs.Ytodeodndjkkkbaa
open Go.RowKit
end Go.Proofs.Ytodeodndjkkkbaa
namespace Go.Proofs.Ytodeodndjkkkbaa.Ty
def pv (l : List UInt8) : Nat → Nat
 | 0 => 0
 | 1 => (l.getD 0 0).toNat % 64
 | k + 2 => pv l (k + 1) * 256 + (l.getD (k + 1) 0).toNat
def small : Nat → Nat
 | 0 => 0
 | 1 => 64
 | 2 => 16384
 | _ => 1073741824
def num (l : List UInt8) : Nat × Nat × Nat :=
 match l with
 | [] => (0, 0, 2)
 | b :: r => if 192 < b.toNat then (0, 0, 5) else if (b :: r).length < 1 + after (b.toNat / 64) then (0, 0, 2) else
   if pv (b :: r) (1 + after (b.toNat / 64)) < small (b.toNat / 64) then (0, 0, 5) else (pv (b :: r) (1 + after (b.toNat / 64)), 1 + after (b.toNat / 64), 0)
theorem pv_succ (l : List UInt8) (k : Nat) (hk : 1 ≤ k) : pv l (k + 1) = pv l k * 256 + (l.getD k 0).toNat := by
 match k, hk with
 | k + 1, _ => rfl
theorem pv_lt (l : List UInt8) : ∀ k, pv l (k + 1) < 64 * 256 ^ k
 | 0 => by simp [pv]; omega
 | k + 1 => by
   have := pv_lt l k
   have h2 := (l.getD (k + 1) 0).toNat_lt
   rw [pv_succ l (k + 1) (by omega), Nat.pow_succ]
   omega
theorem pv_lt9 (l : List UInt8) (h : (l.getD 0 0).toNat % 64 = 0) : ∀ k, pv l (k + 1) < 256 ^ k
 | 0 => by simp [pv]; simpa using h
 | k + 1 => by
   have := pv_lt9 l h k
   have h2 := (l.getD (k + 1) 0).toNat_lt
   rw [pv_succ l (k + 1) (by omega), Nat.pow_succ]
   omega
def txt (l : List UInt8) (most : Int) : List UInt8 × Nat × Nat :=
 if (num l).2.2 ≠ 0 then ([], 0, (num l).2.2) else if most < 0 ∨ most < ((num l).1 : Int) then ([], 0, 3) else
  if l.length - (num l).2.1 < (num l).1 then ([], 0, 2) else ((l.drop (num l).2.1).take (num l).1, (num l).2.1 + (num l).1, 0)
theorem num_is (l : List UInt8) (h : 0 < l.length) : num l = if 192 < (l.getD 0 0).toNat then (0, 0, 5) else if l.length < 1 + after ((l.getD 0 0).toNat / 64) then (0, 0, 2) else
 if pv l (1 + after ((l.getD 0 0).toNat / 64)) < small ((l.getD 0 0).toNat / 64) then (0, 0, 5) else (pv l (1 + after ((l.getD 0 0).toNat / 64)), 1 + after ((l.getD 0 0).toNat / 64), 0) := by
 cases l with
 | nil => simp at h
 | cons b r => rfl
theorem num_high {l : List UInt8} (h : 0 < l.length) (hb : 192 < (l.getD 0 0).toNat) : num l = (0, 0, 5) := by rw [num_is l h, if_pos hb]
theorem num_cut {l : List UInt8} (h : 0 < l.length) (hb : ¬ 192 < (l.getD 0 0).toNat) {f : Nat} (hf : (l.getD 0 0).toNat / 64 = f) (hl : l.length < 1 + after f) : num l = (0, 0, 2) := by rw [num_is l h, if_neg hb, hf, if_pos hl]
theorem num_less {l : List UInt8} (h : 0 < l.length) (hb : ¬ 192 < (l.getD 0 0).toNat) {f : Nat} (hf : (l.getD 0 0).toNat / 64 = f) (hl : ¬ l.length < 1 + after f) (hp : pv l (1 + after f) < small f) : num l = (0, 0, 5) := by rw [num_is l h, if_neg hb, hf, if_neg hl, if_pos hp]
theorem num_whole {l : List UInt8} (h : 0 < l.length) (hb : ¬ 192 < (l.getD 0 0).toNat) {f : Nat} (hf : (l.getD 0 0).toNat / 64 = f) (hl : ¬ l.length < 1 + after f) (hp : ¬ pv l (1 + after f) < small f) : num l = (pv l (1 + after f), 1 + after f, 0) := by rw [num_is l h, if_neg hb, hf, if_neg hl, if_neg hp]
theorem num_cases (l : List UInt8) : (num l).2.2 = 0 ∧ l ≠ [] ∧ (∃ f, f ≤ 3 ∧ 64 * f ≤ (l.getD 0 0).toNat ∧ (l.getD 0 0).toNat < 64 * f + 64 ∧ (l.getD 0 0).toNat ≤ 192 ∧ num l = (pv l (1 + after f), 1 + after f, 0) ∧ 1 + after f ≤ l.length ∧ small f ≤ pv l (1 + after f)) ∨
 ((num l).2.2 = 2 ∨ (num l).2.2 = 5) ∧ (num l).1 = 0 ∧ (num l).2.1 = 0 := by
 by_cases h0 : 0 < l.length
 ·by_cases h1 : 192 < (l.getD 0 0).toNat
  ·right; rw [num_high h0 h1]; simp
  ·obtain ⟨f, hf⟩ : ∃ f, (l.getD 0 0).toNat / 64 = f := ⟨_, rfl⟩
   by_cases h2 : l.length < 1 + after f
   ·right; rw [num_cut h0 h1 hf h2]; simp
   ·by_cases h3 : pv l (1 + after f) < small f
    ·right; rw [num_less h0 h1 hf h2 h3]; simp
    ·left
     have e := num_whole h0 h1 hf h2 h3
     exact ⟨by rw [e], by intro e; subst e; simp at h0, f, by omega, by omega, by omega, by omega, e, by omega, by omega⟩
 ·right
  have : l = [] := List.eq_nil_of_length_eq_zero (by omega)
  subst this
  simp [num]
theorem num_u64 (l : List UInt8) : U64 (num l).1 := by
 rcases num_cases l with ⟨_, _, f, hf, h1, h2, h3, e, _, _⟩ | ⟨_, h, _⟩
 ·rw [e]
  unfold U64
  rcases (by omega : f = 0 ∨ f = 1 ∨ f = 2 ∨ f = 3) with rfl | rfl | rfl | rfl
  ·have := pv_lt l 0; show pv l (0 + 1) < 2 ^ 64; omega
  ·have := pv_lt l 1; show pv l (1 + 1) < 2 ^ 64; omega
  ·have := pv_lt l 3; show pv l (3 + 1) < 2 ^ 64; omega
  ·have := pv_lt9 l (by omega) 8; show pv l (8 + 1) < 2 ^ 64; omega
 ·rw [h]; unfold U64; omega
theorem txt_bad {l : List UInt8} {most : Int} (h : (num l).2.2 ≠ 0) : txt l most = ([], 0, (num l).2.2) := by unfold txt; rw [if_pos h]
theorem txt_long {l : List UInt8} {most : Int} (h : (num l).2.2 = 0) (h2 : most < 0 ∨ most < ((num l).1 : Int)) : txt l most = ([], 0, 3) := by unfold txt; rw [if_neg (by omega), if_pos h2]
theorem txt_short {l : List UInt8} {most : Int} (h : (num l).2.2 = 0) (h2 : ¬ (most < 0 ∨ most < ((num l).1 : Int))) (h3 : l.length - (num l).2.1 < (num l).1) : txt l most = ([], 0, 2) := by unfold txt; rw [if_neg (by omega), if_neg h2, if_pos h3]
theorem txt_whole {l : List UInt8} {most : Int} (h : (num l).2.2 = 0) (h2 : ¬ (most < 0 ∨ most < ((num l).1 : Int))) (h3 : ¬ l.length - (num l).2.1 < (num l).1) : txt l most = ((l.drop (num l).2.1).take (num l).1, (num l).2.1 + (num l).1, 0) := by unfold txt; rw [if_neg (by omega), if_neg h2, if_neg h3]
end Go.Proofs.Ytodeodndjkkkbaa.Ty
namespace Go.Proofs.Ytodeodndjkkkbaa
open Go.RowKit
theorem Ty.length_data (s : ByteArray) : s.data.toList.length = s.size := by rw [Array.length_toList]; rfl
theorem Ty.at_getD (s : ByteArray) (k : Nat) (h : k < s.size) : s[k] = s.data.toList.getD k 0 := by
 have h2 : k < s.data.toList.length := by rw [Ty.length_data]; exact h
 rw [List.getD, List.getElem?_eq_getElem h2]; rfl
def Ty.numV (l : List UInt8) : Value := .tuple #[.int .u64 (Ty.num l).1, .int .i64 (Ty.num l).2.1, .int .i64 (Ty.num l).2.2]
end Go.Proofs.Ytodeodndjkkkbaa
namespace Go.Proofs.Ytodeodndjkkkbaa
open Go.RowKit
def Ty.S (l : List UInt8) : ByteArray := ⟨l.toArray⟩
theorem Ty.data_S (l : List UInt8) : (Ty.S l).data.toList = l := rfl
def Ty.txtV (l : List UInt8) (most : Int) : Value := .tuple #[.string (Ty.S (Ty.txt l most).1), .int .i64 (Ty.txt l most).2.1, .int .i64 (Ty.txt l most).2.2]
end Go.Proofs.Ytodeodndjkkkbaa
namespace Go.Proofs.Ytodeodndjkkkbaa.Dk
open Go
abbrev Str := List UInt8
abbrev Dir := List (Str × Nat)
structure Ch where
 a : Str
 b : Str
 f : Int
structure D where
 files : List (Str × Nat)
 dir : Dir
 sure : Dir
 chg : List Ch
 room : Int
 halt : Int
 deny : Int
 calls : Nat
def okc (b : UInt8) : Bool := (97 ≤ b.toNat && b.toNat ≤ 122) || (48 ≤ b.toNat && b.toNat ≤ 57) || b.toNat == 46
def right (s : Str) : Bool := s.all okc && (1 ≤ s.length && s.length ≤ 12)
def lt (a b : Str) : Bool := Op.bytesLess a b
theorem lt_trans {a b c : Str} : lt a b = true → lt b c = true → lt a c = true := Kn.bl_trans a b c
theorem lt_ne {a b : Str} (h : lt a b = true) : a ≠ b := (Kn.bl_ne h).2
theorem lt_total {a b : Str} (h : lt a b = false) (n : a ≠ b) : lt b a = true := by
 rcases Kn.bl_total a b with g | g | g
 ·rw [lt, g] at h; cases h
 ·exact absurd g n
 ·exact g
def look (l : Dir) (s : Str) : Option Nat := (l.find? fun y => y.1 == s).map (·.2)
def wo (l : Dir) (s : Str) : Dir := l.filter fun y => y.1 != s
def wi (l : Dir) (x : Str × Nat) : Dir := (wo l x.1).takeWhile (fun y => lt y.1 x.1) ++ x :: (wo l x.1).dropWhile (fun y => lt y.1 x.1)
def Asc (l : Dir) : Prop := l.Pairwise fun x y => lt x.1 y.1 = true
theorem mem_wo {l : Dir} {s : Str} {y : Str × Nat} : y ∈ wo l s ↔ y ∈ l ∧ y.1 ≠ s := by
 unfold wo
 rw [List.mem_filter]
 simp
theorem mem_split (p : (Str × Nat) → Bool) (l : Dir) (y : Str × Nat) : y ∈ l ↔ y ∈ l.takeWhile p ∨ y ∈ l.dropWhile p := by
 conv => lhs; rw [← List.takeWhile_append_dropWhile (p := p) (l := l)]
 rw [List.mem_append]
theorem mem_wi {l : Dir} {x y : Str × Nat} : y ∈ wi l x ↔ y = x ∨ (y ∈ l ∧ y.1 ≠ x.1) := by
 unfold wi
 rw [List.mem_append, List.mem_cons, ← mem_wo, mem_split (fun y => lt y.1 x.1) (wo l x.1) y]
 constructor
 ·rintro (h | h | h)
  ·exact .inr (.inl h)
  ·exact .inl h
  ·exact .inr (.inr h)
 ·rintro (h | h | h)
  ·exact .inr (.inl h)
  ·exact .inl h
  ·exact .inr (.inr h)
theorem asc_wo {l : Dir} (h : Asc l) (s : Str) : Asc (wo l s) := List.Pairwise.filter _ h
theorem asc_drop {l : Dir} (h : Asc l) (x : Str) (hx : ∀ y ∈ l, y.1 ≠ x) : ∀ y ∈ l.dropWhile (fun y => lt y.1 x), lt x y.1 = true := by
 induction l with
 | nil => simp
 | cons a l ih =>
   rw [Asc, List.pairwise_cons] at h
   by_cases hl : lt a.1 x = true
   ·rw [List.dropWhile_cons_of_pos (p := fun y : Str × Nat => lt y.1 x) hl]
    exact ih h.2 fun y hy => hx y (List.mem_cons_of_mem _ hy)
   ·rw [List.dropWhile_cons_of_neg (p := fun y : Str × Nat => lt y.1 x) hl]
    have ha := lt_total (by simpa using hl) (hx a List.mem_cons_self)
    intro y hy
    rcases List.mem_cons.1 hy with rfl | hy
    ·exact ha
    ·exact lt_trans ha (h.1 y hy)
theorem take_lt (p : (Str × Nat) → Bool) (l : Dir) : ∀ y ∈ l.takeWhile p, p y = true := by
 induction l with
 | nil => simp
 | cons a l ih =>
   by_cases ha : p a = true
   ·rw [List.takeWhile_cons_of_pos ha]
    intro y hy
    rcases List.mem_cons.1 hy with rfl | hy
    ·exact ha
    ·exact ih y hy
   ·rw [List.takeWhile_cons_of_neg ha]
    simp
theorem asc_wi {l : Dir} (h : Asc l) (x : Str × Nat) : Asc (wi l x) := by
 have hw := asc_wo h x.1
 have hd := asc_drop hw x.1 fun y hy => (mem_wo.1 hy).2
 have ht := take_lt (fun y => lt y.1 x.1) (wo l x.1)
 unfold wi Asc
 rw [List.pairwise_append]
 refine ⟨hw.sublist (List.takeWhile_sublist _), ?_, ?_⟩
 ·rw [List.pairwise_cons]
  exact ⟨hd, hw.sublist (List.dropWhile_sublist _)⟩
 ·intro a ha b hb
  have h1 := ht a ha
  rcases List.mem_cons.1 hb with rfl | hb
  ·exact h1
  ·exact lt_trans h1 (hd b hb)
theorem asc_inj {l : Dir} (h : Asc l) {x y : Str × Nat} (hx : x ∈ l) (hy : y ∈ l) (e : x.1 = y.1) : x = y := by
 induction l with
 | nil => cases hx
 | cons a l ih =>
   rw [Asc, List.pairwise_cons] at h
   rcases List.mem_cons.1 hx with gx | gx <;> rcases List.mem_cons.1 hy with gy | gy
   ·rw [gx, gy]
   ·exact absurd e (by rw [gx]; exact lt_ne (h.1 y gy))
   ·exact absurd e.symm (by rw [gy]; exact lt_ne (h.1 x gx))
   ·exact ih h.2 gx gy
theorem look_some {l : Dir} (h : Asc l) {s : Str} {f : Nat} : look l s = some f ↔ (s, f) ∈ l := by
 unfold look
 constructor
 ·intro e
  cases hf : l.find? fun y => y.1 == s with
  | none => rw [hf] at e; cases e
  | some y =>
    rw [hf] at e
    have h1 := List.mem_of_find?_eq_some hf
    have h2 := List.find?_some hf
    simp only [beq_iff_eq] at h2
    simp only [Option.map_some, Option.some.injEq] at e
    rw [← h2, ← e]
    exact h1
 ·intro hm
  cases hf : l.find? fun y => y.1 == s with
  | none =>
    have := List.find?_eq_none.1 hf _ hm
    simp at this
  | some y =>
    have h1 := List.mem_of_find?_eq_some hf
    have h2 := List.find?_some hf
    simp only [beq_iff_eq] at h2
    rw [asc_inj h h1 hm h2]
    rfl
theorem len_wo (l : Dir) (s : Str) : (wo l s).length ≤ l.length := List.length_filter_le _ _
theorem len_wi (l : Dir) (x : Str × Nat) : (wi l x).length ≤ l.length + 1 := by
 have := len_wo l x.1
 have e : ((wo l x.1).takeWhile (fun y => lt y.1 x.1)).length + ((wo l x.1).dropWhile (fun y => lt y.1 x.1)).length = (wo l x.1).length := by
  rw [← List.length_append, List.takeWhile_append_dropWhile]
 unfold wi
 rw [List.length_append, List.length_cons]
 omega
def apply (l : Dir) (c : Ch) : Dir :=
 if c.b ≠ [] then (match look l c.a with | none => l | some f => wi (wo l c.a) (c.b, f))
 else if c.f < 0 then wo l c.a else wi l (c.a, c.f.toNat)
def Ok (n : Nat) (l : Dir) (c : Ch) : Prop :=
 if c.b ≠ [] then ∃ f, look l c.a = some f ∧ c.a ≠ c.b
 else if c.f < 0 then ∃ f, look l c.a = some f else look l c.a = none ∧ c.f.toNat < n ∧ ∀ y ∈ l, y.2 ≠ c.f.toNat
structure Well (n : Nat) (l : Dir) : Prop where
 asc : Asc l
 one : (l.map (·.2)).Nodup
 lim : ∀ y ∈ l, y.2 < n
theorem Well.mono {n m : Nat} {l : Dir} (h : Well n l) (hm : n ≤ m) : Well m l := ⟨h.asc, h.one, fun y hy => Nat.lt_of_lt_of_le (h.lim y hy) hm⟩
theorem Well.nil (n : Nat) : Well n [] := ⟨List.Pairwise.nil, List.nodup_nil, by simp⟩
theorem Well.wo {n : Nat} {l : Dir} (h : Well n l) (s : Str) : Well n (wo l s) :=
 ⟨asc_wo h.asc s, h.one.sublist ((List.filter_sublist (p := fun y : Str × Nat => y.1 != s) (l := l)).map _), fun y hy => h.lim y (mem_wo.1 hy).1⟩
theorem perm_wi (l : Dir) (x : Str × Nat) : (wi l x).Perm (x :: Dk.wo l x.1) := by
 have h : (wi l x).Perm (x :: ((Dk.wo l x.1).takeWhile (fun y => lt y.1 x.1) ++ (Dk.wo l x.1).dropWhile (fun y => lt y.1 x.1))) := List.perm_middle
 rwa [List.takeWhile_append_dropWhile] at h
theorem Well.wi {n : Nat} {l : Dir} (h : Well n l) (x : Str × Nat) (hx : x.2 < n) (hf : ∀ y ∈ Dk.wo l x.1, y.2 ≠ x.2) : Well n (wi l x) := by
 refine ⟨asc_wi h.asc x, ?_, fun y hy => ?_⟩
 ·have hp := (perm_wi l x).map (fun y : Str × Nat => y.2)
  rw [hp.nodup_iff, List.map_cons, List.nodup_cons]
  refine ⟨fun hm => ?_, (h.wo x.1).one⟩
  obtain ⟨y, hy, e⟩ := List.mem_map.1 hm
  exact hf y hy e
 ·rcases mem_wi.1 hy with rfl | ⟨hy, _⟩
  ·exact hx
  ·exact h.lim y hy
theorem Well.inj {n : Nat} {l : Dir} (h : Well n l) {x y : Str × Nat} (hx : x ∈ l) (hy : y ∈ l) (e : x.2 = y.2) : x = y := by
 have h1 := h.one
 induction l with
 | nil => cases hx
 | cons a l ih =>
   rw [List.map_cons, List.nodup_cons] at h1
   have ha := h.asc
   rw [Asc, List.pairwise_cons] at ha
   rcases List.mem_cons.1 hx with gx | gx <;> rcases List.mem_cons.1 hy with gy | gy
   ·rw [gx, gy]
   ·exact absurd (List.mem_map.2 ⟨y, gy, by rw [← gx]; exact e.symm⟩) h1.1
   ·exact absurd (List.mem_map.2 ⟨x, gx, by rw [← gy]; exact e⟩) h1.1
   ·exact ih ⟨ha.2, h1.2, fun y hy => h.lim y (List.mem_cons_of_mem _ hy)⟩ gx gy h1.2
theorem Well.apply {n : Nat} {l : Dir} (h : Well n l) {c : Ch} (hc : Ok n l c) : Well n (apply l c) := by
 unfold Ok at hc
 unfold Dk.apply
 by_cases hb : c.b ≠ []
 ·rw [if_pos hb] at hc ⊢
  obtain ⟨f, hf, hne⟩ := hc
  rw [hf]
  have hm := (look_some h.asc).1 hf
  refine (h.wo c.a).wi (c.b, f) (h.lim (c.a, f) hm) fun y hy e => ?_
  have h1 := mem_wo.1 hy
  have h2 := mem_wo.1 h1.1
  exact h2.2 (congrArg Prod.fst (h.inj h2.1 hm e))
 ·rw [if_neg hb] at hc ⊢
  by_cases hf : c.f < 0
  ·rw [if_pos hf]; exact h.wo _
  ·rw [if_neg hf] at hc ⊢
   exact h.wi _ hc.2.1 fun y hy => hc.2.2 y (mem_wo.1 hy).1
theorem len_apply (l : Dir) (c : Ch) : (apply l c).length ≤ l.length + 1 := by
 unfold apply
 split
 ·split
  ·omega
  ·next f _ =>
   have := len_wo l c.a
   have := len_wi (wo l c.a) (c.b, f)
   omega
 ·split
  ·have := len_wo l c.a; omega
  ·exact len_wi _ _
def Chain (n : Nat) : Dir → List Ch → Dir → Prop
 | l, [], d => l = d
 | l, c :: cs, d => Ok n l c ∧ Chain n (apply l c) cs d
def fold (l : Dir) (cs : List Ch) : Dir := cs.foldl apply l
theorem Chain.fold {n : Nat} : ∀ {l : Dir} {cs : List Ch} {d : Dir}, Chain n l cs d → d = Dk.fold l cs
 | _, [], _, h => h.symm
 | _, _ :: _, _, h => by
   have := Chain.fold h.2
   exact this
theorem Ok.mono {n m : Nat} {l : Dir} {c : Ch} (h : Ok n l c) (hm : n ≤ m) : Ok m l c := by
 unfold Ok at h ⊢
 split
 ·next hb => rwa [if_pos hb] at h
 ·next hb =>
  rw [if_neg hb] at h
  split
  ·next hf => rwa [if_pos hf] at h
  ·next hf => rw [if_neg hf] at h; exact ⟨h.1, by omega, h.2.2⟩
theorem Chain.mono {n m : Nat} (hm : n ≤ m) : ∀ {l : Dir} {cs : List Ch} {d : Dir}, Chain n l cs d → Chain m l cs d
 | _, [], _, h => h
 | _, _ :: _, _, h => ⟨h.1.mono hm, Chain.mono hm h.2⟩
theorem Chain.snoc {n : Nat} {c : Ch} : ∀ {l : Dir} {cs : List Ch} {d : Dir}, Chain n l cs d → Ok n d c → Chain n l (cs ++ [c]) (apply d c)
 | _, [], _, h, hc => by
   cases h
   exact ⟨hc, rfl⟩
 | _, _ :: _, _, h, hc => ⟨h.1, Chain.snoc h.2 hc⟩
theorem Chain.take {n : Nat} : ∀ {l : Dir} {cs : List Ch} {d : Dir} (k : Nat), Chain n l cs d → Chain n l (cs.take k) (Dk.fold l (cs.take k))
 | _, [], _, k, h => by rw [List.take_nil]; rfl
 | _, _ :: _, _, 0, h => rfl
 | _, c :: cs, _, k + 1, h => ⟨h.1, Chain.take k h.2⟩
theorem Chain.well {n : Nat} : ∀ {l : Dir} {cs : List Ch} {d : Dir}, Well n l → Chain n l cs d → Well n d
 | _, [], _, hw, h => by cases h; exact hw
 | _, _ :: _, _, hw, h => Chain.well (hw.apply h.1) h.2
theorem len_fold : ∀ (cs : List Ch) (l : Dir), (fold l cs).length ≤ l.length + cs.length
 | [], l => by simp [fold]
 | c :: cs, l => by
   have h1 := len_fold cs (apply l c)
   have h2 := len_apply l c
   rw [List.length_cons]
   have : fold l (c :: cs) = fold (apply l c) cs := rfl
   rw [this]
   omega
structure Inv (d : D) : Prop where
 chain : Chain d.files.length d.sure d.chg d.dir
 well : Well d.files.length d.sure
 part : ∀ x ∈ d.files, x.2 ≤ x.1.length
theorem Inv.dir {d : D} (h : Inv d) : Well d.files.length d.dir := h.chain.well h.well
def size (fs : List (Str × Nat)) : Nat := (fs.map fun x => x.1.length).sum
structure Sz (n : Nat) (d : D) : Prop where
 files : d.files.length ≤ n
 dirs : d.sure.length + d.chg.length ≤ n
 bytes : size d.files ≤ n * 1048576
 calls : d.calls ≤ n
theorem Sz.dir {n : Nat} {d : D} (h : Sz n d) (hi : Inv d) : d.dir.length ≤ n := by
 have := len_fold d.chg d.sure
 rw [← hi.chain.fold] at this
 have := h.dirs
 omega
theorem Sz.mono {n m : Nat} {d : D} (h : Sz n d) (hm : n ≤ m) : Sz m d :=
 ⟨Nat.le_trans h.files hm, Nat.le_trans h.dirs hm, Nat.le_trans h.bytes (Nat.mul_le_mul_right _ hm), Nat.le_trans h.calls hm⟩
end Go.Proofs.Ytodeodndjkkkbaa.Dk
namespace Go.Proofs.Ytodeodndjkkkbaa.Dk
open Go
def file (fs : List (Str × Nat)) (f : Nat) : Str × Nat := fs.getD f ([], 0)
def heldL (fs : List (Str × Nat)) (l : Dir) : Nat := (l.map fun y => (file fs y.2).1.length).sum
def held (d : D) : Nat := heldL d.files d.dir
def callE (d : D) : Nat := if 0 ≤ d.halt ∧ d.halt ≤ (d.calls : Int) then 11 else if (d.calls : Int) = d.deny then 9 else 0
def tick (d : D) : D := { d with calls := d.calls + 1 }
def change (d : D) (c : Ch) : D := { d with dir := apply d.dir c, chg := d.chg ++ [c] }
def grow (d : D) : D := { d with files := d.files ++ [([], 0)] }
def put (d : D) (f : Nat) (x : Str × Nat) : D := { d with files := d.files.set f x }
def create (d : D) (n : Str) : D × Nat :=
 if callE d ≠ 0 then (tick d, callE d) else if right n = false ∨ look d.dir n ≠ none then (tick d, 12)
 else (change (grow (tick d)) ⟨n, [], (d.files.length : Int)⟩, 0)
def append (d : D) (n s : Str) : D × Nat :=
 if callE d ≠ 0 then (tick d, callE d) else match look d.dir n with
 | none => (tick d, 12)
 | some f => if d.room - (held d : Int) < (s.length : Int) then (tick d, 10) else (put (tick d) f ((file d.files f).1 ++ s, (file d.files f).2), 0)
def sync (d : D) (n : Str) : D × Nat :=
 if callE d ≠ 0 then (tick d, callE d) else match look d.dir n with
 | none => (tick d, 12)
 | some f => (put (tick d) f ((file d.files f).1, (file d.files f).1.length), 0)
def rename (d : D) (a b : Str) : D × Nat :=
 if callE d ≠ 0 then (tick d, callE d) else if look d.dir a = none ∨ right b = false ∨ a = b then (tick d, 12) else (change (tick d) ⟨a, b, 0⟩, 0)
def remove (d : D) (n : Str) : D × Nat :=
 if callE d ≠ 0 then (tick d, callE d) else if look d.dir n = none then (tick d, 12) else (change (tick d) ⟨n, [], -1⟩, 0)
def syncDir (d : D) : D × Nat :=
 if callE d ≠ 0 then (tick d, callE d) else ({ tick d with sure := d.dir, chg := [] }, 0)
def space (d : D) (n : Int) : D := { d with room := max n 0 }
def later (d : D) (n : Int) : Int := if n < 0 ∨ 1099511627776 < n then -1 else (d.calls : Int) + n
def stop (d : D) (n : Int) : D := { d with halt := later d n }
def refuse (d : D) (n : Int) : D := { d with deny := later d n }
def keepAt (keep : List Int) (i : Nat) : Int := if keep = [] then 0 else max (keep.getD (i % keep.length) 0) 0
def cutN (x : Str × Nat) (k : Int) : Nat := x.2 + min k.toNat (x.1.length - x.2)
def cut (fs : List (Str × Nat)) (f : Nat) (k : Int) : List (Str × Nat) := fs.set f ((file fs f).1.take (cutN (file fs f) k), cutN (file fs f) k)
def cuts (keep : List Int) : Nat → List (Str × Nat) → Dir → List (Str × Nat)
 | _, fs, [] => fs
 | i, fs, y :: l => cuts keep (i + 1) (cut fs y.2 (keepAt keep i)) l
def crashDir (d : D) (n : Int) : Dir := fold d.sure (d.chg.take n.toNat)
def crash (d : D) (n : Int) (keep : List Int) : D :=
 { d with files := cuts keep 0 d.files (crashDir d n), dir := crashDir d n, sure := crashDir d n, chg := [], halt := -1, deny := -1 }
def read (d : D) (n : Str) : Str × Nat := match look d.dir n with | none => ([], 12) | some f => ((file d.files f).1, 0)
def names (d : D) : List Str := d.dir.map (·.1)
structure Op where
 kind : Nat
 a : Str
 b : Str
 n : Int
 keep : List Int
def step (d : D) (o : Op) : D × Nat :=
 if o.kind = 0 then create d o.a else if o.kind = 1 then append d o.a o.b else if o.kind = 2 then sync d o.a else if o.kind = 3 then rename d o.a o.b
 else if o.kind = 4 then remove d o.a else if o.kind = 5 then syncDir d else if o.kind = 6 then (space d o.n, 0) else if o.kind = 7 then (stop d o.n, 0)
 else if o.kind = 8 then (refuse d o.n, 0) else (crash d o.n o.keep, 0)
theorem file_set (fs : List (Str × Nat)) (f g : Nat) (x : Str × Nat) (hf : f < fs.length) : file (fs.set f x) g = if f = g then x else file fs g := by
 unfold file
 rw [List.getD, List.getD, List.getElem?_set]
 by_cases h : f = g
 ·rw [if_pos h, if_pos h, if_pos hf]; rfl
 ·rw [if_neg h, if_neg h]
theorem getD_lt {fs : List (Str × Nat)} {f : Nat} (h : f < fs.length) : fs.getD f ([], 0) = fs[f] := by
 rw [List.getD, List.getElem?_eq_getElem h]
 rfl
theorem file_mem {fs : List (Str × Nat)} {f : Nat} (h : f < fs.length) : file fs f ∈ fs := by
 unfold file
 rw [getD_lt h]
 exact List.getElem_mem h
theorem mem_set {fs : List (Str × Nat)} {f : Nat} {x y : Str × Nat} (h : y ∈ fs.set f x) : y = x ∨ y ∈ fs := by
 rcases List.mem_or_eq_of_mem_set h with h | h
 ·exact .inr h
 ·exact .inl h
theorem size_set (fs : List (Str × Nat)) : ∀ (f : Nat) (x : Str × Nat), f < fs.length → size (fs.set f x) + (file fs f).1.length = size fs + x.1.length := by
 induction fs with
 | nil => intro f x h; simp at h
 | cons a fs ih =>
   intro f x h
   cases f with
   | zero =>
     have : file (a :: fs) 0 = a := rfl
     rw [this, List.set_cons_zero]
     simp only [size, List.map_cons, List.sum_cons]
     omega
   | succ f =>
     have e : file (a :: fs) (f + 1) = file fs f := rfl
     have := ih f x (by simpa using h)
     rw [e, List.set_cons_succ]
     simp only [size, List.map_cons, List.sum_cons] at this ⊢
     omega
theorem size_snoc (fs : List (Str × Nat)) (x : Str × Nat) : size (fs ++ [x]) = size fs + x.1.length := by
 simp [size]
theorem Inv.tick {d : D} (h : Inv d) : Inv (tick d) := ⟨h.chain, h.well, h.part⟩
theorem Sz.tick {n : Nat} {d : D} (h : Sz n d) : Sz (n + 1) (tick d) :=
 ⟨Nat.le_succ_of_le h.files, Nat.le_succ_of_le h.dirs, Nat.le_trans h.bytes (Nat.mul_le_mul_right _ (Nat.le_succ _)), Nat.succ_le_succ h.calls⟩
theorem Inv.change {d : D} (h : Inv d) {c : Ch} (hc : Ok d.files.length d.dir c) : Inv (change d c) := ⟨h.chain.snoc hc, h.well, h.part⟩
theorem Inv.grow {d : D} (h : Inv d) : Inv (grow d) := by
 have hl : d.files.length ≤ (d.files ++ [(([] : Str), 0)]).length := by simp
 refine ⟨h.chain.mono hl, h.well.mono hl, fun x hx => ?_⟩
 rcases List.mem_append.1 hx with hx | hx
 ·exact h.part x hx
 ·rw [List.mem_singleton.1 hx]; exact Nat.le_refl _
theorem Inv.put {d : D} (h : Inv d) (f : Nat) {x : Str × Nat} (hx : x.2 ≤ x.1.length) : Inv (put d f x) := by
 have hl : (d.files.set f x).length = d.files.length := List.length_set
 refine ⟨?_, ?_, fun y hy => ?_⟩
 ·show Chain (d.files.set f x).length _ _ _
  rw [hl]; exact h.chain
 ·show Well (d.files.set f x).length _
  rw [hl]; exact h.well
 ·rcases mem_set hy with rfl | hy
  ·exact hx
  ·exact h.part y hy
theorem Inv.dirlt {d : D} (h : Inv d) {n : Str} {f : Nat} (hf : look d.dir n = some f) : f < d.files.length := h.dir.lim _ ((look_some h.dir.asc).1 hf)
theorem Inv.file {d : D} (h : Inv d) (f : Nat) : (file d.files f).2 ≤ (file d.files f).1.length := by
 by_cases hf : f < d.files.length
 ·exact h.part _ (file_mem hf)
 ·unfold Dk.file
  rw [List.getD, List.getElem?_eq_none (by omega)]
  exact Nat.le_refl _
theorem right_ne {b : Str} (h : right b ≠ false) : b ≠ [] := fun e => by rw [e] at h; exact h rfl
theorem Inv.create {d : D} (h : Inv d) (n : Str) : Inv (create d n).1 := by
 unfold Dk.create
 split
 ·exact h.tick
 ·split
  ·exact h.tick
  ·next hn =>
   refine Inv.change h.tick.grow ?_
   have h2 : look d.dir n = none := by
    cases hl : look d.dir n with
    | none => rfl
    | some f => exact absurd (Or.inr (by rw [hl]; simp)) hn
   unfold Ok
   rw [if_neg (by simp), if_neg (by simp)]
   refine ⟨h2, ?_, fun y hy e => ?_⟩
   ·show (Int.toNat (d.files.length : Int)) < (d.files ++ [(([] : Str), 0)]).length
    simp
   ·have h3 := h.dir.lim y hy
    simp only [Int.toNat_natCast] at e
    omega
set_option maxRecDepth 100000 in
theorem Sz.create {k : Nat} {d : D} (h : Sz k d) (n : Str) : Sz (k + 1) (create d n).1 := by
 unfold Dk.create
 split
 ·exact h.tick
 ·split
  ·exact h.tick
  ·have := h.files
   have := h.dirs
   have := h.bytes
   have := h.calls
   refine ⟨?_, ?_, ?_, ?_⟩
   ·show (d.files ++ [(([] : Str), 0)]).length ≤ _
    simp; omega
   ·show d.sure.length + (d.chg ++ [_]).length ≤ _
    simp; omega
   ·exact Nat.le_trans (Nat.le_of_eq (size_snoc d.files ([], 0))) (Nat.le_trans h.bytes (Nat.mul_le_mul_right _ (Nat.le_succ k)))
   ·show d.calls + 1 ≤ _
    omega
theorem Inv.append {d : D} (h : Inv d) (n s : Str) : Inv (append d n s).1 := by
 unfold Dk.append
 split
 ·exact h.tick
 ·split
  ·exact h.tick
  ·next f hf =>
   split
   ·exact h.tick
   ·refine Inv.put h.tick f ?_
    have := h.file f
    rw [List.length_append]
    omega
set_option maxRecDepth 100000 in
theorem Sz.put {k : Nat} {d : D} (h : Sz k d) {f : Nat} {x : Str × Nat} (hf : f < d.files.length) (hx : x.1.length ≤ (file d.files f).1.length + 1048576) : Sz (k + 1) (Dk.put (Dk.tick d) f x) := by
 have := h.files
 have := h.dirs
 have := h.bytes
 have := h.calls
 refine ⟨?_, ?_, ?_, ?_⟩
 ·show (d.files.set f x).length ≤ _
  rw [List.length_set]; omega
 ·show d.sure.length + d.chg.length ≤ _
  omega
 ·show size (d.files.set f x) ≤ _
  have := size_set d.files f x hf
  omega
 ·show d.calls + 1 ≤ _
  omega
theorem Sz.append {k : Nat} {d : D} (h : Sz k d) (hi : Inv d) (n s : Str) (hs : s.length ≤ 1048576) : Sz (k + 1) (append d n s).1 := by
 unfold Dk.append
 split
 ·exact h.tick
 ·split
  ·exact h.tick
  ·next f hf =>
   split
   ·exact h.tick
   ·exact h.put (hi.dirlt hf) (by rw [List.length_append]; omega)
theorem Inv.sync {d : D} (h : Inv d) (n : Str) : Inv (sync d n).1 := by
 unfold Dk.sync
 split
 ·exact h.tick
 ·split
  ·exact h.tick
  ·next f hf => exact Inv.put h.tick f (Nat.le_refl _)
theorem Sz.sync {k : Nat} {d : D} (h : Sz k d) (hi : Inv d) (n : Str) : Sz (k + 1) (sync d n).1 := by
 unfold Dk.sync
 split
 ·exact h.tick
 ·split
  ·exact h.tick
  ·next f hf => exact h.put (hi.dirlt hf) (Nat.le_add_right _ _)
theorem Inv.rename {d : D} (h : Inv d) (a b : Str) : Inv (rename d a b).1 := by
 unfold Dk.rename
 split
 ·exact h.tick
 ·split
  ·exact h.tick
  ·next hn =>
   refine Inv.change h.tick ?_
   unfold Ok
   rw [if_pos (right_ne fun e => hn (.inr (.inl e)))]
   cases hl : look d.dir a with
   | none => exact absurd (Or.inl hl) hn
   | some f => exact ⟨f, hl, fun e => hn (.inr (.inr e))⟩
set_option maxRecDepth 100000 in
theorem Sz.change {k : Nat} {d : D} (h : Sz k d) (c : Ch) : Sz (k + 1) (Dk.change (Dk.tick d) c) := by
 have := h.files
 have := h.dirs
 have := h.bytes
 have := h.calls
 refine ⟨?_, ?_, ?_, ?_⟩
 ·show d.files.length ≤ _
  omega
 ·show d.sure.length + (d.chg ++ [c]).length ≤ _
  simp; omega
 ·exact Nat.le_trans h.bytes (Nat.mul_le_mul_right _ (Nat.le_succ k))
 ·show d.calls + 1 ≤ _
  omega
theorem Sz.rename {k : Nat} {d : D} (h : Sz k d) (a b : Str) : Sz (k + 1) (rename d a b).1 := by
 unfold Dk.rename
 split
 ·exact h.tick
 ·split
  ·exact h.tick
  ·exact h.change _
theorem Inv.remove {d : D} (h : Inv d) (n : Str) : Inv (remove d n).1 := by
 unfold Dk.remove
 split
 ·exact h.tick
 ·split
  ·exact h.tick
  ·next hn =>
   refine Inv.change h.tick ?_
   unfold Ok
   rw [if_neg (by simp), if_pos (by simp)]
   cases hl : look d.dir n with
   | none => exact absurd hl hn
   | some f => exact ⟨f, hl⟩
theorem Sz.remove {k : Nat} {d : D} (h : Sz k d) (n : Str) : Sz (k + 1) (remove d n).1 := by
 unfold Dk.remove
 split
 ·exact h.tick
 ·split
  ·exact h.tick
  ·exact h.change _
theorem Inv.syncDir {d : D} (h : Inv d) : Inv (syncDir d).1 := by
 unfold Dk.syncDir
 split
 ·exact h.tick
 ·exact ⟨rfl, h.dir, h.part⟩
theorem Sz.syncDir {k : Nat} {d : D} (h : Sz k d) (hi : Inv d) : Sz (k + 1) (syncDir d).1 := by
 unfold Dk.syncDir
 split
 ·exact h.tick
 ·have := h.dir hi
  have := h.tick
  exact ⟨this.files, by show d.dir.length + 0 ≤ _; omega, this.bytes, this.calls⟩
theorem length_cuts (keep : List Int) : ∀ (l : Dir) (i : Nat) (fs : List (Str × Nat)), (cuts keep i fs l).length = fs.length
 | [], _, _ => rfl
 | y :: l, i, fs => by
   have := length_cuts keep l (i + 1) (cut fs y.2 (keepAt keep i))
   rw [show cuts keep i fs (y :: l) = cuts keep (i + 1) (cut fs y.2 (keepAt keep i)) l from rfl, this]
   exact List.length_set
structure Left (x y : Str × Nat) : Prop where
 take : y.1 = x.1.take y.1.length
 le : y.1.length ≤ x.1.length
 least : x.2 ≤ y.1.length
 sure : x.2 ≤ y.2
 part : y.2 ≤ y.1.length
theorem Left.refl {x : Str × Nat} (h : x.2 ≤ x.1.length) : Left x x := ⟨by rw [List.take_length], Nat.le_refl _, h, Nat.le_refl _, h⟩
theorem Left.trans {x y z : Str × Nat} (h : Left x y) (g : Left y z) : Left x z :=
 ⟨by
  have h1 := g.take
  rw [h.take, List.take_take, Nat.min_eq_left g.le] at h1
  exact h1, Nat.le_trans g.le h.le, by have := g.least; have := h.sure; omega, Nat.le_trans h.sure g.sure, g.part⟩
theorem cut_left {x : Str × Nat} (h : x.2 ≤ x.1.length) (k : Int) : Left x (x.1.take (cutN x k), cutN x k) := by
 have hn : cutN x k ≤ x.1.length ∧ x.2 ≤ cutN x k := by unfold cutN; omega
 have hl : (x.1.take (cutN x k)).length = cutN x k := by rw [List.length_take]; omega
 exact ⟨by show _ = _; rw [hl], by show (x.1.take (cutN x k)).length ≤ _; omega, by show _ ≤ (x.1.take (cutN x k)).length; omega, hn.2, by show _ ≤ (x.1.take (cutN x k)).length; omega⟩
theorem cuts_left (keep : List Int) : ∀ (l : Dir) (i : Nat) (fs : List (Str × Nat)), (∀ f, (file fs f).2 ≤ (file fs f).1.length) → (∀ y ∈ l, y.2 < fs.length) →
 (∀ f, Left (file fs f) (file (cuts keep i fs l) f)) ∧ ∀ y ∈ l, (file (cuts keep i fs l) y.2).2 = (file (cuts keep i fs l) y.2).1.length := by
 intro l
 induction l with
 | nil => exact fun i fs h _ => ⟨fun f => Left.refl (h f), by simp⟩
 | cons a l ih =>
   intro i fs h hl
   have hc : ∀ f, Left (file fs f) (file (cut fs a.2 (keepAt keep i)) f) := fun f => by
    unfold cut
    rw [file_set _ _ _ _ (hl a List.mem_cons_self)]
    by_cases e : a.2 = f
    ·rw [if_pos e, e]; exact cut_left (h f) _
    ·rw [if_neg e]; exact Left.refl (h f)
   obtain ⟨h1, h2⟩ := ih (i + 1) (cut fs a.2 (keepAt keep i)) (fun f => (hc f).part) (fun y hy => by unfold cut; rw [List.length_set]; exact hl y (List.mem_cons_of_mem _ hy))
   refine ⟨fun f => (hc f).trans (h1 f), fun y hy => ?_⟩
   rcases List.mem_cons.1 hy with rfl | hy
   ·have h3 := h1 y.2
    have h4 : (file (cut fs y.2 (keepAt keep i)) y.2).2 = (file (cut fs y.2 (keepAt keep i)) y.2).1.length := by
     unfold cut
     rw [file_set _ _ _ _ (hl y List.mem_cons_self), if_pos rfl]
     rw [List.length_take]
     have := h y.2
     unfold cutN
     omega
    have := h3.sure
    have := h3.part
    have := h3.le
    show (file (cuts keep (i + 1) (cut fs y.2 (keepAt keep i)) l) y.2).2 = (file (cuts keep (i + 1) (cut fs y.2 (keepAt keep i)) l) y.2).1.length
    omega
   ·exact h2 y hy
theorem size_le {fs gs : List (Str × Nat)} (hl : fs.length = gs.length) (h : ∀ f, (file fs f).1.length ≤ (file gs f).1.length) : size fs ≤ size gs := by
 induction fs generalizing gs with
 | nil => exact Nat.zero_le _
 | cons a fs ih =>
   cases gs with
   | nil => simp at hl
   | cons b gs =>
     have h0 : a.1.length ≤ b.1.length := h 0
     have := ih (gs := gs) (by simpa using hl) fun f => h (f + 1)
     simp only [size, List.map_cons, List.sum_cons] at this ⊢
     omega
theorem Inv.crashDir {d : D} (h : Inv d) (n : Int) : Well d.files.length (Dk.crashDir d n) := (h.chain.take n.toNat).well h.well
theorem Inv.crash {d : D} (h : Inv d) (n : Int) (keep : List Int) : Inv (Dk.crash d n keep) := by
 have hw := h.crashDir n
 obtain ⟨h1, _⟩ := cuts_left keep (Dk.crashDir d n) 0 d.files h.file hw.lim
 have hl := length_cuts keep (Dk.crashDir d n) 0 d.files
 refine ⟨rfl, ?_, fun x hx => ?_⟩
 ·show Well (cuts keep 0 d.files (Dk.crashDir d n)).length (Dk.crashDir d n)
  rw [hl]; exact hw
 ·obtain ⟨f, hf, e⟩ := List.getElem_of_mem hx
  have := (h1 f).part
  have e2 : Dk.file (cuts keep 0 d.files (Dk.crashDir d n)) f = x := by
   exact (getD_lt (fs := cuts keep 0 d.files (Dk.crashDir d n)) hf).trans e
  rwa [e2] at this
set_option maxRecDepth 100000 in
theorem Sz.crash {k : Nat} {d : D} (h : Sz k d) (hi : Inv d) (n : Int) (keep : List Int) : Sz k (Dk.crash d n keep) := by
 have hl := length_cuts keep (Dk.crashDir d n) 0 d.files
 obtain ⟨h1, _⟩ := cuts_left keep (Dk.crashDir d n) 0 d.files hi.file (hi.crashDir n).lim
 have hlen := len_fold (d.chg.take n.toNat) d.sure
 have := h.dirs
 have := h.bytes
 have hs := size_le hl fun f => (h1 f).le
 refine ⟨?_, ?_, ?_, h.calls⟩
 ·show (cuts keep 0 d.files (Dk.crashDir d n)).length ≤ k
  rw [hl]; exact h.files
 ·show (Dk.crashDir d n).length + 0 ≤ k
  rw [List.length_take] at hlen
  unfold Dk.crashDir
  omega
 ·show size (cuts keep 0 d.files (Dk.crashDir d n)) ≤ _
  omega
theorem Inv.step {d : D} (h : Inv d) (o : Op) : Inv (step d o).1 := by
 unfold Dk.step
 repeat' split
 ·exact h.create _
 ·exact h.append _ _
 ·exact h.sync _
 ·exact h.rename _ _
 ·exact h.remove _
 ·exact h.syncDir
 ·exact ⟨h.chain, h.well, h.part⟩
 ·exact ⟨h.chain, h.well, h.part⟩
 ·exact ⟨h.chain, h.well, h.part⟩
 ·exact h.crash _ _
theorem Sz.step {k : Nat} {d : D} (h : Sz k d) (hi : Inv d) (o : Op) (hb : o.b.length ≤ 1048576) : Sz (k + 1) (step d o).1 := by
 have hm := h.mono (Nat.le_succ k)
 unfold Dk.step
 repeat' split
 ·exact h.create _
 ·exact h.append hi _ _ hb
 ·exact h.sync hi _
 ·exact h.rename _ _
 ·exact h.remove _
 ·exact h.syncDir hi
 ·exact ⟨hm.files, hm.dirs, hm.bytes, hm.calls⟩
 ·exact ⟨hm.files, hm.dirs, hm.bytes, hm.calls⟩
 ·exact ⟨hm.files, hm.dirs, hm.bytes, hm.calls⟩
 ·exact hm.crash hi _ _
def new (n : Int) : D := ⟨[], [], [], [], max n 0, -1, -1, 0⟩
theorem Inv.new (n : Int) : Inv (new n) := ⟨rfl, Well.nil _, by simp [Dk.new]⟩
theorem Sz.new (n : Int) : Sz 0 (new n) := ⟨Nat.le_refl _, Nat.le_refl _, Nat.le_refl _, Nat.le_refl _⟩
end Go.Proofs.Ytodeodndjkkkbaa.Dk
