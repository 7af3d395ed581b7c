import Derived.Test.YtkhiemkekmdhgaaDoorZDAG
import Derived.Test.YtkhiemkekmdhgaaDoorZDAD
import Derived.Test.YtkhiemkekmdhgaaDoorZDAB
import Derived.Test.YtkhiemkekmdhgaaDoorZDAE
import Derived.Laws.BitsAllLaws
import Derived.Deep.RegionWith
import Derived.BigQuiet
import Derived.Test.YtkhiemkekmdhgaaDoorZDAF
import Derived.Test.YtkhiemkekmdhgaaDoorZDAA
import Derived.Laws.ResultCell
namespace Go.Proofs.YtkhiemkekmdhgaaDoor
section
open Go
def Jn.wS (s : List Kn.C) (d : Dd.D) : List UInt8 := if Dd.fitE s d = 0 then Fr.frm (Dd.enc s d) else []
def Jn.wV (s : List Kn.C) (d : Dd.D) : Value := .tuple #[.string (Ty.S (Jn.wS s d)), .int .i64 (Dd.fitE s d)]
def Jn.rds (s : List Kn.C) : List Fr.Str → Option (List Dd.D)
 | [] => some []
 | t :: r => if (Dd.rd s t).1 = 0 then (match Jn.rds s r with | some L => some ((Dd.rd s t).2 :: L) | none => none) else none
def Jn.rd (s : List Kn.C) (l : List UInt8) : Nat × List Dd.D :=
 if Kn.right s = false then (4, [])
 else if (Fr.scan l).1 ≠ 0 then ((Fr.scan l).1, [])
 else match Jn.rds s (Fr.scan l).2.1 with | some L => (0, L) | none => (8, [])
def Jn.rpA (s : List Kn.C) : List Dd.D → List (List UInt8) → Nat × List Dd.D
 | X, [] => (0, X)
 | X, t :: r => if (Jn.rd s t).1 = 0 then Jn.rpA s (Mg.puts X (Jn.rd s t).2) r else ((Jn.rd s t).1, [])
def Jn.rp (s : List Kn.C) (ts : List (List UInt8)) : Nat × List Dd.D := Jn.rpA s [] ts
theorem Jn.fit_ne {s : List Kn.C} {d : Dd.D} (h : Dd.fitE s d = 0) : d.row ≠ [] := fun e => by
 obtain ⟨h1, h2, _⟩ := Dd.fitE_0 h
 rw [e] at h2
 unfold Dd.cols at h2
 have hs : s ≠ [] := fun e => by rw [e] at h1; exact absurd h1 (by decide)
 have := List.length_pos_iff.2 hs
 split at h2
 ·rw [List.length_take] at h2
  simp only [List.length_nil] at h2
  omega
 ·simp only [List.length_nil] at h2
  omega
theorem Jn.rd_ne {s : List Kn.C} {t : Fr.Str} (h : (Dd.rd s t).1 = 0) : (Dd.rd s t).2.row ≠ [] := Jn.fit_ne (Dd.enc_rd h).1
theorem Jn.rds_len {s : List Kn.C} : ∀ {ts : List Fr.Str} {L : List Dd.D}, Jn.rds s ts = some L → L.length = ts.length
 | [], L, h => by
   obtain rfl : [] = L := by simpa [Jn.rds] using h
   rfl
 | t :: r, L, h => by
   unfold Jn.rds at h
   split at h
   ·cases hr : Jn.rds s r with
    | none => rw [hr] at h; cases h
    | some M =>
      rw [hr] at h
      obtain rfl : (Dd.rd s t).2 :: M = L := by simpa using h
      rw [List.length_cons, List.length_cons, Jn.rds_len hr]
   ·cases h
theorem Jn.rds_append {s : List Kn.C} : ∀ (A B : List Fr.Str), Jn.rds s (A ++ B) = (match Jn.rds s A, Jn.rds s B with | some L, some M => some (L ++ M) | _, _ => none)
 | [], B => by
   show Jn.rds s B = _
   simp only [Jn.rds]
   cases Jn.rds s B <;> rfl
 | t :: A, B => by
   show Jn.rds s (t :: (A ++ B)) = _
   simp only [Jn.rds]
   rw [Jn.rds_append A B]
   split
   ·cases Jn.rds s A <;> cases Jn.rds s B <;> rfl
   ·rfl
theorem Jn.rds_enc {s : List Kn.C} : ∀ (L : List Dd.D), (∀ d ∈ L, Dd.fitE s d = 0) → (∀ d ∈ L, ∀ v ∈ d.row, Ty.I64 v.n) → Jn.rds s (L.map (Dd.enc s)) = some L
 | [], _, _ => rfl
 | d :: L, h, hi => by
   have e := Dd.rd_enc (h d List.mem_cons_self) (hi d List.mem_cons_self)
   rw [List.map_cons]
   unfold Jn.rds
   rw [e, if_pos rfl, Jn.rds_enc L (fun x hx => h x (List.mem_cons_of_mem _ hx)) (fun x hx => hi x (List.mem_cons_of_mem _ hx))]
theorem Jn.rds_take {s : List Kn.C} {ts : List Fr.Str} {i : Nat} {t : Fr.Str} {L : List Dd.D} (ht : ts[i]? = some t) (h : Jn.rds s (ts.take i) = some L) :
 ((Dd.rd s t).1 = 0 → Jn.rds s (ts.take (i + 1)) = some (L ++ [(Dd.rd s t).2])) ∧ ((Dd.rd s t).1 ≠ 0 → Jn.rds s ts = none) := by
 obtain ⟨hi, rfl⟩ := List.getElem?_eq_some_iff.1 ht
 refine ⟨fun h0 => ?_, fun h0 => ?_⟩
 ·rw [List.take_succ_eq_append_getElem hi, Jn.rds_append, h]
  unfold Jn.rds
  rw [if_pos h0]
  rfl
 ·have e : ts = ts.take i ++ (ts[i] :: ts.drop (i + 1)) := by rw [← List.drop_eq_getElem_cons hi, List.take_append_drop]
  rw [e, Jn.rds_append, h]
  have : Jn.rds s (ts[i] :: ts.drop (i + 1)) = none := by
   simp only [Jn.rds]
   rw [if_neg h0]
  rw [this]
theorem Jn.scan_inv : ∀ (n : Nat) (l : List UInt8), l.length ≤ n → 8 * (Fr.scan l).2.1.length ≤ l.length ∧ ∀ x ∈ (Fr.scan l).2.1, x.length ≤ 1048576
 | 0, l, h => by
   obtain rfl : l = [] := List.eq_nil_of_length_eq_zero (by omega)
   rw [Fr.scan_nil]
   exact ⟨Nat.le_refl _, fun x hx => by cases hx⟩
 | n + 1, l, h => by
   rw [Fr.scan_is]
   split
   ·exact ⟨Nat.zero_le _, fun x hx => by cases hx⟩
   ·split
    ·exact ⟨Nat.zero_le _, fun x hx => by cases hx⟩
    ·split
     ·exact ⟨Nat.zero_le _, fun x hx => by cases hx⟩
     ·split
      ·exact ⟨Nat.zero_le _, fun x hx => by cases hx⟩
      ·split
       ·exact ⟨Nat.zero_le _, fun x hx => by cases hx⟩
       ·next h1 h2 h3 _ _ =>
        obtain ⟨i1, i2⟩ := Jn.scan_inv n (l.drop (Fr.val (l.take 4) + 8)) (by rw [List.length_drop]; omega)
        rw [List.length_drop] at i1
        refine ⟨by simp only [List.length_cons]; omega, fun x hx => ?_⟩
        rcases List.mem_cons.1 hx with rfl | hx
        ·rw [List.length_take]; omega
        ·exact i2 x hx
theorem Jn.scan_n (l : List UInt8) : 8 * (Fr.scan l).2.1.length ≤ l.length := (Jn.scan_inv _ l (Nat.le_refl _)).1
theorem Jn.scan_txt (l : List UInt8) : ∀ x ∈ (Fr.scan l).2.1, x.length ≤ 1048576 := (Jn.scan_inv _ l (Nat.le_refl _)).2
end
section
open Go.RowKit
theorem Fr.Tn_last (j r : Nat) : Fr.Tn (j + 1) r = Fr.T (Fr.Tn j r) := Fr.Tn_add j 1 r
theorem Fr.T_odd {r : Nat} (h : r % 2 = 1) : Fr.T r = r / 2 ^^^ 2197175160 := by unfold Fr.T; rw [if_pos h]; rfl
theorem Fr.T_even {r : Nat} (h : r % 2 = 0) : Fr.T r = r / 2 := by unfold Fr.T; rw [if_neg (by omega), Nat.xor_zero]
theorem Fr.reg_snoc (l : List UInt8) (b : UInt8) (r : Nat) : Fr.reg r (l ++ [b]) = Fr.Tn 8 (Fr.reg r l ^^^ b.toNat) := by
 rw [Fr.reg_append]
 rfl
theorem Fr.reg_step {s : ByteArray} {k : Nat} (h : k < s.size) (r : Nat) : Fr.reg r (s.data.toList.take (k + 1)) = Fr.Tn 8 (Fr.reg r (s.data.toList.take k) ^^^ (s[k]).toNat) := by
 have hl : k < s.data.toList.length := by rw [Ty.length_data]; exact h
 rw [List.take_succ_eq_append_getElem hl, Fr.reg_snoc]
 rfl
theorem Fr.four_buf (n : Nat) (hn : n < 4294967296) (w : World) : Ty.Buf w.heap.size (w.alloc (.cells #[.int .u8 ((n : Int) % 256), .int .u8 ((n : Int) / 256 % 256), .int .u8 ((n : Int) / 65536 % 256), .int .u8 ((n : Int) / 16777216)] 5)) (.slice (some ⟨w.heap.size, 0, none⟩) 4 4) (Fr.four n) := by
 refine ⟨by simp, .inr ⟨w.heap.size, 4, _, rfl, Nat.le_refl _, heap_alloc_new w _, Nat.le_refl _, by unfold maxLen; omega, by simp, ?_⟩⟩
 have e0 := Ty.toNat_ofNat8 (n % 256) (by omega)
 have e1 := Ty.toNat_ofNat8 (n / 256 % 256) (by omega)
 have e2 := Ty.toNat_ofNat8 (n / 65536 % 256) (by omega)
 have e3 := Ty.toNat_ofNat8 (n / 16777216 % 256) (by omega)
 have i3 : ((n / 16777216 % 256 : Nat) : Int) = (n : Int) / 16777216 := by omega
 simp only [Fr.four, List.map_cons, List.map_nil, Ty.B, e0, e1, e2, e3, i3]
 simp
def Fr.at4 (s : ByteArray) : Nat := Fr.val (s.data.toList.take 4)
theorem Fr.val4 {s : ByteArray} (h : 4 ≤ s.size) : Fr.val (s.data.toList.take 4) = s[0].toNat + s[1].toNat * 256 + s[2].toNat * 65536 + s[3].toNat * 16777216 := by
 have hl : 4 ≤ s.data.toList.length := by rw [Ty.length_data]; exact h
 have e : s.data.toList.take 4 = [s[0], s[1], s[2], s[3]] := by
  refine List.ext_getElem (by rw [List.length_take]; simp; omega) fun i h1 h2 => ?_
  have hi : i < 4 := by simpa using h2
  rw [List.getElem_take]
  rcases (by omega : i = 0 ∨ i = 1 ∨ i = 2 ∨ i = 3) with rfl | rfl | rfl | rfl <;> rfl
 rw [e]
 simp only [Fr.val]
 omega
theorem Fr.S_add (a b : List UInt8) : Ty.S a ++ Ty.S b = Ty.S (a ++ b) := by
 apply ByteArray.ext
 apply Array.toList_inj.1
 rw [ByteArray.data_append, Array.toList_append]
 simp [Ty.S]
theorem Fr.four_mod (n : Nat) : Fr.four (n % 4294967296) = Fr.four n := by
 unfold Fr.four
 rw [show n % 4294967296 % 256 = n % 256 by omega, show n % 4294967296 / 256 % 256 = n / 256 % 256 by omega, show n % 4294967296 / 65536 % 256 = n / 65536 % 256 by omega, show n % 4294967296 / 16777216 % 256 = n / 16777216 % 256 by omega]
end
section
open Go.RowKit
def Fr.Mid (l : List UInt8) (a : Nat) (L : List Fr.Str) : Prop :=
 a ≤ l.length ∧ 8 * L.length ≤ a ∧ Fr.scan l = if (Fr.scan (l.drop a)).1 ≠ 0 then (8, [], 0) else (0, L ++ (Fr.scan (l.drop a)).2.1, a + (Fr.scan (l.drop a)).2.2)
theorem Fr.Mid.start (l : List UInt8) : Fr.Mid l 0 [] := by
 refine ⟨Nat.zero_le _, by simp, ?_⟩
 rw [List.drop_zero]
 rcases Fr.scan_err l with e | e
 ·rw [if_neg (by rw [e]; simp)]
  exact Prod.ext e (Prod.ext (by simp) (by simp))
 ·rw [e]; rfl
theorem Fr.Mid.short {l : List UInt8} {a : Nat} {L : List Fr.Str} (h : Fr.Mid l a L) (h4 : (l.drop a).length < 4) : Fr.scan l = (0, L, a) := by
 rw [h.2.2, Fr.scan_is (l.drop a), if_pos h4]
 simp
theorem Fr.Mid.big {l : List UInt8} {a : Nat} {L : List Fr.Str} (h : Fr.Mid l a L) (h4 : ¬ (l.drop a).length < 4) (hb : 1048576 < Fr.val ((l.drop a).take 4)) : Fr.scan l = (8, [], 0) := by
 rw [h.2.2, Fr.scan_is (l.drop a), if_neg h4, if_pos hb]
 rfl
theorem Fr.Mid.torn {l : List UInt8} {a : Nat} {L : List Fr.Str} (h : Fr.Mid l a L) (h4 : ¬ (l.drop a).length < 4) (hb : ¬ 1048576 < Fr.val ((l.drop a).take 4)) (ht : (l.drop a).length < Fr.val ((l.drop a).take 4) + 8) : Fr.scan l = (0, L, a) := by
 rw [h.2.2, Fr.scan_is (l.drop a), if_neg h4, if_neg hb, if_pos ht]
 simp
theorem Fr.Mid.wrong {l : List UInt8} {a : Nat} {L : List Fr.Str} (h : Fr.Mid l a L) (h4 : ¬ (l.drop a).length < 4) (hb : ¬ 1048576 < Fr.val ((l.drop a).take 4)) (ht : ¬ (l.drop a).length < Fr.val ((l.drop a).take 4) + 8)
 (hs : Fr.val (((l.drop a).drop (4 + Fr.val ((l.drop a).take 4))).take 4) ≠ Fr.sum (((l.drop a).drop 4).take (Fr.val ((l.drop a).take 4)))) : Fr.scan l = (8, [], 0) := by
 rw [h.2.2, Fr.scan_is (l.drop a), if_neg h4, if_neg hb, if_neg ht, if_pos hs]
 rfl
theorem Fr.Mid.next {l : List UInt8} {a : Nat} {L : List Fr.Str} (h : Fr.Mid l a L) (h4 : ¬ (l.drop a).length < 4) (hb : ¬ 1048576 < Fr.val ((l.drop a).take 4)) (ht : ¬ (l.drop a).length < Fr.val ((l.drop a).take 4) + 8)
 (hs : Fr.val (((l.drop a).drop (4 + Fr.val ((l.drop a).take 4))).take 4) = Fr.sum (((l.drop a).drop 4).take (Fr.val ((l.drop a).take 4)))) : Fr.Mid l (a + (Fr.val ((l.drop a).take 4) + 8)) (L ++ [((l.drop a).drop 4).take (Fr.val ((l.drop a).take 4))]) := by
 have hlen : (l.drop a).length = l.length - a := List.length_drop
 refine ⟨by omega, by rw [List.length_append, List.length_singleton]; have := h.2.1; omega, ?_⟩
 have e := Fr.scan_is (l.drop a)
 rw [if_neg h4, if_neg hb, if_neg ht, if_neg (fun h => h hs), show (l.drop a).drop (Fr.val ((l.drop a).take 4) + 8) = l.drop (a + (Fr.val ((l.drop a).take 4) + 8)) from List.drop_drop] at e
 rw [h.2.2, e]
 generalize Fr.scan (l.drop (a + (Fr.val ((l.drop a).take 4) + 8))) = q
 generalize Fr.val ((l.drop a).take 4) = N
 by_cases h5 : q.1 ≠ 0
 ·simp [h5]
 ·have h6 : q.1 = 0 := by simpa using h5
  simp [h6, Nat.add_assoc]
def Fr.Got (w : World) (r : Nat × List Fr.Str × Nat) (e : Ending) (w' : World) : Prop :=
 ∃ v, e = .returned (.tuple #[v, .int .i64 ((r.2.2 : Nat) : Int), .int .i64 ((r.1 : Nat) : Int)]) ∧ Tx.At w'.heap.size w' v r.2.1 ∧ Below w.heap.size w w'
theorem Fr.Got.bad {w w' : World} {r : Nat × List Fr.Str × Nat} (hr : r = (8, [], 0)) (g : Below w.heap.size w w') : Fr.Got w r (.returned (.tuple #[.slice none 0 0, .int .i64 0, .int .i64 8])) w' :=
 ⟨_, by rw [hr]; rfl, by rw [hr]; exact Tx.At.nil _, g⟩
theorem Fr.Got.good {w w' : World} {r : Nat × List Fr.Str × Nat} {v : Value} {L : List Fr.Str} {a : Nat} (hr : r = (0, L, a)) (h : Tx.At w'.heap.size w' v L) (g : Below w.heap.size w w') : Fr.Got w r (.returned (.tuple #[v, .int .i64 (a : Int), .int .i64 0])) w' :=
 ⟨_, by rw [hr]; rfl, by rw [hr]; exact h, g⟩
theorem Fr.ext_at (s : ByteArray) (a b : Nat) : s.extract a b = Ty.S ((s.data.toList.drop a).take (b - a)) := Ty.extract_S s a b
end
section
open Go.RowKit
end
section
open Go.RowKit
theorem Kn.right_all {s : List Kn.C} (h : Kn.right s = true) : s.all Kn.C.good = true := by
 unfold Kn.right at h
 simp only [Bool.and_eq_true] at h
 exact h.2
end
section
open Go.RowKit
def Kn.sameV (a b : Kn.V) : Bool := (a.null == b.null) && ((a.n == b.n) && (a.s.toList == b.s.toList))
def Kn.sameR : List Kn.V → List Kn.V → Bool
 | a :: l, b :: m => Kn.sameV a b && Kn.sameR l m
 | [], [] => true
 | _, _ => false
theorem Kn.sameR_self : ∀ l : List Kn.V, Kn.sameR l l = true
 | [] => rfl
 | a :: l => by simp [Kn.sameR, Kn.sameV, Kn.sameR_self l]
theorem Kn.sameR_len : ∀ a b : List Kn.V, a.length ≠ b.length → Kn.sameR a b = false
 | [], [], h => absurd rfl h
 | [], _ :: _, _ => rfl
 | _ :: _, [], _ => rfl
 | a :: l, b :: m, h => by
   simp only [Kn.sameR]
   rw [Kn.sameR_len l m (by simpa using h)]
   simp
theorem Kn.sameR_step (s r : List Kn.V) (k : Nat) (c v : Kn.V) (hc : s[k]? = some c) (hv : r[k]? = some v) : Kn.sameR (s.drop k) (r.drop k) = (Kn.sameV c v && Kn.sameR (s.drop (k + 1)) (r.drop (k + 1))) := by
 obtain ⟨h1, rfl⟩ := List.getElem?_eq_some_iff.1 hc
 obtain ⟨h2, rfl⟩ := List.getElem?_eq_some_iff.1 hv
 rw [List.drop_eq_getElem_cons h1, List.drop_eq_getElem_cons h2]
 rfl
theorem Kn.sameR_end (s r : List Kn.V) (k : Nat) (h : ¬ k < s.length) (h2 : r.length = s.length) : Kn.sameR (s.drop k) (r.drop k) = true := by
 rw [List.drop_eq_nil_of_le (by omega), List.drop_eq_nil_of_le (by omega)]
 rfl
theorem Kn.sameV_ways (a b : Kn.V) : (Kn.sameV a b = false ∧ (a.null == b.null) = false) ∨ (Kn.sameV a b = false ∧ (a.null == b.null) = true ∧ (a.n == b.n) = false) ∨ (Kn.sameV a b = false ∧ (a.null == b.null) = true ∧ (a.n == b.n) = true ∧ (a.s.toList == b.s.toList) = false) ∨ (Kn.sameV a b = true ∧ (a.null == b.null) = true ∧ (a.n == b.n) = true ∧ (a.s.toList == b.s.toList) = true) := by
 unfold Kn.sameV
 cases (a.null == b.null) <;> cases (a.n == b.n) <;> cases (a.s.toList == b.s.toList) <;> simp
set_option maxHeartbeats 1000000 in
set_option maxRecDepth 100000 in
theorem Kn.rsame_c (v u : Value) (s r : List Kn.V) (w : World) (hs : Kn.Vals w v s) (hr : Kn.Vals w u r) :
 Calls Tryd.prog 38 #[v, u] w fun e w' => e = .returned (.bool (Kn.sameR s r)) ∧ ∃ n, w' = w.drewN n := by
 obtain ⟨a, c, rfl, h⟩ := hs
 obtain ⟨a2, c2, rfl, h2⟩ := hr
 by_cases hn : r.length = s.length
 ·rw [hn]
  have hz : ((s.length : Int) != (s.length : Int)) = false := by simp
  generalize hB : Kn.sameR s r = B
  have HB := Lib.hid hB
  clear hB
  go_enter Tryd.func38, Tryd.ntmps38
  go_wp2
  go_loopw [5] (fun i wr => ∃ k : Nat, k ≤ s.length ∧ i = .int .i64 k ∧ Kn.sameR s r = Kn.sameR (s.drop k) (r.drop k) ∧ ∃ n, wr = w.drewN n) (fun i _ => s.length - (intOf i).toNat)
  case atStart => exact ⟨0, by omega, rfl, rfl, 0, rfl⟩
  case round =>
   obtain ⟨k, hk, rfl, hg, n, rfl⟩ := hrel
   have HG := Lib.hid hg
   clear hg
   by_cases hkl : k < s.length
   ·rcases h with rfl | ⟨b, o, rfl, hlt, hm, hc⟩
    ·simp at hkl
    ·rcases h2 with rfl | ⟨b2, o2, rfl, hlt2, hm2, hc2⟩
     ·simp at hn; omega
     ·have hx := List.getElem?_eq_getElem hkl
      have hy := List.getElem?_eq_getElem (show k < r.length by omega)
      generalize s[k] = x at hx
      generalize r[k] = y at hy
      have HS := Lib.hid (Kn.sameR_step s r k x y hx hy)
      obtain ⟨e0, e1, e2⟩ := hc k x hx
      obtain ⟨f0, f1, f2⟩ := hc2 k y hy
      have dk : (k : Int) < (s.length : Int) := by omega
      have dk0 : (0 : Int) ≤ (k : Int) := by omega
      have HC := Lib.hid hc
      have HC2 := Lib.hid hc2
      clear hc hc2 hx hy
      rcases Kn.sameV_ways x y with ⟨h0, h1⟩ | ⟨h0, h1, h2⟩ | ⟨h0, h1, h2, h3⟩ | ⟨h0, h1, h2, h3⟩
      all_goals
       have HF := Lib.hid h0
       clear h0
       go_wp2_with fail
       go_quiet (fail)
       go_wp2
      all_goals first
       | (go_ret
          exact ⟨Kn.retb (by rw [← HB.out, HG.out, HS.out, HF.out]; rfl), by first | exact ⟨_, rfl⟩ | exact ⟨_, World.drewN_drewN _ _ _⟩⟩)
       | (go_roundw
          case rel => exact ⟨k + 1, by omega, by simp, by rw [HG.out, HS.out, HF.out]; rfl, by first | exact ⟨_, rfl⟩ | exact ⟨_, World.drewN_drewN _ _ _⟩⟩
          case measure => simp [intOf]; omega)
   ·obtain rfl : k = s.length := by omega
    have dk : ¬ (s.length : Int) < (s.length : Int) := by omega
    have he : B = true := HB.out.symm.trans (HG.out.trans (Kn.sameR_end s r _ (by omega) hn))
    subst he
    go_wp2
    go_ret
    exact ⟨rfl, _, rfl⟩
 ·rw [Kn.sameR_len s r (fun e => hn e.symm)]
  have hz : ((s.length : Int) != (r.length : Int)) = true := by rw [bne_iff_ne]; omega
  go_enter Tryd.func38, Tryd.ntmps38
  go_wp2
  go_ret
  exact ⟨rfl, 0, rfl⟩
end
section
open Go.RowKit
end
section
open Go.RowKit
open Ty (encU num txt)
open Tx (restT)
open Ig (rest sg)
end
section
open Go.RowKit
def Dd.same (a b : Dd.D) : Bool := (a.gone == b.gone) && Kn.sameR a.row b.row
set_option maxHeartbeats 2000000 in
set_option maxRecDepth 100000 in
theorem Dd.rsame_c (u v : Value) (a b : Dd.D) (w : World) (hu : Kn.Vals w u a.row) (hv : Kn.Vals w v b.row) :
 Calls Tryd.prog 21 #[.agg #[.bool a.gone, u], .agg #[.bool b.gone, v]] w fun e w' => e = .returned (.bool (Dd.same a b)) ∧ Below w.heap.size w w' := by
 obtain ⟨ga, ra⟩ := a
 obtain ⟨gb, rb⟩ := b
 simp only at hu hv ⊢
 unfold Dd.same
 simp only
 have hG0 : Below w.heap.size w ((w.alloc (.cells #[.bool ga, u] 36)).alloc (.cells #[.bool gb, v] 36)) := ((Below.refl _ w).alloc (Nat.le_refl _) _).alloc (by simp) _
 have hb := (Below.refl _ (w.alloc (.cells #[.bool ga, u] 36))).alloc (Nat.le_refl _) (.cells #[.bool gb, v] 36)
 have x0 := (hb.cell (p := ⟨w.heap.size, 0, none⟩) (by simp)).trans (Kn.cell_new w #[.bool ga, u] 36 0 _ rfl)
 have x1 := (hb.cell (p := ⟨w.heap.size, 1, none⟩) (by simp)).trans (Kn.cell_new w #[.bool ga, u] 36 1 _ rfl)
 have y0 := Kn.cell_new (w.alloc (.cells #[.bool ga, u] 36)) #[.bool gb, v] 36 0 _ rfl
 have y1 := Kn.cell_new (w.alloc (.cells #[.bool ga, u] 36)) #[.bool gb, v] 36 1 _ rfl
 rw [World.size_alloc] at y0 y1
 simp only [List.getElem_toArray, List.getElem_cons_zero, List.getElem_cons_succ] at x0 x1 y0 y1
 have cs := Kn.rsame_c u v ra rb _ (hu.later hG0) (hv.later hG0)
 have HX := Lib.hid (And.intro (And.intro x0 x1) (And.intro y0 y1))
 have HG0 := Lib.hid hG0
 generalize Kn.sameR ra rb = S at cs ⊢
 clear hG0 hb x0 x1 y0 y1 hu hv
 cases ga <;> cases gb
 all_goals
  go_enter Tryd.func21, Tryd.ntmps21
  go_wp2_with fail
 ·generalize World.alloc _ _ = wo at HX HG0 cs ⊢
  obtain ⟨⟨x0, x1⟩, y0, y1⟩ := HX.out
  go_wp2_with fail
  with_reducible refine cs.mono ?_
  rintro e w1 ⟨rfl, n, h1⟩
  subst w1
  go_wp2
  go_ret
  exact ⟨by simp, Kn.below_drewN HG0.out n⟩
 ·generalize World.alloc _ _ = wo at HX HG0 cs ⊢
  obtain ⟨⟨x0, x1⟩, y0, y1⟩ := HX.out
  go_wp2
  go_ret
  exact ⟨by simp, HG0.out⟩
 ·generalize World.alloc _ _ = wo at HX HG0 cs ⊢
  obtain ⟨⟨x0, x1⟩, y0, y1⟩ := HX.out
  go_wp2
  go_ret
  exact ⟨by simp, HG0.out⟩
 ·generalize World.alloc _ _ = wo at HX HG0 cs ⊢
  obtain ⟨⟨x0, x1⟩, y0, y1⟩ := HX.out
  go_wp2_with fail
  with_reducible refine cs.mono ?_
  rintro e w1 ⟨rfl, n, h1⟩
  subst w1
  go_wp2
  go_ret
  exact ⟨by simp, Kn.below_drewN HG0.out n⟩
end
section
open Go.RowKit
open Ty (num txt)
open Ig (rest sg)
open Tx (restT)
theorem Dd.three {w : World} {q : Nat} {x y z : Value} {t : TypeId} (h : w.heap[q]? = some (.cells #[x, y, z] t (0, 0))) : w.cell? ⟨q, 0, none⟩ = some x ∧ w.cell? ⟨q, 1, none⟩ = some y ∧ w.cell? ⟨q, 2, none⟩ = some z ∧ w.frozen? ⟨q, 0, none⟩ = false ∧ w.frozen? ⟨q, 1, none⟩ = false ∧ w.frozen? ⟨q, 2, none⟩ = false := by
 refine ⟨?_, ?_, ?_, ?_, ?_, ?_⟩ <;> simp [World.cell?, World.frozen?, h]
end
section
open Go.RowKit
open Ty (I64)
open Ig (encI)
open Tx (encT)
def Dd.wS (s : List Kn.C) (d : Dd.D) : List UInt8 := if Dd.fitE s d = 0 then Dd.enc s d else []
def Dd.wV (s : List Kn.C) (d : Dd.D) : Value := .tuple #[.string (Ty.S (Dd.wS s d)), .int .i64 (Dd.fitE s d)]
theorem Dd.wV_bad {s : List Kn.C} {d : Dd.D} (h : Dd.fitE s d ≠ 0) : Dd.wV s d = .tuple #[.string (Ty.S []), .int .i64 (Dd.fitE s d)] := by
 unfold Dd.wV Dd.wS
 rw [if_neg h]
theorem Dd.wV_ok {s : List Kn.C} {d : Dd.D} (h : Dd.fitE s d = 0) : Dd.wV s d = .tuple #[.string (Ty.S (Dd.enc s d)), .int .i64 0] := by
 unfold Dd.wV Dd.wS
 rw [h, if_pos rfl]
def Dd.pre (s : List Kn.C) (g : Bool) (r : List Kn.V) (k : Nat) : List UInt8 := Dd.flag g :: Dd.encR (s.take k) (r.take k)
theorem Dd.pre_step {s : List Kn.C} {g : Bool} {r : List Kn.V} {k : Nat} {c : Kn.C} {v : Kn.V} (hc : s[k]? = some c) (hv : r[k]? = some v) : Dd.pre s g r (k + 1) = Dd.pre s g r k ++ Dd.encV c v := by
 obtain ⟨h1, rfl⟩ := List.getElem?_eq_some_iff.1 hc
 obtain ⟨h2, rfl⟩ := List.getElem?_eq_some_iff.1 hv
 unfold Dd.pre
 rw [List.take_succ_eq_append_getElem h1, List.take_succ_eq_append_getElem h2, Dd.encR_snoc _ _ _ _ (by rw [List.length_take, List.length_take]; omega)]
 rfl
theorem Dd.pre_all {s : List Kn.C} {d : Dd.D} (h : Dd.fitE s d = 0) : Dd.pre s d.gone d.row d.row.length = Dd.enc s d := by
 obtain ⟨_, h2, _⟩ := Dd.fitE_0 h
 unfold Dd.pre Dd.enc
 rw [List.take_length]
 congr 1
 unfold Dd.cols at h2
 obtain ⟨g, r⟩ := d
 cases g
 ·simp only [Bool.false_eq_true, if_false] at h2 ⊢
  rw [h2, List.take_length]
 ·simp only [if_true] at h2 ⊢
  match s, r, h2 with
  | [], [], _ => rfl
  | [], _ :: _, h2 => simp at h2
  | c :: cs, [], h2 => simp at h2
  | c :: cs, [x], _ => simp [Dd.encR]
  | c :: cs, _ :: _ :: _, h2 => simp at h2
theorem Dd.encV_len {c : Kn.C} {v : Kn.V} (h : Kn.fits c v = true) : (Dd.encV c v).length ≤ 80 := by
 unfold Dd.encV
 rw [List.length_append]
 have h1 : (if c.null = true then [Dd.flag v.null] else []).length ≤ 1 := by split <;> simp
 have h2 : (if v.null = true then [] else Dd.encP c v).length ≤ 73 := by
  cases hn : v.null
  ·rw [if_neg (by decide)]
   unfold Dd.encP
   by_cases hk : c.k = 1
   ·rw [if_pos hk]
    have := Ty.encU_len9 (Ty.zig v.n).toNat
    unfold Ig.encI
    omega
   ·rw [if_neg hk]
    have h64 := (Dd.fits_str hk h hn).2
    have := Ty.encU_len9 v.s.data.toList.length
    unfold encT
    rw [List.length_append]
    omega
  ·simp
 omega
theorem Dd.encR_len : ∀ (s : List Kn.C) (r : List Kn.V), Kn.fitsAll s r = true → (Dd.encR s r).length ≤ 80 * r.length
 | [], [], _ => by simp [Dd.encR]
 | [], _ :: _, _ => by simp [Dd.encR]
 | _ :: _, [], _ => by simp [Dd.encR]
 | c :: cs, v :: vs, h => by
   simp only [Kn.fitsAll, Bool.and_eq_true] at h
   have h1 := Dd.encV_len h.1
   have h2 := Dd.encR_len cs vs h.2
   simp only [Dd.encR, List.length_append, List.length_cons]
   omega
theorem Dd.fitsAll_at : ∀ (s : List Kn.C) (r : List Kn.V) (k : Nat) (c : Kn.C) (v : Kn.V), Kn.fitsAll s r = true → s[k]? = some c → r[k]? = some v → Kn.fits c v = true
 | [], _, _, _, _, _, h, _ => by simp at h
 | _ :: _, [], _, _, _, _, _, h => by simp at h
 | a :: s, x :: r, 0, c, v, hf, hc, hv => by
   obtain rfl : a = c := by simpa using hc
   obtain rfl : x = v := by simpa using hv
   simp only [Kn.fitsAll, Bool.and_eq_true] at hf
   exact hf.1
 | a :: s, x :: r, k + 1, c, v, hf, hc, hv => by
   simp only [Kn.fitsAll, Bool.and_eq_true] at hf
   exact Dd.fitsAll_at s r k c v hf.2 (by simpa using hc) (by simpa using hv)
theorem Dd.fitsAll_take : ∀ (s : List Kn.C) (r : List Kn.V) (k : Nat), Kn.fitsAll s r = true → Kn.fitsAll (s.take k) (r.take k) = true
 | [], r, k, _ => by simp [Kn.fitsAll]
 | _ :: _, [], k, _ => by cases k <;> simp [Kn.fitsAll]
 | a :: s, x :: r, 0, _ => by simp [Kn.fitsAll]
 | a :: s, x :: r, k + 1, h => by
   simp only [Kn.fitsAll, Bool.and_eq_true, List.take_succ_cons] at h ⊢
   exact ⟨h.1, Dd.fitsAll_take s r k h.2⟩
theorem Dd.fit_at {s : List Kn.C} {d : Dd.D} (h : Dd.fitE s d = 0) : d.row.length ≤ 6 ∧ d.row.length ≤ s.length ∧ ∀ (k : Nat) (c : Kn.C) (v : Kn.V), s[k]? = some c → d.row[k]? = some v → Kn.fits c v = true := by
 obtain ⟨h1, h2, h3⟩ := Dd.fitE_0 h
 have hl := Kn.right_len h1
 have hc : (Dd.cols s d.gone).length ≤ s.length := by
  unfold Dd.cols
  split
  ·rw [List.length_take]; omega
  ·exact Nat.le_refl _
 refine ⟨by omega, by omega, fun k c v hk hv => ?_⟩
 refine Dd.fitsAll_at _ _ k c v h3 ?_ hv
 have hkl := (List.getElem?_eq_some_iff.1 hv).1
 unfold Dd.cols at h2 ⊢
 split
 ·rename_i hg
  rw [if_pos hg, List.length_take] at h2
  rw [List.getElem?_take_of_lt (by omega)]
  exact hk
 ·exact hk
theorem Dd.pre_len {s : List Kn.C} {d : Dd.D} (h : Dd.fitE s d = 0) {k : Nat} (hk : k ≤ d.row.length) : (Dd.pre s d.gone d.row k).length ≤ 500 := by
 obtain ⟨h1, h2, h3⟩ := Dd.fit_at h
 have hf : Kn.fitsAll (s.take k) (d.row.take k) = true := by
  obtain ⟨_, a2, a3⟩ := Dd.fitE_0 h
  have e : s.take k = (Dd.cols s d.gone).take k := by
   unfold Dd.cols at a2 ⊢
   split
   ·rename_i hg
    rw [if_pos hg, List.length_take] at a2
    rw [List.take_take]
    congr 1
    omega
   ·rfl
  rw [e]
  exact Dd.fitsAll_take _ _ k a3
 have := Dd.encR_len _ _ hf
 unfold Dd.pre
 rw [List.length_cons]
 have hl : (d.row.take k).length ≤ 6 := by rw [List.length_take]; omega
 omega
end
section
open Go.RowKit
open Ty (I64)
open Ig (encI)
open Tx (encT)
end
section
open Go.RowKit
open Ty (num txt)
def Dd.MidR (cs : List Kn.C) (l : List UInt8) (k : Nat) (M : List Kn.V) (l2 : List UInt8) : Prop :=
 M.length = k ∧ k ≤ cs.length ∧ Dd.rdR cs l = ((Dd.rdR (cs.drop k) l2).1, M ++ (Dd.rdR (cs.drop k) l2).2.1, (Dd.rdR (cs.drop k) l2).2.2)
theorem Dd.MidR.fail {cs : List Kn.C} {l : List UInt8} {k : Nat} {M : List Kn.V} {l2 : List UInt8} (h : Dd.MidR cs l k M l2) {c : Kn.C} (hc : cs[k]? = some c) (hq : (Dd.rdV c l2).1 ≠ 0) : (Dd.rdR cs l).1 = (Dd.rdV c l2).1 := by
 obtain ⟨_, _, h3⟩ := h
 obtain ⟨h1, rfl⟩ := List.getElem?_eq_some_iff.1 hc
 rw [h3, List.drop_eq_getElem_cons h1]
 simp only [Dd.rdR]
 rw [if_pos hq]
theorem Dd.MidR.next {cs : List Kn.C} {l : List UInt8} {k : Nat} {M : List Kn.V} {l2 : List UInt8} (h : Dd.MidR cs l k M l2) {c : Kn.C} (hc : cs[k]? = some c) (hq : (Dd.rdV c l2).1 = 0) : Dd.MidR cs l (k + 1) (M ++ [(Dd.rdV c l2).2.1]) (Dd.rdV c l2).2.2 := by
 obtain ⟨a1, _, h3⟩ := h
 obtain ⟨h1, rfl⟩ := List.getElem?_eq_some_iff.1 hc
 refine ⟨by rw [List.length_append, a1]; rfl, h1, ?_⟩
 rw [h3, List.drop_eq_getElem_cons h1]
 simp only [Dd.rdR]
 rw [if_neg (by rw [hq]; simp)]
 simp only [List.append_assoc, List.singleton_append]
theorem Dd.MidR.done {cs : List Kn.C} {l : List UInt8} {k : Nat} {M : List Kn.V} {l2 : List UInt8} (h : Dd.MidR cs l k M l2) (hk : k = cs.length) : Dd.rdR cs l = (0, M, l2) := by
 obtain ⟨_, _, h3⟩ := h
 rw [h3, hk, List.drop_length]
 simp [Dd.rdR]
theorem Dd.rd_k {s : List Kn.C} {l : List UInt8} (h : Kn.right s = false) : Dd.rd s l = (4, ⟨false, []⟩) := by unfold Dd.rd; rw [if_pos h]
def Dd.Fresh (B : Nat) (v : Value) : Prop := ∀ k, v.ownBlock = some k → B ≤ k
theorem Dd.Fresh.nil (B : Nat) : Dd.Fresh B (.slice none 0 0) := fun k h => by cases h
theorem Dd.Fresh.mono {B B' : Nat} {v : Value} (h : Dd.Fresh B v) (hb : B' ≤ B) : Dd.Fresh B' v := fun k hk => Nat.le_trans hb (h k hk)
theorem Dd.vals_put {w : World} {v : Value} {L : List Kn.V} {B q i : Nat} (h : Kn.Vals w v L) (hf : Dd.Fresh B v) (hq : q < B) (x : Value) : Kn.Vals (w.setCell ⟨q, i, none⟩ x) v L := by
 obtain ⟨a, c, rfl, h⟩ := h
 refine ⟨a, c, rfl, ?_⟩
 rcases h with h | ⟨b, o, rfl, hlt, hm, h⟩
 ·exact .inl h
 ·have hb : B ≤ b := hf b rfl
  have hne : ∀ j, (w.setCell ⟨q, i, none⟩ x).cell? ⟨b, j, none⟩ = w.cell? ⟨b, j, none⟩ := fun j => World.cell?_of_block (a := ⟨b, j, none⟩) (Below.heap_setCell _ _ _ _ (by show b ≠ q; omega))
  refine .inr ⟨b, o, rfl, by simpa [World.setCell] using hlt, hm, fun j y hy => ?_⟩
  have hA := h j y hy
  exact ⟨(hne _).trans hA.c0, (hne _).trans hA.c1, (hne _).trans hA.c2⟩
def Dd.Got (w : World) (r : Nat × Dd.D) (e : Ending) (w' : World) : Prop :=
 ∃ u, e = .returned (.tuple #[.agg #[.bool r.2.gone, u], .int .i64 ((r.1 : Nat) : Int)]) ∧ Kn.Vals w' u r.2.row ∧ Dd.Fresh w.heap.size u ∧ Below w.heap.size w w'
theorem Dd.Got.bad {w w' : World} {r : Nat × Dd.D} {z : Int} {q : Nat} (hr : r = (q, ⟨false, []⟩)) (hz : z = (q : Int)) (g : Below w.heap.size w w') : Dd.Got w r (.returned (.tuple #[.agg #[.bool false, .slice none 0 0], .int .i64 z])) w' :=
 ⟨_, by rw [hr, hz], by rw [hr]; exact ⟨_, 0, rfl, .inl rfl⟩, Dd.Fresh.nil _, g⟩
theorem Dd.Got.good {w w' : World} {r : Nat × Dd.D} {u : Value} {B : Bool} {L : List Kn.V} (hr : r = (0, ⟨B, L⟩)) (h : Kn.Vals w' u L) (hf : Dd.Fresh w.heap.size u) (g : Below w.heap.size w w') : Dd.Got w r (.returned (.tuple #[.agg #[.bool B, u], .int .i64 0])) w' :=
 ⟨u, by rw [hr]; rfl, by rw [hr]; exact h, hf, g⟩
theorem Dd.two {w : World} {q : Nat} {x y : Value} {t : TypeId} (h : w.heap[q]? = some (.cells #[x, y] t (0, 0))) : w.cell? ⟨q, 0, none⟩ = some x ∧ w.cell? ⟨q, 1, none⟩ = some y ∧ w.frozen? ⟨q, 0, none⟩ = false ∧ w.frozen? ⟨q, 1, none⟩ = false := by
 refine ⟨?_, ?_, ?_, ?_⟩ <;> simp [World.cell?, World.frozen?, h]
theorem Dd.below2 {w w' : World} {B q : Nat} (h : Below B w w') (hq : B ≤ q) (x y : Value) : Below B w ((w'.setCell ⟨q, 0, none⟩ x).setCell ⟨q, 1, none⟩ y) := Cl.below_cell (Cl.below_cell h hq x) hq y
end
section
open Go
open Ty (num txt encU U64 I64)
open Ig (rest)
open Tx (encT)
theorem Bk.len0 (n : Nat) (b : UInt8) : Bk.Len 0 (Bk.none_ n b) := fun d hd => by
 unfold Bk.none_ at hd
 obtain ⟨i, _, rfl⟩ := List.mem_map.1 hd
 simp
end
end Go.Proofs.YtkhiemkekmdhgaaDoor
