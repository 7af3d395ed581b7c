import Derived.Test.YtbelkhkllneifaaGreatDoorWEAG
import Derived.LoopTactic
import Derived.RegionCalls
import Derived.Deep.RegionWith
import Derived.Test.YtbelkhkllneifaaGreatDoorWEAA
import Derived.Test.YtbelkhkllneifaaGreatDoorWEAD
import Derived.Test.YtbelkhkllneifaaGreatDoorWEAF
namespace Go.Proofs.YtbelkhkllneifaaGreatDoor
section
open Go.RowKit
open Ty (encU num)
theorem Tx.buf_one {base : Nat} {w : World} (k : Nat) (hk : k < 256) (hb : base ≤ w.heap.size) : Ty.Buf base (w.alloc (.cells #[.int .u8 (k : Int)] 5)) (.slice (some ⟨w.heap.size, 0, none⟩) 1 1) [UInt8.ofNat k] := by
 refine ⟨by simp, .inr ⟨w.heap.size, 1, _, rfl, hb, heap_alloc_new w _, Nat.le_refl _, by unfold maxLen; omega, by simp, ?_⟩⟩
 have := Ty.toNat_ofNat8 k hk
 simp [Ty.B, this]
theorem Tx.len_encT {t : Tx.Str} (h : t.length ≤ 64) : (Tx.encT t).length ≤ 73 := by
 have := Ty.encU_len9 t.length
 unfold Tx.encT
 rw [List.length_append]
 omega
theorem Tx.len_flat : ∀ (L : List Tx.Str), (∀ t ∈ L, t.length ≤ 64) → (L.flatMap Tx.encT).length ≤ 73 * L.length
 | [], _ => by simp
 | t :: L, h => by
   have h1 := Tx.len_encT (h t (by simp))
   have h2 := Tx.len_flat L fun x hx => h x (by simp [hx])
   rw [List.flatMap_cons, List.length_append, List.length_cons]
   omega
theorem Tx.flat_next {L : List Tx.Str} {j : Nat} (h : j < L.length) : (L.take (j + 1)).flatMap Tx.encT = (L.take j).flatMap Tx.encT ++ Tx.encT (L.getD j []) := by
 rw [List.take_succ_eq_append_getElem h, List.flatMap_append, List.getD, List.getElem?_eq_getElem h]
 simp
end
section
open Go.RowKit
open Ty (encU num)
def Tx.fit (L : List Tx.Str) : Bool := decide (L.length ≤ 65536) && L.all fun t => decide (t.length ≤ 64)
def Tx.withE (L : List Tx.Str) (z : Int) : Nat := if 0 ≤ z ∧ z ≤ 1 then (if Tx.fit L = true then 0 else 3) else 1
def Tx.withS (L : List Tx.Str) (z : Int) : List UInt8 := if Tx.withE L z = 0 then Tx.enc z.toNat L else []
def Tx.withV (L : List Tx.Str) (z : Int) : Value := .tuple #[.string (Ty.S (Tx.withS L z)), .int .i64 ((Tx.withE L z : Nat) : Int)]
theorem Tx.withV_bad {L : List Tx.Str} {z : Int} (h : ¬ (0 ≤ z ∧ z ≤ 1)) : Tx.withV L z = .tuple #[.string (Ty.S []), .int .i64 1] := by
 have e : Tx.withE L z = 1 := by unfold Tx.withE; rw [if_neg h]
 unfold Tx.withV Tx.withS
 rw [e]; rfl
theorem Tx.withV_long {L : List Tx.Str} {z : Int} (h : 0 ≤ z ∧ z ≤ 1) (hl : Tx.fit L = false) : Tx.withV L z = .tuple #[.string (Ty.S []), .int .i64 3] := by
 have e : Tx.withE L z = 3 := by unfold Tx.withE; rw [if_pos h, if_neg (by rw [hl]; simp)]
 unfold Tx.withV Tx.withS
 rw [e]; rfl
theorem Tx.withV_good {L : List Tx.Str} {k : Nat} (h : k ≤ 1) (hl : Tx.fit L = true) : Tx.withV L (k : Int) = .tuple #[.string (Ty.S (Tx.enc k L)), .int .i64 0] := by
 have e : Tx.withE L (k : Int) = 0 := by unfold Tx.withE; rw [if_pos (by omega), if_pos hl]
 unfold Tx.withV Tx.withS
 rw [e]; rfl
theorem Tx.fit_yes {L : List Tx.Str} (h : Tx.fit L = true) : L.length ≤ 65536 ∧ ∀ t ∈ L, t.length ≤ 64 := by
 unfold Tx.fit at h
 simp only [Bool.and_eq_true, decide_eq_true_iff, List.all_eq_true] at h
 exact h
theorem Tx.fit_no {L : List Tx.Str} (h : Tx.fit L = false) (hl : L.length ≤ 65536) (ha : ∀ j, j < L.length → (L.getD j []).length ≤ 64) : False := by
 have : Tx.fit L = true := by
  unfold Tx.fit
  simp only [Bool.and_eq_true, decide_eq_true_iff, List.all_eq_true]
  refine ⟨hl, fun t ht => ?_⟩
  obtain ⟨j, hj, rfl⟩ := List.getElem_of_mem ht
  have := ha j hj
  rwa [List.getD, List.getElem?_eq_getElem hj] at this
 rw [h] at this
 cases this
def Tx.bestK (L : List Tx.Str) : Nat := if (Tx.enc 1 L).length < (Tx.enc 0 L).length then 1 else 0
def Tx.bestV (L : List Tx.Str) : Value := if Tx.fit L = true then .tuple #[.string (Ty.S (Tx.enc (Tx.bestK L) L)), .int .i64 0] else .tuple #[.string (Ty.S []), .int .i64 3]
end
section
open Go.RowKit
open Ty (num encU U64)
open Ig (rest read_encU splitU)
def Cl.is (c : Kn.C) (v : Kn.V) : Bool := Kn.isK c.k v && (!v.null || c.null)
def Cl.live (l : List Kn.V) : List Kn.V := l.filter fun v => !v.null
def Cl.nums (l : List Kn.V) : List Int := (Cl.live l).map fun v => v.n
def Cl.words (l : List Kn.V) : List Tx.Str := (Cl.live l).map fun v => v.s.data.toList
def Cl.vals (c : Kn.C) (l : List Kn.V) : List UInt8 := if c.k = 1 then Ig.enc (Ig.bk (Cl.nums l) 3) (Cl.nums l) else Tx.enc (Tx.bestK (Cl.words l)) (Cl.words l)
def Cl.nulls (l : List Kn.V) (i : Nat) : Bool := (l.getD i Cl.nul).null
def Cl.enc (c : Kn.C) (l : List Kn.V) : List UInt8 := encU l.length ++ ((Bt.bytes (Bt.need l.length) (Bt.tr l.length (Cl.nulls l))).data.toList ++ Cl.vals c l)
def Cl.wE (c : Kn.C) (l : List Kn.V) : Nat := if c.good = true then (if 65536 < l.length then 3 else if l.all (Cl.is c) = true then 0 else 6) else 4
def Cl.fill : List Bool → List Kn.V → Option (List Kn.V)
 | [], [] => some []
 | [], _ :: _ => none
 | true :: T, M => (Cl.fill T M).map (Cl.nul :: ·)
 | false :: _, [] => none
 | false :: T, x :: M => (Cl.fill T M).map (x :: ·)
def Cl.back (c : Kn.C) (r : List UInt8) : Nat × List Kn.V := if c.k = 1 then ((Ig.rd r).1, (Ig.rd r).2.map Cl.ofN) else ((Tx.rd r).1, (Tx.rd r).2.map Cl.ofS)
def Cl.bits (n : Nat) (s : ByteArray) : List Bool := (List.range n).map (Bt.bit s)
def Cl.rdV (c : Kn.C) (T : List Bool) (r : List UInt8) : Nat × List Kn.V :=
 if (Cl.back c r).1 ≠ 0 then ((Cl.back c r).1, [])
 else match Cl.fill T (Cl.back c r).2 with
  | none => (4, [])
  | some out => if Cl.vals c out = r then (0, out) else (4, [])
def Cl.rd (c : Kn.C) (l : List UInt8) : Nat × List Kn.V :=
 if c.good = false then (4, [])
 else if (num l).2.2 ≠ 0 then ((num l).2.2, [])
 else if 65536 < (num l).1 then (3, [])
 else if (rest l).length < Bt.need (num l).1 then (2, [])
 else if Bt.chk (Ty.S ((rest l).take (Bt.need (num l).1))) (num l).1 ≠ 0 then (Bt.chk (Ty.S ((rest l).take (Bt.need (num l).1))) (num l).1, [])
 else if (!c.null && (Cl.bits (num l).1 (Ty.S ((rest l).take (Bt.need (num l).1)))).any id) = true then (6, [])
 else Cl.rdV c (Cl.bits (num l).1 (Ty.S ((rest l).take (Bt.need (num l).1)))) ((rest l).drop (Bt.need (num l).1))
theorem Cl.toList_nil {s : ByteArray} (h : (s.toList == (⟨#[]⟩ : ByteArray).toList) = true) : s = ⟨#[]⟩ := by
 rw [beq_iff_eq, ByteArray.toList_eq, ByteArray.toList_eq] at h
 have h2 : s.data.toList = [] := h
 apply ByteArray.ext
 exact Array.toList_inj.1 (by rw [h2])
theorem Cl.is_null {c : Kn.C} {v : Kn.V} (h : Cl.is c v = true) (hv : v.null = true) : v = Cl.nul ∧ c.null = true := by
 unfold Cl.is Kn.isK at h
 rw [hv] at h
 simp only [if_true, Bool.and_eq_true, Bool.not_true, Bool.false_or] at h
 obtain ⟨⟨h1, h2⟩, h3⟩ := h
 obtain ⟨vn, vi, vs⟩ := v
 simp only at hv h1 h2
 rw [hv, Cl.toList_nil h2, show vi = 0 by simpa using h1]
 exact ⟨rfl, h3⟩
theorem Cl.is_num {c : Kn.C} {v : Kn.V} (hk : c.k = 1) (h : Cl.is c v = true) (hv : v.null = false) : v = Cl.ofN v.n := by
 unfold Cl.is Kn.isK at h
 rw [hv, if_neg (by decide), if_pos hk] at h
 simp only [Bool.and_eq_true] at h
 obtain ⟨vn, vi, vs⟩ := v
 simp only at hv h
 rw [hv, Cl.toList_nil h.1]
 rfl
theorem Cl.is_str {c : Kn.C} {v : Kn.V} (hk : c.k ≠ 1) (h : Cl.is c v = true) (hv : v.null = false) : v = Cl.ofS v.s.data.toList ∧ v.s.data.toList.length ≤ 64 := by
 unfold Cl.is Kn.isK at h
 rw [hv, if_neg (by decide), if_neg hk] at h
 simp only [Bool.and_eq_true, decide_eq_true_iff] at h
 obtain ⟨vn, vi, vs⟩ := v
 simp only at hv h ⊢
 rw [hv, show vi = 0 by simpa using h.1.2.1]
 exact ⟨rfl, by rw [Ty.length_data]; exact h.1.2.2⟩
theorem Cl.is_nul {c : Kn.C} (h : c.null = true) : Cl.is c Cl.nul = true := by
 unfold Cl.is Kn.isK Cl.nul
 simp [h]
theorem Cl.is_ofN {c : Kn.C} (hk : c.k = 1) (x : Int) : Cl.is c (Cl.ofN x) = true := by
 unfold Cl.is Kn.isK Cl.ofN
 simp [hk]
theorem Cl.is_ofS {c : Kn.C} (hk : c.k = 2) {t : Tx.Str} (h : t.length ≤ 64) : Cl.is c (Cl.ofS t) = true := by
 unfold Cl.is Kn.isK Cl.ofS
 have : (Ty.S t).size ≤ 64 := h
 simp [hk, this]
theorem Cl.good_iff (c : Kn.C) : c.good = true ↔ c.k = 1 ∨ c.k = 2 := by
 unfold Kn.C.good
 by_cases h1 : c.k = 1
 ·simp [h1]
 ·by_cases h2 : c.k = 2
  ·simp [h2]
  ·have e1 : (c.k != 1) = true := by rw [bne_iff_ne]; exact h1
   have e2 : (c.k != 2) = true := by rw [bne_iff_ne]; exact h2
   simp [e1, e2, h1, h2]
theorem Cl.fill_live (c : Kn.C) : ∀ l : List Kn.V, l.all (Cl.is c) = true → Cl.fill (l.map fun v => v.null) (Cl.live l) = some l
 | [], _ => rfl
 | v :: l, h => by
   rw [List.all_cons, Bool.and_eq_true] at h
   have ih := Cl.fill_live c l h.2
   cases hv : v.null
   ·have e : Cl.live (v :: l) = v :: Cl.live l := by unfold Cl.live; rw [List.filter_cons, hv]; rfl
    rw [List.map_cons, hv, e]
    simp only [Cl.fill, ih, Option.map_some]
   ·have e : Cl.live (v :: l) = Cl.live l := by unfold Cl.live; rw [List.filter_cons, hv]; rfl
    rw [List.map_cons, hv, e]
    simp only [Cl.fill, ih, Option.map_some]
    rw [(Cl.is_null h.1 hv).1]
theorem Cl.fill_only : ∀ (T : List Bool) (M out : List Kn.V), (∀ v ∈ M, v.null = false) → Cl.fill T M = some out → out.map (fun v => v.null) = T ∧ Cl.live out = M
 | [], [], out, _, h => by
   simp only [Cl.fill, Option.some.injEq] at h
   rw [← h]
   exact ⟨rfl, rfl⟩
 | [], _ :: _, out, _, h => by simp [Cl.fill] at h
 | true :: T, M, out, hM, h => by
   simp only [Cl.fill, Option.map_eq_some_iff] at h
   obtain ⟨o, h1, rfl⟩ := h
   obtain ⟨h2, h3⟩ := Cl.fill_only T M o hM h1
   refine ⟨by rw [List.map_cons, h2]; rfl, ?_⟩
   rw [← h3]
   rfl
 | false :: T, [], out, _, h => by simp [Cl.fill] at h
 | false :: T, x :: M, out, hM, h => by
   simp only [Cl.fill, Option.map_eq_some_iff] at h
   obtain ⟨o, h1, rfl⟩ := h
   obtain ⟨h2, h3⟩ := Cl.fill_only T M o (fun v hv => hM v (by simp [hv])) h1
   have hx := hM x (by simp)
   refine ⟨by rw [List.map_cons, h2, hx], ?_⟩
   unfold Cl.live at h3 ⊢
   rw [List.filter_cons, hx, h3]
   rfl
theorem Cl.fill_nul : ∀ (T : List Bool) (M out : List Kn.V), (∀ v ∈ M, v.null = false) → Cl.fill T M = some out → ∀ v ∈ out, v.null = true → v = Cl.nul
 | [], [], out, _, h, v, hv, _ => by
   simp only [Cl.fill, Option.some.injEq] at h
   rw [← h] at hv
   cases hv
 | [], _ :: _, out, _, h, _, _, _ => by simp [Cl.fill] at h
 | true :: T, M, out, hM, h, v, hv, hn => by
   simp only [Cl.fill, Option.map_eq_some_iff] at h
   obtain ⟨o, h1, rfl⟩ := h
   rcases List.mem_cons.1 hv with rfl | hv
   ·rfl
   ·exact Cl.fill_nul T M o hM h1 v hv hn
 | false :: T, [], out, _, h, _, _, _ => by simp [Cl.fill] at h
 | false :: T, x :: M, out, hM, h, v, hv, hn => by
   simp only [Cl.fill, Option.map_eq_some_iff] at h
   obtain ⟨o, h1, rfl⟩ := h
   rcases List.mem_cons.1 hv with rfl | hv
   ·rw [hM v (by simp)] at hn; cases hn
   ·exact Cl.fill_nul T M o (fun v hv => hM v (by simp [hv])) h1 v hv hn
theorem Cl.live_all {l : List Kn.V} : ∀ v ∈ Cl.live l, v.null = false := fun v hv => by
 have := (List.mem_filter.1 hv).2
 simpa using this
theorem Cl.live_is {c : Kn.C} {l : List Kn.V} (h : l.all (Cl.is c) = true) : ∀ v ∈ Cl.live l, Cl.is c v = true := fun v hv => List.all_eq_true.1 h v (List.mem_filter.1 hv).1
theorem Cl.live_len (l : List Kn.V) : (Cl.live l).length ≤ l.length := List.length_filter_le _ _
theorem Cl.nums_len (l : List Kn.V) : (Cl.nums l).length ≤ l.length := by unfold Cl.nums; rw [List.length_map]; exact Cl.live_len l
theorem Cl.words_len (l : List Kn.V) : (Cl.words l).length ≤ l.length := by unfold Cl.words; rw [List.length_map]; exact Cl.live_len l
theorem Cl.words_fit {c : Kn.C} (hk : c.k ≠ 1) {l : List Kn.V} (h : l.all (Cl.is c) = true) (hl : l.length ≤ 65536) : Tx.fit (Cl.words l) = true := by
 unfold Tx.fit
 simp only [Bool.and_eq_true, decide_eq_true_iff, List.all_eq_true]
 refine ⟨Nat.le_trans (Cl.words_len l) hl, fun t ht => ?_⟩
 obtain ⟨v, hv, rfl⟩ := List.mem_map.1 ht
 exact (Cl.is_str hk (Cl.live_is h v hv) (Cl.live_all v hv)).2
theorem Cl.back_vals {c : Kn.C} {l : List Kn.V} (h : l.all (Cl.is c) = true) (hl : l.length ≤ 65536) (hi : ∀ v ∈ l, Ty.I64 v.n) : Cl.back c (Cl.vals c l) = (0, Cl.live l) := by
 unfold Cl.back Cl.vals
 by_cases hk : c.k = 1
 ·rw [if_pos hk, if_pos hk, Ig.rd_enc _ (Ig.bk_le _ 3) _ (fun x hx => by
   obtain ⟨v, hv, rfl⟩ := List.mem_map.1 hx
   exact hi v (List.mem_filter.1 hv).1) (Nat.le_trans (Cl.nums_len l) hl)]
  congr 1
  unfold Cl.nums
  rw [List.map_map]
  conv => rhs; rw [← List.map_id (Cl.live l)]
  exact List.map_congr_left fun v hv => (Cl.is_num hk (Cl.live_is h v hv) (Cl.live_all v hv)).symm
 ·have hf := Cl.words_fit hk h hl
  obtain ⟨hwl, h64⟩ := Tx.fit_yes hf
  have hb : Tx.bestK (Cl.words l) ≤ 1 := by unfold Tx.bestK; split <;> omega
  rw [if_neg hk, if_neg hk, Tx.rd_enc _ hb _ h64 hwl]
  congr 1
  unfold Cl.words
  rw [List.map_map]
  conv => rhs; rw [← List.map_id (Cl.live l)]
  exact List.map_congr_left fun v hv => (Cl.is_str hk (Cl.live_is h v hv) (Cl.live_all v hv)).1.symm
theorem Cl.bits_nulls (l : List Kn.V) : Cl.bits l.length (Bt.bytes (Bt.need l.length) (Bt.tr l.length (Cl.nulls l))) = l.map fun v => v.null := by
 unfold Cl.bits
 refine List.ext_getElem (by simp) fun i h1 h2 => ?_
 have hi : i < l.length := by simpa using h2
 rw [List.getElem_map, List.getElem_range, Bt.bit_truths _ hi, List.getElem_map]
 unfold Cl.nulls
 rw [List.getD, List.getElem?_eq_getElem hi]
 rfl
theorem Cl.rd_enc {c : Kn.C} {l : List Kn.V} (h : Cl.wE c l = 0) (hi : ∀ v ∈ l, Ty.I64 v.n) : Cl.rd c (Cl.enc c l) = (0, l) := by
 unfold Cl.wE at h
 by_cases hg : c.good = true
 ·rw [if_pos hg] at h
  by_cases hl : 65536 < l.length
  ·rw [if_pos hl] at h; cases h
  ·rw [if_neg hl] at h
   by_cases ha : l.all (Cl.is c) = true
   ·obtain ⟨a1, a2, a3⟩ := read_encU l.length (show U64 l.length by unfold U64; omega) ((Bt.bytes (Bt.need l.length) (Bt.tr l.length (Cl.nulls l))).data.toList ++ Cl.vals c l)
    have hbl : (Bt.bytes (Bt.need l.length) (Bt.tr l.length (Cl.nulls l))).data.toList.length = Bt.need l.length := by rw [Bt.length_data, Bt.size_bytes]
    have ht : ((Bt.bytes (Bt.need l.length) (Bt.tr l.length (Cl.nulls l))).data.toList ++ Cl.vals c l).take (Bt.need l.length) = (Bt.bytes (Bt.need l.length) (Bt.tr l.length (Cl.nulls l))).data.toList := List.take_left' hbl
    have hd : ((Bt.bytes (Bt.need l.length) (Bt.tr l.length (Cl.nulls l))).data.toList ++ Cl.vals c l).drop (Bt.need l.length) = Cl.vals c l := List.drop_left' hbl
    unfold Cl.rd Cl.enc
    rw [if_neg (by rw [hg]; decide), if_neg (by rw [a1]; simp), a2, if_neg hl, a3, if_neg (by rw [List.length_append, hbl]; omega), ht, hd]
    have hs : Ty.S (Bt.bytes (Bt.need l.length) (Bt.tr l.length (Cl.nulls l))).data.toList = Bt.bytes (Bt.need l.length) (Bt.tr l.length (Cl.nulls l)) := Ty.S_data _
    rw [hs, Bt.chk_truths, if_neg (by simp), Cl.bits_nulls]
    have hn : ¬ (!c.null && (l.map fun v => v.null).any id) = true := by
     intro hx
     rw [Bool.and_eq_true, List.any_eq_true] at hx
     obtain ⟨h1, x, hx, h2⟩ := hx
     obtain ⟨v, hv, rfl⟩ := List.mem_map.1 hx
     have := (Cl.is_null (List.all_eq_true.1 ha v hv) (by simpa using h2)).2
     rw [this] at h1
     cases h1
    rw [if_neg hn]
    unfold Cl.rdV
    rw [Cl.back_vals ha (by omega) hi]
    simp only [ne_eq, not_true_eq_false, if_false]
    rw [Cl.fill_live c l ha]
    simp
   ·rw [if_neg ha] at h; cases h
 ·rw [if_neg hg] at h; cases h
theorem Cl.back_is {c : Kn.C} (hg : c.good = true) {r : List UInt8} (h : (Cl.back c r).1 = 0) : ∀ v ∈ (Cl.back c r).2, v.null = false ∧ Cl.is c v = true ∧ Ty.I64 v.n := by
 unfold Cl.back at h ⊢
 by_cases hk : c.k = 1
 ·rw [if_pos hk] at h ⊢
  obtain ⟨b, q, _, _, _, _, hi⟩ := Ig.enc_rd r h
  intro v hv
  obtain ⟨x, hx, rfl⟩ := List.mem_map.1 hv
  exact ⟨rfl, Cl.is_ofN hk x, hi x hx⟩
 ·rw [if_neg hk] at h ⊢
  have hk2 : c.k = 2 := by
   rcases (Cl.good_iff c).1 hg with e | e
   ·exact absurd e hk
   ·exact e
  obtain ⟨b, q, _, _, _, _, h64⟩ := Tx.enc_rd r h
  intro v hv
  obtain ⟨x, hx, rfl⟩ := List.mem_map.1 hv
  exact ⟨rfl, Cl.is_ofS hk2 (h64 x hx), ⟨by show _ ≤ (0 : Int); omega, by show (0 : Int) ≤ _; omega⟩⟩
theorem Cl.bytes_bits {s : ByteArray} {n : Nat} (h : Bt.chk s n = 0) : Bt.bytes (Bt.need n) (Bt.tr n (Bt.bit s)) = s := by
 obtain ⟨hs, hd⟩ := Bt.chk_ok h
 refine Bt.bytes_of hs fun x hx => ?_
 unfold Bt.tr
 by_cases h1 : x < n
 ·simp [h1]
 ·rw [Bt.clean hd hx (by omega)]
  simp [h1]
theorem Cl.tr_congr {n : Nat} {F G : Nat → Bool} (h : ∀ i, i < n → F i = G i) : Bt.tr n F = Bt.tr n G := by
 funext x
 unfold Bt.tr
 by_cases h1 : x < n
 ·rw [h x h1]
 ·simp [h1]
theorem Cl.enc_rd {c : Kn.C} {l : List UInt8} (h : (Cl.rd c l).1 = 0) : Cl.wE c (Cl.rd c l).2 = 0 ∧ Cl.enc c (Cl.rd c l).2 = l ∧ (Cl.rd c l).2.length ≤ 65536 ∧ ∀ v ∈ (Cl.rd c l).2, Ty.I64 v.n := by
 unfold Cl.rd at h ⊢
 by_cases hg : c.good = true
 ·rw [if_neg (by rw [hg]; decide)] at h ⊢
  by_cases h1 : (num l).2.2 ≠ 0
  ·rw [if_pos h1] at h; exact absurd h h1
  ·rw [if_neg h1] at h ⊢
   by_cases h2 : 65536 < (num l).1
   ·rw [if_pos h2] at h; cases h
   ·rw [if_neg h2] at h ⊢
    by_cases h3 : (rest l).length < Bt.need (num l).1
    ·rw [if_pos h3] at h; cases h
    ·rw [if_neg h3] at h ⊢
     by_cases h4 : Bt.chk (Ty.S ((rest l).take (Bt.need (num l).1))) (num l).1 ≠ 0
     ·rw [if_pos h4] at h; exact absurd h h4
     ·rw [if_neg h4] at h ⊢
      by_cases h5 : (!c.null && (Cl.bits (num l).1 (Ty.S ((rest l).take (Bt.need (num l).1)))).any id) = true
      ·rw [if_pos h5] at h; cases h
      ·rw [if_neg h5] at h ⊢
       unfold Cl.rdV at h ⊢
       by_cases h6 : (Cl.back c ((rest l).drop (Bt.need (num l).1))).1 ≠ 0
       ·rw [if_pos h6] at h; exact absurd h h6
       ·rw [if_neg h6] at h ⊢
        have hb := Cl.back_is hg (by simpa using h6)
        cases hf : Cl.fill (Cl.bits (num l).1 (Ty.S ((rest l).take (Bt.need (num l).1)))) (Cl.back c ((rest l).drop (Bt.need (num l).1))).2 with
        | none => rw [hf] at h; cases h
        | some out =>
          rw [hf] at h
          simp only at h ⊢
          by_cases h7 : Cl.vals c out = (rest l).drop (Bt.need (num l).1)
          ·rw [if_pos h7]
           obtain ⟨f1, f2⟩ := Cl.fill_only _ _ _ (fun v hv => (hb v hv).1) hf
           have hlen : out.length = (num l).1 := by
            have := congrArg List.length f1
            simpa [Cl.bits] using this
           have hall : ∀ v ∈ out, Cl.is c v = true ∧ Ty.I64 v.n := fun v hv => by
            cases hn : v.null
            ·have hm : v ∈ Cl.live out := List.mem_filter.2 ⟨hv, by rw [hn]; rfl⟩
             rw [f2] at hm
             exact (hb v hm).2
            ·have hv0 := Cl.fill_nul _ _ _ (fun v hv => (hb v hv).1) hf v hv hn
             have hm : true ∈ Cl.bits (num l).1 (Ty.S ((rest l).take (Bt.need (num l).1))) := by
              rw [← f1]
              exact List.mem_map.2 ⟨v, hv, hn⟩
             have hcn : c.null = true := by
              cases hcn : c.null with
              | true => rfl
              | false =>
                refine absurd ?_ h5
                rw [hcn, Bool.and_eq_true, List.any_eq_true]
                exact ⟨rfl, true, hm, rfl⟩
             rw [hv0]
             exact ⟨Cl.is_nul hcn, ⟨by show _ ≤ (0 : Int); omega, by show (0 : Int) ≤ _; omega⟩⟩
           have hs := splitU (l := l) (by simpa using h1)
           refine ⟨?_, ?_, (by show out.length ≤ 65536; omega), fun v hv => (hall v hv).2⟩
           ·unfold Cl.wE
            rw [if_pos hg, if_neg (by show ¬ 65536 < out.length; omega), if_pos (List.all_eq_true.2 fun v hv => (hall v hv).1)]
           ·unfold Cl.enc
            have e1 : Bt.tr out.length (Cl.nulls out) = Bt.tr (num l).1 (Bt.bit (Ty.S ((rest l).take (Bt.need (num l).1)))) := by
             rw [hlen]
             refine Cl.tr_congr fun i hi => ?_
             have := congrArg (fun L => L[i]?) f1
             simp only [Cl.bits, List.getElem?_map, List.getElem?_range hi, Option.map_some] at this
             unfold Cl.nulls
             rw [List.getD, List.getElem?_eq_getElem (by omega)] at *
             simpa using this
            rw [e1, hlen, Cl.bytes_bits (by simpa using h4), Ty.data_S, h7, List.take_append_drop]
            exact hs.symm
          ·rw [if_neg h7] at h; cases h
 ·have hg2 : c.good = false := by simpa using hg
  rw [if_pos hg2] at h; cases h
end
end Go.Proofs.YtbelkhkllneifaaGreatDoor
