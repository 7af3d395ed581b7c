/-
  The plain mathematics of package column: the encoding of a column of values, what is read of bytes, there and back, in one way. No program.
  The document's answers for package column: what may stand in a column; the bytes of its values.
-/
import Derived.Test.YtcognkgabdaneaaGreatDoorKB
import Derived.Test.YtcognkgabdaneaaGreatDoorIB
import Derived.Test.YtcognkgabdaneaaGreatDoorQB
import Derived.Test.YtcognkgabdaneaaGreatDoorPA
import Derived.Test.YtcognkgabdaneaaGreatDoorJA
import Derived.Test.YtcognkgabdaneaaGreatDoorQC
namespace Go.Proofs.YtcognkgabdaneaaGreatDoor
open Go.RowKit
open Ty (num encU U64)
open Ig (rest read_encU splitU)
/-- A null; a value that is a number, a string. -/
def Cl.nul : Kn.V := ⟨true, 0, ⟨#[]⟩⟩
def Cl.ofN (x : Int) : Kn.V := ⟨false, x, ⟨#[]⟩⟩
def Cl.ofS (t : List UInt8) : Kn.V := ⟨false, 0, Ty.S t⟩
/-- May a value stand in a column? -/
def Cl.is (c : Kn.C) (v : Kn.V) : Bool := Kn.isK c.k v && (!v.null || c.null)
/-- Those that are not null; their numbers, their strings. -/
def Cl.live (l : List Kn.V) : List Kn.V := l.filter fun v => !v.null
def Cl.nums (l : List Kn.V) : List Int := (Cl.live l).map fun v => v.n
def Cl.words (l : List Kn.V) : List Tx.Str := (Cl.live l).map fun v => v.s.data.toList
def Cl.vals (c : Kn.C) (l : List Kn.V) : List UInt8 := if c.k = 1 then Ig.enc (Ig.bk (Cl.nums l) 3) (Cl.nums l) else Tx.enc (Tx.bestK (Cl.words l)) (Cl.words l)
def Cl.nulls (l : List Kn.V) (i : Nat) : Bool := (l.getD i Cl.nul).null
def Cl.enc (c : Kn.C) (l : List Kn.V) : List UInt8 := encU l.length ++ ((Bt.bytes (Bt.need l.length) (Bt.tr l.length (Cl.nulls l))).data.toList ++ Cl.vals c l)
/-- Which error a column that is written has. -/
def Cl.wE (c : Kn.C) (l : List Kn.V) : Nat := if c.good = true then (if 65536 < l.length then 3 else if l.all (Cl.is c) = true then 0 else 6) else 4
/-- Values laid where no null is. -/
def Cl.fill : List Bool → List Kn.V → Option (List Kn.V)
  | [], [] => some []
  | [], _ :: _ => none
  | true :: T, M => (Cl.fill T M).map (Cl.nul :: ·)
  | false :: _, [] => none
  | false :: T, x :: M => (Cl.fill T M).map (x :: ·)
/-- The values of bytes: the first error; the values. -/
def Cl.back (c : Kn.C) (r : List UInt8) : Nat × List Kn.V := if c.k = 1 then ((Ig.rd r).1, (Ig.rd r).2.map Cl.ofN) else ((Tx.rd r).1, (Tx.rd r).2.map Cl.ofS)
def Cl.bits (n : Nat) (s : ByteArray) : List Bool := (List.range n).map (Bt.bit s)
/-- What is behind the booleans. -/
def Cl.rdV (c : Kn.C) (T : List Bool) (r : List UInt8) : Nat × List Kn.V :=
  if (Cl.back c r).1 ≠ 0 then ((Cl.back c r).1, [])
  else match Cl.fill T (Cl.back c r).2 with
    | none => (4, [])
    | some out => if Cl.vals c out = r then (0, out) else (4, [])
def Cl.rd (c : Kn.C) (l : List UInt8) : Nat × List Kn.V :=
  if c.good = false then (4, [])
  else if (num l).2.2 ≠ 0 then ((num l).2.2, [])
  else if 65536 < (num l).1 then (3, [])
  else if (rest l).length < Bt.need (num l).1 then (2, [])
  else if Bt.chk (Ty.S ((rest l).take (Bt.need (num l).1))) (num l).1 ≠ 0 then (Bt.chk (Ty.S ((rest l).take (Bt.need (num l).1))) (num l).1, [])
  else if (!c.null && (Cl.bits (num l).1 (Ty.S ((rest l).take (Bt.need (num l).1)))).any id) = true then (6, [])
  else Cl.rdV c (Cl.bits (num l).1 (Ty.S ((rest l).take (Bt.need (num l).1)))) ((rest l).drop (Bt.need (num l).1))
theorem Cl.toList_nil {s : ByteArray} (h : (s.toList == (⟨#[]⟩ : ByteArray).toList) = true) : s = ⟨#[]⟩ := by
  rw [beq_iff_eq, ByteArray.toList_eq, ByteArray.toList_eq] at h
  have h2 : s.data.toList = [] := h
  apply ByteArray.ext
  exact Array.toList_inj.1 (by rw [h2])
/-- What may stand in a column of numbers, of strings. -/
theorem Cl.is_null {c : Kn.C} {v : Kn.V} (h : Cl.is c v = true) (hv : v.null = true) : v = Cl.nul ∧ c.null = true := by
  unfold Cl.is Kn.isK at h
  rw [hv] at h
  simp only [if_true, Bool.and_eq_true, Bool.not_true, Bool.false_or] at h
  obtain ⟨⟨h1, h2⟩, h3⟩ := h
  obtain ⟨vn, vi, vs⟩ := v
  simp only at hv h1 h2
  rw [hv, Cl.toList_nil h2, show vi = 0 by simpa using h1]
  exact ⟨rfl, h3⟩
theorem Cl.is_num {c : Kn.C} {v : Kn.V} (hk : c.k = 1) (h : Cl.is c v = true) (hv : v.null = false) : v = Cl.ofN v.n := by
  unfold Cl.is Kn.isK at h
  rw [hv, if_neg (by decide), if_pos hk] at h
  simp only [Bool.and_eq_true] at h
  obtain ⟨vn, vi, vs⟩ := v
  simp only at hv h
  rw [hv, Cl.toList_nil h.1]
  rfl
theorem Cl.is_str {c : Kn.C} {v : Kn.V} (hk : c.k ≠ 1) (h : Cl.is c v = true) (hv : v.null = false) : v = Cl.ofS v.s.data.toList ∧ v.s.data.toList.length ≤ 64 := by
  unfold Cl.is Kn.isK at h
  rw [hv, if_neg (by decide), if_neg hk] at h
  simp only [Bool.and_eq_true, decide_eq_true_iff] at h
  obtain ⟨vn, vi, vs⟩ := v
  simp only at hv h ⊢
  rw [hv, show vi = 0 by simpa using h.1.2.1]
  exact ⟨rfl, by rw [Ty.length_data]; exact h.1.2.2⟩
theorem Cl.is_nul {c : Kn.C} (h : c.null = true) : Cl.is c Cl.nul = true := by
  unfold Cl.is Kn.isK Cl.nul
  simp [h]
theorem Cl.is_ofN {c : Kn.C} (hk : c.k = 1) (x : Int) : Cl.is c (Cl.ofN x) = true := by
  unfold Cl.is Kn.isK Cl.ofN
  simp [hk]
theorem Cl.is_ofS {c : Kn.C} (hk : c.k = 2) {t : Tx.Str} (h : t.length ≤ 64) : Cl.is c (Cl.ofS t) = true := by
  unfold Cl.is Kn.isK Cl.ofS
  have : (Ty.S t).size ≤ 64 := h
  simp [hk, this]
theorem Cl.good_iff (c : Kn.C) : c.good = true ↔ c.k = 1 ∨ c.k = 2 := by
  unfold Kn.C.good
  by_cases h1 : c.k = 1
  · simp [h1]
  · by_cases h2 : c.k = 2
    · simp [h2]
    · have e1 : (c.k != 1) = true := by rw [bne_iff_ne]; exact h1
      have e2 : (c.k != 2) = true := by rw [bne_iff_ne]; exact h2
      simp [e1, e2, h1, h2]
/-- Laid apart and together again. -/
theorem Cl.fill_live (c : Kn.C) : ∀ l : List Kn.V, l.all (Cl.is c) = true → Cl.fill (l.map fun v => v.null) (Cl.live l) = some l
  | [], _ => rfl
  | v :: l, h => by
    rw [List.all_cons, Bool.and_eq_true] at h
    have ih := Cl.fill_live c l h.2
    cases hv : v.null
    · have e : Cl.live (v :: l) = v :: Cl.live l := by unfold Cl.live; rw [List.filter_cons, hv]; rfl
      rw [List.map_cons, hv, e]
      simp only [Cl.fill, ih, Option.map_some]
    · have e : Cl.live (v :: l) = Cl.live l := by unfold Cl.live; rw [List.filter_cons, hv]; rfl
      rw [List.map_cons, hv, e]
      simp only [Cl.fill, ih, Option.map_some]
      rw [(Cl.is_null h.1 hv).1]
theorem Cl.fill_only : ∀ (T : List Bool) (M out : List Kn.V), (∀ v ∈ M, v.null = false) → Cl.fill T M = some out → out.map (fun v => v.null) = T ∧ Cl.live out = M
  | [], [], out, _, h => by
    simp only [Cl.fill, Option.some.injEq] at h
    rw [← h]
    exact ⟨rfl, rfl⟩
  | [], _ :: _, out, _, h => by simp [Cl.fill] at h
  | true :: T, M, out, hM, h => by
    simp only [Cl.fill, Option.map_eq_some_iff] at h
    obtain ⟨o, h1, rfl⟩ := h
    obtain ⟨h2, h3⟩ := Cl.fill_only T M o hM h1
    refine ⟨by rw [List.map_cons, h2]; rfl, ?_⟩
    rw [← h3]
    rfl
  | false :: T, [], out, _, h => by simp [Cl.fill] at h
  | false :: T, x :: M, out, hM, h => by
    simp only [Cl.fill, Option.map_eq_some_iff] at h
    obtain ⟨o, h1, rfl⟩ := h
    obtain ⟨h2, h3⟩ := Cl.fill_only T M o (fun v hv => hM v (by simp [hv])) h1
    have hx := hM x (by simp)
    refine ⟨by rw [List.map_cons, h2, hx], ?_⟩
    unfold Cl.live at h3 ⊢
    rw [List.filter_cons, hx, h3]
    rfl
theorem Cl.fill_nul : ∀ (T : List Bool) (M out : List Kn.V), (∀ v ∈ M, v.null = false) → Cl.fill T M = some out → ∀ v ∈ out, v.null = true → v = Cl.nul
  | [], [], out, _, h, v, hv, _ => by
    simp only [Cl.fill, Option.some.injEq] at h
    rw [← h] at hv
    cases hv
  | [], _ :: _, out, _, h, _, _, _ => by simp [Cl.fill] at h
  | true :: T, M, out, hM, h, v, hv, hn => by
    simp only [Cl.fill, Option.map_eq_some_iff] at h
    obtain ⟨o, h1, rfl⟩ := h
    rcases List.mem_cons.1 hv with rfl | hv
    · rfl
    · exact Cl.fill_nul T M o hM h1 v hv hn
  | false :: T, [], out, _, h, _, _, _ => by simp [Cl.fill] at h
  | false :: T, x :: M, out, hM, h, v, hv, hn => by
    simp only [Cl.fill, Option.map_eq_some_iff] at h
    obtain ⟨o, h1, rfl⟩ := h
    rcases List.mem_cons.1 hv with rfl | hv
    · rw [hM v (by simp)] at hn; cases hn
    · exact Cl.fill_nul T M o (fun v hv => hM v (by simp [hv])) h1 v hv hn
theorem Cl.live_all {l : List Kn.V} : ∀ v ∈ Cl.live l, v.null = false := fun v hv => by
  have := (List.mem_filter.1 hv).2
  simpa using this
theorem Cl.live_is {c : Kn.C} {l : List Kn.V} (h : l.all (Cl.is c) = true) : ∀ v ∈ Cl.live l, Cl.is c v = true := fun v hv => List.all_eq_true.1 h v (List.mem_filter.1 hv).1
theorem Cl.live_len (l : List Kn.V) : (Cl.live l).length ≤ l.length := List.length_filter_le _ _
theorem Cl.nums_len (l : List Kn.V) : (Cl.nums l).length ≤ l.length := by unfold Cl.nums; rw [List.length_map]; exact Cl.live_len l
theorem Cl.words_len (l : List Kn.V) : (Cl.words l).length ≤ l.length := by unfold Cl.words; rw [List.length_map]; exact Cl.live_len l
theorem Cl.words_fit {c : Kn.C} (hk : c.k ≠ 1) {l : List Kn.V} (h : l.all (Cl.is c) = true) (hl : l.length ≤ 65536) : Tx.fit (Cl.words l) = true := by
  unfold Tx.fit
  simp only [Bool.and_eq_true, decide_eq_true_iff, List.all_eq_true]
  refine ⟨Nat.le_trans (Cl.words_len l) hl, fun t ht => ?_⟩
  obtain ⟨v, hv, rfl⟩ := List.mem_map.1 ht
  exact (Cl.is_str hk (Cl.live_is h v hv) (Cl.live_all v hv)).2
/-- The values' bytes are read as they were. -/
theorem Cl.back_vals {c : Kn.C} {l : List Kn.V} (h : l.all (Cl.is c) = true) (hl : l.length ≤ 65536) (hi : ∀ v ∈ l, Ty.I64 v.n) : Cl.back c (Cl.vals c l) = (0, Cl.live l) := by
  unfold Cl.back Cl.vals
  by_cases hk : c.k = 1
  · rw [if_pos hk, if_pos hk, Ig.rd_enc _ (Ig.bk_le _ 3) _ (fun x hx => by
      obtain ⟨v, hv, rfl⟩ := List.mem_map.1 hx
      exact hi v (List.mem_filter.1 hv).1) (Nat.le_trans (Cl.nums_len l) hl)]
    congr 1
    unfold Cl.nums
    rw [List.map_map]
    conv => rhs; rw [← List.map_id (Cl.live l)]
    exact List.map_congr_left fun v hv => (Cl.is_num hk (Cl.live_is h v hv) (Cl.live_all v hv)).symm
  · have hf := Cl.words_fit hk h hl
    obtain ⟨hwl, h64⟩ := Tx.fit_yes hf
    have hb : Tx.bestK (Cl.words l) ≤ 1 := by unfold Tx.bestK; split <;> omega
    rw [if_neg hk, if_neg hk, Tx.rd_enc _ hb _ h64 hwl]
    congr 1
    unfold Cl.words
    rw [List.map_map]
    conv => rhs; rw [← List.map_id (Cl.live l)]
    exact List.map_congr_left fun v hv => (Cl.is_str hk (Cl.live_is h v hv) (Cl.live_all v hv)).1.symm
theorem Cl.bits_nulls (l : List Kn.V) : Cl.bits l.length (Bt.bytes (Bt.need l.length) (Bt.tr l.length (Cl.nulls l))) = l.map fun v => v.null := by
  unfold Cl.bits
  refine List.ext_getElem (by simp) fun i h1 h2 => ?_
  have hi : i < l.length := by simpa using h2
  rw [List.getElem_map, List.getElem_range, Bt.bit_truths _ hi, List.getElem_map]
  unfold Cl.nulls
  rw [List.getD, List.getElem?_eq_getElem hi]
  rfl
/-- THERE AND BACK. -/
theorem Cl.rd_enc {c : Kn.C} {l : List Kn.V} (h : Cl.wE c l = 0) (hi : ∀ v ∈ l, Ty.I64 v.n) : Cl.rd c (Cl.enc c l) = (0, l) := by
  unfold Cl.wE at h
  by_cases hg : c.good = true
  · rw [if_pos hg] at h
    by_cases hl : 65536 < l.length
    · rw [if_pos hl] at h; cases h
    · rw [if_neg hl] at h
      by_cases ha : l.all (Cl.is c) = true
      · obtain ⟨a1, a2, a3⟩ := read_encU l.length (show U64 l.length by unfold U64; omega) ((Bt.bytes (Bt.need l.length) (Bt.tr l.length (Cl.nulls l))).data.toList ++ Cl.vals c l)
        have hbl : (Bt.bytes (Bt.need l.length) (Bt.tr l.length (Cl.nulls l))).data.toList.length = Bt.need l.length := by rw [Bt.length_data, Bt.size_bytes]
        have ht : ((Bt.bytes (Bt.need l.length) (Bt.tr l.length (Cl.nulls l))).data.toList ++ Cl.vals c l).take (Bt.need l.length) = (Bt.bytes (Bt.need l.length) (Bt.tr l.length (Cl.nulls l))).data.toList := List.take_left' hbl
        have hd : ((Bt.bytes (Bt.need l.length) (Bt.tr l.length (Cl.nulls l))).data.toList ++ Cl.vals c l).drop (Bt.need l.length) = Cl.vals c l := List.drop_left' hbl
        unfold Cl.rd Cl.enc
        rw [if_neg (by rw [hg]; decide), if_neg (by rw [a1]; simp), a2, if_neg hl, a3, if_neg (by rw [List.length_append, hbl]; omega), ht, hd]
        have hs : Ty.S (Bt.bytes (Bt.need l.length) (Bt.tr l.length (Cl.nulls l))).data.toList = Bt.bytes (Bt.need l.length) (Bt.tr l.length (Cl.nulls l)) := Ty.S_data _
        rw [hs, Bt.chk_truths, if_neg (by simp), Cl.bits_nulls]
        have hn : ¬ (!c.null && (l.map fun v => v.null).any id) = true := by
          intro hx
          rw [Bool.and_eq_true, List.any_eq_true] at hx
          obtain ⟨h1, x, hx, h2⟩ := hx
          obtain ⟨v, hv, rfl⟩ := List.mem_map.1 hx
          have := (Cl.is_null (List.all_eq_true.1 ha v hv) (by simpa using h2)).2
          rw [this] at h1
          cases h1
        rw [if_neg hn]
        unfold Cl.rdV
        rw [Cl.back_vals ha (by omega) hi]
        simp only [ne_eq, not_true_eq_false, if_false]
        rw [Cl.fill_live c l ha]
        simp
      · rw [if_neg ha] at h; cases h
  · rw [if_neg hg] at h; cases h
/-- What is read is all of one kind. -/
theorem Cl.back_is {c : Kn.C} (hg : c.good = true) {r : List UInt8} (h : (Cl.back c r).1 = 0) : ∀ v ∈ (Cl.back c r).2, v.null = false ∧ Cl.is c v = true ∧ Ty.I64 v.n := by
  unfold Cl.back at h ⊢
  by_cases hk : c.k = 1
  · rw [if_pos hk] at h ⊢
    obtain ⟨b, q, _, _, _, _, hi⟩ := Ig.enc_rd r h
    intro v hv
    obtain ⟨x, hx, rfl⟩ := List.mem_map.1 hv
    exact ⟨rfl, Cl.is_ofN hk x, hi x hx⟩
  · rw [if_neg hk] at h ⊢
    have hk2 : c.k = 2 := by
      rcases (Cl.good_iff c).1 hg with e | e
      · exact absurd e hk
      · exact e
    obtain ⟨b, q, _, _, _, _, h64⟩ := Tx.enc_rd r h
    intro v hv
    obtain ⟨x, hx, rfl⟩ := List.mem_map.1 hv
    exact ⟨rfl, Cl.is_ofS hk2 (h64 x hx), ⟨by show _ ≤ (0 : Int); omega, by show (0 : Int) ≤ _; omega⟩⟩
theorem Cl.bytes_bits {s : ByteArray} {n : Nat} (h : Bt.chk s n = 0) : Bt.bytes (Bt.need n) (Bt.tr n (Bt.bit s)) = s := by
  obtain ⟨hs, hd⟩ := Bt.chk_ok h
  refine Bt.bytes_of hs fun x hx => ?_
  unfold Bt.tr
  by_cases h1 : x < n
  · simp [h1]
  · rw [Bt.clean hd hx (by omega)]
    simp [h1]
theorem Cl.tr_congr {n : Nat} {F G : Nat → Bool} (h : ∀ i, i < n → F i = G i) : Bt.tr n F = Bt.tr n G := by
  funext x
  unfold Bt.tr
  by_cases h1 : x < n
  · rw [h x h1]
  · simp [h1]
/-- IN ONE WAY. -/
theorem Cl.enc_rd {c : Kn.C} {l : List UInt8} (h : (Cl.rd c l).1 = 0) : Cl.wE c (Cl.rd c l).2 = 0 ∧ Cl.enc c (Cl.rd c l).2 = l ∧ (Cl.rd c l).2.length ≤ 65536 ∧ ∀ v ∈ (Cl.rd c l).2, Ty.I64 v.n := by
  unfold Cl.rd at h ⊢
  by_cases hg : c.good = true
  · rw [if_neg (by rw [hg]; decide)] at h ⊢
    by_cases h1 : (num l).2.2 ≠ 0
    · rw [if_pos h1] at h; exact absurd h h1
    · rw [if_neg h1] at h ⊢
      by_cases h2 : 65536 < (num l).1
      · rw [if_pos h2] at h; cases h
      · rw [if_neg h2] at h ⊢
        by_cases h3 : (rest l).length < Bt.need (num l).1
        · rw [if_pos h3] at h; cases h
        · rw [if_neg h3] at h ⊢
          by_cases h4 : Bt.chk (Ty.S ((rest l).take (Bt.need (num l).1))) (num l).1 ≠ 0
          · rw [if_pos h4] at h; exact absurd h h4
          · rw [if_neg h4] at h ⊢
            by_cases h5 : (!c.null && (Cl.bits (num l).1 (Ty.S ((rest l).take (Bt.need (num l).1)))).any id) = true
            · rw [if_pos h5] at h; cases h
            · rw [if_neg h5] at h ⊢
              unfold Cl.rdV at h ⊢
              by_cases h6 : (Cl.back c ((rest l).drop (Bt.need (num l).1))).1 ≠ 0
              · rw [if_pos h6] at h; exact absurd h h6
              · rw [if_neg h6] at h ⊢
                have hb := Cl.back_is hg (by simpa using h6)
                cases hf : Cl.fill (Cl.bits (num l).1 (Ty.S ((rest l).take (Bt.need (num l).1)))) (Cl.back c ((rest l).drop (Bt.need (num l).1))).2 with
                | none => rw [hf] at h; cases h
                | some out =>
                  rw [hf] at h
                  simp only at h ⊢
                  by_cases h7 : Cl.vals c out = (rest l).drop (Bt.need (num l).1)
                  · rw [if_pos h7]
                    obtain ⟨f1, f2⟩ := Cl.fill_only _ _ _ (fun v hv => (hb v hv).1) hf
                    have hlen : out.length = (num l).1 := by
                      have := congrArg List.length f1
                      simpa [Cl.bits] using this
                    have hall : ∀ v ∈ out, Cl.is c v = true ∧ Ty.I64 v.n := fun v hv => by
                      cases hn : v.null
                      · have hm : v ∈ Cl.live out := List.mem_filter.2 ⟨hv, by rw [hn]; rfl⟩
                        rw [f2] at hm
                        exact (hb v hm).2
                      · have hv0 := Cl.fill_nul _ _ _ (fun v hv => (hb v hv).1) hf v hv hn
                        have hm : true ∈ Cl.bits (num l).1 (Ty.S ((rest l).take (Bt.need (num l).1))) := by
                          rw [← f1]
                          exact List.mem_map.2 ⟨v, hv, hn⟩
                        have hcn : c.null = true := by
                          cases hcn : c.null with
                          | true => rfl
                          | false =>
                            refine absurd ?_ h5
                            rw [hcn, Bool.and_eq_true, List.any_eq_true]
                            exact ⟨rfl, true, hm, rfl⟩
                        rw [hv0]
                        exact ⟨Cl.is_nul hcn, ⟨by show _ ≤ (0 : Int); omega, by show (0 : Int) ≤ _; omega⟩⟩
                    have hs := splitU (l := l) (by simpa using h1)
                    refine ⟨?_, ?_, (by show out.length ≤ 65536; omega), fun v hv => (hall v hv).2⟩
                    · unfold Cl.wE
                      rw [if_pos hg, if_neg (by show ¬ 65536 < out.length; omega), if_pos (List.all_eq_true.2 fun v hv => (hall v hv).1)]
                    · unfold Cl.enc
                      have e1 : Bt.tr out.length (Cl.nulls out) = Bt.tr (num l).1 (Bt.bit (Ty.S ((rest l).take (Bt.need (num l).1)))) := by
                        rw [hlen]
                        refine Cl.tr_congr fun i hi => ?_
                        have := congrArg (fun L => L[i]?) f1
                        simp only [Cl.bits, List.getElem?_map, List.getElem?_range hi, Option.map_some] at this
                        unfold Cl.nulls
                        rw [List.getD, List.getElem?_eq_getElem (by omega)] at *
                        simpa using this
                      rw [e1, hlen, Cl.bytes_bits (by simpa using h4), Ty.data_S, h7, List.take_append_drop]
                      exact hs.symm
                  · rw [if_neg h7] at h; cases h
  · have hg2 : c.good = false := by simpa using hg
    rw [if_pos hg2] at h; cases h
end Go.Proofs.YtcognkgabdaneaaGreatDoor

namespace Go.Proofs.YtcognkgabdaneaaGreatDoor
open Go.RowKit
theorem Cl.boxed (w : World) (c : Kn.C) (v : Kn.V) (t t' : TypeId) {B : Nat} {w1 : World} (g : Below B ((w.alloc (.cells #[.int .i64 c.k, .bool c.null] t)).alloc (.cells #[.bool v.null, .int .i64 v.n, .string v.s] t')) w1) (hB : B = w.heap.size + 2) :
    w1.cell? ⟨w.heap.size, 1, none⟩ = some (.bool c.null) ∧ w1.cell? ⟨w.heap.size + 1, 0, none⟩ = some (.bool v.null) := by
  subst hB
  have h1 := ((Below.refl _ (w.alloc (.cells #[.int .i64 c.k, .bool c.null] t))).alloc (Nat.le_refl _) (.cells #[.bool v.null, .int .i64 v.n, .string v.s] t')).cell (p := ⟨w.heap.size, 1, none⟩) (by simp)
  rw [Kn.cell_new w _ t 1 _ rfl] at h1
  have h2 := Kn.cell_new (w.alloc (.cells #[.int .i64 c.k, .bool c.null] t)) #[.bool v.null, .int .i64 v.n, .string v.s] t' 0 _ rfl
  rw [World.size_alloc] at h2
  exact ⟨(g.cell (p := ⟨w.heap.size, 1, none⟩) (by simp)).trans h1, (g.cell (p := ⟨w.heap.size + 1, 0, none⟩) (by simp)).trans h2⟩
set_option maxHeartbeats 1000000 in
theorem Cl.ris_c (c : Kn.C) (v : Kn.V) (w : World) :
    Calls Tryz.prog 22 #[c.val, v.val] w fun e w' => e = .returned (.bool (Cl.is c v)) ∧ Below w.heap.size w w' := by
  have ci := Kn.rIs_c c.k v
  have hb := fun t t' B w1 g h => Cl.boxed w c v t t' (B := B) (w1 := w1) g h
  unfold Cl.is
  generalize Kn.isK c.k v = I at ci
  obtain ⟨ck, cn⟩ := c
  obtain ⟨vn, vi, vs⟩ := v
  unfold Kn.C.val
  unfold Kn.V.val at ci ⊢
  simp only at ci hb ⊢
  have HB := Lib.hid hb
  clear hb
  cases I <;> cases vn <;> cases cn
  all_goals
    go_enter Tryz.func22, Tryz.ntmps22
    go_wp2_with fail
    refine (ci _).mono ?_
    rintro e w1 ⟨rfl, g1⟩
    obtain ⟨b0, b1⟩ := HB.out _ _ _ _ g1 (by simp)
    have G1 := Lib.hid g1
    clear g1 ci
    go_wp2
    go_ret
    exact ⟨rfl, ((((Below.refl _ w).alloc (Nat.le_refl _) _).alloc (by simp) _).trans (G1.out.mono (by simp; omega)))⟩
/-- A row of another type of values stays. -/
theorem Cl.buf_grew {e e' : TypeId} (hne : e ≠ e') {base base' : Nat} {w w' : World} {v v' u : Value} {n m : Nat} {f g : Nat → Value} (h : Bt.Buf e base w v n f) (k : Bt.Buf e' base' w u m g) (hg : Ty.Grew w w' u v') : Bt.Buf e base w' v n f := by
  refine World.ownsRow.kept h hg.by_ ?_
  rcases h.2 with ⟨rfl, _⟩ | ⟨b, cap, cur, rfl, _, hb, _⟩
  · exact .inl rfl
  · refine .inr fun e1 => ?_
    rcases k.2 with ⟨rfl, _⟩ | ⟨b2, cap2, cur2, rfl, _, hb2, _⟩
    · cases e1
    · have e2 : b = b2 := by simpa [Value.ownBlock] using e1
      subst e2
      rw [hb] at hb2
      simp only [Option.some.injEq, Obj.cells.injEq] at hb2
      exact hne hb2.2.1
theorem Cl.grew_below {e : TypeId} {wo w w' : World} {v v' : Value} {n : Nat} {f : Nat → Value} (hb : Below wo.heap.size wo w) (ho : Bt.Buf e wo.heap.size w v n f) (g : Ty.Grew w w' v v') : Below wo.heap.size wo w' :=
  hb.trans (g.below hb.size (Bt.Buf.base_le ho))
theorem Cl.live_step (l : List Kn.V) (k : Nat) (x : Kn.V) (h : l[k]? = some x) : Cl.live (l.take (k + 1)) = Cl.live (l.take k) ++ (if x.null = true then [] else [x]) := by
  obtain ⟨h1, rfl⟩ := List.getElem?_eq_some_iff.1 h
  unfold Cl.live
  rw [List.take_succ_eq_append_getElem h1, List.filter_append]
  congr 1
  cases hn : l[k].null <;> simp [hn]
theorem Cl.nums_null {l : List Kn.V} {k : Nat} {x : Kn.V} (h : l[k]? = some x) (hn : x.null = true) : Cl.nums (l.take (k + 1)) = Cl.nums (l.take k) ∧ Cl.words (l.take (k + 1)) = Cl.words (l.take k) := by
  unfold Cl.nums Cl.words
  rw [Cl.live_step l k x h, if_pos hn, List.append_nil]
  exact ⟨rfl, rfl⟩
theorem Cl.nums_snoc {l : List Kn.V} {k : Nat} {x : Kn.V} (h : l[k]? = some x) (hn : x.null = false) : Cl.nums (l.take (k + 1)) = Cl.nums (l.take k) ++ [x.n] ∧ Cl.words (l.take (k + 1)) = Cl.words (l.take k) ++ [x.s.data.toList] := by
  unfold Cl.nums Cl.words
  rw [Cl.live_step l k x h, if_neg (by rw [hn]; decide), List.map_append, List.map_append]
  exact ⟨rfl, rfl⟩
theorem Cl.nums_take (l : List Kn.V) (k : Nat) : (Cl.nums (l.take k)).length ≤ k ∧ (Cl.words (l.take k)).length ≤ k :=
  ⟨Nat.le_trans (Cl.nums_len _) (List.length_take_le _ _), Nat.le_trans (Cl.words_len _) (List.length_take_le _ _)⟩
theorem Cl.nums_I64 {l : List Kn.V} (hi : ∀ v ∈ l, Ty.I64 v.n) : ∀ x ∈ Cl.nums l, Ty.I64 x := fun x hx => by
  obtain ⟨v, hv, rfl⟩ := List.mem_map.1 hx
  exact hi v (List.mem_filter.1 hv).1
set_option maxHeartbeats 2000000 in
set_option maxRecDepth 100000 in
theorem Cl.rvalues_c (c : Kn.C) (u : Value) (l : List Kn.V) (w : World) (hu : Kn.Vals w u l) (hl : l.length ≤ 65536) (ha : l.all (Cl.is c) = true) (hi : ∀ v ∈ l, Ty.I64 v.n) :
    Calls Tryz.prog 25 #[c.val, u] w fun e w' => e = .returned (.string (Ty.S (Cl.vals c l))) ∧ Below w.heap.size w w' := by
  have hk : (((c.k == 1) = true) ∧ c.k = 1) ∨ ((c.k == 1) = false ∧ c.k ≠ 1) := by
    by_cases h : c.k = 1
    · left; exact ⟨by rw [h]; rfl, h⟩
    · right; exact ⟨by rw [beq_eq_false_iff_ne]; exact h, h⟩
  have HV1 : Hid (c.k = 1 → Cl.vals c l = Ig.enc (Ig.bk (Cl.nums l) 3) (Cl.nums l)) := Lib.hid fun h => by unfold Cl.vals; rw [if_pos h]
  have HV2 : Hid (c.k ≠ 1 → Cl.vals c l = Tx.enc (Tx.bestK (Cl.words l)) (Cl.words l) ∧ Tx.fit (Cl.words l) = true) := Lib.hid fun h => ⟨by unfold Cl.vals; rw [if_neg h], Cl.words_fit h ha hl⟩
  obtain ⟨S, hS⟩ : ∃ S, S = Ty.S (Cl.vals c l) := ⟨_, rfl⟩
  rw [← hS]
  have HS0 := Lib.hid hS
  clear hS
  have HI := Lib.hid (Cl.nums_I64 hi)
  have HNL := Lib.hid (Nat.le_trans (Cl.nums_len l) hl)
  have HWL := Lib.hid (Nat.le_trans (Cl.words_len l) hl)
  have HU := Lib.hid hu
  clear ha hi hu
  obtain ⟨ck, cn⟩ := c
  unfold Kn.C.val
  simp only at hk HV1 HV2 HS0 ⊢
  obtain ⟨a, cp, rfl, h⟩ := HU.out.is
  have HH := Lib.hid h
  clear h
  have HBX := Lib.hid (Kn.cell_new w #[.int .i64 ck, .bool cn] 24 0 _ rfl)
  have HB0 : Hid (Below w.heap.size w (w.alloc (.cells #[.int .i64 ck, .bool cn] 24))) := Lib.hid ((Below.refl _ _).alloc (Nat.le_refl _) _)
  have hsz : (w.alloc (.cells #[.int .i64 ck, .bool cn] 24)).heap.size = w.heap.size + 1 := World.size_alloc ..
  go_enter Tryz.func25, Tryz.ntmps25
  go_wp2_with fail
  generalize hwo : w.alloc _ = wo at hsz HBX HB0
  clear hwo
  go_wp2_with fail
  go_loopw [5, 6, 7] (fun nv sv i wr => ∃ k : Nat, k ≤ l.length ∧ i = .int .i64 k ∧ Ig.Own wo.heap.size wr nv (Cl.nums (l.take k)) ∧ Tx.Own wo.heap.size wr sv (Cl.words (l.take k)) ∧ Below wo.heap.size wo wr) (fun _ _ i _ => l.length - (intOf i).toNat)
  case atStart => exact ⟨0, by omega, rfl, Ig.Own.nil _ _, Tx.Own.nil _ _, Below.refl _ _⟩
  case round =>
    obtain ⟨k, hkl, rfl, hN, hW, hb⟩ := hrel
    have HB := Lib.hid hb
    have HN := Lib.hid hN
    have HW := Lib.hid hW
    have hws := hb.size
    have hcz : wr.cell? ⟨w.heap.size, 0, none⟩ = some (.int .i64 ck) := (hb.cell (p := ⟨w.heap.size, 0, none⟩) (by simp [hsz])).trans HBX.out
    clear hN hW hb
    by_cases hlt : k < l.length
    · rcases HH.out with h | ⟨b, o, rfl, hbl, hm, h⟩
      · exact absurd hlt (by rw [h]; simp)
      · obtain ⟨x, hx⟩ : ∃ x, l[k]? = some x := ⟨_, List.getElem?_eq_getElem hlt⟩
        have hA := h k x hx
        have HX := Lib.hid hx
        have hbl2 : b < wo.heap.size := by omega
        have HA : Hid (∀ W, Below wo.heap.size wo W → W.cell? ⟨b, o + k * 3, none⟩ = some (.bool x.null) ∧ W.cell? ⟨b, o + k * 3 + 1, none⟩ = some (.int .i64 x.n) ∧ W.cell? ⟨b, o + k * 3 + 2, none⟩ = some (.string x.s)) := Lib.hid fun W g => by
          have h0 := (hA.later HB0.out).later (g.mono (Nat.le_refl _))
          exact ⟨h0.c0, h0.c1, h0.c2⟩
        obtain ⟨a0, a1, a2⟩ := HA.out _ HB.out
        have dk : (k : Int) < (l.length : Int) := by omega
        have dk0 : (0 : Int) ≤ (k : Int) := by omega
        clear h hA hx
        cases hn : x.null
        · have HS := Lib.hid (Cl.nums_snoc HX.out hn)
          rw [hn] at a0
          clear hn a2
          have hlen := Cl.nums_take l k
          have hO := HN.out
          go_wp2_with (at_builtin; first
            | (refine Bt.wpList_append_one 2 76 (.int .i64 0) 8 Tryz.underlying76 Ig.infoI rfl (hO.pre x.n) (by omega) (by omega) (by omega) (.tmp 24) (.tmp 30) _ rfl rfl rfl rfl rfl ?_
               intro v5 w5 h5 g5
               have HB5 := Lib.hid (Cl.grew_below HB.out hO g5)
               have a2 := (HA.out w5 HB5.out).2.2
               have hs5 := HB5.out.size
               have hO5 : Tx.Own wo.heap.size w5 u6 (Cl.words (l.take k)) := Cl.buf_grew (by decide) HW.out hO g5)
            | (refine Bt.wpList_append_one 9 74 (.string ⟨#[]⟩) 16 Tryz.underlying74 Tx.infoS rfl (hO5.pre x.s.data.toList) (by omega) (by omega) (by omega) (.tmp 32) (.tmp 38) _ rfl rfl rfl rfl rfl ?_
               intro v6 w6 h6 g6))
          have H5 := Lib.hid (Ig.Own.post (h5 (Ig.iv_snoc _ x.n)))
          have H6 := Lib.hid (Tx.Own.post (h6 (by rw [← Tx.sv_snoc, Ty.S_data])))
          have HB6 := Lib.hid (Cl.grew_below HB5.out hO5 g6)
          have HN6 : Hid (Ig.Own wo.heap.size w6 v5 (Cl.nums (l.take k) ++ [x.n])) := Lib.hid (Cl.buf_grew (by decide) H5.out hO5 g6)
          clear h6 g6 hO5 hlen h5 g5 hO
          go_wp2
          go_roundw
          case rel => exact ⟨k + 1, by omega, by simp, by rw [HS.out.1]; exact HN6.out, by rw [HS.out.2]; exact H6.out, HB6.out⟩
          case measure => simp [intOf]; omega
        · have HS := Lib.hid (Cl.nums_null HX.out hn)
          rw [hn] at a0
          clear hn a1 a2
          go_wp2
          go_roundw
          case rel => exact ⟨k + 1, by omega, by simp, by rw [HS.out.1]; exact HN.out, by rw [HS.out.2]; exact HW.out, HB.out⟩
          case measure => simp [intOf]; omega
    · obtain rfl : k = l.length := by omega
      have dk : ¬ (l.length : Int) < (l.length : Int) := by omega
      have hN := HN.out
      have hW := HW.out
      rw [List.take_length] at hN hW
      have HBW := Lib.hid (HB0.out.trans (HB.out.mono HB0.out.size))
      rcases hk with ⟨hk, hk1⟩ | ⟨hk, hk1⟩
      · have cb := Ig.rbest_c _ _ _ hN.at HI.out (Nat.le_trans HNL.out (by omega))
        rw [Ig.bestV_good (by have := HNL.out; omega)] at cb
        have HR := Lib.hid (HS0.out.trans (congrArg Ty.S (HV1.out hk1)))
        clear hN hW hk1
        go_wp2_with fail
        refine cb.mono ?_
        rintro e w1 ⟨rfl, g1⟩
        have HG := Lib.hid (HBW.out.trans (g1.mono HBW.out.size))
        clear cb g1
        go_wp2
        go_ret
        exact ⟨by rw [HR.out]; rfl, HG.out⟩
      · have cb := Tx.rbest_c _ _ _ hW.at (Nat.le_trans HWL.out (by omega))
        unfold Tx.bestV at cb
        rw [if_pos (HV2.out hk1).2] at cb
        have HR := Lib.hid (HS0.out.trans (congrArg Ty.S (HV2.out hk1).1))
        clear hN hW hk1
        go_wp2_with fail
        refine cb.mono ?_
        rintro e w1 ⟨rfl, g1⟩
        have HG := Lib.hid (HBW.out.trans (g1.mono HBW.out.size))
        clear cb g1
        go_wp2
        go_ret
        exact ⟨by rw [HR.out]; rfl, HG.out⟩
end Go.Proofs.YtcognkgabdaneaaGreatDoor
