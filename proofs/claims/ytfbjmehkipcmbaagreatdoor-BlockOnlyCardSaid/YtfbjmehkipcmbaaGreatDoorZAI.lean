/-
  The document's answers for package texts: With, Best.
  The plain mathematics of package column: the encoding of a column of values, what is read of bytes, there and back, in one way. No program.
  The plain mathematics of package deeds: the encoding of a deed, what is read of bytes, there and back, in one way. No program.
  The plain mathematics of package block: which deeds are a block, a block as bytes, which deeds bytes are. No program.
-/
import Derived.Test.YtfbjmehkipcmbaaGreatDoorZAH
import Derived.Test.YtfbjmehkipcmbaaGreatDoorZAA
import Derived.Test.YtfbjmehkipcmbaaGreatDoorZAD
import Derived.Test.YtfbjmehkipcmbaaGreatDoorZAG
namespace Go.Proofs.YtfbjmehkipcmbaaGreatDoor
open Go.RowKit
open Ty (encU num)
def Tx.fit (L : List Tx.Str) : Bool := decide (L.length ≤ 65536) && L.all fun t => decide (t.length ≤ 64)
def Tx.withE (L : List Tx.Str) (z : Int) : Nat := if 0 ≤ z ∧ z ≤ 1 then (if Tx.fit L = true then 0 else 3) else 1
def Tx.withS (L : List Tx.Str) (z : Int) : List UInt8 := if Tx.withE L z = 0 then Tx.enc z.toNat L else []
def Tx.withV (L : List Tx.Str) (z : Int) : Value := .tuple #[.string (Ty.S (Tx.withS L z)), .int .i64 ((Tx.withE L z : Nat) : Int)]
theorem Tx.withV_bad {L : List Tx.Str} {z : Int} (h : ¬ (0 ≤ z ∧ z ≤ 1)) : Tx.withV L z = .tuple #[.string (Ty.S []), .int .i64 1] := by
  have e : Tx.withE L z = 1 := by unfold Tx.withE; rw [if_neg h]
  unfold Tx.withV Tx.withS
  rw [e]; rfl
theorem Tx.withV_long {L : List Tx.Str} {z : Int} (h : 0 ≤ z ∧ z ≤ 1) (hl : Tx.fit L = false) : Tx.withV L z = .tuple #[.string (Ty.S []), .int .i64 3] := by
  have e : Tx.withE L z = 3 := by unfold Tx.withE; rw [if_pos h, if_neg (by rw [hl]; simp)]
  unfold Tx.withV Tx.withS
  rw [e]; rfl
theorem Tx.withV_good {L : List Tx.Str} {k : Nat} (h : k ≤ 1) (hl : Tx.fit L = true) : Tx.withV L (k : Int) = .tuple #[.string (Ty.S (Tx.enc k L)), .int .i64 0] := by
  have e : Tx.withE L (k : Int) = 0 := by unfold Tx.withE; rw [if_pos (by omega), if_pos hl]
  unfold Tx.withV Tx.withS
  rw [e]; rfl
theorem Tx.fit_yes {L : List Tx.Str} (h : Tx.fit L = true) : L.length ≤ 65536 ∧ ∀ t ∈ L, t.length ≤ 64 := by
  unfold Tx.fit at h
  simp only [Bool.and_eq_true, decide_eq_true_iff, List.all_eq_true] at h
  exact h
theorem Tx.fit_no {L : List Tx.Str} (h : Tx.fit L = false) (hl : L.length ≤ 65536) (ha : ∀ j, j < L.length → (L.getD j []).length ≤ 64) : False := by
  have : Tx.fit L = true := by
    unfold Tx.fit
    simp only [Bool.and_eq_true, decide_eq_true_iff, List.all_eq_true]
    refine ⟨hl, fun t ht => ?_⟩
    obtain ⟨j, hj, rfl⟩ := List.getElem_of_mem ht
    have := ha j hj
    rwa [List.getD, List.getElem?_eq_getElem hj] at this
  rw [h] at this
  cases this
set_option maxHeartbeats 1000000 in
set_option maxRecDepth 100000 in
theorem Tx.rwith_c (u : Value) (L : List Tx.Str) (z : Int) (w : World) (hL : Tx.At w.heap.size w u L) (hl : L.length ≤ 140737488355328) :
    Calls Tryz.prog 99 #[u, .int .i64 z] w fun e w' => e = .returned (Tx.withV L z) ∧ Below w.heap.size w w' := by
  by_cases hz : 0 ≤ z ∧ z ≤ 1
  · cases hf : Tx.fit L
    · rw [Tx.withV_long hz hf]
      have hzs : ((z != 0) = false) ∨ ((z != 0) = true ∧ (z != 1) = false) := by
        rcases (by omega : z = 0 ∨ z = 1) with rfl | rfl
        · exact .inl rfl
        · exact .inr ⟨rfl, rfl⟩
      obtain ⟨a, c, rfl, hc, _, h⟩ := hL
      have HC := Lib.hid h
      have HF := Lib.hid hf
      clear h hf
      by_cases hln : 65536 < L.length
      · have hli : (65536 : Int) < (L.length : Int) := by omega
        clear hln
        rcases hzs with z1 | ⟨z1, z2⟩
        all_goals
          clear hz
          go_enter Tryz.func99, Tryz.ntmps99
          go_wp2
          go_ret2
          exact ⟨rfl, Below.refl _ _⟩
      · have hli : ¬ (65536 : Int) < (L.length : Int) := by omega
        rcases hzs with z1 | ⟨z1, z2⟩
        all_goals
          clear hz
          go_enter Tryz.func99, Tryz.ntmps99
          go_wp2_with fail
          go_loopw [6] (fun i wr => ∃ j : Nat, j ≤ L.length ∧ i = .int .i64 j ∧ w = wr ∧ ∀ i, i < j → (L.getD i []).length ≤ 64) (fun i _ => L.length - (intOf i).toNat)
          case atStart => exact ⟨0, by omega, rfl, rfl, fun i hi => by omega⟩
          case round =>
            obtain ⟨j, hj, rfl, rfl, hp⟩ := hrel
            have HP := Lib.hid hp
            clear hp
            have hjl : j < L.length := by
              rcases Nat.lt_or_ge j L.length with h | h
              · exact h
              · exact absurd (Tx.fit_no HF.out (by omega) fun i hi => HP.out i (by omega)) not_false
            rcases HC.out with h | ⟨b, o, rfl, hlt, h⟩
            · exact absurd hjl (by rw [h.1]; simp)
            have hc1 := h j hjl
            unfold Tx.sv at hc1
            have hji : (j : Int) < (L.length : Int) := by omega
            have hj0 : (0 : Int) ≤ (j : Int) := by omega
            by_cases hsz : (64 : Int) < ((Ty.S (L.getD j [])).size : Int)
            · generalize Ty.S (L.getD j []) = s at hc1 hsz
              clear h
              go_wp2
              go_ret2
              exact ⟨rfl, Below.refl _ _⟩
            · have HJ : Hid ((L.getD j []).length ≤ 64) := Lib.hid (by rw [Ty.size_S] at hsz; omega)
              generalize Ty.S (L.getD j []) = s at hc1 hsz
              clear h
              go_wp2
              go_roundw
              case rel => exact ⟨j + 1, by omega, by simp, by simp, fun i hi => by
                by_cases e : i = j
                · rw [e]; exact HJ.out
                · exact HP.out i (by omega)⟩
              case measure => simp [intOf]; omega
    · obtain ⟨k, rfl⟩ := Int.eq_ofNat_of_zero_le hz.1
      have hy := Tx.fit_yes hf
      rw [Tx.withV_good (by omega) hf]
      exact Tx.rwith_good u L k (by omega) w hL hy.2 hy.1
  · rw [Tx.withV_bad hz]
    have z1 : (z != 0) = true := by rw [bne_iff_ne]; omega
    have z2 : (z != 1) = true := by rw [bne_iff_ne]; omega
    obtain ⟨a, c, rfl, hc, _, h⟩ := hL
    clear h hz
    go_enter Tryz.func99, Tryz.ntmps99
    go_wp2
    go_ret2
    exact ⟨rfl, Below.refl _ _⟩
def Tx.bestK (L : List Tx.Str) : Nat := if (Tx.enc 1 L).length < (Tx.enc 0 L).length then 1 else 0
def Tx.bestV (L : List Tx.Str) : Value := if Tx.fit L = true then .tuple #[.string (Ty.S (Tx.enc (Tx.bestK L) L)), .int .i64 0] else .tuple #[.string (Ty.S []), .int .i64 3]
set_option maxRecDepth 100000 in
set_option maxHeartbeats 1000000 in
theorem Tx.rbest_c (u : Value) (L : List Tx.Str) (w : World) (hL : Tx.At w.heap.size w u L) (hl : L.length ≤ 140737488355328) :
    Calls Tryz.prog 82 #[u] w fun e w' => e = .returned (Tx.bestV L) ∧ Below w.heap.size w w' := by
  have c0 := Tx.rwith_c u L 0 w hL hl
  have c1 : ∀ wz, Below w.heap.size w wz → Calls Tryz.prog 99 #[u, .int .i64 1] wz fun e w' => e = .returned (Tx.withV L 1) ∧ Below w.heap.size w w' := fun wz g =>
    (Tx.rwith_c u L 1 wz ((hL.below g).mono g.size (Nat.le_refl _)) hl).mono fun e w' ⟨he, hg⟩ => ⟨he, g.trans (hg.mono g.size)⟩
  have e1 : (0 : Int) = ((0 : Nat) : Int) := rfl
  have e2 : (1 : Int) = ((1 : Nat) : Int) := rfl
  cases hf : Tx.fit L
  · rw [Tx.withV_long (by omega) hf] at c0
    have c1' := c1
    rw [Tx.withV_long (by omega) hf] at c1'
    have HV : Hid (Tx.bestV L = .tuple #[.string (Ty.S []), .int .i64 3]) := Lib.hid (by unfold Tx.bestV; rw [hf]; rfl)
    rw [HV.out]
    clear hf c1 e1 e2 hL hl
    go_enter Tryz.func82, Tryz.ntmps82
    go_wp2_with fail
    refine c0.mono ?_
    rintro e w1 ⟨rfl, g1⟩
    have G1 := Lib.hid g1
    have c2 := c1' w1 g1
    clear c0 c1' g1
    go_wp2_with fail
    refine c2.mono ?_
    rintro e w2 ⟨rfl, g2⟩
    go_wp2
    go_ret2
    exact ⟨rfl, g2⟩
  · have c0' := c0
    have c1' := c1
    have v0 : Tx.withV L 0 = .tuple #[.string (Ty.S (Tx.enc 0 L)), .int .i64 0] := Tx.withV_good (k := 0) (by omega) hf
    have v1 : Tx.withV L 1 = .tuple #[.string (Ty.S (Tx.enc 1 L)), .int .i64 0] := Tx.withV_good (k := 1) (by omega) hf
    rw [v0] at c0'
    rw [v1] at c1'
    have HV : Hid (Tx.bestV L = .tuple #[.string (Ty.S (Tx.enc (Tx.bestK L) L)), .int .i64 0]) := Lib.hid (by unfold Tx.bestV; rw [if_pos hf])
    rw [HV.out]
    clear hf c0 c1 v0 v1 e1 e2 hL hl
    have hb : (Tx.bestK L = 1 ∧ ((Ty.S (Tx.enc 1 L)).size : Int) < ((Ty.S (Tx.enc 0 L)).size : Int)) ∨ (Tx.bestK L = 0 ∧ ¬ ((Ty.S (Tx.enc 1 L)).size : Int) < ((Ty.S (Tx.enc 0 L)).size : Int)) := by
      unfold Tx.bestK
      rw [Ty.size_S, Ty.size_S]
      by_cases h : (Tx.enc 1 L).length < (Tx.enc 0 L).length
      · exact .inl ⟨by rw [if_pos h], by omega⟩
      · exact .inr ⟨by rw [if_neg h], by omega⟩
    rcases hb with ⟨hk, hlt⟩ | ⟨hk, hlt⟩
    all_goals
      rw [hk]
      generalize Ty.S (Tx.enc 0 L) = s0 at c0' hlt ⊢
      generalize Ty.S (Tx.enc 1 L) = s1 at c1' hlt ⊢
      clear hk
      go_enter Tryz.func82, Tryz.ntmps82
      go_wp2_with fail
      refine c0'.mono ?_
      rintro e w1 ⟨rfl, g1⟩
      have c2 := c1' w1 g1
      clear c0' c1' g1
      go_wp2_with fail
      refine c2.mono ?_
      rintro e w2 ⟨rfl, g2⟩
      clear c2
      go_wp2
      go_ret2
      exact ⟨rfl, g2⟩
end Go.Proofs.YtfbjmehkipcmbaaGreatDoor

namespace Go.Proofs.YtfbjmehkipcmbaaGreatDoor
open Go.RowKit
open Ty (num encU U64)
open Ig (rest read_encU splitU)
def Cl.is (c : Kn.C) (v : Kn.V) : Bool := Kn.isK c.k v && (!v.null || c.null)
def Cl.live (l : List Kn.V) : List Kn.V := l.filter fun v => !v.null
def Cl.nums (l : List Kn.V) : List Int := (Cl.live l).map fun v => v.n
def Cl.words (l : List Kn.V) : List Tx.Str := (Cl.live l).map fun v => v.s.data.toList
def Cl.vals (c : Kn.C) (l : List Kn.V) : List UInt8 := if c.k = 1 then Ig.enc (Ig.bk (Cl.nums l) 3) (Cl.nums l) else Tx.enc (Tx.bestK (Cl.words l)) (Cl.words l)
def Cl.nulls (l : List Kn.V) (i : Nat) : Bool := (l.getD i Cl.nul).null
def Cl.enc (c : Kn.C) (l : List Kn.V) : List UInt8 := encU l.length ++ ((Bt.bytes (Bt.need l.length) (Bt.tr l.length (Cl.nulls l))).data.toList ++ Cl.vals c l)
def Cl.wE (c : Kn.C) (l : List Kn.V) : Nat := if c.good = true then (if 65536 < l.length then 3 else if l.all (Cl.is c) = true then 0 else 6) else 4
def Cl.fill : List Bool → List Kn.V → Option (List Kn.V)
  | [], [] => some []
  | [], _ :: _ => none
  | true :: T, M => (Cl.fill T M).map (Cl.nul :: ·)
  | false :: _, [] => none
  | false :: T, x :: M => (Cl.fill T M).map (x :: ·)
def Cl.back (c : Kn.C) (r : List UInt8) : Nat × List Kn.V := if c.k = 1 then ((Ig.rd r).1, (Ig.rd r).2.map Cl.ofN) else ((Tx.rd r).1, (Tx.rd r).2.map Cl.ofS)
def Cl.bits (n : Nat) (s : ByteArray) : List Bool := (List.range n).map (Bt.bit s)
def Cl.rdV (c : Kn.C) (T : List Bool) (r : List UInt8) : Nat × List Kn.V :=
  if (Cl.back c r).1 ≠ 0 then ((Cl.back c r).1, [])
  else match Cl.fill T (Cl.back c r).2 with
    | none => (4, [])
    | some out => if Cl.vals c out = r then (0, out) else (4, [])
def Cl.rd (c : Kn.C) (l : List UInt8) : Nat × List Kn.V :=
  if c.good = false then (4, [])
  else if (num l).2.2 ≠ 0 then ((num l).2.2, [])
  else if 65536 < (num l).1 then (3, [])
  else if (rest l).length < Bt.need (num l).1 then (2, [])
  else if Bt.chk (Ty.S ((rest l).take (Bt.need (num l).1))) (num l).1 ≠ 0 then (Bt.chk (Ty.S ((rest l).take (Bt.need (num l).1))) (num l).1, [])
  else if (!c.null && (Cl.bits (num l).1 (Ty.S ((rest l).take (Bt.need (num l).1)))).any id) = true then (6, [])
  else Cl.rdV c (Cl.bits (num l).1 (Ty.S ((rest l).take (Bt.need (num l).1)))) ((rest l).drop (Bt.need (num l).1))
theorem Cl.toList_nil {s : ByteArray} (h : (s.toList == (⟨#[]⟩ : ByteArray).toList) = true) : s = ⟨#[]⟩ := by
  rw [beq_iff_eq, ByteArray.toList_eq, ByteArray.toList_eq] at h
  have h2 : s.data.toList = [] := h
  apply ByteArray.ext
  exact Array.toList_inj.1 (by rw [h2])
theorem Cl.is_null {c : Kn.C} {v : Kn.V} (h : Cl.is c v = true) (hv : v.null = true) : v = Cl.nul ∧ c.null = true := by
  unfold Cl.is Kn.isK at h
  rw [hv] at h
  simp only [if_true, Bool.and_eq_true, Bool.not_true, Bool.false_or] at h
  obtain ⟨⟨h1, h2⟩, h3⟩ := h
  obtain ⟨vn, vi, vs⟩ := v
  simp only at hv h1 h2
  rw [hv, Cl.toList_nil h2, show vi = 0 by simpa using h1]
  exact ⟨rfl, h3⟩
theorem Cl.is_num {c : Kn.C} {v : Kn.V} (hk : c.k = 1) (h : Cl.is c v = true) (hv : v.null = false) : v = Cl.ofN v.n := by
  unfold Cl.is Kn.isK at h
  rw [hv, if_neg (by decide), if_pos hk] at h
  simp only [Bool.and_eq_true] at h
  obtain ⟨vn, vi, vs⟩ := v
  simp only at hv h
  rw [hv, Cl.toList_nil h.1]
  rfl
theorem Cl.is_str {c : Kn.C} {v : Kn.V} (hk : c.k ≠ 1) (h : Cl.is c v = true) (hv : v.null = false) : v = Cl.ofS v.s.data.toList ∧ v.s.data.toList.length ≤ 64 := by
  unfold Cl.is Kn.isK at h
  rw [hv, if_neg (by decide), if_neg hk] at h
  simp only [Bool.and_eq_true, decide_eq_true_iff] at h
  obtain ⟨vn, vi, vs⟩ := v
  simp only at hv h ⊢
  rw [hv, show vi = 0 by simpa using h.1.2.1]
  exact ⟨rfl, by rw [Ty.length_data]; exact h.1.2.2⟩
theorem Cl.is_nul {c : Kn.C} (h : c.null = true) : Cl.is c Cl.nul = true := by
  unfold Cl.is Kn.isK Cl.nul
  simp [h]
theorem Cl.is_ofN {c : Kn.C} (hk : c.k = 1) (x : Int) : Cl.is c (Cl.ofN x) = true := by
  unfold Cl.is Kn.isK Cl.ofN
  simp [hk]
theorem Cl.is_ofS {c : Kn.C} (hk : c.k = 2) {t : Tx.Str} (h : t.length ≤ 64) : Cl.is c (Cl.ofS t) = true := by
  unfold Cl.is Kn.isK Cl.ofS
  have : (Ty.S t).size ≤ 64 := h
  simp [hk, this]
theorem Cl.good_iff (c : Kn.C) : c.good = true ↔ c.k = 1 ∨ c.k = 2 := by
  unfold Kn.C.good
  by_cases h1 : c.k = 1
  · simp [h1]
  · by_cases h2 : c.k = 2
    · simp [h2]
    · have e1 : (c.k != 1) = true := by rw [bne_iff_ne]; exact h1
      have e2 : (c.k != 2) = true := by rw [bne_iff_ne]; exact h2
      simp [e1, e2, h1, h2]
theorem Cl.fill_live (c : Kn.C) : ∀ l : List Kn.V, l.all (Cl.is c) = true → Cl.fill (l.map fun v => v.null) (Cl.live l) = some l
  | [], _ => rfl
  | v :: l, h => by
    rw [List.all_cons, Bool.and_eq_true] at h
    have ih := Cl.fill_live c l h.2
    cases hv : v.null
    · have e : Cl.live (v :: l) = v :: Cl.live l := by unfold Cl.live; rw [List.filter_cons, hv]; rfl
      rw [List.map_cons, hv, e]
      simp only [Cl.fill, ih, Option.map_some]
    · have e : Cl.live (v :: l) = Cl.live l := by unfold Cl.live; rw [List.filter_cons, hv]; rfl
      rw [List.map_cons, hv, e]
      simp only [Cl.fill, ih, Option.map_some]
      rw [(Cl.is_null h.1 hv).1]
theorem Cl.fill_only : ∀ (T : List Bool) (M out : List Kn.V), (∀ v ∈ M, v.null = false) → Cl.fill T M = some out → out.map (fun v => v.null) = T ∧ Cl.live out = M
  | [], [], out, _, h => by
    simp only [Cl.fill, Option.some.injEq] at h
    rw [← h]
    exact ⟨rfl, rfl⟩
  | [], _ :: _, out, _, h => by simp [Cl.fill] at h
  | true :: T, M, out, hM, h => by
    simp only [Cl.fill, Option.map_eq_some_iff] at h
    obtain ⟨o, h1, rfl⟩ := h
    obtain ⟨h2, h3⟩ := Cl.fill_only T M o hM h1
    refine ⟨by rw [List.map_cons, h2]; rfl, ?_⟩
    rw [← h3]
    rfl
  | false :: T, [], out, _, h => by simp [Cl.fill] at h
  | false :: T, x :: M, out, hM, h => by
    simp only [Cl.fill, Option.map_eq_some_iff] at h
    obtain ⟨o, h1, rfl⟩ := h
    obtain ⟨h2, h3⟩ := Cl.fill_only T M o (fun v hv => hM v (by simp [hv])) h1
    have hx := hM x (by simp)
    refine ⟨by rw [List.map_cons, h2, hx], ?_⟩
    unfold Cl.live at h3 ⊢
    rw [List.filter_cons, hx, h3]
    rfl
theorem Cl.fill_nul : ∀ (T : List Bool) (M out : List Kn.V), (∀ v ∈ M, v.null = false) → Cl.fill T M = some out → ∀ v ∈ out, v.null = true → v = Cl.nul
  | [], [], out, _, h, v, hv, _ => by
    simp only [Cl.fill, Option.some.injEq] at h
    rw [← h] at hv
    cases hv
  | [], _ :: _, out, _, h, _, _, _ => by simp [Cl.fill] at h
  | true :: T, M, out, hM, h, v, hv, hn => by
    simp only [Cl.fill, Option.map_eq_some_iff] at h
    obtain ⟨o, h1, rfl⟩ := h
    rcases List.mem_cons.1 hv with rfl | hv
    · rfl
    · exact Cl.fill_nul T M o hM h1 v hv hn
  | false :: T, [], out, _, h, _, _, _ => by simp [Cl.fill] at h
  | false :: T, x :: M, out, hM, h, v, hv, hn => by
    simp only [Cl.fill, Option.map_eq_some_iff] at h
    obtain ⟨o, h1, rfl⟩ := h
    rcases List.mem_cons.1 hv with rfl | hv
    · rw [hM v (by simp)] at hn; cases hn
    · exact Cl.fill_nul T M o (fun v hv => hM v (by simp [hv])) h1 v hv hn
theorem Cl.live_all {l : List Kn.V} : ∀ v ∈ Cl.live l, v.null = false := fun v hv => by
  have := (List.mem_filter.1 hv).2
  simpa using this
theorem Cl.live_is {c : Kn.C} {l : List Kn.V} (h : l.all (Cl.is c) = true) : ∀ v ∈ Cl.live l, Cl.is c v = true := fun v hv => List.all_eq_true.1 h v (List.mem_filter.1 hv).1
theorem Cl.live_len (l : List Kn.V) : (Cl.live l).length ≤ l.length := List.length_filter_le _ _
theorem Cl.nums_len (l : List Kn.V) : (Cl.nums l).length ≤ l.length := by unfold Cl.nums; rw [List.length_map]; exact Cl.live_len l
theorem Cl.words_len (l : List Kn.V) : (Cl.words l).length ≤ l.length := by unfold Cl.words; rw [List.length_map]; exact Cl.live_len l
theorem Cl.words_fit {c : Kn.C} (hk : c.k ≠ 1) {l : List Kn.V} (h : l.all (Cl.is c) = true) (hl : l.length ≤ 65536) : Tx.fit (Cl.words l) = true := by
  unfold Tx.fit
  simp only [Bool.and_eq_true, decide_eq_true_iff, List.all_eq_true]
  refine ⟨Nat.le_trans (Cl.words_len l) hl, fun t ht => ?_⟩
  obtain ⟨v, hv, rfl⟩ := List.mem_map.1 ht
  exact (Cl.is_str hk (Cl.live_is h v hv) (Cl.live_all v hv)).2
theorem Cl.back_vals {c : Kn.C} {l : List Kn.V} (h : l.all (Cl.is c) = true) (hl : l.length ≤ 65536) (hi : ∀ v ∈ l, Ty.I64 v.n) : Cl.back c (Cl.vals c l) = (0, Cl.live l) := by
  unfold Cl.back Cl.vals
  by_cases hk : c.k = 1
  · rw [if_pos hk, if_pos hk, Ig.rd_enc _ (Ig.bk_le _ 3) _ (fun x hx => by
      obtain ⟨v, hv, rfl⟩ := List.mem_map.1 hx
      exact hi v (List.mem_filter.1 hv).1) (Nat.le_trans (Cl.nums_len l) hl)]
    congr 1
    unfold Cl.nums
    rw [List.map_map]
    conv => rhs; rw [← List.map_id (Cl.live l)]
    exact List.map_congr_left fun v hv => (Cl.is_num hk (Cl.live_is h v hv) (Cl.live_all v hv)).symm
  · have hf := Cl.words_fit hk h hl
    obtain ⟨hwl, h64⟩ := Tx.fit_yes hf
    have hb : Tx.bestK (Cl.words l) ≤ 1 := by unfold Tx.bestK; split <;> omega
    rw [if_neg hk, if_neg hk, Tx.rd_enc _ hb _ h64 hwl]
    congr 1
    unfold Cl.words
    rw [List.map_map]
    conv => rhs; rw [← List.map_id (Cl.live l)]
    exact List.map_congr_left fun v hv => (Cl.is_str hk (Cl.live_is h v hv) (Cl.live_all v hv)).1.symm
theorem Cl.bits_nulls (l : List Kn.V) : Cl.bits l.length (Bt.bytes (Bt.need l.length) (Bt.tr l.length (Cl.nulls l))) = l.map fun v => v.null := by
  unfold Cl.bits
  refine List.ext_getElem (by simp) fun i h1 h2 => ?_
  have hi : i < l.length := by simpa using h2
  rw [List.getElem_map, List.getElem_range, Bt.bit_truths _ hi, List.getElem_map]
  unfold Cl.nulls
  rw [List.getD, List.getElem?_eq_getElem hi]
  rfl
theorem Cl.rd_enc {c : Kn.C} {l : List Kn.V} (h : Cl.wE c l = 0) (hi : ∀ v ∈ l, Ty.I64 v.n) : Cl.rd c (Cl.enc c l) = (0, l) := by
  unfold Cl.wE at h
  by_cases hg : c.good = true
  · rw [if_pos hg] at h
    by_cases hl : 65536 < l.length
    · rw [if_pos hl] at h; cases h
    · rw [if_neg hl] at h
      by_cases ha : l.all (Cl.is c) = true
      · obtain ⟨a1, a2, a3⟩ := read_encU l.length (show U64 l.length by unfold U64; omega) ((Bt.bytes (Bt.need l.length) (Bt.tr l.length (Cl.nulls l))).data.toList ++ Cl.vals c l)
        have hbl : (Bt.bytes (Bt.need l.length) (Bt.tr l.length (Cl.nulls l))).data.toList.length = Bt.need l.length := by rw [Bt.length_data, Bt.size_bytes]
        have ht : ((Bt.bytes (Bt.need l.length) (Bt.tr l.length (Cl.nulls l))).data.toList ++ Cl.vals c l).take (Bt.need l.length) = (Bt.bytes (Bt.need l.length) (Bt.tr l.length (Cl.nulls l))).data.toList := List.take_left' hbl
        have hd : ((Bt.bytes (Bt.need l.length) (Bt.tr l.length (Cl.nulls l))).data.toList ++ Cl.vals c l).drop (Bt.need l.length) = Cl.vals c l := List.drop_left' hbl
        unfold Cl.rd Cl.enc
        rw [if_neg (by rw [hg]; decide), if_neg (by rw [a1]; simp), a2, if_neg hl, a3, if_neg (by rw [List.length_append, hbl]; omega), ht, hd]
        have hs : Ty.S (Bt.bytes (Bt.need l.length) (Bt.tr l.length (Cl.nulls l))).data.toList = Bt.bytes (Bt.need l.length) (Bt.tr l.length (Cl.nulls l)) := Ty.S_data _
        rw [hs, Bt.chk_truths, if_neg (by simp), Cl.bits_nulls]
        have hn : ¬ (!c.null && (l.map fun v => v.null).any id) = true := by
          intro hx
          rw [Bool.and_eq_true, List.any_eq_true] at hx
          obtain ⟨h1, x, hx, h2⟩ := hx
          obtain ⟨v, hv, rfl⟩ := List.mem_map.1 hx
          have := (Cl.is_null (List.all_eq_true.1 ha v hv) (by simpa using h2)).2
          rw [this] at h1
          cases h1
        rw [if_neg hn]
        unfold Cl.rdV
        rw [Cl.back_vals ha (by omega) hi]
        simp only [ne_eq, not_true_eq_false, if_false]
        rw [Cl.fill_live c l ha]
        simp
      · rw [if_neg ha] at h; cases h
  · rw [if_neg hg] at h; cases h
theorem Cl.back_is {c : Kn.C} (hg : c.good = true) {r : List UInt8} (h : (Cl.back c r).1 = 0) : ∀ v ∈ (Cl.back c r).2, v.null = false ∧ Cl.is c v = true ∧ Ty.I64 v.n := by
  unfold Cl.back at h ⊢
  by_cases hk : c.k = 1
  · rw [if_pos hk] at h ⊢
    obtain ⟨b, q, _, _, _, _, hi⟩ := Ig.enc_rd r h
    intro v hv
    obtain ⟨x, hx, rfl⟩ := List.mem_map.1 hv
    exact ⟨rfl, Cl.is_ofN hk x, hi x hx⟩
  · rw [if_neg hk] at h ⊢
    have hk2 : c.k = 2 := by
      rcases (Cl.good_iff c).1 hg with e | e
      · exact absurd e hk
      · exact e
    obtain ⟨b, q, _, _, _, _, h64⟩ := Tx.enc_rd r h
    intro v hv
    obtain ⟨x, hx, rfl⟩ := List.mem_map.1 hv
    exact ⟨rfl, Cl.is_ofS hk2 (h64 x hx), ⟨by show _ ≤ (0 : Int); omega, by show (0 : Int) ≤ _; omega⟩⟩
theorem Cl.bytes_bits {s : ByteArray} {n : Nat} (h : Bt.chk s n = 0) : Bt.bytes (Bt.need n) (Bt.tr n (Bt.bit s)) = s := by
  obtain ⟨hs, hd⟩ := Bt.chk_ok h
  refine Bt.bytes_of hs fun x hx => ?_
  unfold Bt.tr
  by_cases h1 : x < n
  · simp [h1]
  · rw [Bt.clean hd hx (by omega)]
    simp [h1]
theorem Cl.tr_congr {n : Nat} {F G : Nat → Bool} (h : ∀ i, i < n → F i = G i) : Bt.tr n F = Bt.tr n G := by
  funext x
  unfold Bt.tr
  by_cases h1 : x < n
  · rw [h x h1]
  · simp [h1]
theorem Cl.enc_rd {c : Kn.C} {l : List UInt8} (h : (Cl.rd c l).1 = 0) : Cl.wE c (Cl.rd c l).2 = 0 ∧ Cl.enc c (Cl.rd c l).2 = l ∧ (Cl.rd c l).2.length ≤ 65536 ∧ ∀ v ∈ (Cl.rd c l).2, Ty.I64 v.n := by
  unfold Cl.rd at h ⊢
  by_cases hg : c.good = true
  · rw [if_neg (by rw [hg]; decide)] at h ⊢
    by_cases h1 : (num l).2.2 ≠ 0
    · rw [if_pos h1] at h; exact absurd h h1
    · rw [if_neg h1] at h ⊢
      by_cases h2 : 65536 < (num l).1
      · rw [if_pos h2] at h; cases h
      · rw [if_neg h2] at h ⊢
        by_cases h3 : (rest l).length < Bt.need (num l).1
        · rw [if_pos h3] at h; cases h
        · rw [if_neg h3] at h ⊢
          by_cases h4 : Bt.chk (Ty.S ((rest l).take (Bt.need (num l).1))) (num l).1 ≠ 0
          · rw [if_pos h4] at h; exact absurd h h4
          · rw [if_neg h4] at h ⊢
            by_cases h5 : (!c.null && (Cl.bits (num l).1 (Ty.S ((rest l).take (Bt.need (num l).1)))).any id) = true
            · rw [if_pos h5] at h; cases h
            · rw [if_neg h5] at h ⊢
              unfold Cl.rdV at h ⊢
              by_cases h6 : (Cl.back c ((rest l).drop (Bt.need (num l).1))).1 ≠ 0
              · rw [if_pos h6] at h; exact absurd h h6
              · rw [if_neg h6] at h ⊢
                have hb := Cl.back_is hg (by simpa using h6)
                cases hf : Cl.fill (Cl.bits (num l).1 (Ty.S ((rest l).take (Bt.need (num l).1)))) (Cl.back c ((rest l).drop (Bt.need (num l).1))).2 with
                | none => rw [hf] at h; cases h
                | some out =>
                  rw [hf] at h
                  simp only at h ⊢
                  by_cases h7 : Cl.vals c out = (rest l).drop (Bt.need (num l).1)
                  · rw [if_pos h7]
                    obtain ⟨f1, f2⟩ := Cl.fill_only _ _ _ (fun v hv => (hb v hv).1) hf
                    have hlen : out.length = (num l).1 := by
                      have := congrArg List.length f1
                      simpa [Cl.bits] using this
                    have hall : ∀ v ∈ out, Cl.is c v = true ∧ Ty.I64 v.n := fun v hv => by
                      cases hn : v.null
                      · have hm : v ∈ Cl.live out := List.mem_filter.2 ⟨hv, by rw [hn]; rfl⟩
                        rw [f2] at hm
                        exact (hb v hm).2
                      · have hv0 := Cl.fill_nul _ _ _ (fun v hv => (hb v hv).1) hf v hv hn
                        have hm : true ∈ Cl.bits (num l).1 (Ty.S ((rest l).take (Bt.need (num l).1))) := by
                          rw [← f1]
                          exact List.mem_map.2 ⟨v, hv, hn⟩
                        have hcn : c.null = true := by
                          cases hcn : c.null with
                          | true => rfl
                          | false =>
                            refine absurd ?_ h5
                            rw [hcn, Bool.and_eq_true, List.any_eq_true]
                            exact ⟨rfl, true, hm, rfl⟩
                        rw [hv0]
                        exact ⟨Cl.is_nul hcn, ⟨by show _ ≤ (0 : Int); omega, by show (0 : Int) ≤ _; omega⟩⟩
                    have hs := splitU (l := l) (by simpa using h1)
                    refine ⟨?_, ?_, (by show out.length ≤ 65536; omega), fun v hv => (hall v hv).2⟩
                    · unfold Cl.wE
                      rw [if_pos hg, if_neg (by show ¬ 65536 < out.length; omega), if_pos (List.all_eq_true.2 fun v hv => (hall v hv).1)]
                    · unfold Cl.enc
                      have e1 : Bt.tr out.length (Cl.nulls out) = Bt.tr (num l).1 (Bt.bit (Ty.S ((rest l).take (Bt.need (num l).1)))) := by
                        rw [hlen]
                        refine Cl.tr_congr fun i hi => ?_
                        have := congrArg (fun L => L[i]?) f1
                        simp only [Cl.bits, List.getElem?_map, List.getElem?_range hi, Option.map_some] at this
                        unfold Cl.nulls
                        rw [List.getD, List.getElem?_eq_getElem (by omega)] at *
                        simpa using this
                      rw [e1, hlen, Cl.bytes_bits (by simpa using h4), Ty.data_S, h7, List.take_append_drop]
                      exact hs.symm
                  · rw [if_neg h7] at h; cases h
  · have hg2 : c.good = false := by simpa using hg
    rw [if_pos hg2] at h; cases h
end Go.Proofs.YtfbjmehkipcmbaaGreatDoor

namespace Go.Proofs.YtfbjmehkipcmbaaGreatDoor
open Go.RowKit
open Ty (num txt encU U64 I64)
open Ig (rest sg encI read_encI splitI)
open Tx (encT restT read_encT splitT)
structure Dd.D where
  gone : Bool
  row : List Kn.V
def Dd.flag (b : Bool) : UInt8 := if b = true then 1 else 0
def Dd.encP (c : Kn.C) (v : Kn.V) : List UInt8 := if c.k = 1 then encI v.n else encT v.s.data.toList
def Dd.encV (c : Kn.C) (v : Kn.V) : List UInt8 := (if c.null = true then [Dd.flag v.null] else []) ++ (if v.null = true then [] else Dd.encP c v)
def Dd.encR : List Kn.C → List Kn.V → List UInt8
  | c :: cs, v :: vs => Dd.encV c v ++ Dd.encR cs vs
  | _, _ => []
def Dd.enc (s : List Kn.C) (d : Dd.D) : List UInt8 := Dd.flag d.gone :: Dd.encR s d.row
def Dd.cols (s : List Kn.C) (g : Bool) : List Kn.C := if g = true then s.take 1 else s
def Dd.fitE (s : List Kn.C) (d : Dd.D) : Int :=
  if d.gone = true then (if Kn.right s = true then (match d.row with | [k] => Kn.keyE s k | _ => 7) else 4) else Kn.fitsE s d.row
def Dd.rdF : List UInt8 → Nat × Bool × List UInt8
  | [] => (2, false, [])
  | b :: r => if 1 < b.toNat then (4, false, r) else (0, b == 1, r)
def Dd.rdP (c : Kn.C) (l : List UInt8) : Nat × Kn.V × List UInt8 :=
  if c.k = 1 then ((num l).2.2, Cl.ofN (sg l), rest l) else ((txt l 64).2.2, Cl.ofS (txt l 64).1, restT l)
def Dd.rdV (c : Kn.C) (l : List UInt8) : Nat × Kn.V × List UInt8 :=
  if c.null = true then (if (Dd.rdF l).1 ≠ 0 then ((Dd.rdF l).1, Cl.ofN 0, (Dd.rdF l).2.2) else if (Dd.rdF l).2.1 = true then (0, Cl.nul, (Dd.rdF l).2.2) else Dd.rdP c (Dd.rdF l).2.2) else Dd.rdP c l
def Dd.rdR : List Kn.C → List UInt8 → Nat × List Kn.V × List UInt8
  | [], l => (0, [], l)
  | c :: cs, l => if (Dd.rdV c l).1 ≠ 0 then ((Dd.rdV c l).1, [], []) else ((Dd.rdR cs (Dd.rdV c l).2.2).1, (Dd.rdV c l).2.1 :: (Dd.rdR cs (Dd.rdV c l).2.2).2.1, (Dd.rdR cs (Dd.rdV c l).2.2).2.2)
def Dd.rd (s : List Kn.C) (l : List UInt8) : Nat × Dd.D :=
  if Kn.right s = false then (4, ⟨false, []⟩)
  else if (Dd.rdF l).1 ≠ 0 then ((Dd.rdF l).1, ⟨false, []⟩)
  else if (Dd.rdR (Dd.cols s (Dd.rdF l).2.1) (Dd.rdF l).2.2).1 ≠ 0 then ((Dd.rdR (Dd.cols s (Dd.rdF l).2.1) (Dd.rdF l).2.2).1, ⟨false, []⟩)
  else if (Dd.rdR (Dd.cols s (Dd.rdF l).2.1) (Dd.rdF l).2.2).2.2 ≠ [] then (5, ⟨false, []⟩)
  else (0, ⟨(Dd.rdF l).2.1, (Dd.rdR (Dd.cols s (Dd.rdF l).2.1) (Dd.rdF l).2.2).2.1⟩)
theorem Dd.toList_nil {s : ByteArray} (h : (s.toList == (⟨#[]⟩ : ByteArray).toList) = true) : s = ⟨#[]⟩ := by
  rw [beq_iff_eq, ByteArray.toList_eq, ByteArray.toList_eq] at h
  have h2 : s.data.toList = [] := h
  apply ByteArray.ext
  exact Array.toList_inj.1 (by rw [h2])
theorem Dd.good_iff (c : Kn.C) : c.good = true ↔ c.k = 1 ∨ c.k = 2 := by
  unfold Kn.C.good
  by_cases h1 : c.k = 1
  · simp [h1]
  · by_cases h2 : c.k = 2
    · simp [h2]
    · have e1 : (c.k != 1) = true := by rw [bne_iff_ne]; exact h1
      have e2 : (c.k != 2) = true := by rw [bne_iff_ne]; exact h2
      simp [e1, e2, h1, h2]
theorem Dd.rdF_flag (b : Bool) (r : List UInt8) : Dd.rdF (Dd.flag b :: r) = (0, b, r) := by
  cases b <;> simp [Dd.rdF, Dd.flag]
theorem Dd.rdF_only {l : List UInt8} (h : (Dd.rdF l).1 = 0) : l = Dd.flag (Dd.rdF l).2.1 :: (Dd.rdF l).2.2 := by
  cases l with
  | nil => cases h
  | cons b r =>
    simp only [Dd.rdF] at h ⊢
    by_cases h1 : 1 < b.toNat
    · rw [if_pos h1] at h; cases h
    · rw [if_neg h1]
      simp only [Dd.flag]
      congr 1
      by_cases e : b = 1
      · rw [e]; rfl
      · have e0 : b = 0 := by
          apply UInt8.toNat_inj.1
          have : b.toNat ≠ 1 := fun h => e (UInt8.toNat_inj.1 h)
          show b.toNat = 0
          omega
        rw [e0]; rfl
theorem Dd.fits_null {c : Kn.C} {v : Kn.V} (h : Kn.fits c v = true) (hv : v.null = true) : v = Cl.nul ∧ c.null = true := by
  unfold Kn.fits at h
  rw [if_pos hv] at h
  simp only [Bool.and_eq_true] at h
  obtain ⟨vn, vi, vs⟩ := v
  simp only at hv h
  rw [hv, Dd.toList_nil h.2, show vi = 0 by simpa using h.1.2]
  exact ⟨rfl, h.1.1⟩
theorem Dd.fits_num {c : Kn.C} {v : Kn.V} (hk : c.k = 1) (h : Kn.fits c v = true) (hv : v.null = false) : v = Cl.ofN v.n := by
  unfold Kn.fits at h
  rw [hv, if_neg (by decide), if_pos hk] at h
  obtain ⟨vn, vi, vs⟩ := v
  simp only at hv h
  rw [hv, Dd.toList_nil h]
  rfl
theorem Dd.fits_str {c : Kn.C} {v : Kn.V} (hk : c.k ≠ 1) (h : Kn.fits c v = true) (hv : v.null = false) : v = Cl.ofS v.s.data.toList ∧ v.s.data.toList.length ≤ 64 := by
  unfold Kn.fits at h
  rw [hv, if_neg (by decide), if_neg hk] at h
  simp only [Bool.and_eq_true, decide_eq_true_iff] at h
  obtain ⟨vn, vi, vs⟩ := v
  simp only at hv h ⊢
  rw [hv, show vi = 0 by simpa using h.1]
  exact ⟨rfl, by rw [Ty.length_data]; exact h.2⟩
theorem Dd.fits_nul {c : Kn.C} (h : c.null = true) : Kn.fits c Cl.nul = true := by simp [Kn.fits, Cl.nul, h]
theorem Dd.fits_ofN {c : Kn.C} (hk : c.k = 1) (x : Int) : Kn.fits c (Cl.ofN x) = true := by simp [Kn.fits, Cl.ofN, hk]
theorem Dd.fits_ofS {c : Kn.C} (hk : c.k ≠ 1) {t : List UInt8} (h : t.length ≤ 64) : Kn.fits c (Cl.ofS t) = true := by
  have : (Ty.S t).size ≤ 64 := h
  simp [Kn.fits, Cl.ofS, hk, this]
theorem Dd.rdP_back {c : Kn.C} {v : Kn.V} (h : Kn.fits c v = true) (hv : v.null = false) (hi : I64 v.n) (r : List UInt8) : Dd.rdP c (Dd.encP c v ++ r) = (0, v, r) := by
  unfold Dd.rdP Dd.encP
  by_cases hk : c.k = 1
  · obtain ⟨h1, h2, h3⟩ := read_encI v.n hi r
    rw [if_pos hk, if_pos hk, h1, h2, h3, ← Dd.fits_num hk h hv]
  · obtain ⟨e, hl⟩ := Dd.fits_str hk h hv
    obtain ⟨h1, h2, h3⟩ := read_encT v.s.data.toList hl r
    rw [if_neg hk, if_neg hk, h1, h2, h3, ← e]
theorem Dd.rdV_back {c : Kn.C} {v : Kn.V} (h : Kn.fits c v = true) (hi : I64 v.n) (r : List UInt8) : Dd.rdV c (Dd.encV c v ++ r) = (0, v, r) := by
  unfold Dd.rdV Dd.encV
  cases hn : v.null
  · simp only [Bool.false_eq_true, if_false]
    by_cases hc : c.null = true
    · rw [if_pos hc, if_pos hc, List.append_assoc, List.singleton_append, Dd.rdF_flag]
      simp only [ne_eq, not_true_eq_false, if_false, Bool.false_eq_true]
      exact Dd.rdP_back h hn hi r
    · rw [if_neg hc, if_neg hc, List.nil_append]
      exact Dd.rdP_back h hn hi r
  · obtain ⟨e, hc⟩ := Dd.fits_null h hn
    simp only [if_true]
    rw [if_pos hc, if_pos hc, List.append_nil, List.singleton_append, Dd.rdF_flag]
    simp only [ne_eq, not_true_eq_false, if_false, if_true]
    rw [e]
theorem Dd.rdP_only {c : Kn.C} {l : List UInt8} (h : (Dd.rdP c l).1 = 0) : l = Dd.encP c (Dd.rdP c l).2.1 ++ (Dd.rdP c l).2.2 ∧ Kn.fits c (Dd.rdP c l).2.1 = true ∧ (Dd.rdP c l).2.1.null = false ∧ I64 (Dd.rdP c l).2.1.n := by
  by_cases hk : c.k = 1
  · have e : Dd.rdP c l = ((num l).2.2, Cl.ofN (sg l), rest l) := by unfold Dd.rdP; rw [if_pos hk]
    rw [e] at h ⊢
    refine ⟨?_, Dd.fits_ofN hk _, rfl, Ig.sg_i64 l⟩
    unfold Dd.encP
    rw [if_pos hk]
    exact splitI h
  · have e : Dd.rdP c l = ((txt l 64).2.2, Cl.ofS (txt l 64).1, restT l) := by unfold Dd.rdP; rw [if_neg hk]
    rw [e] at h ⊢
    obtain ⟨h1, h2⟩ := splitT h
    refine ⟨?_, Dd.fits_ofS hk h2, rfl, ⟨by show _ ≤ (0 : Int); omega, by show (0 : Int) ≤ _; omega⟩⟩
    unfold Dd.encP
    rw [if_neg hk]
    show l = encT (Ty.S (txt l 64).1).data.toList ++ restT l
    rw [Ty.data_S]
    exact h1
theorem Dd.rdV_only {c : Kn.C} {l : List UInt8} (h : (Dd.rdV c l).1 = 0) : l = Dd.encV c (Dd.rdV c l).2.1 ++ (Dd.rdV c l).2.2 ∧ Kn.fits c (Dd.rdV c l).2.1 = true ∧ I64 (Dd.rdV c l).2.1.n := by
  unfold Dd.rdV at h ⊢
  by_cases hc : c.null = true
  · rw [if_pos hc] at h ⊢
    by_cases h1 : (Dd.rdF l).1 ≠ 0
    · rw [if_pos h1] at h; exact absurd h h1
    · rw [if_neg h1] at h ⊢
      have hl := Dd.rdF_only (by simpa using h1)
      cases hb : (Dd.rdF l).2.1
      · rw [hb] at h hl
        rw [if_neg (by decide)] at h ⊢
        obtain ⟨e1, e2, e3, e4⟩ := Dd.rdP_only h
        refine ⟨?_, e2, e4⟩
        unfold Dd.encV
        rw [if_pos hc, e3, if_neg (by decide), List.append_assoc, List.singleton_append, ← e1]
        exact hl
      · rw [hb] at hl
        rw [if_pos rfl]
        refine ⟨?_, Dd.fits_nul hc, ⟨by show _ ≤ (0 : Int); omega, by show (0 : Int) ≤ _; omega⟩⟩
        show l = Dd.encV c Cl.nul ++ (Dd.rdF l).2.2
        unfold Dd.encV
        rw [if_pos hc, show Cl.nul.null = true from rfl, if_pos rfl, List.append_nil, List.singleton_append]
        exact hl
  · rw [if_neg hc] at h ⊢
    obtain ⟨e1, e2, e3, e4⟩ := Dd.rdP_only h
    refine ⟨?_, e2, e4⟩
    unfold Dd.encV
    rw [if_neg hc, e3, if_neg (by decide), List.nil_append]
    exact e1
theorem Dd.rdR_back : ∀ (s : List Kn.C) (vs : List Kn.V), vs.length = s.length → Kn.fitsAll s vs = true → (∀ v ∈ vs, I64 v.n) → ∀ r, Dd.rdR s (Dd.encR s vs ++ r) = (0, vs, r)
  | [], [], _, _, _, r => rfl
  | [], _ :: _, h, _, _, _ => by simp at h
  | _ :: _, [], h, _, _, _ => by simp at h
  | c :: cs, v :: vs, hl, hf, hi, r => by
    simp only [Kn.fitsAll, Bool.and_eq_true] at hf
    have e := Dd.rdV_back hf.1 (hi v (by simp)) (Dd.encR cs vs ++ r)
    have ih := Dd.rdR_back cs vs (by simpa using hl) hf.2 (fun x hx => hi x (by simp [hx])) r
    simp only [Dd.encR, List.append_assoc, Dd.rdR, e, ih, ne_eq, not_true_eq_false, if_false]
theorem Dd.rdR_only : ∀ (s : List Kn.C) (l : List UInt8), (Dd.rdR s l).1 = 0 → l = Dd.encR s (Dd.rdR s l).2.1 ++ (Dd.rdR s l).2.2 ∧ (Dd.rdR s l).2.1.length = s.length ∧ Kn.fitsAll s (Dd.rdR s l).2.1 = true ∧ ∀ v ∈ (Dd.rdR s l).2.1, I64 v.n
  | [], l, _ => ⟨rfl, rfl, rfl, fun v hv => by cases hv⟩
  | c :: cs, l, h => by
    simp only [Dd.rdR] at h ⊢
    by_cases h1 : (Dd.rdV c l).1 ≠ 0
    · rw [if_pos h1] at h; exact absurd h h1
    · rw [if_neg h1] at h ⊢
      obtain ⟨a1, a2, a3⟩ := Dd.rdV_only (c := c) (l := l) (by simpa using h1)
      obtain ⟨b1, b2, b3, b4⟩ := Dd.rdR_only cs (Dd.rdV c l).2.2 h
      refine ⟨?_, by simp [b2], by simp [Kn.fitsAll, a2, b3], fun v hv => ?_⟩
      · simp only [Dd.encR, List.append_assoc]
        rw [← b1]
        exact a1
      · rcases List.mem_cons.1 hv with rfl | hv
        · exact a3
        · exact b4 v hv
theorem Dd.fitE_0 {s : List Kn.C} {d : Dd.D} (h : Dd.fitE s d = 0) : Kn.right s = true ∧ d.row.length = (Dd.cols s d.gone).length ∧ Kn.fitsAll (Dd.cols s d.gone) d.row = true := by
  unfold Dd.fitE at h
  unfold Dd.cols
  cases hg : d.gone
  · rw [hg, if_neg (by decide)] at h
    rw [if_neg (by decide)]
    unfold Kn.fitsE at h
    by_cases h1 : Kn.right s = true
    · rw [if_pos h1] at h
      by_cases h2 : d.row.length = s.length
      · rw [if_pos h2] at h
        by_cases h3 : Kn.fitsAll s d.row = true
        · exact ⟨h1, h2, h3⟩
        · rw [if_neg h3] at h; cases h
      · rw [if_neg h2] at h; cases h
    · rw [if_neg h1] at h; cases h
  · rw [hg, if_pos rfl] at h
    rw [if_pos rfl]
    by_cases h1 : Kn.right s = true
    · rw [if_pos h1] at h
      have hl := Kn.right_len h1
      obtain ⟨g, row⟩ := d
      simp only at h ⊢
      match row, s, h, hl with
      | [k], c :: cs, h, _ =>
        simp only at h
        unfold Kn.keyE at h
        rw [if_pos h1] at h
        simp only at h
        by_cases h3 : Kn.fits c k = true
        · exact ⟨h1, rfl, by simp [Kn.fitsAll, h3]⟩
        · rw [if_neg h3] at h; cases h
      | [], _, h, _ => cases h
      | _ :: _ :: _, _, h, _ => cases h
      | [_], [], _, hl => simp at hl
    · rw [if_neg h1] at h; cases h
theorem Dd.fitE_of {s : List Kn.C} {d : Dd.D} (h1 : Kn.right s = true) (h2 : d.row.length = (Dd.cols s d.gone).length) (h3 : Kn.fitsAll (Dd.cols s d.gone) d.row = true) : Dd.fitE s d = 0 := by
  unfold Dd.fitE
  unfold Dd.cols at h2 h3
  obtain ⟨g, row⟩ := d
  cases g
  · simp only [Bool.false_eq_true, if_false] at h2 h3 ⊢
    unfold Kn.fitsE
    rw [if_pos h1, if_pos h2, if_pos h3]
  · have hl := Kn.right_len h1
    simp only [if_true] at h2 h3 ⊢
    rw [if_pos h1]
    match s, row, h1, h2, h3, hl with
    | c :: cs, [k], h1, _, h3, _ =>
      simp only [Kn.fitsAll, List.take_succ_cons, List.take_zero, Bool.and_true] at h3
      show Kn.keyE (c :: cs) k = 0
      unfold Kn.keyE
      rw [if_pos h1]
      simp only
      rw [if_pos h3]
    | [], _, _, _, _, hl => simp at hl
    | c :: cs, [], _, h2, _, _ => simp at h2
    | c :: cs, _ :: _ :: _, _, h2, _, _ => simp at h2
theorem Dd.encR_cols {s : List Kn.C} {g : Bool} {row : List Kn.V} (h : row.length = (Dd.cols s g).length) : Dd.encR s row = Dd.encR (Dd.cols s g) row := by
  unfold Dd.cols at h ⊢
  cases g
  · rfl
  · rw [if_pos rfl] at h ⊢
    match s, row, h with
    | [], _, _ => rfl
    | c :: cs, [], h => simp at h
    | c :: cs, [v], _ => simp [Dd.encR]
    | c :: cs, _ :: _ :: _, h => simp at h
theorem Dd.rd_enc' {s : List Kn.C} {d : Dd.D} (h : Dd.fitE s d = 0) (hi : ∀ v ∈ d.row, I64 v.n) (r : List UInt8) : Dd.rd s (Dd.enc s d ++ r) = if r = [] then (0, d) else (5, ⟨false, []⟩) := by
  obtain ⟨h1, h2, h3⟩ := Dd.fitE_0 h
  have e := Dd.rdR_back (Dd.cols s d.gone) d.row h2 h3 hi r
  have ef : Dd.rdF (Dd.enc s d ++ r) = (0, d.gone, Dd.encR (Dd.cols s d.gone) d.row ++ r) := by
    unfold Dd.enc
    rw [List.cons_append, Dd.rdF_flag, Dd.encR_cols h2]
  unfold Dd.rd
  rw [ef]
  simp only [e, h1, ne_eq, not_true_eq_false, if_false, Bool.true_eq_false]
  by_cases hr : r = []
  · rw [if_pos hr, if_neg (by simp [hr])]
  · rw [if_neg hr, if_pos hr]
theorem Dd.rd_enc {s : List Kn.C} {d : Dd.D} (h : Dd.fitE s d = 0) (hi : ∀ v ∈ d.row, I64 v.n) : Dd.rd s (Dd.enc s d) = (0, d) := by
  have := Dd.rd_enc' h hi []
  rwa [List.append_nil, if_pos rfl] at this
theorem Dd.enc_rd {s : List Kn.C} {l : List UInt8} (h : (Dd.rd s l).1 = 0) : Dd.fitE s (Dd.rd s l).2 = 0 ∧ Dd.enc s (Dd.rd s l).2 = l ∧ ∀ v ∈ (Dd.rd s l).2.row, I64 v.n := by
  unfold Dd.rd at h ⊢
  by_cases h1 : Kn.right s = false
  · rw [if_pos h1] at h; cases h
  · rw [if_neg h1] at h ⊢
    by_cases h2 : (Dd.rdF l).1 ≠ 0
    · rw [if_pos h2] at h; exact absurd h h2
    · rw [if_neg h2] at h ⊢
      by_cases h3 : (Dd.rdR (Dd.cols s (Dd.rdF l).2.1) (Dd.rdF l).2.2).1 ≠ 0
      · rw [if_pos h3] at h; exact absurd h h3
      · rw [if_neg h3] at h ⊢
        by_cases h4 : (Dd.rdR (Dd.cols s (Dd.rdF l).2.1) (Dd.rdF l).2.2).2.2 ≠ []
        · rw [if_pos h4] at h; cases h
        · rw [if_neg h4]
          obtain ⟨b1, b2, b3, b4⟩ := Dd.rdR_only _ _ (by simpa using h3 : (Dd.rdR (Dd.cols s (Dd.rdF l).2.1) (Dd.rdF l).2.2).1 = 0)
          have hl := Dd.rdF_only (by simpa using h2)
          have e4 : (Dd.rdR (Dd.cols s (Dd.rdF l).2.1) (Dd.rdF l).2.2).2.2 = [] := by simpa using h4
          rw [e4, List.append_nil] at b1
          refine ⟨Dd.fitE_of (by simpa using h1) b2 b3, ?_, b4⟩
          unfold Dd.enc
          rw [Dd.encR_cols b2, ← b1]
          exact hl.symm
theorem Dd.encV_pos {c : Kn.C} {v : Kn.V} (h : Kn.fits c v = true) : Dd.encV c v ≠ [] := by
  unfold Dd.encV
  by_cases hc : c.null = true
  · rw [if_pos hc]; simp
  · rw [if_neg hc, List.nil_append]
    cases hn : v.null
    · rw [if_neg (by decide)]
      unfold Dd.encP
      split
      · intro e
        have : 0 < (encI v.n).length := by unfold encI; rw [Ty.encU_length]; omega
        rw [e] at this
        simp at this
      · intro e
        have : 0 < (encT v.s.data.toList).length := by unfold encT; rw [List.length_append, Ty.encU_length]; omega
        rw [e] at this
        simp at this
    · exact absurd (Dd.fits_null h hn).2 hc
theorem Dd.fitsAll_snoc : ∀ (s : List Kn.C) (c : Kn.C) (vs : List Kn.V) (v : Kn.V), vs.length = s.length → Kn.fitsAll (s ++ [c]) (vs ++ [v]) = (Kn.fitsAll s vs && Kn.fits c v)
  | [], c, [], v, _ => by simp [Kn.fitsAll]
  | [], _, _ :: _, _, h => by simp at h
  | _ :: _, _, [], _, h => by simp at h
  | a :: s, c, x :: vs, v, h => by
    simp only [List.cons_append, Kn.fitsAll]
    rw [Dd.fitsAll_snoc s c vs v (by simpa using h), Bool.and_assoc]
theorem Dd.encR_snoc : ∀ (s : List Kn.C) (c : Kn.C) (vs : List Kn.V) (v : Kn.V), vs.length = s.length → Dd.encR (s ++ [c]) (vs ++ [v]) = Dd.encR s vs ++ Dd.encV c v
  | [], c, [], v, _ => by simp [Dd.encR]
  | [], _, _ :: _, _, h => by simp at h
  | _ :: _, _, [], _, h => by simp at h
  | a :: s, c, x :: vs, v, h => by
    simp only [List.cons_append, Dd.encR]
    rw [Dd.encR_snoc s c vs v (by simpa using h), List.append_assoc]
theorem Dd.rdR_snoc : ∀ (s : List Kn.C) (c : Kn.C) (l : List UInt8), (Dd.rdR s l).1 = 0 → (Dd.rdR (s ++ [c]) l).1 = (Dd.rdV c (Dd.rdR s l).2.2).1
  | [], c, l, _ => by
    simp only [List.nil_append, Dd.rdR]
    by_cases h : (Dd.rdV c l).1 ≠ 0
    · rw [if_pos h]
    · rw [if_neg h]
      exact (by simpa using h : (Dd.rdV c l).1 = 0).symm
  | a :: s, c, l, h => by
    simp only [List.cons_append, Dd.rdR] at h ⊢
    by_cases h1 : (Dd.rdV a l).1 ≠ 0
    · rw [if_pos h1] at h; exact absurd h h1
    · rw [if_neg h1] at h ⊢
      rw [if_neg h1]
      exact Dd.rdR_snoc s c _ h
theorem Dd.cut {s : List Kn.C} {c : Kn.C} {vs : List Kn.V} (hs : Kn.right s = true) (h : Dd.fitE (s ++ [c]) ⟨false, vs⟩ = 0) (hi : ∀ v ∈ vs, I64 v.n) : (Dd.rd s (Dd.enc (s ++ [c]) ⟨false, vs⟩)).1 = 5 := by
  obtain ⟨h1, h2, h3⟩ := Dd.fitE_0 h
  have hl : vs.length = s.length + 1 := by simpa [Dd.cols] using h2
  have hne : vs ≠ [] := by intro e; rw [e] at hl; simp at hl
  have e := (List.dropLast_concat_getLast hne).symm
  have hdl : vs.dropLast.length = s.length := by rw [List.length_dropLast]; omega
  have h3' : Kn.fitsAll (s ++ [c]) (vs.dropLast ++ [vs.getLast hne]) = true := by rw [← e]; simpa [Dd.cols] using h3
  rw [Dd.fitsAll_snoc _ _ _ _ hdl, Bool.and_eq_true] at h3'
  have hf : Dd.fitE s ⟨false, vs.dropLast⟩ = 0 := Dd.fitE_of hs hdl h3'.1
  have := Dd.rd_enc' hf (fun v hv => hi v (List.dropLast_subset _ hv)) (Dd.encV c (vs.getLast hne))
  rw [if_neg (Dd.encV_pos h3'.2)] at this
  have e2 : Dd.enc (s ++ [c]) ⟨false, vs⟩ = Dd.enc s ⟨false, vs.dropLast⟩ ++ Dd.encV c (vs.getLast hne) := by
    show Dd.flag false :: Dd.encR (s ++ [c]) vs = Dd.flag false :: Dd.encR s vs.dropLast ++ _
    conv => lhs; rw [e]
    rw [Dd.encR_snoc _ _ _ _ hdl]
    rfl
  rw [e2, this]
theorem Dd.wide {s : List Kn.C} {vs : List Kn.V} (hs : Kn.right (s ++ [⟨1, false⟩]) = true) (h : Dd.fitE s ⟨false, vs⟩ = 0) (hi : ∀ v ∈ vs, I64 v.n) : (Dd.rd (s ++ [⟨1, false⟩]) (Dd.enc s ⟨false, vs⟩)).1 = 2 := by
  obtain ⟨h1, h2, h3⟩ := Dd.fitE_0 h
  have e := Dd.rdR_back s vs h2 h3 hi []
  rw [List.append_nil] at e
  have e2 := Dd.rdR_snoc s ⟨1, false⟩ (Dd.encR s vs) (by rw [e])
  rw [e] at e2
  have e3 : (Dd.rdV ⟨1, false⟩ []).1 = 2 := rfl
  simp only at e2
  rw [e3] at e2
  have ef : Dd.rdF (Dd.enc s ⟨false, vs⟩) = (0, false, Dd.encR s vs) := Dd.rdF_flag false _
  have ec : Dd.cols (s ++ [⟨1, false⟩]) false = s ++ [⟨1, false⟩] := rfl
  unfold Dd.rd
  rw [ef]
  simp only [hs, ne_eq, not_true_eq_false, if_false, Bool.true_eq_false, ec]
  rw [if_pos (by rw [e2]; decide), e2]
end Go.Proofs.YtfbjmehkipcmbaaGreatDoor

namespace Go.Proofs.YtfbjmehkipcmbaaGreatDoor
open Go
open Ty (num txt encU U64 I64)
open Ig (rest)
open Tx (encT)
def Bk.key (d : Dd.D) : Kn.V := d.row.headD Cl.nul
def Bk.nod : Dd.D := ⟨false, []⟩
def Bk.step (L : List Dd.D) (k : Nat) : Bool := !(L.getD k Bk.nod).row.isEmpty && (k == 0 || decide (Kn.cmp (Bk.key (L.getD (k - 1) Bk.nod)) (Bk.key (L.getD k Bk.nod)) < 0))
def Bk.sorted (L : List Dd.D) : Bool := (List.range L.length).all (Bk.step L)
def Bk.firstE (s : List Kn.C) : List Dd.D → Int
  | [] => 0
  | d :: r => if Dd.fitE s d = 0 then Bk.firstE s r else Dd.fitE s d
def Bk.fitsE (s : List Kn.C) (L : List Dd.D) : Int := if Bk.firstE s L = 0 then (if Bk.sorted L = true then 0 else 1) else Bk.firstE s L
def Bk.wE (s : List Kn.C) (L : List Dd.D) : Int := if Kn.right s = true then (if L.length < 1 ∨ 8 < L.length then 1 else Bk.fitsE s L) else 4
def Bk.has (i : Nat) (d : Dd.D) : Bool := i == 0 || !d.gone
def Bk.col (L : List Dd.D) (i : Nat) : List Kn.V := (L.filter (Bk.has i)).map fun d => d.row.getD i Cl.nul
def Bk.gones (L : List Dd.D) (i : Nat) : Bool := (L.getD i Bk.nod).gone
def Bk.encC : Nat → List Kn.C → List Dd.D → List UInt8
  | _, [], _ => []
  | i, c :: s, L => encT (Cl.enc c (Bk.col L i)) ++ Bk.encC (i + 1) s L
def Bk.bools (L : List Dd.D) : List UInt8 := (Bt.bytes (Bt.need L.length) (Bt.tr L.length (Bk.gones L))).data.toList
def Bk.enc (s : List Kn.C) (L : List Dd.D) : List UInt8 := encU L.length ++ (Bk.bools L ++ Bk.encC 0 s L)
def Bk.dist (i : Nat) : List Dd.D → List Kn.V → List Dd.D
  | [], _ => []
  | d :: r, vs => if Bk.has i d = true then ⟨d.gone, d.row ++ [vs.headD Cl.nul]⟩ :: Bk.dist i r vs.tail else d :: Bk.dist i r vs
def Bk.most : Int := 1048576
def Bk.restM (l : List UInt8) : List UInt8 := l.drop (txt l Bk.most).2.1
def Bk.rdC : Nat → List Kn.C → List Dd.D → List UInt8 → Option (List Dd.D × List UInt8)
  | _, [], A, l => some (A, l)
  | i, c :: s, A, l => if (txt l Bk.most).2.2 = 0 ∧ (Cl.rd c (txt l Bk.most).1).1 = 0 ∧ (Cl.rd c (txt l Bk.most).1).2.length = (A.filter (Bk.has i)).length then Bk.rdC (i + 1) s (Bk.dist i A (Cl.rd c (txt l Bk.most).1).2) (Bk.restM l) else none
def Bk.none_ (n : Nat) (b : UInt8) : List Dd.D := (List.range n).map fun i => ⟨b.toNat.testBit i, []⟩
def Bk.rd (s : List Kn.C) (l : List UInt8) : Nat × List Dd.D :=
  if Kn.right s = false then (4, [])
  else if (num l).2.2 ≠ 0 then (8, [])
  else match rest l with
    | [] => (8, [])
    | b :: r => if (num l).1 < 1 ∨ 8 < (num l).1 ∨ b.toNat / 2 ^ (num l).1 ≠ 0 then (8, [])
      else match Bk.rdC 0 s (Bk.none_ (num l).1 b) r with
        | none => (8, [])
        | some (L, r') => if r' = [] ∧ Bk.sorted L = true then (0, L) else (8, [])
/-! Texts of at most 2^20 bytes. -/
theorem Bk.read_txt (t : Tx.Str) (h : t.length ≤ 1048576) (r : List UInt8) : (txt (encT t ++ r) Bk.most).2.2 = 0 ∧ (txt (encT t ++ r) Bk.most).1 = t ∧ Bk.restM (encT t ++ r) = r := by
  have e : num (encT t ++ r) = (t.length, (encU t.length).length, 0) := by
    unfold encT
    rw [List.append_assoc]
    exact Ty.num_encU _ (by unfold U64; omega) _
  have e0 : (num (encT t ++ r)).2.2 = 0 := by rw [e]
  have e1 : (num (encT t ++ r)).1 = t.length := by rw [e]
  have e2 : (num (encT t ++ r)).2.1 = (encU t.length).length := by rw [e]
  have hl : (encT t ++ r).length = (encU t.length).length + (t.length + r.length) := by simp [encT]
  have hw := Ty.txt_whole (most := Bk.most) e0 (by rw [e1]; unfold Bk.most; omega) (by rw [e1, e2, hl]; omega)
  have hd : (encT t ++ r).drop (encU t.length).length = t ++ r := by simp [encT]
  refine ⟨by rw [hw], by rw [hw, e1, e2, hd]; simp, ?_⟩
  unfold Bk.restM
  rw [hw, e1, e2, ← List.drop_drop, hd]
  simp
theorem Bk.split_txt {l : List UInt8} (h : (txt l Bk.most).2.2 = 0) : l = encT (txt l Bk.most).1 ++ Bk.restM l := by
  have h1 : (num l).2.2 = 0 := by
    rcases Nat.eq_zero_or_pos (num l).2.2 with h1 | h1
    · exact h1
    · rw [Ty.txt_bad (by omega)] at h
      exact h
  by_cases h2 : Bk.most < 0 ∨ Bk.most < ((num l).1 : Int)
  · rw [Ty.txt_long h1 h2] at h
    cases h
  · by_cases h3 : l.length - (num l).2.1 < (num l).1
    · rw [Ty.txt_short h1 h2 h3] at h
      cases h
    · have hw := Ty.txt_whole h1 h2 h3
      have hs := Ty.encU_num l h1
      have hlen : ((l.drop (num l).2.1).take (num l).1).length = (num l).1 := by
        rw [List.length_take, List.length_drop]; omega
      unfold Bk.restM
      rw [hw]
      unfold encT
      rw [hlen, hs.1, ← List.drop_drop, List.append_assoc, List.take_append_drop, List.take_append_drop]
/-! How long a column of eight values is. -/
theorem Bk.flat_le {α : Type} (f : α → List UInt8) (m : Nat) : ∀ l : List α, (∀ x ∈ l, (f x).length ≤ m) → (l.flatMap f).length ≤ l.length * m
  | [], _ => by simp
  | x :: l, h => by
    have h1 := h x (List.mem_cons_self ..)
    have h2 := Bk.flat_le f m l fun y hy => h y (List.mem_cons_of_mem _ hy)
    rw [List.flatMap_cons, List.length_append, List.length_cons, Nat.succ_mul]
    omega
theorem Bk.encU_le (n : Nat) : (encU n).length ≤ 9 := Ty.encU_len9 n
theorem Bk.bestK_least (L : List Tx.Str) : (Tx.enc (Tx.bestK L) L).length ≤ (Tx.enc 0 L).length := by
  unfold Tx.bestK
  split
  · omega
  · exact Nat.le_refl _
theorem Bk.enc_le {c : Kn.C} {l : List Kn.V} (h : Cl.wE c l = 0) (hl : l.length ≤ 8) : (Cl.enc c l).length ≤ 1048576 := by
  have hall : l.all (Cl.is c) = true ∧ c.good = true := by
    unfold Cl.wE at h
    by_cases h1 : c.good = true
    · rw [if_pos h1, if_neg (by omega)] at h
      by_cases h2 : l.all (Cl.is c) = true
      · exact ⟨h2, h1⟩
      · rw [if_neg h2] at h; cases h
    · rw [if_neg h1] at h; cases h
  have hn := Cl.nums_len l
  have hw := Cl.words_len l
  have h1 := Bk.encU_le l.length
  have h2 : (Bt.bytes (Bt.need l.length) (Bt.tr l.length (Cl.nulls l))).data.toList.length ≤ 1 := by
    rw [Bt.length_data, Bt.size_bytes]
    unfold Bt.need
    omega
  have h3 : (Cl.vals c l).length ≤ 1000 := by
    unfold Cl.vals
    by_cases hk : c.k = 1
    · rw [if_pos hk]
      have e1 := Ig.bk_least (Cl.nums l) 3 0 (by omega)
      have e2 : (Ig.enc 0 (Cl.nums l)).length ≤ 1 + 9 + (Cl.nums l).length * 9 := by
        unfold Ig.enc Ig.body
        rw [if_pos rfl, List.length_cons, List.length_append]
        have a := Bk.encU_le (Cl.nums l).length
        have b := Bk.flat_le Ig.encI 9 (Cl.nums l) fun x _ => by unfold Ig.encI; exact Bk.encU_le _
        omega
      omega
    · rw [if_neg hk]
      have e1 := Bk.bestK_least (Cl.words l)
      have e2 : (Tx.enc 0 (Cl.words l)).length ≤ 1 + 9 + (Cl.words l).length * 73 := by
        unfold Tx.enc Tx.body
        rw [if_pos rfl, List.length_cons, List.length_append]
        have a := Bk.encU_le (Cl.words l).length
        have b := Bk.flat_le Tx.encT 73 (Cl.words l) fun x hx => by
          unfold Cl.words at hx
          obtain ⟨v, hv, rfl⟩ := List.mem_map.1 hx
          have := (Cl.is_str hk (Cl.live_is hall.1 v hv) (Cl.live_all v hv)).2
          unfold Tx.encT
          rw [List.length_append]
          have := Bk.encU_le v.s.data.toList.length
          omega
        omega
      omega
  unfold Cl.enc
  rw [List.length_append, List.length_append]
  omega
/-! Rows that are cut. -/
def Bk.cut (i : Nat) (L : List Dd.D) : List Dd.D := L.map fun d => ⟨d.gone, d.row.take i⟩
def Bk.Len (i : Nat) (A : List Dd.D) : Prop := ∀ d ∈ A, d.row.length = if d.gone = true then min i 1 else i
theorem Bk.has_gone {i : Nat} {d : Dd.D} (h : Bk.has i d = false) : d.gone = true ∧ 1 ≤ i := by
  unfold Bk.has at h
  rw [Bool.or_eq_false_iff] at h
  cases hg : d.gone
  · rw [hg] at h; cases h.2
  · have := h.1
    rw [beq_eq_false_iff_ne] at this
    exact ⟨rfl, by omega⟩
theorem Bk.has_len {i : Nat} {d : Dd.D} (h : Bk.has i d = true) (hl : d.row.length = if d.gone = true then min i 1 else i) : d.row.length = i := by
  unfold Bk.has at h
  rw [Bool.or_eq_true] at h
  rcases h with h | h
  · have : i = 0 := by simpa using h
    subst this
    rw [hl]
    split <;> omega
  · have hg : d.gone = false := by simpa using h
    rw [hl, hg]
    rfl
theorem Bk.dist_len : ∀ (i : Nat) (A : List Dd.D) (vs : List Kn.V), Bk.Len i A → Bk.Len (i + 1) (Bk.dist i A vs)
  | _, [], _, _ => fun d hd => by cases hd
  | i, x :: A, vs, h => fun d hd => by
    have hx := h x (List.mem_cons_self ..)
    have hA : Bk.Len i A := fun y hy => h y (List.mem_cons_of_mem _ hy)
    unfold Bk.dist at hd
    cases hh : Bk.has i x
    · rw [hh, if_neg (by decide)] at hd
      obtain ⟨hg, hi⟩ := Bk.has_gone hh
      rcases List.mem_cons.1 hd with rfl | hd
      · rw [hx, hg, if_pos rfl, if_pos rfl]
        omega
      · exact Bk.dist_len i A vs hA d hd
    · rw [hh, if_pos rfl] at hd
      have hl := Bk.has_len hh hx
      rcases List.mem_cons.1 hd with rfl | hd
      · simp only [List.length_append, List.length_cons, List.length_nil]
        unfold Bk.has at hh
        cases hg : x.gone
        · rw [if_neg (by decide)]; omega
        · rw [hg] at hh
          have : i = 0 := by simpa using hh
          rw [if_pos rfl]
          omega
      · exact Bk.dist_len i A vs.tail hA d hd
theorem Bk.dist_cut_back : ∀ (i : Nat) (A : List Dd.D) (vs : List Kn.V), Bk.Len i A → Bk.cut i (Bk.dist i A vs) = A
  | _, [], _, _ => rfl
  | i, x :: A, vs, h => by
    have hx := h x (List.mem_cons_self ..)
    have hA : Bk.Len i A := fun y hy => h y (List.mem_cons_of_mem _ hy)
    unfold Bk.dist
    cases hh : Bk.has i x
    · rw [if_neg (by decide)]
      obtain ⟨hg, hi⟩ := Bk.has_gone hh
      have ih := Bk.dist_cut_back i A vs hA
      unfold Bk.cut at ih ⊢
      rw [List.map_cons, ih, List.take_of_length_le (by rw [hx, hg, if_pos rfl]; omega)]
    · rw [if_pos rfl]
      have hl := Bk.has_len hh hx
      have ih := Bk.dist_cut_back i A vs.tail hA
      unfold Bk.cut at ih ⊢
      rw [List.map_cons, ih]
      simp only [← hl, List.take_left']
theorem Bk.dist_col : ∀ (i : Nat) (A : List Dd.D) (vs : List Kn.V), Bk.Len i A → vs.length = (A.filter (Bk.has i)).length → Bk.col (Bk.dist i A vs) i = vs
  | _, [], vs, _, h => by
    have : vs = [] := List.eq_nil_of_length_eq_zero (by simpa using h)
    subst this
    rfl
  | i, x :: A, vs, h, hn => by
    have hx := h x (List.mem_cons_self ..)
    have hA : Bk.Len i A := fun y hy => h y (List.mem_cons_of_mem _ hy)
    unfold Bk.dist
    cases hh : Bk.has i x
    · rw [if_neg (by decide)]
      have ih := Bk.dist_col i A vs hA (by rw [List.filter_cons, hh] at hn; simpa using hn)
      unfold Bk.col at ih ⊢
      rw [List.filter_cons, hh, if_neg (by decide)]
      exact ih
    · rw [if_pos rfl]
      have hl := Bk.has_len hh hx
      match vs, hn with
      | v :: vs, hn =>
        have ih := Bk.dist_col i A vs hA (by rw [List.filter_cons, hh, if_pos rfl] at hn; simpa using hn)
        unfold Bk.col at ih ⊢
        have hh2 : Bk.has i ⟨x.gone, x.row ++ [v]⟩ = true := hh
        simp only [List.headD_cons, List.tail_cons]
        rw [List.filter_cons, hh2, if_pos rfl, List.map_cons, ih]
        simp [← hl]
      | [], hn => rw [List.filter_cons, hh, if_pos rfl] at hn; simp at hn
theorem Bk.cut_cut {i j : Nat} (h : i ≤ j) (L : List Dd.D) : Bk.cut i (Bk.cut j L) = Bk.cut i L := by
  unfold Bk.cut
  rw [List.map_map]
  refine List.map_congr_left fun d _ => ?_
  simp only [Function.comp, List.take_take, Nat.min_eq_left h]
theorem Bk.col_cut {i j : Nat} (h : i < j) (L : List Dd.D) : Bk.col (Bk.cut j L) i = Bk.col L i := by
  unfold Bk.col Bk.cut
  rw [List.filter_map, List.map_map]
  have e : (Bk.has i ∘ fun d : Dd.D => (⟨d.gone, d.row.take j⟩ : Dd.D)) = Bk.has i := rfl
  rw [e]
  refine List.map_congr_left fun d _ => ?_
  simp only [Function.comp, List.getD_eq_getElem?_getD, List.getElem?_take, if_pos h]
theorem Bk.cut_has (i j : Nat) (L : List Dd.D) : ((Bk.cut j L).filter (Bk.has i)).length = (Bk.col L i).length := by
  unfold Bk.col Bk.cut
  rw [List.filter_map, List.length_map, List.length_map]
  rfl
end Go.Proofs.YtfbjmehkipcmbaaGreatDoor
