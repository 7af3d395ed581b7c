/-
  Contracts of what package texts calls of the library (Less, isNaN, ContainsFunc with its closure, BinarySearch), and of tooLong.
  Contracts of what package texts calls of the library: BinarySearch.
  Contracts of package texts: the map that counts which strings are used.
-/
import Derived.Test.YtcognkgabdaneaaGreatDoorQA
import Derived.Test.YtcognkgabdaneaaGreatDoorQB
import Derived.Sort.Walk0
import Derived.Lib.Walk
import Derived.Maps.OwnOps
import Derived.Maps.OwnSet
import Derived.Sort.KeysCollected
namespace Go.Proofs.YtcognkgabdaneaaGreatDoor
open Go.RowKit
set_option maxHeartbeats 1000000 in
theorem Tx.less_c (a b : ByteArray) (w : World) : Calls Tryz.prog 130 #[.string a, .string b] w fun e w' => e = .returned (.bool (Op.bytesLess a.toList b.toList)) ∧ w' = w := by
  generalize hx : Op.bytesLess a.toList b.toList = x
  go_enter Tryz.func130, Tryz.ntmps130
  go_wp2_with fail
  refine (Kn.isNaNs_c _ _).mono ?_
  rintro e w1 ⟨rfl, rfl⟩
  go_wp2
  go_ret
  exact ⟨rfl, rfl⟩
theorem Tx.tooLongF_c (s : ByteArray) (w : World) : Calls Tryz.prog 109 #[.string s] w fun e w' => e = .returned (.bool (decide ((64 : Int) < (s.size : Int)))) ∧ w' = w := by
  go_enter Tryz.func109, Tryz.ntmps109
  go_wp2
  go_ret
  exact ⟨rfl, rfl⟩
/-- The closure as a value. -/
def Tx.fv : Value := .func (.func 109) #[] #[]
set_option maxHeartbeats 1000000 in
theorem Tx.indexFunc_c (v : Value) (L : List Tx.Str) (w : World) (hv : Tx.At w.heap.size w v L) (hn : L.length ≤ 65536) :
    Calls Tryz.prog 126 #[v, .func (.func 109) #[] #[]] w fun e w' => ∃ z : Int, e = .returned (.int .i64 z) ∧ w' = w ∧ ((z = -1 ∧ ∀ j, j < L.length → (L.getD j []).length ≤ 64) ∨ (0 ≤ z ∧ ∃ j, j < L.length ∧ 64 < (L.getD j []).length)) := by
  obtain ⟨a, c, rfl, hc, _, h⟩ := hv
  have HH := Lib.hid h
  obtain ⟨n, hnn⟩ : ∃ n, n = L.length := ⟨_, rfl⟩
  rw [← hnn] at hn hc ⊢
  have HN := Lib.hid hnn
  clear h hnn
  go_enter Tryz.func126, Tryz.ntmps126
  go_wp2
  go_loopw [8] (fun i wr => ∃ k : Nat, k ≤ n ∧ i = .int .i64 k ∧ (∀ j, j < k → (L.getD j []).length ≤ 64) ∧ wr = w) (fun i _ => n - (intOf i).toNat)
  case atStart => exact ⟨0, by omega, rfl, fun j hj => by omega, rfl⟩
  case round =>
    obtain ⟨k, hk, rfl, hp, rfl⟩ := hrel
    have HP := Lib.hid hp
    clear hp
    by_cases hl : k < n
    · rcases HH.out with ⟨h, _⟩ | ⟨b, o, rfl, hlt, h⟩
      · rw [HN.out, h] at hl; simp at hl
      · have hcell := h k (by rw [← HN.out]; exact hl)
        unfold Tx.sv at hcell
        have hs := Tx.S_size (L.getD k [])
        have HX : Hid ((64 : Int) < ((Ty.S (L.getD k [])).size : Int) ↔ 64 < (L.getD k []).length) := Lib.hid (by rw [hs]; omega)
        have cc := Tx.tooLongF_c (Ty.S (L.getD k [])) wr
        generalize Ty.S (L.getD k []) = s at hcell HX cc
        have hkl : (k : Int) < (n : Int) := by omega
        have hk0 : (0 : Int) ≤ (k : Int) := by omega
        clear h hs
        by_cases h64 : (64 : Int) < (s.size : Int)
        · rw [decide_eq_true h64] at cc
          have HB := Lib.hid (HX.out.1 h64)
          clear h64 HX
          go_wp2_with fail
          refine cc.mono ?_
          rintro e w1 ⟨rfl, rfl⟩
          go_wp2
          go_ret
          exact ⟨k, rfl, rfl, .inr ⟨by omega, k, hl, HB.out⟩⟩
        · rw [decide_eq_false h64] at cc
          have HB : Hid ((L.getD k []).length ≤ 64) := Lib.hid (by
            have := HX.out
            omega)
          clear h64 HX
          go_wp2_with fail
          refine cc.mono ?_
          rintro e w1 ⟨rfl, rfl⟩
          go_wp2
          go_roundw
          case rel => exact ⟨k + 1, by omega, by simp, (fun j hj => by
            by_cases e : j = k
            · rw [e]; exact HB.out
            · exact HP.out j (by omega)), by trivial⟩
          case measure => simp [intOf]; omega
    · obtain rfl : k = n := by omega
      have hkl : ¬ (k : Int) < (k : Int) := by omega
      go_wp2
      go_ret
      exact ⟨-1, rfl, rfl, .inl ⟨rfl, HP.out⟩⟩
theorem Tx.containsFunc_c (v : Value) (L : List Tx.Str) (w : World) (hv : Tx.At w.heap.size w v L) (hn : L.length ≤ 65536) :
    Calls Tryz.prog 108 #[v, .func (.func 109) #[] #[]] w fun e w' => e = .returned (.bool (!Tx.fit L)) ∧ w' = w := by
  have ci := Tx.indexFunc_c v L w hv hn
  have HN := Lib.hid hn
  clear hv hn
  go_enter Tryz.func108, Tryz.ntmps108
  go_wp2_with fail
  refine ci.mono ?_
  rintro e w1 ⟨z, rfl, rfl, hz⟩
  have HZ := Lib.hid hz
  clear ci hz
  go_wp2
  go_ret
  refine ⟨?_, rfl⟩
  congr 2
  rcases HZ.out with ⟨rfl, h⟩ | ⟨h0, j, hj, h⟩
  · cases hf : Tx.fit L with
    | true => rfl
    | false => exact absurd (Tx.fit_no hf HN.out h) id
  · cases hf : Tx.fit L with
    | true =>
      have := (Tx.fit_yes hf).2 (L.getD j []) (by rw [List.getD, List.getElem?_eq_getElem hj]; exact List.getElem_mem hj)
      omega
    | false => simpa using h0
set_option maxHeartbeats 1000000 in
theorem Tx.tooLong_c (v : Value) (L : List Tx.Str) (w : World) (hv : Tx.At w.heap.size w v L) (hn : L.length ≤ 140737488355328) :
    Calls Tryz.prog 81 #[v] w fun e w' => e = .returned (.bool (!Tx.fit L)) ∧ w' = w := by
  by_cases hl : L.length ≤ 65536
  · have cc := Tx.containsFunc_c v L w hv hl
    obtain ⟨a, c, rfl, hc, _, h⟩ := hv
    have hli : ¬ (65536 : Int) < (L.length : Int) := by omega
    generalize Tx.fit L = x at cc ⊢
    clear h hn
    go_enter Tryz.func81, Tryz.ntmps81
    go_wp2_with fail
    refine cc.mono ?_
    rintro e w1 ⟨rfl, rfl⟩
    go_wp2
    go_ret
    exact ⟨rfl, rfl⟩
  · have hf : Tx.fit L = false := by
      cases hf : Tx.fit L with
      | false => rfl
      | true => exact absurd (Tx.fit_yes hf).1 hl
    rw [hf]
    obtain ⟨a, c, rfl, hc, _, h⟩ := hv
    have hli : (65536 : Int) < (L.length : Int) := by omega
    clear h hn hf
    go_enter Tryz.func81, Tryz.ntmps81
    go_wp2
    go_ret
    exact ⟨rfl, rfl⟩
/-- In an ascending list. -/
theorem Tx.asc_at : ∀ (d : List Tx.Str) (p : Option Tx.Str), Tx.Asc p d → ∀ i j, i < j → j < d.length → Tx.lt (d.getD i []) (d.getD j []) = true
  | [], _, _, i, j, _, hj => by simp at hj
  | a :: d, p, h, 0, j + 1, _, hj => by
    have hj' : j < d.length := by simpa using hj
    have := Tx.asc_all d (some a) h.2 a rfl (d.getD j []) (by rw [List.getD, List.getElem?_eq_getElem hj']; exact List.getElem_mem hj')
    simpa using this
  | a :: d, p, h, i + 1, j + 1, hij, hj => by
    have := Tx.asc_at d (some a) h.2 i j (by omega) (by simpa using hj)
    simpa using this
/-- Where a binary search ends: at the string, if it is there. -/
theorem Tx.search_end {d : List Tx.Str} {p : Option Tx.Str} (ha : Tx.Asc p d) {t : Tx.Str} (ht : t ∈ d) {i : Nat} (h1 : ∀ k, k < i → Tx.lt (d.getD k []) t = true) (h2 : ∀ k, i ≤ k → k < d.length → Tx.lt (d.getD k []) t = false) : i = Tx.pos d t ∧ i < d.length ∧ d.getD i [] = t := by
  have hp := Tx.pos_lt ht
  have hg : d.getD (Tx.pos d t) [] = t := by rw [List.getD, Tx.pos_get ht]; rfl
  have hle : i ≤ Tx.pos d t := by
    rcases Nat.lt_or_ge (Tx.pos d t) i with h | h
    · have := h1 _ h
      rw [hg] at this
      have k : Tx.lt t t = false := Kn.bl_irrefl t
      rw [k] at this
      cases this
    · exact h
  have heq : i = Tx.pos d t := by
    rcases Nat.lt_or_ge i (Tx.pos d t) with h | h
    · have h3 := Tx.asc_at d p ha i (Tx.pos d t) h hp
      rw [hg, h2 i (Nat.le_refl _) (by omega)] at h3
      cases h3
    · omega
  exact ⟨heq, by omega, by rw [heq]; exact hg⟩
end Go.Proofs.YtcognkgabdaneaaGreatDoor

namespace Go.Proofs.YtcognkgabdaneaaGreatDoor
open Go.RowKit
set_option maxHeartbeats 2000000 in
set_option maxRecDepth 100000 in
theorem Tx.search_c (v : Value) (d : List Tx.Str) (t : Tx.Str) (w : World) (hv : Tx.At w.heap.size w v d) (hn : d.length ≤ 65536) (ha : Tx.Asc none d) (ht : t ∈ d) :
    Calls Tryz.prog 113 #[v, .string (Ty.S t)] w fun e w' => e = .returned (.tuple #[.int .i64 ((Tx.pos d t : Nat) : Int), .bool true]) ∧ w' = w := by
  have HE := Lib.hid (fun (i : Nat) h1 h2 => Tx.search_end ha ht (i := i) h1 h2)
  have HA := Lib.hid ha
  obtain ⟨a, c, rfl, hc, _, h⟩ := hv
  have HH := Lib.hid h
  obtain ⟨n, hnn⟩ : ∃ n, n = d.length := ⟨_, rfl⟩
  rw [← hnn] at hn hc HE ⊢
  have HN := Lib.hid hnn
  have HL : Hid (∀ q : Tx.Str, Op.bytesLess (Ty.S q).toList (Ty.S t).toList = Tx.lt q t) := Lib.hid fun q => by rw [Tx.S_toList, Tx.S_toList]; rfl
  obtain ⟨ts, hts⟩ : ∃ ts, ts = Ty.S t := ⟨_, rfl⟩
  rw [← hts] at HL ⊢
  have HTS := Lib.hid hts
  clear h hnn hts ha ht
  go_enter Tryz.func113, Tryz.ntmps113
  go_wp2
  go_loopw [7, 8] (fun x y wr => ∃ i j : Nat, i ≤ j ∧ j ≤ n ∧ x = .int .i64 i ∧ y = .int .i64 j ∧ (∀ k, k < i → Tx.lt (d.getD k []) t = true) ∧ (∀ k, j ≤ k → k < n → Tx.lt (d.getD k []) t = false) ∧ wr = w) (fun x y _ => (intOf y).toNat - (intOf x).toNat)
  case atStart => exact ⟨0, n, by omega, by omega, rfl, rfl, (fun k hk => by omega), (fun k h1 h2 => by omega), rfl⟩
  case round =>
    obtain ⟨i, j, hij, hjn, rfl, rfl, hlo, hhi, rfl⟩ := hrel
    have HLO := Lib.hid hlo
    have HHI := Lib.hid hhi
    clear hlo hhi
    have hi0 : (0 : Int) ≤ (i : Int) := by omega
    by_cases hl : i < j
    · have hil : (i : Int) < (j : Int) := by omega
      obtain ⟨m, hm⟩ : ∃ m, m = (i + j) / 2 := ⟨_, rfl⟩
      have hm1 : i ≤ m := by omega
      have hm2 : m < j := by omega
      rcases HH.out with ⟨h, _⟩ | ⟨b, o, rfl, hlt, h⟩
      · rw [HN.out, h] at hjn; simp at hjn; omega
      · have hcell := h m (by rw [← HN.out]; omega)
        unfold Tx.sv at hcell
        have cl := fun w => Tx.less_c (Ty.S (d.getD m [])) ts w
        rw [HL.out] at cl
        generalize Ty.S (d.getD m []) = s at hcell cl
        rw [hm] at hcell
        have HM := Lib.hid hm
        have HM1 := Lib.hid hm1
        have HM2 := Lib.hid hm2
        clear h hm hm1 hm2
        cases hx : Tx.lt (d.getD m []) t
        · rw [hx] at cl
          have HX := Lib.hid hx
          clear hx
          go_wp2_with fail
          refine (cl _).mono ?_
          rintro e w1 ⟨rfl, rfl⟩
          go_wp2
          go_roundw
          case rel => exact ⟨i, m, HM1.out, by have := HM2.out; omega, rfl, by rw [HM.out]; simp, HLO.out, (fun k h1 h2 => by
            by_cases e : k = m
            · rw [e]; exact HX.out
            · have h3 := Tx.asc_at d none HA.out m k (by omega) (by rw [← HN.out]; exact h2)
              cases h4 : Tx.lt (d.getD k []) t with
              | false => rfl
              | true =>
                have h5 := Kn.bl_trans _ _ _ h3 h4
                have h6 : Tx.lt (d.getD m []) t = true := h5
                rw [HX.out] at h6
                cases h6), by trivial⟩
          case measure => have h1 := HM.out; have h2 := HM1.out; have h3 := HM2.out; simp [intOf]; omega
        · rw [hx] at cl
          have HX := Lib.hid hx
          clear hx
          go_wp2_with fail
          refine (cl _).mono ?_
          rintro e w1 ⟨rfl, rfl⟩
          go_wp2
          go_roundw
          case rel => exact ⟨m + 1, j, by have := HM2.out; omega, by omega, by rw [HM.out]; simp, rfl, (fun k h1 => by
            by_cases e : k = m
            · rw [e]; exact HX.out
            · have h3 := Tx.asc_at d none HA.out k m (by omega) (by rw [← HN.out]; have := HM2.out; omega)
              exact Kn.bl_trans _ _ _ h3 HX.out), HHI.out, by trivial⟩
          case measure => have h1 := HM.out; have h2 := HM1.out; have h3 := HM2.out; simp [intOf]; omega
    · obtain rfl : i = j := by omega
      have hil : ¬ (i : Int) < (i : Int) := by omega
      obtain ⟨e1, e2, e3⟩ := HE.out i HLO.out HHI.out
      have hin : (i : Int) < (n : Int) := by omega
      rcases HH.out with ⟨h, _⟩ | ⟨b, o, rfl, hlt, h⟩
      · rw [HN.out, h] at e2; simp at e2
      · have hcell := h i (by rw [← HN.out]; omega)
        unfold Tx.sv at hcell
        rw [e3, ← HTS.out] at hcell
        have heq : (ts.toList == ts.toList) = true := by rw [beq_iff_eq]
        have HP := Lib.hid e1
        clear e1 e2 e3 h
        go_wp2
        go_ret2
        exact ⟨by rw [HP.out]; rfl, rfl⟩
end Go.Proofs.YtcognkgabdaneaaGreatDoor

namespace Go.Proofs.YtcognkgabdaneaaGreatDoor
open Go.RowKit Go.Maps
theorem Tx.keyed : Keyed Tryz.prog 9 := string_keyed Tryz.underlying9
theorem Tx.zeroI (w : World) : (zeroValue 3).run Tryz.prog w = .ok (.int .i64 0) w := by kernel_rfl
/-- The map's datum has just these strings. -/
def Tx.Has (D : DataW Unit) (L : List Tx.Str) : Prop := ∀ x, has D (.string x) = true ↔ x ∈ L
theorem Tx.isKey (x : Tx.Str) : WideAt.IsKeyLit (.string x) := trivial
theorem Tx.Has.next {D : DataW Unit} {L : List Tx.Str} {k : Nat} {d : DataW Unit} (hD : IsMap D) (h : Tx.Has D (L.take k)) (hk : k < L.length) : Tx.Has (D.put (.string (L.getD k [])) d) (L.take (k + 1)) := fun x => by
  have e : L.take (k + 1) = L.take k ++ [L.getD k []] := by
    rw [List.take_add_one, List.getElem?_eq_getElem hk, List.getD, List.getElem?_eq_getElem hk]
    rfl
  rw [e, List.mem_append, List.mem_singleton]
  by_cases hx : x = L.getD k []
  · rw [hx, has_put_same hD (Tx.isKey _)]
    simp
  · have hne : (Lit.string x) ≠ .string (L.getD k []) := fun e => hx (by simpa using e)
    rw [has_put_other hne, h x]
    constructor
    · exact .inl
    · rintro (h | h)
      · exact h
      · exact absurd h hx
/-- A map of counts that a call owns: its keys. -/
def Tx.Counts (b n : Nat) (w : World) (L : List Tx.Str) : Prop := ∃ D : DataW Unit, w.ownsMap Tryz.prog 9 (plainElem Tryz.prog 3) b n D ∧ Tx.Has D L
theorem Tx.dict_nodup (L : List Tx.Str) : (Tx.dict L).Nodup := by
  refine List.pairwise_iff_getElem.2 fun i j hi hj hij => ?_
  have h := Tx.asc_at (Tx.dict L) none (Tx.dict_asc L) i j hij hj
  rw [List.getD, List.getElem?_eq_getElem hi, List.getD, List.getElem?_eq_getElem hj] at h
  intro e
  rw [Option.getD_some, Option.getD_some, e] at h
  have k : Tx.lt ((Tx.dict L)[j]) ((Tx.dict L)[j]) = false := Kn.bl_irrefl _
  rw [k] at h
  cases h
/-- The keys are the dictionary, in whatever order. -/
theorem Tx.Counts.keys {b n : Nat} {w : World} {L : List Tx.Str} (h : Tx.Counts b n w L) : ∃ D : DataW Unit, w.ownsMap Tryz.prog 9 (plainElem Tryz.prog 3) b n D ∧ (Tx.dict L).Perm (strKeys D) ∧ Maps.size D = (Tx.dict L).length := by
  obtain ⟨D, hown, hh⟩ := h
  obtain ⟨es, hD, hpw, _⟩ := hown.entries Tx.keyed
  obtain ⟨es', hD', hko⟩ := hown.keysOf
  obtain rfl : es = es' := by rw [hD] at hD'; simpa using hD'
  subst hD
  have hp := perm_strKeys hpw (fun p hp => by obtain ⟨v, hv⟩ := hko p hp; obtain ⟨x, _, hx, _⟩ := Maps.keyOf_str Tryz.underlying9 hv; exact ⟨x, hx⟩) (Tx.dict_nodup L) (fun x => by rw [Tx.dict_mem]; exact (hh x).symm)
  refine ⟨_, hown, hp, ?_⟩
  rw [hp.length_eq]
  show es.length = (es.map fun p => strOf p.1).length
  rw [List.length_map]
set_option maxHeartbeats 1000000 in
set_option maxRecDepth 100000 in
theorem Tx.uses_c (v : Value) (L : List Tx.Str) (w : World) (hv : Tx.At w.heap.size w v L) (hn : L.length ≤ 65536) (h64 : ∀ t ∈ L, t.length ≤ 64) :
    Calls Tryz.prog 112 #[v] w fun e w' => e = .returned (.map (some w.heap.size)) ∧ Tx.Counts w.heap.size L.length w' L ∧ Below w.heap.size w w' := by
  obtain ⟨a, c, rfl, hc, _, h⟩ := hv
  have HH := Lib.hid h
  have H64 := Lib.hid h64
  obtain ⟨n, hnn⟩ : ∃ n, n = L.length := ⟨_, rfl⟩
  rw [← hnn] at hn hc ⊢
  have HN := Lib.hid hnn
  have hmm := @run_makeMap Tryz.prog
  clear h hnn h64
  go_enter Tryz.func112, Tryz.ntmps112
  go_wp2
  go_loopw [9] (fun i wr => ∃ (k : Nat) (D : DataW Unit), k ≤ n ∧ i = .int .i64 k ∧ wr.ownsMap Tryz.prog 9 (plainElem Tryz.prog 3) w.heap.size k D ∧ Tx.Has D (L.take k) ∧ Below w.heap.size w wr) (fun i _ => n - (intOf i).toNat)
  case atStart => exact ⟨0, _, Nat.zero_le _, rfl, World.ownsMap_made _ _ _ _, (fun x => by simp [has]), (Below.refl _ _).alloc (Nat.le_refl _) _⟩
  case round =>
    obtain ⟨k, D, hk, rfl, hown, hhas, hnx⟩ := hrel
    have HHA := Lib.hid hhas
    have HB := Lib.hid hnx
    have hk0 : (0 : Int) ≤ (k : Int) := by omega
    by_cases hl : k < n
    · rcases HH.out with ⟨h, _⟩ | ⟨b, o, rfl, hlt, h⟩
      · rw [HN.out, h] at hl; simp at hl
      · have hcell : wr.cell? ⟨b, o + k, none⟩ = some (Tx.sv L k) := (hnx.cell (p := ⟨b, o + k, none⟩) hlt).trans (h k (by rw [← HN.out]; exact hl))
        unfold Tx.sv at hcell
        have hsz : (Ty.S (L.getD k [])).size ≤ maxLen := by
          have := H64.out (L.getD k []) (by rw [List.getD, List.getElem?_eq_getElem (by rw [← HN.out]; exact hl)]; exact List.getElem_mem _)
          rw [Tx.S_size]
          unfold maxLen; omega
        have hkey : keyOf Tryz.prog 9 (.string (Ty.S (L.getD k []))) = some (.string (L.getD k [])) := Go.WideMaps.keyOf_string_mk Tryz.underlying9 hsz
        have HNX := Lib.hid (fun d => Tx.Has.next (d := d) hown.isMap HHA.out (by rw [← HN.out]; exact hl))
        obtain ⟨q, hrun, hat, _⟩ := hown.lookup_int Tx.keyed Tryz.underlying141 Tryz.underlying3 (Tx.zeroI _) hkey
        have hkl : (k : Int) < (n : Int) := by omega
        generalize Ty.S (L.getD k []) = s at hcell hkey hrun
        generalize (Lit.string (L.getD k [])) = kl at hkey HNX
        clear h hat hsz hhas hnx
        go_wp2_with (at_mapUpdate; refine wpList_mapUpdate_own _ rfl _ _ _ 141 rfl 9 3 Tx.keyed Tryz.underlying141 _ w.heap.size k _ rfl hown (by unfold maxLen; omega) _ _ _ rfl rfl hkey _ [] (plainElem_int Tryz.underlying3 (wrap64_wf _)) ?_; intro w1 hown1 hgrow1)
        have HO1 := Lib.hid hown1
        have HB1 := Lib.hid (HB.out.grown hgrow1 HB.out.size (fun j hj => by cases hj; exact Nat.le_refl _))
        clear hown1 hgrow1 hown hrun
        go_wp2
        go_roundw
        case rel => exact ⟨k + 1, _, by omega, by simp, HO1.out, HNX.out _, HB1.out⟩
        case measure => simp [intOf]; omega
    · obtain rfl : k = n := by omega
      have hkl : ¬ (k : Int) < (k : Int) := by omega
      have HF : Hid (L.take k = L) := Lib.hid (by rw [HN.out, List.take_length])
      have HO := Lib.hid hown
      clear hown hnx hhas
      go_wp2
      go_ret
      exact ⟨rfl, ⟨D, HO.out, by rw [← HF.out]; exact HHA.out⟩, HB.out⟩
end Go.Proofs.YtcognkgabdaneaaGreatDoor
