/-
  Contracts of package column: the bytes of values none of which is null.
  Contracts of package column: how many values, which of them are null.
  Contracts of package column: values none of which is null, read of bytes.
-/
import Derived.Test.YtcognkgabdaneaaGreatDoorDA
import Derived.Test.YtcognkgabdaneaaGreatDoorIB
import Derived.Test.YtcognkgabdaneaaGreatDoorUB
import Derived.Test.YtcognkgabdaneaaGreatDoorU7
import Derived.Test.YtcognkgabdaneaaGreatDoorID
import Derived.Test.YtcognkgabdaneaaGreatDoorUD
namespace Go.Proofs.YtcognkgabdaneaaGreatDoor
open Go.RowKit
theorem Cl.iv_at {w : World} {g n : Nat} {L : List Int} (h : w.rowIs g 2 n (Bt.upTo n (Ig.iv L) (.int .i64 0))) (hL : L.length = n) : Ig.At w.heap.size w (.slice (some ⟨g, 0, none⟩) (n : Nat) n) L := by
  subst hL
  refine ⟨_, L.length, rfl, Nat.le_refl _, Nat.le_refl _, .inr ⟨g, 0, rfl, World.rowIs.lt h, fun i hi => ?_⟩⟩
  rw [Nat.zero_add, World.rowIs.cell h hi]
  unfold Bt.upTo
  rw [if_pos hi]
  rfl
theorem Cl.sv_at {w : World} {g n : Nat} {L : List Tx.Str} (h : w.rowIs g 9 n (Bt.upTo n (Tx.sv L) (.string ⟨#[]⟩))) (hL : L.length = n) : Tx.At w.heap.size w (.slice (some ⟨g, 0, none⟩) (n : Nat) n) L := by
  subst hL
  refine ⟨_, L.length, rfl, Nat.le_refl _, Nat.le_refl _, .inr ⟨g, 0, rfl, World.rowIs.lt h, fun i hi => ?_⟩⟩
  rw [Nat.zero_add, World.rowIs.cell h hi]
  unfold Bt.upTo
  rw [if_pos hi]
theorem Cl.n_at {M : List Kn.V} {k : Nat} {x : Kn.V} (h : M[k]? = some x) : Ig.iv (M.map fun v => v.n) k = .int .i64 x.n := by
  unfold Ig.iv Ig.nth
  rw [List.getD, List.getElem?_map, h]
  rfl
theorem Cl.s_at {M : List Kn.V} {k : Nat} {x : Kn.V} (h : M[k]? = some x) : Tx.sv (M.map fun v => v.s.data.toList) k = .string x.s := by
  unfold Tx.sv
  rw [List.getD, List.getElem?_map, h]
  show Value.string (Ty.S x.s.data.toList) = _
  rw [Ty.S_data]
set_option maxHeartbeats 2000000 in
set_option maxRecDepth 100000 in
theorem Cl.writePresent_n (u : Value) (M : List Kn.V) (w : World) (hw : Ty.Tabs w) (hu : Kn.Vals w u M) (hl : M.length ≤ 65536) (hi : ∀ v ∈ M, Ty.I64 v.n) :
    Calls Tryz.prog 21 #[.int .i64 1, u] w fun e w' => e = .returned (.string (Ty.S (Cl.pv 1 M))) ∧ Below w.heap.size w w' := by
  have hmk := run_make_row' (P := Tryz.prog) 76 2 (.int .i64 0) 8 Tryz.underlying76 Ig.infoI rfl .i64 .i64 M.length (by omega) (by omega)
  have CB : Hid (∀ (v : Value) (wz : World), Ty.Tabs wz → Ig.At wz.heap.size wz v (M.map fun v => v.n) → Calls Tryz.prog 40 #[v] wz fun e w' => e = .returned (.tuple #[.string (Ty.S (Cl.pv 1 M)), .int .i64 0]) ∧ Below wz.heap.size wz w') := Lib.hid fun v wz hT hA => by
    have := Ig.best_c v _ wz hT hA (fun x hx => by obtain ⟨y, hy, rfl⟩ := List.mem_map.1 hx; exact hi y hy) (by rw [List.length_map]; omega)
    rwa [Ig.bestV_good (by rw [List.length_map]; omega)] at this
  have HT := Lib.hid hw
  obtain ⟨a, cp, rfl, h⟩ := hu
  have HH := Lib.hid h
  have HFV := Lib.hid fun (k : Nat) (x : Kn.V) (h : M[k]? = some x) => Cl.n_at (M := M) h
  have HLM : Hid ((M.map fun v => v.n).length = M.length) := Lib.hid (List.length_map _)
  generalize Ty.S (Cl.pv 1 M) = S at CB ⊢
  generalize (M.map fun v => v.n) = L at CB HFV HLM
  clear h hw hi
  have hl3 : (M.length : Int) ≤ 65536 := by omega
  clear hl
  go_enter Tryz.func21, Tryz.ntmps21
  go_wp2_with fail
  have hR : (w.alloc (.cells (madeCells #[.int .i64 0] M.length) 2)).rowIs w.heap.size 2 M.length (Bt.upTo 0 (Ig.iv L) (.int .i64 0)) := (World.rowIs_made w (.int .i64 0) M.length 2).congr fun i _ => by unfold Bt.upTo; rw [if_neg (by omega)]
  have hB : Below w.heap.size w (w.alloc (.cells (madeCells #[.int .i64 0] M.length) 2)) := (Below.refl _ _).alloc (Nat.le_refl _) _
  generalize w.alloc (.cells (madeCells #[.int .i64 0] M.length) 2) = w2 at hR hB ⊢
  clear hmk
  obtain ⟨g, hg⟩ : ∃ g, g = w.heap.size := ⟨_, rfl⟩
  rw [← hg] at hR hB ⊢
  have HGE := Lib.hid hg
  clear hg
  go_loopw [44] (fun i wr => ∃ k : Nat, k ≤ M.length ∧ i = .int .i64 k ∧ wr.rowIs g 2 M.length (Bt.upTo k (Ig.iv L) (.int .i64 0)) ∧ Below g w wr) (fun i _ => M.length - (intOf i).toNat)
  case atStart => exact ⟨0, by omega, rfl, hR, hB⟩
  case round =>
    obtain ⟨k, hk, rfl, hRk, hBk⟩ := hrel
    have HR := Lib.hid hRk
    have HB := Lib.hid hBk
    clear hR hB hRk hBk
    by_cases hlk : k < M.length
    · rcases HH.out with h | ⟨b, o, rfl, hbl, hm, h⟩
      · exact absurd hlk (by rw [h]; simp)
      · obtain ⟨x, hx⟩ : ∃ x, M[k]? = some x := ⟨_, List.getElem?_eq_getElem hlk⟩
        have hblg : b < g := by rw [HGE.out]; exact hbl
        have hA := h k x hx
        have HU := Lib.hid (HFV.out k x hx).symm
        have a0 := (HB.out.cell (p := ⟨b, o + k * 3, none⟩) hblg).trans hA.c0
        have a1 := (HB.out.cell (p := ⟨b, o + k * 3 + 1, none⟩) hblg).trans hA.c1
        have a2 := (HB.out.cell (p := ⟨b, o + k * 3 + 2, none⟩) hblg).trans hA.c2
        have hkl : (k : Int) < (M.length : Int) := by omega
        have hk0 : (0 : Int) ≤ (k : Int) := by omega
        have hcl := HR.out.cell hlk
        have hf := HR.out.frozen k
        have hgl : g < wr.heap.size := HR.out.lt
        clear h hx hA hm
        go_wp2
        go_roundw
        case rel => exact ⟨k + 1, by omega, by simp, World.rowIs.alloc (Bt.upTo_next HR.out HU.out) _, (HB.out.trans (Bt.below_set (Nat.le_refl _) _)).alloc (Nat.le_of_lt (World.rowIs.lt (Bt.upTo_next HR.out HU.out))) _⟩
        case measure => simp [intOf]; omega
    · obtain rfl : k = M.length := by omega
      have hkl : ¬ (M.length : Int) < (M.length : Int) := by omega
      have hbb := HB.out
      rw [HGE.out] at hbb
      have cb := CB.out _ wr (HT.out.below hbb HT.out.two) (Cl.iv_at HR.out HLM.out)
      have HBB := Lib.hid hbb
      clear hbb
      go_wp2_with fail
      refine cb.mono ?_
      rintro e w3 ⟨rfl, g3⟩
      have HB3 := Lib.hid (HBB.out.trans (g3.mono HBB.out.size))
      clear cb g3
      go_wp2
      go_ret
      exact ⟨rfl, HB3.out⟩
set_option maxHeartbeats 2000000 in
set_option maxRecDepth 100000 in
theorem Cl.writePresent_s (u : Value) (M : List Kn.V) (w : World) (hw : Ty.Tabs w) (hu : Kn.Vals w u M) (hl : M.length ≤ 65536) (hf : Tx.fit (M.map fun v => v.s.data.toList) = true) :
    Calls Tryz.prog 21 #[.int .i64 2, u] w fun e w' => e = .returned (.string (Ty.S (Cl.pv 2 M))) ∧ Below w.heap.size w w' := by
  have hmk := run_make_row' (P := Tryz.prog) 74 9 (.string ⟨#[]⟩) 16 Tryz.underlying74 Tx.infoS rfl .i64 .i64 M.length (by omega) (by omega)
  have CB : Hid (∀ (v : Value) (wz : World), Ty.Tabs wz → Tx.At wz.heap.size wz v (M.map fun v => v.s.data.toList) → Calls Tryz.prog 39 #[v] wz fun e w' => e = .returned (.tuple #[.string (Ty.S (Cl.pv 2 M)), .int .i64 0]) ∧ Below wz.heap.size wz w') := Lib.hid fun v wz hT hA => by
    have := Tx.best_c v _ wz hT hA (by rw [List.length_map]; omega)
    unfold Tx.bestV at this
    rwa [if_pos hf] at this
  have HT := Lib.hid hw
  obtain ⟨a, cp, rfl, h⟩ := hu
  have HH := Lib.hid h
  have HFV := Lib.hid fun (k : Nat) (x : Kn.V) (h : M[k]? = some x) => Cl.s_at (M := M) h
  have HLM : Hid ((M.map fun v => v.s.data.toList).length = M.length) := Lib.hid (List.length_map _)
  generalize Ty.S (Cl.pv 2 M) = S at CB ⊢
  generalize (M.map fun v => v.s.data.toList) = L at CB HFV HLM
  clear h hw hf
  have hl3 : (M.length : Int) ≤ 65536 := by omega
  clear hl
  go_enter Tryz.func21, Tryz.ntmps21
  go_wp2_with fail
  have hR : (w.alloc (.cells (madeCells #[.string ⟨#[]⟩] M.length) 9)).rowIs w.heap.size 9 M.length (Bt.upTo 0 (Tx.sv L) (.string ⟨#[]⟩)) := (World.rowIs_made w (.string ⟨#[]⟩) M.length 9).congr fun i _ => by unfold Bt.upTo; rw [if_neg (by omega)]
  have hB : Below w.heap.size w (w.alloc (.cells (madeCells #[.string ⟨#[]⟩] M.length) 9)) := (Below.refl _ _).alloc (Nat.le_refl _) _
  generalize w.alloc (.cells (madeCells #[.string ⟨#[]⟩] M.length) 9) = w2 at hR hB ⊢
  clear hmk
  obtain ⟨g, hg⟩ : ∃ g, g = w.heap.size := ⟨_, rfl⟩
  rw [← hg] at hR hB ⊢
  have HGE := Lib.hid hg
  clear hg
  go_loopw [22] (fun i wr => ∃ k : Nat, k ≤ M.length ∧ i = .int .i64 k ∧ wr.rowIs g 9 M.length (Bt.upTo k (Tx.sv L) (.string ⟨#[]⟩)) ∧ Below g w wr) (fun i _ => M.length - (intOf i).toNat)
  case atStart => exact ⟨0, by omega, rfl, hR, hB⟩
  case round =>
    obtain ⟨k, hk, rfl, hRk, hBk⟩ := hrel
    have HR := Lib.hid hRk
    have HB := Lib.hid hBk
    clear hR hB hRk hBk
    by_cases hlk : k < M.length
    · rcases HH.out with h | ⟨b, o, rfl, hbl, hm, h⟩
      · exact absurd hlk (by rw [h]; simp)
      · obtain ⟨x, hx⟩ : ∃ x, M[k]? = some x := ⟨_, List.getElem?_eq_getElem hlk⟩
        have hblg : b < g := by rw [HGE.out]; exact hbl
        have hA := h k x hx
        have HU := Lib.hid (HFV.out k x hx).symm
        have a0 := (HB.out.cell (p := ⟨b, o + k * 3, none⟩) hblg).trans hA.c0
        have a1 := (HB.out.cell (p := ⟨b, o + k * 3 + 1, none⟩) hblg).trans hA.c1
        have a2 := (HB.out.cell (p := ⟨b, o + k * 3 + 2, none⟩) hblg).trans hA.c2
        have hkl : (k : Int) < (M.length : Int) := by omega
        have hk0 : (0 : Int) ≤ (k : Int) := by omega
        have hcl := HR.out.cell hlk
        have hf := HR.out.frozen k
        have hgl : g < wr.heap.size := HR.out.lt
        clear h hx hA hm
        go_wp2
        go_roundw
        case rel => exact ⟨k + 1, by omega, by simp, World.rowIs.alloc (Bt.upTo_next HR.out HU.out) _, (HB.out.trans (Bt.below_set (Nat.le_refl _) _)).alloc (Nat.le_of_lt (World.rowIs.lt (Bt.upTo_next HR.out HU.out))) _⟩
        case measure => simp [intOf]; omega
    · obtain rfl : k = M.length := by omega
      have hkl : ¬ (M.length : Int) < (M.length : Int) := by omega
      have hbb := HB.out
      rw [HGE.out] at hbb
      have cb := CB.out _ wr (HT.out.below hbb HT.out.two) (Cl.sv_at HR.out HLM.out)
      have HBB := Lib.hid hbb
      clear hbb
      go_wp2_with fail
      refine cb.mono ?_
      rintro e w3 ⟨rfl, g3⟩
      have HB3 := Lib.hid (HBB.out.trans (g3.mono HBB.out.size))
      clear cb g3
      go_wp2
      go_ret
      exact ⟨rfl, HB3.out⟩
theorem Cl.writePresent_c (k : Int) (u : Value) (M : List Kn.V) (w : World) (hw : Ty.Tabs w) (hu : Kn.Vals w u M) (hl : M.length ≤ 65536) (hi : ∀ v ∈ M, Ty.I64 v.n) (hk : k = 1 ∨ k = 2) (hf : k = 2 → Tx.fit (M.map fun v => v.s.data.toList) = true) :
    Calls Tryz.prog 21 #[.int .i64 k, u] w fun e w' => e = .returned (.string (Ty.S (Cl.pv k M))) ∧ Below w.heap.size w w' := by
  rcases hk with rfl | rfl
  · exact Cl.writePresent_n u M w hw hu hl hi
  · exact Cl.writePresent_s u M w hw hu hl (hf rfl)
end Go.Proofs.YtcognkgabdaneaaGreatDoor

namespace Go.Proofs.YtcognkgabdaneaaGreatDoor
open Go.RowKit
open Ty (num)
open Ig (rest)
theorem Cl.drop_tail (l : List UInt8) (k : Nat) : l.drop (l.length - (l.drop k).length) = l.drop k := by
  rw [List.length_drop]
  rcases Nat.lt_or_ge k l.length with h | h
  · rw [show l.length - (l.length - k) = k by omega]
  · rw [show l.length - (l.length - k) = l.length by omega, List.drop_length, List.drop_eq_nil_of_le h]
/-- What readNulls leaves: the first error; the booleans and the bytes behind them. -/
def Cl.RN (w : World) (l : List UInt8) (e : Ending) (w' : World) : Prop :=
  ∃ v t, e = .returned (.tuple #[v, .string t, .int .i64 ((Cl.rnE l : Nat) : Int)]) ∧ (Cl.rnE l = 0 → t = Ty.S (Cl.vb l) ∧ Bt.Sl w' v (num l).1 (Bt.bv (Bt.bit (Cl.bb l)))) ∧ Below w.heap.size w w'
theorem Cl.RN.bad {w w' : World} {l : List UInt8} {v : Value} {t : ByteArray} {q : Nat} {z : Int} (h : Cl.rnE l = q) (hq : q ≠ 0) (hz : z = (q : Int)) (g : Below w.heap.size w w') : Cl.RN w l (.returned (.tuple #[v, .string t, .int .i64 z])) w' :=
  ⟨v, t, by rw [h, hz], fun e => absurd (h.symm.trans e) hq, g⟩
set_option maxHeartbeats 4000000 in
set_option maxRecDepth 100000 in
theorem Cl.readNulls_c (s : ByteArray) (w : World) (hw : Ty.Tabs w) (hs : s.size ≤ 140737488351232) :
    Calls Tryz.prog 26 #[.string s] w (Cl.RN w s.data.toList) := by
  have hsl : s = Ty.S s.data.toList := rfl
  have hll : s.data.toList.length ≤ 140737488351232 := by rw [Ty.length_data]; exact hs
  rw [hsl, Ty.data_S]
  generalize s.data.toList = l at hll ⊢
  clear hsl hs
  have cf := Ty.from_f l w hw
  have hG := hw.two
  have cu := fun b wz (hT : Ty.Tabs wz) (hc : Ty.Cur b wz l 0) => Tx.cuint_m b l wz hT hc (by omega)
  have HE : Hid (Cl.rnE l = if (num l).2.2 ≠ 0 then (num l).2.2 else if 65536 < (num l).1 then 3 else if (rest l).length < Bt.need (num l).1 then 2 else Bt.chk (Cl.bb l) (num l).1) := Lib.hid rfl
  have HB : Hid (Cl.bb l = Ty.S ((rest l).take (Bt.need (num l).1)) ∧ Cl.vb l = (rest l).drop (Bt.need (num l).1)) := Lib.hid ⟨rfl, rfl⟩
  have HTL : Hid (l.drop (l.length - (rest l).length) = rest l) := Lib.hid (Cl.drop_tail l _)
  have hle : (rest l).length ≤ l.length := Tx.rest_le l
  obtain ⟨R, hR⟩ : ∃ R, R = Cl.RN w l := ⟨_, rfl⟩
  rw [← hR]
  have HRB : Hid (∀ (v : Value) (t : ByteArray) (q : Nat) (z : Int) (w' : World), Cl.rnE l = q → q ≠ 0 → z = (q : Int) → Below w.heap.size w w' → R (.returned (.tuple #[v, .string t, .int .i64 z])) w') := Lib.hid fun v t q z w' h1 h2 h3 h4 => by rw [hR]; exact Cl.RN.bad h1 h2 h3 h4
  have HRG : Hid (∀ (v : Value) (w' : World), Cl.rnE l = 0 → Bt.Sl w' v (num l).1 (Bt.bv (Bt.bit (Cl.bb l))) → Below w.heap.size w w' → R (.returned (.tuple #[v, .string (Ty.S (Cl.vb l)), .int .i64 0])) w') := Lib.hid fun v w' h1 h2 h3 => by rw [hR]; exact ⟨v, _, by rw [h1]; rfl, fun _ => ⟨rfl, h2⟩, h3⟩
  generalize Cl.bb l = S at HE HB HRG
  generalize Cl.vb l = r9 at HB HRG
  generalize Cl.rnE l = Q at HE HRB HRG
  generalize rest l = l2 at cu HE HB HTL hle
  generalize (num l).1 = n at cu HE HB HRG
  generalize (num l).2.2 = E at cu HE
  have HRQ := Lib.hid hR
  clear hR
  obtain ⟨xs, hxs⟩ : ∃ xs, xs = Ty.S l := ⟨_, rfl⟩
  have HXS := Lib.hid hxs
  have hxz : xs.size = l.length := by rw [hxs]; rfl
  rw [← hxs] at cf ⊢
  clear hxs
  by_cases hE : E = 0
  · subst hE
    by_cases hn : 65536 < n
    · have HQ : Hid (Q = 3) := Lib.hid (HE.out.trans (by rw [if_neg (by simp), if_pos hn]))
      have hni : (65536 : Int) < (n : Int) := by omega
      clear hn
      go_enter Tryz.func26, Tryz.ntmps26
      go_wp2_with fail
      refine cf.mono ?_
      rintro e w1 ⟨rfl, hc1, hT1, hg1⟩
      have cu1 := cu _ _ hT1 hc1
      have HB1 := Lib.hid (Ty.below_none hg1 (Nat.le_refl _))
      have hs1 := HB1.out.size
      clear cf cu hc1 hg1 hT1
      go_wp2_with fail
      refine cu1.mono ?_
      rintro e w2 ⟨rfl, hc2, hg2⟩
      have HB2 := Lib.hid (HB1.out.trans (Ty.below_at (B := w.heap.size) hg2 hs1 (Nat.le_refl _)))
      have ce := Ty.err_c w.heap.size _ 0 _ hc2
      clear cu1 hg2 hc2
      go_wp2_with fail
      refine ce.mono ?_
      rintro e w3 ⟨rfl, rfl⟩
      clear ce
      go_wp2
      go_ret3
      exact HRB.out _ _ 3 _ _ HQ.out (by decide) rfl HB2.out
    · have hni : ¬ (65536 : Int) < (n : Int) := by omega
      have hn0 : (0 : Int) ≤ (n : Int) := by omega
      have hn65 : (n : Int) ≤ 65536 := by omega
      obtain ⟨sz, hszq⟩ : ∃ sz, sz = Bt.need n := ⟨_, rfl⟩
      rw [← hszq] at HE HB
      have hd : ((n : Int) + 7) / 8 = (sz : Int) := by rw [hszq]; unfold Bt.need; omega
      have hsz9 : sz ≤ 8193 := by rw [hszq]; unfold Bt.need; omega
      have hwn : wrap64 (n : Int) = (n : Int) := by unfold wrap64; omega
      have HE2 : Hid (Q = if l2.length < sz then 2 else Bt.chk S n) := Lib.hid (HE.out.trans (by rw [if_neg (by simp), if_neg hn]))
      clear hszq hn
      go_enter Tryz.func26, Tryz.ntmps26
      go_wp2_with fail
      refine cf.mono ?_
      rintro e w1 ⟨rfl, hc1, hT1, hg1⟩
      have cu1 := cu _ _ hT1 hc1
      have HB1 := Lib.hid (Ty.below_none hg1 (Nat.le_refl _))
      have hs1 := HB1.out.size
      clear cf cu hc1 hg1 hT1
      go_wp2_with fail
      refine cu1.mono ?_
      rintro e w2 ⟨rfl, hc2, hg2⟩
      have HB2 := Lib.hid (HB1.out.trans (Ty.below_at (B := w.heap.size) hg2 hs1 (Nat.le_refl _)))
      have ce := Ty.err_c w.heap.size _ 0 _ hc2
      have cl := Ty.left_c w.heap.size _ 0 _ hc2
      clear cu1 hg2 hc2
      go_wp2_with fail
      refine ce.mono ?_
      rintro e w3 ⟨rfl, rfl⟩
      clear ce
      have CL := Lib.hid cl
      clear cl
      go_wp2_with fail
      refine CL.out.mono ?_
      rintro e w4 ⟨rfl, rfl⟩
      by_cases hlt : l2.length < sz
      · have HQ : Hid (Q = 2) := Lib.hid (HE2.out.trans (by rw [if_pos hlt]))
        have hlti : (l2.length : Int) < (sz : Int) := by omega
        clear hlt
        go_wp2
        go_ret3
        exact HRB.out _ _ 2 _ _ HQ.out (by decide) rfl HB2.out
      · have hlti : ¬ (l2.length : Int) < (sz : Int) := by omega
        have HQ : Hid (Q = Bt.chk S n) := Lib.hid (HE2.out.trans (by rw [if_neg hlt]))
        obtain ⟨q, hq⟩ : ∃ q, q = l.length - l2.length := ⟨_, rfl⟩
        have hex : xs.extract q l.length = Ty.S l2 := by
          rw [← hxz, HXS.out, Ty.extract_S, Ty.data_S, Ty.size_S, List.take_of_length_le (by rw [List.length_drop]; exact Nat.le_refl _), hq, HTL.out]
        have hqi : wrap64 ((l.length : Int) - (l2.length : Int)) = (q : Int) := by unfold wrap64; omega
        have hq0 : (0 : Int) ≤ (q : Int) := by omega
        have hqs : (q : Int) ≤ (l.length : Int) := by omega
        have hqn : ((q : Nat) : Int).toNat = q := Int.toNat_natCast q
        go_wp2_with fail
        refine CL.out.mono ?_
        rintro e w5 ⟨rfl, rfl⟩
        have hyz : (Ty.S l2).size = l2.length := rfl
        have hex1 : (Ty.S l2).extract 0 sz = S := by rw [Ty.extract_S, Ty.data_S, HB.out.1, List.drop_zero, Nat.sub_zero]
        have hex2 : (Ty.S l2).extract sz l2.length = Ty.S r9 := by rw [← Ty.size_S l2, Ty.extract_S, Ty.data_S, Ty.size_S, List.take_of_length_le (by rw [List.length_drop]; exact Nat.le_refl _), HB.out.2]
        have hS9 : S.size ≤ 140737488355328 := by rw [HB.out.1, Ty.size_S, List.length_take]; omega
        generalize Ty.S l2 = ys at hex hyz hex1 hex2
        have ce : Bt.utE S (n : Int) = Bt.chk S n := by unfold Bt.utE; rw [if_pos ⟨hn0, hn65⟩]; rfl
        have cun := fun wz => Bt.untruths_c S (n : Int) wz hS9
        unfold Bt.utN at cun
        rw [ce, Int.toNat_natCast] at cun
        generalize hC : Bt.chk S n = C at cun HQ
        have z1 : (0 : Int) ≤ (sz : Int) := by omega
        have z2 : (sz : Int) ≤ (l2.length : Int) := by omega
        clear hlt hle hll hC ce hS9 hq
        go_wp2_with fail
        with_reducible refine (cun _).mono ?_
        rintro e w6 ⟨v6, rfl, hS6, g6⟩
        have HB6 := Lib.hid (HB2.out.trans (g6.mono HB2.out.size))
        clear cun g6
        by_cases hC : C = 0
        · subst hC
          rw [if_pos rfl] at hS6
          have HS6 := Lib.hid hS6
          simp only [Int.natCast_zero]
          clear hS6
          go_wp2_with fail
          go_quiet (fail)
          go_wp2
          go_ret3
          exact HRG.out _ _ HQ.out (HS6.out.later (Bt.drewN_below _ _)) (HB6.out.trans ((Bt.drewN_below _ _).mono HB6.out.size))
        · have hCb : ((C : Int) != 0) = true := by rw [bne_iff_ne]; omega
          have HCN := Lib.hid hC
          clear hC hS6
          go_wp2
          go_ret3
          exact HRB.out _ _ C _ _ HQ.out HCN.out rfl HB6.out
  · have HQ : Hid (Q = E) := Lib.hid (HE.out.trans (by rw [if_pos hE]))
    have hEb : ((E : Int) != 0) = true := by rw [bne_iff_ne]; omega
    have HEN := Lib.hid hE
    clear hE
    go_enter Tryz.func26, Tryz.ntmps26
    go_wp2_with fail
    refine cf.mono ?_
    rintro e w1 ⟨rfl, hc1, hT1, hg1⟩
    have cu1 := cu _ _ hT1 hc1
    have HB1 := Lib.hid (Ty.below_none hg1 (Nat.le_refl _))
    have hs1 := HB1.out.size
    clear cf cu hc1 hg1 hT1
    go_wp2_with fail
    refine cu1.mono ?_
    rintro e w2 ⟨rfl, hc2, hg2⟩
    have HB2 := Lib.hid (HB1.out.trans (Ty.below_at (B := w.heap.size) hg2 hs1 (Nat.le_refl _)))
    have CE := Lib.hid (Ty.err_c w.heap.size _ E _ hc2)
    clear cu1 hg2 hc2
    go_wp2_with fail
    refine CE.out.mono ?_
    rintro e w3 ⟨rfl, rfl⟩
    go_wp2_with fail
    refine CE.out.mono ?_
    rintro e w4 ⟨rfl, rfl⟩
    go_wp2
    go_ret3
    exact HRB.out _ _ E _ _ HQ.out HEN.out rfl HB2.out
end Go.Proofs.YtcognkgabdaneaaGreatDoor

namespace Go.Proofs.YtcognkgabdaneaaGreatDoor
open Go.RowKit
theorem Cl.map_snoc {A : Type} (f : A → Kn.V) {L : List A} {k : Nat} (h : k < L.length) : (L.map f).take (k + 1) = (L.map f).take k ++ [f L[k]] := by
  rw [List.take_succ_eq_append_getElem (by rw [List.length_map]; exact h), List.getElem_map]
set_option maxHeartbeats 2000000 in
set_option maxRecDepth 100000 in
theorem Cl.readPresent_n (s : ByteArray) (w : World) (hw : Ty.Tabs w) (hs : s.size ≤ 140737488351232) :
    Calls Tryz.prog 28 #[.int .i64 1, .string s] w (Cl.Got w ((Ig.rd s.data.toList).1, (Ig.rd s.data.toList).2.map Cl.ofN)) := by
  have cr := Ig.read_c s w hw (by omega)
  have hll := Cl.ird_len s.data.toList
  generalize Ig.rd s.data.toList = R at cr hll ⊢
  obtain ⟨E, L⟩ := R
  simp only at hll ⊢
  have hmk := Cl.run_makeV L.length (by omega)
  have HL := Lib.hid hll
  clear hs hll
  go_enter Tryz.func28, Tryz.ntmps28
  go_wp2_with fail
  refine cr.mono ?_
  rintro e w1 ⟨v, rfl, hA, g1⟩
  obtain ⟨a, cp, rfl, hcp, _, h⟩ := hA
  have HH := Lib.hid h
  have HG1 := Lib.hid g1
  have hz1 := g1.size
  clear cr h g1
  simp only
  go_wp2_with fail
  have hR := Cl.Row.start (w := w1) (n := L.length)
  have hB : Below w1.heap.size w1 (w1.alloc (.cells (madeCells #[.bool false, .int .i64 0, .string ⟨#[]⟩] (L.length * 3)) 36)) := (Below.refl _ _).alloc (Nat.le_refl _) _
  generalize w1.alloc _ = w2 at hR hB ⊢
  clear hmk
  obtain ⟨g, hg⟩ : ∃ g, g = w1.heap.size := ⟨_, rfl⟩
  rw [← hg] at hR hB ⊢
  have HGE := Lib.hid hg
  clear hg
  go_loopw [51] (fun i wr => ∃ k : Nat, k ≤ L.length ∧ i = .int .i64 k ∧ Cl.Row wr g L.length (Cl.fo ((L.map Cl.ofN).take k)) ∧ Below g w1 wr) (fun i _ => L.length - (intOf i).toNat)
  case atStart => exact ⟨0, by omega, rfl, hR, hB⟩
  case round =>
    obtain ⟨k, hk, rfl, hRk, hBk⟩ := hrel
    have HR := Lib.hid hRk
    have HB := Lib.hid hBk
    clear hR hB hRk hBk
    by_cases hlk : k < L.length
    · rcases HH.out with h | ⟨b, o, rfl, hbl, h⟩
      · exact absurd hlk (by rw [h]; simp)
      · have hblg : b < g := by rw [HGE.out]; exact hbl
        have a0 := (HB.out.cell (p := ⟨b, o + k, none⟩) hblg).trans (h k hlk)
        obtain ⟨x, hx⟩ : ∃ x, x = L[k] := ⟨_, rfl⟩
        have ha : Value.int .i64 (Ig.nth L k) = .int .i64 x := by rw [hx]; unfold Ig.nth; rw [List.getD, List.getElem?_eq_getElem hlk]; rfl
        rw [ha] at a0
        have HN : Hid ((L.map Cl.ofN).take (k + 1) = (L.map Cl.ofN).take k ++ [Cl.ofN x]) := Lib.hid (by rw [hx]; exact Cl.map_snoc _ hlk)
        have HTL : Hid (((L.map Cl.ofN).take k).length = k) := Lib.hid (by rw [List.length_take, List.length_map]; omega)
        have hkl : (k : Int) < (L.length : Int) := by omega
        have hk0 : (0 : Int) ≤ (k : Int) := by omega
        have hcl := HR.out.c1 hlk
        have hf := World.rowIs.frozen HR.out (k * 3 + 1)
        have hL6 := HL.out
        clear h hx ha
        go_wp2
        go_roundw
        case rel => exact ⟨k + 1, by omega, by simp, by rw [HN.out]; exact HR.out.snoc_n HTL.out x, Cl.below_cell HB.out (Nat.le_refl _) _⟩
        case measure => simp [intOf]; omega
    · obtain rfl : k = L.length := by omega
      have hkl : ¬ (L.length : Int) < (L.length : Int) := by omega
      have HTK : Hid ((L.map Cl.ofN).take L.length = L.map Cl.ofN) := Lib.hid (List.take_of_length_le (by rw [List.length_map]; exact Nat.le_refl _))
      go_wp2
      go_ret2
      refine ⟨_, rfl, Cl.Row.done (by rw [← HTK.out]; exact HR.out) (List.length_map _) (by have := HL.out; omega), HG1.out.trans (HB.out.mono (by rw [HGE.out]; exact hz1))⟩
set_option maxHeartbeats 2000000 in
set_option maxRecDepth 100000 in
theorem Cl.readPresent_s (s : ByteArray) (w : World) (hw : Ty.Tabs w) (hs : s.size ≤ 140737488351232) :
    Calls Tryz.prog 28 #[.int .i64 2, .string s] w (Cl.Got w ((Tx.rd s.data.toList).1, (Tx.rd s.data.toList).2.map Cl.ofS)) := by
  have cr := Tx.read_c s w hw (by omega)
  have hll := Cl.trd_len s.data.toList
  generalize Tx.rd s.data.toList = R at cr hll ⊢
  obtain ⟨E, L⟩ := R
  simp only at hll ⊢
  have hmk := Cl.run_makeV L.length (by omega)
  have HL := Lib.hid hll
  clear hs hll
  go_enter Tryz.func28, Tryz.ntmps28
  go_wp2_with fail
  refine cr.mono ?_
  rintro e w1 ⟨v, rfl, hA, g1⟩
  obtain ⟨a, cp, rfl, hcp, _, h⟩ := hA
  have HH := Lib.hid h
  have HG1 := Lib.hid g1
  have hz1 := g1.size
  clear cr h g1
  simp only
  go_wp2_with fail
  have hR := Cl.Row.start (w := w1) (n := L.length)
  have hB : Below w1.heap.size w1 (w1.alloc (.cells (madeCells #[.bool false, .int .i64 0, .string ⟨#[]⟩] (L.length * 3)) 36)) := (Below.refl _ _).alloc (Nat.le_refl _) _
  generalize w1.alloc _ = w2 at hR hB ⊢
  clear hmk
  obtain ⟨g, hg⟩ : ∃ g, g = w1.heap.size := ⟨_, rfl⟩
  rw [← hg] at hR hB ⊢
  have HGE := Lib.hid hg
  clear hg
  go_loopw [28] (fun i wr => ∃ k : Nat, k ≤ L.length ∧ i = .int .i64 k ∧ Cl.Row wr g L.length (Cl.fo ((L.map Cl.ofS).take k)) ∧ Below g w1 wr) (fun i _ => L.length - (intOf i).toNat)
  case atStart => exact ⟨0, by omega, rfl, hR, hB⟩
  case round =>
    obtain ⟨k, hk, rfl, hRk, hBk⟩ := hrel
    have HR := Lib.hid hRk
    have HB := Lib.hid hBk
    clear hR hB hRk hBk
    by_cases hlk : k < L.length
    · rcases HH.out with h | ⟨b, o, rfl, hbl, h⟩
      · exact absurd hlk (by rw [h.1]; simp)
      · have hblg : b < g := by rw [HGE.out]; exact hbl
        have a0 := (HB.out.cell (p := ⟨b, o + k, none⟩) hblg).trans (h k hlk)
        obtain ⟨x, hx⟩ : ∃ x, x = L[k] := ⟨_, rfl⟩
        have ha : Tx.sv L k = .string (Ty.S x) := by rw [hx]; unfold Tx.sv; rw [List.getD, List.getElem?_eq_getElem hlk]; rfl
        rw [ha] at a0
        have HN : Hid ((L.map Cl.ofS).take (k + 1) = (L.map Cl.ofS).take k ++ [Cl.ofS x]) := Lib.hid (by rw [hx]; exact Cl.map_snoc _ hlk)
        have HTL : Hid (((L.map Cl.ofS).take k).length = k) := Lib.hid (by rw [List.length_take, List.length_map]; omega)
        have hkl : (k : Int) < (L.length : Int) := by omega
        have hk0 : (0 : Int) ≤ (k : Int) := by omega
        have hcl := HR.out.c2 hlk
        have hf := World.rowIs.frozen HR.out (k * 3 + 2)
        have hL6 := HL.out
        clear h hx ha
        go_wp2
        go_roundw
        case rel => exact ⟨k + 1, by omega, by simp, by rw [HN.out]; exact HR.out.snoc_s HTL.out x, Cl.below_cell HB.out (Nat.le_refl _) _⟩
        case measure => simp [intOf]; omega
    · obtain rfl : k = L.length := by omega
      have hkl : ¬ (L.length : Int) < (L.length : Int) := by omega
      have HTK : Hid ((L.map Cl.ofS).take L.length = L.map Cl.ofS) := Lib.hid (List.take_of_length_le (by rw [List.length_map]; exact Nat.le_refl _))
      go_wp2
      go_ret2
      refine ⟨_, rfl, Cl.Row.done (by rw [← HTK.out]; exact HR.out) (List.length_map _) (by have := HL.out; omega), HG1.out.trans (HB.out.mono (by rw [HGE.out]; exact hz1))⟩
theorem Cl.readPresent_c (c : Kn.C) (hg : c.good = true) (s : ByteArray) (w : World) (hw : Ty.Tabs w) (hs : s.size ≤ 140737488351232) :
    Calls Tryz.prog 28 #[.int .i64 c.k, .string s] w (Cl.Got w (Cl.back c s.data.toList)) := by
  unfold Cl.back
  rcases (Cl.good_iff c).1 hg with h | h
  · rw [h, if_pos rfl]; exact Cl.readPresent_n s w hw hs
  · rw [h, if_neg (by decide)]; exact Cl.readPresent_s s w hw hs
end Go.Proofs.YtcognkgabdaneaaGreatDoor
