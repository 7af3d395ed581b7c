/-
  Contracts of package texts: the reader of either codec; Read.
  Contracts of package column: values none of which is null, read of bytes.
  Contracts of package column: values and nulls laid together; is one of the booleans true.
  Contracts of package column: Write and Read, in full.
  Contracts of package block: Write.
-/
import Derived.Test.YtfbjmehkipcmbaaGreatDoorZAW
import Derived.Test.YtfbjmehkipcmbaaGreatDoorZAV
import Derived.Test.YtfbjmehkipcmbaaGreatDoorZAL
import Derived.Test.YtfbjmehkipcmbaaGreatDoorZAS
import Derived.Test.YtfbjmehkipcmbaaGreatDoorZAT
import Derived.Test.YtfbjmehkipcmbaaGreatDoorZAU
import Derived.Test.YtfbjmehkipcmbaaGreatDoorZAQ
namespace Go.Proofs.YtfbjmehkipcmbaaGreatDoor
open Go.RowKit
open Ty (num)
open Ig (rest)
open Tx (rdBody rd)
set_option maxRecDepth 100000 in
set_option maxHeartbeats 1000000 in
theorem Tx.readElements_c (b n K : Nat) (hK : K ≤ 1) (l : List UInt8) (w : World) (hw : Ty.Tabs w) (hG : Ty.G ≤ b) (h : Ty.Cur b w l 0) (hl : l.length ≤ 140737488355328) (hn : n ≤ 65536) :
    Calls Tryz.prog 157 #[.pointer (some ⟨b, 0, none⟩), .int .i64 n, .int .i64 K] w (Tx.Rd b w (rdBody K n l)) := by
  rcases (by omega : K = 0 ∨ K = 1) with rfl | rfl
  · have cr := Tx.readStrings_c b n l false w hw hG h hl hn
    rw [Tx.rdBody0]
    clear h hK
    go_enter Tryz.func157, Tryz.ntmps157
    go_wp2_with fail
    refine cr.mono ?_
    rintro e w3 ⟨v, rfl, hr⟩
    have HR := Lib.hid hr
    clear cr hr
    go_wp2
    go_ret2
    exact ⟨v, rfl, HR.out⟩
  · have cr := Tx.readDictionary_c b n l w hw hG h hl hn
    clear h hK
    go_enter Tryz.func157, Tryz.ntmps157
    go_wp2_with fail
    refine cr.mono ?_
    rintro e w3 ⟨v, rfl, hr⟩
    have HR := Lib.hid hr
    clear cr hr
    go_wp2
    go_ret2
    exact ⟨v, rfl, HR.out⟩
set_option maxHeartbeats 4000000 in
set_option maxRecDepth 100000 in
theorem Tx.read_c (s : ByteArray) (w : World) (hw : Ty.Tabs w) (hs : s.size ≤ 140737488355328) :
    Calls Tryz.prog 136 #[.string s] w (Tx.Got w (rd s.data.toList)) := by
  have hsl : s = Ty.S s.data.toList := rfl
  have hll : s.data.toList.length ≤ 140737488355328 := by rw [Ty.length_data]; exact hs
  rw [hsl, Ty.data_S]
  generalize s.data.toList = l at hll ⊢
  clear hsl hs
  have cf := Ty.from_f l w hw
  have hG := hw.two
  cases l with
  | nil =>
    have HR : Hid (rd [] = (2, [])) := Lib.hid rfl
    have e1 : Ty.rdB [] 0 = (0, [], 2) := rfl
    have cb := fun b wz (hc : Ty.Cur b wz [] 0) => Ty.cbyte_c b [] 0 wz hc (by simp)
    have crc := fun b wz (hT : Ty.Tabs wz) (hc : Ty.Cur b wz [] 2) => Tx.readCount_bad b 2 [] wz hT hc (by decide) (by simp)
    rw [e1] at cb
    clear e1 hll
    go_enter Tryz.func136, Tryz.ntmps136
    go_wp2_with fail
    refine cf.mono ?_
    rintro e w1 ⟨rfl, hc1, hT1, hg1⟩
    have hs1 := hg1.size
    have cb1 := cb _ _ hc1
    have HB1 := Lib.hid (Ty.below_none hg1 (Nat.le_refl _))
    clear cf cb hc1 hg1
    go_wp2_with fail
    refine cb1.mono ?_
    rintro e w2 ⟨rfl, hc2, hg2⟩
    have crc2 := crc _ _ (hT1.at_ hg2 hG) hc2
    have HB2 := Lib.hid (HB1.out.trans (Ty.below_at (B := w.heap.size) hg2 hs1 (Nat.le_refl _)))
    have hs2 := HB2.out.size
    clear cb1 hc2 hg2 hT1 crc
    go_wp2_with fail
    refine crc2.mono ?_
    rintro e w3 ⟨rfl, hg3⟩
    have HB3 := Lib.hid (HB2.out.trans (Ty.below_at (B := w.heap.size) hg3 hs2 (Nat.le_refl _)))
    clear crc2 hg3
    go_wp2
    go_ret2
    exact Tx.Got.bad HR.out rfl HB3.out
  | cons x r =>
    have hrl : r.length ≤ 140737488355328 := by rw [List.length_cons] at hll; omega
    have cb := fun b wz (hc : Ty.Cur b wz (x :: r) 0) => Pk.cbyte_m b x r wz hc (by omega)
    by_cases h1 : 1 < x.toNat
    · have HR := Lib.hid (Tx.rd1 (r := r) h1)
      have h1i : (2 : Int) ≤ (x.toNat : Int) := by omega
      clear h1
      go_enter Tryz.func136, Tryz.ntmps136
      go_wp2_with fail
      refine cf.mono ?_
      rintro e w1 ⟨rfl, hc1, hT1, hg1⟩
      have hs1 := hg1.size
      have cb1 := cb _ _ hc1
      have HB1 := Lib.hid (Ty.below_none hg1 (Nat.le_refl _))
      clear cf cb hc1 hg1
      go_wp2_with fail
      refine cb1.mono ?_
      rintro e w2 ⟨rfl, hc2, hg2⟩
      have HB2 := Lib.hid (HB1.out.trans (Ty.below_at (B := w.heap.size) hg2 hs1 (Nat.le_refl _)))
      clear cb1 hc2 hg2 hT1
      go_wp2
      go_ret2
      exact Tx.Got.bad HR.out rfl HB2.out
    · have crc := fun b wz (hT : Ty.Tabs wz) (hc : Ty.Cur b wz r 0) => Tx.readCount_c b r wz hT hc hrl
      obtain ⟨K, hK⟩ : ∃ K, K = x.toNat := ⟨_, rfl⟩
      have hKi : ¬ (2 : Int) ≤ (K : Int) := by omega
      have hK1 : K ≤ 1 := by omega
      have hr3 := Tx.rest_le r
      have hl3 : (rest r).length ≤ 140737488355328 := by omega
      by_cases hE : Tx.cntE r = 0
      · have he : (num r).2.2 = 0 := by
          unfold Tx.cntE at hE
          by_cases h0 : (num r).2.2 ≠ 0
          · rw [if_pos h0] at hE; exact absurd hE h0
          · simpa using h0
        have hm : ¬ 65536 < (num r).1 := by
          unfold Tx.cntE at hE
          rw [if_neg (by rw [he]; simp)] at hE
          intro h1
          rw [if_pos h1] at hE
          cases hE
        have G4 := Lib.hid (fun h4 => Tx.rd4 (r := r) h1 he hm h4)
        have G5 := Lib.hid (fun h4 h5 => Tx.rd5 (r := r) h1 he hm h4 h5)
        have G6 := Lib.hid (fun h4 h5 => Tx.rd6 (r := r) h1 he hm h4 h5)
        rw [hE] at crc
        rw [← hK] at cb G4 G5 G6
        generalize rd (x :: r) = RR at G4 G5 G6 ⊢
        have ce := fun b wz (hT : Ty.Tabs wz) (hb : Ty.G ≤ b) (hc : Ty.Cur b wz (rest r) 0) => Tx.readElements_c b (num r).1 K hK1 (rest r) wz hT hb hc hl3 (by omega)
        generalize (num r).1 = n at crc G4 G5 G6 ce
        generalize rest r = l3 at crc G4 G5 G6 ce
        generalize rdBody K n l3 = T at ce G4 G5 G6
        obtain ⟨C, L, l4⟩ := T
        simp only at G4 G5 G6
        clear hK h1 he hm hE hr3 hl3 hK1
        go_enter Tryz.func136, Tryz.ntmps136
        go_wp2_with fail
        refine cf.mono ?_
        rintro e w1 ⟨rfl, hc1, hT1, hg1⟩
        have hs1 := hg1.size
        have cb1 := cb _ _ hc1
        have HB1 := Lib.hid (Ty.below_none hg1 (Nat.le_refl _))
        clear cf cb hc1 hg1
        go_wp2_with fail
        refine cb1.mono ?_
        rintro e w2 ⟨rfl, hc2, hg2⟩
        have hT2 := hT1.at_ hg2 hG
        have crc2 := crc _ _ hT2 hc2
        have HB2 := Lib.hid (HB1.out.trans (Ty.below_at (B := w.heap.size) hg2 hs1 (Nat.le_refl _)))
        have hs2 := HB2.out.size
        clear cb1 hc2 hg2 hT1 crc
        go_wp2_with fail
        refine crc2.mono ?_
        rintro e w3 ⟨m', rfl, hgd, hg3⟩
        obtain ⟨rfl, hm6, hc3⟩ := hgd (by trivial)
        have hT3 := hT2.at_ hg3 hG
        have ce3 := ce _ _ hT3 hG hc3
        have hbase : w.heap.size < w3.heap.size := hc3.lt
        have HB3 := Lib.hid (HB2.out.trans (Ty.below_at (B := w.heap.size) hg3 hs2 (Nat.le_refl _)))
        have hs3 := HB3.out.size
        simp only [Int.natCast_zero]
        clear crc2 hg3 hgd hc3 hT2 ce hT3
        go_wp2_with fail
        refine ce3.mono ?_
        rintro e w7 ⟨v7, rfl, hO7, hc7, hg7⟩
        simp only at hO7 hc7
        have HB7 := Lib.hid (HB3.out.trans (Ty.below_at (B := w.heap.size) hg7 hs3 (Nat.le_refl _)))
        clear ce3 hg7
        by_cases hC : C = 0
        · subst hC
          simp only [if_true] at hO7
          have HC8 := Lib.hid (hc7 (by trivial))
          have K5 := Lib.hid (G5.out (by trivial))
          have K6 := Lib.hid (G6.out (by trivial))
          have HA7 := Lib.hid hO7.at
          simp only [Int.natCast_zero]
          have hd := Ty.done_c w.heap.size l4 0 _ HC8.out
          clear hc7 hO7 G4 G5 G6
          by_cases hl4 : l4 = []
          · have HR := Lib.hid (K6.out hl4)
            have hf : Ty.fin l4 0 = 0 := by rw [hl4]; rfl
            rw [hf] at hd
            simp only [Int.natCast_zero] at hd
            clear hl4 hf
            go_wp2_with fail
            refine hd.mono ?_
            rintro e w8 ⟨rfl, rfl⟩
            clear hd
            go_wp2
            go_ret2
            exact Tx.Got.good HR.out HA7.out HB7.out
          · have HR := Lib.hid (K5.out hl4)
            have hf : Ty.fin l4 0 = 5 := by unfold Ty.fin; rw [if_pos ⟨rfl, hl4⟩]
            rw [hf] at hd
            have HF := Lib.hid hf
            clear hl4 hf
            go_wp2_with fail
            refine hd.mono ?_
            rintro e w8 ⟨rfl, rfl⟩
            have hd2 := Ty.done_c w.heap.size l4 0 _ HC8.out
            rw [HF.out] at hd2
            clear hd
            go_wp2_with fail
            refine hd2.mono ?_
            rintro e w9 ⟨rfl, rfl⟩
            clear hd2
            go_wp2
            go_ret2
            exact Tx.Got.bad HR.out rfl HB7.out
        · have HR := Lib.hid (G4.out hC)
          have hne : ((C : Int) != 0) = true := by rw [bne_iff_ne]; omega
          clear hC hO7 hc7
          go_wp2
          go_ret2
          exact Tx.Got.bad HR.out rfl HB7.out
      · have HR : Hid (rd (x :: r) = (Tx.cntE r, [])) := Lib.hid (by
          unfold Tx.cntE at hE ⊢
          by_cases h0 : (num r).2.2 ≠ 0
          · rw [if_pos h0, Tx.rd2 h1 h0]
          · rw [if_neg h0] at hE ⊢
            by_cases h3 : 65536 < (num r).1
            · rw [if_pos h3, Tx.rd3 h1 (by simpa using h0) h3]
            · rw [if_neg h3] at hE
              exact absurd rfl hE)
        rw [← hK] at cb
        generalize rd (x :: r) = RR at HR ⊢
        generalize Tx.cntE r = q at crc hE HR
        have hne : ((q : Int) != 0) = true := by rw [bne_iff_ne]; omega
        clear hK h1 hE hr3 hl3 hK1
        go_enter Tryz.func136, Tryz.ntmps136
        go_wp2_with fail
        refine cf.mono ?_
        rintro e w1 ⟨rfl, hc1, hT1, hg1⟩
        have hs1 := hg1.size
        have cb1 := cb _ _ hc1
        have HB1 := Lib.hid (Ty.below_none hg1 (Nat.le_refl _))
        clear cf cb hc1 hg1
        go_wp2_with fail
        refine cb1.mono ?_
        rintro e w2 ⟨rfl, hc2, hg2⟩
        have hT2 := hT1.at_ hg2 hG
        have crc2 := crc _ _ hT2 hc2
        have HB2 := Lib.hid (HB1.out.trans (Ty.below_at (B := w.heap.size) hg2 hs1 (Nat.le_refl _)))
        have hs2 := HB2.out.size
        clear cb1 hc2 hg2 hT1 crc
        go_wp2_with fail
        refine crc2.mono ?_
        rintro e w3 ⟨m', rfl, _, hg3⟩
        have HB3 := Lib.hid (HB2.out.trans (Ty.below_at (B := w.heap.size) hg3 hs2 (Nat.le_refl _)))
        clear crc2 hg3
        go_wp2
        go_ret2
        exact Tx.Got.bad HR.out rfl HB3.out
end Go.Proofs.YtfbjmehkipcmbaaGreatDoor

namespace Go.Proofs.YtfbjmehkipcmbaaGreatDoor
open Go.RowKit
theorem Cl.map_snoc {A : Type} (f : A → Kn.V) {L : List A} {k : Nat} (h : k < L.length) : (L.map f).take (k + 1) = (L.map f).take k ++ [f L[k]] := by
  rw [List.take_succ_eq_append_getElem (by rw [List.length_map]; exact h), List.getElem_map]
set_option maxHeartbeats 2000000 in
set_option maxRecDepth 100000 in
theorem Cl.readPresent_n (s : ByteArray) (w : World) (hw : Ty.Tabs w) (hs : s.size ≤ 140737488351232) :
    Calls Tryz.prog 107 #[.int .i64 1, .string s] w (Cl.Got w ((Ig.rd s.data.toList).1, (Ig.rd s.data.toList).2.map Cl.ofN)) := by
  have cr := Ig.read_c s w hw (by omega)
  have hll := Cl.ird_len s.data.toList
  generalize Ig.rd s.data.toList = R at cr hll ⊢
  obtain ⟨E, L⟩ := R
  simp only at hll ⊢
  have hmk := Cl.run_makeV L.length (by omega)
  have HL := Lib.hid hll
  clear hs hll
  go_enter Tryz.func107, Tryz.ntmps107
  go_wp2_with fail
  refine cr.mono ?_
  rintro e w1 ⟨v, rfl, hA, g1⟩
  obtain ⟨a, cp, rfl, hcp, _, h⟩ := hA
  have HH := Lib.hid h
  have HG1 := Lib.hid g1
  have hz1 := g1.size
  clear cr h g1
  simp only
  go_wp2_with fail
  have hR := Cl.Row.start (w := w1) (n := L.length)
  have hB : Below w1.heap.size w1 (w1.alloc (.cells (madeCells #[.bool false, .int .i64 0, .string ⟨#[]⟩] (L.length * 3)) 42)) := (Below.refl _ _).alloc (Nat.le_refl _) _
  generalize w1.alloc _ = w2 at hR hB ⊢
  clear hmk
  obtain ⟨g, hg⟩ : ∃ g, g = w1.heap.size := ⟨_, rfl⟩
  rw [← hg] at hR hB ⊢
  have HGE := Lib.hid hg
  clear hg
  go_loopw [51] (fun i wr => ∃ k : Nat, k ≤ L.length ∧ i = .int .i64 k ∧ Cl.Row wr g L.length (Cl.fo ((L.map Cl.ofN).take k)) ∧ Below g w1 wr) (fun i _ => L.length - (intOf i).toNat)
  case atStart => exact ⟨0, by omega, rfl, hR, hB⟩
  case round =>
    obtain ⟨k, hk, rfl, hRk, hBk⟩ := hrel
    have HR := Lib.hid hRk
    have HB := Lib.hid hBk
    clear hR hB hRk hBk
    by_cases hlk : k < L.length
    · rcases HH.out with h | ⟨b, o, rfl, hbl, h⟩
      · exact absurd hlk (by rw [h]; simp)
      · have hblg : b < g := by rw [HGE.out]; exact hbl
        have a0 := (HB.out.cell (p := ⟨b, o + k, none⟩) hblg).trans (h k hlk)
        obtain ⟨x, hx⟩ : ∃ x, x = L[k] := ⟨_, rfl⟩
        have ha : Value.int .i64 (Ig.nth L k) = .int .i64 x := by rw [hx]; unfold Ig.nth; rw [List.getD, List.getElem?_eq_getElem hlk]; rfl
        rw [ha] at a0
        have HN : Hid ((L.map Cl.ofN).take (k + 1) = (L.map Cl.ofN).take k ++ [Cl.ofN x]) := Lib.hid (by rw [hx]; exact Cl.map_snoc _ hlk)
        have HTL : Hid (((L.map Cl.ofN).take k).length = k) := Lib.hid (by rw [List.length_take, List.length_map]; omega)
        have hkl : (k : Int) < (L.length : Int) := by omega
        have hk0 : (0 : Int) ≤ (k : Int) := by omega
        have hcl := HR.out.c1 hlk
        have hf := World.rowIs.frozen HR.out (k * 3 + 1)
        have hL6 := HL.out
        clear h hx ha
        go_wp2
        go_roundw
        case rel => exact ⟨k + 1, by omega, by simp, by rw [HN.out]; exact HR.out.snoc_n HTL.out x, Cl.below_cell HB.out (Nat.le_refl _) _⟩
        case measure => simp [intOf]; omega
    · obtain rfl : k = L.length := by omega
      have hkl : ¬ (L.length : Int) < (L.length : Int) := by omega
      have HTK : Hid ((L.map Cl.ofN).take L.length = L.map Cl.ofN) := Lib.hid (List.take_of_length_le (by rw [List.length_map]; exact Nat.le_refl _))
      go_wp2
      go_ret2
      refine ⟨_, rfl, Cl.Row.done (by rw [← HTK.out]; exact HR.out) (List.length_map _) (by have := HL.out; omega), HG1.out.trans (HB.out.mono (by rw [HGE.out]; exact hz1))⟩
set_option maxHeartbeats 2000000 in
set_option maxRecDepth 100000 in
theorem Cl.readPresent_s (s : ByteArray) (w : World) (hw : Ty.Tabs w) (hs : s.size ≤ 140737488351232) :
    Calls Tryz.prog 107 #[.int .i64 2, .string s] w (Cl.Got w ((Tx.rd s.data.toList).1, (Tx.rd s.data.toList).2.map Cl.ofS)) := by
  have cr := Tx.read_c s w hw (by omega)
  have hll := Cl.trd_len s.data.toList
  generalize Tx.rd s.data.toList = R at cr hll ⊢
  obtain ⟨E, L⟩ := R
  simp only at hll ⊢
  have hmk := Cl.run_makeV L.length (by omega)
  have HL := Lib.hid hll
  clear hs hll
  go_enter Tryz.func107, Tryz.ntmps107
  go_wp2_with fail
  refine cr.mono ?_
  rintro e w1 ⟨v, rfl, hA, g1⟩
  obtain ⟨a, cp, rfl, hcp, _, h⟩ := hA
  have HH := Lib.hid h
  have HG1 := Lib.hid g1
  have hz1 := g1.size
  clear cr h g1
  simp only
  go_wp2_with fail
  have hR := Cl.Row.start (w := w1) (n := L.length)
  have hB : Below w1.heap.size w1 (w1.alloc (.cells (madeCells #[.bool false, .int .i64 0, .string ⟨#[]⟩] (L.length * 3)) 42)) := (Below.refl _ _).alloc (Nat.le_refl _) _
  generalize w1.alloc _ = w2 at hR hB ⊢
  clear hmk
  obtain ⟨g, hg⟩ : ∃ g, g = w1.heap.size := ⟨_, rfl⟩
  rw [← hg] at hR hB ⊢
  have HGE := Lib.hid hg
  clear hg
  go_loopw [28] (fun i wr => ∃ k : Nat, k ≤ L.length ∧ i = .int .i64 k ∧ Cl.Row wr g L.length (Cl.fo ((L.map Cl.ofS).take k)) ∧ Below g w1 wr) (fun i _ => L.length - (intOf i).toNat)
  case atStart => exact ⟨0, by omega, rfl, hR, hB⟩
  case round =>
    obtain ⟨k, hk, rfl, hRk, hBk⟩ := hrel
    have HR := Lib.hid hRk
    have HB := Lib.hid hBk
    clear hR hB hRk hBk
    by_cases hlk : k < L.length
    · rcases HH.out with h | ⟨b, o, rfl, hbl, h⟩
      · exact absurd hlk (by rw [h.1]; simp)
      · have hblg : b < g := by rw [HGE.out]; exact hbl
        have a0 := (HB.out.cell (p := ⟨b, o + k, none⟩) hblg).trans (h k hlk)
        obtain ⟨x, hx⟩ : ∃ x, x = L[k] := ⟨_, rfl⟩
        have ha : Tx.sv L k = .string (Ty.S x) := by rw [hx]; unfold Tx.sv; rw [List.getD, List.getElem?_eq_getElem hlk]; rfl
        rw [ha] at a0
        have HN : Hid ((L.map Cl.ofS).take (k + 1) = (L.map Cl.ofS).take k ++ [Cl.ofS x]) := Lib.hid (by rw [hx]; exact Cl.map_snoc _ hlk)
        have HTL : Hid (((L.map Cl.ofS).take k).length = k) := Lib.hid (by rw [List.length_take, List.length_map]; omega)
        have hkl : (k : Int) < (L.length : Int) := by omega
        have hk0 : (0 : Int) ≤ (k : Int) := by omega
        have hcl := HR.out.c2 hlk
        have hf := World.rowIs.frozen HR.out (k * 3 + 2)
        have hL6 := HL.out
        clear h hx ha
        go_wp2
        go_roundw
        case rel => exact ⟨k + 1, by omega, by simp, by rw [HN.out]; exact HR.out.snoc_s HTL.out x, Cl.below_cell HB.out (Nat.le_refl _) _⟩
        case measure => simp [intOf]; omega
    · obtain rfl : k = L.length := by omega
      have hkl : ¬ (L.length : Int) < (L.length : Int) := by omega
      have HTK : Hid ((L.map Cl.ofS).take L.length = L.map Cl.ofS) := Lib.hid (List.take_of_length_le (by rw [List.length_map]; exact Nat.le_refl _))
      go_wp2
      go_ret2
      refine ⟨_, rfl, Cl.Row.done (by rw [← HTK.out]; exact HR.out) (List.length_map _) (by have := HL.out; omega), HG1.out.trans (HB.out.mono (by rw [HGE.out]; exact hz1))⟩
theorem Cl.readPresent_c (c : Kn.C) (hg : c.good = true) (s : ByteArray) (w : World) (hw : Ty.Tabs w) (hs : s.size ≤ 140737488351232) :
    Calls Tryz.prog 107 #[.int .i64 c.k, .string s] w (Cl.Got w (Cl.back c s.data.toList)) := by
  unfold Cl.back
  rcases (Cl.good_iff c).1 hg with h | h
  · rw [h, if_pos rfl]; exact Cl.readPresent_n s w hw hs
  · rw [h, if_neg (by decide)]; exact Cl.readPresent_s s w hw hs
end Go.Proofs.YtfbjmehkipcmbaaGreatDoor

namespace Go.Proofs.YtfbjmehkipcmbaaGreatDoor
open Go.RowKit
end Go.Proofs.YtfbjmehkipcmbaaGreatDoor

namespace Go.Proofs.YtfbjmehkipcmbaaGreatDoor
open Go.RowKit
open Ty (num)
def Cl.T (w : World) : Prop := Ty.Tabs w
theorem Cl.T.below {w w' : World} (h : Cl.T w) (g : Below w.heap.size w w') : Cl.T w' := Ty.Tabs.below h g (Ty.Tabs.two h)
set_option maxHeartbeats 2000000 in
set_option maxRecDepth 100000 in
theorem Cl.write_c (c : Kn.C) (u : Value) (l : List Kn.V) (w : World) (hw : Cl.T w) (hu : Kn.Vals w u l) (hi : ∀ v ∈ l, Ty.I64 v.n) :
    Calls Tryz.prog 21 #[c.val, u] w fun e w' => e = .returned (Cl.wV c l) ∧ Below w.heap.size w w' := by
  have HW : Hid (Ty.Tabs w) := Lib.hid hw
  have HE4 : Hid (c.good = false → Cl.wE c l = 4) := Lib.hid fun h => by unfold Cl.wE; rw [if_neg (by rw [h]; decide)]
  have HE3 : Hid (c.good = true → 65536 < l.length → Cl.wE c l = 3) := Lib.hid fun h h2 => by unfold Cl.wE; rw [if_pos h, if_pos h2]
  have HE6 : Hid (c.good = true → l.length ≤ 65536 → l.all (Cl.is c) = false → Cl.wE c l = 6) := Lib.hid fun h h2 h3 => by unfold Cl.wE; rw [if_pos h, if_neg (by omega), h3, if_neg (by decide)]
  have HE0 : Hid (c.good = true → l.length ≤ 65536 → l.all (Cl.is c) = true → Cl.wE c l = 0) := Lib.hid fun h h2 h3 => by unfold Cl.wE; rw [if_pos h, if_neg (by omega), if_pos h3]
  have HU := Lib.hid hu
  have HI := Lib.hid hi
  obtain ⟨V, hV⟩ : ∃ V, V = Cl.wV c l := ⟨_, rfl⟩
  rw [← hV]
  have HV := Lib.hid hV
  clear hV hi hu hw
  have CW := Lib.hid fun wz => Cl.schemaWith_c c wz
  have CR : Hid (∀ (v : Value) (wz : World), Kn.Cols wz v (Cl.sch c) → Calls Tryz.prog 16 #[v] wz fun e w' => e = .returned (.bool c.good) ∧ Below wz.heap.size wz w') := Lib.hid fun v wz h => by
    have := Kn.right_c v (Cl.sch c) wz h
    rwa [Cl.sch_right] at this
  have CF := Lib.hid fun (v : Value) (wz : World) h1 (h2 : Kn.Cols wz v (Cl.sch c)) (h3 : Kn.Vals wz u l) h4 => Cl.fit_c c v u l wz h1 h2 h3 h4
  have HB0 : Hid (Below w.heap.size w (w.alloc (.cells #[.int .i64 c.k, .bool c.null] 40))) := Lib.hid ((Below.refl _ _).alloc (Nat.le_refl _) _)
  have HX0 := Lib.hid (Kn.cell_new w #[.int .i64 c.k, .bool c.null] 40 0 _ rfl)
  have HX1 := Lib.hid (Kn.cell_new w #[.int .i64 c.k, .bool c.null] 40 1 _ rfl)
  simp only [List.getElem_toArray, List.getElem_cons_zero, List.getElem_cons_succ] at HX0 HX1
  have hsz : (w.alloc (.cells #[.int .i64 c.k, .bool c.null] 40)).heap.size = w.heap.size + 1 := World.size_alloc ..
  obtain ⟨a, cp, rfl, h⟩ := HU.out.is
  clear h
  unfold Kn.C.val at CW ⊢
  cases hg : c.good
  · rw [hg] at CR
    have HE := Lib.hid (HV.out.trans (Cl.wV_bad (HE4.out hg) (by decide)))
    clear hg
    go_enter Tryz.func21, Tryz.ntmps21
    go_wp2_with fail
    generalize hwo : w.alloc _ = wo at hsz HX0 HX1 HB0 ⊢
    clear hwo
    refine (CW.out _).mono ?_
    rintro e w1 ⟨v, rfl, hS, g1⟩
    have HB1 := Lib.hid (HB0.out.trans (g1.mono HB0.out.size))
    have cr := CR.out _ _ hS
    clear hS g1
    go_wp2_with fail
    refine cr.mono ?_
    rintro e w2 ⟨rfl, g2⟩
    have HB2 := Lib.hid (HB1.out.trans (g2.mono HB1.out.size))
    clear cr g2
    go_wp2
    go_ret2
    exact ⟨by rw [HE.out]; rfl, HB2.out⟩
  · rw [hg] at CR
    have HG := Lib.hid hg
    clear hg
    by_cases hln : 65536 < l.length
    · have HE := Lib.hid (HV.out.trans (Cl.wV_bad (HE3.out HG.out hln) (by decide)))
      have hlni : (65536 : Int) < (l.length : Int) := by omega
      clear hln
      go_enter Tryz.func21, Tryz.ntmps21
      go_wp2_with fail
      generalize hwo : w.alloc _ = wo at hsz HX0 HX1 HB0 ⊢
      clear hwo
      refine (CW.out _).mono ?_
      rintro e w1 ⟨v, rfl, hS, g1⟩
      have HB1 := Lib.hid (HB0.out.trans (g1.mono HB0.out.size))
      have cr := CR.out _ _ hS
      clear hS g1
      go_wp2_with fail
      refine cr.mono ?_
      rintro e w2 ⟨rfl, g2⟩
      have HB2 := Lib.hid (HB1.out.trans (g2.mono HB1.out.size))
      clear cr g2
      go_wp2
      go_ret2
      exact ⟨by rw [HE.out]; rfl, HB2.out⟩
    · have hlni : ¬ (65536 : Int) < (l.length : Int) := by omega
      have hl65 : l.length ≤ 65536 := by omega
      have HL := Lib.hid hl65
      have HF6 := Lib.hid (fun h => HV.out.trans (Cl.wV_bad (HE6.out HG.out hl65 h) (by decide)))
      have HF0 := Lib.hid (fun h => HV.out.trans (Cl.wV_ok (HE0.out HG.out hl65 h)))
      clear hln HE4 HE3 HE6 HE0
      cases hA : l.all (Cl.is c)
      · have HE := Lib.hid (HF6.out hA)
        rw [hA] at CF
        clear hA hl65
        go_enter Tryz.func21, Tryz.ntmps21
        go_wp2_with fail
        generalize hwo : w.alloc _ = wo at hsz HX0 HX1 HB0 ⊢
        clear hwo
        refine (CW.out _).mono ?_
        rintro e w1 ⟨v, rfl, hS, g1⟩
        have HB1 := Lib.hid (HB0.out.trans (g1.mono HB0.out.size))
        have HS1 := Lib.hid hS
        have cr := CR.out _ _ hS
        clear hS g1
        go_wp2_with fail
        refine cr.mono ?_
        rintro e w2 ⟨rfl, g2⟩
        have HB2 := Lib.hid (HB1.out.trans (g2.mono HB1.out.size))
        have cf := CF.out _ w2 HG.out (HS1.out.later g2) (HU.out.later HB2.out) HL.out
        clear cr g2
        go_wp2_with fail
        refine cf.mono ?_
        rintro e w3 ⟨rfl, g3⟩
        have HB3 := Lib.hid (HB2.out.trans (g3.mono HB2.out.size))
        clear cf g3
        go_wp2
        go_ret2
        exact ⟨by rw [HE.out]; rfl, HB3.out⟩
      · have HE := Lib.hid (HF0.out hA)
        rw [hA] at CF
        have HA := Lib.hid hA
        have hwk : IntKind.u64.wrap (l.length : Int) = (l.length : Int) := by rw [IntKind.wrap_u64]; omega
        have HWK := Lib.hid hwk
        have CU := Lib.hid fun wz hT => Ty.uintNil (l.length : Int) (by omega) (show Ty.U64 ((l.length : Int)).toNat by rw [Int.toNat_natCast]; unfold Ty.U64; omega) wz hT
        rw [Int.toNat_natCast] at CU
        clear hA hl65 HF6 HF0
        go_enter Tryz.func21, Tryz.ntmps21
        go_wp2_with fail
        generalize hwo : w.alloc _ = wo at hsz HX0 HX1 HB0 ⊢
        clear hwo
        refine (CW.out _).mono ?_
        rintro e w1 ⟨v, rfl, hS, g1⟩
        have HB1 := Lib.hid (HB0.out.trans (g1.mono HB0.out.size))
        have HS1 := Lib.hid hS
        have HY1 := Lib.hid ((g1.cell (p := ⟨w.heap.size, 0, none⟩) (by simp [hsz])).trans HX0.out)
        have cr := CR.out _ _ hS
        have hs1 : w.heap.size < w1.heap.size := by have := g1.size; omega
        clear hS g1
        go_wp2_with fail
        refine cr.mono ?_
        rintro e w2 ⟨rfl, g2⟩
        have HB2 := Lib.hid (HB1.out.trans (g2.mono HB1.out.size))
        have HY2 := Lib.hid ((g2.cell (p := ⟨w.heap.size, 0, none⟩) hs1).trans HY1.out)
        have hs2 : w.heap.size < w2.heap.size := by have := g2.size; omega
        have cf := CF.out _ w2 HG.out (HS1.out.later g2) (HU.out.later HB2.out) HL.out
        clear cr g2
        go_wp2_with fail
        refine cf.mono ?_
        rintro e w3 ⟨rfl, g3⟩
        have HB3 := Lib.hid (HB2.out.trans (g3.mono HB2.out.size))
        have HY3 := Lib.hid ((g3.cell (p := ⟨w.heap.size, 0, none⟩) hs2).trans HY2.out)
        have hs3 : w.heap.size < w3.heap.size := by have := g3.size; omega
        have cs := Cl.split_c _ l w3 (HU.out.later HB3.out) HL.out
        clear cf g3
        go_wp2_with fail
        refine cs.mono ?_
        rintro e w4 ⟨vn, vp, rfl, hN, hP, g4⟩
        have HB4 := Lib.hid (HB3.out.trans (g4.mono HB3.out.size))
        have HY4 := Lib.hid ((g4.cell (p := ⟨w.heap.size, 0, none⟩) hs3).trans HY3.out)
        have hs4 : w.heap.size < w4.heap.size := by have := g4.size; omega
        have HN4 := Lib.hid hN
        have HP4 := Lib.hid hP
        have cu := CU.out w4 (HW.out.below HB4.out HW.out.two)
        clear cs g4 hN hP
        go_wp2_with fail
        refine cu.mono ?_
        rintro e w5 ⟨v5, rfl, hB5, hT5, g5⟩
        have hcv := hB5.str
        have HB5 := Lib.hid (HB4.out.trans (g5.mono HB4.out.size))
        have hx0 := (g5.cell (p := ⟨w.heap.size, 0, none⟩) hs4).trans HY4.out
        have HN5 := Lib.hid (HN4.out.later g5)
        have HP5 := Lib.hid (HP4.out.later g5)
        have HT5 := Lib.hid hT5
        clear cu g5 hB5 hT5
        go_wp2_with fail
        have E0 := fun d os => cell_regrown hx0 d os
        have hvl := Cl.vals_len HA.out HL.out
        have hnn := (Bt.need_room l.length).2
        have CTP : ∀ p : Regrown, Calls Tryz.prog 19 #[vn] (Sort.grow (redrawn w5 p.d) p.os) fun e w'' => e = .returned (.string (Bt.bytes (Bt.need l.length) (Bt.tr l.length (Cl.nulls l)))) ∧ ∃ p : Regrown, w'' = Sort.grow (redrawn w5 p.d) p.os := fun p => Calls.regrown_of (Bt.truths_c vn l.length (Cl.nulls l) _ (HN5.out.later (below_regrown w5 p.d p.os)) (by have := HL.out; omega))
        have CPP : ∀ p : Regrown, Calls Tryz.prog 52 #[.int .i64 c.k, vp] (Sort.grow (redrawn w5 p.d) p.os) fun e w'' => e = .returned (.string (Ty.S (Cl.vals c l))) ∧ ∃ p : Regrown, w'' = Sort.grow (redrawn w5 p.d) p.os := fun p => Calls.regrown_of (Cl.writePresent_c c.k vp (Cl.live l) _ (HT5.out.below (below_regrown w5 p.d p.os) HT5.out.two) (HP5.out.later (below_regrown w5 p.d p.os)) (Nat.le_trans (Cl.live_len l) HL.out) (fun v hv => HI.out v (List.mem_filter.1 hv).1) ((Cl.good_iff c).1 HG.out) (fun h => Cl.words_fit (c := c) (by omega) HA.out HL.out))
        have hen : Cl.enc c l = Ty.encU l.length ++ ((Bt.bytes (Bt.need l.length) (Bt.tr l.length (Cl.nulls l))).data.toList ++ Cl.vals c l) := rfl
        have hA9 : (Ty.S (Ty.encU l.length)).size ≤ 9 := Ty.encU_len9 l.length
        have hB9 : (Bt.bytes (Bt.need l.length) (Bt.tr l.length (Cl.nulls l))).size = Bt.need l.length := Bt.size_bytes _ _
        have hC9 : (Ty.S (Cl.vals c l)).size ≤ 4800000 := hvl
        have hl6 := HL.out
        obtain ⟨A, hA⟩ : ∃ A, A = Ty.S (Ty.encU l.length) := ⟨_, rfl⟩
        obtain ⟨B, hBB⟩ : ∃ B, B = Bt.bytes (Bt.need l.length) (Bt.tr l.length (Cl.nulls l)) := ⟨_, rfl⟩
        obtain ⟨D, hDD⟩ : ∃ D, D = Ty.S (Cl.vals c l) := ⟨_, rfl⟩
        have HABD : Hid (Ty.S (Cl.enc c l) = (A ++ B) ++ D) := Lib.hid (by
          rw [hA, hBB, hDD, hen, ← Ig.S_add, ← Ig.S_add, Ty.S_data, ByteArray.append_assoc])
        rw [← hA] at hA9 ⊢
        rw [← hBB] at CTP hB9
        rw [← hDD] at CPP hC9
        have n1 : ¬ 9223372036854775807 < A.size + B.size := by omega
        have n2 : ¬ 9223372036854775807 < A.size + B.size + D.size := by omega
        have CTQ := Lib.hid CTP
        have CPQ := Lib.hid CPP
        clear CTP CPP hen hvl hnn hA hBB hDD hA9 hB9 hC9 hl6
        refine wp_region_quiet_below (by kernel_rfl) (by kernel_rfl) ?_
        repeat (go_big_quiet_step (first | with_reducible exact CTQ.out _ | with_reducible exact CPQ.out _))
        refine wpQuiet_nil ?_
        intro wq hw'
        have HBQ := Lib.hid (HB5.out.trans ((Ig.below_reg hw').mono HB5.out.size))
        clear hw'
        go_wp2
        go_ret2
        exact ⟨by rw [HE.out, HABD.out]; rfl, HBQ.out⟩
theorem Cl.back_fit {c : Kn.C} (hg : c.good = true) {r : List UInt8} (h : (Cl.back c r).1 = 0) : c.k = 2 → Tx.fit ((Cl.back c r).2.map fun v => v.s.data.toList) = true := fun hk => by
  have hb := Cl.back_is hg h
  have hl := Cl.back_len c r
  unfold Tx.fit
  simp only [Bool.and_eq_true, decide_eq_true_iff, List.all_eq_true]
  refine ⟨by rw [List.length_map]; exact hl, fun t ht => ?_⟩
  obtain ⟨v, hv, rfl⟩ := List.mem_map.1 ht
  exact (Cl.is_str (by omega) (hb v hv).2.1 (hb v hv).1).2
end Go.Proofs.YtfbjmehkipcmbaaGreatDoor

namespace Go.Proofs.YtfbjmehkipcmbaaGreatDoor
open Go.RowKit
open Tx (encT)
theorem Bk.first_at {s : List Kn.C} : ∀ {L : List Dd.D} {k : Nat} {d : Dd.D}, L[k]? = some d → (∀ j x, j < k → L[j]? = some x → Dd.fitE s x = 0) → Dd.fitE s d ≠ 0 → Bk.firstE s L = Dd.fitE s d
  | [], _, _, h, _, _ => by simp at h
  | x :: L, 0, d, h, _, hd => by
    obtain rfl : x = d := by simpa using h
    unfold Bk.firstE
    rw [if_neg hd]
  | x :: L, k + 1, d, h, hj, hd => by
    unfold Bk.firstE
    rw [if_pos (hj 0 x (by omega) rfl)]
    exact Bk.first_at (by simpa using h) (fun j y h1 h2 => hj (j + 1) y (by omega) (by simpa using h2)) hd
theorem Bk.wE_k {s : List Kn.C} {L : List Dd.D} (h : Kn.right s = false) : Bk.wE s L = 4 := by unfold Bk.wE; rw [if_neg (by rw [h]; decide)]
theorem Bk.wE_l {s : List Kn.C} {L : List Dd.D} (h : Kn.right s = true) (h1 : L.length < 1 ∨ 8 < L.length) : Bk.wE s L = 1 := by unfold Bk.wE; rw [if_pos h, if_pos h1]
theorem Bk.wE_f {s : List Kn.C} {L : List Dd.D} (h : Kn.right s = true) (h1 : ¬ (L.length < 1 ∨ 8 < L.length)) {q : Int} (h2 : Bk.firstE s L = q) (h3 : q ≠ 0) : Bk.wE s L = q := by
  unfold Bk.wE Bk.fitsE
  rw [if_pos h, if_neg h1, h2, if_neg h3]
theorem Bk.wE_s {s : List Kn.C} {L : List Dd.D} (h : Kn.right s = true) (h1 : ¬ (L.length < 1 ∨ 8 < L.length)) (h2 : Bk.firstE s L = 0) (h3 : Bk.sorted L = false) : Bk.wE s L = 1 := by
  unfold Bk.wE Bk.fitsE
  rw [if_pos h, if_neg h1, if_pos h2, if_neg (by rw [h3]; decide)]
theorem Bk.wE_g {s : List Kn.C} {L : List Dd.D} (h : Kn.right s = true) (h1 : ¬ (L.length < 1 ∨ 8 < L.length)) (h2 : Bk.firstE s L = 0) (h3 : Bk.sorted L = true) : Bk.wE s L = 0 := by
  unfold Bk.wE Bk.fitsE
  rw [if_pos h, if_neg h1, if_pos h2, if_pos h3]
theorem Bk.pre_start (s : List Kn.C) (L : List Dd.D) : Bk.pre s L 0 = Ty.encU L.length ++ Bk.bools L := by
  unfold Bk.pre
  rw [List.take_zero, show Bk.encC 0 [] L = [] from rfl, List.append_nil]
set_option maxHeartbeats 8000000 in
set_option maxRecDepth 100000 in
theorem Bk.pwrite_c (vs v : Value) (s : List Kn.C) (L : List Dd.D) (w : World) (hT : Ty.Tabs w) (hs : Dd.Cols w vs s) (hv : Bk.Ds w v L) (hz : Bk.Zs L) (hi : ∀ d ∈ L, ∀ x ∈ d.row, Ty.I64 x.n) :
    Calls Tryz.prog 9 #[vs, v] w fun e w' => e = .returned (Bk.wV s L) ∧ Below w.heap.size w w' := by
  obtain ⟨V, hV⟩ : ∃ V, V = Bk.wV s L := ⟨_, rfl⟩
  rw [← hV]
  have HV9 := Lib.hid hV
  have HT := Lib.hid hT
  have HS := Lib.hid hs
  have HV := Lib.hid hv
  have HZ := Lib.hid hz
  have HI := Lib.hid hi
  have cR := Kn.right_c vs s w hs.1
  have CD := Lib.hid fun (u : Value) (d : Dd.D) (wz : World) (h1 : Ty.Tabs wz) (h2 : Dd.Cols wz vs s) (h3 : Kn.Vals wz u d.row) (h4 : ∀ x ∈ d.row, Ty.I64 x.n) => Dd.write_c vs u s d wz h1 h2 h3 h4
  have CS := Lib.hid fun (wz : World) (h : Bk.Ds wz v L) => Bk.psorted_c v L wz h HZ.out
  obtain ⟨a, c, rfl, hlc, hcm, h⟩ := hv
  obtain ⟨⟨sa, sc, rfl, hsa⟩, -⟩ := hs
  have HH := Lib.hid h
  have HSA := Lib.hid hsa
  clear hV hT hz hi h hsa
  cases hr : Kn.right s
  · rw [hr] at cR
    have HE := Lib.hid (HV9.out.trans (Bk.wV_bad (Bk.wE_k (L := L) hr) (by decide)))
    clear hr
    go_enter Tryz.func9, Tryz.ntmps9
    go_wp2_with fail
    with_reducible refine cR.mono ?_
    rintro e w1 ⟨rfl, g1⟩
    have HG := Lib.hid g1
    clear g1
    go_wp2
    go_ret2
    exact ⟨by rw [HE.out]; rfl, HG.out⟩
  rw [hr] at cR
  have HR := Lib.hid hr
  clear hr
  by_cases hlen : L.length < 1 ∨ 8 < L.length
  · have HE := Lib.hid (HV9.out.trans (Bk.wV_bad (Bk.wE_l HR.out hlen) (by decide)))
    by_cases h1 : (L.length : Int) < 1
    · clear hlen
      go_enter Tryz.func9, Tryz.ntmps9
      go_wp2_with fail
      with_reducible refine cR.mono ?_
      rintro e w1 ⟨rfl, g1⟩
      have HG := Lib.hid g1
      clear g1
      go_wp2
      go_ret2
      exact ⟨by rw [HE.out]; rfl, HG.out⟩
    · have h2 : (8 : Int) < (L.length : Int) := by omega
      clear hlen
      go_enter Tryz.func9, Tryz.ntmps9
      go_wp2_with fail
      with_reducible refine cR.mono ?_
      rintro e w1 ⟨rfl, g1⟩
      have HG := Lib.hid g1
      clear g1
      go_wp2
      go_ret2
      exact ⟨by rw [HE.out]; rfl, HG.out⟩
  have hi1 : ¬ (L.length : Int) < 1 := by omega
  have hi2 : ¬ (8 : Int) < (L.length : Int) := by omega
  have HLN := Lib.hid hlen
  have H8 : Hid (L.length ≤ 8) := Lib.hid (by omega)
  have H1 : Hid (1 ≤ L.length) := Lib.hid (by omega)
  clear hlen
  go_enter Tryz.func9, Tryz.ntmps9
  go_wp2_with fail
  with_reducible refine cR.mono ?_
  rintro e w1 ⟨rfl, g1⟩
  have HG1 := Lib.hid g1
  clear cR g1
  go_wp2_with fail
  clear hi1 hi2
  go_loopw [28] (fun i wr => ∃ k : Nat, k ≤ L.length ∧ i = .int .i64 k ∧ (∀ j x, j < k → L[j]? = some x → Dd.fitE s x = 0) ∧ Below w.heap.size w wr) (fun i _ => L.length - (intOf i).toNat)
  case atStart => exact ⟨0, Nat.zero_le _, rfl, (fun j x hj => by omega), HG1.out⟩
  case round =>
    obtain ⟨k, hk, rfl, hf, hb⟩ := hrel
    have HF := Lib.hid hf
    have HB := Lib.hid hb
    clear hf hb
    by_cases hl : k < L.length
    · rcases HH.out with rfl | ⟨b, o, rfl, hlt, hc⟩
      · simp at hl
      · have hx := List.getElem?_eq_getElem hl
        generalize L[k] = d at hx
        obtain ⟨u, c0, c1, hu⟩ := hc k d hx
        have hu := hu.later HB.out
        have c0 := (HB.out.cell (p := ⟨b, o + k * 2, none⟩) hlt).trans c0
        have c1 := (HB.out.cell (p := ⟨b, o + k * 2 + 1, none⟩) hlt).trans c1
        have HU := Lib.hid hu
        obtain ⟨ua, uc, rfl, -⟩ := hu
        have hkl : (k : Int) < (L.length : Int) := by omega
        have hk0 : (0 : Int) ≤ (k : Int) := by omega
        have hk7 : (k : Int) ≤ 7 := by have := H8.out; omega
        have HX := Lib.hid hx
        have HK := Lib.hid hl
        clear hc hx hl hk
        go_upto_region 8 with (fail)
        have HB0 : Hid (Below wr.heap.size wr (wr.alloc (.cells #[.bool d.gone, .slice ua d.row.length uc] 37))) := Lib.hid ((Below.refl _ _).alloc (Nat.le_refl _) _)
        have x0 := Kn.cell_new wr #[.bool d.gone, .slice ua d.row.length uc] 37 0 _ rfl
        have x1 := Kn.cell_new wr #[.bool d.gone, .slice ua d.row.length uc] 37 1 _ rfl
        simp only [List.getElem_toArray, List.getElem_cons_zero, List.getElem_cons_succ] at x0 x1
        obtain ⟨q, hq⟩ : ∃ q, q = wr.heap.size := ⟨_, rfl⟩
        rw [← hq] at x0 x1 ⊢
        generalize wr.alloc _ = w3 at HB0 x0 x1 ⊢
        have HB3 := Lib.hid (HB.out.trans (HB0.out.mono HB.out.size))
        have cd := CD.out _ d w3 (HT.out.below HB3.out HT.out.two) (HS.out.later HB3.out) (HU.out.later HB0.out) (HI.out d (List.mem_of_getElem? HX.out))
        unfold Dd.wV at cd
        have HFE : Hid (Dd.fitE s d ≠ 0 → V = .tuple #[.string (Ty.S []), .int .i64 (Dd.fitE s d)]) := Lib.hid fun h => HV9.out.trans (Bk.wV_bad (Bk.wE_f HR.out HLN.out (Bk.first_at HX.out HF.out h) h) h)
        have HFZ : Hid (Dd.fitE s d = 0 → ∀ j x, j < k + 1 → L[j]? = some x → Dd.fitE s x = 0) := Lib.hid fun h j x hj hx => by
          rcases Nat.lt_or_ge j k with h2 | h2
          · exact HF.out j x h2 hx
          · obtain rfl : j = k := by omega
            rw [HX.out] at hx
            cases hx
            exact h
        generalize Dd.fitE s d = E at cd HFE HFZ
        generalize Ty.S (Dd.wS s d) = T9 at cd
        clear hq c0 c1
        go_wp2_with fail
        with_reducible refine cd.mono ?_
        rintro e w4 ⟨rfl, g4⟩
        have HB4 := Lib.hid (HB3.out.trans (g4.mono HB3.out.size))
        clear cd g4 x0 x1
        by_cases hE : E = 0
        · subst hE
          have HFZ2 := Lib.hid (HFZ.out rfl)
          go_wp2
          go_roundw
          case rel => exact ⟨k + 1, HK.out, by simp, HFZ2.out, HB4.out⟩
          case measure => (have := HK.out; simp [intOf]; omega)
        · have hEb : (E != 0) = true := by rw [bne_iff_ne]; exact hE
          have HX2 := Lib.hid (HFE.out hE)
          clear hE
          go_wp2
          go_ret2
          exact ⟨by rw [HX2.out]; rfl, HB4.out⟩
    · obtain rfl : k = L.length := by omega
      have hkl : ¬ (L.length : Int) < (L.length : Int) := by omega
      have HFA : Hid (∀ d ∈ L, Dd.fitE s d = 0) := Lib.hid fun d hd => by
        obtain ⟨j, hj, rfl⟩ := List.mem_iff_getElem.1 hd
        exact HF.out j _ hj (List.getElem?_eq_getElem hj)
      have H0 := Lib.hid (Bk.firstE_0.2 HFA.out)
      have cs := CS.out wr (HV.out.later HB.out)
      clear hk hl HF
      cases hso : Bk.sorted L
      · rw [hso] at cs
        have HE := Lib.hid (HV9.out.trans (Bk.wV_bad (Bk.wE_s HR.out HLN.out H0.out hso) (by decide)))
        clear hso
        go_wp2_with fail
        with_reducible refine cs.mono ?_
        rintro e w2 ⟨rfl, g2⟩
        have HB2 := Lib.hid (HB.out.trans (g2.mono HB.out.size))
        clear cs g2
        go_wp2
        go_ret2
        exact ⟨by rw [HE.out]; rfl, HB2.out⟩
      rw [hso] at cs
      have HE := Lib.hid (HV9.out.trans (Bk.wV_ok (Bk.wE_g HR.out HLN.out H0.out hso)))
      have hcw : ∀ j c, s[j]? = some c → Cl.wE c (Bk.col L j) = 0 := fun j c hc => Bk.col_fit HR.out H8.out HFA.out hc
      have HLE := Lib.hid (Bk.encC_len (s := s) (L := L) fun j c hc => Bk.enc_le (hcw j c hc) (Bk.col_le H8.out j))
      have HCW := Lib.hid hcw
      have HEL : Hid (∀ (j : Nat) (c : Kn.C), s[j]? = some c → (Cl.enc c (Bk.col L j)).length ≤ 1048576) := Lib.hid fun j c hc => Bk.enc_le (HCW.out j c hc) (Bk.col_le H8.out j)
      have H6 := Lib.hid (Kn.right_len HR.out)
      have CK := Lib.hid fun (j : Nat) (c9 : Kn.C) (hc : s[j]? = some c9) (wz : World) (h : Bk.Ds wz (.slice a L.length c) L) => Bk.pvalues_c _ L j H8.out (by have := (List.getElem?_eq_some_iff.1 hc).1; have := H6.out.2; omega) (Bk.col_has HFA.out hc) wz h
      have CW := Lib.hid fun (j : Nat) (c : Kn.C) (hc : s[j]? = some c) (u : Value) (wz : World) (h1 : Ty.Tabs wz) (h : Kn.Vals wz u (Bk.col L j)) => Cl.write_c c u (Bk.col L j) wz h1 h (Bk.col_i64 HFA.out HI.out hc)
      have HBL : Hid ((Bk.bools L).length = 1) := Lib.hid (by rw [Bk.bools_one H1.out H8.out]; rfl)
      have HPN : Hid (∀ (k : Nat) (c : Kn.C), s[k]? = some c → Bk.pre s L (k + 1) = Bk.pre s L k ++ encT (Cl.enc c (Bk.col L k))) := Lib.hid fun k c h => Bk.pre_next h L
      have hwk : IntKind.u64.wrap (L.length : Int) = (L.length : Int) := by rw [IntKind.wrap_u64]; have := H8.out; omega
      have HWK := Lib.hid hwk
      obtain ⟨R, hdr, -⟩ := HV.out.dr
      have HDR := Lib.hid hdr
      clear hso hcw hwk hdr CD CS
      go_wp2_with fail
      with_reducible refine cs.mono ?_
      rintro e w2 ⟨rfl, g2⟩
      have HB2 := Lib.hid (HB.out.trans (g2.mono HB.out.size))
      have hw9 := HWK.out
      have cu := Ty.uintNil (L.length : Int) (by omega) (show Ty.U64 ((L.length : Int)).toNat by rw [Int.toNat_natCast]; unfold Ty.U64; have := H8.out; omega) w2 (HT.out.below HB2.out HT.out.two)
      rw [Int.toNat_natCast] at cu
      clear cs g2 hkl
      go_wp2_with fail
      with_reducible refine cu.mono ?_
      rintro e w3 ⟨v3, rfl, hO3, hT3, g3⟩
      have HB3 := Lib.hid (HB2.out.trans (g3.mono HB2.out.size))
      have HG3 := Lib.hid g3
      have HO3 := Lib.hid hO3
      have cf := Bk.pflags_c _ L R w3 (HDR.out.later HB3.out) H8.out
      clear cu hO3 hT3 g3 hw9
      go_wp2_with fail
      with_reducible refine cf.mono ?_
      rintro e w4 ⟨u4, rfl, hS4, g4⟩
      have HG4 := Lib.hid (HG3.out.trans (g4.mono HG3.out.size))
      have HO4 := Lib.hid (HO3.out.later g4)
      have ct := Bt.truths_c u4 L.length (Bk.gones L) w4 hS4 (Nat.le_trans H8.out (by decide))
      clear cf hS4 g4
      go_wp2_with fail
      with_reducible refine ct.mono ?_
      rintro e w5 ⟨rfl, g5⟩
      have HG5 := Lib.hid (HG4.out.trans (g5.mono HG4.out.size))
      have hO5 := HO4.out.later g5
      have hws5 : w2.heap.size ≤ w5.heap.size := HG5.out.size
      have hroom : (Ty.encU L.length).length + (Bt.bytes (Bt.need L.length) (Bt.tr L.length (Bk.gones L))).size ≤ 140737488355328 := by
        have h1 := Ty.encU_len9 L.length
        have h2 : (Bt.bytes (Bt.need L.length) (Bt.tr L.length (Bk.gones L))).data.toList.length = 1 := HBL.out
        rw [Ty.length_data] at h2
        omega
      have HPS : Hid (Ty.encU L.length ++ (Bt.bytes (Bt.need L.length) (Bt.tr L.length (Bk.gones L))).data.toList = Bk.pre s L 0) := Lib.hid (Bk.pre_start s L).symm
      clear ct g5
      generalize Ty.encU L.length = B1 at hO5 hroom HPS
      generalize Bt.bytes (Bt.need L.length) (Bt.tr L.length (Bk.gones L)) = B2 at hroom HPS ⊢
      go_wp2_with (at_builtin; refine Ty.wpList_append_text hO5 hws5 hroom (.tmp 49) (.tmp 52) rfl rfl rfl rfl ?_; intro v6 w6 h6 g6)
      have HB6 := Lib.hid (HG5.out.trans (g6.below hws5 hO5.base))
      rw [HPS.out] at h6
      have HO6 := Lib.hid h6
      clear h6 g6 hO5 hroom hws5 HO3 HO4
      go_wp2_with fail
      go_loopw [10, 56] (fun out i wr2 => ∃ k : Nat, k ≤ s.length ∧ i = .int .i64 k ∧ Ty.Buf w2.heap.size wr2 out (Bk.pre s L k) ∧ Below w2.heap.size w2 wr2) (fun _ i _ => s.length - (intOf i).toNat)
      case atStart => exact ⟨0, Nat.zero_le _, rfl, HO6.out, HB6.out⟩
      case round =>
        obtain ⟨k, hkl, rfl, hO, hb⟩ := hrel
        have HO7 := Lib.hid hO
        have HB7 := Lib.hid hb
        have hpl : (Ty.S (Bk.pre s L k)).size ≤ 6291520 := Bk.pre_size HBL.out (HLE.out k hkl) (Nat.le_trans hkl H6.out.2)
        have HPL := Lib.hid hpl
        clear hpl hO
        by_cases hlt : k < s.length
        · rcases HSA.out with rfl | ⟨b, o, rfl, hbl, hm, hc⟩
          · simp at hlt
          · have hx := List.getElem?_eq_getElem hlt
            generalize s[k] = cc at hx
            have HB8 := Lib.hid (HB2.out.trans (HB7.out.mono HB2.out.size))
            have c0 := (HB8.out.cell (p := ⟨b, o + k * 2, none⟩) hbl).trans (hc k cc hx).1
            have c1 := (HB8.out.cell (p := ⟨b, o + k * 2 + 1, none⟩) hbl).trans (hc k cc hx).2
            have dk : (k : Int) < (s.length : Int) := by omega
            have dk0 : (0 : Int) ≤ (k : Int) := by omega
            have dk6 : (k : Int) ≤ 6 := by have := H6.out.2; omega
            have HK := Lib.hid hlt
            have CK2 := Lib.hid (CK.out k cc hx)
            have hCW : ∀ u wz, Ty.Tabs wz → Kn.Vals wz u (Bk.col L k) → Calls Tryz.prog 21 #[.agg #[.int .i64 cc.k, .bool cc.null], u] wz fun e w' => e = .returned (.tuple #[.string (Ty.S (Cl.enc cc (Bk.col L k))), .int .i64 0]) ∧ Below wz.heap.size wz w' := fun u wz ht h => by
              have := CW.out k cc hx u wz ht h
              rw [Cl.wV_ok (HCW.out k cc hx)] at this
              exact this
            have HE1 := HEL.out k cc hx
            have HP1 := HPN.out k cc hx
            generalize Cl.enc cc (Bk.col L k) = E at hCW HE1 HP1
            have CW2 := Lib.hid hCW
            have HPR := Lib.hid HP1
            have HE9 : Hid ((Ty.S E).size ≤ 1048576) := Lib.hid (by rw [Ty.size_S]; exact HE1)
            have HEE : Hid (encT E = Ty.encU (Ty.S E).size ++ (Ty.S E).data.toList) := Lib.hid rfl
            generalize cc.k = ck at c0 CW2
            generalize cc.null = cn at c1 CW2
            clear HE1 HP1 hCW hc hx hlt hkl hb hm
            go_upto_region 19 with (fail)
            have HBX : Hid (Below wr.heap.size wr (wr.alloc (.cells #[.int .i64 ck, .bool cn] 40))) := Lib.hid ((Below.refl _ _).alloc (Nat.le_refl _) _)
            have x0 := Kn.cell_new wr #[.int .i64 ck, .bool cn] 40 0 _ rfl
            have x1 := Kn.cell_new wr #[.int .i64 ck, .bool cn] 40 1 _ rfl
            simp only [List.getElem_toArray, List.getElem_cons_zero, List.getElem_cons_succ] at x0 x1
            have hsz : (wr.alloc (.cells #[.int .i64 ck, .bool cn] 40)).heap.size = wr.heap.size + 1 := World.size_alloc ..
            obtain ⟨q, hq⟩ : ∃ q, q = wr.heap.size := ⟨_, rfl⟩
            rw [← hq] at x0 x1 ⊢
            generalize wr.alloc _ = w8 at HBX x0 x1 hsz ⊢
            have hq8 : q < w8.heap.size := by omega
            have HQ8 := Lib.hid hq8
            have HB9 := Lib.hid (HB7.out.trans (HBX.out.mono HB7.out.size))
            have HO9 := Lib.hid (HO7.out.later HBX.out)
            have HHS : Hid (∀ W, Below w8.heap.size w8 W → W.cell? ⟨q, 0, none⟩ = some (.int .i64 ck) ∧ W.cell? ⟨q, 1, none⟩ = some (.bool cn)) := Lib.hid fun W g => ⟨(g.cell (p := ⟨q, 0, none⟩) hq8).trans x0, (g.cell (p := ⟨q, 1, none⟩) hq8).trans x1⟩
            have HDW : Hid (Below w8.heap.size w8 w8.drew) := Lib.hid (Bt.drewN_below w8 1)
            have HW9 := Lib.hid (HB2.out.trans ((HB9.out.trans (HDW.out.mono HB9.out.size)).mono HB2.out.size))
            have HVD := Lib.hid (HV.out.later HW9.out)
            have HTT : Hid (∀ W, Below w8.drew.heap.size w8.drew W → Ty.Tabs W) := Lib.hid fun W g => HT.out.below (HW9.out.trans (g.mono HW9.out.size)) HT.out.two
            clear hq c0 c1 x0 x1 hsz hq8 HB7 HO7
            go_region_held3 (fun W => W.cell? ⟨q, 0, none⟩ = some (.int .i64 ck) ∧ W.cell? ⟨q, 1, none⟩ = some (.bool cn))
              (first
                | exact HHS.out _ HDW.out
                | exact HHS.out _ (HDW.out.trans (g5.mono HDW.out.size))
                | exact HHS.out _ (HDW.out.trans ((g5.trans (g6.mono g5.size)).mono HDW.out.size)))
              (first
                | (go_at_call 22; (with_reducible refine (CK2.out _ HVD.out).mono ?_); rintro e w5 ⟨u, rfl, hu, g5⟩)
                | (go_at_call 21; (with_reducible refine (CW2.out u _ (HTT.out _ g5) hu).mono ?_); rintro e w6 ⟨rfl, g6⟩))
            have hg6 := HDW.out.trans ((g5.trans (g6.mono g5.size)).mono HDW.out.size)
            have HG6 := Lib.hid (HB9.out.trans (hg6.mono HB9.out.size))
            have HO10 := Lib.hid (HO9.out.later hg6)
            have ct := Ty.text_c w2.heap.size _ (Bk.pre s L k) (Ty.S E) _ (HT.out.below (HB2.out.trans (HG6.out.mono HB2.out.size)) HT.out.two) HO10.out HG6.out.size (by have := HPL.out; rw [Ty.size_S] at this; have := HE9.out; omega)
            rw [List.append_assoc, ← HEE.out, ← HPR.out] at ct
            clear hu g5 g6 hg6
            go_wp2_with fail
            with_reducible refine ct.mono ?_
            rintro e w7 ⟨v7, rfl, hO7, g7⟩
            have HO7 := Lib.hid hO7
            have HB7 := Lib.hid (HG6.out.trans (g7.below HG6.out.size HO10.out.base))
            clear ct hO7 g7
            go_wp2
            go_roundw
            case rel => exact ⟨k + 1, HK.out, by simp, HO7.out, HB7.out⟩
            case measure =>
              simp [intOf]
              exact Bk.meas2 HK.out
        · obtain rfl : k = s.length := by omega
          have dk : ¬ (s.length : Int) < (s.length : Int) := by omega
          rw [Bk.pre_all] at HO7
          have hcv := HO7.out.str
          clear hlt hkl hb HPL
          go_wp2
          go_ret2
          exact ⟨by rw [HE.out]; rfl, HB2.out.trans (HB7.out.mono HB2.out.size)⟩
end Go.Proofs.YtfbjmehkipcmbaaGreatDoor
