/-
  Contracts of package texts: the reader of a dictionary.
  Contracts of package texts: the reader of a dictionary, of either codec.
  Contracts of package texts: the reader of either codec; Read.
-/
import Derived.Test.YtcognkgabdaneaaGreatDoorU7
import Derived.Test.YtcognkgabdaneaaGreatDoorQD
import Derived.Test.YtcognkgabdaneaaGreatDoorPA
namespace Go.Proofs.YtcognkgabdaneaaGreatDoor
open Go.RowKit Go.Maps
open Ty (encU num txt)
open Ig (rest)
open Tx (restT rdWords rdPick rdBody outs)
/-- An ascending list within another. -/
theorem Tx.asc_sub : ∀ (d e : List Tx.Str) (p q : Option Tx.Str), Tx.Asc p e → Tx.Asc q d → (∀ x ∈ e, x ∈ d) → e.length ≤ d.length ∧ (e.length = d.length → e = d)
  | [], [], _, _, _, _, _ => ⟨Nat.le_refl _, fun _ => rfl⟩
  | [], a :: e, _, _, _, _, h => by have := h a (by simp); cases this
  | b :: d, [], _, _, _, _, _ => ⟨by simp, fun h => by simp at h⟩
  | b :: d, a :: e, p, q, he, hd, h => by
    have ha := h a (by simp)
    have hb := Tx.asc_all d (some b) hd.2 b rfl
    have hae := Tx.asc_all e (some a) he.2 a rfl
    rcases List.mem_cons.1 ha with rfl | ha
    · have h2 : ∀ x ∈ e, x ∈ d := fun x hx => by
        rcases List.mem_cons.1 (h x (by simp [hx])) with e1 | h3
        · have := hae x hx
          rw [e1] at this
          have k : Tx.lt a a = false := Kn.bl_irrefl a
          rw [k] at this
          cases this
        · exact h3
      obtain ⟨i1, i2⟩ := Tx.asc_sub d e (some a) (some a) he.2 hd.2 h2
      exact ⟨by simp [i1], fun hl => by rw [i2 (by simpa using hl)]⟩
    · have hba := hb a ha
      have h2 : ∀ x ∈ a :: e, x ∈ d := fun x hx => by
        rcases List.mem_cons.1 (h x hx) with e1 | h3
        · rcases List.mem_cons.1 hx with e2 | hx
          · rw [← e2, e1] at hba
            have k : Tx.lt b b = false := Kn.bl_irrefl b
            rw [k] at hba
            cases hba
          · have h4 := Kn.bl_trans b a x hba (hae x hx)
            rw [e1, Kn.bl_irrefl] at h4
            cases h4
        · exact h3
      obtain ⟨i1, _⟩ := Tx.asc_sub d (a :: e) p (some b) he hd.2 h2
      have i3 : (a :: e).length ≤ d.length := i1
      exact ⟨by rw [List.length_cons (a := b)]; omega, fun hl => by rw [List.length_cons (a := b)] at hl; omega⟩
theorem Tx.mark_iff (X : Nat → Nat) (n j : Nat) : Tx.mark X n j = true ↔ ∃ i, i < n ∧ X i = j := by
  unfold Tx.mark
  rw [List.any_eq_true]
  constructor
  · rintro ⟨i, hi, e⟩
    exact ⟨i, List.mem_range.1 hi, by simpa using e⟩
  · rintro ⟨i, hi, e⟩
    exact ⟨i, List.mem_range.2 hi, by simp [e]⟩
/-- Each string of the dictionary is used just where there are as many. -/
theorem Tx.used_iff {n : Nat} {d : List Tx.Str} {p : Option Tx.Str} {X : Nat → Nat} (hd : Tx.Asc p d) (hX : ∀ i, i < n → X i < d.length) : (∀ j, j < d.length → Tx.mark X n j = true) ↔ ¬ (Tx.dict (outs n d X)).length < d.length := by
  have hin : ∀ x ∈ outs n d X, x ∈ d := fun x hx => by
    obtain ⟨i, hi, rfl⟩ := List.mem_map.1 hx
    rw [List.mem_range] at hi
    rw [List.getD, List.getElem?_eq_getElem (hX i hi), Option.getD_some]
    exact List.getElem_mem _
  obtain ⟨h1, h2⟩ := Tx.asc_sub d (Tx.dict (outs n d X)) none p (Tx.dict_asc _) hd (fun x hx => hin x ((Tx.dict_mem _ x).1 hx))
  constructor
  · intro h
    have : Tx.dict (outs n d X) = d := Tx.asc_same _ _ none p (Tx.dict_asc _) hd fun x => by
      rw [Tx.dict_mem]
      refine ⟨hin x, fun hx => ?_⟩
      obtain ⟨j, hj, e⟩ := List.getElem_of_mem hx
      obtain ⟨i, hi, e2⟩ := (Tx.mark_iff X n j).1 (h j hj)
      refine List.mem_map.2 ⟨i, List.mem_range.2 hi, ?_⟩
      rw [e2, List.getD, List.getElem?_eq_getElem hj, Option.getD_some, e]
    rw [this]
    exact Nat.lt_irrefl _
  · intro h j hj
    have he : Tx.dict (outs n d X) = d := h2 (by omega)
    have hm : d[j] ∈ outs n d X := (Tx.dict_mem _ _).1 (by rw [he]; exact List.getElem_mem hj)
    obtain ⟨i, hi, e⟩ := List.mem_map.1 hm
    rw [List.mem_range] at hi
    refine (Tx.mark_iff X n j).2 ⟨i, hi, ?_⟩
    have hx := hX i hi
    rw [List.getD, List.getElem?_eq_getElem hx, Option.getD_some] at e
    have e1 := Tx.pos_at d p hd (X i) d[j] (by rw [List.getElem?_eq_getElem hx, e])
    have e2 := Tx.pos_at d p hd j d[j] (List.getElem?_eq_getElem hj)
    omega
/-- The picking by package packed's. -/
theorem Tx.pk_err {n : Nat} {d : List Tx.Str} {l : List UInt8} (he : Pk.err n l ≠ 0) : (rdPick n d l).1 = Pk.err n l := by
  cases l with
  | nil => rw [Tx.rdPk1, Pk.err1]
  | cons x r =>
    by_cases h1 : 64 < x.toNat
    · rw [Tx.rdPk2 h1, Pk.err2 h1]
    · by_cases h2 : r.length < Bt.need (n * x.toNat)
      · rw [Tx.rdPk3 h1 h2, Pk.err3 h1 h2]
      · by_cases h3 : Bt.chk (Ty.S (r.take (Bt.need (n * x.toNat)))) (n * x.toNat) = 0
        · by_cases h4 : Bt.wid n (Bt.nums (Ty.S (r.take (Bt.need (n * x.toNat)))) x.toNat) < x.toNat
          · rw [Pk.err5 h1 h2 h3 h4]
            refine Tx.rdPk5 h1 h2 h3 fun hg => ?_
            have h5 : Tx.right n x.toNat d (Bt.nums (Ty.S (r.take (Bt.need (n * x.toNat)))) x.toNat) = true := hg
            have := (Tx.right_iff.1 h5).2.2
            omega
          · rw [Pk.err6 h1 h2 h3 h4] at he
            exact absurd rfl he
        · rw [Tx.rdPk4 h1 h2 h3, Pk.err4 h1 h2 h3]
theorem Tx.pk_bad {n : Nat} {d : List Tx.Str} {l : List UInt8} (he : Pk.err n l = 0) (h : ¬ ((∀ i, i < n → Pk.X n l i < d.length) ∧ (∀ j, j < d.length → Tx.mark (Pk.X n l) n j = true))) : (rdPick n d l).1 = 4 := by
  obtain ⟨x, r, rfl, h1, h2, h3, h4, hq, hX, hR⟩ := Pk.good he
  rw [hX] at h
  refine Tx.rdPk5 (by omega) (by omega) h3 fun hg => h ?_
  have h5 : Tx.right n x.toNat d (Bt.nums (Ty.S (r.take (Bt.need (n * x.toNat)))) x.toNat) = true := hg
  exact ⟨(Tx.right_iff.1 h5).1, (Tx.right_iff.1 h5).2.1⟩
theorem Tx.pk_good {n : Nat} {d : List Tx.Str} {l : List UInt8} (he : Pk.err n l = 0) (h : (∀ i, i < n → Pk.X n l i < d.length) ∧ (∀ j, j < d.length → Tx.mark (Pk.X n l) n j = true)) : rdPick n d l = (0, outs n d (Pk.X n l), Pk.rest n l) := by
  obtain ⟨x, r, rfl, h1, h2, h3, h4, hq, hX, hR⟩ := Pk.good he
  rw [hX] at h h4 ⊢
  rw [hR]
  have h5 : Tx.right n x.toNat d (Ig.un (Ty.S (r.take (Bt.need (n * x.toNat)))) x.toNat) = true := Tx.right_iff.2 ⟨h.1, h.2, h4⟩
  exact Tx.rdPk6 (by omega) (by omega) h3 h5
theorem Tx.own_row {base : Nat} {w : World} {g n : Nat} {L : List Tx.Str} (h : w.rowIs g 9 n (Tx.sv L)) (hn : L.length = n) (hb : base ≤ g) (hm : n ≤ maxLen) : Tx.Own base w (.slice (some ⟨g, 0, none⟩) n n) L := by
  obtain ⟨c, hg, hc, hf⟩ := h
  subst hn
  refine ⟨by simp, .inr ⟨g, L.length, c, rfl, hb, hg, Nat.le_refl _, hm, by simpa using hc, ?_⟩⟩
  rw [Nat.mul_one]
  refine List.ext_getElem? fun j => ?_
  by_cases hj : j < L.length
  · rw [List.getElem?_take_of_lt hj, List.getElem?_map, List.getElem?_range hj, Array.getElem?_toList, hf j hj]
    rfl
  · rw [List.getElem?_eq_none (by rw [List.length_take]; omega), List.getElem?_eq_none (by simp; omega)]
theorem Tx.outs_sv (n : Nat) (d : List Tx.Str) (X : Nat → Nat) {i : Nat} (h : i < n) : Tx.sv (outs n d X) i = .string (Ty.S (d.getD (X i) [])) := by
  unfold Tx.sv outs
  rw [List.getD, List.getElem?_map, List.getElem?_range h]
  rfl
end Go.Proofs.YtcognkgabdaneaaGreatDoor

namespace Go.Proofs.YtcognkgabdaneaaGreatDoor
open Go.RowKit Go.Maps
open Ty (encU num txt)
open Ig (rest)
open Tx (restT rdWords rdPick rdBody outs)
set_option maxHeartbeats 4000000 in
set_option maxRecDepth 100000 in
theorem Tx.readDictionary_c (b n : Nat) (l : List UInt8) (w : World) (hw : Ty.Tabs w) (hG : Ty.G ≤ b) (h : Ty.Cur b w l 0) (hl : l.length ≤ 140737488355328) (hn : n ≤ 65536) :
    Calls Tryz.prog 100 #[.pointer (some ⟨b, 0, none⟩), .int .i64 n] w (Tx.Rd b w (rdBody 1 n l)) := by
  have hbw := h.lt
  have crc := Tx.readCount_c b l w hw h hl
  have hrl := Tx.rest_le l
  by_cases hE : Tx.cntE l = 0
  · have he : (num l).2.2 = 0 := by
      unfold Tx.cntE at hE
      by_cases h0 : (num l).2.2 ≠ 0
      · rw [if_pos h0] at hE; exact absurd hE h0
      · simpa using h0
    have hm : ¬ 65536 < (num l).1 := by
      unfold Tx.cntE at hE
      rw [if_neg (by rw [he]; simp)] at hE
      intro h1
      rw [if_pos h1] at hE
      cases hE
    rw [hE] at crc
    have B3 := Lib.hid (fun h3 => Tx.rdB3 (n := n) he hm h3)
    have B4 := Lib.hid (fun h3 => Tx.rdB4 (n := n) he hm h3)
    have HONLY := Lib.hid (fun h3 => (Tx.rdWords_only true (num l).1 none (rest l) h3).2)
    have HLE : Hid ((rdWords true (num l).1 none (rest l)).1 = 0 → (rdWords true (num l).1 none (rest l)).2.2.length ≤ l.length) := Lib.hid fun h3 => by
      have h1 := (Tx.rdWords_only true (num l).1 none (rest l) h3).1
      have h2 := congrArg List.length h1
      rw [List.length_append] at h2
      omega
    have cw := fun wz (hT : Ty.Tabs wz) (hc : Ty.Cur b wz (rest l) 0) => Tx.readStrings_c b (num l).1 (rest l) true wz hT hG hc (by omega) (by omega)
    have HM : Hid ((num l).1 ≤ 65536) := Lib.hid (by omega)
    generalize (num l).1 = m at crc B3 B4 HONLY HLE cw HM
    generalize rest l = l5 at crc B3 B4 HONLY HLE cw
    generalize rdWords true m none l5 = T at B3 B4 HONLY HLE cw
    obtain ⟨C, d, l6⟩ := T
    simp only at B3 B4 HONLY HLE
    generalize hTT : rdBody 1 n l = TT at B3 B4 ⊢
    clear hTT hE he hm h
    go_enter Tryz.func100, Tryz.ntmps100
    go_wp2_with fail
    refine crc.mono ?_
    rintro e w3 ⟨m', rfl, hgd, hg3⟩
    obtain ⟨rfl, hm6, hc3⟩ := hgd (by trivial)
    have hT3 := hw.by hg3 (by intro k hk; cases hk; exact hG)
    have HG3 := Lib.hid hg3
    have HT3 := Lib.hid hT3
    have cw3 := cw _ hT3 hc3
    simp only [Int.natCast_zero]
    clear crc cw hg3 hT3 hc3 hgd
    go_wp2_with fail
    refine cw3.mono ?_
    rintro e w7 ⟨vd, rfl, hO7, hc7, hg7⟩
    simp only at hO7 hc7
    have HG7 := Lib.hid (Ty.by_trans HG3.out hg7)
    have hb3 := HG3.out.size
    clear cw3 hg7
    by_cases hC : C = 0
    · subst hC
      simp only [if_true] at hO7
      have hc8 := hc7 (by trivial)
      have HB4 := Lib.hid (B4.out (by trivial))
      obtain ⟨hdl, hd64, hda⟩ := HONLY.out (by trivial)
      have hl6 := HLE.out (by trivial)
      have HDA := Lib.hid (hda (by trivial))
      have HD64 := Lib.hid hd64
      have hdl6 : d.length ≤ 65536 := by rw [hdl]; exact HM.out
      have HO7 := Lib.hid hO7
      have hA7 := hO7.at
      obtain ⟨ad, cd, rfl, hcd, _, hd0⟩ := hA7
      have crd := Pk.read_c b n l6 _ hc8 (by omega) hn
      simp only [Int.natCast_zero]
      have P1 := Lib.hid (fun he => Tx.pk_err (n := n) (d := d) (l := l6) he)
      have P2 := Lib.hid (fun he h => Tx.pk_bad (n := n) (d := d) (l := l6) he h)
      have P3 := Lib.hid (fun he h => Tx.pk_good (n := n) (d := d) (l := l6) he h)
      rw [← HB4.out] at P1 P2 P3
      unfold Pk.Rd at crd
      generalize Pk.X n l6 = X at crd P2 P3
      generalize Pk.rest n l6 = l9 at crd P3
      generalize Pk.err n l6 = C at crd P1 P2 P3
      clear hc7 hO7 hc8 B3 B4 HB4 HONLY HLE hd64 hda hd0 hdl hl6
      go_wp2_with fail
      refine crd.mono ?_
      rintro e w8 ⟨vi, rfl, hgi, hbi, hg8⟩
      have HG8 := Lib.hid (Ty.by_trans HG7.out hg8)
      have HO8 := Lib.hid (HO7.out.by hg8 (by omega))
      clear crd hg8
      by_cases hC : C = 0
      · subst hC
        obtain ⟨hS8, hc8⟩ := hgi (by trivial)
        simp only [Int.natCast_zero]
        have Q2 := Lib.hid (P2.out (by trivial))
        have Q3 := Lib.hid (P3.out (by trivial))
        have HS8 := Lib.hid hS8
        have HC8 := Lib.hid hc8
        have hmk := run_make_row' (P := Tryz.prog) 74 9 (.string ⟨#[]⟩) 16 Tryz.underlying74 Tx.infoS rfl .i64 .i64 n (by omega) (by omega)
        obtain ⟨a8, c8, rfl, h8⟩ := hS8
        have H8 := Lib.hid h8
        have hs8 := HG8.out.size
        clear hgi hbi P1 P2 P3 hc8 h8
        go_wp2_with fail
        have hR : (w8.alloc (.cells (madeCells #[.string ⟨#[]⟩] n) 9)).rowIs w8.heap.size 9 n (Bt.upTo 0 (Tx.sv (outs n d X)) (.string ⟨#[]⟩)) := (World.rowIs_made w8 (.string ⟨#[]⟩) n 9).congr fun i _ => by unfold Bt.upTo; rw [if_neg (by omega)]
        have hB : Below w8.heap.size w8 (w8.alloc (.cells (madeCells #[.string ⟨#[]⟩] n) 9)) := (Below.refl _ _).alloc (Nat.le_refl _) _
        generalize w8.alloc (.cells (madeCells #[.string ⟨#[]⟩] n) 9) = w9 at hR hB ⊢
        clear hmk
        generalize hg : w8.heap.size = g at hR hB
        have HGE := Lib.hid hg
        clear hg
        go_loopw [43] (fun i wr => ∃ k : Nat, k ≤ n ∧ i = .int .i64 k ∧ (∀ j, j < k → X j < d.length) ∧ wr.rowIs g 9 n (Bt.upTo k (Tx.sv (outs n d X)) (.string ⟨#[]⟩)) ∧ Below g w8 wr) (fun i _ => n - (intOf i).toNat)
        case atStart => exact ⟨0, by omega, rfl, (fun j hj => by omega), hR, hB⟩
        case round =>
          obtain ⟨k, hk, rfl, hxs, hRk, hBk⟩ := hrel
          have HXS := Lib.hid hxs
          have HR := Lib.hid hRk
          have HBK := Lib.hid hBk
          have hge := HGE.out
          have hb8 : Below w8.heap.size w8 wr := by rw [hge]; exact hBk
          have HGR := Lib.hid (Tx.below_by hb8 HG8.out)
          have HOR : Hid (Tx.Own w3.heap.size wr (.slice ad d.length cd) d) := Lib.hid (Bt.Buf.kept HO8.out hb8)
          have HB8 := Lib.hid hb8
          clear hR hB hxs hRk hBk hb8 hge
          have hk0 : (0 : Int) ≤ (k : Int) := by omega
          by_cases hl2 : k < n
          · have hkl : (k : Int) < (n : Int) := by omega
            rcases H8.out with h8 | ⟨b2, o2, rfl, hb2, h8⟩
            · omega
            · have hcell : wr.cell? ⟨b2, o2 + k, none⟩ = some (.int .u64 ((X k : Nat) : Int)) := (HB8.out.cell (p := ⟨b2, o2 + k, none⟩) hb2).trans (h8 k hl2)
              have hdl2 : (d.length : Int) ≤ 65536 := by omega
              by_cases hxd : X k < d.length
              · obtain ⟨b3, o3, rfl, hcd2⟩ := HOR.out.at.str hxd
                have hf := HR.out.frozen k
                have hcl := HR.out.cell hl2
                have HOV := Lib.hid (Tx.outs_sv n d X hl2)
                have HXN : Hid (∀ j, j < k + 1 → X j < d.length) := Lib.hid fun j hj => by
                  by_cases e : j = k
                  · rw [e]; exact hxd
                  · exact HXS.out j (by omega)
                generalize Ty.S (d.getD (X k) []) = ys at hcd2 HOV
                obtain ⟨x', hx'⟩ : ∃ x', x' = X k := ⟨_, rfl⟩
                rw [← hx'] at hcell hcd2 hxd
                have hxi : (x' : Int) < (d.length : Int) := by omega
                have hxi2 : ¬ (d.length : Int) ≤ (x' : Int) := by omega
                have hx0 : (0 : Int) ≤ (x' : Int) := by omega
                clear h8 hx' hxd
                go_wp2
                go_roundw
                case rel => exact ⟨k + 1, by omega, by simp, HXN.out, Bt.upTo_next HR.out (by rw [HOV.out]), HBK.out.trans (Bt.below_set (Nat.le_refl _) _)⟩
                case measure => simp [intOf]; omega
              · have HB := Lib.hid (Q2.out fun hr => hxd (hr.1 k hl2))
                have hxi : (d.length : Int) ≤ ((X k : Nat) : Int) := by omega
                obtain ⟨x', hx'⟩ : ∃ x', x' = X k := ⟨_, rfl⟩
                rw [← hx'] at hcell hxi
                clear h8 hx' hxd
                go_wp2
                go_ret2
                exact Tx.Rd.bad (by rw [HB.out]; rfl) (by rw [HB.out]; decide) HGR.out
          · obtain rfl : k = n := by omega
            have hkl : ¬ (k : Int) < (k : Int) := by omega
            have hrow : wr.rowIs g 9 k (Tx.sv (outs k d X)) := HR.out.congr fun i hi => by unfold Bt.upTo; rw [if_pos hi]
            have hown := Tx.own_row (base := w.heap.size) hrow (Tx.outs_len k d X) (by have := HGE.out; omega) (by unfold maxLen; omega)
            have HOW := Lib.hid hown
            have HU := Lib.hid (Tx.used_iff (n := k) HDA.out HXS.out)
            have HCR := Lib.hid (HC8.out.below HB8.out (by have := HG8.out.size; omega))
            have ho64 : ∀ t ∈ outs k d X, t.length ≤ 64 := fun t ht => by
              obtain ⟨i, hi, rfl⟩ := List.mem_map.1 ht
              rw [List.mem_range] at hi
              rw [List.getD, List.getElem?_eq_getElem (HXS.out i hi), Option.getD_some]
              exact HD64.out _ (List.getElem_mem _)
            have hol := Tx.outs_len k d X
            have hat := hown.at
            have cu := Tx.uses_c (.slice (some ⟨g, 0, none⟩) k k) (outs k d X) wr hat (by rw [hol]; omega) ho64
            have HOL := Lib.hid hol
            clear hrow hown hat hol ho64
            go_wp2_with fail
            refine cu.mono ?_
            rintro e w10 ⟨rfl, hcnt, hb10⟩
            obtain ⟨D, hown, _, hsz⟩ := hcnt.keys
            have HO10 := Lib.hid (Bt.Buf.kept HOW.out hb10)
            have HG10 := Lib.hid (Tx.below_by hb10 HGR.out)
            have HC10 := Lib.hid (HCR.out.below hb10 (by have := HGR.out.size; omega))
            clear cu hb10 hcnt
            by_cases hlt : (Tx.dict (outs k d X)).length < d.length
            · have HB := Lib.hid (Q2.out fun hr => (HU.out.1 hr.2) hlt)
              have hlti : ((Maps.size D : Nat) : Int) < (d.length : Int) := by omega
              clear hlt hsz
              go_wp2_with (at_len; refine wpList_len_own _ rfl _ 141 rfl 9 3 Tryz.underlying141 _ wr.heap.size _ D rfl hown ?_)
              go_wp2
              go_ret2
              exact Tx.Rd.bad (by rw [HB.out]; rfl) (by rw [HB.out]; decide) HG10.out
            · have HT := Lib.hid (Q3.out ⟨HXS.out, HU.out.2 hlt⟩)
              have hlti : ¬ ((Maps.size D : Nat) : Int) < (d.length : Int) := by omega
              clear hlt hsz
              go_wp2_with (at_len; refine wpList_len_own _ rfl _ 141 rfl 9 3 Tryz.underlying141 _ wr.heap.size _ D rfl hown ?_)
              go_wp2
              go_ret2
              exact Tx.Rd.good (by rw [HT.out]) (by rw [HT.out]; exact HO10.out) (by rw [HT.out]; exact HC10.out) HG10.out
      · have HB := Lib.hid (P1.out hC)
        obtain rfl := hbi hC
        have hne : ((C : Int) != 0) = true := by rw [bne_iff_ne]; omega
        have HC := Lib.hid hC
        clear hC hgi hbi
        go_wp2
        go_ret2
        exact Tx.Rd.bad (by rw [HB.out]) (by rw [HB.out]; exact HC.out) HG8.out
    · have HB := Lib.hid (B3.out hC)
      have hne : ((C : Int) != 0) = true := by rw [bne_iff_ne]; omega
      have HC := Lib.hid hC
      clear hC hO7 hc7
      go_wp2
      go_ret2
      exact Tx.Rd.bad (by rw [HB.out]) (by rw [HB.out]; exact HC.out) HG7.out
  · have HB : Hid ((rdBody 1 n l).1 = Tx.cntE l) := Lib.hid (by
      unfold Tx.cntE at hE ⊢
      by_cases h0 : (num l).2.2 ≠ 0
      · rw [if_pos h0, Tx.rdB1 h0]
      · rw [if_neg h0] at hE ⊢
        by_cases h1 : 65536 < (num l).1
        · rw [if_pos h1, Tx.rdB2 (by simpa using h0) h1]
        · rw [if_neg h1] at hE
          exact absurd rfl hE)
    generalize Tx.cntE l = q at crc hE HB
    have hne : ((q : Int) != 0) = true := by rw [bne_iff_ne]; omega
    have HQ := Lib.hid hE
    clear hE h
    go_enter Tryz.func100, Tryz.ntmps100
    go_wp2_with fail
    refine crc.mono ?_
    rintro e w3 ⟨m', rfl, _, hg3⟩
    have HG3 := Lib.hid hg3
    clear crc hg3
    go_wp2
    go_ret2
    exact Tx.Rd.bad (by rw [HB.out]) (by rw [HB.out]; exact HQ.out) HG3.out
end Go.Proofs.YtcognkgabdaneaaGreatDoor

namespace Go.Proofs.YtcognkgabdaneaaGreatDoor
open Go.RowKit
open Ty (num)
open Ig (rest)
open Tx (rdBody rd)
set_option maxHeartbeats 1000000 in
theorem Tx.readElements_c (b n K : Nat) (hK : K ≤ 1) (l : List UInt8) (w : World) (hw : Ty.Tabs w) (hG : Ty.G ≤ b) (h : Ty.Cur b w l 0) (hl : l.length ≤ 140737488355328) (hn : n ≤ 65536) :
    Calls Tryz.prog 70 #[.pointer (some ⟨b, 0, none⟩), .int .i64 n, .int .i64 K] w (Tx.Rd b w (rdBody K n l)) := by
  rcases (by omega : K = 0 ∨ K = 1) with rfl | rfl
  · have cr := Tx.readStrings_c b n l false w hw hG h hl hn
    rw [Tx.rdBody0]
    clear h hK
    go_enter Tryz.func70, Tryz.ntmps70
    go_wp2_with fail
    refine cr.mono ?_
    rintro e w3 ⟨v, rfl, hr⟩
    have HR := Lib.hid hr
    clear cr hr
    go_wp2
    go_ret2
    exact ⟨v, rfl, HR.out⟩
  · have cr := Tx.readDictionary_c b n l w hw hG h hl hn
    clear h hK
    go_enter Tryz.func70, Tryz.ntmps70
    go_wp2_with fail
    refine cr.mono ?_
    rintro e w3 ⟨v, rfl, hr⟩
    have HR := Lib.hid hr
    clear cr hr
    go_wp2
    go_ret2
    exact ⟨v, rfl, HR.out⟩
set_option maxHeartbeats 4000000 in
set_option maxRecDepth 100000 in
theorem Tx.read_c (s : ByteArray) (w : World) (hw : Ty.Tabs w) (hs : s.size ≤ 140737488355328) :
    Calls Tryz.prog 50 #[.string s] w (Tx.Got w (rd s.data.toList)) := by
  have hsl : s = Ty.S s.data.toList := rfl
  have hll : s.data.toList.length ≤ 140737488355328 := by rw [Ty.length_data]; exact hs
  rw [hsl, Ty.data_S]
  generalize s.data.toList = l at hll ⊢
  clear hsl hs
  have cf := Ty.from_f l w hw
  have hG := hw.two
  cases l with
  | nil =>
    have HR : Hid (rd [] = (2, [])) := Lib.hid rfl
    have e1 : Ty.rdB [] 0 = (0, [], 2) := rfl
    have cb := fun b wz (hc : Ty.Cur b wz [] 0) => Ty.cbyte_c b [] 0 wz hc (by simp)
    have crc := fun b wz (hT : Ty.Tabs wz) (hc : Ty.Cur b wz [] 2) => Tx.readCount_bad b 2 [] wz hT hc (by decide) (by simp)
    rw [e1] at cb
    clear e1 hll
    go_enter Tryz.func50, Tryz.ntmps50
    go_wp2_with fail
    refine cf.mono ?_
    rintro e w1 ⟨rfl, hc1, hT1, hg1⟩
    have hs1 := hg1.size
    have cb1 := cb _ _ hc1
    have HB1 := Lib.hid (Ty.below_none hg1 (Nat.le_refl _))
    clear cf cb hc1 hg1
    go_wp2_with fail
    refine cb1.mono ?_
    rintro e w2 ⟨rfl, hc2, hg2⟩
    have crc2 := crc _ _ (hT1.at_ hg2 hG) hc2
    have HB2 := Lib.hid (HB1.out.trans (Ty.below_at (B := w.heap.size) hg2 hs1 (Nat.le_refl _)))
    have hs2 := HB2.out.size
    clear cb1 hc2 hg2 hT1 crc
    go_wp2_with fail
    refine crc2.mono ?_
    rintro e w3 ⟨rfl, hg3⟩
    have HB3 := Lib.hid (HB2.out.trans (Ty.below_at (B := w.heap.size) hg3 hs2 (Nat.le_refl _)))
    clear crc2 hg3
    go_wp2
    go_ret2
    exact Tx.Got.bad HR.out rfl HB3.out
  | cons x r =>
    have hrl : r.length ≤ 140737488355328 := by rw [List.length_cons] at hll; omega
    have cb := fun b wz (hc : Ty.Cur b wz (x :: r) 0) => Pk.cbyte_m b x r wz hc (by omega)
    by_cases h1 : 1 < x.toNat
    · have HR := Lib.hid (Tx.rd1 (r := r) h1)
      have h1i : (2 : Int) ≤ (x.toNat : Int) := by omega
      clear h1
      go_enter Tryz.func50, Tryz.ntmps50
      go_wp2_with fail
      refine cf.mono ?_
      rintro e w1 ⟨rfl, hc1, hT1, hg1⟩
      have hs1 := hg1.size
      have cb1 := cb _ _ hc1
      have HB1 := Lib.hid (Ty.below_none hg1 (Nat.le_refl _))
      clear cf cb hc1 hg1
      go_wp2_with fail
      refine cb1.mono ?_
      rintro e w2 ⟨rfl, hc2, hg2⟩
      have HB2 := Lib.hid (HB1.out.trans (Ty.below_at (B := w.heap.size) hg2 hs1 (Nat.le_refl _)))
      clear cb1 hc2 hg2 hT1
      go_wp2
      go_ret2
      exact Tx.Got.bad HR.out rfl HB2.out
    · have crc := fun b wz (hT : Ty.Tabs wz) (hc : Ty.Cur b wz r 0) => Tx.readCount_c b r wz hT hc hrl
      obtain ⟨K, hK⟩ : ∃ K, K = x.toNat := ⟨_, rfl⟩
      have hKi : ¬ (2 : Int) ≤ (K : Int) := by omega
      have hK1 : K ≤ 1 := by omega
      have hr3 := Tx.rest_le r
      have hl3 : (rest r).length ≤ 140737488355328 := by omega
      by_cases hE : Tx.cntE r = 0
      · have he : (num r).2.2 = 0 := by
          unfold Tx.cntE at hE
          by_cases h0 : (num r).2.2 ≠ 0
          · rw [if_pos h0] at hE; exact absurd hE h0
          · simpa using h0
        have hm : ¬ 65536 < (num r).1 := by
          unfold Tx.cntE at hE
          rw [if_neg (by rw [he]; simp)] at hE
          intro h1
          rw [if_pos h1] at hE
          cases hE
        have G4 := Lib.hid (fun h4 => Tx.rd4 (r := r) h1 he hm h4)
        have G5 := Lib.hid (fun h4 h5 => Tx.rd5 (r := r) h1 he hm h4 h5)
        have G6 := Lib.hid (fun h4 h5 => Tx.rd6 (r := r) h1 he hm h4 h5)
        rw [hE] at crc
        rw [← hK] at cb G4 G5 G6
        generalize rd (x :: r) = RR at G4 G5 G6 ⊢
        have ce := fun b wz (hT : Ty.Tabs wz) (hb : Ty.G ≤ b) (hc : Ty.Cur b wz (rest r) 0) => Tx.readElements_c b (num r).1 K hK1 (rest r) wz hT hb hc hl3 (by omega)
        generalize (num r).1 = n at crc G4 G5 G6 ce
        generalize rest r = l3 at crc G4 G5 G6 ce
        generalize rdBody K n l3 = T at ce G4 G5 G6
        obtain ⟨C, L, l4⟩ := T
        simp only at G4 G5 G6
        clear hK h1 he hm hE hr3 hl3 hK1
        go_enter Tryz.func50, Tryz.ntmps50
        go_wp2_with fail
        refine cf.mono ?_
        rintro e w1 ⟨rfl, hc1, hT1, hg1⟩
        have hs1 := hg1.size
        have cb1 := cb _ _ hc1
        have HB1 := Lib.hid (Ty.below_none hg1 (Nat.le_refl _))
        clear cf cb hc1 hg1
        go_wp2_with fail
        refine cb1.mono ?_
        rintro e w2 ⟨rfl, hc2, hg2⟩
        have hT2 := hT1.at_ hg2 hG
        have crc2 := crc _ _ hT2 hc2
        have HB2 := Lib.hid (HB1.out.trans (Ty.below_at (B := w.heap.size) hg2 hs1 (Nat.le_refl _)))
        have hs2 := HB2.out.size
        clear cb1 hc2 hg2 hT1 crc
        go_wp2_with fail
        refine crc2.mono ?_
        rintro e w3 ⟨m', rfl, hgd, hg3⟩
        obtain ⟨rfl, hm6, hc3⟩ := hgd (by trivial)
        have hT3 := hT2.at_ hg3 hG
        have ce3 := ce _ _ hT3 hG hc3
        have hbase : w.heap.size < w3.heap.size := hc3.lt
        have HB3 := Lib.hid (HB2.out.trans (Ty.below_at (B := w.heap.size) hg3 hs2 (Nat.le_refl _)))
        have hs3 := HB3.out.size
        simp only [Int.natCast_zero]
        clear crc2 hg3 hgd hc3 hT2 ce hT3
        go_wp2_with fail
        refine ce3.mono ?_
        rintro e w7 ⟨v7, rfl, hO7, hc7, hg7⟩
        simp only at hO7 hc7
        have HB7 := Lib.hid (HB3.out.trans (Ty.below_at (B := w.heap.size) hg7 hs3 (Nat.le_refl _)))
        clear ce3 hg7
        by_cases hC : C = 0
        · subst hC
          simp only [if_true] at hO7
          have HC8 := Lib.hid (hc7 (by trivial))
          have K5 := Lib.hid (G5.out (by trivial))
          have K6 := Lib.hid (G6.out (by trivial))
          have HA7 := Lib.hid hO7.at
          simp only [Int.natCast_zero]
          have hd := Ty.done_c w.heap.size l4 0 _ HC8.out
          clear hc7 hO7 G4 G5 G6
          by_cases hl4 : l4 = []
          · have HR := Lib.hid (K6.out hl4)
            have hf : Ty.fin l4 0 = 0 := by rw [hl4]; rfl
            rw [hf] at hd
            simp only [Int.natCast_zero] at hd
            clear hl4 hf
            go_wp2_with fail
            refine hd.mono ?_
            rintro e w8 ⟨rfl, rfl⟩
            clear hd
            go_wp2
            go_ret2
            exact Tx.Got.good HR.out HA7.out HB7.out
          · have HR := Lib.hid (K5.out hl4)
            have hf : Ty.fin l4 0 = 5 := by unfold Ty.fin; rw [if_pos ⟨rfl, hl4⟩]
            rw [hf] at hd
            have HF := Lib.hid hf
            clear hl4 hf
            go_wp2_with fail
            refine hd.mono ?_
            rintro e w8 ⟨rfl, rfl⟩
            have hd2 := Ty.done_c w.heap.size l4 0 _ HC8.out
            rw [HF.out] at hd2
            clear hd
            go_wp2_with fail
            refine hd2.mono ?_
            rintro e w9 ⟨rfl, rfl⟩
            clear hd2
            go_wp2
            go_ret2
            exact Tx.Got.bad HR.out rfl HB7.out
        · have HR := Lib.hid (G4.out hC)
          have hne : ((C : Int) != 0) = true := by rw [bne_iff_ne]; omega
          clear hC hO7 hc7
          go_wp2
          go_ret2
          exact Tx.Got.bad HR.out rfl HB7.out
      · have HR : Hid (rd (x :: r) = (Tx.cntE r, [])) := Lib.hid (by
          unfold Tx.cntE at hE ⊢
          by_cases h0 : (num r).2.2 ≠ 0
          · rw [if_pos h0, Tx.rd2 h1 h0]
          · rw [if_neg h0] at hE ⊢
            by_cases h3 : 65536 < (num r).1
            · rw [if_pos h3, Tx.rd3 h1 (by simpa using h0) h3]
            · rw [if_neg h3] at hE
              exact absurd rfl hE)
        rw [← hK] at cb
        generalize rd (x :: r) = RR at HR ⊢
        generalize Tx.cntE r = q at crc hE HR
        have hne : ((q : Int) != 0) = true := by rw [bne_iff_ne]; omega
        clear hK h1 hE hr3 hl3 hK1
        go_enter Tryz.func50, Tryz.ntmps50
        go_wp2_with fail
        refine cf.mono ?_
        rintro e w1 ⟨rfl, hc1, hT1, hg1⟩
        have hs1 := hg1.size
        have cb1 := cb _ _ hc1
        have HB1 := Lib.hid (Ty.below_none hg1 (Nat.le_refl _))
        clear cf cb hc1 hg1
        go_wp2_with fail
        refine cb1.mono ?_
        rintro e w2 ⟨rfl, hc2, hg2⟩
        have hT2 := hT1.at_ hg2 hG
        have crc2 := crc _ _ hT2 hc2
        have HB2 := Lib.hid (HB1.out.trans (Ty.below_at (B := w.heap.size) hg2 hs1 (Nat.le_refl _)))
        have hs2 := HB2.out.size
        clear cb1 hc2 hg2 hT1 crc
        go_wp2_with fail
        refine crc2.mono ?_
        rintro e w3 ⟨m', rfl, _, hg3⟩
        have HB3 := Lib.hid (HB2.out.trans (Ty.below_at (B := w.heap.size) hg3 hs2 (Nat.le_refl _)))
        clear crc2 hg3
        go_wp2
        go_ret2
        exact Tx.Got.bad HR.out rfl HB3.out
end Go.Proofs.YtcognkgabdaneaaGreatDoor
