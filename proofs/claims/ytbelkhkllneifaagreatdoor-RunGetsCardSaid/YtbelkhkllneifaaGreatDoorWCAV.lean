/-
  
  
  
  
  
-/
import Derived.Test.YtbelkhkllneifaaGreatDoorWCAU
import Derived.Test.YtbelkhkllneifaaGreatDoorWCAT
import Derived.Test.YtbelkhkllneifaaGreatDoorWCAN
import Derived.Test.YtbelkhkllneifaaGreatDoorWCAS
namespace Go.Proofs.YtbelkhkllneifaaGreatDoor
open Go.RowKit Go.Maps
open Ty (encU num txt)
open Ig (rest)
open Tx (restT rdWords rdPick rdBody outs)
set_option maxHeartbeats 4000000 in
set_option maxRecDepth 100000 in
theorem Tx.readDictionary_c (b n : Nat) (l : List UInt8) (w : World) (hw : Ty.Tabs w) (hG : Ty.G ≤ b) (h : Ty.Cur b w l 0) (hl : l.length ≤ 140737488355328) (hn : n ≤ 65536) :
 Calls Tryz.prog 217 #[.pointer (some ⟨b, 0, none⟩), .int .i64 n] w (Tx.Rd b w (rdBody 1 n l)) := by
 have hbw := h.lt
 have crc := Tx.readCount_c b l w hw h hl
 have hrl := Tx.rest_le l
 by_cases hE : Tx.cntE l = 0
 ·have he : (num l).2.2 = 0 := by
   unfold Tx.cntE at hE
   by_cases h0 : (num l).2.2 ≠ 0
   ·rw [if_pos h0] at hE; exact absurd hE h0
   ·simpa using h0
  have hm : ¬ 65536 < (num l).1 := by
   unfold Tx.cntE at hE
   rw [if_neg (by rw [he]; simp)] at hE
   intro h1
   rw [if_pos h1] at hE
   cases hE
  rw [hE] at crc
  have B3 := Lib.hid (fun h3 => Tx.rdB3 (n := n) he hm h3)
  have B4 := Lib.hid (fun h3 => Tx.rdB4 (n := n) he hm h3)
  have HONLY := Lib.hid (fun h3 => (Tx.rdWords_only true (num l).1 none (rest l) h3).2)
  have HLE : Hid ((rdWords true (num l).1 none (rest l)).1 = 0 → (rdWords true (num l).1 none (rest l)).2.2.length ≤ l.length) := Lib.hid fun h3 => by
   have h1 := (Tx.rdWords_only true (num l).1 none (rest l) h3).1
   have h2 := congrArg List.length h1
   rw [List.length_append] at h2
   omega
  have cw := fun wz (hT : Ty.Tabs wz) (hc : Ty.Cur b wz (rest l) 0) => Tx.readStrings_c b (num l).1 (rest l) true wz hT hG hc (by omega) (by omega)
  have HM : Hid ((num l).1 ≤ 65536) := Lib.hid (by omega)
  generalize (num l).1 = m at crc B3 B4 HONLY HLE cw HM
  generalize rest l = l5 at crc B3 B4 HONLY HLE cw
  generalize rdWords true m none l5 = T at B3 B4 HONLY HLE cw
  obtain ⟨C, d, l6⟩ := T
  simp only at B3 B4 HONLY HLE
  generalize hTT : rdBody 1 n l = TT at B3 B4 ⊢
  clear hTT hE he hm h
  go_enter Tryz.func217, Tryz.ntmps217
  go_wp2_with fail
  refine crc.mono ?_
  rintro e w3 ⟨m', rfl, hgd, hg3⟩
  obtain ⟨rfl, hm6, hc3⟩ := hgd (by trivial)
  have hT3 := hw.by hg3 (by intro k hk; cases hk; exact hG)
  have HG3 := Lib.hid hg3
  have HT3 := Lib.hid hT3
  have cw3 := cw _ hT3 hc3
  simp only [Int.natCast_zero]
  clear crc cw hg3 hT3 hc3 hgd
  go_wp2_with fail
  refine cw3.mono ?_
  rintro e w7 ⟨vd, rfl, hO7, hc7, hg7⟩
  simp only at hO7 hc7
  have HG7 := Lib.hid (Ty.by_trans HG3.out hg7)
  have hb3 := HG3.out.size
  clear cw3 hg7
  by_cases hC : C = 0
  ·subst hC
   simp only [if_true] at hO7
   have hc8 := hc7 (by trivial)
   have HB4 := Lib.hid (B4.out (by trivial))
   obtain ⟨hdl, hd64, hda⟩ := HONLY.out (by trivial)
   have hl6 := HLE.out (by trivial)
   have HDA := Lib.hid (hda (by trivial))
   have HD64 := Lib.hid hd64
   have hdl6 : d.length ≤ 65536 := by rw [hdl]; exact HM.out
   have HO7 := Lib.hid hO7
   have hA7 := hO7.at
   obtain ⟨ad, cd, rfl, hcd, _, hd0⟩ := hA7
   have crd := Pk.read_c b n l6 _ hc8 (by omega) hn
   simp only [Int.natCast_zero]
   have P1 := Lib.hid (fun he => Tx.pk_err (n := n) (d := d) (l := l6) he)
   have P2 := Lib.hid (fun he h => Tx.pk_bad (n := n) (d := d) (l := l6) he h)
   have P3 := Lib.hid (fun he h => Tx.pk_good (n := n) (d := d) (l := l6) he h)
   rw [← HB4.out] at P1 P2 P3
   unfold Pk.Rd at crd
   generalize Pk.X n l6 = X at crd P2 P3
   generalize Pk.rest n l6 = l9 at crd P3
   generalize Pk.err n l6 = C at crd P1 P2 P3
   clear hc7 hO7 hc8 B3 B4 HB4 HONLY HLE hd64 hda hd0 hdl hl6
   go_wp2_with fail
   refine crd.mono ?_
   rintro e w8 ⟨vi, rfl, hgi, hbi, hg8⟩
   have HG8 := Lib.hid (Ty.by_trans HG7.out hg8)
   have HO8 := Lib.hid (HO7.out.by hg8 (by omega))
   clear crd hg8
   by_cases hC : C = 0
   ·subst hC
    obtain ⟨hS8, hc8⟩ := hgi (by trivial)
    simp only [Int.natCast_zero]
    have Q2 := Lib.hid (P2.out (by trivial))
    have Q3 := Lib.hid (P3.out (by trivial))
    have HS8 := Lib.hid hS8
    have HC8 := Lib.hid hc8
    have hmk := run_make_row' (P := Tryz.prog) 111 9 (.string ⟨#[]⟩) 16 Tryz.underlying111 Tx.infoS rfl .i64 .i64 n (by omega) (by omega)
    obtain ⟨a8, c8, rfl, h8⟩ := hS8
    have H8 := Lib.hid h8
    have hs8 := HG8.out.size
    clear hgi hbi P1 P2 P3 hc8 h8
    go_wp2_with fail
    have hR : (w8.alloc (.cells (madeCells #[.string ⟨#[]⟩] n) 9)).rowIs w8.heap.size 9 n (Bt.upTo 0 (Tx.sv (outs n d X)) (.string ⟨#[]⟩)) := (World.rowIs_made w8 (.string ⟨#[]⟩) n 9).congr fun i _ => by unfold Bt.upTo; rw [if_neg (by omega)]
    have hB : Below w8.heap.size w8 (w8.alloc (.cells (madeCells #[.string ⟨#[]⟩] n) 9)) := (Below.refl _ _).alloc (Nat.le_refl _) _
    generalize w8.alloc (.cells (madeCells #[.string ⟨#[]⟩] n) 9) = w9 at hR hB ⊢
    clear hmk
    generalize hg : w8.heap.size = g at hR hB
    have HGE := Lib.hid hg
    clear hg
    go_loopw [43] (fun i wr => ∃ k : Nat, k ≤ n ∧ i = .int .i64 k ∧ (∀ j, j < k → X j < d.length) ∧ wr.rowIs g 9 n (Bt.upTo k (Tx.sv (outs n d X)) (.string ⟨#[]⟩)) ∧ Below g w8 wr) (fun i _ => n - (intOf i).toNat)
    case atStart => exact ⟨0, by omega, rfl, (fun j hj => by omega), hR, hB⟩
    case round =>
     obtain ⟨k, hk, rfl, hxs, hRk, hBk⟩ := hrel
     have HXS := Lib.hid hxs
     have HR := Lib.hid hRk
     have HBK := Lib.hid hBk
     have hge := HGE.out
     have hb8 : Below w8.heap.size w8 wr := by rw [hge]; exact hBk
     have HGR := Lib.hid (Tx.below_by hb8 HG8.out)
     have HOR : Hid (Tx.Own w3.heap.size wr (.slice ad d.length cd) d) := Lib.hid (Bt.Buf.kept HO8.out hb8)
     have HB8 := Lib.hid hb8
     clear hR hB hxs hRk hBk hb8 hge
     have hk0 : (0 : Int) ≤ (k : Int) := by omega
     by_cases hl2 : k < n
     ·have hkl : (k : Int) < (n : Int) := by omega
      rcases H8.out with h8 | ⟨b2, o2, rfl, hb2, h8⟩
      ·omega
      ·have hcell : wr.cell? ⟨b2, o2 + k, none⟩ = some (.int .u64 ((X k : Nat) : Int)) := (HB8.out.cell (p := ⟨b2, o2 + k, none⟩) hb2).trans (h8 k hl2)
       have hdl2 : (d.length : Int) ≤ 65536 := by omega
       by_cases hxd : X k < d.length
       ·obtain ⟨b3, o3, rfl, hcd2⟩ := HOR.out.at.str hxd
        have hf := HR.out.frozen k
        have hcl := HR.out.cell hl2
        have HOV := Lib.hid (Tx.outs_sv n d X hl2)
        have HXN : Hid (∀ j, j < k + 1 → X j < d.length) := Lib.hid fun j hj => by
         by_cases e : j = k
         ·rw [e]; exact hxd
         ·exact HXS.out j (by omega)
        generalize Ty.S (d.getD (X k) []) = ys at hcd2 HOV
        obtain ⟨x', hx'⟩ : ∃ x', x' = X k := ⟨_, rfl⟩
        rw [← hx'] at hcell hcd2 hxd
        have hxi : (x' : Int) < (d.length : Int) := by omega
        have hxi2 : ¬ (d.length : Int) ≤ (x' : Int) := by omega
        have hx0 : (0 : Int) ≤ (x' : Int) := by omega
        clear h8 hx' hxd
        go_wp2
        go_roundw
        case rel => exact ⟨k + 1, by omega, by simp, HXN.out, Bt.upTo_next HR.out (by rw [HOV.out]), HBK.out.trans (Bt.below_set (Nat.le_refl _) _)⟩
        case measure => simp [intOf]; omega
       ·have HB := Lib.hid (Q2.out fun hr => hxd (hr.1 k hl2))
        have hxi : (d.length : Int) ≤ ((X k : Nat) : Int) := by omega
        obtain ⟨x', hx'⟩ : ∃ x', x' = X k := ⟨_, rfl⟩
        rw [← hx'] at hcell hxi
        clear h8 hx' hxd
        go_wp2
        go_ret2
        exact Tx.Rd.bad (by rw [HB.out]; rfl) (by rw [HB.out]; decide) HGR.out
     ·obtain rfl : k = n := by omega
      have hkl : ¬ (k : Int) < (k : Int) := by omega
      have hrow : wr.rowIs g 9 k (Tx.sv (outs k d X)) := HR.out.congr fun i hi => by unfold Bt.upTo; rw [if_pos hi]
      have hown := Tx.own_row (base := w.heap.size) hrow (Tx.outs_len k d X) (by have := HGE.out; omega) (by unfold maxLen; omega)
      have HOW := Lib.hid hown
      have HU := Lib.hid (Tx.used_iff (n := k) HDA.out HXS.out)
      have HCR := Lib.hid (HC8.out.below HB8.out (by have := HG8.out.size; omega))
      have ho64 : ∀ t ∈ outs k d X, t.length ≤ 64 := fun t ht => by
       obtain ⟨i, hi, rfl⟩ := List.mem_map.1 ht
       rw [List.mem_range] at hi
       rw [List.getD, List.getElem?_eq_getElem (HXS.out i hi), Option.getD_some]
       exact HD64.out _ (List.getElem_mem _)
      have hol := Tx.outs_len k d X
      have hat := hown.at
      have cu := Tx.uses_c (.slice (some ⟨g, 0, none⟩) k k) (outs k d X) wr hat (by rw [hol]; omega) ho64
      have HOL := Lib.hid hol
      clear hrow hown hat hol ho64
      go_wp2_with fail
      refine cu.mono ?_
      rintro e w10 ⟨rfl, hcnt, hb10⟩
      obtain ⟨D, hown, _, hsz⟩ := hcnt.keys
      have HO10 := Lib.hid (Bt.Buf.kept HOW.out hb10)
      have HG10 := Lib.hid (Tx.below_by hb10 HGR.out)
      have HC10 := Lib.hid (HCR.out.below hb10 (by have := HGR.out.size; omega))
      clear cu hb10 hcnt
      by_cases hlt : (Tx.dict (outs k d X)).length < d.length
      ·have HB := Lib.hid (Q2.out fun hr => (HU.out.1 hr.2) hlt)
       have hlti : ((Maps.size D : Nat) : Int) < (d.length : Int) := by omega
       clear hlt hsz
       go_wp2_with (at_len; refine wpList_len_own _ rfl _ 247 rfl 9 3 Tryz.underlying247 _ wr.heap.size _ D rfl hown ?_)
       go_wp2
       go_ret2
       exact Tx.Rd.bad (by rw [HB.out]; rfl) (by rw [HB.out]; decide) HG10.out
      ·have HT := Lib.hid (Q3.out ⟨HXS.out, HU.out.2 hlt⟩)
       have hlti : ¬ ((Maps.size D : Nat) : Int) < (d.length : Int) := by omega
       clear hlt hsz
       go_wp2_with (at_len; refine wpList_len_own _ rfl _ 247 rfl 9 3 Tryz.underlying247 _ wr.heap.size _ D rfl hown ?_)
       go_wp2
       go_ret2
       exact Tx.Rd.good (by rw [HT.out]) (by rw [HT.out]; exact HO10.out) (by rw [HT.out]; exact HC10.out) HG10.out
   ·have HB := Lib.hid (P1.out hC)
    obtain rfl := hbi hC
    have hne : ((C : Int) != 0) = true := by rw [bne_iff_ne]; omega
    have HC := Lib.hid hC
    clear hC hgi hbi
    go_wp2
    go_ret2
    exact Tx.Rd.bad (by rw [HB.out]) (by rw [HB.out]; exact HC.out) HG8.out
  ·have HB := Lib.hid (B3.out hC)
   have hne : ((C : Int) != 0) = true := by rw [bne_iff_ne]; omega
   have HC := Lib.hid hC
   clear hC hO7 hc7
   go_wp2
   go_ret2
   exact Tx.Rd.bad (by rw [HB.out]) (by rw [HB.out]; exact HC.out) HG7.out
 ·have HB : Hid ((rdBody 1 n l).1 = Tx.cntE l) := Lib.hid (by
   unfold Tx.cntE at hE ⊢
   by_cases h0 : (num l).2.2 ≠ 0
   ·rw [if_pos h0, Tx.rdB1 h0]
   ·rw [if_neg h0] at hE ⊢
    by_cases h1 : 65536 < (num l).1
    ·rw [if_pos h1, Tx.rdB2 (by simpa using h0) h1]
    ·rw [if_neg h1] at hE
     exact absurd rfl hE)
  generalize Tx.cntE l = q at crc hE HB
  have hne : ((q : Int) != 0) = true := by rw [bne_iff_ne]; omega
  have HQ := Lib.hid hE
  clear hE h
  go_enter Tryz.func217, Tryz.ntmps217
  go_wp2_with fail
  refine crc.mono ?_
  rintro e w3 ⟨m', rfl, _, hg3⟩
  have HG3 := Lib.hid hg3
  clear crc hg3
  go_wp2
  go_ret2
  exact Tx.Rd.bad (by rw [HB.out]) (by rw [HB.out]; exact HQ.out) HG3.out
end Go.Proofs.YtbelkhkllneifaaGreatDoor

namespace Go.Proofs.YtbelkhkllneifaaGreatDoor
open Go.RowKit
open Ty (num)
open Ig (rest)
open Tx (rdBody rd)
set_option maxRecDepth 100000 in
set_option maxHeartbeats 1000000 in
theorem Tx.readElements_c (b n K : Nat) (hK : K ≤ 1) (l : List UInt8) (w : World) (hw : Ty.Tabs w) (hG : Ty.G ≤ b) (h : Ty.Cur b w l 0) (hl : l.length ≤ 140737488355328) (hn : n ≤ 65536) :
 Calls Tryz.prog 205 #[.pointer (some ⟨b, 0, none⟩), .int .i64 n, .int .i64 K] w (Tx.Rd b w (rdBody K n l)) := by
 rcases (by omega : K = 0 ∨ K = 1) with rfl | rfl
 ·have cr := Tx.readStrings_c b n l false w hw hG h hl hn
  rw [Tx.rdBody0]
  clear h hK
  go_enter Tryz.func205, Tryz.ntmps205
  go_wp2_with fail
  refine cr.mono ?_
  rintro e w3 ⟨v, rfl, hr⟩
  have HR := Lib.hid hr
  clear cr hr
  go_wp2
  go_ret2
  exact ⟨v, rfl, HR.out⟩
 ·have cr := Tx.readDictionary_c b n l w hw hG h hl hn
  clear h hK
  go_enter Tryz.func205, Tryz.ntmps205
  go_wp2_with fail
  refine cr.mono ?_
  rintro e w3 ⟨v, rfl, hr⟩
  have HR := Lib.hid hr
  clear cr hr
  go_wp2
  go_ret2
  exact ⟨v, rfl, HR.out⟩
set_option maxHeartbeats 4000000 in
set_option maxRecDepth 100000 in
theorem Tx.read_c (s : ByteArray) (w : World) (hw : Ty.Tabs w) (hs : s.size ≤ 140737488355328) :
 Calls Tryz.prog 191 #[.string s] w (Tx.Got w (rd s.data.toList)) := by
 have hsl : s = Ty.S s.data.toList := rfl
 have hll : s.data.toList.length ≤ 140737488355328 := by rw [Ty.length_data]; exact hs
 rw [hsl, Ty.data_S]
 generalize s.data.toList = l at hll ⊢
 clear hsl hs
 have cf := Ty.from_f l w hw
 have hG := hw.two
 cases l with
 | nil =>
   have HR : Hid (rd [] = (2, [])) := Lib.hid rfl
   have e1 : Ty.rdB [] 0 = (0, [], 2) := rfl
   have cb := fun b wz (hc : Ty.Cur b wz [] 0) => Ty.cbyte_c b [] 0 wz hc (by simp)
   have crc := fun b wz (hT : Ty.Tabs wz) (hc : Ty.Cur b wz [] 2) => Tx.readCount_bad b 2 [] wz hT hc (by decide) (by simp)
   rw [e1] at cb
   clear e1 hll
   go_enter Tryz.func191, Tryz.ntmps191
   go_wp2_with fail
   refine cf.mono ?_
   rintro e w1 ⟨rfl, hc1, hT1, hg1⟩
   have hs1 := hg1.size
   have cb1 := cb _ _ hc1
   have HB1 := Lib.hid (Ty.below_none hg1 (Nat.le_refl _))
   clear cf cb hc1 hg1
   go_wp2_with fail
   refine cb1.mono ?_
   rintro e w2 ⟨rfl, hc2, hg2⟩
   have crc2 := crc _ _ (hT1.at_ hg2 hG) hc2
   have HB2 := Lib.hid (HB1.out.trans (Ty.below_at (B := w.heap.size) hg2 hs1 (Nat.le_refl _)))
   have hs2 := HB2.out.size
   clear cb1 hc2 hg2 hT1 crc
   go_wp2_with fail
   refine crc2.mono ?_
   rintro e w3 ⟨rfl, hg3⟩
   have HB3 := Lib.hid (HB2.out.trans (Ty.below_at (B := w.heap.size) hg3 hs2 (Nat.le_refl _)))
   clear crc2 hg3
   go_wp2
   go_ret2
   exact Tx.Got.bad HR.out rfl HB3.out
 | cons x r =>
   have hrl : r.length ≤ 140737488355328 := by rw [List.length_cons] at hll; omega
   have cb := fun b wz (hc : Ty.Cur b wz (x :: r) 0) => Pk.cbyte_m b x r wz hc (by omega)
   by_cases h1 : 1 < x.toNat
   ·have HR := Lib.hid (Tx.rd1 (r := r) h1)
    have h1i : (2 : Int) ≤ (x.toNat : Int) := by omega
    clear h1
    go_enter Tryz.func191, Tryz.ntmps191
    go_wp2_with fail
    refine cf.mono ?_
    rintro e w1 ⟨rfl, hc1, hT1, hg1⟩
    have hs1 := hg1.size
    have cb1 := cb _ _ hc1
    have HB1 := Lib.hid (Ty.below_none hg1 (Nat.le_refl _))
    clear cf cb hc1 hg1
    go_wp2_with fail
    refine cb1.mono ?_
    rintro e w2 ⟨rfl, hc2, hg2⟩
    have HB2 := Lib.hid (HB1.out.trans (Ty.below_at (B := w.heap.size) hg2 hs1 (Nat.le_refl _)))
    clear cb1 hc2 hg2 hT1
    go_wp2
    go_ret2
    exact Tx.Got.bad HR.out rfl HB2.out
   ·have crc := fun b wz (hT : Ty.Tabs wz) (hc : Ty.Cur b wz r 0) => Tx.readCount_c b r wz hT hc hrl
    obtain ⟨K, hK⟩ : ∃ K, K = x.toNat := ⟨_, rfl⟩
    have hKi : ¬ (2 : Int) ≤ (K : Int) := by omega
    have hK1 : K ≤ 1 := by omega
    have hr3 := Tx.rest_le r
    have hl3 : (rest r).length ≤ 140737488355328 := by omega
    by_cases hE : Tx.cntE r = 0
    ·have he : (num r).2.2 = 0 := by
      unfold Tx.cntE at hE
      by_cases h0 : (num r).2.2 ≠ 0
      ·rw [if_pos h0] at hE; exact absurd hE h0
      ·simpa using h0
     have hm : ¬ 65536 < (num r).1 := by
      unfold Tx.cntE at hE
      rw [if_neg (by rw [he]; simp)] at hE
      intro h1
      rw [if_pos h1] at hE
      cases hE
     have G4 := Lib.hid (fun h4 => Tx.rd4 (r := r) h1 he hm h4)
     have G5 := Lib.hid (fun h4 h5 => Tx.rd5 (r := r) h1 he hm h4 h5)
     have G6 := Lib.hid (fun h4 h5 => Tx.rd6 (r := r) h1 he hm h4 h5)
     rw [hE] at crc
     rw [← hK] at cb G4 G5 G6
     generalize rd (x :: r) = RR at G4 G5 G6 ⊢
     have ce := fun b wz (hT : Ty.Tabs wz) (hb : Ty.G ≤ b) (hc : Ty.Cur b wz (rest r) 0) => Tx.readElements_c b (num r).1 K hK1 (rest r) wz hT hb hc hl3 (by omega)
     generalize (num r).1 = n at crc G4 G5 G6 ce
     generalize rest r = l3 at crc G4 G5 G6 ce
     generalize rdBody K n l3 = T at ce G4 G5 G6
     obtain ⟨C, L, l4⟩ := T
     simp only at G4 G5 G6
     clear hK h1 he hm hE hr3 hl3 hK1
     go_enter Tryz.func191, Tryz.ntmps191
     go_wp2_with fail
     refine cf.mono ?_
     rintro e w1 ⟨rfl, hc1, hT1, hg1⟩
     have hs1 := hg1.size
     have cb1 := cb _ _ hc1
     have HB1 := Lib.hid (Ty.below_none hg1 (Nat.le_refl _))
     clear cf cb hc1 hg1
     go_wp2_with fail
     refine cb1.mono ?_
     rintro e w2 ⟨rfl, hc2, hg2⟩
     have hT2 := hT1.at_ hg2 hG
     have crc2 := crc _ _ hT2 hc2
     have HB2 := Lib.hid (HB1.out.trans (Ty.below_at (B := w.heap.size) hg2 hs1 (Nat.le_refl _)))
     have hs2 := HB2.out.size
     clear cb1 hc2 hg2 hT1 crc
     go_wp2_with fail
     refine crc2.mono ?_
     rintro e w3 ⟨m', rfl, hgd, hg3⟩
     obtain ⟨rfl, hm6, hc3⟩ := hgd (by trivial)
     have hT3 := hT2.at_ hg3 hG
     have ce3 := ce _ _ hT3 hG hc3
     have hbase : w.heap.size < w3.heap.size := hc3.lt
     have HB3 := Lib.hid (HB2.out.trans (Ty.below_at (B := w.heap.size) hg3 hs2 (Nat.le_refl _)))
     have hs3 := HB3.out.size
     simp only [Int.natCast_zero]
     clear crc2 hg3 hgd hc3 hT2 ce hT3
     go_wp2_with fail
     refine ce3.mono ?_
     rintro e w7 ⟨v7, rfl, hO7, hc7, hg7⟩
     simp only at hO7 hc7
     have HB7 := Lib.hid (HB3.out.trans (Ty.below_at (B := w.heap.size) hg7 hs3 (Nat.le_refl _)))
     clear ce3 hg7
     by_cases hC : C = 0
     ·subst hC
      simp only [if_true] at hO7
      have HC8 := Lib.hid (hc7 (by trivial))
      have K5 := Lib.hid (G5.out (by trivial))
      have K6 := Lib.hid (G6.out (by trivial))
      have HA7 := Lib.hid hO7.at
      simp only [Int.natCast_zero]
      have hd := Ty.done_c w.heap.size l4 0 _ HC8.out
      clear hc7 hO7 G4 G5 G6
      by_cases hl4 : l4 = []
      ·have HR := Lib.hid (K6.out hl4)
       have hf : Ty.fin l4 0 = 0 := by rw [hl4]; rfl
       rw [hf] at hd
       simp only [Int.natCast_zero] at hd
       clear hl4 hf
       go_wp2_with fail
       refine hd.mono ?_
       rintro e w8 ⟨rfl, rfl⟩
       clear hd
       go_wp2
       go_ret2
       exact Tx.Got.good HR.out HA7.out HB7.out
      ·have HR := Lib.hid (K5.out hl4)
       have hf : Ty.fin l4 0 = 5 := by unfold Ty.fin; rw [if_pos ⟨rfl, hl4⟩]
       rw [hf] at hd
       have HF := Lib.hid hf
       clear hl4 hf
       go_wp2_with fail
       refine hd.mono ?_
       rintro e w8 ⟨rfl, rfl⟩
       have hd2 := Ty.done_c w.heap.size l4 0 _ HC8.out
       rw [HF.out] at hd2
       clear hd
       go_wp2_with fail
       refine hd2.mono ?_
       rintro e w9 ⟨rfl, rfl⟩
       clear hd2
       go_wp2
       go_ret2
       exact Tx.Got.bad HR.out rfl HB7.out
     ·have HR := Lib.hid (G4.out hC)
      have hne : ((C : Int) != 0) = true := by rw [bne_iff_ne]; omega
      clear hC hO7 hc7
      go_wp2
      go_ret2
      exact Tx.Got.bad HR.out rfl HB7.out
    ·have HR : Hid (rd (x :: r) = (Tx.cntE r, [])) := Lib.hid (by
      unfold Tx.cntE at hE ⊢
      by_cases h0 : (num r).2.2 ≠ 0
      ·rw [if_pos h0, Tx.rd2 h1 h0]
      ·rw [if_neg h0] at hE ⊢
       by_cases h3 : 65536 < (num r).1
       ·rw [if_pos h3, Tx.rd3 h1 (by simpa using h0) h3]
       ·rw [if_neg h3] at hE
        exact absurd rfl hE)
     rw [← hK] at cb
     generalize rd (x :: r) = RR at HR ⊢
     generalize Tx.cntE r = q at crc hE HR
     have hne : ((q : Int) != 0) = true := by rw [bne_iff_ne]; omega
     clear hK h1 hE hr3 hl3 hK1
     go_enter Tryz.func191, Tryz.ntmps191
     go_wp2_with fail
     refine cf.mono ?_
     rintro e w1 ⟨rfl, hc1, hT1, hg1⟩
     have hs1 := hg1.size
     have cb1 := cb _ _ hc1
     have HB1 := Lib.hid (Ty.below_none hg1 (Nat.le_refl _))
     clear cf cb hc1 hg1
     go_wp2_with fail
     refine cb1.mono ?_
     rintro e w2 ⟨rfl, hc2, hg2⟩
     have hT2 := hT1.at_ hg2 hG
     have crc2 := crc _ _ hT2 hc2
     have HB2 := Lib.hid (HB1.out.trans (Ty.below_at (B := w.heap.size) hg2 hs1 (Nat.le_refl _)))
     have hs2 := HB2.out.size
     clear cb1 hc2 hg2 hT1 crc
     go_wp2_with fail
     refine crc2.mono ?_
     rintro e w3 ⟨m', rfl, _, hg3⟩
     have HB3 := Lib.hid (HB2.out.trans (Ty.below_at (B := w.heap.size) hg3 hs2 (Nat.le_refl _)))
     clear crc2 hg3
     go_wp2
     go_ret2
     exact Tx.Got.bad HR.out rfl HB3.out
end Go.Proofs.YtbelkhkllneifaaGreatDoor

namespace Go.Proofs.YtbelkhkllneifaaGreatDoor
open Go.RowKit
theorem Cl.map_snoc {A : Type} (f : A → Kn.V) {L : List A} {k : Nat} (h : k < L.length) : (L.map f).take (k + 1) = (L.map f).take k ++ [f L[k]] := by
 rw [List.take_succ_eq_append_getElem (by rw [List.length_map]; exact h), List.getElem_map]
set_option maxHeartbeats 2000000 in
set_option maxRecDepth 100000 in
theorem Cl.readPresent_n (s : ByteArray) (w : World) (hw : Ty.Tabs w) (hs : s.size ≤ 140737488351232) :
 Calls Tryz.prog 171 #[.int .i64 1, .string s] w (Cl.Got w ((Ig.rd s.data.toList).1, (Ig.rd s.data.toList).2.map Cl.ofN)) := by
 have cr := Ig.read_c s w hw (by omega)
 have hll := Cl.ird_len s.data.toList
 generalize Ig.rd s.data.toList = R at cr hll ⊢
 obtain ⟨E, L⟩ := R
 simp only at hll ⊢
 have hmk := Cl.run_makeV L.length (by omega)
 have HL := Lib.hid hll
 clear hs hll
 go_enter Tryz.func171, Tryz.ntmps171
 go_wp2_with fail
 refine cr.mono ?_
 rintro e w1 ⟨v, rfl, hA, g1⟩
 obtain ⟨a, cp, rfl, hcp, _, h⟩ := hA
 have HH := Lib.hid h
 have HG1 := Lib.hid g1
 have hz1 := g1.size
 clear cr h g1
 simp only
 go_wp2_with fail
 have hR := Cl.Row.start (w := w1) (n := L.length)
 have hB : Below w1.heap.size w1 (w1.alloc (.cells (madeCells #[.bool false, .int .i64 0, .string ⟨#[]⟩] (L.length * 3)) 33)) := (Below.refl _ _).alloc (Nat.le_refl _) _
 generalize w1.alloc _ = w2 at hR hB ⊢
 clear hmk
 obtain ⟨g, hg⟩ : ∃ g, g = w1.heap.size := ⟨_, rfl⟩
 rw [← hg] at hR hB ⊢
 have HGE := Lib.hid hg
 clear hg
 go_loopw [51] (fun i wr => ∃ k : Nat, k ≤ L.length ∧ i = .int .i64 k ∧ Cl.Row wr g L.length (Cl.fo ((L.map Cl.ofN).take k)) ∧ Below g w1 wr) (fun i _ => L.length - (intOf i).toNat)
 case atStart => exact ⟨0, by omega, rfl, hR, hB⟩
 case round =>
  obtain ⟨k, hk, rfl, hRk, hBk⟩ := hrel
  have HR := Lib.hid hRk
  have HB := Lib.hid hBk
  clear hR hB hRk hBk
  by_cases hlk : k < L.length
  ·rcases HH.out with h | ⟨b, o, rfl, hbl, h⟩
   ·exact absurd hlk (by rw [h]; simp)
   ·have hblg : b < g := by rw [HGE.out]; exact hbl
    have a0 := (HB.out.cell (p := ⟨b, o + k, none⟩) hblg).trans (h k hlk)
    obtain ⟨x, hx⟩ : ∃ x, x = L[k] := ⟨_, rfl⟩
    have ha : Value.int .i64 (Ig.nth L k) = .int .i64 x := by rw [hx]; unfold Ig.nth; rw [List.getD, List.getElem?_eq_getElem hlk]; rfl
    rw [ha] at a0
    have HN : Hid ((L.map Cl.ofN).take (k + 1) = (L.map Cl.ofN).take k ++ [Cl.ofN x]) := Lib.hid (by rw [hx]; exact Cl.map_snoc _ hlk)
    have HTL : Hid (((L.map Cl.ofN).take k).length = k) := Lib.hid (by rw [List.length_take, List.length_map]; omega)
    have hkl : (k : Int) < (L.length : Int) := by omega
    have hk0 : (0 : Int) ≤ (k : Int) := by omega
    have hcl := HR.out.c1 hlk
    have hf := World.rowIs.frozen HR.out (k * 3 + 1)
    have hL6 := HL.out
    clear h hx ha
    go_wp2
    go_roundw
    case rel => exact ⟨k + 1, by omega, by simp, by rw [HN.out]; exact HR.out.snoc_n HTL.out x, Cl.below_cell HB.out (Nat.le_refl _) _⟩
    case measure => simp [intOf]; omega
  ·obtain rfl : k = L.length := by omega
   have hkl : ¬ (L.length : Int) < (L.length : Int) := by omega
   have HTK : Hid ((L.map Cl.ofN).take L.length = L.map Cl.ofN) := Lib.hid (List.take_of_length_le (by rw [List.length_map]; exact Nat.le_refl _))
   go_wp2
   go_ret2
   refine ⟨_, rfl, Cl.Row.done (by rw [← HTK.out]; exact HR.out) (List.length_map _) (by have := HL.out; omega), HG1.out.trans (HB.out.mono (by rw [HGE.out]; exact hz1))⟩
set_option maxHeartbeats 2000000 in
set_option maxRecDepth 100000 in
theorem Cl.readPresent_s (s : ByteArray) (w : World) (hw : Ty.Tabs w) (hs : s.size ≤ 140737488351232) :
 Calls Tryz.prog 171 #[.int .i64 2, .string s] w (Cl.Got w ((Tx.rd s.data.toList).1, (Tx.rd s.data.toList).2.map Cl.ofS)) := by
 have cr := Tx.read_c s w hw (by omega)
 have hll := Cl.trd_len s.data.toList
 generalize Tx.rd s.data.toList = R at cr hll ⊢
 obtain ⟨E, L⟩ := R
 simp only at hll ⊢
 have hmk := Cl.run_makeV L.length (by omega)
 have HL := Lib.hid hll
 clear hs hll
 go_enter Tryz.func171, Tryz.ntmps171
 go_wp2_with fail
 refine cr.mono ?_
 rintro e w1 ⟨v, rfl, hA, g1⟩
 obtain ⟨a, cp, rfl, hcp, _, h⟩ := hA
 have HH := Lib.hid h
 have HG1 := Lib.hid g1
 have hz1 := g1.size
 clear cr h g1
 simp only
 go_wp2_with fail
 have hR := Cl.Row.start (w := w1) (n := L.length)
 have hB : Below w1.heap.size w1 (w1.alloc (.cells (madeCells #[.bool false, .int .i64 0, .string ⟨#[]⟩] (L.length * 3)) 33)) := (Below.refl _ _).alloc (Nat.le_refl _) _
 generalize w1.alloc _ = w2 at hR hB ⊢
 clear hmk
 obtain ⟨g, hg⟩ : ∃ g, g = w1.heap.size := ⟨_, rfl⟩
 rw [← hg] at hR hB ⊢
 have HGE := Lib.hid hg
 clear hg
 go_loopw [28] (fun i wr => ∃ k : Nat, k ≤ L.length ∧ i = .int .i64 k ∧ Cl.Row wr g L.length (Cl.fo ((L.map Cl.ofS).take k)) ∧ Below g w1 wr) (fun i _ => L.length - (intOf i).toNat)
 case atStart => exact ⟨0, by omega, rfl, hR, hB⟩
 case round =>
  obtain ⟨k, hk, rfl, hRk, hBk⟩ := hrel
  have HR := Lib.hid hRk
  have HB := Lib.hid hBk
  clear hR hB hRk hBk
  by_cases hlk : k < L.length
  ·rcases HH.out with h | ⟨b, o, rfl, hbl, h⟩
   ·exact absurd hlk (by rw [h.1]; simp)
   ·have hblg : b < g := by rw [HGE.out]; exact hbl
    have a0 := (HB.out.cell (p := ⟨b, o + k, none⟩) hblg).trans (h k hlk)
    obtain ⟨x, hx⟩ : ∃ x, x = L[k] := ⟨_, rfl⟩
    have ha : Tx.sv L k = .string (Ty.S x) := by rw [hx]; unfold Tx.sv; rw [List.getD, List.getElem?_eq_getElem hlk]; rfl
    rw [ha] at a0
    have HN : Hid ((L.map Cl.ofS).take (k + 1) = (L.map Cl.ofS).take k ++ [Cl.ofS x]) := Lib.hid (by rw [hx]; exact Cl.map_snoc _ hlk)
    have HTL : Hid (((L.map Cl.ofS).take k).length = k) := Lib.hid (by rw [List.length_take, List.length_map]; omega)
    have hkl : (k : Int) < (L.length : Int) := by omega
    have hk0 : (0 : Int) ≤ (k : Int) := by omega
    have hcl := HR.out.c2 hlk
    have hf := World.rowIs.frozen HR.out (k * 3 + 2)
    have hL6 := HL.out
    clear h hx ha
    go_wp2
    go_roundw
    case rel => exact ⟨k + 1, by omega, by simp, by rw [HN.out]; exact HR.out.snoc_s HTL.out x, Cl.below_cell HB.out (Nat.le_refl _) _⟩
    case measure => simp [intOf]; omega
  ·obtain rfl : k = L.length := by omega
   have hkl : ¬ (L.length : Int) < (L.length : Int) := by omega
   have HTK : Hid ((L.map Cl.ofS).take L.length = L.map Cl.ofS) := Lib.hid (List.take_of_length_le (by rw [List.length_map]; exact Nat.le_refl _))
   go_wp2
   go_ret2
   refine ⟨_, rfl, Cl.Row.done (by rw [← HTK.out]; exact HR.out) (List.length_map _) (by have := HL.out; omega), HG1.out.trans (HB.out.mono (by rw [HGE.out]; exact hz1))⟩
theorem Cl.readPresent_c (c : Kn.C) (hg : c.good = true) (s : ByteArray) (w : World) (hw : Ty.Tabs w) (hs : s.size ≤ 140737488351232) :
 Calls Tryz.prog 171 #[.int .i64 c.k, .string s] w (Cl.Got w (Cl.back c s.data.toList)) := by
 unfold Cl.back
 rcases (Cl.good_iff c).1 hg with h | h
 ·rw [h, if_pos rfl]; exact Cl.readPresent_n s w hw hs
 ·rw [h, if_neg (by decide)]; exact Cl.readPresent_s s w hw hs
end Go.Proofs.YtbelkhkllneifaaGreatDoor

namespace Go.Proofs.YtbelkhkllneifaaGreatDoor
open Go.RowKit
end Go.Proofs.YtbelkhkllneifaaGreatDoor

namespace Go.Proofs.YtbelkhkllneifaaGreatDoor
open Go.RowKit
open Ty (num)
def Cl.T (w : World) : Prop := Ty.Tabs w
theorem Cl.T.below {w w' : World} (h : Cl.T w) (g : Below w.heap.size w w') : Cl.T w' := Ty.Tabs.below h g (Ty.Tabs.two h)
set_option maxHeartbeats 2000000 in
set_option maxRecDepth 100000 in
theorem Cl.write_c (c : Kn.C) (u : Value) (l : List Kn.V) (w : World) (hw : Cl.T w) (hu : Kn.Vals w u l) (hi : ∀ v ∈ l, Ty.I64 v.n) :
 Calls Tryz.prog 99 #[c.val, u] w fun e w' => e = .returned (Cl.wV c l) ∧ Below w.heap.size w w' := by
 have HW : Hid (Ty.Tabs w) := Lib.hid hw
 have HE4 : Hid (c.good = false → Cl.wE c l = 4) := Lib.hid fun h => by unfold Cl.wE; rw [if_neg (by rw [h]; decide)]
 have HE3 : Hid (c.good = true → 65536 < l.length → Cl.wE c l = 3) := Lib.hid fun h h2 => by unfold Cl.wE; rw [if_pos h, if_pos h2]
 have HE6 : Hid (c.good = true → l.length ≤ 65536 → l.all (Cl.is c) = false → Cl.wE c l = 6) := Lib.hid fun h h2 h3 => by unfold Cl.wE; rw [if_pos h, if_neg (by omega), h3, if_neg (by decide)]
 have HE0 : Hid (c.good = true → l.length ≤ 65536 → l.all (Cl.is c) = true → Cl.wE c l = 0) := Lib.hid fun h h2 h3 => by unfold Cl.wE; rw [if_pos h, if_neg (by omega), if_pos h3]
 have HU := Lib.hid hu
 have HI := Lib.hid hi
 obtain ⟨V, hV⟩ : ∃ V, V = Cl.wV c l := ⟨_, rfl⟩
 rw [← hV]
 have HV := Lib.hid hV
 clear hV hi hu hw
 have CW := Lib.hid fun wz => Cl.schemaWith_c c wz
 have CR : Hid (∀ (v : Value) (wz : World), Kn.Cols wz v (Cl.sch c) → Calls Tryz.prog 33 #[v] wz fun e w' => e = .returned (.bool c.good) ∧ Below wz.heap.size wz w') := Lib.hid fun v wz h => by
  have := Kn.right_c v (Cl.sch c) wz h
  rwa [Cl.sch_right] at this
 have CF := Lib.hid fun (v : Value) (wz : World) h1 (h2 : Kn.Cols wz v (Cl.sch c)) (h3 : Kn.Vals wz u l) h4 => Cl.fit_c c v u l wz h1 h2 h3 h4
 have HB0 : Hid (Below w.heap.size w (w.alloc (.cells #[.int .i64 c.k, .bool c.null] 76))) := Lib.hid ((Below.refl _ _).alloc (Nat.le_refl _) _)
 have HX0 := Lib.hid (Kn.cell_new w #[.int .i64 c.k, .bool c.null] 76 0 _ rfl)
 have HX1 := Lib.hid (Kn.cell_new w #[.int .i64 c.k, .bool c.null] 76 1 _ rfl)
 simp only [List.getElem_toArray, List.getElem_cons_zero, List.getElem_cons_succ] at HX0 HX1
 have hsz : (w.alloc (.cells #[.int .i64 c.k, .bool c.null] 76)).heap.size = w.heap.size + 1 := World.size_alloc ..
 obtain ⟨a, cp, rfl, h⟩ := HU.out.is
 clear h
 unfold Kn.C.val at CW ⊢
 cases hg : c.good
 ·rw [hg] at CR
  have HE := Lib.hid (HV.out.trans (Cl.wV_bad (HE4.out hg) (by decide)))
  clear hg
  go_enter Tryz.func99, Tryz.ntmps99
  go_wp2_with fail
  generalize hwo : w.alloc _ = wo at hsz HX0 HX1 HB0 ⊢
  clear hwo
  refine (CW.out _).mono ?_
  rintro e w1 ⟨v, rfl, hS, g1⟩
  have HB1 := Lib.hid (HB0.out.trans (g1.mono HB0.out.size))
  have cr := CR.out _ _ hS
  clear hS g1
  go_wp2_with fail
  refine cr.mono ?_
  rintro e w2 ⟨rfl, g2⟩
  have HB2 := Lib.hid (HB1.out.trans (g2.mono HB1.out.size))
  clear cr g2
  go_wp2
  go_ret2
  exact ⟨by rw [HE.out]; rfl, HB2.out⟩
 ·rw [hg] at CR
  have HG := Lib.hid hg
  clear hg
  by_cases hln : 65536 < l.length
  ·have HE := Lib.hid (HV.out.trans (Cl.wV_bad (HE3.out HG.out hln) (by decide)))
   have hlni : (65536 : Int) < (l.length : Int) := by omega
   clear hln
   go_enter Tryz.func99, Tryz.ntmps99
   go_wp2_with fail
   generalize hwo : w.alloc _ = wo at hsz HX0 HX1 HB0 ⊢
   clear hwo
   refine (CW.out _).mono ?_
   rintro e w1 ⟨v, rfl, hS, g1⟩
   have HB1 := Lib.hid (HB0.out.trans (g1.mono HB0.out.size))
   have cr := CR.out _ _ hS
   clear hS g1
   go_wp2_with fail
   refine cr.mono ?_
   rintro e w2 ⟨rfl, g2⟩
   have HB2 := Lib.hid (HB1.out.trans (g2.mono HB1.out.size))
   clear cr g2
   go_wp2
   go_ret2
   exact ⟨by rw [HE.out]; rfl, HB2.out⟩
  ·have hlni : ¬ (65536 : Int) < (l.length : Int) := by omega
   have hl65 : l.length ≤ 65536 := by omega
   have HL := Lib.hid hl65
   have HF6 := Lib.hid (fun h => HV.out.trans (Cl.wV_bad (HE6.out HG.out hl65 h) (by decide)))
   have HF0 := Lib.hid (fun h => HV.out.trans (Cl.wV_ok (HE0.out HG.out hl65 h)))
   clear hln HE4 HE3 HE6 HE0
   cases hA : l.all (Cl.is c)
   ·have HE := Lib.hid (HF6.out hA)
    rw [hA] at CF
    clear hA hl65
    go_enter Tryz.func99, Tryz.ntmps99
    go_wp2_with fail
    generalize hwo : w.alloc _ = wo at hsz HX0 HX1 HB0 ⊢
    clear hwo
    refine (CW.out _).mono ?_
    rintro e w1 ⟨v, rfl, hS, g1⟩
    have HB1 := Lib.hid (HB0.out.trans (g1.mono HB0.out.size))
    have HS1 := Lib.hid hS
    have cr := CR.out _ _ hS
    clear hS g1
    go_wp2_with fail
    refine cr.mono ?_
    rintro e w2 ⟨rfl, g2⟩
    have HB2 := Lib.hid (HB1.out.trans (g2.mono HB1.out.size))
    have cf := CF.out _ w2 HG.out (HS1.out.later g2) (HU.out.later HB2.out) HL.out
    clear cr g2
    go_wp2_with fail
    refine cf.mono ?_
    rintro e w3 ⟨rfl, g3⟩
    have HB3 := Lib.hid (HB2.out.trans (g3.mono HB2.out.size))
    clear cf g3
    go_wp2
    go_ret2
    exact ⟨by rw [HE.out]; rfl, HB3.out⟩
   ·have HE := Lib.hid (HF0.out hA)
    rw [hA] at CF
    have HA := Lib.hid hA
    have hwk : IntKind.u64.wrap (l.length : Int) = (l.length : Int) := by rw [IntKind.wrap_u64]; omega
    have HWK := Lib.hid hwk
    have CU := Lib.hid fun wz hT => Ty.uintNil (l.length : Int) (by omega) (show Ty.U64 ((l.length : Int)).toNat by rw [Int.toNat_natCast]; unfold Ty.U64; omega) wz hT
    rw [Int.toNat_natCast] at CU
    clear hA hl65 HF6 HF0
    go_enter Tryz.func99, Tryz.ntmps99
    go_wp2_with fail
    generalize hwo : w.alloc _ = wo at hsz HX0 HX1 HB0 ⊢
    clear hwo
    refine (CW.out _).mono ?_
    rintro e w1 ⟨v, rfl, hS, g1⟩
    have HB1 := Lib.hid (HB0.out.trans (g1.mono HB0.out.size))
    have HS1 := Lib.hid hS
    have HY1 := Lib.hid ((g1.cell (p := ⟨w.heap.size, 0, none⟩) (by simp [hsz])).trans HX0.out)
    have cr := CR.out _ _ hS
    have hs1 : w.heap.size < w1.heap.size := by have := g1.size; omega
    clear hS g1
    go_wp2_with fail
    refine cr.mono ?_
    rintro e w2 ⟨rfl, g2⟩
    have HB2 := Lib.hid (HB1.out.trans (g2.mono HB1.out.size))
    have HY2 := Lib.hid ((g2.cell (p := ⟨w.heap.size, 0, none⟩) hs1).trans HY1.out)
    have hs2 : w.heap.size < w2.heap.size := by have := g2.size; omega
    have cf := CF.out _ w2 HG.out (HS1.out.later g2) (HU.out.later HB2.out) HL.out
    clear cr g2
    go_wp2_with fail
    refine cf.mono ?_
    rintro e w3 ⟨rfl, g3⟩
    have HB3 := Lib.hid (HB2.out.trans (g3.mono HB2.out.size))
    have HY3 := Lib.hid ((g3.cell (p := ⟨w.heap.size, 0, none⟩) hs2).trans HY2.out)
    have hs3 : w.heap.size < w3.heap.size := by have := g3.size; omega
    have cs := Cl.split_c _ l w3 (HU.out.later HB3.out) HL.out
    clear cf g3
    go_wp2_with fail
    refine cs.mono ?_
    rintro e w4 ⟨vn, vp, rfl, hN, hP, g4⟩
    have HB4 := Lib.hid (HB3.out.trans (g4.mono HB3.out.size))
    have HY4 := Lib.hid ((g4.cell (p := ⟨w.heap.size, 0, none⟩) hs3).trans HY3.out)
    have hs4 : w.heap.size < w4.heap.size := by have := g4.size; omega
    have HN4 := Lib.hid hN
    have HP4 := Lib.hid hP
    have cu := CU.out w4 (HW.out.below HB4.out HW.out.two)
    clear cs g4 hN hP
    go_wp2_with fail
    refine cu.mono ?_
    rintro e w5 ⟨v5, rfl, hB5, hT5, g5⟩
    have hcv := hB5.str
    have HB5 := Lib.hid (HB4.out.trans (g5.mono HB4.out.size))
    have hx0 := (g5.cell (p := ⟨w.heap.size, 0, none⟩) hs4).trans HY4.out
    have HN5 := Lib.hid (HN4.out.later g5)
    have HP5 := Lib.hid (HP4.out.later g5)
    have HT5 := Lib.hid hT5
    clear cu g5 hB5 hT5
    go_wp2_with fail
    have E0 := fun d os => cell_regrown hx0 d os
    have hvl := Cl.vals_len HA.out HL.out
    have hnn := (Bt.need_room l.length).2
    have CTP : ∀ p : Regrown, Calls Tryz.prog 97 #[vn] (Sort.grow (redrawn w5 p.d) p.os) fun e w'' => e = .returned (.string (Bt.bytes (Bt.need l.length) (Bt.tr l.length (Cl.nulls l)))) ∧ ∃ p : Regrown, w'' = Sort.grow (redrawn w5 p.d) p.os := fun p => Calls.regrown_of (Bt.truths_c vn l.length (Cl.nulls l) _ (HN5.out.later (below_regrown w5 p.d p.os)) (by have := HL.out; omega))
    have CPP : ∀ p : Regrown, Calls Tryz.prog 127 #[.int .i64 c.k, vp] (Sort.grow (redrawn w5 p.d) p.os) fun e w'' => e = .returned (.string (Ty.S (Cl.vals c l))) ∧ ∃ p : Regrown, w'' = Sort.grow (redrawn w5 p.d) p.os := fun p => Calls.regrown_of (Cl.writePresent_c c.k vp (Cl.live l) _ (HT5.out.below (below_regrown w5 p.d p.os) HT5.out.two) (HP5.out.later (below_regrown w5 p.d p.os)) (Nat.le_trans (Cl.live_len l) HL.out) (fun v hv => HI.out v (List.mem_filter.1 hv).1) ((Cl.good_iff c).1 HG.out) (fun h => Cl.words_fit (c := c) (by omega) HA.out HL.out))
    have hen : Cl.enc c l = Ty.encU l.length ++ ((Bt.bytes (Bt.need l.length) (Bt.tr l.length (Cl.nulls l))).data.toList ++ Cl.vals c l) := rfl
    have hA9 : (Ty.S (Ty.encU l.length)).size ≤ 9 := Ty.encU_len9 l.length
    have hB9 : (Bt.bytes (Bt.need l.length) (Bt.tr l.length (Cl.nulls l))).size = Bt.need l.length := Bt.size_bytes _ _
    have hC9 : (Ty.S (Cl.vals c l)).size ≤ 4800000 := hvl
    have hl6 := HL.out
    obtain ⟨A, hA⟩ : ∃ A, A = Ty.S (Ty.encU l.length) := ⟨_, rfl⟩
    obtain ⟨B, hBB⟩ : ∃ B, B = Bt.bytes (Bt.need l.length) (Bt.tr l.length (Cl.nulls l)) := ⟨_, rfl⟩
    obtain ⟨D, hDD⟩ : ∃ D, D = Ty.S (Cl.vals c l) := ⟨_, rfl⟩
    have HABD : Hid (Ty.S (Cl.enc c l) = (A ++ B) ++ D) := Lib.hid (by
     rw [hA, hBB, hDD, hen, ← Ig.S_add, ← Ig.S_add, Ty.S_data, ByteArray.append_assoc])
    rw [← hA] at hA9 ⊢
    rw [← hBB] at CTP hB9
    rw [← hDD] at CPP hC9
    have n1 : ¬ 9223372036854775807 < A.size + B.size := by omega
    have n2 : ¬ 9223372036854775807 < A.size + B.size + D.size := by omega
    have CTQ := Lib.hid CTP
    have CPQ := Lib.hid CPP
    clear CTP CPP hen hvl hnn hA hBB hDD hA9 hB9 hC9 hl6
    refine wp_region_quiet_below (by kernel_rfl) (by kernel_rfl) ?_
    repeat (go_big_quiet_step (first | with_reducible exact CTQ.out _ | with_reducible exact CPQ.out _))
    refine wpQuiet_nil ?_
    intro wq hw'
    have HBQ := Lib.hid (HB5.out.trans ((Ig.below_reg hw').mono HB5.out.size))
    clear hw'
    go_wp2
    go_ret2
    exact ⟨by rw [HE.out, HABD.out]; rfl, HBQ.out⟩
theorem Cl.back_fit {c : Kn.C} (hg : c.good = true) {r : List UInt8} (h : (Cl.back c r).1 = 0) : c.k = 2 → Tx.fit ((Cl.back c r).2.map fun v => v.s.data.toList) = true := fun hk => by
 have hb := Cl.back_is hg h
 have hl := Cl.back_len c r
 unfold Tx.fit
 simp only [Bool.and_eq_true, decide_eq_true_iff, List.all_eq_true]
 refine ⟨by rw [List.length_map]; exact hl, fun t ht => ?_⟩
 obtain ⟨v, hv, rfl⟩ := List.mem_map.1 ht
 exact (Cl.is_str (by omega) (hb v hv).2.1 (hb v hv).1).2
end Go.Proofs.YtbelkhkllneifaaGreatDoor
