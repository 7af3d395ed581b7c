/-
  The document's answers for package column: Read.
  The document's column Read once more: the values' block is new. Written by gen_xf.py.
-/
import Derived.Test.YtfbjmehkipcmbaaGreatDoorVAR
import Derived.Deep.RegionHeld3
import Derived.Test.YtfbjmehkipcmbaaGreatDoorVAQ
namespace Go.Proofs.YtfbjmehkipcmbaaGreatDoor
open Go.RowKit
open Ty (num)
open Ig (rest)
def Cl.RelF (w9 : World) (T : List Bool) (M : List Kn.V) (ov jv iv : Value) (wr : World) : Prop :=
  ∃ (q j : Nat) (O : List Kn.V), iv = .int .i64 q ∧ jv = .int .i64 j ∧ Cl.MidF T M q j O ∧ Cl.Own w9.heap.size wr ov O ∧ Below w9.heap.size w9 wr
end Go.Proofs.YtfbjmehkipcmbaaGreatDoor

namespace Go.Proofs.YtfbjmehkipcmbaaGreatDoor
open Go.RowKit
open Ty (num)
open Ig (rest)
def Bk.GotF (w : World) (r : Nat × List Kn.V) (e : Ending) (w' : World) : Prop :=
  ∃ v, e = .returned (.tuple #[v, .int .i64 ((r.1 : Nat) : Int)]) ∧ Kn.Vals w' v r.2 ∧ Dd.Fresh w.heap.size v ∧ Below w.heap.size w w'
theorem Bk.GotF.bad {w w' : World} {r : Nat × List Kn.V} {z : Int} {q : Nat} (hr : r = (q, [])) (hz : z = (q : Int)) (g : Below w.heap.size w w') : Bk.GotF w r (.returned (.tuple #[.slice none 0 0, .int .i64 z])) w' :=
  ⟨_, by rw [hr, hz], by rw [hr]; exact ⟨_, 0, rfl, .inl rfl⟩, Dd.Fresh.nil _, g⟩
theorem Bk.GotF.good {w w' : World} {r : Nat × List Kn.V} {v : Value} {L : List Kn.V} (hr : r = (0, L)) (h : Kn.Vals w' v L) (hf : Dd.Fresh w.heap.size v) (g : Below w.heap.size w w') : Bk.GotF w r (.returned (.tuple #[v, .int .i64 0])) w' :=
  ⟨v, by rw [hr]; rfl, by rw [hr]; exact h, hf, g⟩
set_option maxHeartbeats 4000000 in
set_option maxRecDepth 100000 in
theorem Bk.rread6_c (c : Kn.C) (s : ByteArray) (w : World) (hs : s.size ≤ 140737488351232) :
    Calls Tryz.prog 39 #[c.val, .string s] w (Bk.GotF w (Cl.rd c s.data.toList)) := by
  have hgw := Kn.good_ways c
  have hsz : (w.alloc (.cells #[.int .i64 c.k, .bool c.null] 40)).heap.size = w.heap.size + 1 := World.size_alloc ..
  have HB0 : Hid (Below w.heap.size w (w.alloc (.cells #[.int .i64 c.k, .bool c.null] 40))) := Lib.hid ((Below.refl _ _).alloc (Nat.le_refl _) _)
  have hX0 := Kn.cell_new w #[.int .i64 c.k, .bool c.null] 40 0 _ rfl
  have hX1 := Kn.cell_new w #[.int .i64 c.k, .bool c.null] 40 1 _ rfl
  simp only [List.getElem_toArray, List.getElem_cons_zero, List.getElem_cons_succ] at hX0 hX1
  obtain ⟨R, hR⟩ : ∃ R, R = Cl.rd c s.data.toList := ⟨_, rfl⟩
  rw [← hR]
  have HRR := Lib.hid hR
  clear hR
  rcases hgw with ⟨hg, k1⟩ | ⟨hg, k1, k2⟩ | ⟨hg, k1, k2⟩
  rotate_left 2
  · have HE := Lib.hid (HRR.out.trans (Cl.rd_k hg))
    unfold Kn.C.val
    go_enter Tryz.func39, Tryz.ntmps39
    go_wp2
    go_ret2
    exact Bk.GotF.bad HE.out rfl HB0.out
  all_goals
    have HG := Lib.hid hg
    have HX0 := Lib.hid hX0
    have HX1 := Lib.hid hX1
    unfold Kn.C.val
    clear hg
    go_enter Tryz.func39, Tryz.ntmps39
    go_wp2_with fail
    generalize hwo : w.alloc _ = wo at hsz HX0 HX1 HB0 ⊢
    have HRS0 := Lib.hid (Tx.RS_new s wo)
    have hB1 := HB0.out.trans (((Below.refl _ wo).alloc (Nat.le_refl _) (.cells #[.string s, .int .i64 0, .int .i64 0] 68)).mono HB0.out.size)
    have hY0 := ((Below.refl _ wo).alloc (Nat.le_refl _) (.cells #[.string s, .int .i64 0, .int .i64 0] 68)).cell (p := ⟨w.heap.size, 0, none⟩) (by simp [hsz])
    have hY1 := ((Below.refl _ wo).alloc (Nat.le_refl _) (.cells #[.string s, .int .i64 0, .int .i64 0] 68)).cell (p := ⟨w.heap.size, 1, none⟩) (by simp [hsz])
    rw [HX0.out] at hY0
    rw [HX1.out] at hY1
    have hsz1 : (wo.alloc (.cells #[.string s, .int .i64 0, .int .i64 0] 68)).heap.size = w.heap.size + 2 := by rw [World.size_alloc, hsz]
    rw [hsz] at HRS0
    generalize wo.alloc _ = w1 at hB1 hY0 hY1 hsz1 HRS0 ⊢
    obtain ⟨r, hr⟩ : ∃ r, r = w.heap.size + 1 := ⟨_, rfl⟩
    rw [← hr] at HRS0 ⊢
    have HY0 := Lib.hid hY0
    have HY1 := Lib.hid hY1
    have HB1 := Lib.hid hB1
    clear hwo hX0 hX1 HX0 HX1 HB0 hB1 hY0 hY1 hsz
    have Fn := Lib.hid fun h => HRR.out.trans (Cl.rd_n HG.out h)
    have F3 := Lib.hid fun h h2 => HRR.out.trans (Cl.rd_3 HG.out h h2)
    have F2 := Lib.hid fun h h2 h3 => HRR.out.trans (Cl.rd_2 HG.out h h2 h3)
    have Fc := Lib.hid fun h h2 h3 h4 => HRR.out.trans (Cl.rd_c HG.out h h2 h3 h4)
    have F6 := Lib.hid fun h h2 h3 h4 (k : Nat) hk hb hn => HRR.out.trans (Cl.rd_6 (k := k) HG.out h h2 h3 h4 hk hb hn)
    have Fv := Lib.hid fun h h2 h3 h4 h5 => HRR.out.trans (Cl.rd_v HG.out h h2 h3 h4 h5)
    have HS : Hid (Cl.bb s.data.toList = Ty.S ((rest s.data.toList).take (Bt.need (num s.data.toList).1)) ∧ Cl.vb s.data.toList = (rest s.data.toList).drop (Bt.need (num s.data.toList).1)) := Lib.hid ⟨rfl, rfl⟩
    have cu := Tx.ruint_x r s hs s.data.toList w1 HRS0.out
    have hll : (rest s.data.toList).length ≤ s.size := by
      refine Nat.le_trans (Ig.rest_le _) ?_
      rw [Array.length_toList]; exact Nat.le_refl _
    generalize Cl.bb s.data.toList = S at Fc F6 Fv HS
    generalize Cl.vb s.data.toList = r9 at Fv HS
    generalize rest s.data.toList = l2 at cu F2 Fc F6 Fv HS hll
    generalize (num s.data.toList).1 = n at cu F3 F2 Fc F6 Fv HS
    generalize (num s.data.toList).2.2 = E at cu Fn F3 F2 Fc F6 Fv
    clear HRS0
    refine cu.mono ?_
    rintro e w2 ⟨rfl, hc2, hg2⟩
    have he2 := Tx.RS_err hc2
    have HC2 := Lib.hid hc2
    have HB2 := Lib.hid (HB1.out.trans (Ty.below_at (B := w.heap.size) hg2 HB1.out.size (by omega)))
    have HY02 := Lib.hid (hg2.cell HY0.out (by simp [hr]))
    have HY12 := Lib.hid (hg2.cell HY1.out (by simp [hr]))
    have hsz2 : w.heap.size + 2 ≤ w2.heap.size := by have := hg2.size; omega
    have HRQ := Lib.hid hr
    have hrB : w.heap.size ≤ r := by omega
    clear cu hg2 hc2 HY0 HY1 HB1 hsz1 hr
    by_cases hE : E = 0
    · subst hE
      simp only [Int.natCast_zero] at he2
      by_cases hnl : 65536 < n
      · have HE := Lib.hid (F3.out rfl hnl)
        have hnli : (65536 : Int) < (n : Int) := by omega
        clear hnl
        go_wp2
        go_ret2
        exact Bk.GotF.bad HE.out rfl HB2.out
      · have hnli : ¬ (65536 : Int) < (n : Int) := by omega
        have hn0 : (0 : Int) ≤ (n : Int) := by omega
        have hn65 : (n : Int) ≤ 65536 := by omega
        obtain ⟨sz, hszq⟩ : ∃ sz, sz = Bt.need n := ⟨_, rfl⟩
        rw [← hszq] at F2 Fc F6 Fv HS
        have hd : ((n : Int) + 7) / 8 = (sz : Int) := by rw [hszq]; unfold Bt.need; omega
        have hsz9 : sz ≤ 8193 := by rw [hszq]; unfold Bt.need; omega
        have F2' := Lib.hid (F2.out rfl hnl)
        have Fc' := Lib.hid (Fc.out rfl hnl)
        have F6' := Lib.hid (F6.out rfl hnl)
        have Fv' := Lib.hid (Fv.out rfl hnl)
        have hwn : wrap64 (n : Int) = (n : Int) := by unfold wrap64; omega
        clear F2 Fc F6 Fv hnl Fn F3 hszq
        have cl := Ty.rleft_m r s hs l2 0 w2 HC2.out
        go_wp2_with fail
        refine cl.mono ?_
        rintro e w3 ⟨rfl, hc3, hg3⟩
        have HB3 := Lib.hid (HB2.out.trans (Ty.below_at (B := w.heap.size) hg3 HB2.out.size hrB))
        have hne : some w.heap.size ≠ some r := fun e => by have := Option.some.inj e; have := HRQ.out; omega
        have HY03 := Lib.hid (hg3.cell HY02.out hne)
        have HY13 := Lib.hid (hg3.cell HY12.out hne)
        have hsz3 : w.heap.size + 2 ≤ w3.heap.size := by have := hg3.size; omega
        clear cl hg3 HC2 HB2 HY02 HY12 he2 hsz2 hne
        by_cases hlt : l2.length < sz
        · have HE := Lib.hid (F2'.out hlt)
          have hlti : (l2.length : Int) < (sz : Int) := by omega
          clear hlt hc3
          go_wp2
          go_ret2
          exact Bk.GotF.bad HE.out rfl HB3.out
        · have hlti : ¬ (l2.length : Int) < (sz : Int) := by omega
          have Fc2 := Lib.hid (Fc'.out hlt)
          have F62 := Lib.hid (F6'.out hlt)
          have Fv2 := Lib.hid (Fv'.out hlt)
          obtain ⟨a, ha, hla, hR⟩ := hc3
          obtain ⟨c0, c1, c2, f1, _⟩ := hR.cells
          have hta : a + sz ≤ s.size := by
            have := congrArg List.length hla
            rw [Ty.len_drop] at this
            omega
          have hex : s.extract a (a + sz) = S := by rw [Ty.extract_S, hla, Nat.add_sub_cancel_left]; exact HS.out.1.symm
          have HDA : Hid (s.extract (a + sz) s.size = Ty.S r9) := Lib.hid (by
            rw [Ty.extract_S, Ty.drop_at, hla, ← HS.out.2, List.take_of_length_le]
            rw [HS.out.2, List.length_drop]
            have := congrArg List.length hla
            rw [Ty.len_drop] at this
            omega)
          have hr9 : r9.length ≤ 140737488351232 := by rw [HS.out.2, List.length_drop]; omega
          have hS9 : S.size ≤ 140737488355328 := by rw [HS.out.1, Ty.size_S, List.length_take]; omega
          have ce : Bt.utE S (n : Int) = Bt.chk S n := by unfold Bt.utE; rw [if_pos ⟨hn0, hn65⟩]; rfl
          have cun := fun wz => Bt.runtruths_c S (n : Int) wz hS9
          unfold Bt.utN at cun
          rw [ce, Int.toNat_natCast] at cun
          have hn65n : n ≤ 65536 := by omega
          generalize hC : Bt.chk S n = C at cun Fc2 F62 Fv2
          have HWI : Hid (IntKind.i64.wrap (n : Int) = (n : Int)) := Lib.hid (IntWalk.i64_in _ (by omega))
          rw [← HWI.out] at cun
          have w1' : IntKind.i64.wrap ((a : Int) + (sz : Int)) = (a : Int) + (sz : Int) := IntWalk.i64_in _ (by omega)
          have z1 : 0 ≤ (a : Int) := by omega
          have z2 : (a : Int) ≤ (a : Int) + (sz : Int) := by omega
          have z3 : (a : Int) + (sz : Int) ≤ (s.size : Int) := by omega
          have t2 : ((a : Int) + (sz : Int)).toNat = a + sz := by omega
          have HR := Lib.hid hR
          have HDW : Hid (Below w3.heap.size w3 w3.drew) := Lib.hid (Bt.drewN_below w3 1)
          have HSA : Hid (∀ W, Below w3.heap.size w3 W → W.cell? ⟨r, 1, none⟩ = some (.int .i64 (a : Int))) := Lib.hid fun W g => (hR.below g hR.lt).cells.2.1
          clear hla hR hlt hC ce hS9 F2' Fc' F6' Fv'
          go_wp2_with fail
          go_region_held3 (fun wx => wx.cell? ⟨r, 1, none⟩ = some (.int .i64 (a : Int)))
            (first
              | exact HSA.out _ HDW.out
              | exact HSA.out _ (HDW.out.trans (g8.mono HDW.out.size)))
            (first
              | (go_at_call 70; (with_reducible refine (cun _).mono ?_); rintro e w8 ⟨v8, rfl, hS8, g8⟩))
          rw [HWI.out]
          have hb8 : Below w3.heap.size w3 w8 := (Bt.drewN_below w3 1).trans g8
          have HB8 := Lib.hid (HB3.out.trans (hb8.mono HB3.out.size))
          have hR8 := HR.out.below hb8 HR.out.lt
          have HR8 := Lib.hid hR8
          have HY08 := Lib.hid ((hb8.cell (p := ⟨w.heap.size, 0, none⟩) (by show w.heap.size < _; omega)).trans HY03.out)
          have HY18 := Lib.hid ((hb8.cell (p := ⟨w.heap.size, 1, none⟩) (by show w.heap.size < _; omega)).trans HY13.out)
          have hsz8 : w.heap.size + 2 ≤ w8.heap.size := by have := hb8.size; omega
          have HZ := Lib.hid (And.intro w1' (And.intro (Int.le_trans z1 z2) (And.intro z3 t2)))
          clear cun g8 hb8 hR8 c0 c1 c2 f1 hex w1' z1 z2 z3 t2 HSA HDW HR HY03 HY13 hsz3
          by_cases hck : C = 0
          · subst hck
            rw [if_pos rfl] at hS8
            simp only [Int.natCast_zero]
            have F63 := Lib.hid (F62.out rfl)
            have Fv3 := Lib.hid (Fv2.out rfl)
            obtain ⟨a8, cp8, rfl, h8⟩ := hS8
            have H8 := Lib.hid h8
            clear h8 Fc2 F62 Fv2
            go_wp2_with fail
            go_loop [11] (fun i => ∃ k : Nat, k ≤ n ∧ i = .int .i64 k ∧ ∀ j, j < k → Bt.bit S j = true → c.null = true) (fun i => n - (intOf i).toNat)
            case atStart => exact ⟨0, by omega, rfl, fun j hj => by omega⟩
            case round =>
              obtain ⟨k, hk, rfl, hp⟩ := hrel
              have HP := Lib.hid hp
              clear hp
              by_cases hl : k < n
              · rcases H8.out with h | ⟨b8, o8, rfl, hlt8, h⟩
                · omega
                · have hc := h k hl
                  unfold Bt.bv at hc
                  have hki : (k : Int) < (n : Int) := by omega
                  have hk0 : (0 : Int) ≤ (k : Int) := by omega
                  have y1 := HY18.out
                  clear h
                  cases hbt : Bt.bit S k
                  · rw [hbt] at hc
                    have HBT := Lib.hid hbt
                    clear hbt
                    go_wp2
                    go_round
                    case rel => exact ⟨k + 1, by omega, by simp, fun j hj hb => by
                      by_cases e : j = k
                      · rw [e, HBT.out] at hb; cases hb
                      · exact HP.out j (by omega) hb⟩
                    case measure => simp [intOf]; omega
                  · rw [hbt] at hc
                    have HBT := Lib.hid hbt
                    clear hbt
                    cases hnn : c.null
                    · have HE := Lib.hid (F63.out k hl HBT.out hnn)
                      rw [hnn] at y1
                      clear hnn
                      go_wp2
                      go_ret2
                      exact Bk.GotF.bad HE.out rfl HB8.out
                    · have HNN := Lib.hid hnn
                      rw [hnn] at y1
                      clear hnn
                      go_wp2
                      go_round
                      case rel => exact ⟨k + 1, by omega, by simp, fun j hj hb => by first | exact HNN.out | trivial⟩
                      case measure => simp [intOf]; omega
              · obtain rfl : k = n := by omega
                have dk : ¬ (k : Int) < (k : Int) := by omega
                have HVR := Lib.hid (Fv3.out HP.out)
                have HTN : Hid (true ∈ Cl.bits k S → c.null = true) := Lib.hid fun h => by
                  obtain ⟨i, hi, e⟩ := List.mem_map.1 h
                  exact HP.out i (List.mem_range.1 hi) e
                obtain ⟨_, c1, _, _, _⟩ := HR8.out.cells
                have y0 := HY08.out
                have y1 := HY18.out
                have hex2 := HDA.out
                obtain ⟨w1', z1, z3, t2⟩ := HZ.out
                have cb := Cl.rback_c c (Ty.S r9) w8 (by rw [Ty.size_S]; exact hr9)
                rw [Ty.data_S] at cb
                clear F63 Fv3
                go_wp2_with fail
                have BL := Cl.back_len c r9
                have Ge := Lib.hid fun h => HVR.out.trans (Cl.rdV_e h)
                have Gno := Lib.hid fun h h2 => HVR.out.trans (Cl.rdV_no h h2)
                have G4 := Lib.hid fun h (O : List Kn.V) h2 h3 => HVR.out.trans (Cl.rdV_4 (out := O) h h2 h3)
                have Gok := Lib.hid fun h (O : List Kn.V) h2 h3 => HVR.out.trans (Cl.rdV_ok (out := O) h h2 h3)
                have Gall := Lib.hid fun h (O : List Kn.V) h2 => Cl.fill_all (out := O) (T := Cl.bits k S) (r := r9) HG.out h h2 HTN.out
                generalize Cl.back c r9 = bk at cb BL Ge Gno G4 Gok Gall
                obtain ⟨E9, M⟩ := bk
                simp only at cb BL Ge Gno G4 Gok Gall
                clear hd hwn hn0 hn65 hsz9 hlti hta hll hr9 hl hk hnli dk
                refine cb.mono ?_
                rintro e w9 ⟨v9, rfl, hO9, g9⟩
                have HB9 := Lib.hid (HB8.out.trans (g9.mono HB8.out.size))
                have HO9 := Lib.hid hO9
                have y0 := (g9.cell (p := ⟨w.heap.size, 0, none⟩) (by show w.heap.size < _; omega)).trans HY08.out
                have y1 := (g9.cell (p := ⟨w.heap.size, 1, none⟩) (by show w.heap.size < _; omega)).trans HY18.out
                have HY09 := Lib.hid y0
                have HY19 := Lib.hid y1
                have hsz9w : w.heap.size + 2 ≤ w9.heap.size := by have := g9.size; omega
                have HT9 : Hid (∀ i, i < k → ∃ b8 o8, a8 = some ⟨b8, o8, none⟩ ∧ ∀ W, Below w9.heap.size w9 W → W.cell? ⟨b8, o8 + i, none⟩ = some (.bool (Bt.bit S i))) := Lib.hid fun i hi => by
                  rcases H8.out with h | ⟨b8, o8, ea, hlt8, h⟩
                  · exact absurd hi (by rw [h]; exact Nat.not_lt_zero _)
                  · refine ⟨b8, o8, ea, fun W g => ?_⟩
                    rw [(g.cell (p := ⟨b8, o8 + i, none⟩) (by show b8 < _; have := g9.size; omega)), (g9.cell (p := ⟨b8, o8 + i, none⟩) hlt8)]
                    exact h i hi
                obtain ⟨a9, cp9, rfl, h9⟩ := hO9.vals.is
                have H9 := Lib.hid h9
                clear cb g9 hO9 h9 c1 hex2 w1' z1 z3 t2 HB8 HY08 HY18 HR8 HZ hsz8 y0 y1
                by_cases hE9 : E9 = 0
                · subst hE9
                  simp only [Int.natCast_zero]
                  have Gno2 := Lib.hid (Gno.out rfl)
                  have G42 := Lib.hid (G4.out rfl)
                  have Gok2 := Lib.hid (Gok.out rfl)
                  have Gall2 := Lib.hid (Gall.out rfl)
                  clear Ge Gno G4 Gok Gall
                  go_wp2_with fail
                  go_loopw [15, 16, 17] (fun ov jv iv wr => Cl.RelF w9 (Cl.bits k S) M ov jv iv wr) (fun _ _ i _ => k - (intOf i).toNat)
                  case atStart => exact ⟨0, 0, [], rfl, rfl, Cl.MidF.start _ _, Cl.Own.nil _ _, Below.refl _ _⟩
                  case round =>
                    obtain ⟨q, j, O, rfl, rfl, hM, hO, hb⟩ := hrel
                    have HM := Lib.hid hM
                    have HB := Lib.hid hb
                    have HO := Lib.hid hO
                    have hws := hb.size
                    have hOl := hM.1
                    have hqk : q ≤ k := by have := hM.2.1; rwa [Cl.bits_len] at this
                    have hjm := hM.2.2.1
                    clear hM hb hO
                    have hq0 : (0 : Int) ≤ (q : Int) := by omega
                    have hj0 : (0 : Int) ≤ (j : Int) := by omega
                    by_cases hq : q < k
                    · have hqi : (q : Int) < (k : Int) := by omega
                      obtain ⟨b8, o8, rfl, hT⟩ := HT9.out q hq
                      have hc := hT wr HB.out
                      have hbg := Cl.bits_get S hq
                      have hO := HO.out
                      clear hT
                      cases hbt : Bt.bit S q
                      · rw [hbt] at hc hbg
                        have HBG := Lib.hid hbg
                        clear hbt hbg
                        by_cases hjl : j < M.length
                        · have hji : (j : Int) < (M.length : Int) := by omega
                          have hji2 : ¬ (M.length : Int) ≤ (j : Int) := by omega
                          obtain ⟨x, hx⟩ : ∃ x, M[j]? = some x := ⟨_, List.getElem?_eq_getElem hjl⟩
                          rcases H9.out with h | ⟨b9, o9, rfl, hlt9, _, h⟩
                          · exact absurd hjl (by rw [h]; simp)
                          · obtain ⟨x0, x1, x2⟩ := (h j x hx).later HB.out
                            have HN := Lib.hid (HM.out.live HBG.out hx)
                            clear h hx
                            go_wp2_with (at_builtin; refine Cl.wpList_append_val x hO (by omega) (by omega) (.tmp 121) (.tmp 126) _ rfl rfl rfl rfl rfl ?_; intro v5 w5 h5 g5)
                            have H5 := Lib.hid h5
                            have HB5 := Lib.hid (Cl.own_below HB.out hO g5)
                            clear h5 g5 hO
                            go_wp2
                            go_roundw
                            case rel => exact ⟨q + 1, j + 1, _, by simp, by simp, HN.out, H5.out, HB5.out⟩
                            case measure => simp [intOf]; omega
                        · have HE := Lib.hid (Gno2.out (HM.out.fail HBG.out (by omega)))
                          have hji2 : (M.length : Int) ≤ (j : Int) := by omega
                          have HBE := Lib.hid (HB9.out.trans (HB.out.mono (by omega)))
                          clear hjl
                          go_wp2
                          go_ret2
                          exact Bk.GotF.bad HE.out rfl HBE.out
                      · rw [hbt] at hc hbg
                        have HN := Lib.hid (HM.out.null hbg)
                        clear hbt hbg
                        go_wp2_with (at_builtin; refine Cl.wpList_append_val Cl.nul hO (by omega) (by omega) (.tmp 113) (.tmp 115) _ rfl rfl rfl rfl rfl ?_; intro v5 w5 h5 g5)
                        have H5 := Lib.hid h5
                        have HB5 := Lib.hid (Cl.own_below HB.out hO g5)
                        clear h5 g5 hO
                        go_wp2
                        go_roundw
                        case rel => exact ⟨q + 1, j, _, by simp, by simp, HN.out, H5.out, HB5.out⟩
                        case measure => simp [intOf]; omega
                    · obtain rfl : q = k := by omega
                      have dk : ¬ (q : Int) < (q : Int) := by omega
                      by_cases hj : j = M.length
                      · have hf := HM.out.done (Cl.bits_len _ _).symm hj
                        obtain ⟨g1, g2, g3⟩ := Gall2.out O hf
                        rw [Cl.bits_len] at g3
                        have hVals := HO.out.vals
                        have cv := Cl.rvalues_c c u15 O wr hVals (by omega) g1 g2
                        have HVL := Lib.hid hVals
                        have HFR := Lib.hid (show Dd.Fresh w.heap.size _ from fun k hk => Nat.le_trans HB9.out.size (HO.out.base_le k hk))
                        have HE4 := Lib.hid (G42.out O hf)
                        have HEok := Lib.hid (Gok2.out O hf)
                        have hjb : ((j : Int) != (M.length : Int)) = false := by rw [hj]; simp
                        have y0 := (HB.out.cell (p := ⟨w.heap.size, 0, none⟩) (by show w.heap.size < _; omega)).trans HY09.out
                        have y1 := (HB.out.cell (p := ⟨w.heap.size, 1, none⟩) (by show w.heap.size < _; omega)).trans HY19.out
                        have HBW := Lib.hid (HB9.out.trans (HB.out.mono (by omega)))
                        clear hj hf g1 g2 g3 hVals hOl
                        by_cases hv : Cl.vals c O = r9
                        · have HE := Lib.hid (HEok.out hv)
                          rw [hv] at cv
                          have hself : ((Ty.S r9).toList == (Ty.S r9).toList) = true := by simp
                          clear hv
                          go_wp2_with fail
                          refine cv.mono ?_
                          rintro e w10 ⟨rfl, g10⟩
                          have HVV := Lib.hid (HVL.out.later g10)
                          have HB10 := Lib.hid (HBW.out.trans (g10.mono HBW.out.size))
                          clear cv g10
                          go_wp2
                          go_ret2
                          exact Bk.GotF.good HE.out HVV.out HFR.out HB10.out
                        · have HE := Lib.hid (HE4.out hv)
                          have hneq : ((Ty.S (Cl.vals c O)).toList == (Ty.S r9).toList) = false := by
                            rw [beq_eq_false_iff_ne, ByteArray.toList_eq, ByteArray.toList_eq]
                            exact hv
                          clear hv
                          generalize Ty.S (Cl.vals c O) = S5 at cv hneq
                          go_wp2_with fail
                          refine cv.mono ?_
                          rintro e w10 ⟨rfl, g10⟩
                          have HB10 := Lib.hid (HBW.out.trans (g10.mono HBW.out.size))
                          clear cv g10
                          go_wp2
                          go_ret2
                          exact Bk.GotF.bad HE.out rfl HB10.out
                      · have HE := Lib.hid (Gno2.out (HM.out.left (Cl.bits_len _ _).symm hj))
                        have hjb : ((j : Int) != (M.length : Int)) = true := by rw [bne_iff_ne]; omega
                        have HBE := Lib.hid (HB9.out.trans (HB.out.mono (by omega)))
                        clear hj
                        go_wp2
                        go_ret2
                        exact Bk.GotF.bad HE.out rfl HBE.out
                · have HE := Lib.hid (Ge.out hE9)
                  have hEb : ((E9 : Int) != 0) = true := by rw [bne_iff_ne]; omega
                  clear hE9
                  go_wp2
                  go_ret2
                  exact Bk.GotF.bad HE.out rfl HB9.out
          · have HE := Lib.hid (Fc2.out hck)
            have hCb : ((C : Int) != 0) = true := by rw [bne_iff_ne]; omega
            clear hck
            go_wp2
            go_ret2
            exact Bk.GotF.bad HE.out rfl HB8.out
    · have HE := Lib.hid (Fn.out hE)
      have hEb : ((E : Int) != 0) = true := by rw [bne_iff_ne]; omega
      clear hE
      go_wp2_with fail
      go_quiet (fail)
      go_wp2
      go_ret2
      exact Bk.GotF.bad HE.out rfl (HB2.out.trans ((Bt.drewN_below _ _).mono HB2.out.size))
end Go.Proofs.YtfbjmehkipcmbaaGreatDoor
