/-
  The walk of the law TallyBack.
-/
import Derived.Test.YthfcpdifkgjjhaaDoorTh
import Derived.Test.YthfcpdifkgjjhaaDoorL6
namespace Go.Proofs.YthfcpdifkgjjhaaDoor
open Go.RowKit
theorem Ty.tb_next (L : List Ty.Thing) (k : Nat) (t : Ty.Thing) (h : L[k]? = some t) : (L.take (k + 1)).flatMap Ty.tb = (L.take k).flatMap Ty.tb ++ Ty.tb t := by
  rw [List.take_add_one, h]
  simp
theorem Ty.tb_drop (L : List Ty.Thing) (k : Nat) (t : Ty.Thing) (h : L[k]? = some t) : (L.drop k).flatMap Ty.tb = Ty.tb t ++ (L.drop (k + 1)).flatMap Ty.tb := by
  obtain ⟨hk, rfl⟩ := List.getElem?_eq_some_iff.1 h
  rw [List.drop_eq_getElem_cons hk, List.flatMap_cons]
theorem Ty.kd_cases (t : Ty.Thing) : t.kd = 0 ∨ t.kd = 1 ∨ t.kd = 2 ∨ t.kd = 3 := by unfold Ty.Thing.kd; omega
theorem Ty.tb0 {t : Ty.Thing} (h : t.kd = 0) : Ty.tb t = Ty.encU (IntKind.u64.wrap t.n).toNat := by unfold Ty.tb; rw [if_pos h]
theorem Ty.tb1 {t : Ty.Thing} (h : t.kd = 1) : Ty.tb t = Ty.encU (Ty.zig t.n).toNat := by unfold Ty.tb; rw [if_neg (by omega), if_pos h]
theorem Ty.tb2 {t : Ty.Thing} (h : t.kd = 2) : Ty.tb t = Ty.encU t.s.length ++ t.s := by unfold Ty.tb; rw [if_neg (by omega), if_neg (by omega), if_pos h]
theorem Ty.tb3 {t : Ty.Thing} (h : t.kd = 3) : Ty.tb t = [UInt8.ofNat (t.n % 256).toNat] := by unfold Ty.tb; rw [if_neg (by omega), if_neg (by omega), if_neg (by omega)]
theorem Ty.byte_of (n : Int) : n % 256 = ((UInt8.ofNat (n % 256).toNat).toNat : Int) := by rw [Ty.toNat_ofNat8 _ (by omega)]; omega
theorem Ty.u64w (n : Int) : 0 ≤ IntKind.u64.wrap n ∧ Ty.U64 (IntKind.u64.wrap n).toNat := by rw [IntKind.wrap_u64]; unfold Ty.U64; omega
theorem Ty.Buf.bse {base : Nat} {w : World} {v : Value} {bs : List UInt8} (h : Ty.Buf base w v bs) : ∀ k, v.ownBlock = some k → base ≤ k := fun k hk => (h.lt k hk).1
/-- The cells of the things. -/
def Ty.Row (b off : Nat) (L : List Ty.Thing) (w : World) : Prop := ∀ i t, L[i]? = some t → w.cell? ⟨b, off + i * 3, none⟩ = some (.int .i64 t.k) ∧ w.cell? ⟨b, off + i * 3 + 1, none⟩ = some (.int .i64 t.n) ∧ w.cell? ⟨b, off + i * 3 + 2, none⟩ = some (.string (Ty.S t.s)) ∧ Ty.I64 t.n ∧ t.s.length ≤ 1048576
theorem Ty.Row.later {b off : Nat} {L : List Ty.Thing} {w w' : World} (h : Ty.Row b off L w) {B : Nat} (hb : Below B w w') (hB : b < B) : Ty.Row b off L w' := fun i t ht => by
  obtain ⟨a1, a2, a3, a4⟩ := h i t ht
  exact ⟨(hb.cell (p := ⟨b, off + i * 3, none⟩) hB).trans a1, (hb.cell (p := ⟨b, off + i * 3 + 1, none⟩) hB).trans a2, (hb.cell (p := ⟨b, off + i * 3 + 2, none⟩) hB).trans a3, a4⟩
set_option maxRecDepth 100000 in
set_option maxHeartbeats 4000000 in
theorem Ty.back_w (b off len c : Nat) (L : List Ty.Thing) (hlen : L.length = len) (hm : len ≤ 1048576) (w : World) (hw : Ty.Tabs w) (hlt : b < w.heap.size) (hc : Ty.Row b off L w) (hsum : ∀ k, ((L.take k).flatMap Ty.tb).length ≤ 140737487306000) :
    Calls Tryd.prog 5 #[.slice (some ⟨b, off, none⟩) len c] w fun e w' => e = .returned (.bool true) ∧ Below w.heap.size w w' := by
  have HL := Lib.hid hlen
  have HS := Lib.hid hsum
  clear hlen hsum
  go_enter Tryd.func5, Tryd.ntmps5
  go_wp2_with fail
  refine (Ty.lives_c _ hw).mono ?_
  rintro e w1 ⟨rfl, hb1⟩
  have hT1 := hw.below hb1 hw.two
  have hR1 := hc.later hb1 hlt
  have hlt1 : b < w1.heap.size := Nat.lt_of_lt_of_le hlt hb1.size
  clear hc hw hlt
  go_wp2_with fail
  go_loopw [3, 4] (fun vr i wr => ∃ k : Nat, k ≤ len ∧ i = .int .i64 k ∧ Ty.Buf w1.heap.size wr vr ((L.take k).flatMap Ty.tb) ∧ Below w1.heap.size w1 wr) (fun _ i _ => len - (intOf i).toNat)
  case atStart => exact ⟨0, Nat.zero_le _, rfl, Ty.Buf.nil _ _, Below.refl _ _⟩
  case round =>
    obtain ⟨k, hk, rfl, hB, hb⟩ := hrel
    have hbs := hb.size
    by_cases hkl : k < len
    · obtain ⟨t, ht⟩ : ∃ t, L[k]? = some t := ⟨_, List.getElem?_eq_getElem (by rw [HL.out]; exact hkl)⟩
      obtain ⟨c0, c1, c2, ti, tl⟩ := (hR1.later hb hlt1) k t ht
      have HT := Lib.hid (Ty.tb_next L k t ht)
      have HB := Lib.hid (HS.out k)
      have hTr := hT1.below hb hT1.two
      clear ht
      go_wp2_with fail
      refine (Ty.kind_c t.k t.n (Ty.S t.s) t.kd rfl _).mono ?_
      rintro e wk ⟨rfl, hbk⟩
      have hltr : b < wr.heap.size := Nat.lt_of_lt_of_le hlt1 hbs
      rw [← hbk.cell (p := ⟨b, off + k * 3 + 1, none⟩) hltr] at c1
      rw [← hbk.cell (p := ⟨b, off + k * 3 + 2, none⟩) hltr] at c2
      have hBk := hB.later hbk
      have hTk := hTr.below hbk hTr.two
      have hbk1 := hb.trans (hbk.mono hbs)
      have hbs1 := hbk1.size
      clear c0 hbk hB hTr hbs hltr hb
      rcases Ty.kd_cases t with hq | hq | hq | hq
      · have HQ := Lib.hid (Ty.tb0 hq)
        obtain ⟨z, hz⟩ : ∃ z, IntKind.u64.wrap t.n = z := ⟨_, rfl⟩
        obtain ⟨z0, uz⟩ : 0 ≤ z ∧ Ty.U64 z.toNat := by rw [← hz]; exact Ty.u64w t.n
        have HZ := Lib.hid hz
        go_wp2_with fail
        refine (Ty.uint_c _ _ _ z z0 uz _ hTk hBk hbs1 (by have := HB.out; omega)).mono ?_
        rintro e w2 ⟨v2, rfl, hB2, hG2⟩
        have hb2 := hbk1.trans (hG2.below hbs1 hBk.bse)
        clear hz
        go_wp2_with fail
        go_roundw
        case rel => exact ⟨k + 1, by omega, by simp, by rw [HT.out, HQ.out, HZ.out]; exact hB2, hb2⟩
        case measure => simp [intOf]; omega
      · have HQ := Lib.hid (Ty.tb1 hq)
        go_wp2_with fail
        refine (Ty.int_c _ _ _ t.n ti _ hTk hBk hbs1 (by have := HB.out; omega)).mono ?_
        rintro e w2 ⟨v2, rfl, hB2, hG2⟩
        have hb2 := hbk1.trans (hG2.below hbs1 hBk.bse)
        go_wp2_with fail
        go_roundw
        case rel => exact ⟨k + 1, by omega, by simp, by rw [HT.out, HQ.out]; exact hB2, hb2⟩
        case measure => simp [intOf]; omega
      · have HQ := Lib.hid (Ty.tb2 hq)
        go_wp2_with fail
        refine (Ty.text_c _ _ _ (Ty.S t.s) _ hTk hBk hbs1 (by have := HB.out; rw [Ty.size_S]; omega)).mono ?_
        rintro e w2 ⟨v2, rfl, hB2, hG2⟩
        have hb2 := hbk1.trans (hG2.below hbs1 hBk.bse)
        go_wp2_with fail
        go_roundw
        case rel => exact ⟨k + 1, by omega, by simp, by rw [HT.out, HQ.out, ← List.append_assoc]; exact hB2, hb2⟩
        case measure => simp [intOf]; omega
      · have HQ := Lib.hid (Ty.tb3 hq)
        go_wp2_with (at_builtin; refine Ty.wpList_append_byte hBk hbs1 (by have := HB.out; omega) (.tmp 51) (.tmp 58) _ rfl rfl rfl rfl ?_; intro v2 w2 h2 g2)
        have hb2 := hbk1.trans (g2.below hbs1 hBk.bse)
        go_roundw
        case rel => exact ⟨k + 1, by omega, by simp, by rw [HT.out, HQ.out]; exact h2 _ (Ty.byte_of t.n), hb2⟩
        case measure => simp [intOf]; omega
    · obtain rfl : k = len := by omega
      have hcv := hB.str
      rw [List.take_of_length_le (by rw [HL.out]; exact Nat.le_refl _)] at hcv
      have hTr := hT1.below hb hT1.two
      have HB : Hid ((L.flatMap Ty.tb).length ≤ 140737487306000) := Lib.hid (by have := HS.out k; rwa [List.take_of_length_le (by rw [HL.out]; exact Nat.le_refl _)] at this)
      clear hB
      go_wp2_with fail
      refine (Ty.from_f _ _ hTr).mono ?_
      rintro e w2 ⟨rfl, hC, hT2, hg2⟩
      have hb2 : Below w1.heap.size w1 w2 := hb.trans (Ty.below_none hg2 hbs)
      have hlr : w1.heap.size ≤ wr.heap.size := hbs
      generalize wr.heap.size = cb at hC hlr ⊢
      clear hcv hg2 hb hTr hT2 hbs
      go_wp2_with fail
      go_loopw [6] (fun i wq => ∃ j : Nat, j ≤ k ∧ i = .int .i64 j ∧ Ty.Cur cb wq ((L.drop j).flatMap Ty.tb) 0 ∧ Below w1.heap.size w1 wq) (fun i _ => k - (intOf i).toNat)
      case atStart => exact ⟨0, Nat.zero_le _, rfl, hC, hb2⟩
      case round =>
        obtain ⟨j, hj, rfl, hC, hb⟩ := hrel
        by_cases hjl : j < k
        · obtain ⟨t, ht⟩ : ∃ t, L[j]? = some t := ⟨_, List.getElem?_eq_getElem (by rw [HL.out]; exact hjl)⟩
          obtain ⟨c0, c1, c2, ti, tl⟩ := (hR1.later hb hlt1) j t ht
          have hTr := hT1.below hb hT1.two
          have hbs := hb.size
          rw [Ty.tb_drop L j t ht] at hC
          have HB2 : Hid ((Ty.tb t ++ (L.drop (j + 1)).flatMap Ty.tb).length ≤ 140737487306000) := Lib.hid (by
            rw [← Ty.tb_drop L j t ht]
            have e : L.flatMap Ty.tb = (L.take j).flatMap Ty.tb ++ (L.drop j).flatMap Ty.tb := by rw [← List.flatMap_append, List.take_append_drop]
            have := HB.out
            rw [e, List.length_append] at this
            omega)
          clear ht
          go_wp2_with fail
          refine (Ty.kind_c t.k t.n (Ty.S t.s) t.kd rfl _).mono ?_
          rintro e wk ⟨rfl, hbk⟩
          have hltr : b < wr.heap.size := Nat.lt_of_lt_of_le hlt1 hbs
          rw [← hbk.cell (p := ⟨b, off + j * 3 + 1, none⟩) hltr] at c1
          rw [← hbk.cell (p := ⟨b, off + j * 3 + 2, none⟩) hltr] at c2
          have hCk := hC.below hbk hC.lt
          have hTk := hTr.below hbk hTr.two
          have hbk1 := hb.trans (hbk.mono hbs)
          have hbs1 := hbk1.size
          have hwlt : b < wk.heap.size := Nat.lt_of_lt_of_le hlt1 hbs1
          have hbne : (some b : Option Nat) ≠ some cb := fun e => by have := Option.some.inj e; omega
          have HB3 : Hid ((Ty.tb t ++ (L.drop (j + 1)).flatMap Ty.tb).length ≤ 9223372036854775807) := Lib.hid (by have := HB2.out; omega)
          clear c0 hbk hC hTr hbs hltr hb
          rcases Ty.kd_cases t with hq | hq | hq | hq
          · obtain ⟨z, hz⟩ : ∃ z, IntKind.u64.wrap t.n = z := ⟨_, rfl⟩
            obtain ⟨z0, uz⟩ : 0 ≤ z ∧ Ty.U64 z.toNat := by rw [← hz]; exact Ty.u64w t.n
            have hrd : Ty.rdU (Ty.tb t ++ (L.drop (j + 1)).flatMap Ty.tb) 0 = (z.toNat, (L.drop (j + 1)).flatMap Ty.tb, 0) := by
              rw [Ty.tb0 hq, hz, Ty.rdU_of (Ty.num_encU _ uz _)]; simp
            have hzz : (((z.toNat : Nat) : Int) == z) = true := by rw [beq_iff_eq]; omega
            go_wp2_with fail
            go_region_with (first
              | (go_at_call 19; refine (Ty.cuint_c _ _ _ _ hTk.drew hCk.drew HB3.out).mono ?_; rintro e w2 ⟨rfl, hC2, hg2⟩; rw [hrd] at hC2 ⊢; have c1' := hg2.cell c1 hbne))
            all_goals
              try clear c1'
              have hb2 := hbk1.drew.trans (Ty.below_at hg2 hbs1 hlr)
              go_wp2_with fail
              refine (Ty.err_c _ _ _ _ hC2).mono ?_
              rintro e w3 ⟨rfl, rfl⟩
              go_wp2_with fail
              go_roundw
              case rel => exact ⟨j + 1, by omega, by simp, hC2, hb2⟩
              case measure => simp [intOf]; omega
          · obtain ⟨y, hy⟩ : ∃ y : Nat, (Ty.zig t.n).toNat = y := ⟨_, rfl⟩
            have hrd : Ty.rdU (Ty.tb t ++ (L.drop (j + 1)).flatMap Ty.tb) 0 = (y, (L.drop (j + 1)).flatMap Ty.tb, 0) := by
              rw [Ty.tb1 hq, Ty.rdU_of (Ty.num_encU _ (Ty.zig_u64 ti) _), hy]; simp
            have hzz : (Ty.zag (y : Int) == t.n) = true := by rw [beq_iff_eq, ← hy, Int.toNat_of_nonneg (Ty.zig_nonneg _), Ty.zag_zig]
            clear hy
            go_wp2_with fail
            go_region_with (first
              | (go_at_call 21; refine (Ty.cint_c _ _ _ _ hTk.drew hCk.drew HB3.out).mono ?_; rintro e w2 ⟨rfl, hC2, hg2⟩; rw [hrd] at hC2 ⊢; have c1' := hg2.cell c1 hbne))
            all_goals
              try clear c1'
              have hb2 := hbk1.drew.trans (Ty.below_at hg2 hbs1 hlr)
              go_wp2_with fail
              refine (Ty.err_c _ _ _ _ hC2).mono ?_
              rintro e w3 ⟨rfl, rfl⟩
              go_wp2_with fail
              go_roundw
              case rel => exact ⟨j + 1, by omega, by simp, hC2, hb2⟩
              case measure => simp [intOf]; omega
          · have hsl : Ty.U64 t.s.length := by unfold Ty.U64; omega
            have hrd : Ty.rdT (((Ty.S t.s).size : Nat) : Int) (Ty.tb t ++ (L.drop (j + 1)).flatMap Ty.tb) 0 = (t.s, (L.drop (j + 1)).flatMap Ty.tb, 0) := by
              rw [Ty.tb2 hq, Ty.size_S, List.append_assoc]
              have e := Ty.num_encU t.s.length hsl (t.s ++ (L.drop (j + 1)).flatMap Ty.tb)
              rw [Ty.rdT_of (Ty.txt_whole (by rw [e]) (by rw [e]; simp) (by rw [e]; simp))]
              rw [e]
              simp
            have hzz : ((Ty.S t.s).toList == (Ty.S t.s).toList) = true := by rw [Ty.S_beq]; simp
            have hmm : -9223372036854775808 ≤ (((Ty.S t.s).size : Nat) : Int) ∧ (((Ty.S t.s).size : Nat) : Int) ≤ 9223372036854775807 := by rw [Ty.size_S]; omega
            have HM := Lib.hid hmm
            clear hmm
            go_wp2_with fail
            go_region_with (first
              | (go_at_call 23; refine (Ty.ctext_c _ _ _ _ HM.out _ hTk.drew hCk.drew HB3.out).mono ?_; rintro e w2 ⟨rfl, hC2, hg2⟩; rw [hrd] at hC2 ⊢; have c2' := hg2.cell c2 hbne))
            all_goals
              try clear c2'
              have hb2 := hbk1.drew.trans (Ty.below_at hg2 hbs1 hlr)
              go_wp2_with fail
              refine (Ty.err_c _ _ _ _ hC2).mono ?_
              rintro e w3 ⟨rfl, rfl⟩
              go_wp2_with fail
              go_roundw
              case rel => exact ⟨j + 1, by omega, by simp, hC2, hb2⟩
              case measure => simp [intOf]; omega
          · obtain ⟨y, hy⟩ : ∃ y : Nat, (UInt8.ofNat (t.n % 256).toNat).toNat = y := ⟨_, rfl⟩
            have hrd : Ty.rdB (Ty.tb t ++ (L.drop (j + 1)).flatMap Ty.tb) 0 = (y, (L.drop (j + 1)).flatMap Ty.tb, 0) := by
              rw [Ty.tb3 hq, ← hy]; rfl
            have hzz : ((y : Int) == wrap64 (t.n % 256)) = true := by
              have := Ty.byte_of t.n
              rw [beq_iff_eq, IntWalk.wrap64_in _ (by omega)]
              omega
            clear hy
            go_wp2_with fail
            go_region_with (first
              | (go_at_call 25; refine (Ty.cbyte_c _ _ _ _ hCk.drew HB3.out).mono ?_; rintro e w2 ⟨rfl, hC2, hg2⟩; rw [hrd] at hC2 ⊢; have c1' := hg2.cell c1 hbne))
            all_goals
              try clear c1'
              have hb2 := hbk1.drew.trans (Ty.below_at hg2 hbs1 hlr)
              go_wp2_with fail
              refine (Ty.err_c _ _ _ _ hC2).mono ?_
              rintro e w3 ⟨rfl, rfl⟩
              go_wp2_with fail
              go_roundw
              case rel => exact ⟨j + 1, by omega, by simp, hC2, hb2⟩
              case measure => simp [intOf]; omega
        · obtain rfl : j = k := by omega
          rw [List.drop_of_length_le (by rw [HL.out]; exact Nat.le_refl _)] at hC
          have ef : Ty.fin [] 0 = 0 := by decide
          go_wp2_with fail
          refine (Ty.done_c _ _ _ _ hC).mono ?_
          rintro e w2 ⟨rfl, rfl⟩
          rw [List.flatMap_nil, ef]
          go_wp2_with fail
          refine (Ty.left_c _ _ _ _ hC).mono ?_
          rintro e w3 ⟨rfl, rfl⟩
          go_wp2
          go_ret
          exact ⟨rfl, hb1.trans (hb.mono hb1.size)⟩
end Go.Proofs.YthfcpdifkgjjhaaDoor
