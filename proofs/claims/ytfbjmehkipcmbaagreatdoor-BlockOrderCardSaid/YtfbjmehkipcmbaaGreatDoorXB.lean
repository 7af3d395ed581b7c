/-
  The laws of block: BlockOrder.
-/
import Derived.Test.YtfbjmehkipcmbaaGreatDoorZAZ
import Derived.Test.YtfbjmehkipcmbaaGreatDoorZAR
namespace Go.Proofs.YtfbjmehkipcmbaaGreatDoor
open Go.RowKit
structure Bk.E where
  gone : Bool
  a : Option Addr
  c : Nat
  row : List Kn.V
def Bk.E.rv (x : Bk.E) : Value := .slice x.a x.row.length x.c
def Bk.E.d (x : Bk.E) : Dd.D := ⟨x.gone, x.row⟩
def Bk.E.enc (x : Bk.E) : List Value := [.bool x.gone, .slice x.a x.row.length x.c]
theorem Bk.e_len (x : Bk.E) : x.enc.length = 2 := rfl
theorem Bk.e_one (x : Bk.E) : ∀ u ∈ x.enc, u.oneCell' = true := fun u hu => by
  simp only [Bk.E.enc, List.mem_cons, List.not_mem_nil, or_false] at hu
  rcases hu with rfl | rfl <;> rfl
theorem Bk.infoD : (Tryz.prog.info? 37).map (fun i => (i.zero, i.size, i.bytes)) = some (some (.agg #[.bool false, .slice none 0 0]), 2, 32) := by kernel_rfl
abbrev Bk.Own (base : Nat) (w : World) (v : Value) (M : List Bk.E) : Prop := Dk.Own 37 2 Bk.E.enc base w v M
theorem Bk.own_ds {base : Nat} {w : World} {v : Value} {M : List Bk.E} (h : Bk.Own base w v M) (hr : ∀ x ∈ M, Kn.Vals w x.rv x.row) : Bk.Ds w v (M.map Bk.E.d) := by
  rcases h.form with ⟨rfl, rfl⟩ | ⟨g, c, rfl, h1, h2, _, h4⟩
  · exact ⟨none, 0, rfl, Nat.le_refl _, by decide, .inl rfl⟩
  · have h3 : c ≤ 9223372036854775807 := h2
    refine ⟨_, c, by rw [List.length_map], by rw [List.length_map]; exact h1, h3, .inr ⟨g, 0, rfl, h4, fun i x hx => ?_⟩⟩
    rw [List.getElem?_map, Option.map_eq_some_iff] at hx
    obtain ⟨e, he, rfl⟩ := hx
    have h0 := h.cell Bk.e_len (g := g) rfl he (j := 0) (by decide)
    have h5 := h.cell Bk.e_len (g := g) rfl he (j := 1) (by decide)
    refine ⟨e.rv, ?_, ?_, hr e (List.mem_of_getElem? he)⟩
    · rw [Nat.zero_add]; exact h0
    · rw [Nat.zero_add]; exact h5
theorem Bk.row_of {L : List Dd.D} (hs : Bk.sorted L = true) {i : Nat} {d : Dd.D} (h : L[i]? = some d) : Bk.step L i = true ∧ ∃ x, d.row[0]? = some x := by
  have hi := (List.getElem?_eq_some_iff.1 h).1
  have h1 : Bk.step L i = true := by
    unfold Bk.sorted at hs
    rw [List.all_eq_true] at hs
    exact hs i (List.mem_range.2 hi)
  have h2 := Bk.step_row h h1
  obtain ⟨g, r⟩ := d
  cases r with
  | nil => exact absurd rfl h2
  | cons x r => exact ⟨h1, x, rfl⟩
theorem Bk.one_ok {s : List Kn.C} {L : List Dd.D} (h : Bk.wE s L = 0) {i : Nat} {d : Dd.D} (hd : L[i]? = some d) : Bk.wE s [d] = 0 := by
  obtain ⟨hr, _, _, hf, hs⟩ := Bk.wE_0 h
  obtain ⟨_, x, hx⟩ := Bk.row_of hs hd
  refine Bk.wE_of hr (Nat.le_refl _) (show 1 ≤ 8 by decide) (fun e he => ?_) (Bk.sorted_yes fun j hj => ?_)
  · rw [List.mem_singleton] at he
    subst he
    exact hf _ (List.mem_of_getElem? hd)
  · obtain rfl : j = 0 := by simpa using hj
    exact Bk.step_first rfl fun e => by rw [e] at hx; cases hx
theorem Bk.back_E {s : List Kn.C} {L : List Dd.D} (h : Bk.wE s L = 0) : Bk.wE s L.reverse = if L.length = 1 then 0 else 1 := by
  obtain ⟨hr, h1, h8, hf, hs⟩ := Bk.wE_0 h
  by_cases hl : L.length = 1
  · rw [if_pos hl]
    obtain ⟨d, rfl⟩ := List.length_eq_one_iff.1 hl
    exact h
  · rw [if_neg hl]
    obtain ⟨m, hm⟩ : ∃ m, L.length = m + 2 := ⟨L.length - 2, by omega⟩
    have hp := List.getElem?_eq_getElem (l := L) (i := m) (by omega)
    have hd := List.getElem?_eq_getElem (l := L) (i := m + 1) (by omega)
    generalize L[m] = p at hp
    generalize L[m + 1] = d at hd
    obtain ⟨_, y, hy⟩ := Bk.row_of hs hp
    obtain ⟨h2, x, hx⟩ := Bk.row_of hs hd
    rw [Bk.step_next hd hp hx hy, decide_eq_true_eq] at h2
    have g0 : L.reverse[0]? = some d := by
      rw [List.getElem?_reverse (by omega), show L.length - 1 - 0 = m + 1 by omega]
      exact hd
    have g1 : L.reverse[0 + 1]? = some p := by
      rw [List.getElem?_reverse (by omega), show L.length - 1 - (0 + 1) = m by omega]
      exact hp
    have hno : Bk.sorted L.reverse = false := Bk.sorted_no (k := 0 + 1) (by rw [List.length_reverse]; omega) (by
      rw [Bk.step_next g1 g0 hy hx, decide_eq_false_iff_not]
      have := (Kn.cmp_fair y x x).xa
      omega)
    have hz : Bk.firstE s L.reverse = 0 := Bk.firstE_0.2 fun e he => hf e (List.mem_reverse.1 he)
    unfold Bk.wE Bk.fitsE
    rw [if_pos hr, if_neg (by rw [List.length_reverse]; omega), if_pos hz, hno, if_neg (by decide)]
theorem Bk.Ds.one {w : World} {b o n c : Nat} {L : List Dd.D} (hn : n = L.length) (h : Bk.Ds w (.slice (some ⟨b, o, none⟩) n c) L) {i : Nat} {d : Dd.D} (hd : L[i]? = some d) : Bk.Ds w (.slice (some ⟨b, o + i * 2, none⟩) 1 (c - i)) [d] := by
  obtain ⟨a, c', e, h1, h2, h⟩ := h
  have hi := (List.getElem?_eq_some_iff.1 hd).1
  simp only [Value.slice.injEq] at e
  obtain ⟨rfl, _, rfl⟩ := e
  rcases h with rfl | ⟨b', o', e', hb, hc⟩
  · cases hd
  · simp only [Option.some.injEq, Addr.mk.injEq, and_true] at e'
    obtain ⟨rfl, rfl⟩ := e'
    refine ⟨_, c - i, rfl, by simp only [List.length_singleton]; omega, by omega, .inr ⟨b, o + i * 2, rfl, hb, fun j x hx => ?_⟩⟩
    have hj : j = 0 := by
      have := (List.getElem?_eq_some_iff.1 hx).1
      simp at this
      omega
    subst hj
    obtain rfl : d = x := by simpa using hx
    obtain ⟨u, c0, c1, hu⟩ := hc i d hd
    refine ⟨u, ?_, ?_, hu⟩
    · rw [show o + i * 2 + 0 * 2 = o + i * 2 by omega]; exact c0
    · rw [show o + i * 2 + 0 * 2 + 1 = o + i * 2 + 1 by omega]; exact c1
theorem Bk.back_step {L : List Dd.D} {M : List Bk.E} {j : Nat} {x : Bk.E} (h : M.map Bk.E.d = (L.drop (j + 1)).reverse) (hx : L[j]? = some x.d) : (M ++ [x]).map Bk.E.d = (L.drop j).reverse := by
  obtain ⟨hj, hg⟩ := List.getElem?_eq_some_iff.1 hx
  rw [List.map_append, h, List.drop_eq_getElem_cons hj, List.reverse_cons, hg]
  rfl
set_option maxHeartbeats 4000000 in
set_option maxRecDepth 100000 in
theorem Bk.lawOrder_w (vs v : Value) (s : List Kn.C) (L : List Dd.D) (w : World) (hT : Bk.T w) (hs : Bk.Cs w vs s) (hv : Bk.Ds w v L) (hz : Bk.Zs L) (hi : ∀ d ∈ L, ∀ x ∈ d.row, Ty.I64 x.n) :
    Calls Tryz.prog 7 #[vs, v] w fun e w' => e = .returned (.bool true) ∧ Below w.heap.size w w' := by
  have CW := Lib.hid fun wz ht h1 h2 => Bk.write_c vs v s L wz ht h1 h2 hz hi
  have HT := Lib.hid hT
  have HS := Lib.hid hs
  have HV := Lib.hid hv
  obtain ⟨a, c, rfl, hlc, hcm, hcells⟩ := hv
  obtain ⟨⟨sa, sc, rfl, -⟩, -⟩ := hs
  clear hT
  by_cases hE : Bk.wE s L = 0
  · rw [Bk.wV_ok hE] at CW
    obtain ⟨_, h1, h8, _, _⟩ := Bk.wE_0 hE
    have hne : L ≠ [] := fun e => by rw [e] at h1; simp at h1
    rcases hcells with hcells | ⟨b, o, rfl, hb, hcells⟩
    · exact absurd hcells hne
    have C1 : Hid (∀ j d wz, L[j]? = some d → Bk.T wz → Bk.Cs wz (.slice sa s.length sc) s → Bk.Ds wz (.slice (some ⟨b, o, none⟩) L.length c) L → Calls Tryz.prog 9 #[.slice sa s.length sc, .slice (some ⟨b, o + j * 2, none⟩) 1 (c - j)] wz fun e w' => e = .returned (.tuple #[.string (Ty.S (Bk.enc s [d])), .int .i64 0]) ∧ Below wz.heap.size wz w') := Lib.hid fun j d wz hd ht h2 h3 => by
      have := Bk.write_c (.slice sa s.length sc) (.slice (some ⟨b, o + j * 2, none⟩) 1 (c - j)) s [d] wz ht h2 (h3.one rfl hd)
        (fun e he => by rw [List.mem_singleton] at he; subst he; exact hz _ (List.mem_of_getElem? hd)) (fun e he => by rw [List.mem_singleton] at he; subst he; exact hi _ (List.mem_of_getElem? hd))
      rwa [Bk.wV_ok (Bk.one_ok hE hd)] at this
    have C2 : Hid (∀ u wz, Bk.T wz → Bk.Cs wz (.slice sa s.length sc) s → Bk.Ds wz u L.reverse → Calls Tryz.prog 9 #[.slice sa s.length sc, u] wz fun e w' => (∃ t, e = .returned (.tuple #[.string t, .int .i64 (if L.length = 1 then 0 else 1)])) ∧ Below wz.heap.size wz w') := Lib.hid fun u wz ht h2 h3 => by
      refine (Bk.write_c (.slice sa s.length sc) u s L.reverse wz ht h2 h3 (fun e he => hz e (List.mem_reverse.1 he)) (fun e he => hi e (List.mem_reverse.1 he))).mono ?_
      rintro e w' ⟨rfl, g⟩
      refine ⟨?_, g⟩
      unfold Bk.wV
      rw [Bk.back_E hE]
      exact ⟨_, rfl⟩
    generalize Ty.S (Bk.enc s L) = T at CW
    have HC := Lib.hid hcells
    have H8 := Lib.hid h8
    have H1 := Lib.hid h1
    clear hi hE hz hcells hne h8 h1
    go_enter Tryz.func7, Tryz.ntmps7
    go_wp2_with fail
    with_reducible refine (Bk.lives_c w HT.out).mono ?_
    rintro e w1 ⟨rfl, g1⟩
    have HG1 := Lib.hid g1
    clear g1
    go_wp2_with fail
    with_reducible refine (CW.out w1 (HT.out.below HG1.out) (HS.out.later HG1.out) (HV.out.later HG1.out)).mono ?_
    rintro e w2 ⟨rfl, g2⟩
    have HG2 := Lib.hid (Bk.grow HG1.out g2)
    clear g2
    have hlz : (L.length : Int) ≤ 8 := by have := H8.out; omega
    go_wp2_with fail
    go_loopw [7, 8] (fun bv i wr => ∃ (k : Nat) (M : List Bk.E), k ≤ L.length ∧ i = .int .i64 ((k : Int) - 1) ∧ M.length + k = L.length ∧ M.map Bk.E.d = (L.drop k).reverse ∧ (∀ x ∈ M, Kn.Vals w x.rv x.row) ∧ Bk.Own w2.heap.size wr bv M ∧ Below w2.heap.size w2 wr) (fun _ i _ => (intOf i + 1).toNat)
    case atStart => exact ⟨L.length, [], Nat.le_refl _, by rfl, by simp, by simp, (fun x hx => by cases hx), Dk.Own.nil _ _, Below.refl _ _⟩
    case round =>
      obtain ⟨k, M, hk, rfl, hml, hM, hrows, hO, hg⟩ := hrel
      cases k with
      | zero =>
        have hd := Bk.own_ds hO fun x hx => (hrows x hx).later (Bk.grow HG2.out hg)
        rw [hM, List.drop_zero] at hd
        have HD := Lib.hid hd
        have HG3 := Lib.hid (Bk.grow HG2.out hg)
        rw [show ((0 : Nat) : Int) - 1 = -1 by decide]
        have CC := C2.out _ wr (HT.out.below HG3.out) (HS.out.later HG3.out) HD.out
        have hl1 : (L.length = 1 ∧ ((L.length : Int) == 1) = true) ∨ (¬ L.length = 1 ∧ ((L.length : Int) == 1) = false ∧ (1 : Int) < (L.length : Int)) := by
          rcases Nat.lt_or_ge 1 L.length with h | h
          · exact .inr ⟨by omega, by rw [beq_eq_false_iff_ne]; omega, by omega⟩
          · exact .inl ⟨by have := H1.out; omega, by rw [beq_iff_eq]; have := H1.out; omega⟩
        clear hd hk hml hM hrows hO hg hlz
        rcases hl1 with ⟨e1, e2⟩ | ⟨e1, e2, e3⟩
        · rw [if_pos e1] at CC
          have CC := Lib.hid CC
          clear e1
          go_wp2_with fail
          with_reducible refine CC.out.mono ?_
          rintro e w4 ⟨⟨t4, rfl⟩, g4⟩
          have HG4 := Lib.hid (Bk.grow HG3.out g4)
          clear g4
          go_wp2
          go_ret
          exact ⟨rfl, HG4.out⟩
        · rw [if_neg e1] at CC
          have CC := Lib.hid CC
          clear e1
          go_wp2_with fail
          with_reducible refine CC.out.mono ?_
          rintro e w4 ⟨⟨t4, rfl⟩, g4⟩
          have HG4 := Lib.hid (Bk.grow HG3.out g4)
          clear g4
          go_wp2
          go_ret
          exact ⟨rfl, HG4.out⟩
      | succ j =>
        rw [show ((j + 1 : Nat) : Int) - 1 = (j : Int) by omega]
        have hx := List.getElem?_eq_getElem (l := L) (i := j) (by omega)
        generalize L[j] = d at hx
        obtain ⟨u, c0, c1, hu⟩ := HC.out j d hx
        have hbw : Below w.heap.size w wr := Bk.grow HG2.out hg
        have hbr : b < wr.heap.size := Nat.lt_of_lt_of_le hb hbw.size
        have c0 := (hbw.cell (p := ⟨b, o + j * 2, none⟩) hb).trans c0
        have c1 := (hbw.cell (p := ⟨b, o + j * 2 + 1, none⟩) hb).trans c1
        have dk : (j : Int) < (L.length : Int) := by omega
        have dk0 : (0 : Int) ≤ (j : Int) := by omega
        have dk1 : (j : Int) + 1 ≤ (c : Int) := by omega
        have hws := hg.size
        have hm8 : M.length ≤ 8 := by have := H8.out; omega
        obtain ⟨dg, dr⟩ := d
        have HU := Lib.hid hu
        obtain ⟨ua, uc, rfl, -⟩ := hu
        simp only at c0 c1
        have HX := Lib.hid hx
        have HM2 : Hid ((M ++ [(⟨dg, ua, uc, dr⟩ : Bk.E)]).map Bk.E.d = (L.drop j).reverse) := Lib.hid (Bk.back_step hM hx)
        have HR2 : Hid (∀ x ∈ M ++ [(⟨dg, ua, uc, dr⟩ : Bk.E)], Kn.Vals w x.rv x.row) := Lib.hid fun x hx => by
          rcases List.mem_append.1 hx with h | h
          · exact hrows x h
          · rw [List.mem_singleton] at h
            subst h
            exact HU.out
        have HK := Lib.hid hk
        have HML := Lib.hid hml
        have HGR := Lib.hid hg
        clear hx hk hml hM hrows hg hbw hb
        go_wp2_with (at_builtin; refine Dk.wpList_append1 23 _ 32 Tryz.underlying23 Bk.infoD rfl (by decide) Bk.e_len Bk.e_one (⟨dg, ua, uc, dr⟩ : Bk.E) hO hws (by omega) (by omega) _ rfl _ rfl (.tmp 30) (.tmp 35) (by rfl) (by rfl) (by rfl) (by rfl) ?_; intro v5 w5 h5 g5)
        have HO5 := Lib.hid h5
        have HB5 := Lib.hid (Dk.own_below HGR.out hO g5)
        have HG5 := Lib.hid (Bk.grow HG2.out HB5.out)
        clear h5 g5 hO
        go_wp2_with fail
        with_reducible refine (C1.out j _ w5 HX.out (HT.out.below HG5.out) (HS.out.later HG5.out) (HV.out.later HG5.out)).mono ?_
        rintro e w6 ⟨rfl, g6⟩
        have HO6 := Lib.hid (HO5.out.kept g6)
        have HB6 := Lib.hid (HB5.out.trans (g6.mono HB5.out.size))
        clear g6
        go_wp2
        go_roundw
        case rel => exact ⟨j, M ++ [⟨dg, ua, uc, dr⟩], by have := HK.out; omega, by simp, by have := HML.out; simp; omega, HM2.out, HR2.out, HO6.out, HB6.out⟩
        case measure => (simp [intOf]; try omega)
  · have hEb : (Bk.wE s L != 0) = true := by rw [bne_iff_ne]; exact hE
    rw [Bk.wV_bad rfl hE, Bk.S_nil] at CW
    generalize Bk.wE s L = E at CW hEb
    clear hi hE hz hcells
    go_enter Tryz.func7, Tryz.ntmps7
    go_wp2_with fail
    with_reducible refine (Bk.lives_c w HT.out).mono ?_
    rintro e w1 ⟨rfl, g1⟩
    have HG1 := Lib.hid g1
    clear g1
    go_wp2_with fail
    with_reducible refine (CW.out w1 (HT.out.below HG1.out) (HS.out.later HG1.out) (HV.out.later HG1.out)).mono ?_
    rintro e w2 ⟨rfl, g2⟩
    have HG2 := Lib.hid (Bk.grow HG1.out g2)
    clear g2
    go_wp2
    go_ret
    exact ⟨rfl, HG2.out⟩
end Go.Proofs.YtfbjmehkipcmbaaGreatDoor
