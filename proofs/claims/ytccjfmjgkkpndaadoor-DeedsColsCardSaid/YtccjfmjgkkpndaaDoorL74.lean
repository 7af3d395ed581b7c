/-
  The law DeedsCols: columns that a call owns, appended to.
-/
import Derived.Test.YtccjfmjgkkpndaaDoorL73
namespace Go.Proofs.YtccjfmjgkkpndaaDoor
open Go.RowKit
open Ty (I64)
/-- Columns as cells. -/
def Dd.cc (l : List Kn.C) : List Value := l.flatMap fun c => [.int .i64 c.k, .bool c.null]
theorem Dd.cc_len : ∀ l : List Kn.C, (Dd.cc l).length = l.length * 2
  | [] => rfl
  | c :: l => by
    have := Dd.cc_len l
    unfold Dd.cc at this ⊢
    rw [List.flatMap_cons, List.length_append, this]
    simp only [List.length_cons, List.length_nil]
    omega
theorem Dd.cc_get : ∀ (l : List Kn.C) (i : Nat) (x : Kn.C), l[i]? = some x → (Dd.cc l)[i * 2]? = some (.int .i64 x.k) ∧ (Dd.cc l)[i * 2 + 1]? = some (.bool x.null)
  | [], _, _, h => by cases h
  | c :: l, 0, x, h => by
    obtain rfl : c = x := by simpa using h
    exact ⟨rfl, rfl⟩
  | c :: l, i + 1, x, h => by
    have ih := Dd.cc_get l i x (by simpa using h)
    have e : Dd.cc (c :: l) = [.int .i64 c.k, .bool c.null] ++ Dd.cc l := rfl
    rw [e]
    refine ⟨?_, ?_⟩
    · rw [List.getElem?_append_right (by simp; omega), show (i + 1) * 2 - [Value.int .i64 c.k, .bool c.null].length = i * 2 by simp; omega]; exact ih.1
    · rw [List.getElem?_append_right (by simp; omega), show (i + 1) * 2 + 1 - [Value.int .i64 c.k, .bool c.null].length = i * 2 + 1 by simp; omega]; exact ih.2
theorem Dd.cc_at {l : List Kn.C} {j : Nat} {u : Value} (h : (Dd.cc l)[j]? = some u) : ∃ x, l[j / 2]? = some x ∧ ((j % 2 = 0 ∧ u = .int .i64 x.k) ∨ (j % 2 = 1 ∧ u = .bool x.null)) := by
  have hj := (List.getElem?_eq_some_iff.1 h).1
  rw [Dd.cc_len] at hj
  obtain ⟨x, hx⟩ : ∃ x, l[j / 2]? = some x := ⟨_, List.getElem?_eq_getElem (by omega)⟩
  obtain ⟨h0, h1⟩ := Dd.cc_get l (j / 2) x hx
  refine ⟨x, hx, ?_⟩
  rcases (by omega : j % 2 = 0 ∨ j % 2 = 1) with e | e
  · rw [show j / 2 * 2 = j by omega, h] at h0
    exact .inl ⟨e, Option.some.inj h0⟩
  · rw [show j / 2 * 2 + 1 = j by omega, h] at h1
    exact .inr ⟨e, Option.some.inj h1⟩
theorem Dd.infoC : (Tryd.prog.info? 39).map (fun i => (i.zero, i.size, i.bytes)) = some (some (.agg #[.int .i64 0, .bool false]), 2, 16) := by kernel_rfl
/-- Columns that a call owns. -/
def Dd.OwnC (base : Nat) (w : World) (v : Value) (L : List Kn.C) : Prop := w.ownsRow base 39 2 v L.length (Dd.cc L)
theorem Dd.OwnC.cols {base : Nat} {w : World} {v : Value} {L : List Kn.C} (h : Dd.OwnC base w v L) : Kn.Cols w v L := by
  rcases h.2 with ⟨rfl, e0⟩ | ⟨g, cap, cur, rfl, hb, hg, hc, hm, _⟩
  · obtain rfl := List.eq_nil_of_length_eq_zero e0
    exact ⟨_, 0, rfl, .inl rfl⟩
  · refine ⟨_, cap, rfl, .inr ⟨g, 0, rfl, (Array.getElem?_eq_some_iff.1 hg).1, by unfold maxLen at hm; omega, fun i x hx => ?_⟩⟩
    have hcl := World.ownsRow.cells h (g := g) rfl
    obtain ⟨h0, h1⟩ := Dd.cc_get L i x hx
    have a0 := hcl _ _ h0
    have a1 := hcl _ _ h1
    rw [Cl.addr_add] at a0 a1
    rw [Nat.zero_add]
    exact ⟨a0, a1⟩
theorem Dd.OwnC.dcols {base : Nat} {w : World} {v : Value} {L : List Kn.C} (h : Dd.OwnC base w v L) : Dd.Cols w v L := by
  refine ⟨h.cols, ?_⟩
  rcases h.2 with ⟨rfl, _⟩ | ⟨g, cap, cur, rfl, hb, hg, hc, hm, _⟩
  · exact Dd.Cap.of (Nat.le_refl _)
  · exact Dd.Cap.of (by omega)
theorem Dd.add_plain (b o j : Nat) : (⟨b, o, none⟩ : Addr).add j = ⟨b, o + j, none⟩ := by unfold Addr.add; split <;> simp_all
/-- Columns that lie somewhere appended to none: the walk's law. -/
theorem Dd.wpList_append_in {w : World} {b o c : Nat} {K : List Kn.C} (hK : ∀ i x, K[i]? = some x → w.cell? ⟨b, o + i * 2, none⟩ = some (.int .i64 x.k) ∧ w.cell? ⟨b, o + i * 2 + 1, none⟩ = some (.bool x.null)) (hl : K.length ≤ 6)
    {ops : Array Oper} {rest : List Oper} {op : Oper} {a : Act} {Q : Exit → Act → World → Prop} (s x : Operand) (hgd : op.guard = none)
    (ho : op.op = .call { callee := .builtin .append, args := #[s, x], argTypes := #[22, 22] })
    (hs : a.eval s = .slice none 0 0) (hx : a.eval x = .slice (some ⟨b, o, none⟩) K.length c)
    (h : ∀ v' w', Dd.OwnC w.heap.size w' v' K → w.grownBy w' none → wpList Tryd.prog ops Q rest (a.put op.dst v') w') :
    wpList Tryd.prog ops Q (op :: rest) a w := by
  obtain ⟨i0, hi, hz0, hz1, hz2⟩ := info_parts Dd.infoC
  refine Ty.wpList_append_tight _ hgd s x 22 ho w.heap.size 39 i0 _ 2 16 Tryd.underlying22 hi hz0 hz1 hz2 rfl (by decide) _ 0 [] hs (World.ownsRow_nil w _ _ 2) ⟨b, o, none⟩ K.length c (Dd.cc K) hx (Dd.cc_len K) (fun j u hj => ?_)
    (fun u hu => ?_) (by unfold maxLen; omega) (by omega) (Nat.le_refl _) fun v' w' h1 h2 => h v' w' ?_ h2.by_
  · obtain ⟨y, hy, hw⟩ := Dd.cc_at hj
    obtain ⟨k0, k1⟩ := hK _ y hy
    rw [Dd.add_plain]
    rcases hw with ⟨e, rfl⟩ | ⟨e, rfl⟩
    · rw [show o + j = o + j / 2 * 2 by omega]; exact k0
    · rw [show o + j = o + j / 2 * 2 + 1 by omega]; exact k1
  · obtain ⟨j, hj⟩ := List.getElem?_of_mem hu
    obtain ⟨y, _, hw⟩ := Dd.cc_at hj
    rcases hw with ⟨_, rfl⟩ | ⟨_, rfl⟩ <;> rfl
  · unfold Dd.OwnC
    simpa using h1
/-- One more column appended: the walk's law. -/
theorem Dd.wpList_append_col {base : Nat} {w0 : World} {v : Value} {M : List Kn.C} (y : Kn.C) (hown : Dd.OwnC base w0 v M) (hb : base ≤ w0.heap.size) (hl : M.length ≤ 6)
    {ops : Array Oper} {rest : List Oper} {op : Oper} {a : Act} {Q : Exit → Act → World → Prop} (s x : Operand) (q : Nat) (hq : q = w0.heap.size) (hgd : op.guard = none)
    (ho : op.op = .call { callee := .builtin .append, args := #[s, x], argTypes := #[22, 22] })
    (hs : a.eval s = v) (hx : a.eval x = .slice (some ⟨q, 0, none⟩) 1 1)
    (h : ∀ v' w', Dd.OwnC base w' v' (M ++ [y]) → Ty.Grew w0 w' v v' → wpList Tryd.prog ops Q rest (a.put op.dst v') w') :
    wpList Tryd.prog ops Q (op :: rest) a (w0.alloc (.cells #[.int .i64 y.k, .bool y.null] 39)) := by
  subst hq
  obtain ⟨i0, hi, hz0, hz1, hz2⟩ := info_parts Dd.infoC
  refine Ty.wpList_append_tight _ hgd s x 22 ho base 39 i0 _ 2 16 Tryd.underlying22 hi hz0 hz1 hz2 rfl (by decide) v M.length (Dd.cc M) hs (World.ownsRow.alloc hown _) ⟨w0.heap.size, 0, none⟩ 1 1 [.int .i64 y.k, .bool y.null] hx rfl (fun j u hj => ?_)
    (fun u hu => ?_) (by unfold maxLen; omega) (by omega) (by simp; omega) fun v' w' h1 h2 => h v' w' ?_ (h2.behind _)
  · rw [Cl.addr_add]
    exact Kn.cell_new w0 _ _ j u (by simpa using hj)
  · simp only [List.mem_cons, List.not_mem_nil, or_false] at hu
    rcases hu with rfl | rfl <;> rfl
  · unfold Dd.OwnC
    have e : Dd.cc (M ++ [y]) = Dd.cc M ++ [.int .i64 y.k, .bool y.null] := by unfold Dd.cc; rw [List.flatMap_append]; rfl
    rw [List.length_append, e]
    exact h1
theorem Dd.right_snoc {s : List Kn.C} (h : Kn.right s = true) (hl : s.length ≤ 5) : Kn.right (s ++ [⟨1, false⟩]) = true := by
  have h1 := Kn.right_len h
  unfold Kn.right at h ⊢
  simp only [Bool.and_eq_true, decide_eq_true_iff] at h ⊢
  refine ⟨⟨⟨by simp, by simp; omega⟩, ?_⟩, ?_⟩
  · cases s with
    | nil => simp at h1
    | cons c t => exact h.1.2
  · rw [List.all_append, h.2]
    rfl
theorem Dd.right_drop {s : List Kn.C} (h : Kn.right s = true) (hl : 2 ≤ s.length) : Kn.right s.dropLast = true := by
  have h1 := Kn.right_len h
  unfold Kn.right at h ⊢
  simp only [Bool.and_eq_true, decide_eq_true_iff] at h ⊢
  refine ⟨⟨⟨by rw [List.length_dropLast]; omega, by rw [List.length_dropLast]; omega⟩, ?_⟩, ?_⟩
  · match s, hl with
    | c :: e :: t, _ => exact h.1.2
  · rw [List.all_eq_true] at h ⊢
    exact fun x hx => h.2 x (List.dropLast_subset _ hx)
/-- Columns cut at the end. -/
theorem Dd.cols_cut {w : World} {b o n : Nat} {s : List Kn.C} (hn : s.length = n + 1) (hb : b < w.heap.size) (hm : s.length ≤ 9223372036854775807) (hc : ∀ i x, s[i]? = some x → w.cell? ⟨b, o + i * 2, none⟩ = some (.int .i64 x.k) ∧ w.cell? ⟨b, o + i * 2 + 1, none⟩ = some (.bool x.null)) (c' : Nat) : Kn.Cols w (.slice (some ⟨b, o, none⟩) n c') s.dropLast := by
  refine ⟨_, c', by rw [List.length_dropLast, hn]; rfl, .inr ⟨b, o, rfl, hb, by rw [List.length_dropLast]; omega, fun i x hx => ?_⟩⟩
  rw [List.dropLast_eq_take, List.getElem?_take] at hx
  split at hx
  · exact hc i x hx
  · cases hx
set_option maxHeartbeats 4000000 in
set_option maxRecDepth 100000 in
theorem Dd.lawCols_w (a : Option Addr) (cap : Nat) (u : Value) (s : List Kn.C) (r : List Kn.V) (w : World) (hw : Dd.T w) (hs : Dd.Cols w (.slice a s.length cap) s) (hcap : s.length ≤ cap) (hu : Kn.Vals w u r) (hi : ∀ x ∈ r, I64 x.n) :
    Calls Tryd.prog 8 #[.slice a s.length cap, u] w fun e w' => e = .returned (.bool true) ∧ Below w.heap.size w w' := by
  have CW := Lib.hid fun wz hT h1 h2 => Dd.write_c (.slice a s.length cap) u s ⟨false, r⟩ wz hT h1 h2 hi
  have HS := Lib.hid hs
  have HU := Lib.hid hu
  have HW := Lib.hid hw
  obtain ⟨ua, uc, rfl, _⟩ := hu.is
  clear hw hu
  by_cases hE : Dd.fitE s ⟨false, r⟩ = 0
  · rw [Dd.wV_ok hE] at CW
    have hrt := (Dd.fitE_0 hE).1
    have hl := Kn.right_len hrt
    by_cases h2 : s.length < 2
    · have h2i : (s.length : Int) < 2 := by omega
      generalize Ty.S (Dd.enc s ⟨false, r⟩) = S at CW
      clear hE hrt hl h2 hs hi hcap
      go_enter Tryd.func8, Tryd.ntmps8
      go_wp2_with fail
      with_reducible refine (Dd.lives_c w HW.out).mono ?_
      rintro e w1 ⟨rfl, g1⟩
      have HB1 := Lib.hid g1
      clear g1
      go_wp2_with fail
      with_reducible refine (CW.out w1 (HW.out.below HB1.out) (HS.out.later HB1.out) (HU.out.later HB1.out)).mono ?_
      rintro e w2 ⟨rfl, g2⟩
      have HB2 := Lib.hid (HB1.out.trans (g2.mono HB1.out.size))
      clear g2
      go_wp2
      go_ret
      exact ⟨rfl, HB2.out⟩
    · by_cases h6 : 6 ≤ s.length
      · have h2i : ¬ (s.length : Int) < 2 := by omega
        have h6i : (6 : Int) ≤ (s.length : Int) := by omega
        generalize Ty.S (Dd.enc s ⟨false, r⟩) = S at CW
        clear hE hrt hl h2 h6 hs hi hcap
        go_enter Tryd.func8, Tryd.ntmps8
        go_wp2_with fail
        with_reducible refine (Dd.lives_c w HW.out).mono ?_
        rintro e w1 ⟨rfl, g1⟩
        have HB1 := Lib.hid g1
        clear g1
        go_wp2_with fail
        with_reducible refine (CW.out w1 (HW.out.below HB1.out) (HS.out.later HB1.out) (HU.out.later HB1.out)).mono ?_
        rintro e w2 ⟨rfl, g2⟩
        have HB2 := Lib.hid (HB1.out.trans (g2.mono HB1.out.size))
        clear g2
        go_wp2
        go_ret
        exact ⟨rfl, HB2.out⟩
      · have h2i : ¬ (s.length : Int) < 2 := by omega
        have h6i : ¬ (6 : Int) ≤ (s.length : Int) := by omega
        have hne : s ≠ [] := by intro e; rw [e] at hl; simp at hl
        have hcut : (Dd.rd s.dropLast (Dd.enc s ⟨false, r⟩)).1 = 5 := by
          have e := (List.dropLast_concat_getLast hne).symm
          have h3 : Dd.fitE (s.dropLast ++ [s.getLast hne]) ⟨false, r⟩ = 0 := by rw [← e]; exact hE
          have := Dd.cut (Dd.right_drop hrt (by omega)) h3 hi
          rwa [← e] at this
        have hwide : (Dd.rd (s ++ [⟨1, false⟩]) (Dd.enc s ⟨false, r⟩)).1 = 2 := Dd.wide (Dd.right_snoc hrt (by omega)) hE hi
        have hsz : (Ty.S (Dd.enc s ⟨false, r⟩)).size ≤ 140737488351232 := by rw [Ty.size_S]; have := Dd.enc_len hE; omega
        have C1 : Hid (∀ (v : Value) wz, Dd.T wz → Dd.Cols wz v s.dropLast → Calls Tryd.prog 12 #[v, .string (Ty.S (Dd.enc s ⟨false, r⟩))] wz (Dd.Got wz (5, ⟨false, []⟩))) := Lib.hid fun v wz hT h1 => by
          have := Dd.read_c v s.dropLast _ wz hT h1 hsz
          have h5 : Dd.rd s.dropLast (Dd.enc s ⟨false, r⟩) = (5, ⟨false, []⟩) := Prod.ext hcut (Dd.rd_bad (by rw [hcut]; decide))
          rwa [Ty.data_S, h5] at this
        have C2 : Hid (∀ (v : Value) wz, Dd.T wz → Dd.Cols wz v (s ++ [⟨1, false⟩]) → Calls Tryd.prog 12 #[v, .string (Ty.S (Dd.enc s ⟨false, r⟩))] wz (Dd.Got wz (2, ⟨false, []⟩))) := Lib.hid fun v wz hT h1 => by
          have := Dd.read_c v (s ++ [⟨1, false⟩]) _ wz hT h1 hsz
          have h5 : Dd.rd (s ++ [⟨1, false⟩]) (Dd.enc s ⟨false, r⟩) = (2, ⟨false, []⟩) := Prod.ext hwide (Dd.rd_bad (by rw [hwide]; decide))
          rwa [Ty.data_S, h5] at this
        generalize Ty.S (Dd.enc s ⟨false, r⟩) = S at CW C1 C2
        unfold Dd.Got at C1 C2
        simp only at C1 C2 CW
        obtain ⟨b, o, rfl, hbl, hm, hc⟩ : ∃ b o, a = some ⟨b, o, none⟩ ∧ b < w.heap.size ∧ s.length ≤ 9223372036854775807 ∧ ∀ i x, s[i]? = some x → w.cell? ⟨b, o + i * 2, none⟩ = some (.int .i64 x.k) ∧ w.cell? ⟨b, o + i * 2 + 1, none⟩ = some (.bool x.null) := by
          obtain ⟨⟨a', c', e, h⟩, _⟩ := hs
          simp only [Value.slice.injEq, true_and] at e
          obtain ⟨rfl, rfl⟩ := e
          rcases h with h | h
          · exact absurd h hne
          · exact h
        obtain ⟨n, hn⟩ : ∃ n, s.length = n + 1 := ⟨s.length - 1, by omega⟩
        have HCT : Hid (∀ W, Below w.heap.size w W → ∀ i x, s[i]? = some x → W.cell? ⟨b, o + i * 2, none⟩ = some (.int .i64 x.k) ∧ W.cell? ⟨b, o + i * 2 + 1, none⟩ = some (.bool x.null)) := Lib.hid fun W g i x hx => ⟨(g.cell (p := ⟨b, o + i * 2, none⟩) hbl).trans (hc i x hx).1, (g.cell (p := ⟨b, o + i * 2 + 1, none⟩) hbl).trans (hc i x hx).2⟩
        have HCUT : Hid (∀ W, Below w.heap.size w W → Dd.Cols W (.slice (some ⟨b, o, none⟩) n cap) s.dropLast) := Lib.hid fun W g => ⟨Dd.cols_cut hn (Nat.lt_of_lt_of_le hbl g.size) hm (HCT.out W g) cap, Dd.Cap.of (by omega)⟩
        have hs6 : s.length ≤ 6 := by omega
        have hni : (s.length : Int) - 1 = (n : Int) := by omega
        have hn0 : (0 : Int) ≤ (n : Int) := by omega
        have hnc : (n : Int) ≤ (cap : Int) := by omega
        clear hE hrt hl h2 h6 hs hi hcap hcut hwide hsz hne hc hm hn
        go_enter Tryd.func8, Tryd.ntmps8
        go_wp2_with fail
        with_reducible refine (Dd.lives_c w HW.out).mono ?_
        rintro e w1 ⟨rfl, g1⟩
        have HB1 := Lib.hid g1
        clear g1
        go_wp2_with fail
        with_reducible refine (CW.out w1 (HW.out.below HB1.out) (HS.out.later HB1.out) (HU.out.later HB1.out)).mono ?_
        rintro e w2 ⟨rfl, g2⟩
        have HB2 := Lib.hid (HB1.out.trans (g2.mono HB1.out.size))
        clear g2
        go_wp2_with fail
        with_reducible refine (C1.out _ w2 (HW.out.below HB2.out) (HCUT.out w2 HB2.out)).mono ?_
        rintro e w3 ⟨u3, rfl, hV3, _, g3⟩
        have HB3 := Lib.hid (HB2.out.trans (g3.mono HB2.out.size))
        obtain ⟨va, vc, rfl, _⟩ := hV3.is
        obtain ⟨_, _, hA3, hsz3⟩ := Dd.boxed w3 false (.slice va 0 vc)
        have HB4 := Lib.hid (HB3.out.trans (hA3.mono HB3.out.size))
        have hK := HCT.out _ HB4.out
        have HK := Lib.hid hK
        simp only [List.length_nil]
        clear g3 hV3 hA3 hK
        go_wp2_with (at_builtin; first
          | (refine Dd.wpList_append_in HK.out hs6 (.const (.slice none 0 0)) (.tmp 43) rfl rfl rfl rfl ?_
             intro v5 w5 h5 g5
             have H5 := Lib.hid h5
             have G5 := Lib.hid g5)
          | (refine Dd.wpList_append_col ⟨1, false⟩ H5.out G5.out.size hs6 (.tmp 44) (.tmp 46) _ rfl rfl rfl rfl rfl ?_
             intro v6 w6 h6 g6))
        have hb6 := (HB4.out.trans ((Ty.below_none G5.out (Nat.le_refl _)).mono HB4.out.size)).trans ((g6.below G5.out.size (fun k hk => (World.ownsRow.lt H5.out k hk).1)).mono HB4.out.size)
        have HB6 := Lib.hid hb6
        have hC6 := h6.dcols
        have c2 := C2.out v6 w6 (HW.out.below hb6) hC6
        clear h6 g6 hb6 hC6 C1
        with_reducible refine c2.mono ?_
        rintro e w7 ⟨u7, rfl, hV7, _, g7⟩
        have HB7 := Lib.hid (HB6.out.trans (g7.mono HB6.out.size))
        obtain ⟨xa, xc, rfl, _⟩ := hV7.is
        simp only [List.length_nil]
        clear g7 hV7 c2
        have HB8 := Lib.hid (HB7.out.alloc HB7.out.size (.cells #[.bool false, .slice xa 0 xc] 26))
        go_wp2
        go_ret
        exact ⟨rfl, HB8.out⟩
  · rw [Dd.wV_bad hE] at CW
    have hEb : (Dd.fitE s ⟨false, r⟩ != 0) = true := by rw [bne_iff_ne]; exact hE
    generalize Dd.fitE s ⟨false, r⟩ = E at CW hEb
    simp only at CW
    clear hE hs hi hcap
    go_enter Tryd.func8, Tryd.ntmps8
    go_wp2_with fail
    with_reducible refine (Dd.lives_c w HW.out).mono ?_
    rintro e w1 ⟨rfl, g1⟩
    have HB1 := Lib.hid g1
    clear g1
    go_wp2_with fail
    with_reducible refine (CW.out w1 (HW.out.below HB1.out) (HS.out.later HB1.out) (HU.out.later HB1.out)).mono ?_
    rintro e w2 ⟨rfl, g2⟩
    have HB2 := Lib.hid (HB1.out.trans (g2.mono HB1.out.size))
    clear g2
    go_wp2
    go_ret
    exact ⟨rfl, HB2.out⟩
end Go.Proofs.YtccjfmjgkkpndaaDoor
