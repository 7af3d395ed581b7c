/-
  The document's answers for package column: values that a call owns; values read of bytes.
  The document's answers for package column: Write.
  What Read answers, way by way. No program.
-/
import Derived.Test.YtcognkgabdaneaaGreatDoorCA
import Derived.Test.YtcognkgabdaneaaGreatDoorJB
import Derived.Test.YtcognkgabdaneaaGreatDoorQD
import Derived.Test.YtcognkgabdaneaaGreatDoorJA
namespace Go.Proofs.YtcognkgabdaneaaGreatDoor
open Go.RowKit
theorem Cl.ird_bad {l : List UInt8} (h : (Ig.rd l).1 ≠ 0) : (Ig.rd l).2 = [] := by
  unfold Ig.rd at h ⊢
  cases l with
  | nil => rfl
  | cons b r =>
    simp only at h ⊢
    split
    · rfl
    · split
      · rfl
      · split
        · rfl
        · split
          · rfl
          · split
            · rfl
            · rename_i a1 a2 a3 a4 a5
              rw [if_neg a1, if_neg a2, if_neg a3, if_neg a4, if_neg a5] at h
              exact absurd rfl h
theorem Cl.trd_bad {l : List UInt8} (h : (Tx.rd l).1 ≠ 0) : (Tx.rd l).2 = [] := by
  unfold Tx.rd at h ⊢
  cases l with
  | nil => rfl
  | cons b r =>
    simp only at h ⊢
    split
    · rfl
    · split
      · rfl
      · split
        · rfl
        · split
          · rfl
          · split
            · rfl
            · rename_i a1 a2 a3 a4 a5
              rw [if_neg a1, if_neg a2, if_neg a3, if_neg a4, if_neg a5] at h
              exact absurd rfl h
theorem Cl.ird_len (l : List UInt8) : (Ig.rd l).2.length ≤ 65536 := by
  by_cases h : (Ig.rd l).1 = 0
  · obtain ⟨b, r, _, _, _, h, _⟩ := Ig.enc_rd l h
    exact h
  · rw [Cl.ird_bad h]; simp
theorem Cl.trd_len (l : List UInt8) : (Tx.rd l).2.length ≤ 65536 := by
  by_cases h : (Tx.rd l).1 = 0
  · obtain ⟨b, r, _, _, _, h, _⟩ := Tx.enc_rd l h
    exact h
  · rw [Cl.trd_bad h]; simp
theorem Cl.back_len (c : Kn.C) (l : List UInt8) : (Cl.back c l).2.length ≤ 65536 := by
  unfold Cl.back
  split
  · rw [List.length_map]; exact Cl.ird_len l
  · rw [List.length_map]; exact Cl.trd_len l
/-- Values as cells. -/
def Cl.cells (l : List Kn.V) : List Value := l.flatMap fun v => [.bool v.null, .int .i64 v.n, .string v.s]
theorem Cl.cells_len : ∀ l : List Kn.V, (Cl.cells l).length = l.length * 3
  | [] => rfl
  | v :: l => by
    have := Cl.cells_len l
    unfold Cl.cells at this ⊢
    rw [List.flatMap_cons, List.length_append, this]
    simp only [List.length_cons, List.length_nil]
    omega
theorem Cl.cells_get : ∀ (l : List Kn.V) (i : Nat) (x : Kn.V), l[i]? = some x → (Cl.cells l)[i * 3]? = some (.bool x.null) ∧ (Cl.cells l)[i * 3 + 1]? = some (.int .i64 x.n) ∧ (Cl.cells l)[i * 3 + 2]? = some (.string x.s)
  | [], _, _, h => by cases h
  | v :: l, 0, x, h => by
    obtain rfl : v = x := by simpa using h
    exact ⟨rfl, rfl, rfl⟩
  | v :: l, i + 1, x, h => by
    have ih := Cl.cells_get l i x (by simpa using h)
    have e : Cl.cells (v :: l) = [.bool v.null, .int .i64 v.n, .string v.s] ++ Cl.cells l := rfl
    rw [e]
    refine ⟨?_, ?_, ?_⟩
    · rw [List.getElem?_append_right (by simp; omega), show (i + 1) * 3 - [Value.bool v.null, .int .i64 v.n, .string v.s].length = i * 3 by simp; omega]; exact ih.1
    · rw [List.getElem?_append_right (by simp; omega), show (i + 1) * 3 + 1 - [Value.bool v.null, .int .i64 v.n, .string v.s].length = i * 3 + 1 by simp; omega]; exact ih.2.1
    · rw [List.getElem?_append_right (by simp; omega), show (i + 1) * 3 + 2 - [Value.bool v.null, .int .i64 v.n, .string v.s].length = i * 3 + 2 by simp; omega]; exact ih.2.2
theorem Cl.infoV : (Tryz.prog.info? 36).map (fun i => (i.zero, i.size, i.bytes)) = some (some (.agg #[.bool false, .int .i64 0, .string ⟨#[]⟩]), 3, 32) := by kernel_rfl
/-- A slice of values that a call owns. -/
def Cl.Own (base : Nat) (w : World) (v : Value) (L : List Kn.V) : Prop := w.ownsRow base 36 3 v L.length (Cl.cells L)
theorem Cl.Own.nil (base : Nat) (w : World) : Cl.Own base w (.slice none 0 0) [] := World.ownsRow_nil w base _ 3
theorem Cl.addr_add (b i : Nat) : (⟨b, 0, none⟩ : Addr).add i = ⟨b, i, none⟩ := by unfold Addr.add; split <;> simp_all
theorem Cl.Own.vals {base : Nat} {w : World} {v : Value} {L : List Kn.V} (h : Cl.Own base w v L) : Kn.Vals w v L := by
  rcases h.2 with ⟨rfl, e0⟩ | ⟨g, cap, cur, rfl, hb, hg, hc, hm, _⟩
  · obtain rfl := List.eq_nil_of_length_eq_zero e0
    exact ⟨_, 0, rfl, .inl rfl⟩
  · refine ⟨_, cap, rfl, .inr ⟨g, 0, rfl, (Array.getElem?_eq_some_iff.1 hg).1, by unfold maxLen at hm; omega, fun i x hx => ?_⟩⟩
    have hcl := World.ownsRow.cells h (g := g) rfl
    obtain ⟨h0, h1, h2⟩ := Cl.cells_get L i x hx
    have a0 := hcl _ _ h0
    have a1 := hcl _ _ h1
    have a2 := hcl _ _ h2
    rw [Cl.addr_add] at a0 a1 a2
    rw [Nat.zero_add]
    exact ⟨a0, a1, a2⟩
theorem Cl.Own.base_le {base : Nat} {w : World} {v : Value} {L : List Kn.V} (h : Cl.Own base w v L) : ∀ k, v.ownBlock = some k → base ≤ k := fun k hk => (World.ownsRow.lt h k hk).1
theorem Cl.Own.kept {base : Nat} {w w' : World} {v : Value} {L : List Kn.V} (h : Cl.Own base w v L) (g : Below w.heap.size w w') : Cl.Own base w' v L := by
  refine ⟨h.1, ?_⟩
  rcases h.2 with hn | ⟨b, cap, cur, rfl, hbb, hgg, rest⟩
  · exact .inl hn
  · exact .inr ⟨b, cap, cur, rfl, hbb, by rw [g.block b (Array.getElem?_eq_some_iff.1 hgg).1]; exact hgg, rest⟩
theorem Cl.own_below {wo w w' : World} {v v' : Value} {L : List Kn.V} (hb : Below wo.heap.size wo w) (ho : Cl.Own wo.heap.size w v L) (g : Ty.Grew w w' v v') : Below wo.heap.size wo w' :=
  hb.trans (g.below hb.size ho.base_le)
/-- One more value appended: the walk's law. -/
theorem Cl.wpList_append_val {base : Nat} {w0 : World} {v : Value} {M : List Kn.V} (x : Kn.V) (hown : Cl.Own base w0 v M) (hb : base ≤ w0.heap.size) (hl : M.length + 1 ≤ 1048576)
    {ops : Array Oper} {rest : List Oper} {o : Oper} {a : Act} {Q : Exit → Act → World → Prop} (s y : Operand) (cs : Array Value) (hcs : cs = #[.bool x.null, .int .i64 x.n, .string x.s]) (hgd : o.guard = none)
    (ho : o.op = .call { callee := .builtin .append, args := #[s, y], argTypes := #[25, 25] })
    (hs : a.eval s = v) (hx : a.eval y = .slice (some ⟨w0.heap.size, 0, none⟩) 1 1)
    (h : ∀ v' w', Cl.Own base w' v' (M ++ [x]) → Ty.Grew w0 w' v v' → wpList Tryz.prog ops Q rest (a.put o.dst v') w') :
    wpList Tryz.prog ops Q (o :: rest) a (w0.alloc (.cells cs 36)) := by
  subst hcs
  obtain ⟨i0, hi, hz0, hz1, hz2⟩ := info_parts Cl.infoV
  refine Ty.wpList_append_tight _ hgd s y 25 ho base 36 i0 _ 3 32 Tryz.underlying25 hi hz0 hz1 hz2 rfl (by decide) v M.length (Cl.cells M) hs (World.ownsRow.alloc hown _) ⟨w0.heap.size, 0, none⟩ 1 1 [.bool x.null, .int .i64 x.n, .string x.s] hx rfl (fun j u hj => ?_)
    (fun u hu => ?_) (by unfold maxLen; omega) (by omega) (by simp; omega) fun v' w' h1 h2 => h v' w' ?_ (h2.behind _)
  · rw [Cl.addr_add]
    exact Kn.cell_new w0 _ _ j u (by simpa using hj)
  · simp only [List.mem_cons, List.not_mem_nil, or_false] at hu
    rcases hu with rfl | rfl | rfl <;> rfl
  · unfold Cl.Own
    have e : Cl.cells (M ++ [x]) = Cl.cells M ++ [.bool x.null, .int .i64 x.n, .string x.s] := by unfold Cl.cells; rw [List.flatMap_append]; rfl
    rw [List.length_append, e]
    exact h1
set_option maxHeartbeats 2000000 in
set_option maxRecDepth 100000 in
/-- The values of bytes, as the document has it. -/
theorem Cl.rback_c (c : Kn.C) (s : ByteArray) (w : World) (hs : s.size ≤ 140737488351232) :
    Calls Tryz.prog 34 #[c.val, .string s] w fun e w' => ∃ v, e = .returned (.tuple #[v, .int .i64 (((Cl.back c s.data.toList).1 : Nat) : Int)]) ∧ Cl.Own w.heap.size w' v (Cl.back c s.data.toList).2 ∧ Below w.heap.size w w' := by
  have hk : (((c.k == 1) = true) ∧ Cl.back c s.data.toList = ((Ig.rd s.data.toList).1, (Ig.rd s.data.toList).2.map Cl.ofN)) ∨ ((c.k == 1) = false ∧ Cl.back c s.data.toList = ((Tx.rd s.data.toList).1, (Tx.rd s.data.toList).2.map Cl.ofS)) := by
    unfold Cl.back
    by_cases h : c.k = 1
    · left; exact ⟨by rw [h]; rfl, by rw [if_pos h]⟩
    · right; exact ⟨by rw [beq_eq_false_iff_ne]; exact h, by rw [if_neg h]⟩
  have ci := fun wz => Ig.rread_c s wz hs
  have ct := fun wz => Tx.rread_c s wz hs
  have hli := Cl.ird_len s.data.toList
  have hlt := Cl.trd_len s.data.toList
  generalize Cl.back c s.data.toList = r at hk ⊢
  generalize Ig.rd s.data.toList = ri at hk ci hli
  generalize Tx.rd s.data.toList = rt at hk ct hlt
  clear hs
  obtain ⟨ck, cn⟩ := c
  unfold Kn.C.val
  simp only at hk ⊢
  have hsz : (w.alloc (.cells #[.int .i64 ck, .bool cn] 24)).heap.size = w.heap.size + 1 := World.size_alloc ..
  have HB0 : Hid (Below w.heap.size w (w.alloc (.cells #[.int .i64 ck, .bool cn] 24))) := Lib.hid ((Below.refl _ _).alloc (Nat.le_refl _) _)
  rcases hk with ⟨hk, rfl⟩ | ⟨hk, rfl⟩
  · obtain ⟨E, L⟩ := ri
    simp only at ci hli ⊢
    clear ct hlt
    go_enter Tryz.func34, Tryz.ntmps34
    go_wp2_with fail
    refine (ci _).mono ?_
    rintro e w1 ⟨v, rfl, ⟨a, cp, rfl, hcp, _, h⟩, g1⟩
    have hs1 := g1.size
    rw [hsz] at hs1
    have HB1 := Lib.hid (HB0.out.trans (g1.mono (by rw [hsz]; omega)))
    have HH := Lib.hid h
    clear ci h g1
    go_wp2_with fail
    go_loopw [6, 9] (fun ov i wr => ∃ k : Nat, k ≤ L.length ∧ i = .int .i64 k ∧ Cl.Own w1.heap.size wr ov ((L.take k).map Cl.ofN) ∧ Below w1.heap.size w1 wr) (fun _ i _ => L.length - (intOf i).toNat)
    case atStart => exact ⟨0, by omega, rfl, Cl.Own.nil _ _, Below.refl _ _⟩
    case round =>
      obtain ⟨k, hkl, rfl, hO, hb⟩ := hrel
      have HB := Lib.hid hb
      have HO := Lib.hid hO
      have hws := hb.size
      clear hO hb
      by_cases hlk : k < L.length
      · rcases HH.out with h | ⟨b, o, rfl, hbl, h⟩
        · exact absurd hlk (by rw [h]; simp)
        · have hc := (HB.out.cell (p := ⟨b, o + k, none⟩) hbl).trans (h k hlk)
          have dk : (k : Int) < (L.length : Int) := by omega
          have dk0 : (0 : Int) ≤ (k : Int) := by omega
          have HT : Hid ((L.take (k + 1)).map Cl.ofN = (L.take k).map Cl.ofN ++ [Cl.ofN (Ig.nth L k)]) := Lib.hid (by
            rw [List.take_succ_eq_append_getElem hlk, List.map_append]
            congr 2
            unfold Ig.nth
            rw [List.getD, List.getElem?_eq_getElem hlk]
            rfl)
          have hml : ((L.take k).map Cl.ofN).length ≤ k := by rw [List.length_map]; exact List.length_take_le _ _
          have hO := HO.out
          clear h
          go_wp2_with (at_builtin; refine Cl.wpList_append_val (Cl.ofN (Ig.nth L k)) hO (by omega) (by omega) (.tmp 27) (.tmp 33) _ rfl rfl rfl rfl rfl ?_; intro v5 w5 h5 g5)
          have H5 := Lib.hid h5
          have HB5 := Lib.hid (Cl.own_below HB.out hO g5)
          clear h5 g5 hO
          go_roundw
          case rel => exact ⟨k + 1, by omega, by simp, by rw [HT.out]; exact H5.out, HB5.out⟩
          case measure => simp [intOf]; omega
      · obtain rfl : k = L.length := by omega
        have dk : ¬ (L.length : Int) < (L.length : Int) := by omega
        have hO := HO.out
        rw [List.take_length] at hO
        have HO2 := Lib.hid (World.ownsRow.mono hO (show w.heap.size ≤ w1.heap.size by omega))
        have HG := Lib.hid (HB1.out.trans (HB.out.mono (by omega)))
        clear hO
        go_wp2
        go_ret2
        exact ⟨_, rfl, HO2.out, HG.out⟩
  · obtain ⟨E, L⟩ := rt
    simp only at ct hlt ⊢
    clear ci hli
    go_enter Tryz.func34, Tryz.ntmps34
    go_wp2_with fail
    refine (ct _).mono ?_
    rintro e w1 ⟨v, rfl, ⟨a, cp, rfl, hcp, _, h⟩, g1⟩
    have hs1 := g1.size
    rw [hsz] at hs1
    have HB1 := Lib.hid (HB0.out.trans (g1.mono (by rw [hsz]; omega)))
    have HH := Lib.hid h
    clear ct h g1
    go_wp2_with fail
    go_loopw [6, 12] (fun ov i wr => ∃ k : Nat, k ≤ L.length ∧ i = .int .i64 k ∧ Cl.Own w1.heap.size wr ov ((L.take k).map Cl.ofS) ∧ Below w1.heap.size w1 wr) (fun _ i _ => L.length - (intOf i).toNat)
    case atStart => exact ⟨0, by omega, rfl, Cl.Own.nil _ _, Below.refl _ _⟩
    case round =>
      obtain ⟨k, hkl, rfl, hO, hb⟩ := hrel
      have HB := Lib.hid hb
      have HO := Lib.hid hO
      have hws := hb.size
      clear hO hb
      by_cases hlk : k < L.length
      · rcases HH.out with h | ⟨b, o, rfl, hbl, h⟩
        · exact absurd hlk (by rw [h.1]; simp)
        · have hc := (HB.out.cell (p := ⟨b, o + k, none⟩) hbl).trans (h k hlk)
          unfold Tx.sv at hc
          obtain ⟨t, ht⟩ : ∃ t, t = L.getD k [] := ⟨_, rfl⟩
          rw [← ht] at hc
          have dk : (k : Int) < (L.length : Int) := by omega
          have dk0 : (0 : Int) ≤ (k : Int) := by omega
          have HT : Hid ((L.take (k + 1)).map Cl.ofS = (L.take k).map Cl.ofS ++ [Cl.ofS t]) := Lib.hid (by
            rw [ht, List.take_succ_eq_append_getElem hlk, List.map_append]
            congr 2
            rw [List.getD, List.getElem?_eq_getElem hlk]
            rfl)
          have hml : ((L.take k).map Cl.ofS).length ≤ k := by rw [List.length_map]; exact List.length_take_le _ _
          have hO := HO.out
          clear h ht
          go_wp2_with (at_builtin; refine Cl.wpList_append_val (Cl.ofS t) hO (by omega) (by omega) (.tmp 48) (.tmp 54) _ rfl rfl rfl rfl rfl ?_; intro v5 w5 h5 g5)
          have H5 := Lib.hid h5
          have HB5 := Lib.hid (Cl.own_below HB.out hO g5)
          clear h5 g5 hO
          go_roundw
          case rel => exact ⟨k + 1, by omega, by simp, by rw [HT.out]; exact H5.out, HB5.out⟩
          case measure => simp [intOf]; omega
      · obtain rfl : k = L.length := by omega
        have dk : ¬ (L.length : Int) < (L.length : Int) := by omega
        have hO := HO.out
        rw [List.take_length] at hO
        have HO2 := Lib.hid (World.ownsRow.mono hO (show w.heap.size ≤ w1.heap.size by omega))
        have HG := Lib.hid (HB1.out.trans (HB.out.mono (by omega)))
        clear hO
        go_wp2
        go_ret2
        exact ⟨_, rfl, HO2.out, HG.out⟩
end Go.Proofs.YtcognkgabdaneaaGreatDoor

namespace Go.Proofs.YtcognkgabdaneaaGreatDoor
open Go.RowKit
theorem Cl.vals_len {c : Kn.C} {l : List Kn.V} (h : l.all (Cl.is c) = true) (hl : l.length ≤ 65536) : (Cl.vals c l).length ≤ 4800000 := by
  unfold Cl.vals
  by_cases hk : c.k = 1
  · rw [if_pos hk]
    have h1 := Ig.bk_least (Cl.nums l) 3 0 (by omega)
    have h2 := Ig.len_flat (Cl.nums l)
    have h3 := Ty.encU_len9 (Cl.nums l).length
    have h4 := Cl.nums_len l
    have e : (Ig.enc 0 (Cl.nums l)).length = 1 + ((Ty.encU (Cl.nums l).length).length + ((Cl.nums l).flatMap Ig.encI).length) := by
      unfold Ig.enc Ig.body
      rw [if_pos rfl, List.length_cons, List.length_append]
      omega
    omega
  · rw [if_neg hk]
    have hf := Tx.fit_yes (Cl.words_fit hk h hl)
    have h2 := Tx.len_flat (Cl.words l) hf.2
    have h3 := Ty.encU_len9 (Cl.words l).length
    have h4 := hf.1
    have e : (Tx.enc 0 (Cl.words l)).length = 1 + ((Ty.encU (Cl.words l).length).length + ((Cl.words l).flatMap Tx.encT).length) := by
      unfold Tx.enc Tx.body
      rw [if_pos rfl, List.length_cons, List.length_append]
      omega
    unfold Tx.bestK
    split <;> omega
def Cl.wS (c : Kn.C) (l : List Kn.V) : List UInt8 := if Cl.wE c l = 0 then Cl.enc c l else []
/-- What Write returns. -/
def Cl.wV (c : Kn.C) (l : List Kn.V) : Value := .tuple #[.string (Ty.S (Cl.wS c l)), .int .i64 ((Cl.wE c l : Nat) : Int)]
theorem Cl.wV_bad {c : Kn.C} {l : List Kn.V} {q : Nat} (h : Cl.wE c l = q) (hq : q ≠ 0) : Cl.wV c l = .tuple #[.string (Ty.S []), .int .i64 (q : Int)] := by
  unfold Cl.wV Cl.wS
  rw [h, if_neg hq]
theorem Cl.wV_ok {c : Kn.C} {l : List Kn.V} (h : Cl.wE c l = 0) : Cl.wV c l = .tuple #[.string (Ty.S (Cl.enc c l)), .int .i64 0] := by
  unfold Cl.wV Cl.wS
  rw [h, if_pos rfl]
  rfl
theorem Cl.nulls_at {l : List Kn.V} {k : Nat} {x : Kn.V} (h : l[k]? = some x) : Cl.nulls l k = x.null := by
  unfold Cl.nulls
  rw [List.getD, h]
  rfl
theorem Cl.wE_6 {c : Kn.C} {l : List Kn.V} {k : Nat} {x : Kn.V} (hg : c.good = true) (hl : l.length ≤ 65536) (h : l[k]? = some x) (hx : Cl.is c x = false) : Cl.wE c l = 6 := by
  have : l.all (Cl.is c) = false := by
    rw [Bool.eq_false_iff]
    intro ha
    have := List.all_eq_true.1 ha x (List.mem_of_getElem? h)
    rw [hx] at this
    cases this
  unfold Cl.wE
  rw [if_pos hg, if_neg (by omega), this, if_neg (by decide)]
theorem Cl.all_of {c : Kn.C} {l : List Kn.V} (h : ∀ (i : Nat) (x : Kn.V), l[i]? = some x → Cl.is c x = true) : l.all (Cl.is c) = true :=
  List.all_eq_true.2 fun x hx => by
    obtain ⟨i, hi⟩ := List.getElem?_of_mem hx
    exact h i x hi
set_option maxHeartbeats 2000000 in
set_option maxRecDepth 100000 in
/-- WRITE, as the document has it. -/
theorem Cl.rwrite_c (c : Kn.C) (u : Value) (l : List Kn.V) (w : World) (hu : Kn.Vals w u l) (hi : ∀ v ∈ l, Ty.I64 v.n) :
    Calls Tryz.prog 11 #[c.val, u] w fun e w' => e = .returned (Cl.wV c l) ∧ Below w.heap.size w w' := by
  have hgw := Kn.good_ways c
  have HE4 : Hid (c.good = false → Cl.wE c l = 4) := Lib.hid fun h => by unfold Cl.wE; rw [if_neg (by rw [h]; decide)]
  have HE3 : Hid (c.good = true → 65536 < l.length → Cl.wE c l = 3) := Lib.hid fun h h2 => by unfold Cl.wE; rw [if_pos h, if_pos h2]
  have HE6 : Hid (c.good = true → l.length ≤ 65536 → ∀ (k : Nat) (x : Kn.V), l[k]? = some x → Cl.is c x = false → Cl.wE c l = 6) := Lib.hid fun h h2 k x h3 h4 => Cl.wE_6 h h2 h3 h4
  have HE0 : Hid (c.good = true → l.length ≤ 65536 → l.all (Cl.is c) = true → Cl.wE c l = 0) := Lib.hid fun h h2 h3 => by unfold Cl.wE; rw [if_pos h, if_neg (by omega), if_pos h3]
  have CI := Lib.hid fun (x : Kn.V) wz => Cl.ris_c c x wz
  have CV := Lib.hid fun wz (h : Kn.Vals wz u l) hl ha => Cl.rvalues_c c u l wz h hl ha hi
  have CL := Lib.hid fun (ha : l.all (Cl.is c) = true) (hl : l.length ≤ 65536) => Cl.vals_len ha hl
  obtain ⟨V, hV⟩ : ∃ V, V = Cl.wV c l := ⟨_, rfl⟩
  rw [← hV]
  have HV := Lib.hid hV
  have HU := Lib.hid hu
  clear hV hi hu
  obtain ⟨a, cp, rfl, h⟩ := HU.out.is
  have HH := Lib.hid h
  clear h
  have hsz : (w.alloc (.cells #[.int .i64 c.k, .bool c.null] 24)).heap.size = w.heap.size + 1 := World.size_alloc ..
  have HB0 : Hid (Below w.heap.size w (w.alloc (.cells #[.int .i64 c.k, .bool c.null] 24))) := Lib.hid ((Below.refl _ _).alloc (Nat.le_refl _) _)
  have HX0 := Lib.hid (Kn.cell_new w #[.int .i64 c.k, .bool c.null] 24 0 _ rfl)
  have HX1 := Lib.hid (Kn.cell_new w #[.int .i64 c.k, .bool c.null] 24 1 _ rfl)
  rcases hgw with ⟨hg, k1⟩ | ⟨hg, k1, k2⟩ | ⟨hg, k1, k2⟩
  rotate_left 2
  · have HE := Lib.hid (HV.out.trans (Cl.wV_bad (HE4.out hg) (by decide)))
    unfold Kn.C.val
    go_enter Tryz.func11, Tryz.ntmps11
    go_wp2
    go_ret2
    exact ⟨by rw [HE.out]; rfl, HB0.out⟩
  all_goals
    by_cases hln : 65536 < l.length
    · have HE := Lib.hid (HV.out.trans (Cl.wV_bad (HE3.out hg hln) (by decide)))
      have hlni : (65536 : Int) < (l.length : Int) := by omega
      unfold Kn.C.val
      clear hln
      go_enter Tryz.func11, Tryz.ntmps11
      go_wp2
      go_ret2
      exact ⟨by rw [HE.out]; rfl, HB0.out⟩
    · have hlni : ¬ (65536 : Int) < (l.length : Int) := by omega
      have hl65 : l.length ≤ 65536 := by omega
      have HE6' := Lib.hid (HE6.out hg hl65)
      have HE0' := Lib.hid (HE0.out hg hl65)
      have hwk : IntKind.u64.wrap (l.length : Int) = (l.length : Int) := by rw [IntKind.wrap_u64]; omega
      have HWK := Lib.hid hwk
      unfold Kn.C.val
      clear hln hwk
      go_enter Tryz.func11, Tryz.ntmps11
      go_wp2_with fail
      generalize hwo : w.alloc _ = wo at hsz HX0 HX1 HB0
      clear hwo
      go_wp2_with fail
      go_loopw [6, 7] (fun nv i wr => ∃ k : Nat, k ≤ l.length ∧ i = .int .i64 k ∧ Bt.Buf 4 wo.heap.size wr nv k (Bt.bv (Cl.nulls l)) ∧ Below wo.heap.size wo wr ∧ ∀ j x, j < k → l[j]? = some x → Cl.is c x = true) (fun _ i _ => l.length - (intOf i).toNat)
      case atStart => exact ⟨0, by omega, rfl, Bt.Buf.nil _ _ _ _, Below.refl _ _, fun j x hj => by omega⟩
      case round =>
        obtain ⟨k, hkl, rfl, hO, hb, hall⟩ := hrel
        have HB := Lib.hid hb
        have HO := Lib.hid hO
        have HALL := Lib.hid hall
        have hws := hb.size
        have hx0 := (hb.cell (p := ⟨w.heap.size, 0, none⟩) (by simp [hsz])).trans HX0.out
        have hx1 := (hb.cell (p := ⟨w.heap.size, 1, none⟩) (by simp [hsz])).trans HX1.out
        simp only [List.getElem_toArray, List.getElem_cons_zero, List.getElem_cons_succ] at hx0 hx1
        clear hO hb hall
        have E0 := fun d os => cell_regrown hx0 d os
        have E1 := fun d os => cell_regrown hx1 d os
        by_cases hlt : k < l.length
        · rcases HH.out with h | ⟨b, o, rfl, hbl, hm, h⟩
          · exact absurd hlt (by rw [h]; simp)
          · obtain ⟨x, hx⟩ : ∃ x, l[k]? = some x := ⟨_, List.getElem?_eq_getElem hlt⟩
            have hA := ((h k x hx).later HB0.out).later HB.out
            have HA := Lib.hid hA
            have HX := Lib.hid hx
            obtain ⟨a0, a1, a2⟩ := hA
            have dk : (k : Int) < (l.length : Int) := by omega
            have dk0 : (0 : Int) ≤ (k : Int) := by omega
            have E2 := fun d os => cell_regrown a0 d os
            have E3 := fun d os => cell_regrown a1 d os
            have E4 := fun d os => cell_regrown a2 d os
            have CIS : Hid (∀ p : Regrown, Calls Tryz.prog 22 #[.agg #[.int .i64 c.k, .bool c.null], .agg #[.bool x.null, .int .i64 x.n, .string x.s]] (Sort.grow (redrawn wr p.d) p.os) fun e w'' => e = .returned (.bool (Cl.is c x)) ∧ ∃ p : Regrown, w'' = Sort.grow (redrawn wr p.d) p.os) := Lib.hid fun p => Calls.regrown_of (CI.out x _)
            clear h hx
            cases hB : Cl.is c x
            · have HE := Lib.hid (HV.out.trans (Cl.wV_bad (HE6'.out k x HX.out hB) (by decide)))
              rw [hB] at CIS
              clear hB
              go_wp2_with fail
              refine wp_region_quiet_below (by kernel_rfl) (by kernel_rfl) ?_
              repeat (go_big_quiet_step (first | with_reducible exact CIS.out _))
              refine wpQuiet_nil ?_
              intro wq hw'
              have HBQ := Lib.hid (HB0.out.trans ((HB.out.trans ((Ig.below_reg hw').mono hws)).mono HB0.out.size))
              clear hw'
              go_wp2
              go_ret2
              exact ⟨by rw [HE.out]; rfl, HBQ.out⟩
            · have HIS := Lib.hid hB
              rw [hB] at CIS
              clear hB
              go_wp2_with fail
              refine wp_region_quiet_below (by kernel_rfl) (by kernel_rfl) ?_
              repeat (go_big_quiet_step (first | with_reducible exact CIS.out _))
              refine wpQuiet_nil ?_
              intro wq hw'
              have hbq := Ig.below_reg hw'
              have hOq := HO.out.kept hbq
              have hsq := hbq.size
              obtain ⟨q0, q1, q2⟩ := HA.out.later hbq
              have HBQ := Lib.hid (HB.out.trans (hbq.mono hws))
              clear hw' hbq E0 E1 E2 E3 E4 a0 a1 a2 q1 q2 hx0 hx1
              go_wp2_with (at_builtin; refine Bt.wpList_append_one 4 44 (.bool false) 1 Tryz.underlying44 Bt.infoB rfl hOq (by omega) (by omega) (by omega) (.tmp 32) (.tmp 38) _ rfl rfl rfl rfl rfl ?_; intro v5 w5 h5 g5)
              have H5 := Lib.hid (h5 (by unfold Bt.bv; rw [Cl.nulls_at HX.out]))
              have HB5 := Lib.hid (Cl.grew_below HBQ.out hOq g5)
              clear h5 g5 hOq
              go_roundw
              case rel => exact ⟨k + 1, by omega, by simp, H5.out, HB5.out, fun j y hj hy => by
                by_cases e : j = k
                · subst e
                  rw [HX.out] at hy
                  obtain rfl := Option.some.inj hy
                  exact HIS.out
                · exact HALL.out j y (by omega) hy⟩
              case measure => simp [intOf]; omega
        · obtain rfl : k = l.length := by omega
          have dk : ¬ (l.length : Int) < (l.length : Int) := by omega
          have hall : l.all (Cl.is c) = true := Cl.all_of fun i x hx => HALL.out i x (by
            rcases Nat.lt_or_ge i l.length with h | h
            · exact h
            · rw [List.getElem?_eq_none h] at hx; cases hx) hx
          have HE := Lib.hid (HV.out.trans (Cl.wV_ok (HE0'.out hall)))
          have hvl := CL.out hall hl65
          have hnn := (Bt.need_room l.length).2
          have CVP : ∀ p : Regrown, Calls Tryz.prog 25 #[.agg #[.int .i64 c.k, .bool c.null], .slice a l.length cp] (Sort.grow (redrawn wr p.d) p.os) fun e w'' => e = .returned (.string (Ty.S (Cl.vals c l))) ∧ ∃ p : Regrown, w'' = Sort.grow (redrawn wr p.d) p.os := fun p => Calls.regrown_of (CV.out _ (((HU.out.later HB0.out).later HB.out).later (below_regrown wr p.d p.os)) hl65 hall)
          have CBP : ∀ p : Regrown, Calls Tryz.prog 24 #[u6] (Sort.grow (redrawn wr p.d) p.os) fun e w'' => e = .returned (.string (Bt.bytes (Bt.need l.length) (Bt.tr l.length (Cl.nulls l)))) ∧ ∃ p : Regrown, w'' = Sort.grow (redrawn wr p.d) p.os := fun p => Calls.regrown_of (Bt.rbytes_c u6 l.length (Cl.nulls l) _ (HO.out.kept (below_regrown wr p.d p.os)).sl (by omega))
          have CUP : ∀ p : Regrown, Calls Tryz.prog 23 #[.int .u64 (l.length : Int)] (Sort.grow (redrawn wr p.d) p.os) fun e w'' => e = .returned (.string (Ty.S (Ty.encU l.length))) ∧ ∃ p : Regrown, w'' = Sort.grow (redrawn wr p.d) p.os := fun p => Calls.regrown_of (Ty.ruint_nat l.length _)
          have hen : Cl.enc c l = Ty.encU l.length ++ ((Bt.bytes (Bt.need l.length) (Bt.tr l.length (Cl.nulls l))).data.toList ++ Cl.vals c l) := rfl
          have hA9 : (Ty.S (Ty.encU l.length)).size ≤ 9 := Ty.encU_len9 l.length
          have hB9 : (Bt.bytes (Bt.need l.length) (Bt.tr l.length (Cl.nulls l))).size = Bt.need l.length := Bt.size_bytes _ _
          have hC9 : (Ty.S (Cl.vals c l)).size ≤ 4800000 := hvl
          obtain ⟨A, hA⟩ : ∃ A, A = Ty.S (Ty.encU l.length) := ⟨_, rfl⟩
          obtain ⟨B, hBB⟩ : ∃ B, B = Bt.bytes (Bt.need l.length) (Bt.tr l.length (Cl.nulls l)) := ⟨_, rfl⟩
          obtain ⟨D, hDD⟩ : ∃ D, D = Ty.S (Cl.vals c l) := ⟨_, rfl⟩
          have HABD : Hid (Ty.S (Cl.enc c l) = (A ++ B) ++ D) := Lib.hid (by
            rw [hA, hBB, hDD, hen, ← Ig.S_add, ← Ig.S_add, Ty.S_data, ByteArray.append_assoc])
          rw [← hA] at CUP hA9
          rw [← hBB] at CBP hB9
          rw [← hDD] at CVP hC9
          have n1 : ¬ 9223372036854775807 < A.size + B.size := by omega
          have n2 : ¬ 9223372036854775807 < A.size + B.size + D.size := by omega
          have CUQ := Lib.hid CUP
          rw [← HWK.out] at CUP
          have CUR := Lib.hid CUP
          have CVQ := Lib.hid CVP
          have CBQ := Lib.hid CBP
          clear CVP CBP CUP hen hvl hnn hA hBB hDD hA9 hB9 hC9 hall
          have hwz := HWK.out
          go_wp2_with fail
          refine wp_region_quiet_below (by kernel_rfl) (by kernel_rfl) ?_
          repeat (go_big_quiet_step (first | with_reducible exact CUQ.out _ | with_reducible exact CUR.out _ | with_reducible exact CVQ.out _ | with_reducible exact CBQ.out _))
          refine wpQuiet_nil ?_
          intro wq hw'
          have HBQ := Lib.hid (HB0.out.trans ((HB.out.trans ((Ig.below_reg hw').mono hws)).mono HB0.out.size))
          clear hw'
          go_wp2
          go_ret2
          exact ⟨by rw [HE.out, HABD.out]; rfl, HBQ.out⟩
end Go.Proofs.YtcognkgabdaneaaGreatDoor

namespace Go.Proofs.YtcognkgabdaneaaGreatDoor
open Go.RowKit
open Ty (num)
open Ig (rest)
section
variable {c : Kn.C} {l : List UInt8}
/-- The bytes of the booleans, what lies behind them. -/
def Cl.bb (l : List UInt8) : ByteArray := Ty.S ((rest l).take (Bt.need (num l).1))
def Cl.vb (l : List UInt8) : List UInt8 := (rest l).drop (Bt.need (num l).1)
theorem Cl.rd_k (h : c.good = false) : Cl.rd c l = (4, []) := by unfold Cl.rd; rw [if_pos h]
theorem Cl.rd_n (hg : c.good = true) (h : (num l).2.2 ≠ 0) : Cl.rd c l = ((num l).2.2, []) := by unfold Cl.rd; rw [if_neg (by rw [hg]; decide), if_pos h]
theorem Cl.rd_3 (hg : c.good = true) (h : (num l).2.2 = 0) (h2 : 65536 < (num l).1) : Cl.rd c l = (3, []) := by unfold Cl.rd; rw [if_neg (by rw [hg]; decide), if_neg (by rw [h]; simp), if_pos h2]
theorem Cl.rd_2 (hg : c.good = true) (h : (num l).2.2 = 0) (h2 : ¬ 65536 < (num l).1) (h3 : (rest l).length < Bt.need (num l).1) : Cl.rd c l = (2, []) := by
  unfold Cl.rd; rw [if_neg (by rw [hg]; decide), if_neg (by rw [h]; simp), if_neg h2, if_pos h3]
theorem Cl.rd_c (hg : c.good = true) (h : (num l).2.2 = 0) (h2 : ¬ 65536 < (num l).1) (h3 : ¬ (rest l).length < Bt.need (num l).1) (h4 : Bt.chk (Cl.bb l) (num l).1 ≠ 0) : Cl.rd c l = (Bt.chk (Cl.bb l) (num l).1, []) := by
  unfold Cl.bb at h4 ⊢
  unfold Cl.rd
  rw [if_neg (by rw [hg]; decide), if_neg (by rw [h]; simp), if_neg h2, if_neg h3, if_pos h4]
theorem Cl.rd_6 (hg : c.good = true) (h : (num l).2.2 = 0) (h2 : ¬ 65536 < (num l).1) (h3 : ¬ (rest l).length < Bt.need (num l).1) (h4 : Bt.chk (Cl.bb l) (num l).1 = 0) {k : Nat} (hk : k < (num l).1) (hb : Bt.bit (Cl.bb l) k = true) (hn : c.null = false) : Cl.rd c l = (6, []) := by
  unfold Cl.rd
  rw [if_neg (by rw [hg]; decide), if_neg (by rw [h]; simp), if_neg h2, if_neg h3]
  unfold Cl.bb at h4 hb
  rw [if_neg (by rw [h4]; simp), if_pos]
  rw [hn, Bool.and_eq_true, List.any_eq_true]
  exact ⟨rfl, true, List.mem_map.2 ⟨k, List.mem_range.2 hk, hb⟩, rfl⟩
theorem Cl.rd_v (hg : c.good = true) (h : (num l).2.2 = 0) (h2 : ¬ 65536 < (num l).1) (h3 : ¬ (rest l).length < Bt.need (num l).1) (h4 : Bt.chk (Cl.bb l) (num l).1 = 0) (h5 : ∀ k, k < (num l).1 → Bt.bit (Cl.bb l) k = true → c.null = true) :
    Cl.rd c l = Cl.rdV c (Cl.bits (num l).1 (Cl.bb l)) (Cl.vb l) := by
  have hn : ¬ (!c.null && (Cl.bits (num l).1 (Ty.S ((rest l).take (Bt.need (num l).1)))).any id) = true := by
    intro hx
    rw [Bool.and_eq_true, List.any_eq_true] at hx
    obtain ⟨h1, x, hx, h2⟩ := hx
    obtain ⟨k, hk, rfl⟩ := List.mem_map.1 hx
    have := h5 k (List.mem_range.1 hk) h2
    rw [this] at h1
    cases h1
  unfold Cl.rd Cl.bb Cl.vb
  unfold Cl.bb at h4
  rw [if_neg (by rw [hg]; decide), if_neg (by rw [h]; simp), if_neg h2, if_neg h3, if_neg (by rw [h4]; simp), if_neg hn]
end
section
variable {c : Kn.C} {T : List Bool} {r : List UInt8}
theorem Cl.rdV_e (h : (Cl.back c r).1 ≠ 0) : Cl.rdV c T r = ((Cl.back c r).1, []) := by unfold Cl.rdV; rw [if_pos h]
theorem Cl.rdV_no (h : (Cl.back c r).1 = 0) (hf : Cl.fill T (Cl.back c r).2 = none) : Cl.rdV c T r = (4, []) := by
  unfold Cl.rdV; rw [if_neg (by rw [h]; simp), hf]
theorem Cl.rdV_4 (h : (Cl.back c r).1 = 0) {out : List Kn.V} (hf : Cl.fill T (Cl.back c r).2 = some out) (hv : Cl.vals c out ≠ r) : Cl.rdV c T r = (4, []) := by
  unfold Cl.rdV
  rw [if_neg (by rw [h]; simp), hf]
  simp only
  rw [if_neg hv]
theorem Cl.rdV_ok (h : (Cl.back c r).1 = 0) {out : List Kn.V} (hf : Cl.fill T (Cl.back c r).2 = some out) (hv : Cl.vals c out = r) : Cl.rdV c T r = (0, out) := by
  unfold Cl.rdV
  rw [if_neg (by rw [h]; simp), hf]
  simp only
  rw [if_pos hv]
/-- What is laid out may stand in the column. -/
theorem Cl.fill_all (hg : c.good = true) (h : (Cl.back c r).1 = 0) {out : List Kn.V} (hf : Cl.fill T (Cl.back c r).2 = some out) (ht : true ∈ T → c.null = true) : out.all (Cl.is c) = true ∧ (∀ v ∈ out, Ty.I64 v.n) ∧ out.length = T.length := by
  have hb := Cl.back_is hg h
  obtain ⟨f1, f2⟩ := Cl.fill_only _ _ _ (fun v hv => (hb v hv).1) hf
  have hall : ∀ v ∈ out, Cl.is c v = true ∧ Ty.I64 v.n := fun v hv => by
    cases hn : v.null
    · have hm : v ∈ Cl.live out := List.mem_filter.2 ⟨hv, by rw [hn]; rfl⟩
      rw [f2] at hm
      exact (hb v hm).2
    · have hv0 := Cl.fill_nul _ _ _ (fun v hv => (hb v hv).1) hf v hv hn
      have hm : true ∈ T := by
        rw [← f1]
        exact List.mem_map.2 ⟨v, hv, hn⟩
      rw [hv0]
      exact ⟨Cl.is_nul (ht hm), ⟨by show _ ≤ (0 : Int); omega, by show (0 : Int) ≤ _; omega⟩⟩
  refine ⟨List.all_eq_true.2 fun v hv => (hall v hv).1, fun v hv => (hall v hv).2, ?_⟩
  have := congrArg List.length f1
  simpa using this
end
/-- So far: the first k are laid out, j values are used. -/
def Cl.MidF (T : List Bool) (M : List Kn.V) (k j : Nat) (O : List Kn.V) : Prop := O.length = k ∧ k ≤ T.length ∧ j ≤ M.length ∧ Cl.fill T M = (Cl.fill (T.drop k) (M.drop j)).map (O ++ ·)
theorem Cl.MidF.start (T : List Bool) (M : List Kn.V) : Cl.MidF T M 0 0 [] := ⟨rfl, by omega, by omega, by simp⟩
theorem Cl.MidF.null {T : List Bool} {M : List Kn.V} {k j : Nat} {O : List Kn.V} (h : Cl.MidF T M k j O) (hk : T[k]? = some true) : Cl.MidF T M (k + 1) j (O ++ [Cl.nul]) := by
  obtain ⟨h1, h2, h3, h4⟩ := h
  obtain ⟨hlt, he⟩ := List.getElem?_eq_some_iff.1 hk
  refine ⟨by simp [h1], by omega, h3, ?_⟩
  rw [h4, List.drop_eq_getElem_cons hlt, he]
  simp only [Cl.fill, Option.map_map]
  congr 1
  funext x
  simp
theorem Cl.MidF.fail {T : List Bool} {M : List Kn.V} {k j : Nat} {O : List Kn.V} (h : Cl.MidF T M k j O) (hk : T[k]? = some false) (hj : M.length ≤ j) : Cl.fill T M = none := by
  obtain ⟨h1, h2, h3, h4⟩ := h
  obtain ⟨hlt, he⟩ := List.getElem?_eq_some_iff.1 hk
  rw [h4, List.drop_eq_getElem_cons hlt, he, List.drop_eq_nil_of_le hj]
  simp [Cl.fill]
theorem Cl.MidF.live {T : List Bool} {M : List Kn.V} {k j : Nat} {O : List Kn.V} (h : Cl.MidF T M k j O) (hk : T[k]? = some false) {x : Kn.V} (hx : M[j]? = some x) : Cl.MidF T M (k + 1) (j + 1) (O ++ [x]) := by
  obtain ⟨h1, h2, h3, h4⟩ := h
  obtain ⟨hlt, he⟩ := List.getElem?_eq_some_iff.1 hk
  obtain ⟨hl2, he2⟩ := List.getElem?_eq_some_iff.1 hx
  refine ⟨by simp [h1], by omega, by omega, ?_⟩
  rw [h4, List.drop_eq_getElem_cons hlt, he, List.drop_eq_getElem_cons hl2, he2]
  simp only [Cl.fill, Option.map_map]
  congr 1
  funext x
  simp
theorem Cl.MidF.left {T : List Bool} {M : List Kn.V} {k j : Nat} {O : List Kn.V} (h : Cl.MidF T M k j O) (hk : k = T.length) (hj : j ≠ M.length) : Cl.fill T M = none := by
  obtain ⟨h1, h2, h3, h4⟩ := h
  have e := List.drop_eq_getElem_cons (show j < M.length by omega)
  rw [h4, hk, List.drop_length, e]
  simp [Cl.fill]
theorem Cl.MidF.done {T : List Bool} {M : List Kn.V} {k j : Nat} {O : List Kn.V} (h : Cl.MidF T M k j O) (hk : k = T.length) (hj : j = M.length) : Cl.fill T M = some O := by
  obtain ⟨h1, h2, h3, h4⟩ := h
  rw [h4, hk, hj, List.drop_length, List.drop_length]
  simp [Cl.fill]
theorem Cl.bits_len (n : Nat) (s : ByteArray) : (Cl.bits n s).length = n := by unfold Cl.bits; simp
theorem Cl.bits_get {n k : Nat} (s : ByteArray) (h : k < n) : (Cl.bits n s)[k]? = some (Bt.bit s k) := by
  unfold Cl.bits
  rw [List.getElem?_map, List.getElem?_range h]
  rfl
/-- What Read leaves. -/
def Cl.Got (w : World) (r : Nat × List Kn.V) (e : Ending) (w' : World) : Prop :=
  ∃ v, e = .returned (.tuple #[v, .int .i64 ((r.1 : Nat) : Int)]) ∧ Kn.Vals w' v r.2 ∧ Below w.heap.size w w'
theorem Cl.Got.bad {w w' : World} {r : Nat × List Kn.V} {z : Int} {q : Nat} (hr : r = (q, [])) (hz : z = (q : Int)) (g : Below w.heap.size w w') : Cl.Got w r (.returned (.tuple #[.slice none 0 0, .int .i64 z])) w' :=
  ⟨_, by rw [hr, hz], by rw [hr]; exact ⟨_, 0, rfl, .inl rfl⟩, g⟩
theorem Cl.Got.good {w w' : World} {r : Nat × List Kn.V} {v : Value} {L : List Kn.V} (hr : r = (0, L)) (h : Kn.Vals w' v L) (g : Below w.heap.size w w') : Cl.Got w r (.returned (.tuple #[v, .int .i64 0])) w' :=
  ⟨v, by rw [hr]; rfl, by rw [hr]; exact h, g⟩
end Go.Proofs.YtcognkgabdaneaaGreatDoor
