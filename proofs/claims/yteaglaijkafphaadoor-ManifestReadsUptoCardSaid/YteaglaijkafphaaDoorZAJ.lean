import Derived.Test.YteaglaijkafphaaDoorZAI
import Derived.Deep.RegionHeld3
import Derived.Deep.OwnRows
import Derived.Test.YteaglaijkafphaaDoorRows
import Derived.Test.YteaglaijkafphaaDoorLay
import Derived.WalkKit
import Derived.WalkSpells
import Derived.WalkLawsBesides
import Derived.Test.YteaglaijkafphaaDoorZAF
import Derived.Test.YteaglaijkafphaaDoorZAH
namespace Go.Proofs.YteaglaijkafphaaDoor
section
open Go.RowKit Go.Maps
def Mf.mkV (z : Option Addr × Nat × Nat) : Value := .slice z.1 z.2.1 z.2.2
theorem Mf.mkV_inv (v : Value) (y : DataW Value × List MemPlace) (h : Mf.slR v = some y) : ∃ c, v = Mf.mkV c := by
 unfold Mf.slR at h
 split at h
 ·rename_i a n c
  exact ⟨(a, n, c), rfl⟩
 ·cases h
theorem Mf.keyInv (key : Value) (kl : Lit) (h : keyOf Tryd.prog 3 key = some kl) : ∃ x, key = Value.int .i64 x := by
 obtain ⟨x, hx, _⟩ := Maps.keyOf_int_inv Tryd.underlying3 h
 exact ⟨x, hx⟩
theorem Mf.filter_or {K : List (Nat × Mf.P)} {p q : Nat × Mf.P → Bool} (h : ∀ x, p x = true → q x = false) : (K.filter fun x => p x || q x).Perm (K.filter p ++ K.filter q) := by
 induction K with
 | nil => exact .refl _
 | cons x K ih =>
   rw [List.filter_cons, List.filter_cons, List.filter_cons]
   cases hp : p x
   ·cases hq : q x
    ·simpa [hp, hq] using ih
    ·simp only [Bool.false_or, if_true, Bool.false_eq_true, if_false]
     exact (ih.cons x).trans (List.perm_middle.symm)
   ·rw [h x hp]
    simp only [Bool.true_or, if_true, Bool.false_eq_true, if_false]
    exact ih.cons x
def Mf.met (K : List (Nat × Mf.P)) (left : Lit → Bool) : List (Nat × Mf.P) := K.filter fun e => !left (.int .i64 e.2.id)
theorem Mf.met_step {K L : List (Nat × Mf.P)} {left : Lit → Bool} {x : Int} (h : L.Perm (Mf.met K left)) (hx : left (.int .i64 x) = true) : (L ++ Mf.of K x).Perm (Mf.met K fun z => left z && !z.sameKey (.int .i64 x)) := by
 refine (h.append_right _).trans ?_
 unfold Mf.met Mf.of
 have e : ∀ y : Nat × Mf.P, (!(left (.int .i64 y.2.id) && !(Lit.int .i64 y.2.id).sameKey (.int .i64 x))) = ((!left (.int .i64 y.2.id)) || (y.2.id == x)) := fun y => by
  by_cases hy : y.2.id = x
  ·have : (Lit.int .i64 y.2.id).sameKey (.int .i64 x) = true := by rw [hy]; simp [Lit.sameKey]
   rw [this]
   simp [hy]
  ·have : (Lit.int .i64 y.2.id).sameKey (.int .i64 x) = false := Maps.sameKey_ne (Mf.key_ne hy)
   simp [this, hy]
 simp only [e]
 exact (Mf.filter_or fun y hy => by
  cases hb : (y.2.id == x)
  ·rfl
  ·have : y.2.id = x := by simpa using hb
   rw [this, hx] at hy
   cases hy).symm
theorem Mf.met_none (K : List (Nat × Mf.P)) {left : Lit → Bool} (h : ∀ kl, left kl = false) : Mf.met K left = K := by
 unfold Mf.met
 exact List.filter_eq_self.2 fun y _ => by rw [h]; rfl
theorem Mf.met_start {K : List (Nat × Mf.P)} {D : DataW Value} {m : Int → Option Value} (hr : Mf.Rds D m) (hm : ∀ x, m x = none → Mf.of K x = []) : Mf.met K (Maps.has D) = [] := by
 unfold Mf.met
 refine List.filter_eq_nil_iff.2 fun y hy => ?_
 rw [hr.has]
 cases hx : m y.2.id with
 | some v => simp
 | none =>
   have h0 := hm _ hx
   unfold Mf.of at h0
   rw [List.filter_eq_nil_iff] at h0
   exact absurd (h0 y hy) (by simp)
theorem Mf.met_len (K : List (Nat × Mf.P)) (left : Lit → Bool) : (Mf.met K left).length ≤ K.length := List.length_filter_le _ _
theorem Mf.Op.src {base : Nat} {w : World} {v : Value} {L : List (Nat × Mf.P)} (h : Mf.Op base w v L) : Dk.Src Mf.lc w v L := by
 rcases Dk.Own.form h with ⟨rfl, rfl⟩ | ⟨g, c, rfl, _, _, _, _⟩
 ·exact .inl ⟨rfl, rfl⟩
 ·refine .inr ⟨_, c, rfl, Dk.src_cells Mf.lc_len (by decide) fun i j x hi hj => ?_⟩
  rw [Nat.zero_add]
  exact Dk.Own.cell Mf.lc_len h rfl hi hj
theorem Mf.wpList_op {base : Nat} {w0 : World} {v : Value} {M : List (Nat × Mf.P)} (K : List (Nat × Mf.P)) (hown : Mf.Op base w0 v M) (hb : base ≤ w0.heap.size) (hl : M.length + K.length ≤ 1500000000000) {u : Value} (hu : Dk.Src Mf.lc w0 u K)
 {ops : Array Oper} {rest : List Oper} {o : Oper} {a : Act} {Q : Exit → Act → World → Prop} (s x : Operand) (hgd : Region.wanted o (yielded ops a.tmps) = true)
 (ho : o.op = .call { callee := .builtin .append, args := #[s, x], argTypes := #[72, 72] })
 (hs : a.eval s = v) (hx : a.eval x = u)
 (h : ∀ v' w', Mf.Op base w' v' (M ++ K) → Ty.Grew w0 w' v v' → wpList Tryd.prog ops Q rest (a.put o.dst v') w') :
 wpList Tryd.prog ops Q (o :: rest) a w0 :=
 Dk.wpList_append 72 _ 88 Tryd.underlying72 Mf.infoL rfl (by decide) Mf.lc_len Mf.lc_one K hown hb (by omega) (by omega) hu s x hgd ho hs hx h
theorem Mf.results_cell {fn : Func} {p : Tmp} {ty : TypeId} (h : fn.results = #[.cell p ty]) (tmps : Array Value) (P : Program) (w : World) :
 (results fn tmps).run P w = ((asAddr (tmps.getD p undef)).run P w).andThen fun a w1 => (loadVar ty a).run P w1 := by
 simp only [results, h]
 simp [Sem.run_bind, Result.andThen]
theorem Mf.Ps.form3 {w : World} {v : Value} {L : List Mf.P} (h : Mf.Ps w v L) : ∃ a n c, v = .slice a n c := by
 obtain ⟨a, c, rfl, -⟩ := h
 exact ⟨_, _, _, rfl⟩
set_option maxHeartbeats 8000000 in
set_option maxRecDepth 100000 in
theorem Mf.state_c {B : Nat} {w : World} {q : Nat} {K : List (Nat × Mf.P)} {pl : Nat} {f n : Int} (h : Mf.Bk B w q K pl f n) (hpl : pl ≤ 1000000000000) :
 Calls Tryd.prog 16 #[.pointer (some ⟨q, 0, none⟩)] w fun e w' => ∃ u, e = .returned (Mf.sv u ⟨K.map (·.2), f, n⟩) ∧ Mf.Ow w.heap.size w' u (K.map (·.2)) ∧ Below w.heap.size w w' := by
 obtain ⟨b, m, h⟩ := h
 have HB0 := Lib.hid h
 have hlen := Nat.le_trans (Mf.lt_len h.asc h.lt) hpl
 obtain ⟨D, hown, hr⟩ := h.map
 have HR := Lib.hid hr
 have HM0 := Lib.hid (Mf.met_start hr h.none_)
 have hA : Below w.heap.size w (w.alloc (.cells #[.slice none 0 0, .int .i64 0, .int .i64 0] 25)) := (Below.refl _ _).alloc (Nat.le_refl _) _
 have hsz : (w.alloc (.cells #[.slice none 0 0, .int .i64 0, .int .i64 0] 25)).heap.size = w.heap.size + 1 := World.size_alloc ..
 have hyr := heap_alloc_new w (.cells #[.slice none 0 0, .int .i64 0, .int .i64 0] 25)
 have hown1 := hown.alloc (.cells #[.slice none 0 0, .int .i64 0, .int .i64 0] 25)
 obtain ⟨⟨c0, -⟩, -⟩ := (h.kept hA).four
 have HLN := Lib.hid hlen
 have HQ : Hid (q < w.heap.size ∧ b < w.heap.size) := Lib.hid ⟨lt_of_block h.box, h.map.lt⟩
 have HA := Lib.hid hA
 have HYR := Lib.hid hyr
 have HSZ := Lib.hid hsz
 clear h hpl hlen hown hr hA hyr
 go_enter Tryd.func16, Tryd.ntmps16
 go_wp2_with (first
  | (at_range; refine wpList_range_own _ rfl _ 60 rfl 3 72 Mf.keyed Tryd.underlying60 _ b pl _ rfl hown1 ?_; intro w0 hrg0 hg0 hs0)
  | go_in)
 generalize hwo : w.alloc _ = w1 at HA HYR HSZ hsz hown1 c0 hrg0 hg0 hs0 ⊢
 clear hwo hown1 c0
 rw [hsz] at hrg0 hs0
 rw [hsz]
 go_frame
 have HW0 : Hid (Below w.heap.size w w0) := Lib.hid (HA.out.grown hg0 HA.out.size (fun j hj => by simp at hj))
 have HY0 : Hid (w0.heap[w.heap.size]? = some (.cells #[.slice none 0 0, .int .i64 0, .int .i64 0] 25 (0, 0))) := Lib.hid ((hg0.block w.heap.size (by have := HSZ.out; omega) (by simp)).trans HYR.out)
 go_loopw [3] (fun v wr => ∃ (left : Lit → Bool) (cnt : Nat) (L1 : List (Nat × Mf.P)), wr.ranges Tryd.prog 3 Mf.slR b (w.heap.size + 1) pl D left cnt ∧ Mf.Op (w.heap.size + 2) wr v L1 ∧ L1.Perm (Mf.met K left) ∧ Below w.heap.size w wr ∧ wr.heap[w.heap.size]? = some (.cells #[.slice none 0 0, .int .i64 0, .int .i64 0] 25 (0, 0)) ∧ w.heap.size + 2 ≤ wr.heap.size) (fun _ wr => wr.rangeLeft b (w.heap.size + 1))
 case atStart => exact ⟨_, _, [], hrg0, Mf.Op.nil _ _, by rw [HM0.out], HW0.out, HY0.out, by omega⟩
 case round =>
  obtain ⟨left, cnt, L1, hrg, hO, hP, hB, hY, hS⟩ := hrel
  have HO := Lib.hid hO
  have HP := Lib.hid hP
  have HB := Lib.hid hB
  have HY := Lib.hid hY
  have HS := Lib.hid hS
  clear hO hP hB hY hS hrg0 hg0 hs0
  go_wp2_with (first
   | (at_next; refine wpList_next_ranges _ rfl _ rfl 3 Mf.keyed Mf.slR (Value.int .i64) Mf.mkV Mf.keyInv Mf.mkV_inv b (w.heap.size + 1) pl _ _ _ rfl hrg ?_ ?_)
   | go_in)
  ·intro hc0 hl0
   have HPK : Hid (L1.Perm K) := Lib.hid (by have := HP.out; rwa [Mf.met_none K hl0] at this)
   clear hc0 hl0 hrg
   have hsort := Mf.sort_c HO.out HPK.out HB0.out.asc (by rw [HPK.out.length_eq]; exact HLN.out)
   go_wp2_with fail
   with_reducible refine hsort.mono ?_
   rintro e w3 ⟨rfl, hSD⟩
   have hown := fun j hj => World.ownsRow.lt HO.out j hj
   have hB3 : Below w.heap.size w w3 := HB.out.trans ((hSD.below HS.out (fun j hj => (hown j hj).1)).mono (Nat.le_add_right _ 2))
   have hbm3 := HB0.out.kept hB3
   obtain ⟨⟨-, -, c2, c3⟩, -⟩ := hbm3.four
   have HO3 := Lib.hid hSD.row
   have HB3 := Lib.hid hB3
   have HY3 : Hid (w3.heap[w.heap.size]? = some (.cells #[.slice none 0 0, .int .i64 0, .int .i64 0] 25 (0, 0))) := Lib.hid ((hSD.block w.heap.size (by have := HS.out; omega) (fun e => by have := (hown _ e.symm).1; omega)).trans HY.out)
   have HS3 : Hid (w.heap.size + 2 ≤ w3.heap.size) := Lib.hid (Nat.le_trans HS.out hSD.size)
   have hAz : Below w3.heap.size w3 (w3.alloc (.cells #[.slice none 0 0, .int .i64 0, .int .i64 0] 25)) := (Below.refl _ _).alloc (Nat.le_refl _) _
   obtain ⟨⟨-, -, d2, d3⟩, -⟩ := (hbm3.kept hAz).four
   obtain ⟨⟨n0, n1, n2⟩, z0, z1, z2⟩ := Mf.three (heap_alloc_new w3 (.cells #[.slice none 0 0, .int .i64 0, .int .i64 0] 25))
   clear hSD hown hB3 hbm3 hsort hAz
   go_wp2_with fail
   go_region
   obtain ⟨a9, c9, rfl⟩ := HO3.out.form
   have hA4 : Below w3.heap.size w3 (w3.alloc (.cells #[.slice none 0 0, .int .i64 f, .int .i64 n] 25)).drew := (Kn.below_drewN ((Below.refl _ _).alloc (Nat.le_refl _) _) 1)
   have hs4 : (w3.alloc (.cells #[.slice none 0 0, .int .i64 f, .int .i64 n] 25)).drew.heap.size = w3.heap.size + 1 := World.size_alloc ..
   have hsb : (w3.alloc (.cells #[.slice none 0 0, .int .i64 f, .int .i64 n] 25)).drew.heap[w3.heap.size]? = some (.cells #[.slice none 0 0, .int .i64 f, .int .i64 n] 25 (0, 0)) := heap_alloc_new w3 _
   obtain ⟨sb, hsbq⟩ : ∃ sb, sb = w3.heap.size := ⟨_, rfl⟩
   have HO4 := Lib.hid (HO3.out.kept hA4)
   have HB4 := Lib.hid (HB3.out.trans (hA4.mono HB3.out.size))
   have HY4 := Lib.hid ((hA4.block w.heap.size (by have := HS3.out; omega)).trans HY3.out)
   have HSB := Lib.hid hsb
   have HS4 := Lib.hid hs4
   have hln9 : (K.length : Int) ≤ 1000000000000 := by have := HLN.out; omega
   generalize (w3.alloc (.cells #[.slice none 0 0, .int .i64 f, .int .i64 n] 25)).drew = w4 at HO4 HB4 HY4 HSB HS4 ⊢
   rw [← hsbq] at HSB HS4 ⊢
   have HWS : Hid (w.heap.size + 2 ≤ sb) := Lib.hid (by have := HS3.out; omega)
   have HVG : Hid (∀ j, (Value.slice a9 K.length c9).ownBlock = some j → j < sb) := Lib.hid fun j hj => by rw [hsbq]; exact (World.ownsRow.lt HO3.out j hj).2
   clear hA4 hs4 hsb hsbq c2 c3 d2 d3 n0 n1 n2 z0 z1 z2 HO3 HB3 HY3 HS3 HO HP HB HY HS HPK
   go_wp2_with fail
   go_loopw [34] (fun i wr => ∃ (k : Nat) (u : Value), k ≤ K.length ∧ i = .int .i64 k ∧ wr.heap[sb]? = some (.cells #[u, .int .i64 f, .int .i64 n] 25 (0, 0)) ∧ Mf.Ow (sb + 1) wr u ((K.map (·.2)).take k) ∧ Mf.Op (w.heap.size + 2) wr (.slice a9 K.length c9) K ∧ wr.heap[w.heap.size]? = some (.cells #[.slice none 0 0, .int .i64 0, .int .i64 0] 25 (0, 0)) ∧ Below w.heap.size w wr ∧ sb + 1 ≤ wr.heap.size) (fun i _ => K.length - (intOf i).toNat)
   case atStart => exact ⟨0, _, Nat.zero_le _, rfl, HSB.out, Mf.Ow.nil _ _, HO4.out, HY4.out, HB4.out, by have := HS4.out; omega⟩
   case round =>
    obtain ⟨k, u, hk, rfl, hbx, hU, hO, hY, hB, hS⟩ := hrel
    have hk0 : (0 : Int) ≤ (k : Int) := by omega
    have HBX := Lib.hid hbx
    have HU := Lib.hid hU
    have HO := Lib.hid hO
    have HY := Lib.hid hY
    have HB := Lib.hid hB
    have HS := Lib.hid hS
    obtain ⟨au, lu, cu, rfl⟩ := hU.ps.form3
    by_cases hkl : k < K.length
    ·have hx := List.getElem?_eq_getElem hkl
     generalize K[k] = x at hx
     have hKn : K ≠ [] := fun e => by rw [e] at hkl; simp at hkl
     obtain ⟨g, hg1, hg2, hg3⟩ := hO.blk hKn
     obtain rfl : a9 = some ⟨g, 0, none⟩ := by
      rcases Dk.Own.form hO with ⟨_, e0⟩ | ⟨g', c', e, _⟩
      ·exact absurd e0 hKn
      ·simp only [Value.slice.injEq] at e
       obtain ⟨rfl, -, -⟩ := e
       simpa [Value.ownBlock] using hg1
     have cx := fun j (hj : j < 9) => Dk.Own.cell Mf.lc_len hO (g := g) rfl hx hj
     have x0 := cx 0 (by decide)
     have x1 := cx 1 (by decide)
     have x2 := cx 2 (by decide)
     have x3 := cx 3 (by decide)
     have x4 := cx 4 (by decide)
     have x5 := cx 5 (by decide)
     have x6 := cx 6 (by decide)
     have x7 := cx 7 (by decide)
     have x8 := cx 8 (by decide)
     have HTK : Hid ((K.map (·.2)).take (k + 1) = (K.map (·.2)).take k ++ [x.2]) := Lib.hid (by rw [List.take_add_one, List.getElem?_map, hx]; rfl)
     have hki : (k : Int) < (K.length : Int) := by omega
     obtain ⟨p, ⟨id, lv, ⟨an, ai, sa⟩, ⟨bn, bi, sb9⟩⟩⟩ := x
     simp only [Mf.lc, List.getElem?_cons_zero, List.getElem?_cons_succ] at x0 x1 x2 x3 x4 x5 x6 x7 x8
     rw [Nat.add_zero] at x0
     have hAp : Below wr.heap.size wr (wr.alloc (.cells #[.int .i64 (p : Int), .int .i64 id, .int .i64 lv, .bool an, .int .i64 ai, .string sa, .bool bn, .int .i64 bi, .string sb9] 75)) := (Below.refl _ _).alloc (Nat.le_refl _) _
     obtain ⟨⟨s0, s1, s2⟩, -⟩ := Mf.three ((hAp.block sb (by omega)).trans hbx)
     have hszp : (wr.alloc (.cells #[.int .i64 (p : Int), .int .i64 id, .int .i64 lv, .bool an, .int .i64 ai, .string sa, .bool bn, .int .i64 bi, .string sb9] 75)).heap.size = wr.heap.size + 1 := World.size_alloc ..
     have hsrc := Mf.src_cs (Mf.PA.new (wr.alloc (.cells #[.int .i64 (p : Int), .int .i64 id, .int .i64 lv, .bool an, .int .i64 ai, .string sa, .bool bn, .int .i64 bi, .string sb9] 75)) ⟨id, lv, ⟨an, ai, sa⟩, ⟨bn, bi, sb9⟩⟩ 44)
     have hU2 : Mf.Ow (sb + 1) ((wr.alloc (.cells #[.int .i64 (p : Int), .int .i64 id, .int .i64 lv, .bool an, .int .i64 ai, .string sa, .bool bn, .int .i64 bi, .string sb9] 75)).alloc (.cells #[.int .i64 id, .int .i64 lv, .bool an, .int .i64 ai, .string sa, .bool bn, .int .i64 bi, .string sb9] 44)) (.slice au lu cu) ((K.map (·.2)).take k) := World.ownsRow.alloc (World.ownsRow.alloc hU _) _
     have hA2 := hAp.alloc hAp.size (.cells #[.int .i64 id, .int .i64 lv, .bool an, .int .i64 ai, .string sa, .bool bn, .int .i64 bi, .string sb9] 44)
     have hs2 : sb + 1 ≤ ((wr.alloc (.cells #[.int .i64 (p : Int), .int .i64 id, .int .i64 lv, .bool an, .int .i64 ai, .string sa, .bool bn, .int .i64 bi, .string sb9] 75)).alloc (.cells #[.int .i64 id, .int .i64 lv, .bool an, .int .i64 ai, .string sa, .bool bn, .int .i64 bi, .string sb9] 44)).heap.size := Nat.le_trans hS hA2.size
     have hll : ((K.map (·.2)).take k).length + [(⟨id, lv, ⟨an, ai, sa⟩, ⟨bn, bi, sb9⟩⟩ : Mf.P)].length ≤ 1500000000000 := by rw [List.length_take, List.length_map]; simp only [List.length_singleton]; omega
     rw [hszp] at hsrc
     have HU2 := Lib.hid hU2
     have HA2 := Lib.hid hA2
     have HG := Lib.hid (And.intro hg2 hg3)
     clear hx hKn hg1 hg2 hg3 cx hbx hU hO hY hB hS hAp hA2 hszp
     go_wp2_with (at_builtin; refine Mf.wpList_part [⟨id, lv, ⟨an, ai, sa⟩, ⟨bn, bi, sb9⟩⟩] hU2 hs2 hll hsrc (.tmp 39) (.tmp 42) (by rfl) (by rfl) (by rfl) (by rfl) ?_; intro v6 w6 o6 g6; obtain ⟨gv, cv, rfl, -, -⟩ := Dk.Own.form1 o6; have f6 := frozen_of_row w6 sb 0 _ _ ((g6.by_.block sb (by omega) (fun e => by have := (World.ownsRow.lt HU2.out _ e.symm).1; omega)).trans ((HA2.out.block sb (by have := HS.out; omega)).trans HBX.out)); obtain ⟨⟨t0, -⟩, -⟩ := Mf.three ((g6.by_.block sb (by omega) (fun e => by have := (World.ownsRow.lt HU2.out _ e.symm).1; omega)).trans ((HA2.out.block sb (by have := HS.out; omega)).trans HBX.out)); have O6 := Lib.hid o6; have G6 := Lib.hid g6; clear o6 g6)
     have HS2 := Lib.hid hs2
     have HOL : Hid (∀ j, j < wr.heap.size → j < sb + 1 → w6.heap[j]? = wr.heap[j]?) := Lib.hid fun j hj hj2 => (G6.out.by_.block j (by have := HS2.out; omega) (fun e => by have := (World.ownsRow.lt HU2.out _ e.symm).1; omega)).trans (HA2.out.block j hj)
     clear hsrc hU2 hs2 hll
     go_roundw
     case rel => exact ⟨k + 1, _, by omega, by simp, heap_setCell_same w6 sb 0 _ _ _ ((HOL.out sb (by have := HS.out; omega) (by omega)).trans HBX.out),
      by rw [HTK.out]; have o6 := O6.out; rw [show ((K.map (·.2)).take k).length = k from by rw [List.length_take, List.length_map]; omega] at o6; exact Dk.Own.same o6 (fun j hj => Below.heap_setCell _ _ _ _ (by show j ≠ sb; have := (World.ownsRow.lt O6.out j hj).1; omega)),
      HO.out.at_blk (fun j hj => by
       obtain rfl : g = j := by simpa [Value.ownBlock] using hj
       have hgs := HVG.out g rfl
       exact (Below.heap_setCell _ _ _ _ (by show g ≠ sb; omega)).trans (HOL.out g HG.out.2 (by omega))),
      (Below.heap_setCell _ _ _ _ (by show w.heap.size ≠ sb; have := HWS.out; omega)).trans ((HOL.out w.heap.size (by have := HS.out; have := HWS.out; omega) (by have := HWS.out; omega)).trans HY.out),
      Mf.below1 ((HB.out.trans ((HA2.out).mono HB.out.size)).trans (G6.out.below (by have := HS2.out; have := HWS.out; omega) (fun k hk => by have := (World.ownsRow.lt HU2.out k hk).1; have := HWS.out; omega))) (by have := HWS.out; omega) _ _,
      by have := G6.out.by_.size; have := HS2.out; simp only [World.setCell, Array.size_modify]; omega⟩
     case measure => simp [intOf]; omega
    ·obtain rfl : k = K.length := by omega
     have hki : ¬ (K.length : Int) < (K.length : Int) := by omega
     obtain ⟨⟨s0, s1, s2⟩, -⟩ := Mf.three hbx
     obtain ⟨⟨y0, y1, y2⟩, z0, z1, z2⟩ := Mf.three hY
     have hps : Mf.Ow w.heap.size wr (.slice au lu cu) _ := World.ownsRow.mono hU (by have := HWS.out; omega)
     have hmap : (K.map (·.2)).take K.length = K.map (·.2) := List.take_of_length_le (by rw [List.length_map]; exact Nat.le_refl _)
     rw [hmap] at hps
     have HPF := Lib.hid (Mf.at_off hps hY (by decide) (Mf.heap3 wr w.heap.size (.slice au lu cu) (.int .i64 f) (.int .i64 n)))
     have HBF := Lib.hid (Mf.below3 (q := w.heap.size) hB (Nat.le_refl _) (.slice au lu cu) (.int .i64 f) (.int .i64 n))
     clear hk hkl hk0 hbx hU hO hY hB hS hps hmap
     go_wp2
     (try simp only [Exit.inBlock, Exit.then])
     refine bodyPost_ret (v := .agg #[.slice au lu cu, .int .i64 f, .int .i64 n]) ?_ rfl ⟨_, rfl, HPF.out, HBF.out⟩
     rw [Mf.results_cell rfl]
     go_simp
  ·intro x a9 n9 c9 kl yd yp w3 cnt1 hkey hlk hv hat hrg1 hlt hg1 hs1 hen
   obtain ⟨x', ex, rfl, hwf⟩ := Maps.keyOf_int_inv Tryd.underlying3 hkey
   obtain rfl : x = x' := by simpa using ex
   have hmx : m x = some (.slice a9 n9 c9) := by
    have hyd : yd = .held (.slice a9 n9 c9) := by
     simp only [Mf.mkV, Mf.slR, Option.some.injEq, Prod.mk.injEq] at hv
     exact hv.1.symm
    have e := hat .nil
    rw [HR.out x .nil, hyd] at e
    cases hm : m x with
    | none => rw [hm] at e; cases e
    | some u => rw [hm] at e; simp only [DataW.held.injEq] at e; rw [e]
   have hB3 : Below w.heap.size w w3 := HB.out.grown hg1 HB.out.size (fun j hj => by cases hj; exact Nat.le_succ _)
   have hbm3 := HB0.out.kept hB3
   have hsrc := (hbm3.some_ x _ hmx).1.src
   have hlen2 : (L1 ++ Mf.of K x).length ≤ K.length := by
    rw [(Mf.met_step HP.out hlk).length_eq]
    exact Mf.met_len _ _
   have hlen : L1.length + (Mf.of K x).length ≤ 1500000000000 := by
    rw [List.length_append] at hlen2
    have := HLN.out
    omega
   have hbase := fun j hj => World.ownsRow.lt HO.out j hj
   have hO3 := HO.out.at_blk (w' := w3) fun j hj => hg1.block j (hbase j hj).2 (fun e => by have := (hbase j hj).1; have := Option.some.inj e; omega)
   have hbs : w.heap.size + 2 ≤ w3.heap.size := by have := HS.out; omega
   have HRG := Lib.hid hrg1
   have HOLD := Lib.hid hrg
   have HLT := Lib.hid hlt
   have HO3 := Lib.hid hO3
   have HB3 := Lib.hid hB3
   have HY3 : Hid (w3.heap[w.heap.size]? = some (.cells #[.slice none 0 0, .int .i64 0, .int .i64 0] 25 (0, 0))) := Lib.hid ((hg1.block w.heap.size (by have := HS.out; omega) (fun e => by have := Option.some.inj e; omega)).trans HY.out)
   have HP3 := Lib.hid (Mf.met_step HP.out hlk)
   have HBS := Lib.hid hbs
   have hen' : (Instr.entry (.pointer (some ⟨w.heap.size + 1, 0, none⟩))).run Tryd.prog w3 = .ok (.tuple #[.int .i64 x, .slice a9 n9 c9]) w3 := hen
   clear hkey hlk hv hat hrg1 hlt hg1 hs1 ex hmx hB3 hbm3 hlen2 hbase hrg hen hwf
   change wpList _ _ _ _ (_ : Act) w3
   unfold Mf.mkV
   go_wp2_with (at_builtin; refine Mf.wpList_op (Mf.of K x) hO3 hbs hlen hsrc (.tmp 18) (.tmp 19) (by rfl) (by rfl) (by rfl) (by rfl) ?_; intro v5 w5 o5 g5)
   have O5 := Lib.hid o5
   have G5 := Lib.hid g5
   have HRN := Lib.hid (HRG.out.kept g5.by_ (fun e => by
    obtain ⟨cs, hc⟩ := HO3.out.typed e.symm
    obtain ⟨es, cc, hbm⟩ := (HB0.out.kept HB3.out).map.isMap
    exact Mf.apart_map hc hbm rfl) (fun e => by have := (World.ownsRow.lt HO3.out _ e.symm).1; omega))
   clear o5 g5 hO3 hsrc hlen
   go_roundw
   case rel => exact ⟨_, _, _, HRN.out, O5.out, HP3.out, HB3.out.trans (G5.out.below (Nat.le_trans (Nat.le_trans (Nat.le_add_right _ 2) HBS.out) (Nat.le_refl _)) (fun k hk => by have := (World.ownsRow.lt HO3.out k hk).1; omega)),
    (G5.out.by_.block w.heap.size (by have := HBS.out; omega) (fun e => by have := (World.ownsRow.lt HO3.out _ e.symm).1; omega)).trans HY3.out, Nat.le_trans HBS.out G5.out.by_.size⟩
   case measure => (rw [HRN.out.left_eq, HOLD.out.left_eq]; exact HLT.out)
end
section
open Go.RowKit Go.Maps
theorem Mf.Ps.len_le {w : World} {v : Value} {L : List Mf.P} (h : Mf.Ps w v L) : ∃ a c, v = .slice a L.length c := by
 obtain ⟨a, c, e, -⟩ := h.form
 exact ⟨a, c, e⟩
theorem Mf.Bk.new (w : World) (B : Nat) (hB : B ≤ w.heap.size) (f n : Int) :
 Mf.Bk B ((w.alloc (.map #[] 0)).alloc (.cells #[.map (some w.heap.size), .int .i64 0, .int .i64 f, .int .i64 n] 62)) (w.heap.size + 1) [] 0 f n := by
 refine ⟨w.heap.size, fun _ => none, ?_, ?_, ?_, ?_, ?_, by omega, hB, List.Pairwise.nil, ?_, ?_⟩
 ·have := heap_alloc_new (w.alloc (.map #[] 0)) (.cells #[.map (some w.heap.size), .int .i64 0, .int .i64 f, .int .i64 n] 62)
  rw [World.size_alloc] at this
  exact this
 ·exact (Mf.PM.made w).same (((Below.refl _ _).alloc (Nat.le_refl _) _).block w.heap.size (by rw [World.size_alloc]; omega))
 ·intro x v h; cases h
 ·intro x _; rfl
 ·intro x y u v _ h; cases h
 ·intro y h; cases h
 ·intro y h; cases h
set_option maxHeartbeats 4000000 in
set_option maxRecDepth 100000 in
theorem Mf.bookOf_c (u : Value) (s : Mf.S) (w : World) (hp : Mf.Ps w u s.parts) (hk : ∀ p ∈ s.parts, Ty.I64 p.id) (hl : s.parts.length ≤ 1000000000000) :
 Calls Tryd.prog 13 #[Mf.sv u s] w fun e w' => ∃ q K, e = .returned (.pointer (some ⟨q, 0, none⟩)) ∧ Mf.Bk w.heap.size w' q K s.parts.length s.floor s.next ∧ K.map (·.2) = s.parts ∧ Below w.heap.size w w' := by
 obtain ⟨L, f, n⟩ := s
 unfold Mf.sv
 simp only at hp hk hl ⊢
 obtain ⟨a, c, rfl⟩ := hp.len_le
 obtain ⟨w0, hw0⟩ : ∃ w0, w0 = w.alloc (.cells #[.slice a L.length c, .int .i64 f, .int .i64 n] 25) := ⟨_, rfl⟩
 have hb0 : Below w.heap.size w w0 := by rw [hw0]; exact (Below.refl _ _).alloc (Nat.le_refl _) _
 have hs0 : w0.heap.size = w.heap.size + 1 := by rw [hw0]; exact World.size_alloc ..
 obtain ⟨c0, c1, c2⟩ : Mf.SA w0 w.heap.size (.slice a L.length c) f n := by rw [hw0]; exact Mf.SA.new w _ f n _
 obtain ⟨w1, hw1⟩ : ∃ w1, w1 = w0.alloc (.map #[] 0) := ⟨_, rfl⟩
 obtain ⟨w2, hw2⟩ : ∃ w2, w2 = w1.alloc (.cells #[.map (some w0.heap.size), .int .i64 0, .int .i64 f, .int .i64 n] 62) := ⟨_, rfl⟩
 have hb1 : Below w0.heap.size w0 w1 := by rw [hw1]; exact (Below.refl _ _).alloc (Nat.le_refl _) _
 have hs1 : w1.heap.size = w.heap.size + 2 := by rw [hw1, World.size_alloc, hs0]
 have hb2 : Below w0.heap.size w0 w2 := by rw [hw2]; exact hb1.alloc hb1.size _
 have hbk := Mf.Bk.new w0 w.heap.size (by omega) f n
 rw [← hw1, ← hw2, hs0] at hbk
 obtain ⟨d0, d1, d2⟩ : Mf.SA w1 w.heap.size (.slice a L.length c) f n := Mf.SA.kept ⟨c0, c1, c2⟩ hb1
 obtain ⟨e0, e1, e2⟩ : Mf.SA w2 w.heap.size (.slice a L.length c) f n := Mf.SA.kept ⟨c0, c1, c2⟩ hb2
 have HBK := Lib.hid hbk
 have HB := Lib.hid (hb0.trans (hb2.mono hb0.size))
 have HP := Lib.hid hp
 have HKI := Lib.hid hk
 have HL := Lib.hid hl
 have hln : (L.length : Int) ≤ 1000000000000 := by omega
 have hmm := @run_makeMap Tryd.prog
 rw [hw1] at d0 d1 d2
 rw [hs0] at hw2
 clear hp hk hl hb0 hb1 hb2 hbk
 go_enter Tryd.func13, Tryd.ntmps13
 go_wp2_with fail
 rw [← hw0]
 clear hw0
 go_wp2_with fail
 rw [← hw1, ← hw2]
 clear hw1 hw2 c0 c1 c2 d0 d1 d2 hmm
 go_wp2_with fail
 go_loopw [16] (fun i wr => ∃ (k : Nat) (K : List (Nat × Mf.P)), k ≤ L.length ∧ i = .int .i64 k ∧ Mf.Bk w.heap.size wr (w.heap.size + 2) K k f n ∧ K.map (·.2) = L.take k ∧ Below w.heap.size w wr) (fun i _ => L.length - (intOf i).toNat)
 case atStart => exact ⟨0, [], Nat.zero_le _, rfl, HBK.out, rfl, HB.out⟩
 case round =>
  obtain ⟨k, K, hk, rfl, hK, hm, hB⟩ := hrel
  have hk0 : (0 : Int) ≤ (k : Int) := by omega
  have HK := Lib.hid hK
  have HM := Lib.hid hm
  have HBB := Lib.hid hB
  by_cases hkl : k < L.length
  ·have hx := List.getElem?_eq_getElem hkl
   have hmem := List.getElem_mem hkl
   generalize L[k] = p at hx hmem
   obtain ⟨b1, o1, rfl, ⟨p0, p1, p2, p3, p4, p5, p6, p7⟩⟩ := Mf.Ps.at_ (HP.out.kept hB) hx
   have hki : (k : Int) < (L.length : Int) := by omega
   have hA : Below wr.heap.size wr (wr.alloc (.cells (Mf.cs p) 44)) := (Below.refl _ _).alloc (Nat.le_refl _) _
   have HBA := Lib.hid (hB.trans (hA.mono hB.size))
   have hpn := Mf.PA.new wr p 44
   have CADD := Mf.add_c (hK.kept hA) (HBA.out.size) p (HKI.out p hmem) (by have := HL.out; omega)
   have HNX : Hid ((K ++ [(k, p)]).map (·.2) = L.take (k + 1)) := Lib.hid (by rw [List.map_append, HM.out, List.take_add_one, hx]; rfl)
   obtain ⟨id, lv, ⟨an, ai, sa⟩, ⟨bn, bi, sb⟩⟩ := p
   unfold Mf.P.val Mf.cs at CADD
   unfold Mf.cs at hpn
   simp only at p0 p1 p2 p3 p4 p5 p6 p7 hpn CADD
   obtain ⟨s0, s1, s2, s3, s4, s5, s6, s7⟩ := hpn
   clear hx hmem hK hm hB hA
   go_wp2_with fail
   with_reducible refine CADD.mono ?_
   rintro e w5 ⟨rfl, hK5, hT5⟩
   have HK5 := Lib.hid hK5
   have HT5 := Lib.hid (HBA.out.trans hT5.below)
   clear hK5 hT5 CADD
   go_wp2
   go_roundw
   case rel => exact ⟨k + 1, _, by omega, by simp, HK5.out, HNX.out, HT5.out⟩
   case measure => simp [intOf]; omega
  ·obtain rfl : k = L.length := by omega
   have hki : ¬ (L.length : Int) < (L.length : Int) := by omega
   rw [List.take_length] at hm
   have HM2 := Lib.hid hm
   clear hk hkl hk0 hK hm hB HM
   go_wp2
   go_ret
   exact ⟨_, rfl, K, HK.out, HM2.out, HBB.out⟩
end
section
open Go.RowKit Go.Maps
set_option maxHeartbeats 4000000 in
set_option maxRecDepth 100000 in
theorem Mf.apply_c (vs vd va : Value) (s : Mf.S) (e : Mf.E) (w : World) (hs : Mf.Ps w vs s.parts) (hd : Mf.Is w vd e.drop) (ha : Mf.Ps w va e.add) (hk : ∀ p ∈ s.parts, Ty.I64 p.id) (hl : s.parts.length ≤ 999999998000) :
 Calls Tryd.prog 10 #[Mf.sv vs s, .agg #[vd, va, .int .i64 e.floor, .int .i64 e.next]] w (Mf.GotS w (Mf.ap s e)) := by
 obtain ⟨L, f0, n0⟩ := s
 obtain ⟨D, A, fl, nx⟩ := e
 unfold Mf.sv
 simp only at hs hd ha hk hl ⊢
 obtain ⟨wa, hwa⟩ : ∃ wa, wa = w.alloc (.cells #[vs, .int .i64 f0, .int .i64 n0] 25) := ⟨_, rfl⟩
 obtain ⟨wb, hwb⟩ : ∃ wb, wb = wa.alloc (.cells #[vd, va, .int .i64 fl, .int .i64 nx] 37) := ⟨_, rfl⟩
 obtain ⟨wc, hwc⟩ : ∃ wc, wc = wb.alloc (.cells #[.slice none 0 0, .int .i64 0, .int .i64 0] 25) := ⟨_, rfl⟩
 have ga : Below w.heap.size w wa := by rw [hwa]; exact (Below.refl _ _).alloc (Nat.le_refl _) _
 have gb : Below wa.heap.size wa wb := by rw [hwb]; exact (Below.refl _ _).alloc (Nat.le_refl _) _
 have gc : Below wb.heap.size wb wc := by rw [hwc]; exact (Below.refl _ _).alloc (Nat.le_refl _) _
 have sa : wa.heap.size = w.heap.size + 1 := by rw [hwa]; exact World.size_alloc ..
 have sb : wb.heap.size = w.heap.size + 2 := by rw [hwb, World.size_alloc, sa]
 have sc : wc.heap.size = w.heap.size + 3 := by rw [hwc, World.size_alloc, sb]
 have gbc : Below wa.heap.size wa wc := gb.trans (gc.mono gb.size)
 have gac : Below w.heap.size w wc := ga.trans (gbc.mono ga.size)
 have hSA : Mf.SA wc w.heap.size vs f0 n0 := by
  have := Mf.SA.new w vs f0 n0 25
  rw [← hwa] at this
  exact this.kept gbc
 have hEA : Mf.EA wc (w.heap.size + 1) vd va fl nx := by
  have := Mf.EA.new wa vd va fl nx 37
  rw [← hwb, sa] at this
  exact this.kept gc
 have hyr : wc.heap[w.heap.size + 2]? = some (.cells #[.slice none 0 0, .int .i64 0, .int .i64 0] 25 (0, 0)) := by
  have := heap_alloc_new wb (.cells #[.slice none 0 0, .int .i64 0, .int .i64 0] 25)
  rw [← hwc, sb] at this
  exact this
 have CB := Mf.bookOf_c vs ⟨L, f0, n0⟩ wc (hs.kept gac) hk (by show L.length ≤ _; omega)
 unfold Mf.sv at CB
 simp only at CB
 have HD := Lib.hid (hd.kept gac)
 have HAA := Lib.hid (ha.kept gac)
 have HEA := Lib.hid hEA
 have HYR := Lib.hid hyr
 have HB := Lib.hid gac
 have HSC := Lib.hid sc
 have HL := Lib.hid hl
 generalize hR : Mf.ap ⟨L, f0, n0⟩ ⟨D, A, fl, nx⟩ = r
 have HR := Lib.hid hR
 obtain ⟨c0, c1, c2⟩ := hSA
 clear hR hs hd ha hk hl ga gb gc gbc gac hEA hyr
 go_enter Tryd.func10, Tryd.ntmps10
 go_wp2_with fail
 rw [← hwa]
 rw [← hwb]
 rw [← hwc]
 clear hwa hwb hwc
 go_wp2_with fail
 with_reducible refine CB.mono ?_
 rintro e w1 ⟨q, K, rfl, hK, hm, hB1⟩
 have HK := Lib.hid hK
 have HM := Lib.hid hm
 have HB1 := Lib.hid hB1
 obtain ⟨e0, e1, e2, e3⟩ := HEA.out.kept hB1
 have CA := Mf.bapply_c hK hB1.size vd va ⟨D, A, fl, nx⟩ (HD.out.kept hB1) (HAA.out.kept hB1) (fun W g => ⟨HD.out.kept (HB1.out.trans g.below), HAA.out.kept (HB1.out.trans g.below)⟩) HL.out
 rw [hm] at CA
 simp only at CA
 rw [HR.out] at CA
 unfold Mf.GotB at CA
 clear hK hm hB1 CB c0 c1 c2
 go_wp2_with fail
 with_reducible refine CA.mono ?_
 rintro e w2 ⟨hT, ⟨hr, rfl⟩ | ⟨t, K', pl', hr, rfl, hK', hm', hpl⟩⟩
 ·have hb2 := HB.out.trans ((HB1.out.trans hT.below).mono HB.out.size)
  have hyr2 := ((HB1.out.trans hT.below).block (w.heap.size + 2) (by have := HSC.out; omega)).trans HYR.out
  obtain ⟨⟨y0, y1, y2⟩, z0, z1, z2⟩ := Mf.three hyr2
  have HF := Lib.hid (Mf.GotS.bad (r := r) hr (Mf.below3 (q := w.heap.size + 2) hb2 (by omega) (.slice none 0 0) (.int .i64 0) (.int .i64 0)))
  clear hr hT hb2 hyr2 CA e0 e1 e2 e3
  go_wp2
  (try simp only [Exit.inBlock, Exit.then])
  refine bodyPost_ret (v := .tuple #[.agg #[.slice none 0 0, .int .i64 0, .int .i64 0], .int .i64 8]) ?_ rfl HF.out
  rw [results_cell_tmp rfl]
  go_simp
 ·have CS := Mf.state_c hK' (by have := HL.out; omega)
  have HT := Lib.hid hT
  have HM' := Lib.hid hm'
  clear hT hK' hm' CA e0 e1 e2 e3
  go_wp2_with fail
  with_reducible refine CS.mono ?_
  rintro e w3 ⟨u, rfl, hu, hB3⟩
  rw [HM'.out] at hu
  have hb2 : Below wc.heap.size wc w2 := HB1.out.trans HT.out.below
  have hb3 := hb2.trans (hB3.mono hb2.size)
  have hyr3 := (hb3.block (w.heap.size + 2) (by have := HSC.out; omega)).trans HYR.out
  obtain ⟨⟨y0, y1, y2⟩, z0, z1, z2⟩ := Mf.three hyr3
  obtain ⟨T, tf, tn⟩ := t
  simp only at hu
  obtain ⟨ua, uc, rfl⟩ := hu.ps.len_le
  have HPF := Lib.hid (World.ownsRow.mono (Mf.at_off hu hyr3 (by decide) (Mf.heap3 w3 (w.heap.size + 2) (.slice ua T.length uc) (.int .i64 tf) (.int .i64 tn))) (HB.out.trans (hb2.mono HB.out.size)).size)
  have HBF := Lib.hid (Mf.below3 (q := w.heap.size + 2) (HB.out.trans (hb3.mono HB.out.size)) (by omega) (.slice ua T.length uc) (.int .i64 tf) (.int .i64 tn))
  have HFF := Lib.hid (Mf.GotS.good (r := r) hr HPF.out HBF.out)
  clear hr hu hB3 hb2 hb3 hyr3 CS
  unfold Mf.sv
  go_wp2
  (try simp only [Exit.inBlock, Exit.then])
  refine bodyPost_ret (v := .tuple #[.agg #[.slice ua T.length uc, .int .i64 tf, .int .i64 tn], .int .i64 0]) ?_ rfl HFF.out
  rw [results_cell_tmp rfl]
  go_simp
end
section
open Go Go.RowKit
def Mf.v0 : Kn.V := ⟨false, 0, ⟨#[]⟩⟩
def Mf.p1 : Mf.P := ⟨1, 0, Mf.v0, Mf.v0⟩
def Mf.p2 : Mf.P := ⟨2, 0, Mf.v0, Mf.v0⟩
theorem Mf.cmp0 : Kn.cmp Mf.v0 Mf.v0 = 0 := by
 have := Kn.cmp_zero Mf.v0 Mf.v0
 rw [show Kn.same Mf.v0 Mf.v0 = true from by simp [Kn.same]] at this
 simpa using this
theorem Mf.part1 : Mf.part Mf.p1 = true := by
 have h : decide (Kn.cmp Mf.p1.lo Mf.p1.hi ≤ 0) = true := by rw [show Kn.cmp Mf.p1.lo Mf.p1.hi = 0 from Mf.cmp0]; decide
 unfold Mf.part
 rw [h]
 decide
theorem Mf.part2 : Mf.part Mf.p2 = true := by
 have h : decide (Kn.cmp Mf.p2.lo Mf.p2.hi ≤ 0) = true := by rw [show Kn.cmp Mf.p2.lo Mf.p2.hi = 0 from Mf.cmp0]; decide
 unfold Mf.part
 rw [h]
 decide
theorem Mf.ap1 : Mf.ap ⟨[], 0, 0⟩ ⟨[], [Mf.p1], 0, 2⟩ = some ⟨[Mf.p1], 0, 2⟩ := by
 unfold Mf.ap
 rw [if_pos ⟨by simp [Mf.right, Mf.part1, Mf.nm], by decide, by decide⟩]
 simp [Mf.dr, Mf.ad, Mf.has, Mf.p1]
theorem Mf.ap2 : Mf.ap ⟨[Mf.p1], 0, 2⟩ ⟨[1], [Mf.p2], 0, 3⟩ = some ⟨[Mf.p2], 0, 3⟩ := by
 unfold Mf.ap
 rw [if_pos ⟨by simp [Mf.right, Mf.part2, Mf.nm], by decide, by decide⟩]
 simp [Mf.dr, Mf.ad, Mf.has, Mf.wo, Mf.p1, Mf.p2]
theorem Mf.i64p1 : ∀ p ∈ [Mf.p1], Ty.I64 p.id := fun p hp => by
 obtain rfl : p = Mf.p1 := by simpa using hp
 exact ⟨by decide, by decide⟩
theorem Mf.Ps.one (w : World) (p : Mf.P) : Mf.Ps (w.alloc (.cells (Mf.cs p) 44)) (.slice (some ⟨w.heap.size, 0, none⟩) 1 1) [p] := by
 refine ⟨_, 1, rfl, Nat.le_refl _, .inr ⟨w.heap.size, 0, _, (44, (0, 0)), rfl, trivial, heap_alloc_new w _, fun i j x hi hj => ?_⟩⟩
 have h0 : i = 0 := by
  have := (List.getElem?_eq_some_iff.1 hi).1
  simp at this
  omega
 subst h0
 obtain rfl : p = x := by simpa using hi
 match j, hj with
 | 0, _ => exact Kn.cell_new w _ _ 0 _ rfl
 | 1, _ => exact Kn.cell_new w _ _ 1 _ rfl
 | 2, _ => exact Kn.cell_new w _ _ 2 _ rfl
 | 3, _ => exact Kn.cell_new w _ _ 3 _ rfl
 | 4, _ => exact Kn.cell_new w _ _ 4 _ rfl
 | 5, _ => exact Kn.cell_new w _ _ 5 _ rfl
 | 6, _ => exact Kn.cell_new w _ _ 6 _ rfl
 | 7, _ => exact Kn.cell_new w _ _ 7 _ rfl
theorem Mf.Is.one (w : World) (d : Int) : Mf.Is (w.alloc (.cells #[.int .i64 d] 3)) (.slice (some ⟨w.heap.size, 0, none⟩) 1 1) [d] := by
 refine ⟨_, 1, rfl, Nat.le_refl _, .inr ⟨w.heap.size, 0, _, (3, (0, 0)), rfl, trivial, heap_alloc_new w _, fun i j x hi hj => ?_⟩⟩
 have h0 : i = 0 := by
  have := (List.getElem?_eq_some_iff.1 hi).1
  simp at this
  omega
 subst h0
 obtain rfl : d = x := by simpa using hi
 have h1 : j = 0 := by omega
 subst h1
 exact Kn.cell_new w _ _ 0 _ rfl
set_option maxHeartbeats 4000000 in
set_option maxRecDepth 100000 in
theorem Mf.lives_c (w : World) : Calls Tryd.prog 5 #[] w fun e w' => e = .returned (.bool true) ∧ Below w.heap.size w w' := by
 have hA : Below w.heap.size w (w.alloc (.cells (Mf.cs Mf.p1) 44)) := (Below.refl _ _).alloc (Nat.le_refl _) _
 have C1 := Mf.apply_c (.slice none 0 0) (.slice none 0 0) (.slice (some ⟨w.heap.size, 0, none⟩) 1 1) ⟨[], 0, 0⟩ ⟨[], [Mf.p1], 0, 2⟩ _ (Mf.At.nil _) (Mf.At.nil _) (Mf.Ps.one w Mf.p1) (fun _ h => nomatch h) (Nat.zero_le _)
 rw [Mf.ap1] at C1
 unfold Mf.GotS Mf.sv Mf.st Mf.er at C1
 simp only [Mf.cs, Mf.p1, Mf.v0] at C1 hA
 have HA := Lib.hid hA
 clear hA
 go_enter Tryd.func5, Tryd.ntmps5
 go_wp2_with fail
 with_reducible refine C1.mono ?_
 rintro e w1 ⟨u, rfl, hu, hB⟩
 have HB1 := Lib.hid (HA.out.trans (hB.mono HA.out.size))
 obtain ⟨ua, uc, rfl⟩ := hu.ps.len_le
 have HU := Lib.hid hu.ps
 simp only [List.length_cons, List.length_nil, Nat.reduceAdd] at HU ⊢
 clear C1 hu hB HA
 obtain ⟨w2, hw2⟩ : ∃ w2, w2 = w1.alloc (.cells #[.slice ua 1 uc, .int .i64 0, .int .i64 2] 25) := ⟨_, rfl⟩
 obtain ⟨w3, hw3⟩ : ∃ w3, w3 = w2.alloc (.cells #[.int .i64 1] 3) := ⟨_, rfl⟩
 obtain ⟨w4, hw4⟩ : ∃ w4, w4 = w3.alloc (.cells (Mf.cs Mf.p2) 44) := ⟨_, rfl⟩
 have g2 : Below w1.heap.size w1 w2 := by rw [hw2]; exact (Below.refl _ _).alloc (Nat.le_refl _) _
 have g3 : Below w1.heap.size w1 w3 := by rw [hw3]; exact g2.alloc g2.size _
 have g4 : Below w1.heap.size w1 w4 := by rw [hw4]; exact g3.alloc g3.size _
 have g34 : Below w3.heap.size w3 w4 := by rw [hw4]; exact (Below.refl _ _).alloc (Nat.le_refl _) _
 have g23 : Below w2.heap.size w2 w3 := by rw [hw3]; exact (Below.refl _ _).alloc (Nat.le_refl _) _
 have s2 : w2.heap.size = w1.heap.size + 1 := by rw [hw2]; exact World.size_alloc ..
 have s3 : w3.heap.size = w1.heap.size + 2 := by rw [hw3, World.size_alloc, s2]
 have hI : Mf.Is w4 (.slice (some ⟨w1.heap.size + 1, 0, none⟩) 1 1) [1] := by
  have := Mf.Is.one w2 1
  rw [← hw3, s2] at this
  exact this.kept g34
 have hP2 : Mf.Ps w4 (.slice (some ⟨w1.heap.size + 2, 0, none⟩) 1 1) [Mf.p2] := by
  have := Mf.Ps.one w3 Mf.p2
  rwa [← hw4, s3] at this
 have hS2 : Mf.SA w4 w1.heap.size (.slice ua 1 uc) 0 2 := by
  have := Mf.SA.new w1 (.slice ua 1 uc) 0 2 25
  rw [← hw2] at this
  exact this.kept (g23.trans (g34.mono g23.size))
 have hS : Mf.SA w2 w1.heap.size (.slice ua 1 uc) 0 2 := by
  have := Mf.SA.new w1 (.slice ua 1 uc) 0 2 25
  rwa [← hw2] at this
 have C2 := Mf.apply_c (.slice ua 1 uc) (.slice (some ⟨w1.heap.size + 1, 0, none⟩) 1 1) (.slice (some ⟨w1.heap.size + 2, 0, none⟩) 1 1) ⟨[Mf.p1], 0, 2⟩ ⟨[1], [Mf.p2], 0, 3⟩ w4 (HU.out.kept g4) hI hP2 Mf.i64p1 (by show 1 ≤ _; decide)
 rw [Mf.ap2] at C2
 unfold Mf.GotS Mf.sv Mf.st Mf.er at C2
 simp only [Mf.cs, Mf.p2, Mf.v0] at C2 hw4
 obtain ⟨c0, c1, c2⟩ := hS
 have HS2 := Lib.hid hS2
 have HB4 := Lib.hid (HB1.out.trans (g4.mono HB1.out.size))
 have HU4 := Lib.hid (HU.out.kept g4)
 clear g2 g3 g4 g34 g23 s3 hI hP2 hS2 HB1 HU
 go_wp2_with fail
 rw [← hw2]
 clear hw2
 go_wp2_with fail
 rw [← hw3]
 rw [← hw4]
 clear hw3 hw4
 go_wp2_with fail
 with_reducible refine C2.mono ?_
 rintro e w5 ⟨u2, rfl, hu, hB⟩
 have HB5 := Lib.hid (HB4.out.trans (hB.mono HB4.out.size))
 obtain ⟨ub, ud, rfl⟩ := hu.ps.len_le
 have HU2 := Lib.hid hu.ps
 simp only [List.length_cons, List.length_nil, Nat.reduceAdd] at HU2 ⊢
 have hS5 := HS2.out.kept hB
 clear C2 hu hB c0 c1 c2
 obtain ⟨w6, hw6⟩ : ∃ w6, w6 = w5.alloc (.cells #[.slice ub 1 ud, .int .i64 0, .int .i64 3] 25) := ⟨_, rfl⟩
 have g6 : Below w5.heap.size w5 w6 := by rw [hw6]; exact (Below.refl _ _).alloc (Nat.le_refl _) _
 have hT : Mf.SA w6 w5.heap.size (.slice ub 1 ud) 0 3 := by
  have := Mf.SA.new w5 (.slice ub 1 ud) 0 3 25
  rwa [← hw6] at this
 have HP6 := Lib.hid (HU2.out.kept g6)
 obtain ⟨b, o, rfl, hpa⟩ := Mf.Ps.at_ (L := [⟨2, 0, ⟨false, 0, ⟨#[]⟩⟩, ⟨false, 0, ⟨#[]⟩⟩⟩]) (HU2.out.kept g6) (i := 0) rfl
 have CS1 := Mf.same_c _ _ ⟨[⟨2, 0, ⟨false, 0, ⟨#[]⟩⟩, ⟨false, 0, ⟨#[]⟩⟩⟩], 0, 3⟩ w6 HP6.out HP6.out (by show 1 ≤ _; decide)
 unfold Mf.sv at CS1
 simp only at CS1
 have p0 : w6.cell? ⟨b, o, none⟩ = some (.int .i64 2) := hpa.c0
 have CS2 := Lib.hid fun (W : World) => Mf.same_no (.slice ua 1 uc) (.slice (some ⟨b, o, none⟩) 1 ud) 0 2 3 (by decide) ⟨_, _, _, rfl⟩ ⟨_, _, _, rfl⟩ W
 have HSA := Lib.hid (hS5.kept g6)
 have HSB := Lib.hid hT
 have HB6 := Lib.hid (HB5.out.trans (g6.mono HB5.out.size))
 obtain ⟨c0, c1, c2⟩ := hS5.kept g6
 obtain ⟨d0, d1, d2⟩ := hT
 rw [hw6] at p0
 clear hS5 g6 hpa HU2
 go_wp2_with fail
 rw [← hw6]
 clear hw6
 (try go_wp2_with fail)
 with_reducible refine CS1.mono ?_
 rintro e w7 ⟨rfl, hB7⟩
 have HB7 := Lib.hid (HB6.out.trans (hB7.mono HB6.out.size))
 obtain ⟨x0, x1, x2⟩ := HSA.out.kept hB7
 obtain ⟨y0, y1, y2⟩ := HSB.out.kept hB7
 clear CS1 hB7 c0 c1 c2 d0 d1 d2 p0
 go_wp2_with fail
 with_reducible refine (CS2.out _).mono ?_
 rintro e w8 ⟨rfl, hB8⟩
 have HB8 := Lib.hid (HB7.out.trans (hB8.mono HB7.out.size))
 clear hB8 x0 x1 x2 y0 y1 y2
 go_wp2
 go_ret
 exact ⟨rfl, HB8.out⟩
end
section
open Go Go.RowKit
theorem Mf.quad {w : World} {q : Nat} {x y z t : Value} {T : TypeId} (h : w.heap[q]? = some (.cells #[x, y, z, t] T (0, 0))) :
 (w.cell? ⟨q, 0, none⟩ = some x ∧ w.cell? ⟨q, 1, none⟩ = some y ∧ w.cell? ⟨q, 2, none⟩ = some z ∧ w.cell? ⟨q, 3, none⟩ = some t) ∧ w.frozen? ⟨q, 0, none⟩ = false ∧ w.frozen? ⟨q, 1, none⟩ = false ∧ w.frozen? ⟨q, 2, none⟩ = false ∧ w.frozen? ⟨q, 3, none⟩ = false := by
 refine ⟨⟨?_, ?_, ?_, ?_⟩, ?_, ?_, ?_, ?_⟩ <;> simp [World.cell?, World.frozen?, h]
structure Mf.EC (w : World) (b o : Nat) (vd va : Value) (f n : Int) : Prop where
 c0 : w.cell? ⟨b, o, none⟩ = some vd
 c1 : w.cell? ⟨b, o + 1, none⟩ = some va
 c2 : w.cell? ⟨b, o + 2, none⟩ = some (.int .i64 f)
 c3 : w.cell? ⟨b, o + 3, none⟩ = some (.int .i64 n)
theorem Mf.EC.lt {w : World} {b o : Nat} {vd va : Value} {f n : Int} (h : Mf.EC w b o vd va f n) : b < w.heap.size := World.block_lt_of_cell? w _ h.c0
theorem Mf.EC.kept {w w' : World} {b o : Nat} {vd va : Value} {f n : Int} (h : Mf.EC w b o vd va f n) (g : Below w.heap.size w w') : Mf.EC w' b o vd va f n :=
 ⟨(g.cell (p := ⟨b, o, none⟩) h.lt).trans h.c0, (g.cell (p := ⟨b, o + 1, none⟩) h.lt).trans h.c1, (g.cell (p := ⟨b, o + 2, none⟩) h.lt).trans h.c2, (g.cell (p := ⟨b, o + 3, none⟩) h.lt).trans h.c3⟩
def Mf.Es (w : World) (v : Value) (L : List Mf.E) : Prop := ∃ a c, v = .slice a L.length c ∧ (L = [] ∨ ∃ b o, a = some ⟨b, o, none⟩ ∧ ∀ (i : Nat) (e : Mf.E), L[i]? = some e → ∃ vd va, Mf.EC w b (o + i * 4) vd va e.floor e.next ∧ Mf.Is w vd e.drop ∧ Mf.Ps w va e.add)
theorem Mf.Es.at_ {w : World} {a : Option Addr} {c : Nat} {L : List Mf.E} (h : Mf.Es w (.slice a L.length c) L) {i : Nat} {e : Mf.E} (hi : L[i]? = some e) : ∃ b o vd va, a = some ⟨b, o, none⟩ ∧ Mf.EC w b (o + i * 4) vd va e.floor e.next ∧ Mf.Is w vd e.drop ∧ Mf.Ps w va e.add := by
 obtain ⟨a', c', e1, h⟩ := h
 simp only [Value.slice.injEq, true_and] at e1
 obtain ⟨rfl, rfl⟩ := e1
 rcases h with rfl | ⟨b, o, rfl, h⟩
 ·cases hi
 ·obtain ⟨vd, va, h1, h2, h3⟩ := h i e hi
  exact ⟨b, o, vd, va, rfl, h1, h2, h3⟩
theorem Mf.Es.kept {w w' : World} {v : Value} {L : List Mf.E} (h : Mf.Es w v L) (g : Below w.heap.size w w') : Mf.Es w' v L := by
 obtain ⟨a, c, hv, h⟩ := h
 refine ⟨a, c, hv, ?_⟩
 rcases h with h | ⟨b, o, ha, h⟩
 ·exact .inl h
 ·exact .inr ⟨b, o, ha, fun i e hi => by
   obtain ⟨vd, va, h1, h2, h3⟩ := h i e hi
   exact ⟨vd, va, h1.kept g, h2.kept g, h3.kept g⟩⟩
set_option maxRecDepth 100000
structure Mf.Gd (s : Mf.S) (k : Nat) : Prop where
 ok : Mf.Ok s
 fl : Mf.nm s.floor = true
 nx : Mf.nm s.next = true
 len : s.parts.length ≤ k * 1000
theorem Mf.Gd.none : Mf.Gd ⟨[], 0, 0⟩ 0 := ⟨Mf.Ok.none, rfl, rfl, Nat.le_refl _⟩
theorem Mf.Gd.step {s t : Mf.S} {e : Mf.E} {k : Nat} (h : Mf.Gd s k) (he : Mf.ap s e = some t) : Mf.Gd t (k + 1) := by
 have hl := Mf.ap_len he
 obtain ⟨hr, _, _, e1, e2, _⟩ := Mf.ap_some he
 obtain ⟨_, _, _, _, r5, r6⟩ := (Mf.right_iff e).1 hr
 exact ⟨h.ok.step he, by rw [e1]; exact r5, by rw [e2]; exact r6, by have := h.len; omega⟩
theorem Mf.Gd.mono {s : Mf.S} {k : Nat} (h : Mf.Gd s k) : Mf.Gd s (k + 1) := ⟨h.ok, h.fl, h.nx, by have := h.len; omega⟩
end
section
open Go.RowKit Go.Shelf
set_option maxRecDepth 100000 in
theorem Tx.clone_c (s : ByteArray) (w : World) (hs : s.size ≤ 140737488355328) : Calls Tryd.prog 26 #[.string s] w fun e w' => e = .returned (.string s) ∧ Below w.heap.size w w' := by
 have cc := Any.stringslite_Clone Tryd.cloneL s w (by omega)
 go_enter Tryd.func26, Tryd.ntmps26
 go_wp2_with fail
 refine Calls.mono cc ?_
 rintro e w1 ⟨rfl, hb⟩
 go_wp2
 go_ret
 exact ⟨rfl, hb⟩
end
section
open Go Go.RowKit
structure Mf.By2 (r b : Nat) (w w' : World) : Prop where
 os : w'.os = w.os
 tape : w'.tape = w.tape
 output : w'.output = w.output
 size : w.heap.size ≤ w'.heap.size
 block : ∀ k, k < w.heap.size → k ≠ r → k ≠ b → w'.heap[k]? = w.heap[k]?
theorem Mf.By2.refl (r b : Nat) (w : World) : Mf.By2 r b w w := ⟨rfl, rfl, rfl, Nat.le_refl _, fun _ _ _ _ => rfl⟩
theorem Mf.By2.trans {r b : Nat} {u v w : World} (h : Mf.By2 r b u v) (k : Mf.By2 r b v w) : Mf.By2 r b u w :=
 ⟨k.os.trans h.os, k.tape.trans h.tape, k.output.trans h.output, Nat.le_trans h.size k.size, fun i hi h1 h2 => (k.block i (Nat.lt_of_lt_of_le hi h.size) h1 h2).trans (h.block i hi h1 h2)⟩
theorem Mf.By2.ofB {r b : Nat} {w w' : World} (h : w.grownBy w' (some b)) : Mf.By2 r b w w' :=
 ⟨h.os, h.tape, h.output, h.size, fun k hk _ h2 => h.block k hk (fun e => h2 (Option.some.inj e))⟩
theorem Mf.By2.ofBelow {r b : Nat} {w w' : World} (h : Below w.heap.size w w') : Mf.By2 r b w w' :=
 ⟨h.os, h.tape, h.output, h.size, fun k hk _ _ => h.block k hk⟩
theorem Mf.By2.set {r b : Nat} (w : World) (i : Nat) (u : Value) : Mf.By2 r b w (w.setCell ⟨r, i, none⟩ u) :=
 ⟨rfl, rfl, rfl, by simp [World.setCell], fun k _ h1 _ => Below.heap_setCell _ _ _ _ (by show k ≠ r; exact h1)⟩
theorem Mf.By2.below {r b B : Nat} {w w' : World} (h : Mf.By2 r b w w') (hr : B ≤ r) (hb : B ≤ b) (hB : B ≤ w.heap.size) : Below B w w' :=
 ⟨h.os, h.tape, h.output, h.size, fun k hk => h.block k (by omega) (by omega) (by omega)⟩
theorem Mf.By2.new {r b q i : Nat} {w w1 : World} (g : Mf.By2 r b w w1) (hq : w.heap.size ≤ q) (u : Value) : Mf.By2 r b w (w1.setCell ⟨q, i, none⟩ u) :=
 ⟨g.os, g.tape, g.output, by have := g.size; simpa [World.setCell] using this, fun k hk h1 h2 => (Below.heap_setCell _ _ _ _ (by show k ≠ q; omega)).trans (g.block k hk h1 h2)⟩
structure Mf.Rdr (r b : Nat) (w : World) (s : Mf.St) : Prop where
 cur : Ty.Cur b w s.l s.e
 box : w.heap[r]? = some (.cells #[.pointer (some ⟨b, 0, none⟩), .bool s.wr] 68 (0, 0))
 ne : b ≠ r
 tabs : Ty.Tabs w
 gb : Ty.G ≤ b
 gr : Ty.G ≤ r
 short : s.l.length ≤ 140737488351232
theorem Mf.Rdr.lt {r b : Nat} {w : World} {s : Mf.St} (h : Mf.Rdr r b w s) : r < w.heap.size ∧ b < w.heap.size := ⟨lt_of_block h.box, h.cur.lt⟩
theorem Mf.Rdr.kept {r b : Nat} {w w' : World} {s : Mf.St} (h : Mf.Rdr r b w s) (g : Below w.heap.size w w') : Mf.Rdr r b w' s :=
 ⟨(g.block b h.lt.2).trans h.cur, (g.block r h.lt.1).trans h.box, h.ne, Ty.Tabs.below h.tabs g (Ty.Tabs.two h.tabs), h.gb, h.gr, h.short⟩
theorem Mf.Rdr.other {r b g i : Nat} {w : World} {s : Mf.St} (h : Mf.Rdr r b w s) (h1 : g ≠ r) (h2 : g ≠ b) (h3 : Ty.G ≤ g) (u : Value) : Mf.Rdr r b (w.setCell ⟨g, i, none⟩ u) s :=
 ⟨(Below.heap_setCell _ _ _ _ (by show b ≠ g; omega)).trans h.cur, (Below.heap_setCell _ _ _ _ (by show r ≠ g; omega)).trans h.box, h.ne, Ty.Tabs.by h.tabs (Ty.by_set w g i u) (fun k hk => by have := Option.some.inj hk; omega), h.gb, h.gr, h.short⟩
theorem Mf.Rdr.moved {r b : Nat} {w w' : World} {s : Mf.St} {l : List UInt8} {e : Nat} (h : Mf.Rdr r b w s) (hc : Ty.Cur b w' l e) (hg : w.grownBy w' (some b)) (hl : l.length ≤ s.l.length) : Mf.Rdr r b w' ⟨l, e, s.wr⟩ :=
 ⟨hc, (hg.block r h.lt.1 (fun e => h.ne (Option.some.inj e).symm)).trans h.box, h.ne, Ty.Tabs.by h.tabs hg (fun k hk => by have := Option.some.inj hk; have := h.gb; omega), h.gb, h.gr, Nat.le_trans hl h.short⟩
theorem Mf.Rdr.marked {r b : Nat} {w : World} {l : List UInt8} {e : Nat} {x : Bool} (h : Mf.Rdr r b w ⟨l, e, x⟩) (y : Bool) : Mf.Rdr r b (w.setCell ⟨r, 1, none⟩ (.bool y)) ⟨l, e, y⟩ :=
 ⟨(Below.heap_setCell _ _ _ _ (by show b ≠ r; exact h.ne)).trans h.cur, Ty.two_set1 h.box, h.ne, Ty.Tabs.by h.tabs (Ty.by_set w r 1 _) (fun k hk => by have := Option.some.inj hk; have := h.gr; omega), h.gb, h.gr, h.short⟩
def Mf.Went (r b : Nat) (w : World) (v : Value) (s : Mf.St) (e : Ending) (w' : World) : Prop := e = .returned v ∧ Mf.Rdr r b w' s ∧ Mf.By2 r b w w'
theorem Mf.pair {w : World} {q : Nat} {x y : Value} {t : TypeId} (h : w.heap[q]? = some (.cells #[x, y] t (0, 0))) : w.cell? ⟨q, 0, none⟩ = some x ∧ w.cell? ⟨q, 1, none⟩ = some y ∧ w.frozen? ⟨q, 0, none⟩ = false ∧ w.frozen? ⟨q, 1, none⟩ = false := by
 refine ⟨?_, ?_, ?_, ?_⟩ <;> simp [World.cell?, World.frozen?, h]
theorem Mf.rdU_le (l : List UInt8) (e : Nat) : (Ty.rdU l e).2.1.length ≤ l.length := by
 unfold Ty.rdU
 split
 ·exact Nat.le_refl _
 ·simp only [List.length_drop]; omega
theorem Mf.rdT_le (l : List UInt8) (e : Nat) : (Ty.rdT 64 l e).2.1.length ≤ l.length ∧ (Ty.rdT 64 l e).1.length ≤ l.length := by
 have h := Ty.txt_len l 64
 unfold Ty.rdT
 split
 ·exact ⟨Nat.le_refl _, Nat.zero_le _⟩
 ·exact ⟨by simp only [List.length_drop]; omega, h⟩
set_option maxHeartbeats 2000000 in
set_option maxRecDepth 100000 in
theorem Mf.number_c (r b : Nat) (s : Mf.St) (most : Nat) (w : World) (h : Mf.Rdr r b w s) (hm : most ≤ 999999999) :
 Calls Tryd.prog 51 #[.pointer (some ⟨r, 0, none⟩), .int .i64 (most : Int)] w (Mf.Went r b w (.int .i64 (Mf.sC most s).1) (Mf.sC most s).2) := by
 have HR := Lib.hid h
 obtain ⟨b0, b1, z0, z1⟩ := Mf.pair h.box
 have cu := Ty.cuint_c b s.l s.e w h.tabs h.cur (by have := h.short; omega)
 have hU := Ty.rdU_u64 s.l s.e
 have hle := Mf.rdU_le s.l s.e
 unfold Mf.sC
 generalize Ty.rdU s.l s.e = U at cu hU hle ⊢
 obtain ⟨n, l1, e1⟩ := U
 unfold Ty.U64 at hU
 simp only at cu hU hle ⊢
 have hwm : IntKind.u64.wrap (most : Int) = (most : Int) := by rw [IntKind.wrap_u64]; omega
 obtain ⟨l, e, wr⟩ := s
 simp only at b0 b1 hle HR ⊢
 clear h
 by_cases hn : most < n
 ·rw [if_pos hn]
  have hgt : (most : Int) < (n : Int) := by omega
  go_enter Tryd.func51, Tryd.ntmps51
  go_wp2_with fail
  with_reducible refine cu.mono ?_
  rintro e9 w1 ⟨rfl, hc, hg⟩
  have HR1 := Lib.hid (HR.out.moved hc hg hle)
  have HG := Lib.hid hg
  obtain ⟨c0, c1, f0, f1⟩ := Mf.pair HR1.out.box
  clear b0 b1 z0 z1 hc hg cu
  go_wp2
  go_ret
  exact ⟨rfl, HR1.out.marked true, (Mf.By2.ofB HG.out).trans (Mf.By2.set _ _ _)⟩
 ·rw [if_neg hn]
  have hgt : ¬ (most : Int) < (n : Int) := by omega
  have hwn : IntKind.i64.wrap (n : Int) = (n : Int) := by rw [IntKind.wrap_i64]; omega
  go_enter Tryd.func51, Tryd.ntmps51
  go_wp2_with fail
  with_reducible refine cu.mono ?_
  rintro e9 w1 ⟨rfl, hc, hg⟩
  have HR1 := Lib.hid (HR.out.moved hc hg hle)
  have HG := Lib.hid hg
  clear b0 b1 z0 z1 hc hg cu
  go_wp2
  go_ret
  exact ⟨rfl, HR1.out, Mf.By2.ofB HG.out⟩
def Mf.sets (q : Nat) (w : World) : List (Nat × Value) → World
 | [] => w
 | x :: L => Mf.sets q (w.setCell ⟨q, x.1, none⟩ x.2) L
theorem Mf.By2.sets {r b q : Nat} {w : World} (hq : w.heap.size ≤ q) : ∀ (L : List (Nat × Value)) {w1 : World}, Mf.By2 r b w w1 → Mf.By2 r b w (Mf.sets q w1 L)
 | [], _, g => g
 | x :: L, _, g => Mf.By2.sets hq L (g.new hq x.2)
theorem Mf.Rdr.sets {r b q : Nat} {s : Mf.St} (hr : r < q) (hb : b < q) : ∀ (L : List (Nat × Value)) {w1 : World}, Mf.Rdr r b w1 s → Mf.Rdr r b (Mf.sets q w1 L) s
 | [], _, h => h
 | x :: L, _, h => Mf.Rdr.sets hr hb L (h.other (by omega) (by omega) (by have := h.gr; omega) x.2)
set_option maxHeartbeats 2000000 in
set_option maxRecDepth 100000 in
theorem Mf.bound_c (r b : Nat) (s : Mf.St) (w : World) (h : Mf.Rdr r b w s) :
 Calls Tryd.prog 71 #[.pointer (some ⟨r, 0, none⟩)] w (Mf.Went r b w (Mf.sV s).1.val (Mf.sV s).2) := by
 have hgr : Below w.heap.size w (w.alloc (.cells #[.bool false, .int .i64 0, .string ⟨#[]⟩] 42)) := (Below.refl _ w).alloc (Nat.le_refl _) _
 have HR := Lib.hid (h.kept hgr)
 have HG := Lib.hid (Mf.By2.ofBelow (r := r) (b := b) hgr)
 have hlt := h.lt
 have HY := Lib.hid (heap_alloc_new w (.cells #[.bool false, .int .i64 0, .string ⟨#[]⟩] 42))
 obtain ⟨b0, b1, -, -⟩ := Mf.pair HR.out.box
 unfold Mf.sV Mf.sb Mf.sI Mf.sT Mf.sp Kn.V.val
 have ci := Ty.cint_c b s.l s.e _ HR.out.tabs HR.out.cur (by have := HR.out.short; omega)
 have hle := Mf.rdU_le s.l s.e
 generalize Ty.rdU s.l s.e = U at ci hle ⊢
 obtain ⟨n, l1, e1⟩ := U
 simp only at ci hle ⊢
 have hle2 := Mf.rdT_le l1 e1
 have CT := Lib.hid fun (W : World) (hw : Ty.Tabs W) (hc : Ty.Cur b W l1 e1) => Ty.ctext_c b l1 e1 64 (by omega) W hw hc (by have := h.short; omega)
 generalize Ty.rdT 64 l1 e1 = T at CT hle2 ⊢
 obtain ⟨t, l2, e2⟩ := T
 simp only at CT hle2 ⊢
 have hsh := h.short
 have hts : (Ty.S t).size ≤ 140737488355328 := by rw [Ty.size_S]; omega
 have HL2 := Lib.hid hle2.1
 clear h hgr hsh hle2
 go_enter Tryd.func71, Tryd.ntmps71
 go_wp2_with fail
 generalize hwo : World.alloc _ _ = wo at HR HG HY b0 b1 ci ⊢
 clear hwo
 with_reducible refine ci.mono ?_
 rintro e9 w1 ⟨rfl, hc, hg⟩
 have HR1 := Lib.hid (HR.out.moved hc hg hle)
 have HG1 := Lib.hid (HG.out.trans (Mf.By2.ofB hg))
 have HY1 := Lib.hid ((hg.block _ (lt_of_block HY.out) (fun e => by have := Option.some.inj e; omega)).trans HY.out)
 obtain ⟨c0, c1, -, -⟩ := Mf.pair HR1.out.box
 have ct := CT.out w1 HR1.out.tabs HR1.out.cur
 clear b0 b1 hc hg ci CT HY HG
 go_wp2_with fail
 with_reducible refine ct.mono ?_
 rintro e9 w2 ⟨rfl, hc, hg⟩
 have HR2 := Lib.hid (HR1.out.moved hc hg HL2.out)
 have HG2 := Lib.hid (HG1.out.trans (Mf.By2.ofB hg))
 have HY2 := Lib.hid ((hg.block _ (lt_of_block HY1.out) (fun e => by have := Option.some.inj e; omega)).trans HY1.out)
 clear c0 c1 hc hg ct HY1 HG1
 go_wp2_with fail
 with_reducible refine (Tx.clone_c _ w2 hts).mono ?_
 rintro e3 w3 ⟨rfl, hg3⟩
 have HR9 := Lib.hid (HR2.out.kept hg3)
 have hy3 := (hg3.block _ (lt_of_block HY2.out)).trans HY2.out
 have HG9 := Lib.hid (HG2.out.trans (Mf.By2.ofBelow hg3))
 obtain ⟨⟨q0, q1, q2⟩, f0, f1, f2⟩ := Mf.three hy3
 have HP := Lib.hid (Mf.By2.sets (q := w.heap.size) (Nat.le_refl _) [(0, .bool false), (1, .int .i64 (Ty.zag (n : Int))), (2, .string (Ty.S t))] HG9.out)
 have HQ := Lib.hid (Mf.Rdr.sets (q := w.heap.size) hlt.1 hlt.2 [(0, .bool false), (1, .int .i64 (Ty.zag (n : Int))), (2, .string (Ty.S t))] HR9.out)
 clear hg3 hy3 hts
 go_wp2
 (try simp only [Exit.inBlock, Exit.then])
 refine bodyPost_ret (v := .agg #[.bool false, .int .i64 (Ty.zag (n : Int)), .string (Ty.S t)]) ?_ rfl ⟨rfl, HQ.out, HP.out⟩
 rw [Mf.results_cell rfl]
 go_simp
end
section
open Go Go.RowKit
abbrev Mf.z8 : Array Value := #[.int .i64 0, .int .i64 0, .bool false, .int .i64 0, .string ⟨#[]⟩, .bool false, .int .i64 0, .string ⟨#[]⟩]
theorem Mf.oct {w : World} {q : Nat} {a b c d e f g h : Value} {t : TypeId} (H : w.heap[q]? = some (.cells #[a, b, c, d, e, f, g, h] t (0, 0))) :
 (w.cell? ⟨q, 0, none⟩ = some a ∧ w.cell? ⟨q, 1, none⟩ = some b ∧ w.cell? ⟨q, 2, none⟩ = some c ∧ w.cell? ⟨q, 3, none⟩ = some d ∧ w.cell? ⟨q, 4, none⟩ = some e ∧ w.cell? ⟨q, 5, none⟩ = some f ∧ w.cell? ⟨q, 6, none⟩ = some g ∧ w.cell? ⟨q, 7, none⟩ = some h) ∧
  w.frozen? ⟨q, 0, none⟩ = false ∧ w.frozen? ⟨q, 1, none⟩ = false ∧ w.frozen? ⟨q, 2, none⟩ = false ∧ w.frozen? ⟨q, 3, none⟩ = false ∧ w.frozen? ⟨q, 4, none⟩ = false ∧ w.frozen? ⟨q, 5, none⟩ = false ∧ w.frozen? ⟨q, 6, none⟩ = false ∧ w.frozen? ⟨q, 7, none⟩ = false := by
 refine ⟨⟨?_, ?_, ?_, ?_, ?_, ?_, ?_, ?_⟩, ?_, ?_, ?_, ?_, ?_, ?_, ?_, ?_⟩ <;> simp [World.cell?, World.frozen?, H]
structure Mf.PB (r b q : Nat) (w0 w : World) (cs : Array Value) (s : Mf.St) : Prop where
 rdr : Mf.Rdr r b w s
 by2 : Mf.By2 r b w0 w
 box : w.heap[q + 1]? = some (.cells cs 44 (0, 0))
 res : w.heap[q]? = some (.cells Mf.z8 44 (0, 0))
 hq : w0.heap.size ≤ q
 hr : r < q
 hb : b < q
theorem Mf.PB.went {r b q : Nat} {w0 w w' : World} {cs : Array Value} {s s' : Mf.St} {v : Value} {e : Ending} (h : Mf.PB r b q w0 w cs s) (g : Mf.Went r b w v s' e w') : Mf.PB r b q w0 w' cs s' :=
 ⟨g.2.1, h.by2.trans g.2.2, (g.2.2.block (q + 1) (lt_of_block h.box) (by have := h.hr; omega) (by have := h.hb; omega)).trans h.box, (g.2.2.block q (lt_of_block h.res) (by have := h.hr; omega) (by have := h.hb; omega)).trans h.res, h.hq, h.hr, h.hb⟩
theorem Mf.PB.put {r b q i : Nat} {w0 w : World} {cs cs' : Array Value} {s : Mf.St} {v : Value} (h : Mf.PB r b q w0 w cs s) (g : (w.setCell ⟨q + 1, i, none⟩ v).heap[q + 1]? = some (.cells cs' 44 (0, 0))) : Mf.PB r b q w0 (w.setCell ⟨q + 1, i, none⟩ v) cs' s :=
 ⟨h.rdr.other (by have := h.hr; omega) (by have := h.hb; omega) (by have := h.hr; have := h.rdr.gr; omega) v, h.by2.new (by have := h.hq; omega) v, g, (Below.heap_setCell _ _ _ _ (by show q ≠ q + 1; omega)).trans h.res, h.hq, h.hr, h.hb⟩
set_option maxHeartbeats 4000000 in
set_option maxRecDepth 100000 in
theorem Mf.part_c (r b : Nat) (s : Mf.St) (w : World) (h : Mf.Rdr r b w s) :
 Calls Tryd.prog 52 #[.pointer (some ⟨r, 0, none⟩)] w (Mf.Went r b w (Mf.sP s).1.val (Mf.sP s).2) := by
 obtain ⟨⟨i, s1⟩, h1⟩ : ∃ x, Mf.sC 999999999 s = x := ⟨_, rfl⟩
 obtain ⟨⟨v, s2⟩, h2⟩ : ∃ x, Mf.sC 3 s1 = x := ⟨_, rfl⟩
 obtain ⟨⟨⟨ln, li, ls⟩, s3⟩, h3⟩ : ∃ x, Mf.sV s2 = x := ⟨_, rfl⟩
 obtain ⟨⟨⟨hn, hi, hs⟩, s4⟩, h4⟩ : ∃ x, Mf.sV s3 = x := ⟨_, rfl⟩
 have HE : Mf.sP s = (⟨i, v, ⟨ln, li, ls⟩, ⟨hn, hi, hs⟩⟩, s4) := by
  unfold Mf.sP Mf.sb Mf.sp
  simp only [h1, h2, h3, h4]
 have C1 : ∀ W, Mf.Rdr r b W s → Calls Tryd.prog 51 #[.pointer (some ⟨r, 0, none⟩), .int .i64 999999999] W (Mf.Went r b W (.int .i64 i) s1) := fun W h => by
  have := Mf.number_c r b s 999999999 W h (by decide)
  rw [h1] at this
  exact this
 have C2 : ∀ W, Mf.Rdr r b W s1 → Calls Tryd.prog 51 #[.pointer (some ⟨r, 0, none⟩), .int .i64 3] W (Mf.Went r b W (.int .i64 v) s2) := fun W h => by
  have := Mf.number_c r b s1 3 W h (by decide)
  rw [h2] at this
  exact this
 have C3 : ∀ W, Mf.Rdr r b W s2 → Calls Tryd.prog 71 #[.pointer (some ⟨r, 0, none⟩)] W (Mf.Went r b W (.agg #[.bool ln, .int .i64 li, .string ls]) s3) := fun W h => by
  have := Mf.bound_c r b s2 W h
  rw [h3] at this
  exact this
 have C4 : ∀ W, Mf.Rdr r b W s3 → Calls Tryd.prog 71 #[.pointer (some ⟨r, 0, none⟩)] W (Mf.Went r b W (.agg #[.bool hn, .int .i64 hi, .string hs]) s4) := fun W h => by
  have := Mf.bound_c r b s3 W h
  rw [h4] at this
  exact this
 rw [HE]
 have hlt := h.lt
 obtain ⟨w2, hw2⟩ : ∃ w2, w2 = (w.alloc (.cells Mf.z8 44)).alloc (.cells Mf.z8 44) := ⟨_, rfl⟩
 have hA1 : Below w.heap.size w (w.alloc (.cells Mf.z8 44)) := (Below.refl _ _).alloc (Nat.le_refl _) _
 have hA : Below w.heap.size w w2 := by rw [hw2]; exact hA1.alloc hA1.size _
 have hsz : (w.alloc (.cells Mf.z8 44)).heap.size = w.heap.size + 1 := World.size_alloc ..
 have hb1 := heap_alloc_new (w.alloc (.cells Mf.z8 44)) (.cells Mf.z8 44)
 rw [hsz, ← hw2] at hb1
 have hb0 : w2.heap[w.heap.size]? = some (.cells Mf.z8 44 (0, 0)) := by
  rw [hw2]
  exact (((Below.refl _ (w.alloc (.cells Mf.z8 44))).alloc (Nat.le_refl _) (.cells Mf.z8 44)).block w.heap.size (by rw [hsz]; omega)).trans (heap_alloc_new w _)
 have P2 := Lib.hid (Mf.PB.mk (h.kept hA) (Mf.By2.ofBelow (r := r) (b := b) hA) hb1 hb0 (Nat.le_refl _) hlt.1 hlt.2)
 have K1 := Lib.hid C1
 have K2 := Lib.hid C2
 have K3 := Lib.hid C3
 have K4 := Lib.hid C4
 unfold Mf.z8 at hw2
 clear h h1 h2 h3 h4 HE C1 C2 C3 C4 hA1 hA hsz hb1 hb0
 go_enter Tryd.func52, Tryd.ntmps52
 go_wp2_with fail
 rw [← hw2]
 clear hw2
 with_reducible refine (K1.out w2 P2.out.rdr).mono ?_
 rintro e wa0 hg
 have Q0 := Lib.hid (P2.out.went hg)
 obtain ⟨rfl, -, -⟩ := hg
 obtain ⟨⟨c0, c1, c2, c3, c4, c5, c6, c7⟩, f0, f1, f2, f3, f4, f5, f6, f7⟩ := Mf.oct Q0.out.box
 have R0 := Lib.hid (Mf.PB.put (cs' := #[.int .i64 i, .int .i64 0, .bool false, .int .i64 0, .string ⟨#[]⟩, .bool false, .int .i64 0, .string ⟨#[]⟩]) Q0.out (heap_setCell_same _ _ 0 _ _ _ (Q0.out).box))
 obtain ⟨wb0, hw0⟩ : ∃ x, x = (wa0.setCell ⟨w.heap.size + 1, 0, none⟩ (.int .i64 i)) := ⟨_, rfl⟩
 rw [← hw0] at R0
 go_wp2_with fail
 rw [← hw0]
 clear hw0 c0 c1 c2 c3 c4 c5 c6 c7 f0 f1 f2 f3 f4 f5 f6 f7
 with_reducible refine (K2.out wb0 R0.out.rdr).mono ?_
 rintro e wa1 hg
 have Q1 := Lib.hid (R0.out.went hg)
 obtain ⟨rfl, -, -⟩ := hg
 obtain ⟨⟨c0, c1, c2, c3, c4, c5, c6, c7⟩, f0, f1, f2, f3, f4, f5, f6, f7⟩ := Mf.oct Q1.out.box
 have R1 := Lib.hid (Mf.PB.put (cs' := #[.int .i64 i, .int .i64 v, .bool false, .int .i64 0, .string ⟨#[]⟩, .bool false, .int .i64 0, .string ⟨#[]⟩]) Q1.out (heap_setCell_same _ _ 1 _ _ _ (Q1.out).box))
 obtain ⟨wb1, hw1⟩ : ∃ x, x = (wa1.setCell ⟨w.heap.size + 1, 1, none⟩ (.int .i64 v)) := ⟨_, rfl⟩
 rw [← hw1] at R1
 go_wp2_with fail
 rw [← hw1]
 clear hw1 c0 c1 c2 c3 c4 c5 c6 c7 f0 f1 f2 f3 f4 f5 f6 f7
 with_reducible refine (K3.out wb1 R1.out.rdr).mono ?_
 rintro e wa2 hg
 have Q2 := Lib.hid (R1.out.went hg)
 obtain ⟨rfl, -, -⟩ := hg
 obtain ⟨⟨c0, c1, c2, c3, c4, c5, c6, c7⟩, f0, f1, f2, f3, f4, f5, f6, f7⟩ := Mf.oct Q2.out.box
 have R2 := Lib.hid (Mf.PB.put (cs' := #[.int .i64 i, .int .i64 v, .bool ln, .int .i64 li, .string ls, .bool false, .int .i64 0, .string ⟨#[]⟩]) (Mf.PB.put (cs' := #[.int .i64 i, .int .i64 v, .bool ln, .int .i64 li, .string ⟨#[]⟩, .bool false, .int .i64 0, .string ⟨#[]⟩]) (Mf.PB.put (cs' := #[.int .i64 i, .int .i64 v, .bool ln, .int .i64 0, .string ⟨#[]⟩, .bool false, .int .i64 0, .string ⟨#[]⟩]) Q2.out (heap_setCell_same _ _ 2 _ _ _ (Q2.out).box)) (heap_setCell_same _ _ 3 _ _ _ ((Mf.PB.put (cs' := #[.int .i64 i, .int .i64 v, .bool ln, .int .i64 0, .string ⟨#[]⟩, .bool false, .int .i64 0, .string ⟨#[]⟩]) Q2.out (heap_setCell_same _ _ 2 _ _ _ (Q2.out).box))).box)) (heap_setCell_same _ _ 4 _ _ _ ((Mf.PB.put (cs' := #[.int .i64 i, .int .i64 v, .bool ln, .int .i64 li, .string ⟨#[]⟩, .bool false, .int .i64 0, .string ⟨#[]⟩]) (Mf.PB.put (cs' := #[.int .i64 i, .int .i64 v, .bool ln, .int .i64 0, .string ⟨#[]⟩, .bool false, .int .i64 0, .string ⟨#[]⟩]) Q2.out (heap_setCell_same _ _ 2 _ _ _ (Q2.out).box)) (heap_setCell_same _ _ 3 _ _ _ ((Mf.PB.put (cs' := #[.int .i64 i, .int .i64 v, .bool ln, .int .i64 0, .string ⟨#[]⟩, .bool false, .int .i64 0, .string ⟨#[]⟩]) Q2.out (heap_setCell_same _ _ 2 _ _ _ (Q2.out).box))).box))).box))
 obtain ⟨wb2, hw2⟩ : ∃ x, x = (((wa2.setCell ⟨w.heap.size + 1, 2, none⟩ (.bool ln)).setCell ⟨w.heap.size + 1, 3, none⟩ (.int .i64 li)).setCell ⟨w.heap.size + 1, 4, none⟩ (.string ls)) := ⟨_, rfl⟩
 rw [← hw2] at R2
 go_wp2_with fail
 rw [← hw2]
 clear hw2 c0 c1 c2 c3 c4 c5 c6 c7 f0 f1 f2 f3 f4 f5 f6 f7
 with_reducible refine (K4.out wb2 R2.out.rdr).mono ?_
 rintro e wa3 hg
 have Q3 := Lib.hid (R2.out.went hg)
 obtain ⟨rfl, -, -⟩ := hg
 obtain ⟨⟨c0, c1, c2, c3, c4, c5, c6, c7⟩, f0, f1, f2, f3, f4, f5, f6, f7⟩ := Mf.oct Q3.out.box
 have R3 := Lib.hid (Mf.PB.put (cs' := #[.int .i64 i, .int .i64 v, .bool ln, .int .i64 li, .string ls, .bool hn, .int .i64 hi, .string hs]) (Mf.PB.put (cs' := #[.int .i64 i, .int .i64 v, .bool ln, .int .i64 li, .string ls, .bool hn, .int .i64 hi, .string ⟨#[]⟩]) (Mf.PB.put (cs' := #[.int .i64 i, .int .i64 v, .bool ln, .int .i64 li, .string ls, .bool hn, .int .i64 0, .string ⟨#[]⟩]) Q3.out (heap_setCell_same _ _ 5 _ _ _ (Q3.out).box)) (heap_setCell_same _ _ 6 _ _ _ ((Mf.PB.put (cs' := #[.int .i64 i, .int .i64 v, .bool ln, .int .i64 li, .string ls, .bool hn, .int .i64 0, .string ⟨#[]⟩]) Q3.out (heap_setCell_same _ _ 5 _ _ _ (Q3.out).box))).box)) (heap_setCell_same _ _ 7 _ _ _ ((Mf.PB.put (cs' := #[.int .i64 i, .int .i64 v, .bool ln, .int .i64 li, .string ls, .bool hn, .int .i64 hi, .string ⟨#[]⟩]) (Mf.PB.put (cs' := #[.int .i64 i, .int .i64 v, .bool ln, .int .i64 li, .string ls, .bool hn, .int .i64 0, .string ⟨#[]⟩]) Q3.out (heap_setCell_same _ _ 5 _ _ _ (Q3.out).box)) (heap_setCell_same _ _ 6 _ _ _ ((Mf.PB.put (cs' := #[.int .i64 i, .int .i64 v, .bool ln, .int .i64 li, .string ls, .bool hn, .int .i64 0, .string ⟨#[]⟩]) Q3.out (heap_setCell_same _ _ 5 _ _ _ (Q3.out).box))).box))).box))
 obtain ⟨wb3, hw3⟩ : ∃ x, x = (((wa3.setCell ⟨w.heap.size + 1, 5, none⟩ (.bool hn)).setCell ⟨w.heap.size + 1, 6, none⟩ (.int .i64 hi)).setCell ⟨w.heap.size + 1, 7, none⟩ (.string hs)) := ⟨_, rfl⟩
 rw [← hw3] at R3
 have HP := Lib.hid (Mf.By2.sets (q := w.heap.size) (Nat.le_refl _) [(0, .int .i64 i), (1, .int .i64 v), (2, .bool ln), (3, .int .i64 li), (4, .string ls), (5, .bool hn), (6, .int .i64 hi), (7, .string hs)] R3.out.by2)
 have HQ := Lib.hid (Mf.Rdr.sets (q := w.heap.size) hlt.1 hlt.2 [(0, .int .i64 i), (1, .int .i64 v), (2, .bool ln), (3, .int .i64 li), (4, .string ls), (5, .bool hn), (6, .int .i64 hi), (7, .string hs)] R3.out.rdr)
 obtain ⟨⟨d0, d1, d2, d3, d4, d5, d6, d7⟩, -⟩ := Mf.oct R3.out.box
 obtain ⟨⟨y0, y1, y2, y3, y4, y5, y6, y7⟩, z0, z1, z2, z3, z4, z5, z6, z7⟩ := Mf.oct R3.out.res
 rw [hw3] at d0 d1 d2 d3 d4 d5 d6 d7 y0 y1 y2 y3 y4 y5 y6 y7 z0 z1 z2 z3 z4 z5 z6 z7 HP HQ
 clear hw3
 go_wp2
 (try simp only [Exit.inBlock, Exit.then])
 refine bodyPost_ret (v := .agg #[.int .i64 i, .int .i64 v, .bool ln, .int .i64 li, .string ls, .bool hn, .int .i64 hi, .string hs]) ?_ rfl ⟨rfl, HQ.out, HP.out⟩
 rw [Mf.results_cell rfl]
 go_simp
end
end Go.Proofs.YteaglaijkafphaaDoor
