import Derived.Test.YteaglaijkafphaaDoorWAJ
import Derived.Test.YteaglaijkafphaaDoorWAC
import Derived.Test.YteaglaijkafphaaDoorWAA
import Derived.Test.YteaglaijkafphaaDoorWAK
import Derived.Test.YteaglaijkafphaaDoorWAH
import Derived.Deep.Slices
import Derived.Deep.Fields
import Derived.ChangeSame
import Derived.ProofKit
import Derived.OpenShut
import Derived.SizedLaws
import Derived.Test.YteaglaijkafphaaDoorWAD
import Derived.Test.YteaglaijkafphaaDoorRows
import Derived.Deep.RegionLaw
namespace Go.Proofs.YteaglaijkafphaaDoor
section
open Go.RowKit
theorem Mf.tabs_grew {w w' : World} {v v' : Value} {base : Nat} {bs : List UInt8} (h : Ty.Tabs w) (hg : Ty.Grew w w' v v') (hb : Ty.Buf base w v bs) (hG : Ty.G ≤ base) : Ty.Tabs w' :=
 Ty.Tabs.by h hg.by_ fun k hk => Nat.le_trans hG (World.ownsRow.lt hb k hk).1
theorem Mf.at_grew {α : Type} {k : Nat} {enc : α → List Value} {w w' : World} {v u u' : Value} {L : List α} (h : Mf.At k enc w v L) (hoff : L ≠ [] → ∀ b, v.ownBlock = some b → u.ownBlock ≠ some b) (g : Ty.Grew w w' u u') : Mf.At k enc w' v L :=
 h.stay fun hL b hb hlt => g.by_.block b hlt (fun e => hoff hL b hb e.symm)
theorem Mf.is_one (w : World) (x : Int) : Mf.Is (w.alloc (.cells #[.int .i64 x] 3)) (.slice (some ⟨w.heap.size, 0, none⟩) 1 1) [x] :=
 ⟨_, _, rfl, Nat.le_refl _, .inr ⟨_, 0, _, (3, (0, 0)), rfl, trivial, heap_alloc_new w _, fun i j y hi hj => by
  match i, j, hi, hj with
  | 0, 0, hi, _ =>
    obtain rfl : x = y := by simpa using hi
    exact Kn.cell_new w _ _ 0 _ rfl⟩⟩
theorem Mf.is_two (w : World) (x y : Int) : Mf.Is (w.alloc (.cells #[.int .i64 x, .int .i64 y] 3)) (.slice (some ⟨w.heap.size, 0, none⟩) 2 2) [x, y] :=
 ⟨_, _, rfl, Nat.le_refl _, .inr ⟨_, 0, _, (3, (0, 0)), rfl, trivial, heap_alloc_new w _, fun i j z hi hj => by
  match i, j, hi, hj with
  | 0, 0, hi, _ =>
    obtain rfl : x = z := by simpa using hi
    exact Kn.cell_new w _ _ 0 _ rfl
  | 1, 0, hi, _ =>
    obtain rfl : y = z := by simpa using hi
    exact Kn.cell_new w _ _ 1 _ rfl⟩⟩
theorem Mf.flat_take {α : Type} {L : List α} {f : α → List UInt8} {k : Nat} {x : α} (h : L[k]? = some x) : (L.take (k + 1)).flatMap f = (L.take k).flatMap f ++ f x := by
 obtain ⟨hk, rfl⟩ := List.getElem?_eq_some_iff.1 h
 rw [List.take_succ_eq_append_getElem hk, List.flatMap_append]
 simp
theorem Mf.encN_flat (L : List Int) : (L.flatMap Mf.encN).length ≤ L.length * 9 := Mf.flat_len L fun x _ => Mf.encN_len x
theorem Mf.take_flat (L : List Int) (k : Nat) : ((L.take k).flatMap Mf.encN).length ≤ L.length * 9 := by
 have h1 := Mf.encN_flat (L.take k)
 have h2 : (L.take k).length ≤ L.length := by rw [List.length_take]; omega
 have := Nat.mul_le_mul_right 9 h2
 omega
set_option maxHeartbeats 2000000 in
set_option maxRecDepth 100000 in
theorem Mf.appNums_c (base : Nat) (v : Value) (bs : List UInt8) (u : Value) (L : List Int) (w : World) (hT : Ty.Tabs w) (hG : Ty.G ≤ base) (hown : Ty.Buf base w v bs) (hb : base ≤ w.heap.size) (hL : Mf.Is w u L) (hoff : L ≠ [] → ∀ b, u.ownBlock = some b → v.ownBlock ≠ some b) (hx : ∀ x ∈ L, 0 ≤ x ∧ x ≤ 9223372036854775807) (hn : L.length ≤ 1000000000) (hl : bs.length ≤ 100000000000) :
 Calls Tryd.prog 46 #[v, u] w (Ty.Written base w v (bs ++ L.flatMap Mf.encN)) := by
 have HL := Lib.hid hL
 have HOFF := Lib.hid hoff
 have HT := Lib.hid hT
 have HO := Lib.hid hown
 have HGB := Lib.hid hG
 have HB := Lib.hid hb
 have HX := Lib.hid hx
 have HN : Hid (L.length ≤ 1000000000 ∧ bs.length ≤ 100000000000) := Lib.hid ⟨hn, hl⟩
 obtain ⟨a, c, rfl, -, -⟩ := hL
 have hln : (L.length : Int) ≤ 1000000000 := by omega
 clear hT hG hown hb hx hn hl hoff
 go_enter Tryd.func46, Tryd.ntmps46
 go_wp2
 go_loopw [0, 9] (fun r i wr => ∃ k : Nat, k ≤ L.length ∧ i = .int .i64 k ∧ Ty.Buf base wr r (bs ++ (L.take k).flatMap Mf.encN) ∧ Ty.Grew w wr v r) (fun _ i _ => L.length - (intOf i).toNat)
 case atStart => exact ⟨0, Nat.zero_le _, rfl, by simpa using HO.out, Ty.Grew.refl _ _⟩
 case round =>
  obtain ⟨k, hk, rfl, hB, hg⟩ := hrel
  have HBR := Lib.hid hB
  have HGR := Lib.hid hg
  have hk0 : (0 : Int) ≤ (k : Int) := by omega
  by_cases hkl : k < L.length
  ·have hx := List.getElem?_eq_getElem hkl
   have hmem := List.getElem_mem hkl
   generalize L[k] = x at hx hmem
   obtain ⟨x0, x1⟩ := HX.out x hmem
   obtain ⟨a', c', e, -, hc⟩ := Mf.at_grew HL.out HOFF.out hg
   simp only [Value.slice.injEq, true_and] at e
   obtain ⟨rfl, rfl⟩ := e
   rcases hc with ⟨h0, -⟩ | ⟨b, o, cs, fr, rfl, -, hbb, hc⟩
   ·rw [h0] at hkl; simp at hkl
   have c0 := Mf.Is.num hc hx
   have HTX := Lib.hid (Mf.flat_take (f := Mf.encN) hx)
   have hki : (k : Int) < (L.length : Int) := by omega
   have hwx : IntKind.u64.wrap x = x := by rw [IntKind.wrap_u64]; omega
   have cu := Ty.uint_c base _ _ x x0 (by unfold Ty.U64; omega) wr (Mf.tabs_grew HT.out hg HO.out HGB.out) hB (Nat.le_trans HB.out hg.by_.size) (by have := Mf.take_flat L k; have := HN.out; simp only [List.length_append]; omega)
   clear hbb hc hx hmem hB hg
   go_wp2_with fail
   with_reducible refine cu.mono ?_
   rintro e w2 ⟨v2, rfl, h2, g2⟩
   have H2 := Lib.hid h2
   have G2 := Lib.hid (HGR.out.trans g2)
   clear h2 g2 cu
   go_wp2
   go_roundw
   case rel => exact ⟨k + 1, by omega, by simp, by rw [HTX.out, ← List.append_assoc]; exact H2.out, G2.out⟩
   case measure => simp [intOf]; omega
  ·obtain rfl : k = L.length := by omega
   have hki : ¬ (L.length : Int) < (L.length : Int) := by omega
   rw [List.take_length] at hB
   have HB9 := Lib.hid hB
   clear hk hkl hB hg
   go_wp2
   go_ret
   exact ⟨_, rfl, HB9.out, HGR.out⟩
set_option maxHeartbeats 2000000 in
set_option maxRecDepth 100000 in
theorem Mf.appBound_c (base : Nat) (v : Value) (bs : List UInt8) (x : Kn.V) (w : World) (hT : Ty.Tabs w) (hG : Ty.G ≤ base) (hown : Ty.Buf base w v bs) (hb : base ≤ w.heap.size) (hi : Ty.I64 x.n) (hk : Mf.key x = true) (hl : bs.length ≤ 100000000000) :
 Calls Tryd.prog 47 #[v, x.val] w (Ty.Written base w v (bs ++ Mf.encV x)) := by
 have hz : x.s.size ≤ 64 := by unfold Mf.key at hk; simp only [Bool.and_eq_true, decide_eq_true_iff] at hk; exact hk.2
 have HE : Hid (bs ++ Mf.encV x = bs ++ Ty.encU (Ty.zig x.n).toNat ++ Ty.encU x.s.size ++ x.s.data.toList) := Lib.hid (by unfold Mf.encV Ig.encI Tx.encT; rw [Ty.length_data]; simp [List.append_assoc])
 rw [HE.out]
 have h9 : (Ty.encU (Ty.zig x.n).toNat).length ≤ 9 := Ty.encU_len9 _
 obtain ⟨v0, v1, v2⟩ := Kn.At.new w x 42
 have hA : Below w.heap.size w (w.alloc (.cells #[.bool x.null, .int .i64 x.n, .string x.s] 42)) := (Below.refl _ _).alloc (Nat.le_refl _) _
 have hT1 := Ty.Tabs.below hT hA (Ty.Tabs.two hT)
 have ho1 : Ty.Buf base (w.alloc (.cells #[.bool x.null, .int .i64 x.n, .string x.s] 42)) v bs := World.ownsRow.alloc hown _
 have hA1 : Below w.heap.size w (w.alloc (.cells #[.bool x.null, .int .i64 x.n, .string x.s] 42)) := hA
 have HV : Hid (∀ k, v.ownBlock = some k → k < w.heap.size) := Lib.hid fun k hk => (World.ownsRow.lt hown k hk).2
 have HBH : Hid (∀ (w' : World) (v' : Value), Ty.Grew (w.alloc (.cells #[.bool x.null, .int .i64 x.n, .string x.s] 42)) w' v v' → Ty.Grew w w' v v') := Lib.hid fun w' v' h => h.behind _
 have hsz : base ≤ (w.alloc (.cells #[.bool x.null, .int .i64 x.n, .string x.s] 42)).heap.size := by have := hA.size; omega
 have hlt : w.heap.size < (w.alloc (.cells #[.bool x.null, .int .i64 x.n, .string x.s] 42)).heap.size := by simp
 obtain ⟨xn, xi, xs⟩ := x
 unfold Kn.V.val
 simp only at v0 v1 v2 hz h9 hT1 ho1 hsz HBH hlt hi ⊢
 have HI := Lib.hid hi
 have HG := Lib.hid hG
 have HL := Lib.hid hl
 clear hT hown hb hk hl hA hA1 HE hG hi
 go_enter Tryd.func47, Tryd.ntmps47
 go_wp2_with fail
 generalize hwo : w.alloc _ = w1 at v0 v1 v2 hT1 ho1 hsz HBH hlt ⊢
 clear hwo
 have hT2 : Ty.Tabs w1.drew := hT1.drew
 have ho2 : Ty.Buf base w1.drew v bs := ho1
 have CI := Lib.hid (Ty.int_c base v bs xi HI.out w1.drew hT2 ho2 hsz (by have := HL.out; omega))
 have CT : Hid (∀ (W : World) (u : Value), Ty.Grew w1.drew W v u → Ty.Buf base W u (bs ++ Ty.encU (Ty.zig xi).toNat) → _) := Lib.hid fun W u g hu => Ty.text_c base u (bs ++ Ty.encU (Ty.zig xi).toNat) xs W (Mf.tabs_grew hT2 g ho2 HG.out) hu (Nat.le_trans hsz g.by_.size) (by have := HL.out; simp only [List.length_append]; omega)
 have HK : Hid (∀ (W : World) (u : Value), Ty.Grew w1.drew W v u → W.cell? ⟨w.heap.size, 1, none⟩ = some (.int .i64 xi) ∧ W.cell? ⟨w.heap.size, 2, none⟩ = some (.string xs)) := Lib.hid fun W u g => by
  have hn : some w.heap.size ≠ v.ownBlock := fun e => by have := HV.out _ e.symm; omega
  exact ⟨g.by_.cell v1 hn, g.by_.cell v2 hn⟩
 have HS0 : Hid (w1.drew.cell? ⟨w.heap.size, 1, none⟩ = some (.int .i64 xi) ∧ w1.drew.cell? ⟨w.heap.size, 2, none⟩ = some (.string xs)) := Lib.hid ⟨v1, v2⟩
 clear hT1 ho1 hT2 ho2 h9 hz v0 v1 v2
 go_region_held3 (fun W => W.cell? ⟨w.heap.size, 1, none⟩ = some (.int .i64 xi) ∧ W.cell? ⟨w.heap.size, 2, none⟩ = some (.string xs))
  (first
   | exact HS0.out
   | exact HK.out _ _ hGy
   | exact HK.out _ _ (hGy.trans hGz))
  (first
   | (go_at_call 68; (with_reducible refine CI.out.mono ?_); rintro e wy ⟨vy, rfl, hBy, hGy⟩)
   | (go_at_call 67; (with_reducible refine (CT.out _ _ hGy hBy).mono ?_); rintro e wz ⟨vz, rfl, hBz, hGz⟩))
 go_wp2
 go_ret
 exact ⟨vz, rfl, hBz, HBH.out _ _ (hGy.trans hGz).drawn⟩
end
section
open Go.RowKit
theorem Mf.is_lt {w : World} {v : Value} {L : List Int} (h : Mf.Is w v L) (hL : L ≠ []) {b : Nat} (hb : v.ownBlock = some b) : b < w.heap.size := by
 unfold Mf.Is at h
 exact h.lt hL hb
structure Mf.EW (w1 wr : World) (u : Value) (bs : List UInt8) : Prop where
 buf : Ty.Buf w1.heap.size wr u bs
 below : Below w1.heap.size w1 wr
theorem Mf.EW.next {w1 wr wy w' : World} {u u' : Value} {bs bs' : List UInt8} (h : Mf.EW w1 wr u bs) (g : Below wr.heap.size wr wy) (hg : Ty.Grew wy w' u u') (hb : Ty.Buf w1.heap.size w' u' bs') : Mf.EW w1 w' u' bs' :=
 ⟨hb, (h.below.trans (g.mono h.below.size)).trans (hg.below (Nat.le_trans h.below.size g.size) fun k hk => (World.ownsRow.lt h.buf k hk).1)⟩
theorem Mf.EW.nums {w1 wr wy : World} {u x : Value} {bs : List UInt8} {L : List Int} (h : Mf.EW w1 wr u bs) (hT : Ty.Tabs w1) (g : Below wr.heap.size wr wy) (hL : Mf.Is wy x L) (hoff : L ≠ [] → ∀ b, x.ownBlock = some b → u.ownBlock ≠ some b) (hx : ∀ x ∈ L, 0 ≤ x ∧ x ≤ 9223372036854775807) (hn : L.length ≤ 1000000000) (hl : bs.length ≤ 100000000000) :
 Calls Tryd.prog 46 #[u, x] wy fun e w' => ∃ u', e = .returned u' ∧ Mf.EW w1 w' u' (bs ++ L.flatMap Mf.encN) ∧ Ty.Grew wy w' u u' :=
 (Mf.appNums_c w1.heap.size u bs x L wy (hT.below (h.below.trans (g.mono h.below.size)) (Ty.Tabs.two hT)) (Ty.Tabs.two hT) (h.buf.later g) (Nat.le_trans h.below.size g.size) hL hoff hx hn hl).mono fun _ _ ⟨u', e1, hb, hg⟩ => ⟨u', e1, h.next g hg hb, hg⟩
theorem Mf.EW.bound {w1 wr wy : World} {u : Value} {bs : List UInt8} {x : Kn.V} (h : Mf.EW w1 wr u bs) (hT : Ty.Tabs w1) (g : Below wr.heap.size wr wy) (hi : Ty.I64 x.n) (hk : Mf.key x = true) (hl : bs.length ≤ 100000000000) :
 Calls Tryd.prog 47 #[u, x.val] wy fun e w' => ∃ u', e = .returned u' ∧ Mf.EW w1 w' u' (bs ++ Mf.encV x) ∧ Ty.Grew wy w' u u' :=
 (Mf.appBound_c w1.heap.size u bs x wy (hT.below (h.below.trans (g.mono h.below.size)) (Ty.Tabs.two hT)) (Ty.Tabs.two hT) (h.buf.later g) (Nat.le_trans h.below.size g.size) hi hk hl).mono fun _ _ ⟨u', e1, hb, hg⟩ => ⟨u', e1, h.next g hg hb, hg⟩
theorem Mf.pa_grew {w w' : World} {u u' : Value} {q o : Nat} {p : Mf.P} (h : Mf.PA w q o p) (g : Ty.Grew w w' u u') (hn : u.ownBlock ≠ some q) : Mf.PA w' q o p ∧ u'.ownBlock ≠ some q := by
 have hs : ∀ i, w'.cell? ⟨q, i, none⟩ = w.cell? ⟨q, i, none⟩ := fun i => World.cell?_of_block (a := ⟨q, i, none⟩) (g.by_.block q h.lt (fun e => hn e.symm))
 refine ⟨⟨(hs _).trans h.c0, (hs _).trans h.c1, (hs _).trans h.c2, (hs _).trans h.c3, (hs _).trans h.c4, (hs _).trans h.c5, (hs _).trans h.c6, (hs _).trans h.c7⟩, fun e => ?_⟩
 rcases g.own with e2 | ⟨k, e2, hk⟩
 ·exact hn (e2 ▸ e)
 ·rw [e2] at e
  have := h.lt
  have := Option.some.inj e
  omega
theorem Mf.EW.off {w1 wr : World} {u : Value} {bs : List UInt8} (h : Mf.EW w1 wr u bs) {q : Nat} (hq : wr.heap.size ≤ q) : u.ownBlock ≠ some q := fun e => by
 have := (World.ownsRow.lt h.buf q e).2
 omega
theorem Mf.EW.off2 {w1 wr : World} {u : Value} {bs : List UInt8} (h : Mf.EW w1 wr u bs) {q o m c : Nat} (hq : wr.heap.size ≤ q) {α : Type} {L : List α} : L ≠ [] → ∀ b, (Value.slice (some ⟨q, o, none⟩) m c).ownBlock = some b → u.ownBlock ≠ some b := fun _ b hb => by
 obtain rfl : q = b := by simpa [Value.ownBlock] using hb
 exact h.off hq
def Mf.pre (e : Mf.E) (k : Nat) : List UInt8 := Mf.encN e.drop.length ++ e.drop.flatMap Mf.encN ++ Mf.encN e.add.length ++ (e.add.take k).flatMap Mf.encP
theorem Mf.pre_len {e : Mf.E} (h : Mf.right e = true) (k : Nat) : (Mf.pre e k).length ≤ 200000 := by
 obtain ⟨h1, h2, _, h4, _, _⟩ := (Mf.right_iff e).1 h
 have a1 := Mf.flat_len e.drop (enc := Mf.encN) (m := 9) fun x _ => Mf.encN_len x
 have a2 := Mf.flat_len (e.add.take k) (enc := Mf.encP) (m := 182) fun x hx => Mf.encP_len (h4 x (List.mem_of_mem_take hx))
 have a3 : (e.add.take k).length ≤ e.add.length := by rw [List.length_take]; omega
 have := Mf.encN_len e.drop.length
 have := Mf.encN_len e.add.length
 have := Nat.mul_le_mul_right 9 h1
 have := Nat.mul_le_mul_right 182 (Nat.le_trans a3 h2)
 unfold Mf.pre
 simp only [List.length_append]
 omega
theorem Mf.pre_step {e : Mf.E} {k : Nat} {p : Mf.P} (h : e.add[k]? = some p) : Mf.pre e (k + 1) = Mf.pre e k ++ [p.id, p.lv].flatMap Mf.encN ++ Mf.encV p.lo ++ Mf.encV p.hi := by
 unfold Mf.pre
 rw [Mf.flat_take h]
 unfold Mf.encP
 simp [List.append_assoc]
theorem Mf.pre_all (e : Mf.E) : Mf.pre e e.add.length ++ [e.floor, e.next].flatMap Mf.encN = Mf.enc e := by
 unfold Mf.pre Mf.enc
 rw [List.take_length]
 simp [List.append_assoc]
set_option maxHeartbeats 8000000 in
set_option maxRecDepth 100000 in
theorem Mf.encoding_c (vd va : Value) (e : Mf.E) (w : World) (hT : Ty.Tabs w) (hd : Mf.Is w vd e.drop) (ha : Mf.Ps w va e.add) (hr : Mf.right e = true) (hi : ∀ p ∈ e.add, p.i64) :
 Calls Tryd.prog 22 #[.agg #[vd, va, .int .i64 e.floor, .int .i64 e.next]] w fun r w' => r = .returned (.string (Ty.S (Mf.enc e))) ∧ Below w.heap.size w w' := by
 have hE := Mf.EA.new w vd va e.floor e.next 37
 have hb : Below w.heap.size w (w.alloc (.cells #[vd, va, .int .i64 e.floor, .int .i64 e.next] 37)) := (Below.refl _ w).alloc (Nat.le_refl _) _
 have hT1 := Ty.Tabs.below hT hb (Ty.Tabs.two hT)
 have hd1 := hd.kept hb
 have ha1 := ha.kept hb
 have HPL := Lib.hid (Mf.pre_len hr)
 have HPS := Lib.hid (fun (k : Nat) (p : Mf.P) => Mf.pre_step (e := e) (k := k) (p := p))
 have HP0 : Hid (Mf.pre e 0 = [(e.drop.length : Int)].flatMap Mf.encN ++ e.drop.flatMap Mf.encN ++ [(e.add.length : Int)].flatMap Mf.encN) := Lib.hid (by unfold Mf.pre; simp)
 have HPA := Lib.hid (Mf.pre_all e)
 obtain ⟨r1, r2, r3, r4, r5, r6⟩ := (Mf.right_iff e).1 hr
 have r5 := (Mf.nm_iff _).1 r5
 have r6 := (Mf.nm_iff _).1 r6
 have HR3 := Lib.hid r3
 have HR4 := Lib.hid r4
 have HI := Lib.hid hi
 have h9 := Mf.encN_flat e.drop
 have h91 := Mf.encN_flat [(e.drop.length : Int)]
 have h92 := Mf.encN_flat [(e.add.length : Int)]
 obtain ⟨D, A, fl, nx⟩ := e
 simp only at hE hb hT1 hd1 ha1 HPL HPS HP0 HPA r1 r2 r5 r6 HR3 HR4 HI h9 h91 h92 ⊢
 have HIS := Lib.hid hd1
 obtain ⟨ad, cd, rfl, -, -⟩ := hd1
 obtain ⟨aa, ca, rfl, -, ha2⟩ := ha1
 have HN : Hid (D.length ≤ 1000 ∧ A.length ≤ 1000 ∧ (D.flatMap Mf.encN).length ≤ 9000 ∧ ([(D.length : Int)].flatMap Mf.encN).length ≤ 9 ∧ ([(A.length : Int)].flatMap Mf.encN).length ≤ 9) := Lib.hid ⟨r1, r2, by omega, by simpa using h91, by simpa using h92⟩
 have HFN : Hid ((0 ≤ fl ∧ fl ≤ 999999999) ∧ (0 ≤ nx ∧ nx ≤ 999999999)) := Lib.hid ⟨r5, r6⟩
 have hsz : (w.alloc (.cells #[.slice ad D.length cd, .slice aa A.length ca, .int .i64 fl, .int .i64 nx] 37)).heap.size = w.heap.size + 1 := World.size_alloc ..
 have HB := Lib.hid hb
 have HE := Lib.hid hE
 have HT := Lib.hid hT1
 have HA : Hid (∀ W, Below (w.alloc (.cells #[.slice ad D.length cd, .slice aa A.length ca, .int .i64 fl, .int .i64 nx] 37)).heap.size (w.alloc (.cells #[.slice ad D.length cd, .slice aa A.length ca, .int .i64 fl, .int .i64 nx] 37)) W → ∀ (i : Nat) (p : Mf.P), A[i]? = some p → ∃ b o, aa = some ⟨b, o, none⟩ ∧ Mf.PA W b (o + i * 8) p) := Lib.hid fun W hW i p hp => by
  rcases ha2 with ⟨h0, -⟩ | ⟨b, o, cs, fr, rfl, -, _, h⟩
  ·rw [h0] at hp; cases hp
  ·exact ⟨b, o, rfl, (Mf.Ps.part h hp).kept hW⟩
 obtain ⟨e0, e1, e2, e3⟩ := hE
 generalize Mf.enc ⟨D, A, fl, nx⟩ = ENC at HPA ⊢
 obtain ⟨PRE, hPRE⟩ : ∃ PRE, PRE = Mf.pre ⟨D, A, fl, nx⟩ := ⟨_, rfl⟩
 rw [← hPRE] at HPL HPS HP0 HPA
 clear hT hd ha hr hi hb hT1 ha2 r1 r2 r3 r4 r5 r6 h9 h91 h92 hPRE
 go_enter Tryd.func22, Tryd.ntmps22
 go_wp2_with fail
 generalize hwo : w.alloc _ = w1 at hsz HB HE HT HA HIS e0 e1 e2 e3 ⊢
 clear hwo
 have hI1 := Mf.is_one w1 (D.length : Int)
 rw [hsz] at hI1
 have hx1 : ∀ x ∈ [(D.length : Int)], 0 ≤ x ∧ x ≤ 9223372036854775807 := fun x hx => by
  obtain rfl : x = (D.length : Int) := by simpa using hx
  have := HN.out.1
  omega
 have hx2 : ∀ x ∈ [(A.length : Int)], 0 ≤ x ∧ x ≤ 9223372036854775807 := fun x hx => by
  obtain rfl : x = (A.length : Int) := by simpa using hx
  have := HN.out.2.1
  omega
 have HX2 := Lib.hid hx2
 have E0 : Mf.EW w1 w1 (.slice none 0 0) [] := ⟨Ty.Buf.nil _ _, Below.refl _ _⟩
 have hA1 : Below w1.heap.size w1 (w1.alloc (.cells #[.int .i64 (D.length : Int)] 3)) := (Below.refl _ _).alloc (Nat.le_refl _) _
 with_reducible refine (E0.nums HT.out hA1 hI1 (fun _ _ _ e => by simp [Value.ownBlock] at e) hx1 (by simp) (by simp)).mono ?_
 rintro e w2 ⟨u2, rfl, h2, -⟩
 have E2 := Lib.hid h2
 obtain ⟨f0, f1, f2, f3⟩ := HE.out.kept h2.below
 clear e0 e1 e2 e3 hI1 E0 hA1 h2 hx1 hx2
 go_wp2_with fail
 have hoff2 : D ≠ [] → ∀ b, (Value.slice ad D.length cd).ownBlock = some b → u2.ownBlock ≠ some b := fun hL b hb e => by
  have h1 := Mf.is_lt HIS.out hL hb
  have h2 := (World.ownsRow.lt E2.out.buf b e).1
  omega
 with_reducible refine (E2.out.nums HT.out (Below.refl _ _) (HIS.out.kept E2.out.below) hoff2 (fun x hx => by have := (Mf.nm_iff _).1 (HR3.out x hx); omega) (by have := HN.out; omega) (by have := HN.out; simp only [List.nil_append]; omega)).mono ?_
 rintro e w3 ⟨u3, rfl, h3, -⟩
 have E3 := Lib.hid h3
 obtain ⟨e0, e1, e2, e3⟩ := HE.out.kept h3.below
 clear f0 f1 f2 f3 h3 hoff2
 go_wp2_with fail
 have hA3 : Below w3.heap.size w3 (w3.alloc (.cells #[.int .i64 (A.length : Int)] 3)) := (Below.refl _ _).alloc (Nat.le_refl _) _
 with_reducible refine (E3.out.nums HT.out hA3 (Mf.is_one w3 (A.length : Int)) (E3.out.off2 (Nat.le_refl _)) HX2.out (by simp) (by have := HN.out; simp only [List.nil_append, List.length_append]; omega)).mono ?_
 rintro e w4 ⟨u4, rfl, h4, -⟩
 have E4 : Hid (Mf.EW w1 w4 u4 (PRE 0)) := Lib.hid (by rw [HP0.out]; simpa [List.append_assoc] using h4)
 obtain ⟨f0, f1, f2, f3⟩ := HE.out.kept h4.below
 have hln : (A.length : Int) ≤ 1000 := by have := HN.out; omega
 clear e0 e1 e2 e3 hA3 h4
 go_wp2_with fail
 go_loopw [3, 24] (fun u i wr => ∃ k : Nat, k ≤ A.length ∧ i = .int .i64 k ∧ Mf.EW w1 wr u (PRE k)) (fun _ i _ => A.length - (intOf i).toNat)
 case atStart => exact ⟨0, Nat.zero_le _, rfl, E4.out⟩
 case round =>
  obtain ⟨k, hk, rfl, hEW⟩ := hrel
  have hk0 : (0 : Int) ≤ (k : Int) := by omega
  have HEW := Lib.hid hEW
  obtain ⟨e0, e1, e2, e3⟩ := HE.out.kept hEW.below
  clear f0 f1 f2 f3
  by_cases hkl : k < A.length
  ·have hx := List.getElem?_eq_getElem hkl
   have hmem := List.getElem_mem hkl
   generalize A[k] = p at hx hmem
   obtain ⟨b, o, rfl, hp⟩ := HA.out _ hEW.below k p hx
   obtain ⟨p0, p1, p2, p3, p4, p5, p6, p7⟩ := hp
   have hpi := HI.out p hmem
   obtain ⟨g1, g2, g3, g4, _⟩ := Mf.part_is (HR4.out p hmem)
   have HST := Lib.hid (HPS.out k p hx)
   have HPK := Lib.hid (HPL.out k)
   have HPK1 : Hid ((PRE k ++ [p.id, p.lv].flatMap Mf.encN).length ≤ 200018) := Lib.hid (by have := Mf.encN_flat [p.id, p.lv]; have := HPK.out; rw [List.length_append]; simp only [List.length_cons, List.length_nil] at *; omega)
   have HPK2 : Hid ((PRE k ++ [p.id, p.lv].flatMap Mf.encN ++ Mf.encV p.lo).length ≤ 200100) := Lib.hid (by have := Mf.encV_len g3; have := HPK1.out; rw [List.length_append]; omega)
   have HG : Hid ((0 ≤ p.id ∧ p.id ≤ 999999999) ∧ (0 ≤ p.lv ∧ p.lv ≤ 3)) := Lib.hid ⟨g1, g2⟩
   have HIP := Lib.hid hpi
   have HKY := Lib.hid (And.intro g3 g4)
   have hki : (k : Int) < (A.length : Int) := by omega
   have hPN := Mf.PA.new wr p 44
   have hAP : Below wr.heap.size wr (wr.alloc (.cells (Mf.cs p) 44)) := (Below.refl _ _).alloc (Nat.le_refl _) _
   have hsp : (wr.alloc (.cells (Mf.cs p) 44)).heap.size = wr.heap.size + 1 := World.size_alloc ..
   have hI2 := Mf.is_two (wr.alloc (.cells (Mf.cs p) 44)) p.id p.lv
   rw [hsp] at hI2
   have C1 := hEW.nums HT.out (hAP.alloc (by omega) (.cells #[.int .i64 p.id, .int .i64 p.lv] 3)) hI2 (hEW.off2 (Nat.le_succ _)) (fun x hx => by
    have := HG.out
    rcases List.mem_cons.1 hx with rfl | hx
    ·omega
    ·obtain rfl : x = p.lv := by simpa using hx
     omega) (by simp) (by have := HPK.out; omega)
   have CB := Lib.hid fun (W : World) (u : Value) (h : Mf.EW w1 W u (PRE k ++ [p.id, p.lv].flatMap Mf.encN)) => h.bound HT.out (Below.refl _ _) HIP.out.1 HKY.out.1 (by have := HPK1.out; omega)
   have CC := Lib.hid fun (W : World) (u : Value) (h : Mf.EW w1 W u (PRE k ++ [p.id, p.lv].flatMap Mf.encN ++ Mf.encV p.lo)) => h.bound HT.out (Below.refl _ _) HIP.out.2 HKY.out.2 (by have := HPK2.out; omega)
   have HPN2 := Lib.hid (hPN.kept ((Below.refl _ (wr.alloc (.cells (Mf.cs p) 44))).alloc (Nat.le_refl _) (.cells #[.int .i64 p.id, .int .i64 p.lv] 3)))
   have HOF := Lib.hid (hEW.off (Nat.le_refl _))
   clear hx hmem hpi g1 g2 g3 g4 hPN hAP hsp hI2 hEW
   go_wp2_with fail
   with_reducible refine C1.mono ?_
   rintro e w5 ⟨u5, rfl, h5, G5⟩
   have H5 := Lib.hid h5
   have P5 := Lib.hid (Mf.pa_grew HPN2.out G5 HOF.out)
   have CB5 := CB.out w5 u5 h5
   obtain ⟨q0, q1, q2, q3, q4, q5, q6, q7⟩ := P5.out.1
   clear C1 h5 G5
   go_wp2_with fail
   with_reducible refine CB5.mono ?_
   rintro e w6 ⟨u6, rfl, h6, G6⟩
   have P6 := Lib.hid (Mf.pa_grew P5.out.1 G6 P5.out.2)
   have CC6 := CC.out w6 u6 h6
   clear q0 q1 q2 q3 q4 q5 q6 q7
   obtain ⟨q0, q1, q2, q3, q4, q5, q6, q7⟩ := P6.out.1
   clear CB5 h6 G6
   go_wp2_with fail
   with_reducible refine CC6.mono ?_
   rintro e w7 ⟨u7, rfl, h7, -⟩
   have H7 := Lib.hid h7
   clear CC6 h7
   go_wp2
   go_roundw
   case rel => exact ⟨k + 1, by omega, by simp, by rw [HST.out]; exact H7.out⟩
   case measure => simp [intOf]; omega
  ·obtain rfl : k = A.length := by omega
   have hki : ¬ (A.length : Int) < (A.length : Int) := by omega
   have hA4 : Below wr.heap.size wr (wr.alloc (.cells #[.int .i64 fl, .int .i64 nx] 3)) := (Below.refl _ _).alloc (Nat.le_refl _) _
   have C1 := hEW.nums HT.out hA4 (Mf.is_two wr fl nx) (hEW.off2 (Nat.le_refl _)) (fun x hx => by
    have := HFN.out
    rcases List.mem_cons.1 hx with rfl | hx
    ·omega
    ·obtain rfl : x = nx := by simpa using hx
     omega) (by simp) (by have := HPL.out A.length; omega)
   rw [HPA.out] at C1
   clear hk hkl hEW hA4
   go_wp2_with fail
   with_reducible refine C1.mono ?_
   rintro e w5 ⟨u5, rfl, h5, -⟩
   have hst := h5.buf.str
   have HB5 := Lib.hid (HB.out.trans (h5.below.mono HB.out.size))
   clear h5 C1
   go_wp2
   go_ret
   exact ⟨rfl, HB5.out⟩
end
section
open Go.RowKit
theorem Mf.S_add (a b : List UInt8) : Ty.S a ++ Ty.S b = Ty.S (a ++ b) := by
 apply ByteArray.ext
 apply Array.toList_inj.1
 rw [ByteArray.data_append, Array.toList_append]
 simp [Ty.S]
def Mf.wV (e : Mf.E) : Value := if Mf.right e = true then .tuple #[.string (Ty.S (Fr.frm (Mf.enc e))), .int .i64 0] else .tuple #[.string (Ty.S []), .int .i64 1]
set_option maxHeartbeats 4000000 in
set_option maxRecDepth 100000 in
theorem Mf.write_c (vd va : Value) (e : Mf.E) (w : World) (hT : Ty.Tabs w) (hd : Mf.Is w vd e.drop) (ha : Mf.Ps w va e.add) (hi : ∀ p ∈ e.add, p.i64) :
 Calls Tryd.prog 9 #[.agg #[vd, va, .int .i64 e.floor, .int .i64 e.next]] w fun r w' => r = .returned (Mf.wV e) ∧ Below w.heap.size w w' := by
 have hE := Mf.EA.new w vd va e.floor e.next 37
 have hb : Below w.heap.size w (w.alloc (.cells #[vd, va, .int .i64 e.floor, .int .i64 e.next] 37)) := (Below.refl _ w).alloc (Nat.le_refl _) _
 have CR := Lib.hid fun (W : World) (g : Below w.heap.size w W) => Mf.rightEdit_c vd va e W (hd.kept g) (ha.kept g)
 have CE := Lib.hid fun (hr : Mf.right e = true) (W : World) (g : Below w.heap.size w W) => Mf.encoding_c vd va e W (hT.below g (Ty.Tabs.two hT)) (hd.kept g) (ha.kept g) hr hi
 have CF := Lib.hid fun (hr : Mf.right e = true) (W : World) => Fr.write_c (Ty.S (Mf.enc e)) (by have := Mf.enc_len hr; rw [Ty.size_S]; omega) W rfl
 have HVY : Hid (Mf.right e = true → Mf.wV e = .tuple #[.string (Ty.S (Fr.frm (Mf.enc e))), .int .i64 0]) := Lib.hid fun h => by unfold Mf.wV; rw [if_pos h]
 have HVN : Hid (Mf.right e = false → Mf.wV e = .tuple #[.string (Ty.S []), .int .i64 1]) := Lib.hid fun h => by unfold Mf.wV; rw [if_neg (by rw [h]; decide)]
 obtain ⟨D, A, fl, nx⟩ := e
 simp only at hE hb CR CE CF ⊢
 obtain ⟨ad, cd, rfl, -, -⟩ := hd
 obtain ⟨aa, ca, rfl, -, -⟩ := ha
 have HB := Lib.hid hb
 have HE := Lib.hid hE
 obtain ⟨e0, e1, e2, e3⟩ := hE
 rw [show Ty.S (Fr.frm (Ty.S (Mf.enc ⟨D, A, fl, nx⟩)).data.toList) = Ty.S (Fr.frm (Mf.enc ⟨D, A, fl, nx⟩)) by rw [Ty.data_S]] at CF
 generalize Mf.wV ⟨D, A, fl, nx⟩ = V at HVY HVN ⊢
 generalize Mf.right ⟨D, A, fl, nx⟩ = R at CR CE CF HVY HVN
 generalize Ty.S (Fr.frm (Mf.enc ⟨D, A, fl, nx⟩)) = M at CF HVY
 generalize Ty.S (Mf.enc ⟨D, A, fl, nx⟩) = T at CE CF
 clear hT hi hb
 cases R
 ·have HV := Lib.hid (HVN.out rfl)
  go_enter Tryd.func9, Tryd.ntmps9
  go_wp2_with fail
  with_reducible refine (CR.out _ HB.out).mono ?_
  rintro e w1 ⟨rfl, g1⟩
  have HB1 := Lib.hid (HB.out.trans (g1.mono HB.out.size))
  clear g1
  go_wp2
  go_ret2
  exact ⟨by rw [HV.out]; rfl, HB1.out⟩
 ·have HV := Lib.hid (HVY.out rfl)
  have CE2 := Lib.hid (CE.out rfl)
  have CF2 := Lib.hid (CF.out rfl)
  clear HVN HVY CE CF
  go_enter Tryd.func9, Tryd.ntmps9
  go_wp2_with fail
  with_reducible refine (CR.out _ HB.out).mono ?_
  rintro e w1 ⟨rfl, g1⟩
  have HB1 := Lib.hid (HB.out.trans (g1.mono HB.out.size))
  obtain ⟨f0, f1, f2, f3⟩ := HE.out.kept g1
  clear g1 e0 e1 e2 e3
  go_wp2_with fail
  with_reducible refine (CE2.out _ HB1.out).mono ?_
  rintro e w2 ⟨rfl, g2⟩
  have HB2 := Lib.hid (HB1.out.trans (g2.mono HB1.out.size))
  clear g2
  go_wp2_with fail
  with_reducible refine (CF2.out _).mono ?_
  rintro e w3 ⟨rfl, g3⟩
  have HB3 := Lib.hid (HB2.out.trans (g3.mono HB2.out.size))
  clear g3
  go_wp2
  go_ret2
  exact ⟨by rw [HV.out]; rfl, HB3.out⟩
end
section
open Go.RowKit Go.ChangeShapes Go.WideShapes Go.ChangeAt Go.Deep
section
variable {H : Type} {enc : TypeId × Value → H} {W : World}
theorem Mf.bulk_pos (d : DataW H) : 1 ≤ Rows.uptoBulk d := by
 unfold Rows.uptoBulk
 split <;> omega
theorem Mf.bulk_all : ∀ ds : List (DataW H), ds.length ≤ Rows.uptoBulkAll ds
 | [] => by simp [Rows.uptoBulkAll]
 | d :: ds => by
   have h1 := Mf.bulk_pos d
   have h2 := Mf.bulk_all ds
   simp only [Rows.uptoBulkAll, List.length_cons]
   omega
theorem Mf.heap_of_cell {w : World} {b o : Nat} {v : Value} (h : w.cell? ⟨b, o, none⟩ = some v) : ∃ (cs : Array Value) (fr : TypeId × (Nat × Nat)), w.heap[b]? = some (.cells cs fr.1 fr.2) := by
 unfold World.cell? at h
 cases hb : w.heap[b]? with
 | none => simp [hb] at h
 | some x =>
   cases x with
   | cells cs t f => exact ⟨cs, (t, f), rfl⟩
   | _ => simp [hb] at h
set_option maxRecDepth 100000 in
theorem Mf.open_sl {α : Type} {T e : TypeId} {k : Nat} {en : α → List Value} {Q : α → Prop} (hT : Tryd.prog.underlying T = some (.slice e)) (hC : Tryd.prog.cellsOf e = k) (hk : 0 < k) (hlen : ∀ x, (en x).length = k) (d0 : α)
 (hop : ∀ {fuel : Nat} {cs : List Value} {z : DataW H × List MemPlace}, DataW.trod enc Tryd.prog W 0 (fun _ => true) true fuel e cs = some z → ∃ x, cs = en x ∧ Q x)
 {fuel : Nat} {c1 : Value} {z : DataW H × List MemPlace} (h : DataW.trod enc Tryd.prog W 0 (fun _ => true) true fuel T [c1] = some z) :
 ∃ L : List α, Mf.At k en W c1 L ∧ (∀ x ∈ L, Q x) ∧ L.length + 1 ≤ Rows.uptoBulk z.1 := by
 rcases open_slice hT h with ⟨hcs, hx⟩ | ⟨a, len, cap, m, n, D, Pl, hcs, _, hl, hm, hmm, hx, hi⟩
 ·obtain rfl : c1 = .slice none 0 0 := by simpa using hcs
  exact ⟨[], Mf.At.nil _, (fun x hx => nomatch hx), Mf.bulk_pos _⟩
 ·obtain rfl : c1 = .slice (some a) len cap := by simpa using hcs
  simp only [if_true] at hmm
  have hz1 : z.1 = .slice ((List.range len).map D) ((List.range (m - len)).map fun j => D (len + j)) := by rw [hx]
  have hbk : len + 1 ≤ Rows.uptoBulk z.1 := by
   rw [hz1]
   have := Mf.bulk_all ((List.range len).map D)
   simp only [List.length_map, List.length_range] at this
   simp only [Rows.uptoBulk]
   omega
  by_cases hz : len = 0
  ·subst hz
   exact ⟨[], ⟨some a, cap, rfl, Nat.zero_le _, .inl ⟨rfl, fun e => nomatch e⟩⟩, (fun x hx => nomatch hx), hbk⟩
  ·rw [hC] at hi
   have hone : ∀ i, i < len → ∃ x, (∀ j, j < k → W.cell? (a.add (i * k + j)) = (en x)[j]?) ∧ Q x := fun i hil => by
    obtain ⟨cs', hc, ht⟩ := hi i (by omega)
    obtain ⟨x, rfl, hq⟩ := hop ht
    obtain ⟨hcl, _, hat⟩ := World.cells?_some hc
    refine ⟨x, fun j hj => ?_, hq⟩
    have aj := hat j hj
    rw [add_add] at aj
    exact aj
   have hsome : ∃ v, W.cell? (a.add 0) = some v := by
    obtain ⟨x, h0, _⟩ := hone 0 (by omega)
    have := h0 0 hk
    rw [List.getElem?_eq_getElem (by rw [hlen]; exact hk)] at this
    rw [Nat.zero_mul, Nat.zero_add] at this
    exact ⟨_, this⟩
   obtain ⟨v0, hv0⟩ := hsome
   obtain ⟨b, off, spot⟩ := a
   have hspot : spot = none := by simpa [Addr.add] using World.cell?_spot hv0
   subst hspot
   rw [add_plain] at hv0
   obtain ⟨hcs0, hfr, hheap⟩ := Mf.heap_of_cell hv0
   have hch : ∃ f : Nat → α, ∀ i, i < len → (∀ j, j < k → W.cell? ⟨b, off + i * k + j, none⟩ = (en (f i))[j]?) ∧ Q (f i) := by
    have hone' : ∀ i, i < len → ∃ x, (∀ j, j < k → W.cell? ⟨b, off + i * k + j, none⟩ = (en x)[j]?) ∧ Q x := fun i hil => by
     obtain ⟨x, h1, h2⟩ := hone i hil
     refine ⟨x, fun j hj => ?_, h2⟩
     have := h1 j hj
     rw [add_plain, ← Nat.add_assoc] at this
     exact this
    refine ⟨fun i => if hil : i < len then (hone' i hil).choose else d0, fun i hil => ?_⟩
    have hs := (hone' i hil).choose_spec
    simp only [dif_pos hil]
    exact hs
   obtain ⟨f, hf'⟩ := hch
   have hlen2 : ((List.range len).map f).length = len := by simp
   refine ⟨(List.range len).map f, ⟨some ⟨b, off, none⟩, cap, by rw [hlen2], by rw [hlen2]; exact hl, .inr ⟨b, off, hcs0, hfr, rfl, trivial, hheap, fun i j x hix hj => ?_⟩⟩, fun x hx => ?_, by rw [hlen2]; exact hbk⟩
   ·rw [List.getElem?_map, Option.map_eq_some_iff] at hix
    obtain ⟨i', hi', rfl⟩ := hix
    obtain ⟨hil, rfl⟩ := List.getElem?_eq_some_iff.1 hi'
    rw [List.getElem_range]
    rw [List.length_range] at hil
    exact (hf' i hil).1 j hj
   ·obtain ⟨i, hi, rfl⟩ := List.mem_map.1 hx
    exact (hf' i (List.mem_range.1 hi)).2
theorem Mf.open_int {fuel : Nat} {cs : List Value} {z : DataW H × List MemPlace} (h : DataW.trod enc Tryd.prog W 0 (fun _ => true) true fuel 3 cs = some z) : ∃ x : Int, cs = Mf.ic x ∧ Ty.I64 x := by
 obtain ⟨n, e1, r1, w1⟩ := DataW.trod_int Tryd.underlying3 h
 exact ⟨n, e1, bounds_i64 w1⟩
set_option maxRecDepth 100000 in
theorem Mf.open_value {fuel : Nat} {cs : List Value} {z : DataW H × List MemPlace} (h : DataW.trod enc Tryd.prog W 0 (fun _ => true) true fuel 42 cs = some z) :
 ∃ x : Kn.V, cs = [.bool x.null, .int .i64 x.n, .string x.s] ∧ Ty.I64 x.n := by
 obtain ⟨xs, f', _, hx, hcl, hxl, hg⟩ := DataW.trod_struct Tryd.underlying42 h
 have hC : Tryd.prog.cellsOf 42 = 3 := by kernel_rfl
 have i3 : Tryd.prog.cellsOf 4 = 1 := by kernel_rfl
 have i2 : Tryd.prog.cellsOf 2 = 1 := by kernel_rfl
 have i9 : Tryd.prog.cellsOf 9 = 1 := by kernel_rfl
 rw [hC] at hcl
 match cs, hcl, xs, hxl with
 | [c0, c1, c2], _, [y0, y1, y2], _ =>
   have g0 : DataW.trod enc Tryd.prog W 0 (fun _ => true) true f' 4 ((List.drop 0 [c0, c1, c2]).take (Tryd.prog.cellsOf 4)) = some y0 := hg 0 _ rfl
   have g1 : DataW.trod enc Tryd.prog W 0 (fun _ => true) true f' 2 ((List.drop 1 [c0, c1, c2]).take (Tryd.prog.cellsOf 2)) = some y1 := hg 1 _ rfl
   have g2 : DataW.trod enc Tryd.prog W 0 (fun _ => true) true f' 9 ((List.drop 2 [c0, c1, c2]).take (Tryd.prog.cellsOf 9)) = some y2 := hg 2 _ rfl
   rw [i3] at g0
   rw [i2] at g1
   rw [i9] at g2
   obtain ⟨k, e0, r0⟩ := DataW.trod_bool Tryd.underlying4 (show DataW.trod enc Tryd.prog W 0 (fun _ => true) true f' 4 [c0] = some y0 from g0)
   obtain ⟨n, e1, r1, w1⟩ := DataW.trod_int Tryd.underlying2 (show DataW.trod enc Tryd.prog W 0 (fun _ => true) true f' 2 [c1] = some y1 from g1)
   obtain ⟨s, e2, r2, _⟩ := DataW.trod_string Tryd.underlying9 (show DataW.trod enc Tryd.prog W 0 (fun _ => true) true f' 9 [c2] = some y2 from g2)
   simp only [List.cons.injEq, and_true] at e0 e1 e2
   subst e0 e1 e2
   exact ⟨⟨k, n, s⟩, rfl, bounds_i64 w1⟩
set_option maxRecDepth 100000 in
theorem Mf.open_part {fuel : Nat} {cs : List Value} {z : DataW H × List MemPlace} (h : DataW.trod enc Tryd.prog W 0 (fun _ => true) true fuel 44 cs = some z) :
 ∃ p : Mf.P, cs = Mf.pc p ∧ ((Ty.I64 p.lo.n ∧ Ty.I64 p.hi.n) ∧ Ty.I64 p.id) := by
 obtain ⟨xs, f', _, hx, hcl, hxl, hg⟩ := DataW.trod_struct Tryd.underlying44 h
 have hC : Tryd.prog.cellsOf 44 = 8 := by kernel_rfl
 have i2 : Tryd.prog.cellsOf 3 = 1 := by kernel_rfl
 have i9 : Tryd.prog.cellsOf 42 = 3 := by kernel_rfl
 rw [hC] at hcl
 match cs, hcl, xs, hxl with
 | [c0, c1, c2, c3, c4, c5, c6, c7], _, [y0, y1, y2, y3], _ =>
   have g0 : DataW.trod enc Tryd.prog W 0 (fun _ => true) true f' 3 ((List.drop 0 [c0, c1, c2, c3, c4, c5, c6, c7]).take (Tryd.prog.cellsOf 3)) = some y0 := hg 0 _ rfl
   have g1 : DataW.trod enc Tryd.prog W 0 (fun _ => true) true f' 3 ((List.drop 1 [c0, c1, c2, c3, c4, c5, c6, c7]).take (Tryd.prog.cellsOf 3)) = some y1 := hg 1 _ rfl
   have g2 : DataW.trod enc Tryd.prog W 0 (fun _ => true) true f' 42 ((List.drop 2 [c0, c1, c2, c3, c4, c5, c6, c7]).take (Tryd.prog.cellsOf 42)) = some y2 := hg 2 _ rfl
   have g3 : DataW.trod enc Tryd.prog W 0 (fun _ => true) true f' 42 ((List.drop 5 [c0, c1, c2, c3, c4, c5, c6, c7]).take (Tryd.prog.cellsOf 42)) = some y3 := hg 3 _ rfl
   rw [i2] at g0 g1
   rw [i9] at g2 g3
   obtain ⟨x0, e0, w0⟩ := Mf.open_int (show DataW.trod enc Tryd.prog W 0 (fun _ => true) true f' 3 [c0] = some y0 from g0)
   obtain ⟨x1, e1, w1⟩ := Mf.open_int (show DataW.trod enc Tryd.prog W 0 (fun _ => true) true f' 3 [c1] = some y1 from g1)
   obtain ⟨x2, e2, w2⟩ := Mf.open_value (show DataW.trod enc Tryd.prog W 0 (fun _ => true) true f' 42 [c2, c3, c4] = some y2 from g2)
   obtain ⟨x3, e3, w3⟩ := Mf.open_value (show DataW.trod enc Tryd.prog W 0 (fun _ => true) true f' 42 [c5, c6, c7] = some y3 from g3)
   unfold Mf.ic at e0 e1
   simp only [List.cons.injEq, and_true] at e0 e1 e2 e3
   obtain ⟨rfl, rfl, rfl⟩ := e2
   obtain ⟨rfl, rfl, rfl⟩ := e3
   subst e0 e1
   exact ⟨⟨x0, x1, x2, x3⟩, rfl, ⟨w2, w3⟩, w0⟩
def Mf.ok9 (p : Mf.P) : Prop := (Ty.I64 p.lo.n ∧ Ty.I64 p.hi.n) ∧ Ty.I64 p.id
theorem Mf.open_parts {fuel : Nat} {c1 : Value} {z : DataW H × List MemPlace} (h : DataW.trod enc Tryd.prog W 0 (fun _ => true) true fuel 23 [c1] = some z) :
 ∃ L : List Mf.P, Mf.Ps W c1 L ∧ (∀ p ∈ L, Mf.ok9 p) ∧ L.length + 1 ≤ Rows.uptoBulk z.1 :=
 Mf.open_sl (Q := Mf.ok9) Tryd.underlying23 (by kernel_rfl) (by decide) Mf.pc_len ⟨0, 0, ⟨false, 0, ⟨#[]⟩⟩, ⟨false, 0, ⟨#[]⟩⟩⟩ (fun h => Mf.open_part h) h
theorem Mf.open_ints {fuel : Nat} {c1 : Value} {z : DataW H × List MemPlace} (h : DataW.trod enc Tryd.prog W 0 (fun _ => true) true fuel 32 [c1] = some z) :
 ∃ L : List Int, Mf.Is W c1 L := by
 obtain ⟨L, h1, _⟩ := Mf.open_sl (Q := Ty.I64) Tryd.underlying32 (by kernel_rfl) (by decide) Mf.ic_len (0 : Int) (fun h => Mf.open_int h) h
 exact ⟨L, h1⟩
set_option maxRecDepth 100000 in
theorem Mf.open_edit_cells {fuel : Nat} {cs : List Value} {z : DataW H × List MemPlace} (h : DataW.trod enc Tryd.prog W 0 (fun _ => true) true fuel 37 cs = some z) :
 ∃ (e : Mf.E) (vd va : Value), cs = [vd, va, .int .i64 e.floor, .int .i64 e.next] ∧ Mf.Is W vd e.drop ∧ Mf.Ps W va e.add ∧ ∀ p ∈ e.add, Mf.ok9 p := by
 obtain ⟨xs, f', _, hx, hcl, hxl, hg⟩ := DataW.trod_struct Tryd.underlying37 h
 have hC : Tryd.prog.cellsOf 37 = 4 := by kernel_rfl
 have i2 : Tryd.prog.cellsOf 3 = 1 := by kernel_rfl
 have i0 : Tryd.prog.cellsOf 32 = 1 := by kernel_rfl
 have i1 : Tryd.prog.cellsOf 23 = 1 := by kernel_rfl
 rw [hC] at hcl
 match cs, hcl, xs, hxl with
 | [c0, c1, c2, c3], _, [y0, y1, y2, y3], _ =>
   have g0 : DataW.trod enc Tryd.prog W 0 (fun _ => true) true f' 32 ((List.drop 0 [c0, c1, c2, c3]).take (Tryd.prog.cellsOf 32)) = some y0 := hg 0 _ rfl
   have g1 : DataW.trod enc Tryd.prog W 0 (fun _ => true) true f' 23 ((List.drop 1 [c0, c1, c2, c3]).take (Tryd.prog.cellsOf 23)) = some y1 := hg 1 _ rfl
   have g2 : DataW.trod enc Tryd.prog W 0 (fun _ => true) true f' 3 ((List.drop 2 [c0, c1, c2, c3]).take (Tryd.prog.cellsOf 3)) = some y2 := hg 2 _ rfl
   have g3 : DataW.trod enc Tryd.prog W 0 (fun _ => true) true f' 3 ((List.drop 3 [c0, c1, c2, c3]).take (Tryd.prog.cellsOf 3)) = some y3 := hg 3 _ rfl
   rw [i0] at g0
   rw [i1] at g1
   rw [i2] at g2 g3
   obtain ⟨D, hD⟩ := Mf.open_ints (show DataW.trod enc Tryd.prog W 0 (fun _ => true) true f' 32 [c0] = some y0 from g0)
   obtain ⟨A, hA, hA9, _⟩ := Mf.open_parts (show DataW.trod enc Tryd.prog W 0 (fun _ => true) true f' 23 [c1] = some y1 from g1)
   obtain ⟨x2, e2, _⟩ := Mf.open_int (show DataW.trod enc Tryd.prog W 0 (fun _ => true) true f' 3 [c2] = some y2 from g2)
   obtain ⟨x3, e3, _⟩ := Mf.open_int (show DataW.trod enc Tryd.prog W 0 (fun _ => true) true f' 3 [c3] = some y3 from g3)
   unfold Mf.ic at e2 e3
   simp only [List.cons.injEq, and_true] at e2 e3
   subst e2 e3
   exact ⟨⟨D, A, x2, x3⟩, c0, c1, rfl, hD, hA, hA9⟩
end
end
section
open Go Go.RowKit
theorem Mf.sets_heap {q j : Nat} (hj : j ≠ q) : ∀ (L : List (Nat × Value)) (w : World), (Mf.sets q w L).heap[j]? = w.heap[j]?
 | [], _ => rfl
 | x :: L, w => (Mf.sets_heap hj L _).trans (Below.heap_setCell _ _ _ _ (by show j ≠ q; exact hj))
theorem Mf.sX_is {s s1 s2 s3 s4 s5 s6 : Mf.St} {n m f x : Int} {D : List Int} {A : List Mf.P} (h1 : Mf.sC 1000 s = (n, s1)) (h2 : Mf.sL (Mf.sC 999999999) n.toNat s1 = (D, s2)) (h3 : Mf.sC 1000 s2 = (m, s3)) (h4 : Mf.sL Mf.sP m.toNat s3 = (A, s4)) (h5 : Mf.sC 999999999 s4 = (f, s5)) (h6 : Mf.sC 999999999 s5 = (x, s6)) :
 Mf.sX s = ((n, m, ⟨D, A, f, x⟩), s6) := by
 unfold Mf.sX Mf.sb Mf.sp
 simp only [h1, h2, h3, h4, h5, h6]
theorem Mf.num_c (r b : Nat) (s : Mf.St) (most : Nat) (w : World) (h : Mf.Rdr r b w s) (hm : most ≤ 999999999) (x : Int) (s' : Mf.St) (hx : Mf.sC most s = (x, s')) (z : Int) (hz : z = (most : Int)) :
 Calls Tryd.prog 51 #[.pointer (some ⟨r, 0, none⟩), .int .i64 z] w (Mf.Went r b w (.int .i64 x) s') := by
 subst hz
 have := Mf.number_c r b s most w h hm
 rw [hx] at this
 exact this
def Mf.GotE (r b : Nat) (w : World) (X : (Int × Int × Mf.E) × Mf.St) (e : Ending) (w' : World) : Prop :=
 ∃ vd va, e = .returned (.agg #[vd, va, .int .i64 X.1.2.2.floor, .int .i64 X.1.2.2.next]) ∧ Mf.Oi w.heap.size w' vd X.1.2.2.drop ∧ Mf.Ow w.heap.size w' va X.1.2.2.add ∧ Mf.Rdr r b w' X.2 ∧ Mf.By2 r b w w'
set_option maxHeartbeats 8000000 in
set_option maxRecDepth 100000 in
theorem Mf.edit_c (r b : Nat) (s : Mf.St) (w : World) (h : Mf.Rdr r b w s) :
 Calls Tryd.prog 29 #[.pointer (some ⟨r, 0, none⟩)] w (Mf.GotE r b w (Mf.sX s)) := by
 obtain ⟨⟨n, s1⟩, h1⟩ : ∃ x, Mf.sC 1000 s = x := ⟨_, rfl⟩
 obtain ⟨N, hN, hN9⟩ := Mf.sC_nat 1000 s
 rw [h1] at hN
 simp only at hN
 subst hN
 obtain ⟨⟨D, s2⟩, h2⟩ : ∃ x, Mf.sL (Mf.sC 999999999) N s1 = x := ⟨_, rfl⟩
 obtain ⟨⟨m, s3⟩, h3⟩ : ∃ x, Mf.sC 1000 s2 = x := ⟨_, rfl⟩
 obtain ⟨K, hK, hK9⟩ := Mf.sC_nat 1000 s2
 rw [h3] at hK
 simp only at hK
 subst hK
 obtain ⟨⟨A, s4⟩, h4⟩ : ∃ x, Mf.sL Mf.sP K s3 = x := ⟨_, rfl⟩
 obtain ⟨⟨fl, s5⟩, h5⟩ : ∃ x, Mf.sC 999999999 s4 = x := ⟨_, rfl⟩
 obtain ⟨⟨nx, s6⟩, h6⟩ : ∃ x, Mf.sC 999999999 s5 = x := ⟨_, rfl⟩
 rw [Mf.sX_is h1 (by rw [Int.toNat_natCast]; exact h2) h3 (by rw [Int.toNat_natCast]; exact h4) h5 h6]
 have K1 := Lib.hid fun (W : World) (g : Mf.Rdr r b W s) => Mf.num_c r b s 1000 W g (by decide) _ _ h1 1000 rfl
 have K3 := Lib.hid fun (W : World) (g : Mf.Rdr r b W s2) => Mf.num_c r b s2 1000 W g (by decide) _ _ h3 1000 rfl
 have K5 := Lib.hid fun (W : World) (g : Mf.Rdr r b W s4) => Mf.num_c r b s4 999999999 W g (by decide) _ _ h5 999999999 rfl
 have K6 := Lib.hid fun (W : World) (g : Mf.Rdr r b W s5) => Mf.num_c r b s5 999999999 W g (by decide) _ _ h6 999999999 rfl
 have H2 := Lib.hid h2
 have H4 := Lib.hid h4
 have hlt := h.lt
 obtain ⟨w2, hw2⟩ : ∃ w2, w2 = (w.alloc (.cells Mf.z4 37)).alloc (.cells Mf.z4 37) := ⟨_, rfl⟩
 have hA1 : Below w.heap.size w (w.alloc (.cells Mf.z4 37)) := (Below.refl _ _).alloc (Nat.le_refl _) _
 have hA : Below w.heap.size w w2 := by rw [hw2]; exact hA1.alloc hA1.size _
 have hsz : (w.alloc (.cells Mf.z4 37)).heap.size = w.heap.size + 1 := World.size_alloc ..
 have hb1 := heap_alloc_new (w.alloc (.cells Mf.z4 37)) (.cells Mf.z4 37)
 rw [hsz, ← hw2] at hb1
 have hb0 : w2.heap[w.heap.size]? = some (.cells Mf.z4 37 (0, 0)) := by
  rw [hw2]
  exact (((Below.refl _ (w.alloc (.cells Mf.z4 37))).alloc (Nat.le_refl _) (.cells Mf.z4 37)).block w.heap.size (by rw [hsz]; omega)).trans (heap_alloc_new w _)
 have X2 := Lib.hid (Mf.XB.mk (vd := .slice none 0 0) (va := .slice none 0 0) (f := 0) (n := 0) (h.kept hA) (Mf.By2.ofBelow (r := r) (b := b) hA) hb1 hb0 (Mf.Oi.nil _ _) (Mf.Ow.nil _ _) (Nat.le_refl _) hlt.1 hlt.2 (by rw [hw2, World.size_alloc, hsz]; omega))
 unfold Mf.z4 at hw2
 have hN0 : (N : Int) ≤ 1000 := by omega
 have hK0 : (K : Int) ≤ 1000 := by omega
 clear h h1 h2 h3 h4 h5 h6 hA1 hA hsz hb1 hb0
 go_enter Tryd.func29, Tryd.ntmps29
 go_wp2_with fail
 rw [← hw2]
 clear hw2
 with_reducible refine (K1.out w2 X2.out.rdr).mono ?_
 rintro e w3 hg
 have X3 := Lib.hid (X2.out.went hg)
 obtain ⟨rfl, -, -⟩ := hg
 clear K1 X2
 go_wp2_with fail
 go_loopw [6] (fun i wr => ∃ (k : Nat) (vd : Value) (M : List Int) (sk : Mf.St), k ≤ N ∧ i = .int .i64 k ∧ Mf.XB r b w.heap.size w wr vd (.slice none 0 0) 0 0 M [] sk ∧ (M ++ (Mf.sL (Mf.sC 999999999) (N - k) sk).1, (Mf.sL (Mf.sC 999999999) (N - k) sk).2) = (D, s2) ∧ M.length = k) (fun i _ => N - (intOf i).toNat)
 case atStart => exact ⟨0, _, [], s1, Nat.zero_le _, rfl, X3.out, H2.out, rfl⟩
 case round =>
  obtain ⟨k, vd, M, sk, hk, rfl, hX, hq, hl⟩ := hrel
  have hk0 : (0 : Int) ≤ (k : Int) := by omega
  have XR := Lib.hid hX
  by_cases hkl : k < N
  ·obtain ⟨⟨x, sx⟩, hx⟩ : ∃ x, Mf.sC 999999999 sk = x := ⟨_, rfl⟩
   have hst := Mf.sL_step (Mf.sC 999999999) hkl sk M
   rw [hx] at hst
   have HNX : Hid ((M ++ [x] ++ (Mf.sL (Mf.sC 999999999) (N - (k + 1)) sx).1, (Mf.sL (Mf.sC 999999999) (N - (k + 1)) sx).2) = (D, s2)) := Lib.hid (hst.symm.trans hq)
   have HLN := Lib.hid hl
   have hki : (k : Int) < (N : Int) := by omega
   have HDR : Hid (Below wr.heap.size wr wr.drew) := Lib.hid (Kn.below_drewN (Below.refl _ _) 1)
   have CN := Lib.hid (Mf.num_c r b sk 999999999 wr.drew (hX.rdr.kept HDR.out) (by decide) _ _ hx 999999999 rfl)
   have XD := Lib.hid (hX.kept HDR.out)
   have e0 := (Mf.quad XD.out.box).1.1
   clear hst hx hq hl hX
   go_wp2_with fail
   go_region_law
    (first
     | (go_simp; go_at_call 51; (with_reducible refine CN.out.mono ?_); rintro e w4 hg; have XE := Lib.hid (XD.out.went hg); obtain ⟨rfl, -, -⟩ := hg; have XA := Lib.hid (XE.out.kept ((Below.refl w4.heap.size w4).alloc (Nat.le_refl _) (.cells #[.int .i64 x] 3))); have e1 := (Mf.quad XE.out.box).1.1; have e2 := (Mf.quad XA.out.box).1.1; have HSR := Lib.hid (Dk.src_one (enc := Mf.ic) w4 x #[.int .i64 x] rfl 3); have HSZ := Lib.hid XA.out.size)
     | (refine Mf.step_int [x] HSZ.out XA.out.dr (by have := HLN.out; simp only [List.length_singleton]; omega) _ _ _ (by rfl) (by rfl) (by rfl) (by rfl) HSR.out ?_
        intro v5 w5 o5 g5
        obtain ⟨gv, cv, rfl, -, -⟩ := Dk.Own.form1 o5
        have X5 := Lib.hid (XA.out.drops g5 o5)
        have hbx := (g5.by_.block (w.heap.size + 1) (lt_of_block XA.out.box) (fun e => by have := (World.ownsRow.lt XA.out.dr _ e.symm).1; omega)).trans XA.out.box
        have hrs := (g5.by_.block w.heap.size (lt_of_block XA.out.res) (fun e => by have := (World.ownsRow.lt XA.out.dr _ e.symm).1; omega)).trans XA.out.res
        have HS4 := Lib.hid (Mf.quad hrs).1.2.2.1
        obtain ⟨⟨y0, -⟩, z0, -⟩ := Mf.quad hbx
        clear o5 g5 hbx hrs))
   all_goals
    go_wp2
    go_roundw
    case rel => exact ⟨k + 1, _, _, _, by omega, by simp, X5.out, HNX.out, by rw [List.length_append, HLN.out]; rfl⟩
    case measure => simp [intOf]; omega
  ·obtain rfl : k = N := by omega
   have hki : ¬ (k : Int) < (k : Int) := by omega
   rw [Nat.sub_self] at hq
   have hq2 : M = D ∧ sk = s2 := by simpa [Mf.sL, Mf.sp] using hq
   obtain ⟨rfl, rfl⟩ := hq2
   have c3 := K3.out wr hX.rdr
   clear hk hkl hk0 hq hX hN0 H2 K3
   go_wp2_with fail
   with_reducible refine c3.mono ?_
   rintro e w4 hg
   have X4 := Lib.hid (XR.out.went hg)
   obtain ⟨rfl, -, -⟩ := hg
   clear c3 XR
   go_wp2_with fail
   go_loopw [18] (fun i wr => ∃ (k : Nat) (va : Value) (P : List Mf.P) (sk : Mf.St), k ≤ K ∧ i = .int .i64 k ∧ Mf.XB r b w.heap.size w wr vd va 0 0 M P sk ∧ (P ++ (Mf.sL Mf.sP (K - k) sk).1, (Mf.sL Mf.sP (K - k) sk).2) = (A, s4) ∧ P.length = k) (fun i _ => K - (intOf i).toNat)
   case atStart => exact ⟨0, _, [], s3, Nat.zero_le _, rfl, X4.out, H4.out, rfl⟩
   case round =>
    obtain ⟨k2, va, P, sk2, hk, rfl, hX, hq, hl⟩ := hrel
    have hk0 : (0 : Int) ≤ (k2 : Int) := by omega
    have XR := Lib.hid hX
    by_cases hkl : k2 < K
    ·obtain ⟨⟨x, sx⟩, hx⟩ : ∃ x, Mf.sP sk2 = x := ⟨_, rfl⟩
     have hst := Mf.sL_step Mf.sP hkl sk2 P
     rw [hx] at hst
     have HNX : Hid ((P ++ [x] ++ (Mf.sL Mf.sP (K - (k2 + 1)) sx).1, (Mf.sL Mf.sP (K - (k2 + 1)) sx).2) = (A, s4)) := Lib.hid (hst.symm.trans hq)
     have HLN := Lib.hid hl
     have hki : (k2 : Int) < (K : Int) := by omega
     have HDR : Hid (Below wr.heap.size wr wr.drew) := Lib.hid (Kn.below_drewN (Below.refl _ _) 1)
     have cn := Mf.part_c r b sk2 wr.drew (hX.rdr.kept HDR.out)
     rw [hx] at cn
     have XD := Lib.hid (hX.kept HDR.out)
     have e0 := (Mf.quad XD.out.box).1.2.1
     obtain ⟨id, lv, ⟨an, ai, sa⟩, ⟨bn, bi, sb⟩⟩ := x
     unfold Mf.P.val Mf.cs at cn
     simp only at cn
     have CN := Lib.hid cn
     clear hst hx hq hl hX cn
     go_wp2_with fail
     go_region_law
      (first
       | (go_simp; go_at_call 52; (with_reducible refine CN.out.mono ?_); rintro e w4 hg; have XE := Lib.hid (XD.out.went hg); obtain ⟨rfl, -, -⟩ := hg; have XA := Lib.hid (XE.out.kept ((Below.refl w4.heap.size w4).alloc (Nat.le_refl _) (.cells #[.int .i64 id, .int .i64 lv, .bool an, .int .i64 ai, .string sa, .bool bn, .int .i64 bi, .string sb] 44))); have e1 := (Mf.quad XE.out.box).1.2.1; have e2 := (Mf.quad XA.out.box).1.2.1; have HSR := Lib.hid (Dk.src_one (enc := Mf.pc) w4 ⟨id, lv, ⟨an, ai, sa⟩, ⟨bn, bi, sb⟩⟩ #[.int .i64 id, .int .i64 lv, .bool an, .int .i64 ai, .string sa, .bool bn, .int .i64 bi, .string sb] rfl 44); have HSZ := Lib.hid XA.out.size)
       | (refine Mf.step_part [⟨id, lv, ⟨an, ai, sa⟩, ⟨bn, bi, sb⟩⟩] HSZ.out XA.out.ad (by have := HLN.out; simp only [List.length_singleton]; omega) _ _ _ (by rfl) (by rfl) (by rfl) (by rfl) HSR.out ?_
          intro v5 w5 o5 g5
          obtain ⟨gv, cv, rfl, -, -⟩ := Dk.Own.form1 o5
          have X5 := Lib.hid (XA.out.adds g5 o5)
          have hbx := (g5.by_.block (w.heap.size + 1) (lt_of_block XA.out.box) (fun e => by have := (World.ownsRow.lt XA.out.ad _ e.symm).1; omega)).trans XA.out.box
          have hrs := (g5.by_.block w.heap.size (lt_of_block XA.out.res) (fun e => by have := (World.ownsRow.lt XA.out.ad _ e.symm).1; omega)).trans XA.out.res
          have HS4 := Lib.hid (Mf.quad hrs).1.2.2.1
          obtain ⟨⟨-, y0, -⟩, -, z0, -⟩ := Mf.quad hbx
          clear o5 g5 hbx hrs))
     all_goals
      go_wp2
      go_roundw
      case rel => exact ⟨k2 + 1, _, _, _, by omega, by simp, X5.out, HNX.out, by rw [List.length_append, HLN.out]; rfl⟩
      case measure => simp [intOf]; omega
    ·obtain rfl : k2 = K := by omega
     have hki : ¬ (k2 : Int) < (k2 : Int) := by omega
     rw [Nat.sub_self] at hq
     have hq2 : P = A ∧ sk2 = s4 := by simpa [Mf.sL, Mf.sp] using hq
     obtain ⟨rfl, rfl⟩ := hq2
     have c5 := K5.out wr hX.rdr
     clear hk hkl hk0 hq hX hK0 H4 K5
     go_wp2_with fail
     with_reducible refine c5.mono ?_
     rintro e w5 hg
     have X5 := Lib.hid (XR.out.went hg)
     obtain ⟨rfl, -, -⟩ := hg
     obtain ⟨⟨b0, b1, b2, b3⟩, f0, f1, f2, f3⟩ := Mf.quad X5.out.box
     have X6 := Lib.hid (X5.out.num (i := 2) (x := .int .i64 fl) (f' := fl) (n' := 0) (heap_setCell_same _ _ 2 _ _ _ X5.out.box))
     obtain ⟨w6, hw6⟩ : ∃ w6, w6 = w5.setCell ⟨w.heap.size + 1, 2, none⟩ (.int .i64 fl) := ⟨_, rfl⟩
     rw [← hw6] at X6
     clear c5 XR
     go_wp2_with fail
     rw [← hw6]
     clear hw6 b0 b1 b2 b3 f0 f1 f2 f3 X5
     with_reducible refine (K6.out w6 X6.out.rdr).mono ?_
     rintro e w7 hg
     have X7 := Lib.hid (X6.out.went hg)
     obtain ⟨rfl, -, -⟩ := hg
     obtain ⟨⟨b0, b1, b2, b3⟩, f0, f1, f2, f3⟩ := Mf.quad X7.out.box
     have X8 := Lib.hid (X7.out.num (i := 3) (x := .int .i64 nx) (f' := fl) (n' := nx) (heap_setCell_same _ _ 3 _ _ _ X7.out.box))
     obtain ⟨w8, hw8⟩ : ∃ w8, w8 = w7.setCell ⟨w.heap.size + 1, 3, none⟩ (.int .i64 nx) := ⟨_, rfl⟩
     rw [← hw8] at X8
     obtain ⟨ad, nd, cd, rfl⟩ : ∃ a n c, vd = .slice a n c := by
      obtain ⟨a, c, e, -⟩ := X8.out.dr.is
      exact ⟨_, _, _, e⟩
     obtain ⟨aa, na, ca, rfl⟩ : ∃ a n c, va = .slice a n c := X8.out.ad.ps.form3
     obtain ⟨⟨d0, d1, d2, d3⟩, -⟩ := Mf.quad X8.out.box
     obtain ⟨⟨y0, y1, y2, y3⟩, z0, z1, z2, z3⟩ := Mf.quad X8.out.res
     have HP := Lib.hid (Mf.By2.sets (q := w.heap.size) (Nat.le_refl _) [(0, .slice ad nd cd), (1, .slice aa na ca), (2, .int .i64 fl), (3, .int .i64 nx)] X8.out.by2)
     have HQ := Lib.hid (Mf.Rdr.sets (q := w.heap.size) hlt.1 hlt.2 [(0, .slice ad nd cd), (1, .slice aa na ca), (2, .int .i64 fl), (3, .int .i64 nx)] X8.out.rdr)
     have HD : Hid (Mf.Oi w.heap.size (Mf.sets w.heap.size w8 [(0, .slice ad nd cd), (1, .slice aa na ca), (2, .int .i64 fl), (3, .int .i64 nx)]) (.slice ad nd cd) M) := Lib.hid (World.ownsRow.mono (Dk.Own.same X8.out.dr fun j hj => Mf.sets_heap (by have := (World.ownsRow.lt X8.out.dr j hj).1; omega) _ _) (by omega))
     have HA : Hid (Mf.Ow w.heap.size (Mf.sets w.heap.size w8 [(0, .slice ad nd cd), (1, .slice aa na ca), (2, .int .i64 fl), (3, .int .i64 nx)]) (.slice aa na ca) P) := Lib.hid (World.ownsRow.mono (Dk.Own.same X8.out.ad fun j hj => Mf.sets_heap (by have := (World.ownsRow.lt X8.out.ad j hj).1; omega) _ _) (by omega))
     rw [hw8] at d0 d1 d2 d3 y0 y1 y2 y3 z0 z1 z2 z3 HP HQ HD HA
     clear hw8 X6 X7
     go_wp2
     (try simp only [Exit.inBlock, Exit.then])
     refine bodyPost_ret (v := .agg #[.slice ad nd cd, .slice aa na ca, .int .i64 fl, .int .i64 nx]) ?_ rfl ⟨_, _, rfl, HD.out, HA.out, HQ.out, HP.out⟩
     rw [Mf.results_cell rfl]
     go_simp
end
section
open Go Go.RowKit
def Mf.GotD (w : World) (r : Option Mf.E) (e : Ending) (w' : World) : Prop :=
 ∃ (ok : Bool) (vd va : Value) (x : Mf.E), e = .returned (.tuple #[.agg #[vd, va, .int .i64 x.floor, .int .i64 x.next], .bool ok]) ∧ (∃ a n c, vd = .slice a n c) ∧ (∃ a n c, va = .slice a n c) ∧ Below w.heap.size w w' ∧ (ok = false ∧ r = none ∨ ok = true ∧ r = some x ∧ Mf.Oi w.heap.size w' vd x.drop ∧ Mf.Ow w.heap.size w' va x.add)
theorem Mf.sets_below {B q : Nat} {w : World} (hq : B ≤ q) : ∀ (L : List (Nat × Value)) {w1 : World}, Below B w w1 → Below B w (Mf.sets q w1 L)
 | [], _, g => g
 | x :: L, _, g => Mf.sets_below hq L (Mf.below1 g hq x.1 x.2)
set_option maxHeartbeats 4000000 in
set_option maxRecDepth 100000 in
theorem Mf.decoded_c (l : List UInt8) (w : World) (hT : Ty.Tabs w) (hl : l.length ≤ 140737488351232) :
 Calls Tryd.prog 14 #[.string (Ty.S l)] w (Mf.GotD w (Mf.rd l)) := by
 have HRD := Lib.hid (Mf.sX_rd l)
 obtain ⟨w0, hw0⟩ : ∃ w0, w0 = w.alloc (.cells Mf.z4 37) := ⟨_, rfl⟩
 obtain ⟨w1, hw1⟩ : ∃ w1, w1 = w0.alloc (.cells #[.string (Ty.S l), .int .i64 0] 95 (0, 0)) := ⟨_, rfl⟩
 obtain ⟨w2, hw2⟩ : ∃ w2, w2 = w1.alloc (.cells #[.pointer (some ⟨w0.heap.size, 0, none⟩), .bool false] 68) := ⟨_, rfl⟩
 have g0 : Below w.heap.size w w0 := by rw [hw0]; exact (Below.refl _ _).alloc (Nat.le_refl _) _
 have g1 : Below w0.heap.size w0 w1 := by rw [hw1]; exact (Below.refl _ _).alloc (Nat.le_refl _) _
 have g2 : Below w1.heap.size w1 w2 := by rw [hw2]; exact (Below.refl _ _).alloc (Nat.le_refl _) _
 have s0 : w0.heap.size = w.heap.size + 1 := by rw [hw0]; exact World.size_alloc ..
 have s1 : w1.heap.size = w.heap.size + 2 := by rw [hw1, World.size_alloc, s0]
 have s2 : w2.heap.size = w.heap.size + 3 := by rw [hw2, World.size_alloc, s1]
 have g12 : Below w0.heap.size w0 w2 := g1.trans (g2.mono g1.size)
 have g02 : Below w.heap.size w w2 := g0.trans (g12.mono g0.size)
 have hG := Ty.Tabs.two hT
 have hcur : Ty.Cur w0.heap.size w2 l 0 := by
  have := heap_alloc_new w0 (.cells #[.string (Ty.S l), .int .i64 0] 95 (0, 0))
  rw [← hw1] at this
  exact (g2.block w0.heap.size (by omega)).trans this
 have hbox : w2.heap[w1.heap.size]? = some (.cells #[.pointer (some ⟨w0.heap.size, 0, none⟩), .bool false] 68 (0, 0)) := by
  rw [hw2]
  exact heap_alloc_new w1 _
 have hR : Mf.Rdr w1.heap.size w0.heap.size w2 (Mf.em l) := ⟨hcur, hbox, by omega, Ty.Tabs.below hT g02 hG, by omega, by omega, hl⟩
 have hyr : w2.heap[w.heap.size]? = some (.cells Mf.z4 37 (0, 0)) := by
  have := heap_alloc_new w (.cells Mf.z4 37)
  rw [← hw0] at this
  exact (g12.block w.heap.size (by omega)).trans this
 have CE := Mf.edit_c w1.heap.size w0.heap.size (Mf.em l) w2 hR
 unfold Mf.GotE at CE
 generalize Mf.sX (Mf.em l) = X at CE HRD
 obtain ⟨⟨n, m, ⟨D, A, fl, nx⟩⟩, ⟨l9, e9, wr9⟩⟩ := X
 simp only at CE HRD
 have HB := Lib.hid g02
 have HYR := Lib.hid hyr
 have HSZ : Hid (w2.heap.size = w.heap.size + 3 ∧ w1.heap.size = w.heap.size + 2 ∧ w0.heap.size = w.heap.size + 1) := Lib.hid ⟨s2, s1, s0⟩
 have cf := Ty.from_c l w0
 rw [← hw1] at cf
 unfold Mf.z4 at hw0
 rw [s0] at hw2
 rw [s0, s1] at CE
 clear hT hl g0 g1 g2 g12 g02 hG hcur hbox hR hyr hw1 s2
 go_enter Tryd.func14, Tryd.ntmps14
 go_wp2_with fail
 rw [← hw0]
 clear hw0
 with_reducible refine cf.mono ?_
 rintro e wx ⟨rfl, h9⟩
 subst wx
 clear cf
 go_wp2_with fail
 rw [← hw2]
 clear hw2
 with_reducible refine CE.mono ?_
 rintro e w3 ⟨vd, va, rfl, hD, hA, hR, hB2⟩
 obtain ⟨ad, nd, cd, rfl⟩ : ∃ a n c, vd = .slice a n c := by
  obtain ⟨a, c, e, -⟩ := hD.is
  exact ⟨_, _, _, e⟩
 obtain ⟨aa, na, ca, rfl⟩ : ∃ a n c, va = .slice a n c := hA.ps.form3
 obtain ⟨w4, hw4⟩ : ∃ w4, w4 = w3.alloc (.cells #[.slice ad nd cd, .slice aa na ca, .int .i64 fl, .int .i64 nx] 37) := ⟨_, rfl⟩
 have g4 : Below w3.heap.size w3 w4 := by rw [hw4]; exact (Below.refl _ _).alloc (Nat.le_refl _) _
 have hR4 := hR.kept g4
 have hE4 := Mf.EA.new w3 (.slice ad nd cd) (.slice aa na ca) fl nx 37
 rw [← hw4] at hE4
 have HD := Lib.hid (World.ownsRow.mono (hD.kept g4) (show w.heap.size ≤ w2.heap.size by have := HSZ.out; omega))
 have HA := Lib.hid (World.ownsRow.mono (hA.kept g4) (show w.heap.size ≤ w2.heap.size by have := HSZ.out; omega))
 have HDL : Hid (∀ j, (Value.slice ad nd cd).ownBlock = some j → j ≠ w.heap.size) := Lib.hid fun j hj => by have := (World.ownsRow.lt hD j hj).1; have := HSZ.out; omega
 have HAL : Hid (∀ j, (Value.slice aa na ca).ownBlock = some j → j ≠ w.heap.size) := Lib.hid fun j hj => by have := (World.ownsRow.lt hA j hj).1; have := HSZ.out; omega
 have HB4 : Hid (Below w.heap.size w w4) := Lib.hid ((HB.out.trans ((hB2.below (B := w.heap.size) (by omega) (by omega) (by have := HSZ.out; omega)))).trans (g4.mono (Nat.le_trans HB.out.size hB2.size)))
 have HY4 := Lib.hid ((g4.block w.heap.size (by have := hB2.size; have := HSZ.out; omega)).trans ((hB2.block w.heap.size (by have := HSZ.out; omega) (by omega) (by omega)).trans HYR.out))
 have cd4 := Ty.done_c (w.heap.size + 1) l9 e9 w4 hR4.cur
 obtain ⟨b0, b1, -, -⟩ := Mf.pair hR4.box
 obtain ⟨e0, e1, e2, e3⟩ := hE4
 obtain ⟨⟨y0, y1, y2, y3⟩, z0, z1, z2, z3⟩ := Mf.quad HY4.out
 simp only at b0 b1
 rw [hw4] at b0 b1 e0 e1 e2 e3 y0 y1 y2 y3 z0 z1 z2 z3
 have hways : (wr9 = true ∧ Mf.rd l = none) ∨ (wr9 = false ∧ ¬ ((Ty.fin l9 e9 : Nat) : Int) = 0 ∧ Mf.rd l = none) ∨ (wr9 = false ∧ Ty.fin l9 e9 = 0 ∧ Mf.rd l = some ⟨D, A, fl, nx⟩) := by
  rw [HRD.out]
  cases wr9
  ·by_cases hf : Ty.fin l9 e9 = 0
   ·exact .inr (.inr ⟨rfl, hf, if_pos ⟨rfl, hf⟩⟩)
   ·exact .inr (.inl ⟨rfl, by omega, if_neg fun h => hf h.2⟩)
  ·exact .inl ⟨rfl, if_neg fun h => by cases h.1⟩
 clear CE hD hA hR hB2 g4 hR4 HRD
 rcases hways with ⟨rfl, hr⟩ | ⟨rfl, hf, hr⟩ | ⟨rfl, hf, hr⟩
 ·have HN := Lib.hid hr
  have HBF := Lib.hid (Mf.sets_below (q := w.heap.size) (Nat.le_refl _) [(0, .slice none 0 0), (1, .slice none 0 0), (2, .int .i64 0), (3, .int .i64 0)] HB4.out)
  rw [hw4] at HBF
  clear cd4 hr hw4 HB4 HY4 HD HA HDL HAL
  go_wp2
  (try simp only [Exit.inBlock, Exit.then])
  refine bodyPost_ret (v := .tuple #[.agg #[.slice none 0 0, .slice none 0 0, .int .i64 0, .int .i64 0], .bool false]) ?_ rfl ⟨false, _, _, ⟨[], [], 0, 0⟩, rfl, ⟨_, _, _, rfl⟩, ⟨_, _, _, rfl⟩, HBF.out, .inl ⟨rfl, HN.out⟩⟩
  rw [results_cell_tmp rfl]
  go_simp
 ·have HN := Lib.hid hr
  have HBF := Lib.hid (Mf.sets_below (q := w.heap.size) (Nat.le_refl _) [(0, .slice none 0 0), (1, .slice none 0 0), (2, .int .i64 0), (3, .int .i64 0)] HB4.out)
  generalize Ty.fin l9 e9 = F at cd4 hf
  clear hr HB4 HD HA HDL HAL
  go_wp2_with fail
  rw [← hw4]
  clear hw4 b0 b1 e0 e1 e2 e3 y0 y1 y2 y3 z0 z1 z2 z3
  obtain ⟨⟨y0, y1, y2, y3⟩, z0, z1, z2, z3⟩ := Mf.quad HY4.out
  clear HY4
  with_reducible refine cd4.mono ?_
  rintro e wx ⟨rfl, h9⟩
  subst wx
  clear cd4
  go_wp2
  (try simp only [Exit.inBlock, Exit.then])
  refine bodyPost_ret (v := .tuple #[.agg #[.slice none 0 0, .slice none 0 0, .int .i64 0, .int .i64 0], .bool false]) ?_ rfl ⟨false, _, _, ⟨[], [], 0, 0⟩, rfl, ⟨_, _, _, rfl⟩, ⟨_, _, _, rfl⟩, HBF.out, .inl ⟨rfl, HN.out⟩⟩
  rw [results_cell_tmp rfl]
  go_simp
 ·have HN := Lib.hid hr
  have HBF := Lib.hid (Mf.sets_below (q := w.heap.size) (Nat.le_refl _) [(0, .slice ad nd cd), (1, .slice aa na ca), (2, .int .i64 fl), (3, .int .i64 nx)] HB4.out)
  have HD9 : Hid (Mf.Oi w.heap.size (Mf.sets w.heap.size w4 [(0, .slice ad nd cd), (1, .slice aa na ca), (2, .int .i64 fl), (3, .int .i64 nx)]) (.slice ad nd cd) D) := Lib.hid (Dk.Own.same HD.out fun j hj => Mf.sets_heap (HDL.out j hj) _ _)
  have HA9 : Hid (Mf.Ow w.heap.size (Mf.sets w.heap.size w4 [(0, .slice ad nd cd), (1, .slice aa na ca), (2, .int .i64 fl), (3, .int .i64 nx)]) (.slice aa na ca) A) := Lib.hid (Dk.Own.same HA.out fun j hj => Mf.sets_heap (HAL.out j hj) _ _)
  have hE4 := Mf.EA.new w3 (.slice ad nd cd) (.slice aa na ca) fl nx 37
  rw [← hw4] at hE4
  rw [hf] at cd4
  clear hr HB4 HD HA HDL HAL
  go_wp2_with fail
  rw [← hw4]
  clear hw4 b0 b1 e0 e1 e2 e3 y0 y1 y2 y3 z0 z1 z2 z3
  obtain ⟨⟨y0, y1, y2, y3⟩, z0, z1, z2, z3⟩ := Mf.quad HY4.out
  obtain ⟨e0, e1, e2, e3⟩ := hE4
  clear HY4
  with_reducible refine cd4.mono ?_
  rintro e wx ⟨rfl, h9⟩
  subst wx
  clear cd4
  go_wp2
  (try simp only [Exit.inBlock, Exit.then])
  refine bodyPost_ret (v := .tuple #[.agg #[.slice ad nd cd, .slice aa na ca, .int .i64 fl, .int .i64 nx], .bool true]) ?_ rfl ⟨true, _, _, ⟨D, A, fl, nx⟩, rfl, ⟨_, _, _, rfl⟩, ⟨_, _, _, rfl⟩, HBF.out, .inr ⟨rfl, HN.out, HD9.out, HA9.out⟩⟩
  rw [results_cell_tmp rfl]
  go_simp
end
end Go.Proofs.YteaglaijkafphaaDoor
