import Derived.Test.YtodeodndjkkkbaaTAF
import Derived.Deep.RegionHeld3
namespace Go.Proofs.Ytodeodndjkkkbaa
section
open Go Go.RowKit Go.Lib
def Lv.Oi (base : Nat) (w : World) (v : Value) (L : List Int) : Prop := Dk.Own 3 1 Mf.ic base w v L
theorem Lv.Oi.nil (base : Nat) (w : World) : Lv.Oi base w (.slice none 0 0) [] := Dk.Own.nil base w
theorem Lv.wpList_int {base : Nat} {w0 : World} {v : Value} {M : List Int} (K : List Int) (hown : Lv.Oi base w0 v M) (hb : base ≤ w0.heap.size) (hl : M.length + K.length ≤ 10000000000) {u : Value} (hu : Dk.Src Mf.ic w0 u K)
 {ops : Array Oper} {rest : List Oper} {o : Oper} {a : Act} {Q : Exit → Act → World → Prop} (s x : Operand) (hgd : Region.wanted o (yielded ops a.tmps) = true)
 (ho : o.op = .call { callee := .builtin .append, args := #[s, x], argTypes := #[25, 25] })
 (hs : a.eval s = v) (hx : a.eval x = u)
 (h : ∀ v' w', Lv.Oi base w' v' (M ++ K) → Ty.Grew w0 w' v v' → wpList Try.prog ops Q rest (a.put o.dst v') w') :
 wpList Try.prog ops Q (o :: rest) a w0 :=
 Dk.wpList_append 25 _ 8 Try.underlying25 Mf.infoI rfl (by decide) Mf.ic_len Mf.ic_one K hown hb (by omega) (by omega) hu s x hgd ho hs hx h
theorem Lv.oi_below {base : Nat} {w1 w w' : World} {v v' : Value} {L : List Int} (hb : Below base w1 w) (hs : base ≤ w.heap.size) (ho : Lv.Oi base w v L) (g : Ty.Grew w w' v v') : Below base w1 w' :=
 hb.trans (g.below hs fun k hk => Dk.Own.base_le ho k hk)
def Lv.idl (L : List Mf.P) : List Int := L.map fun x => x.id
set_option maxHeartbeats 8000000 in
set_option maxRecDepth 100000 in
theorem Lv.ids_c (b o c : Nat) (LL : List (List Mf.P)) (w : World) (hv : ∀ (k : Nat) (X : List Mf.P), LL[k]? = some X → ∃ u, w.cell? ⟨b, o + k, none⟩ = some u ∧ Mf.Ps w u X) (hn : LL.length ≤ 2) (hl : ∀ X ∈ LL, X.length ≤ 1000000000) :
 Calls Try.prog 45 #[.slice (some ⟨b, o, none⟩) LL.length c] w fun e w' => ∃ u, e = .returned u ∧ Lv.Oi w.heap.size w' u (LL.flatMap Lv.idl) ∧ Below w.heap.size w w' := by
 have HV := Lib.hid hv
 have HN := Lib.hid hn
 have HL := Lib.hid hl
 have HM : Hid (∀ k, (((LL.take k).flatMap Lv.idl)).length ≤ 2000000000) := Lib.hid fun k => by
  have h2 : ∀ (M : List (List Mf.P)), (∀ X ∈ M, X.length ≤ 1000000000) → (M.flatMap Lv.idl).length ≤ M.length * 1000000000 := by
   intro M
   induction M with
   | nil => intro _; exact Nat.le_refl _
   | cons X M ih =>
     intro h
     have h3 := ih fun Y hY => h Y (by simp [hY])
     have h4 := h X (by simp)
     have h5 : (Lv.idl X).length = X.length := by unfold Lv.idl; simp
     rw [List.flatMap_cons, List.length_append, List.length_cons]
     omega
  have h3 := h2 (LL.take k) fun X hX => hl X (List.mem_of_mem_take hX)
  rw [List.length_take] at h3
  have h4 : min k LL.length ≤ 2 := by omega
  omega
 have hn2 : (LL.length : Int) ≤ 2 := by omega
 clear hv hl
 go_enter Try.func45, Try.ntmps45
 go_wp2_with fail
 go_loopw [3, 10] (fun u i wr => ∃ (k : Nat), k ≤ LL.length ∧ i = .int .i64 (k : Int) ∧ Lv.Oi w.heap.size wr u ((LL.take k).flatMap Lv.idl) ∧ Below w.heap.size w wr) (fun _ i _ => LL.length - (intOf i).toNat)
 case atStart => exact ⟨0, Nat.zero_le _, rfl, Lv.Oi.nil _ _, Below.refl _ _⟩
 case round =>
  obtain ⟨k, hk, rfl, hO, hB⟩ := hrel
  have hk0 : (0 : Int) ≤ (k : Int) := by omega
  have HO := Lib.hid hO
  have HB := Lib.hid hB
  by_cases hkl : k < LL.length
  ·have hki : (k : Int) < (LL.length : Int) := by omega
   have hx := List.getElem?_eq_getElem hkl
   generalize LL[k] = X at hx
   obtain ⟨u9, hc0, hP0⟩ := HV.out k X hx
   have hc := (hB.cell (p := ⟨b, o + k, none⟩) (World.block_lt_of_cell? w _ hc0)).trans hc0
   have HXL := Lib.hid (HL.out X (List.mem_of_getElem? hx))
   have hxl : (X.length : Int) ≤ 1000000000 := by have := HXL.out; omega
   have HST : Hid ((LL.take (k + 1)).flatMap Lv.idl = (LL.take k).flatMap Lv.idl ++ Lv.idl X) := Lib.hid (by rw [List.take_add_one, hx, List.flatMap_append]; simp)
   have HP := Lib.hid hP0
   obtain ⟨a9, c9, rfl, -⟩ := hP0.form
   have HKL := Lib.hid hkl
   have HDN := Lib.hid (HM.out k)
   clear hk hkl hO hB hx hc0 hP0
   go_wp2_with fail
   go_loopw [3, 16] (fun u i wr => ∃ (j : Nat), j ≤ X.length ∧ i = .int .i64 (j : Int) ∧ Lv.Oi w.heap.size wr u ((LL.take k).flatMap Lv.idl ++ Lv.idl (X.take j)) ∧ Below w.heap.size w wr) (fun _ i _ => X.length - (intOf i).toNat)
   case atStart => exact ⟨0, Nat.zero_le _, rfl, by rw [List.take_zero, show Lv.idl [] = [] from rfl, List.append_nil]; exact HO.out, HB.out⟩
   case round =>
    clear hc
    obtain ⟨j, hj, rfl, hO, hB⟩ := hrel
    have hj0 : (0 : Int) ≤ (j : Int) := by omega
    have HO2 := Lib.hid hO
    have HB2 := Lib.hid hB
    by_cases hjl : j < X.length
    ·have hji : (j : Int) < (X.length : Int) := by omega
     have hx := List.getElem?_eq_getElem hjl
     generalize X[j] = x at hx
     obtain ⟨b2, o2, rfl, hPA⟩ := (HP.out.kept hB).at_ hx
     have HS2 : Hid (Lv.idl (X.take (j + 1)) = Lv.idl (X.take j) ++ [x.id]) := Lib.hid (by unfold Lv.idl; rw [List.take_add_one, hx, List.map_append]; rfl)
     have hil : (Lv.idl (X.take j)).length ≤ 1000000000 := by unfold Lv.idl; rw [List.length_map, List.length_take]; have := HXL.out; omega
     have HIL := Lib.hid hil
     obtain ⟨w3, hw3⟩ : ∃ w3, w3 = wr.alloc (.cells (Mf.cs x) 38) := ⟨_, rfl⟩
     have g3 : Below wr.heap.size wr w3 := by rw [hw3]; exact (Below.refl _ _).alloc (Nat.le_refl _) _
     have g4 : Below w3.heap.size w3 (w3.alloc (.cells #[.int .i64 x.id] 3)) := (Below.refl _ _).alloc (Nat.le_refl _) _
     have HO4 := Lib.hid (Dk.Own.kept (Dk.Own.kept hO g3) g4)
     have HB4 := Lib.hid ((hB.trans (g3.mono hB.size)).trans (g4.mono (hB.trans (g3.mono hB.size)).size))
     have HSR := Lib.hid (Dk.src_one (enc := Mf.ic) w3 x.id #[.int .i64 x.id] rfl 3)
     have d0 : w3.cell? ⟨wr.heap.size, 0, none⟩ = some (.int .i64 x.id) := by rw [hw3]; exact (Mf.PA.new wr x 38).c0
     obtain ⟨q, hq⟩ : ∃ q, q = wr.heap.size := ⟨_, rfl⟩
     rw [← hq] at d0
     have HKJ := Lib.hid hjl
     obtain ⟨c0, c1, c2, c3, c4, c5, c6, c7⟩ := hPA
     unfold Mf.cs at hw3
     clear hj hjl hO hB hx g3 g4 hil
     go_upto_region 8 with fail
     rw [← hw3]
     rw [← hq]
     clear hw3 hq c0 c1 c2 c3 c4 c5 c6 c7
     go_wp2_with (at_builtin; refine Lv.wpList_int [x.id] HO4.out HB4.out.size (by have := HIL.out; have := HDN.out; rw [List.length_append, List.length_singleton]; omega) HSR.out (.tmp 20) (.tmp 23) (by rfl) (by rfl) (by rfl) (by rfl) ?_; intro v6 w6 o6 g6; have HO6 := Lib.hid o6; have HB6 := Lib.hid (Lv.oi_below HB4.out HB4.out.size HO4.out g6); clear o6 g6)
     go_wp2
     go_roundw
     case rel => exact ⟨j + 1, HKJ.out, by simp, by rw [HS2.out, ← List.append_assoc]; exact HO6.out, HB6.out⟩
     case measure => (have := HKJ.out; simp [intOf]; omega)
    ·have hji : ¬ (j : Int) < (X.length : Int) := by omega
     have HE : Hid (Lv.idl (X.take j) = Lv.idl X) := Lib.hid (by rw [List.take_of_length_le (by omega)])
     clear hj hjl hO hB
     go_wp2
     go_roundw
     case rel => exact ⟨k + 1, HKL.out, by simp, by rw [HST.out, ← HE.out]; exact HO2.out, HB2.out⟩
     case measure => (have := HKL.out; simp [intOf]; omega)
  ·have hki : ¬ (k : Int) < (LL.length : Int) := by omega
   obtain rfl : k = LL.length := by omega
   rw [List.take_length] at hO
   have HO9 := Lib.hid hO
   clear hk hO hB HO
   go_wp2
   go_ret
   exact ⟨_, rfl, HO9.out, HB.out⟩
end
section
open Go Go.RowKit Go.Lib Go.Sort
def Lv.mn (a : Mf.P) (L : List Mf.P) : Mf.P := L.foldl (fun m x => if Kn.ncmp x.id m.id < 0 then x else m) a
theorem Lv.mn_step (a : Mf.P) {L : List Mf.P} {k : Nat} {x : Mf.P} (h : L[k]? = some x) : Lv.mn a (L.take (k + 1)) = if Kn.ncmp x.id (Lv.mn a (L.take k)).id < 0 then x else Lv.mn a (L.take k) := by
 unfold Lv.mn
 rw [List.take_add_one, h, List.foldl_append]
 rfl
set_option maxHeartbeats 2000000 in
theorem Lv.set8 {w : World} {q : Nat} {a : Mf.P} {T : TypeId} (h : w.heap[q]? = some (.cells (Mf.cs a) T (0, 0))) (x : Mf.P) :
 ((((((((w.setCell ⟨q, 0, none⟩ (.int .i64 x.id)).setCell ⟨q, 1, none⟩ (.int .i64 x.lv)).setCell ⟨q, 2, none⟩ (.bool x.lo.null)).setCell ⟨q, 3, none⟩ (.int .i64 x.lo.n)).setCell ⟨q, 4, none⟩ (.string x.lo.s)).setCell ⟨q, 5, none⟩ (.bool x.hi.null)).setCell ⟨q, 6, none⟩ (.int .i64 x.hi.n)).setCell ⟨q, 7, none⟩ (.string x.hi.s)).heap[q]? = some (.cells (Mf.cs x) T (0, 0)) := by
 have h0 : (w.setCell ⟨q, 0, none⟩ (.int .i64 x.id)).heap[q]? = some (.cells #[.int .i64 x.id, .int .i64 a.lv, .bool a.lo.null, .int .i64 a.lo.n, .string a.lo.s, .bool a.hi.null, .int .i64 a.hi.n, .string a.hi.s] T (0, 0)) := heap_setCell_same _ q 0 _ _ _ h
 have h1 : ((w.setCell ⟨q, 0, none⟩ (.int .i64 x.id)).setCell ⟨q, 1, none⟩ (.int .i64 x.lv)).heap[q]? = some (.cells #[.int .i64 x.id, .int .i64 x.lv, .bool a.lo.null, .int .i64 a.lo.n, .string a.lo.s, .bool a.hi.null, .int .i64 a.hi.n, .string a.hi.s] T (0, 0)) := heap_setCell_same _ q 1 _ _ _ h0
 have h2 : (((w.setCell ⟨q, 0, none⟩ (.int .i64 x.id)).setCell ⟨q, 1, none⟩ (.int .i64 x.lv)).setCell ⟨q, 2, none⟩ (.bool x.lo.null)).heap[q]? = some (.cells #[.int .i64 x.id, .int .i64 x.lv, .bool x.lo.null, .int .i64 a.lo.n, .string a.lo.s, .bool a.hi.null, .int .i64 a.hi.n, .string a.hi.s] T (0, 0)) := heap_setCell_same _ q 2 _ _ _ h1
 have h3 : ((((w.setCell ⟨q, 0, none⟩ (.int .i64 x.id)).setCell ⟨q, 1, none⟩ (.int .i64 x.lv)).setCell ⟨q, 2, none⟩ (.bool x.lo.null)).setCell ⟨q, 3, none⟩ (.int .i64 x.lo.n)).heap[q]? = some (.cells #[.int .i64 x.id, .int .i64 x.lv, .bool x.lo.null, .int .i64 x.lo.n, .string a.lo.s, .bool a.hi.null, .int .i64 a.hi.n, .string a.hi.s] T (0, 0)) := heap_setCell_same _ q 3 _ _ _ h2
 have h4 : (((((w.setCell ⟨q, 0, none⟩ (.int .i64 x.id)).setCell ⟨q, 1, none⟩ (.int .i64 x.lv)).setCell ⟨q, 2, none⟩ (.bool x.lo.null)).setCell ⟨q, 3, none⟩ (.int .i64 x.lo.n)).setCell ⟨q, 4, none⟩ (.string x.lo.s)).heap[q]? = some (.cells #[.int .i64 x.id, .int .i64 x.lv, .bool x.lo.null, .int .i64 x.lo.n, .string x.lo.s, .bool a.hi.null, .int .i64 a.hi.n, .string a.hi.s] T (0, 0)) := heap_setCell_same _ q 4 _ _ _ h3
 have h5 : ((((((w.setCell ⟨q, 0, none⟩ (.int .i64 x.id)).setCell ⟨q, 1, none⟩ (.int .i64 x.lv)).setCell ⟨q, 2, none⟩ (.bool x.lo.null)).setCell ⟨q, 3, none⟩ (.int .i64 x.lo.n)).setCell ⟨q, 4, none⟩ (.string x.lo.s)).setCell ⟨q, 5, none⟩ (.bool x.hi.null)).heap[q]? = some (.cells #[.int .i64 x.id, .int .i64 x.lv, .bool x.lo.null, .int .i64 x.lo.n, .string x.lo.s, .bool x.hi.null, .int .i64 a.hi.n, .string a.hi.s] T (0, 0)) := heap_setCell_same _ q 5 _ _ _ h4
 have h6 : (((((((w.setCell ⟨q, 0, none⟩ (.int .i64 x.id)).setCell ⟨q, 1, none⟩ (.int .i64 x.lv)).setCell ⟨q, 2, none⟩ (.bool x.lo.null)).setCell ⟨q, 3, none⟩ (.int .i64 x.lo.n)).setCell ⟨q, 4, none⟩ (.string x.lo.s)).setCell ⟨q, 5, none⟩ (.bool x.hi.null)).setCell ⟨q, 6, none⟩ (.int .i64 x.hi.n)).heap[q]? = some (.cells #[.int .i64 x.id, .int .i64 x.lv, .bool x.lo.null, .int .i64 x.lo.n, .string x.lo.s, .bool x.hi.null, .int .i64 x.hi.n, .string a.hi.s] T (0, 0)) := heap_setCell_same _ q 6 _ _ _ h5
 have h7 : ((((((((w.setCell ⟨q, 0, none⟩ (.int .i64 x.id)).setCell ⟨q, 1, none⟩ (.int .i64 x.lv)).setCell ⟨q, 2, none⟩ (.bool x.lo.null)).setCell ⟨q, 3, none⟩ (.int .i64 x.lo.n)).setCell ⟨q, 4, none⟩ (.string x.lo.s)).setCell ⟨q, 5, none⟩ (.bool x.hi.null)).setCell ⟨q, 6, none⟩ (.int .i64 x.hi.n)).setCell ⟨q, 7, none⟩ (.string x.hi.s)).heap[q]? = some (.cells #[.int .i64 x.id, .int .i64 x.lv, .bool x.lo.null, .int .i64 x.lo.n, .string x.lo.s, .bool x.hi.null, .int .i64 x.hi.n, .string x.hi.s] T (0, 0)) := heap_setCell_same _ q 7 _ _ _ h6
 exact h7
theorem Lv.set8_off {w : World} {q : Nat} (x : Mf.P) {j : Nat} (hj : j ≠ q) :
 ((((((((w.setCell ⟨q, 0, none⟩ (.int .i64 x.id)).setCell ⟨q, 1, none⟩ (.int .i64 x.lv)).setCell ⟨q, 2, none⟩ (.bool x.lo.null)).setCell ⟨q, 3, none⟩ (.int .i64 x.lo.n)).setCell ⟨q, 4, none⟩ (.string x.lo.s)).setCell ⟨q, 5, none⟩ (.bool x.hi.null)).setCell ⟨q, 6, none⟩ (.int .i64 x.hi.n)).setCell ⟨q, 7, none⟩ (.string x.hi.s)).heap[j]? = w.heap[j]? := by
 repeat' (refine (Below.heap_setCell _ _ _ _ (by show j ≠ q; exact hj)).trans ?_)
 rfl
theorem Lv.set8_below {B q : Nat} {w0 w : World} (h : Below B w0 w) (hq : B ≤ q) (x : Mf.P) :
 Below B w0 ((((((((w.setCell ⟨q, 0, none⟩ (.int .i64 x.id)).setCell ⟨q, 1, none⟩ (.int .i64 x.lv)).setCell ⟨q, 2, none⟩ (.bool x.lo.null)).setCell ⟨q, 3, none⟩ (.int .i64 x.lo.n)).setCell ⟨q, 4, none⟩ (.string x.lo.s)).setCell ⟨q, 5, none⟩ (.bool x.hi.null)).setCell ⟨q, 6, none⟩ (.int .i64 x.hi.n)).setCell ⟨q, 7, none⟩ (.string x.hi.s)) :=
 Mf.below1 (Mf.below1 (Mf.below1 (Mf.below1 (Mf.below1 (Mf.below1 (Mf.below1 (Mf.below1 h hq _ _) hq _ _) hq _ _) hq _ _) hq _ _) hq _ _) hq _ _) hq _ _
theorem Lv.pa_grown {w : World} {b o : Nat} {x : Mf.P} (h : Mf.PA w b o x) (n : Nat) (os : Array Obj) : Mf.PA (grow (w.drewN n) os) b o x :=
 have hb := h.lt
 ⟨cell_grown hb h.c0 n os, cell_grown hb h.c1 n os, cell_grown hb h.c2 n os, cell_grown hb h.c3 n os, cell_grown hb h.c4 n os, cell_grown hb h.c5 n os, cell_grown hb h.c6 n os, cell_grown hb h.c7 n os⟩
theorem Lv.below_gr (w : World) (n : Nat) (os : Array Obj) : Below w.heap.size w (grow (w.drewN n) os) := by
 have h := Lv.below_grow (w.drewN n) os
 exact ⟨h.os, h.tape, h.output, h.size, h.block⟩
set_option maxHeartbeats 8000000 in
set_option maxRecDepth 100000 in
theorem Lv.min_c (v : Value) (x0 : Mf.P) (L : List Mf.P) (w : World) (hL : Mf.Ps w v L) (h0 : L[0]? = some x0) (hl : L.length ≤ 1000000000) :
 Calls Try.prog 66 #[v, .func (.func 65) #[] #[]] w fun e w' => e = .returned (.agg (Mf.cs (Lv.mn x0 L))) ∧ Below w.heap.size w w' := by
 have HPS := Lib.hid hL
 obtain ⟨a, c, rfl, -⟩ := hL.form
 have hn9 : (L.length : Int) ≤ 1000000000 := by omega
 obtain ⟨w1, hw1⟩ : ∃ w1, w1 = w.alloc (.cells Lv.z8 38) := ⟨_, rfl⟩
 have g1 : Below w.heap.size w w1 := by rw [hw1]; exact (Below.refl _ _).alloc (Nat.le_refl _) _
 obtain ⟨b, o, ha, hPA⟩ := (HPS.out.kept g1).at_ h0
 subst ha
 have hlen := (List.getElem?_eq_some_iff.1 h0).1
 have hl1 : (0 : Int) < (L.length : Int) := by omega
 have hl2 : ¬ (L.length : Int) < 1 := by omega
 obtain ⟨w2, hw2⟩ : ∃ w2, w2 = w1.alloc (.cells (Mf.cs x0) 38) := ⟨_, rfl⟩
 have g2 : Below w1.heap.size w1 w2 := by rw [hw2]; exact (Below.refl _ _).alloc (Nat.le_refl _) _
 have s1 : w1.heap.size = w.heap.size + 1 := by rw [hw1]; exact World.size_alloc ..
 obtain ⟨q3, hq3⟩ : ∃ q3, q3 = w.heap.size + 1 := ⟨_, rfl⟩
 have HQ3 := Lib.hid hq3
 have HBX0 : Hid (w2.heap[q3]? = some (.cells (Mf.cs x0) 38 (0, 0))) := Lib.hid (by rw [hq3, ← s1, hw2]; exact heap_alloc_new w1 _)
 have HRS0 : Hid (w2.heap[w.heap.size]? = some (.cells Lv.z8 38 (0, 0))) := Lib.hid ((g2.block w.heap.size (by omega)).trans (by rw [hw1]; exact heap_alloc_new w _))
 have HBB0 := Lib.hid (g1.trans (g2.mono g1.size))
 have HM0 : Hid (x0 = Lv.mn x0 (L.take 1)) := Lib.hid (by
  rw [Lv.mn_step x0 h0, List.take_zero]
  show x0 = if Kn.ncmp x0.id x0.id < 0 then x0 else x0
  split <;> rfl)
 have HLE := Lib.hid hlen
 obtain ⟨c0, c1, c2, c3, c4, c5, c6, c7⟩ := hPA
 simp only [Nat.zero_mul, Nat.add_zero] at c0 c1 c2 c3 c4 c5 c6 c7
 rw [hw1] at c0 c1 c2 c3 c4 c5 c6 c7
 unfold Lv.z8 at hw1 c0 c1 c2 c3 c4 c5 c6 c7
 unfold Mf.cs at hw2
 have mixed : Try.prog.follows .mixedOrders = true := rfl
 clear hL h0 hl g1 g2 s1 hlen
 go_enter Try.func66, Try.ntmps66
 go_upto_region 4 with fail
 rw [← hw1]
 rw [← hw2]
 rw [← hq3]
 clear hw1 hw2 hq3 c0 c1 c2 c3 c4 c5 c6 c7
 go_wp2_with fail
 go_loopw [6] (fun i wr => ∃ (k : Nat) (W : Mf.P), k ≤ L.length ∧ i = .int .i64 (k : Int) ∧ Hid (W = Lv.mn x0 (L.take k)) ∧ wr.heap[q3]? = some (.cells (Mf.cs W) 38 (0, 0)) ∧ wr.heap[w.heap.size]? = some (.cells Lv.z8 38 (0, 0)) ∧ Below w.heap.size w wr) (fun i _ => L.length - (intOf i).toNat)
 case atStart => exact ⟨1, x0, HLE.out, rfl, HM0, HBX0.out, HRS0.out, HBB0.out⟩
 case round =>
  obtain ⟨k, W, hk, rfl, HT0, hbx, hrs, hB⟩ := hrel
  have hk0 : (0 : Int) ≤ (k : Int) := by omega
  by_cases hkl : k < L.length
  ·have hki : (k : Int) < (L.length : Int) := by omega
   have hx := List.getElem?_eq_getElem hkl
   generalize L[k] = x at hx
   obtain ⟨b9, o9, hb9, hPA⟩ := (HPS.out.kept hB).at_ hx
   simp only [Option.some.injEq, Addr.mk.injEq, and_true] at hb9
   obtain ⟨rfl, rfl⟩ := hb9
   have HT : Hid (Lv.mn x0 (L.take (k + 1)) = if Kn.ncmp x.id W.id < 0 then x else W) := Lib.hid (by rw [Lv.mn_step x0 hx, ← HT0.out])
   have HKL := Lib.hid hkl
   have hq := (Lv.eight hbx).1
   have G := Lib.hid fun n os => Lv.pa_grown hPA n os
   have G2 := Lib.hid fun n os => Lv.pa_grown hq n os
   have X0 := fun n os => (G.out n os).c0
   have X1 := fun n os => (G.out n os).c1
   have X2 := fun n os => (G.out n os).c2
   have X3 := fun n os => (G.out n os).c3
   have X4 := fun n os => (G.out n os).c4
   have X5 := fun n os => (G.out n os).c5
   have X6 := fun n os => (G.out n os).c6
   have X7 := fun n os => (G.out n os).c7
   have Y0 := fun n os => (G2.out n os).c0
   have Y1 := fun n os => (G2.out n os).c1
   have Y2 := fun n os => (G2.out n os).c2
   have Y3 := fun n os => (G2.out n os).c3
   have Y4 := fun n os => (G2.out n os).c4
   have Y5 := fun n os => (G2.out n os).c5
   have Y6 := fun n os => (G2.out n os).c6
   have Y7 := fun n os => (G2.out n os).c7
   have hc1 := fun n os => Lv.byId_c x W (grow (wr.drewN n) os)
   obtain ⟨z1, hz1⟩ : ∃ z, z = Kn.ncmp x.id W.id := ⟨_, rfl⟩
   rw [← hz1] at hc1 HT
   have H3A := Lib.hid hbx
   have HRA := Lib.hid hrs
   have HBA := Lib.hid hB
   have HPX := Lib.hid hPA
   simp only [Nat.zero_add] at Y0 Y1 Y2 Y3 Y4 Y5 Y6 Y7
   unfold Mf.pc at hc1
   clear hk hkl hbx hrs hB hx hz1 HT0 hq hPA G G2
   by_cases hz : z1 < 0
   ·have hd1 : decide (z1 < 0) = true := decide_eq_true hz
    have HT2 : Hid (x = Lv.mn x0 (L.take (k + 1))) := Lib.hid (by rw [HT.out, if_pos hz])
    go_wp2_with fail
    go_quiet_grown (first | (go_at_call 65; refine Calls.grown_of (hc1 _ _)))
    have h3 := ((Lv.below_gr wr nq osq).block q3 (lt_of_block H3A.out)).trans H3A.out
    have hr := ((Lv.below_gr wr nq osq).block w.heap.size (lt_of_block HRA.out)).trans HRA.out
    have hb := HBA.out.trans ((Lv.below_gr wr nq osq).mono HBA.out.size)
    have hp := HPX.out.kept (Lv.below_gr wr nq osq)
    clear X0 X1 X2 X3 X4 X5 X6 X7 Y0 Y1 Y2 Y3 Y4 Y5 Y6 Y7 hc1
    generalize grow (wr.drewN nq) osq = w4 at h3 hr hb hp ⊢
    have HBX2 := Lib.hid (Lv.set8 h3 x)
    have hne := HQ3.out
    have HRS2 := Lib.hid ((Lv.set8_off (w := w4) (q := q3) x (j := w.heap.size) (by omega)).trans hr)
    have HBB2 := Lib.hid (Lv.set8_below hb (q := q3) (by omega) x)
    obtain ⟨⟨y0, y1, y2, y3, y4, y5, y6, y7⟩, yf⟩ := Lv.eight h3
    obtain ⟨c0, c1, c2, c3, c4, c5, c6, c7⟩ := hp
    have f0 := yf 0 (by decide)
    have f1 := yf 1 (by decide)
    have f2 := yf 2 (by decide)
    have f3 := yf 3 (by decide)
    have f4 := yf 4 (by decide)
    have f5 := yf 5 (by decide)
    have f6 := yf 6 (by decide)
    have f7 := yf 7 (by decide)
    simp only [Nat.zero_add] at y0 y1 y2 y3 y4 y5 y6 y7
    clear h3 hr hb hne yf nq osq
    go_wp2
    go_roundw
    case rel => exact ⟨k + 1, x, HKL.out, by simp, HT2, HBX2.out, HRS2.out, HBB2.out⟩
    case measure => (have := HKL.out; simp [intOf]; omega)
   ·have hd1 : decide (z1 < 0) = false := decide_eq_false hz
    have HT2 : Hid (W = Lv.mn x0 (L.take (k + 1))) := Lib.hid (by rw [HT.out, if_neg hz])
    go_wp2_with fail
    go_quiet_grown (first | (go_at_call 65; refine Calls.grown_of (hc1 _ _)))
    have H3 := Lib.hid (((Lv.below_gr wr nq osq).block q3 (lt_of_block H3A.out)).trans H3A.out)
    have HR := Lib.hid (((Lv.below_gr wr nq osq).block w.heap.size (lt_of_block HRA.out)).trans HRA.out)
    have HBW := Lib.hid (HBA.out.trans ((Lv.below_gr wr nq osq).mono HBA.out.size))
    clear X0 X1 X2 X3 X4 X5 X6 X7 Y0 Y1 Y2 Y3 Y4 Y5 Y6 Y7 hc1
    generalize grow (wr.drewN nq) osq = w4 at H3 HR HBW ⊢
    clear nq osq
    go_wp2
    go_roundw
    case rel => exact ⟨k + 1, W, HKL.out, by simp, HT2, H3.out, HR.out, HBW.out⟩
    case measure => (have := HKL.out; simp [intOf]; omega)
  ·have hki : ¬ (k : Int) < (L.length : Int) := by omega
   have HW : Hid (W = Lv.mn x0 L) := Lib.hid (by
    have := HT0.out
    rwa [show k = L.length by omega, List.take_length] at this)
   obtain ⟨⟨a0, a1, a2, a3, a4, a5, a6, a7⟩, -⟩ := Lv.eight hbx
   have hz8 : wr.heap[w.heap.size]? = some (.cells (Mf.cs ⟨0, 0, ⟨false, 0, ⟨#[]⟩⟩, ⟨false, 0, ⟨#[]⟩⟩⟩) 38 (0, 0)) := hrs
   obtain ⟨⟨y0, y1, y2, y3, y4, y5, y6, y7⟩, yf⟩ := Lv.eight hz8
   have f0 := yf 0 (by decide)
   have f1 := yf 1 (by decide)
   have f2 := yf 2 (by decide)
   have f3 := yf 3 (by decide)
   have f4 := yf 4 (by decide)
   have f5 := yf 5 (by decide)
   have f6 := yf 6 (by decide)
   have f7 := yf 7 (by decide)
   have HB9 := Lib.hid (Lv.set8_below hB (Nat.le_refl _) W)
   simp only [Nat.zero_add] at a0 a1 a2 a3 a4 a5 a6 a7 y0 y1 y2 y3 y4 y5 y6 y7
   clear hk hkl hbx hrs hB hz8 yf
   go_wp2
   (try simp only [Exit.inBlock, Exit.then])
   refine bodyPost_ret (v := .agg (Mf.cs W)) ?_ rfl ⟨by rw [HW.out], HB9.out⟩
   rw [Lv.results_cell rfl]
   go_simp
end
section
open Go Go.RowKit Go.Lib Go.Sort Go.Shelf
def Lv.ch (L : List Mf.P) (k : Nat) : List Mf.P := if k = 0 then Lv.st (ltOf Lv.cDn) (Lv.at_ 0 L) else match Lv.at_ (k : Int) L with
 | [] => []
 | x :: l => [Lv.mn x (x :: l)]
theorem Lv.ps_one (w : World) (x : Mf.P) : Mf.Ps (w.alloc (.cells (Mf.cs x) 38)) (.slice (some ⟨w.heap.size, 0, none⟩) 1 1) [x] :=
 ⟨_, _, rfl, Nat.le_refl _, .inr ⟨w.heap.size, 0, Mf.cs x, (38, (0, 0)), rfl, trivial, heap_alloc_new w _, fun i j y hi hj => by
  have hi0 : i = 0 := by
   have := (List.getElem?_eq_some_iff.1 hi).1
   simpa using this
  subst hi0
  obtain rfl : x = y := by simpa using hi
  have hP := Mf.PA.new w x 38
  rcases (by omega : j = 0 ∨ j = 1 ∨ j = 2 ∨ j = 3 ∨ j = 4 ∨ j = 5 ∨ j = 6 ∨ j = 7) with rfl | rfl | rfl | rfl | rfl | rfl | rfl | rfl
  ·exact hP.c0
  ·exact hP.c1
  ·exact hP.c2
  ·exact hP.c3
  ·exact hP.c4
  ·exact hP.c5
  ·exact hP.c6
  ·exact hP.c7⟩⟩
theorem Lv.Sorted.below0 {base : Nat} {w0 w w' : World} {v : Value} {K L : List Mf.P} (h : Lv.Sorted base w w' v L) (h0 : Mf.Ow base w v K) (g : Below base w0 w) (hb : base ≤ w.heap.size) : Below base w0 w' :=
 g.trans ⟨h.os, h.tape, h.output, h.size, fun j hj => h.block j (by omega) fun e => by have := Dk.Own.base_le h0 j e.symm; omega⟩
set_option maxHeartbeats 2000000 in
set_option maxRecDepth 100000 in
theorem Lv.chosen_c (v : Value) (L : List Mf.P) (k : Nat) (w : World) (hL : Mf.Ps w v L) (hl : L.length ≤ 1000000000) (hk : k < 3) (hne : 0 < (Lv.at_ (k : Int) L).length) :
 Calls Try.prog 37 #[v, .int .i64 (k : Int)] w fun e w' => ∃ u, e = .returned u ∧ Mf.Ps w' u (Lv.ch L k) ∧ Below w.heap.size w w' := by
 have C1 := Lv.on_c (k : Int) w
 obtain ⟨w3, hw3⟩ : ∃ w3, w3 = w.alloc (.cells #[.int .i64 (k : Int)] 3) := ⟨_, rfl⟩
 have g3 : Below w.heap.size w w3 := by rw [hw3]; exact (Below.refl _ _).alloc (Nat.le_refl _) _
 have hcell : w3.cell? ⟨w.heap.size, 0, none⟩ = some (.int .i64 (k : Int)) := by rw [hw3]; exact Kn.cell_new w _ _ 0 _ rfl
 have C2 := Lv.those_c v L w3 (hL.kept g3) hl 67 #[.pointer (some ⟨w.heap.size, 0, none⟩)] (enters_of Try.func67 (by kernel_rfl) rfl) (fun x => x.lv == (k : Int)) (Lv.on_keeps _ _ _ hcell)
 have hln : (Lv.at_ (k : Int) L).length ≤ 1000000000 := Nat.le_trans (Lv.at_len _ _) hl
 have hat : (L.filter fun x => x.lv == (k : Int)) = Lv.at_ (k : Int) L := rfl
 rw [hat] at C2
 rw [← hw3] at C1
 have HCH : Hid ((k = 0 → Lv.ch L k = Lv.st (ltOf Lv.cDn) (Lv.at_ (k : Int) L)) ∧ (k ≠ 0 → ∀ x, (Lv.at_ (k : Int) L)[0]? = some x → Lv.ch L k = [Lv.mn x (Lv.at_ (k : Int) L)])) := Lib.hid ⟨fun h => by subst h; rfl, fun h x hx => by
  unfold Lv.ch
  rw [if_neg h]
  cases hc : Lv.at_ (k : Int) L with
  | nil => rw [hc] at hx; cases hx
  | cons y l =>
    rw [hc] at hx
    obtain rfl : y = x := by simpa using hx
    rfl⟩
 have HG3 := Lib.hid g3
 generalize Lv.at_ (k : Int) L = M at C2 hln hne HCH
 generalize Lv.ch L k = R at HCH ⊢
 have HLN := Lib.hid hln
 have HNE := Lib.hid hne
 clear hL hl hcell hat hln hne g3 hw3
 by_cases hk0 : k = 0
 ·subst hk0
  go_enter Try.func37, Try.ntmps37
  go_wp2_with fail
  refine C1.mono ?_
  rintro e w4 ⟨rfl, rfl⟩
  clear C1
  go_wp2_with fail
  refine C2.mono ?_
  rintro e w5 ⟨u, rfl, hu, g5⟩
  have C3 := Lv.sortStable_c 64 Lv.cDn Lv.sDn (enters_of Try.func64 (by kernel_rfl) rfl) Lv.chosen1_c hu (by have := HLN.out; omega)
  have HU := Lib.hid hu
  have HG5 := Lib.hid g5
  clear hu g5 C2
  go_wp2_with fail
  refine C3.mono ?_
  rintro e w6 ⟨rfl, hs⟩
  have HS := Lib.hid (Lv.Sorted.below0 hs HU.out HG5.out HG5.out.size)
  have HR := Lib.hid hs.row.ps
  clear hs C3
  go_wp2
  go_ret
  refine ⟨_, rfl, ?_, HG3.out.trans (HS.out.mono HG3.out.size)⟩
  first
   | rw [HCH.out.1 rfl]
   | rw [HCH.out.1 trivial]
  exact HR.out
 ·have hkz : ¬ (k : Int) = 0 := by omega
  have hkb : ((k : Int) == 0) = false := beq_eq_false_iff_ne.2 hkz
  have HK0 := Lib.hid hk0
  go_enter Try.func37, Try.ntmps37
  go_wp2_with fail
  refine C1.mono ?_
  rintro e w4 ⟨rfl, rfl⟩
  clear C1
  go_wp2_with fail
  refine C2.mono ?_
  rintro e w5 ⟨u, rfl, hu, g5⟩
  have hx : M[0]? = some M[0] := List.getElem?_eq_getElem HNE.out
  have HX := Lib.hid (HCH.out.2 HK0.out _ hx)
  have C3 := Lv.min_c u M[0] M w5 hu.ps hx HLN.out
  have HG5 := Lib.hid (HG3.out.trans (g5.mono HG3.out.size))
  generalize Lv.mn M[0] M = z at C3 HX
  clear hu g5 C2 hx hk0
  go_wp2_with fail
  refine C3.mono ?_
  rintro e w6 ⟨rfl, g6⟩
  have HG6 := Lib.hid (HG5.out.trans (g6.mono HG5.out.size))
  have HP := Lib.hid (Lv.ps_one w6 z)
  have HG7 := Lib.hid (HG6.out.alloc HG6.out.size (.cells (Mf.cs z) 38))
  clear g6 C3
  go_wp2
  go_ret
  refine ⟨_, rfl, ?_, HG7.out⟩
  rw [HX.out]
  exact HP.out
end
section
open Go Go.RowKit Go.Lib Go.Sort Go.Shelf
def Lv.bl (L : List Mf.P) (k : Nat) : List Mf.P := match Lv.ch L k with
 | [] => []
 | x :: l => Lv.st (ltOf Lv.cLo) ((Lv.at_ ((k + 1 : Nat) : Int) L).filter (Lv.ov (Lv.sp x (x :: l))))
theorem Lv.bl_is {L : List Mf.P} {k : Nat} {x : Mf.P} (h : (Lv.ch L k)[0]? = some x) : Lv.bl L k = Lv.st (ltOf Lv.cLo) ((Lv.at_ ((k + 1 : Nat) : Int) L).filter (Lv.ov (Lv.sp x (Lv.ch L k)))) := by
 unfold Lv.bl
 cases hc : Lv.ch L k with
 | nil => rw [hc] at h; cases h
 | cons y l =>
   rw [hc] at h
   obtain rfl : y = x := by simpa using h
   rfl
def Lv.pi (L : List Mf.P) (k : Nat) : List Int := Lv.idl (Lv.ch L k) ++ Lv.idl (Lv.bl L k)
def Lv.bt (L : List Mf.P) (k : Nat) : Bool := !(L.any fun x => decide (((k + 1 : Nat) : Int) < x.lv))
theorem Lv.cw_some {L : List Mf.P} {k : Nat} (h : Lv.cw L = some k) : k < 3 ∧ 0 < (Lv.at_ (k : Int) L).length := by
 have hf : ∀ j, Lv.full L j = true → 0 < (Lv.at_ (j : Int) L).length := fun j hj => by
  have := of_decide_eq_true hj
  omega
 unfold Lv.cw at h
 split at h
 ·rename_i h1; cases h; exact ⟨by omega, hf 0 h1⟩
 ·split at h
  ·rename_i h1; cases h; exact ⟨by omega, hf 1 h1⟩
  ·split at h
   ·rename_i h1; cases h; exact ⟨by omega, hf 2 h1⟩
   ·cases h
theorem Lv.ch_len {L : List Mf.P} {k : Nat} (h : 0 < (Lv.at_ (k : Int) L).length) : 0 < (Lv.ch L k).length ∧ (Lv.ch L k).length ≤ L.length := by
 unfold Lv.ch
 split
 ·rename_i h0
  subst h0
  rw [Lv.st_len]
  exact ⟨h, Lv.at_len _ _⟩
 ·have hle := Lv.at_len (k : Int) L
  cases hc : Lv.at_ (k : Int) L with
  | nil => rw [hc] at h; simp at h
  | cons x l =>
    rw [hc] at hle
    simp only [List.length_cons] at hle ⊢
    exact ⟨by simp, by simp; omega⟩
theorem Lv.Sorted.below1 {B base : Nat} {w0 w w' : World} {v : Value} {K L : List Mf.P} (h : Lv.Sorted base w w' v L) (h0 : Mf.Ow base w v K) (g : Below B w0 w) (hb : B ≤ base) (hw : base ≤ w.heap.size) : Below B w0 w' :=
 g.trans ⟨h.os, h.tape, h.output, h.size, fun j hj => h.block j (by omega) fun e => by have := Dk.Own.base_le h0 j e.symm; omega⟩
theorem Lv.quad {w : World} {q : Nat} {x y z t : Value} {T : TypeId} (h : w.heap[q]? = some (.cells #[x, y, z, t] T (0, 0))) :
 (w.cell? ⟨q, 0, none⟩ = some x ∧ w.cell? ⟨q, 1, none⟩ = some y ∧ w.cell? ⟨q, 2, none⟩ = some z ∧ w.cell? ⟨q, 3, none⟩ = some t) ∧ w.frozen? ⟨q, 0, none⟩ = false ∧ w.frozen? ⟨q, 1, none⟩ = false ∧ w.frozen? ⟨q, 2, none⟩ = false ∧ w.frozen? ⟨q, 3, none⟩ = false := by
 refine ⟨⟨?_, ?_, ?_, ?_⟩, ?_, ?_, ?_, ?_⟩ <;> simp [World.cell?, World.frozen?, h]
theorem Lv.Oi.sl {base : Nat} {w : World} {v : Value} {L : List Int} (h : Lv.Oi base w v L) : ∃ a n c, v = .slice a n c := by
 rcases Dk.Own.form h with ⟨e, _⟩ | ⟨g, c, e, _⟩
 ·exact ⟨_, _, _, e⟩
 ·exact ⟨_, _, _, e⟩
theorem Lv.heap4 {W : World} {p : Nat} (x0 x1 x2 x3 : Value) {j : Nat} (h : j ≠ p) : ((((W.setCell ⟨p, 0, none⟩ x0).setCell ⟨p, 1, none⟩ x1).setCell ⟨p, 2, none⟩ x2).setCell ⟨p, 3, none⟩ x3).heap[j]? = W.heap[j]? :=
 (Below.heap_setCell _ _ _ _ (by show j ≠ p; exact h)).trans ((Below.heap_setCell _ _ _ _ (by show j ≠ p; exact h)).trans ((Below.heap_setCell _ _ _ _ (by show j ≠ p; exact h)).trans (Below.heap_setCell _ _ _ _ (by show j ≠ p; exact h))))
theorem Lv.cell4 {W : World} {q p : Nat} (h : q ≠ p) {v : Value} (x0 x1 x2 x3 : Value) (hc : W.cell? ⟨q, 0, none⟩ = some v) : ((((W.setCell ⟨p, 0, none⟩ x0).setCell ⟨p, 1, none⟩ x1).setCell ⟨p, 2, none⟩ x2).setCell ⟨p, 3, none⟩ x3).cell? ⟨q, 0, none⟩ = some v := by
 have hh := Lv.heap4 (W := W) (p := p) x0 x1 x2 x3 h
 simp only [World.cell?] at hc ⊢
 rw [hh]
 exact hc
theorem Lv.oi4 {base p : Nat} {W : World} {u : Value} {L : List Int} (h : Lv.Oi base W u L) (hp : p < base) (x0 x1 x2 x3 : Value) : Lv.Oi base ((((W.setCell ⟨p, 0, none⟩ x0).setCell ⟨p, 1, none⟩ x1).setCell ⟨p, 2, none⟩ x2).setCell ⟨p, 3, none⟩ x3) u L :=
 Dk.Own.same h fun j hj => Lv.heap4 x0 x1 x2 x3 (by have := (World.ownsRow.lt h j hj).1; omega)
theorem Lv.below4 {B p : Nat} {w W : World} (h : Below B w W) (hp : B ≤ p) (x0 x1 x2 x3 : Value) : Below B w ((((W.setCell ⟨p, 0, none⟩ x0).setCell ⟨p, 1, none⟩ x1).setCell ⟨p, 2, none⟩ x2).setCell ⟨p, 3, none⟩ x3) :=
 Mf.below1 (Mf.below1 (Mf.below1 (Mf.below1 h hp _ _) hp _ _) hp _ _) hp _ _
def Lv.GotP (w : World) (L : List Mf.P) (k : Nat) (e : Ending) (w' : World) : Prop :=
 ∃ a n c, e = .returned (.tuple #[.agg #[.int .i64 (k : Int), .int .i64 ((k + 1 : Nat) : Int), .slice a n c, .bool (Lv.bt L k)], .bool true]) ∧ Lv.Oi w.heap.size w' (.slice a n c) (Lv.pi L k) ∧ Below w.heap.size w w'
set_option maxHeartbeats 8000000 in
set_option maxRecDepth 100000 in
theorem Lv.pick_some (v : Value) (L : List Mf.P) (k : Nat) (w : World) (hL : Mf.Ps w v L) (hl : L.length ≤ 1000000000) (hk : Lv.cw L = some k) :
 Calls Try.prog 15 #[v] w (Lv.GotP w L k) := by
 obtain ⟨hk3, hne⟩ := Lv.cw_some hk
 obtain ⟨t, ht⟩ : ∃ t, t = k + 1 := ⟨_, rfl⟩
 have HTK := Lib.hid ht
 obtain ⟨hc0, hcl⟩ := Lv.ch_len hne
 have HL := Lib.hid hL
 have HLL := Lib.hid hl
 obtain ⟨w0, hw0⟩ : ∃ w0, w0 = w.alloc (.cells #[.int .i64 0, .int .i64 0, .slice none 0 0, .bool false] 27) := ⟨_, rfl⟩
 have g0 : Below w.heap.size w w0 := by rw [hw0]; exact (Below.refl _ _).alloc (Nat.le_refl _) _
 have HRS0 : Hid (w0.heap[w.heap.size]? = some (.cells #[.int .i64 0, .int .i64 0, .slice none 0 0, .bool false] 27 (0, 0))) := Lib.hid (by rw [hw0]; exact heap_alloc_new w _)
 have C1 := Lv.crowded_c v L w0 (hL.kept g0) hl
 rw [hk] at C1
 unfold Lv.cwV at C1
 simp only at C1
 have CCH := Lib.hid fun (W : World) (g : Below w.heap.size w W) => Lv.chosen_c v L k W (hL.kept g) hl hk3 hne
 have COT := Lib.hid fun (W : World) (g : Below w.heap.size w W) => Lv.those_c v L (W.alloc (.cells #[.int .i64 (t : Int)] 3)) ((hL.kept g).kept ((Below.refl _ _).alloc (Nat.le_refl _) _)) hl 67 #[.pointer (some ⟨W.heap.size, 0, none⟩)] (enters_of Try.func67 (by kernel_rfl) rfl) (fun x => x.lv == (t : Int)) (Lv.on_keeps _ _ _ (Kn.cell_new W _ _ 0 _ rfl))
 have HB0 := Lib.hid g0
 obtain ⟨av, cv, rfl, -⟩ := hL.form
 have HK3 := Lib.hid hk3
 obtain ⟨x0, hx0⟩ : ∃ x0, (Lv.ch L k)[0]? = some x0 := ⟨_, List.getElem?_eq_getElem hc0⟩
 have HBL : Hid (Lv.bl L k = Lv.st (ltOf Lv.cLo) ((Lv.at_ (t : Int) L).filter (Lv.ov (Lv.sp x0 (Lv.ch L k))))) := Lib.hid (by rw [ht]; exact Lv.bl_is hx0)
 have HCL := Lib.hid (And.intro hc0 hcl)
 have HX0 := Lib.hid hx0
 have wk : IntKind.i64.wrap ((k : Int) + 1) = (t : Int) := by rw [IntKind.wrap_i64]; omega
 clear hL hl hk hk3 hne hc0 hcl g0 hx0 ht
 go_enter Try.func15, Try.ntmps15
 go_wp2_with fail
 rw [← hw0]
 clear hw0
 refine C1.mono ?_
 rintro e w1 ⟨rfl, g1⟩
 obtain ⟨wA, hwA⟩ : ∃ wA, wA = w1.alloc (.cells #[.int .i64 (t : Int)] 3) := ⟨_, rfl⟩
 obtain ⟨q6, hq6⟩ : ∃ q6, q6 = w1.heap.size := ⟨_, rfl⟩
 have gA : Below w1.heap.size w1 wA := by rw [hwA]; exact (Below.refl _ _).alloc (Nat.le_refl _) _
 have HB1 := Lib.hid ((HB0.out.trans (g1.mono HB0.out.size)))
 have HBA := Lib.hid (HB1.out.trans (gA.mono HB1.out.size))
 have HC6 : Hid (wA.cell? ⟨q6, 0, none⟩ = some (.int .i64 (t : Int))) := Lib.hid (by rw [hwA, hq6]; exact Kn.cell_new w1 _ _ 0 _ rfl)
 have HRSA := Lib.hid ((gA.block w.heap.size (Nat.lt_of_lt_of_le (lt_of_block HRS0.out) g1.size)).trans ((g1.block w.heap.size (lt_of_block HRS0.out)).trans HRS0.out))
 have HQ6 : Hid (q6 ≠ w.heap.size) := Lib.hid (by have h1 := lt_of_block HRS0.out; have h2 := g1.size; omega)
 clear C1 g1 gA
 go_upto_region 5 with fail
 rw [← hwA]
 rw [← hq6]
 clear hwA hq6 wk
 go_wp2_with fail
 refine (CCH.out wA HBA.out).mono ?_
 rintro e w2 ⟨u7, rfl, hp7, g2⟩
 have HB2 := Lib.hid (HBA.out.trans (g2.mono HBA.out.size))
 have hq6l := World.block_lt_of_cell? wA _ HC6.out
 have h6 := (g2.cell (p := ⟨q6, 0, none⟩) hq6l).trans HC6.out
 have HC62 := Lib.hid h6
 have HRS2 := Lib.hid ((g2.block w.heap.size (lt_of_block HRSA.out)).trans HRSA.out)
 have HP7 := Lib.hid hp7
 have C2 := Lv.on_c (t : Int) w2
 have C3 := Lib.hid (COT.out w2 HB2.out)
 obtain ⟨w3, hw3⟩ : ∃ w3, w3 = w2.alloc (.cells #[.int .i64 (t : Int)] 3) := ⟨_, rfl⟩
 obtain ⟨qo, hqo⟩ : ∃ qo, qo = w2.heap.size := ⟨_, rfl⟩
 have g3 : Below w2.heap.size w2 w3 := by rw [hw3]; exact (Below.refl _ _).alloc (Nat.le_refl _) _
 have HG3 := Lib.hid g3
 rw [← hw3, ← hqo] at C2 C3
 clear hp7 g2 hq6l CCH COT hw3 hqo g3
 go_wp2_with fail
 refine C2.mono ?_
 rintro e w9 ⟨rfl, rfl⟩
 clear C2 h6
 go_wp2_with fail
 refine C3.out.mono ?_
 rintro e w4 ⟨u26, rfl, hu26, g4⟩
 have hat : (L.filter fun x => x.lv == (t : Int)) = Lv.at_ (t : Int) L := rfl
 rw [hat] at hu26
 have HG4 := Lib.hid (HG3.out.trans (g4.mono HG3.out.size))
 have HU26 := Lib.hid hu26.ps
 have C4 := Lv.span_c u7 x0 (Lv.ch L k) w4 (HP7.out.kept HG4.out) HX0.out (Nat.le_trans HCL.out.2 HLL.out)
 clear C3 hat hu26 g4
 generalize Lv.sp x0 (Lv.ch L k) = SP at C4 HBL
 go_wp2_with fail
 refine C4.mono ?_
 rintro e w5 ⟨rfl, g5⟩
 have HG5 := Lib.hid (HG4.out.trans (g5.mono HG4.out.size))
 have HU5 := Lib.hid (HU26.out.kept g5)
 have C5 := Lv.overlapping_c SP w5
 obtain ⟨w6, hw6⟩ : ∃ w6, w6 = w5.alloc (.cells (Mf.cs SP) 38) := ⟨_, rfl⟩
 obtain ⟨qv, hqv⟩ : ∃ qv, qv = w5.heap.size := ⟨_, rfl⟩
 have g6 : Below w5.heap.size w5 w6 := by rw [hw6]; exact (Below.refl _ _).alloc (Nat.le_refl _) _
 have hpa : Mf.PA w6 qv 0 SP := by rw [hw6, hqv]; exact Mf.PA.new w5 SP 38
 have C6 := Lib.hid (Lv.those_c u26 (Lv.at_ (t : Int) L) w6 (HU5.out.kept g6) (Nat.le_trans (Lv.at_len _ _) HLL.out) 68 #[.pointer (some ⟨qv, 0, none⟩)] (enters_of Try.func68 (by kernel_rfl) rfl) (Lv.ov SP) (Lv.over_keeps SP w6 qv hpa))
 have HG6 := Lib.hid (HG5.out.trans (g6.mono HG5.out.size))
 rw [← hw6, ← hqv] at C5
 clear C4 g5 g6 hw6 hqv hpa
 go_wp2_with fail
 refine C5.mono ?_
 rintro e w9 ⟨rfl, rfl⟩
 clear C5
 go_wp2_with fail
 refine C6.out.mono ?_
 rintro e w7 ⟨u8, rfl, hu8, g7⟩
 have HG7 := Lib.hid (HG6.out.trans (g7.mono HG6.out.size))
 have HG67 := Lib.hid g7
 have hfl : ((Lv.at_ (t : Int) L).filter (Lv.ov SP)).length ≤ 1000000000 := Nat.le_trans (List.length_filter_le _ _) (Nat.le_trans (Lv.at_len _ _) HLL.out)
 have C7 := Lv.sortStable_c 43 Lv.cLo Lv.sLo (enters_of Try.func43 (by kernel_rfl) rfl) Lv.byLo_c hu8 (by omega)
 rw [← HBL.out] at C7
 have HU8 := Lib.hid hu8
 have HBN : Hid ((Lv.bl L k).length ≤ 1000000000) := Lib.hid (by rw [HBL.out, Lv.st_len]; exact hfl)
 clear C6 hu8 g7 hfl
 go_wp2_with fail
 refine C7.mono ?_
 rintro e w8 ⟨rfl, hs⟩
 have HG8 := Lib.hid (Lv.Sorted.below1 hs HU8.out HG7.out HG6.out.size HG67.out.size)
 have HU9 := Lib.hid hs.row.ps
 have HP9 := Lib.hid (HP7.out.kept HG8.out)
 have HC9 := Lib.hid ((HG8.out.cell (p := ⟨q6, 0, none⟩) (World.block_lt_of_cell? _ _ HC62.out)).trans HC62.out)
 have HR9 := Lib.hid ((HG8.out.block w.heap.size (lt_of_block HRS2.out)).trans HRS2.out)
 have HB9 := Lib.hid (HB2.out.trans (HG8.out.mono HB2.out.size))
 clear hs C7
 obtain ⟨a7, c7, rfl, -⟩ := HP9.out.form
 obtain ⟨a8, c8, rfl, -⟩ := HU9.out.form
 have CI := Lib.hid fun (W : World) (q : Nat) (g : Below w8.heap.size w8 W) (h0 : W.cell? ⟨q, 0, none⟩ = some (.slice a7 (Lv.ch L k).length c7)) (h1 : W.cell? ⟨q, 1, none⟩ = some (.slice a8 (Lv.bl L k).length c8)) =>
  Lv.ids_c q 0 2 [Lv.ch L k, Lv.bl L k] W (fun i Y hY => by
   have hi := (List.getElem?_eq_some_iff.1 hY).1
   simp only [List.length_cons, List.length_nil] at hi
   rcases (by omega : i = 0 ∨ i = 1) with rfl | rfl
   ·obtain rfl : Lv.ch L k = Y := by simpa using hY
    exact ⟨_, h0, HP9.out.kept g⟩
   ·obtain rfl : Lv.bl L k = Y := by simpa using hY
    exact ⟨_, h1, HU9.out.kept g⟩) (Nat.le_refl _) (fun Y hY => by
   rcases List.mem_cons.1 hY with rfl | hY
   ·exact Nat.le_trans HCL.out.2 HLL.out
   ·rw [List.mem_singleton.1 hY]; exact HBN.out)
 have CC := Lib.hid fun (W : World) (g : Below w8.heap.size w8 W) => Lv.contains_c (.slice av L.length cv) L W ((HL.out.kept HB9.out).kept g) HLL.out 44 #[.pointer (some ⟨q6, 0, none⟩)] (enters_of Try.func44 (by kernel_rfl) rfl) (fun x => decide ((t : Int) < x.lv)) (Lv.pick_keeps (t : Int) W q6 ((g.cell (p := ⟨q6, 0, none⟩) (World.block_lt_of_cell? _ _ HC9.out)).trans HC9.out))
 have HXI : Hid (Lv.idl (Lv.ch L k) ++ Lv.idl (Lv.bl L k) = [Lv.ch L k, Lv.bl L k].flatMap Lv.idl) := Lib.hid (by simp)
 simp only [List.length_cons, List.length_nil, Nat.zero_add, Nat.reduceAdd] at CI
 generalize hany : (L.any fun x => decide ((t : Int) < x.lv)) = pb at CC
 have HANY := Lib.hid hany
 have GD : Hid (Below w8.heap.size w8 w8.drew) := Lib.hid ((Below.refl _ _).drew)
 have GA : Hid (Below w8.heap.size w8 (w8.alloc (.cells #[.slice a7 (Lv.ch L k).length c7, .slice a8 (Lv.bl L k).length c8] 22)).drew) := Lib.hid (((Below.refl _ _).alloc (Nat.le_refl _) _).drew)
 have NA0 : Hid ((w8.alloc (.cells #[.slice a7 (Lv.ch L k).length c7, .slice a8 (Lv.bl L k).length c8] 22)).drew.cell? ⟨w8.heap.size, 0, none⟩ = some (.slice a7 (Lv.ch L k).length c7)) := Lib.hid (Kn.cell_new w8 _ _ 0 _ rfl)
 have NA1 : Hid ((w8.alloc (.cells #[.slice a7 (Lv.ch L k).length c7, .slice a8 (Lv.bl L k).length c8] 22)).drew.cell? ⟨w8.heap.size, 1, none⟩ = some (.slice a8 (Lv.bl L k).length c8)) := Lib.hid (Kn.cell_new w8 _ _ 1 _ rfl)
 have HC := Lib.hid fun (W : World) (g : Below w8.heap.size w8 W) => (g.cell (p := ⟨q6, 0, none⟩) (World.block_lt_of_cell? _ _ HC9.out)).trans HC9.out
 have HR := Lib.hid fun (W : World) (g : Below w8.heap.size w8 W) => Lv.quad ((g.block w.heap.size (lt_of_block HR9.out)).trans HR9.out)
 clear hany
 go_upto_region 9 with fail
 go_region_held3 (fun W => W.cell? ⟨q6, 0, none⟩ = some (.int .i64 (t : Int)))
  (first
   | exact HC.out _ GD.out
   | exact HC.out _ GA.out
   | exact HC.out _ GI.out
   | exact HC.out _ GK.out
   | exact HC.out _ (GK.out.alloc GK.out.size _)
   | exact Lv.cell4 HQ6.out _ _ _ _ (HC.out _ GK.out)
   | exact Lv.cell4 HQ6.out _ _ _ _ (HC.out _ GI.out))
  (first
   | (go_at_call 45; refine (CI.out (w8.alloc (.cells #[.slice a7 (Lv.ch L k).length c7, .slice a8 (Lv.bl L k).length c8] 22)).drew w8.heap.size GA.out NA0.out NA1.out).mono ?_; rintro e wi ⟨ui, rfl, hi, gi⟩; obtain ⟨ai, ni, ci, rfl⟩ := Lv.Oi.sl hi; have GI := Lib.hid (GA.out.trans (gi.mono GA.out.size)); have HI9 := Lib.hid hi; obtain ⟨⟨y0, y1, y2, y3⟩, z0, z1, z2, z3⟩ := HR.out _ GI.out; clear hi gi)
   | (go_at_call 46; refine (CC.out _ GI.out).mono ?_; rintro e wc ⟨rfl, gc⟩; have GK := Lib.hid (GI.out.trans (gc.mono GI.out.size)); have GIC := Lib.hid gc; obtain ⟨⟨y0, y1, y2, y3⟩, z0, z1, z2, z3⟩ := HR.out _ GK.out; clear gc)
   | (go_at_call 46; refine (CC.out w8.drew GD.out).mono ?_; rintro e wc ⟨rfl, gc⟩; have GK := Lib.hid (GD.out.trans (gc.mono GD.out.size)); obtain ⟨⟨y0, y1, y2, y3⟩, z0, z1, z2, z3⟩ := HR.out _ GK.out; clear gc)
   | (go_at_call 46; refine (CC.out (w8.alloc (.cells #[.slice a7 (Lv.ch L k).length c7, .slice a8 (Lv.bl L k).length c8] 22)).drew GA.out).mono ?_; rintro e wc ⟨rfl, gc⟩; have GK := Lib.hid (GA.out.trans (gc.mono GA.out.size)); obtain ⟨⟨y0, y1, y2, y3⟩, z0, z1, z2, z3⟩ := HR.out _ GK.out; clear gc))
 all_goals go_wp2
 all_goals (try simp only [Exit.inBlock, Exit.then])
 all_goals
  have hbt : Lv.bt L k = !pb := by unfold Lv.bt; rw [← HTK.out, HANY.out]
  have hpi : Lv.pi L k = [Lv.ch L k, Lv.bl L k].flatMap Lv.idl := HXI.out
  have hsz := (HB9.out.size)
  have hlt := lt_of_block HR9.out
  have hb8 := HB9.out
 refine bodyPost_ret (v := .tuple #[.agg #[.int .i64 (k : Int), .int .i64 (t : Int), .slice ai ni ci, .bool (!pb)], .bool true]) ?_ rfl ⟨ai, ni, ci, by rw [hbt, ← HTK.out], by rw [hpi]; exact World.ownsRow.mono (Lv.oi4 (p := w.heap.size) (Dk.Own.kept HI9.out GIC.out) (Nat.lt_of_lt_of_le hlt GA.out.size) _ _ _ _) (Nat.le_trans hsz GA.out.size), Lv.below4 (hb8.trans (GK.out.mono hsz)) (Nat.le_refl _) _ _ _ _⟩
 rw [results_cell_tmp rfl]
 go_simp
end
section
open Go Go.RowKit Go.Lib
set_option maxHeartbeats 2000000 in
set_option maxRecDepth 100000 in
theorem Lv.pick_none (v : Value) (L : List Mf.P) (w : World) (hL : Mf.Ps w v L) (hl : L.length ≤ 1000000000) (hk : Lv.cw L = none) :
 Calls Try.prog 15 #[v] w fun e w' => e = .returned (.tuple #[.agg #[.int .i64 0, .int .i64 0, .slice none 0 0, .bool false], .bool false]) ∧ Below w.heap.size w w' := by
 obtain ⟨w0, hw0⟩ : ∃ w0, w0 = w.alloc (.cells #[.int .i64 0, .int .i64 0, .slice none 0 0, .bool false] 27) := ⟨_, rfl⟩
 have g0 : Below w.heap.size w w0 := by rw [hw0]; exact (Below.refl _ _).alloc (Nat.le_refl _) _
 have HRS0 : Hid (w0.heap[w.heap.size]? = some (.cells #[.int .i64 0, .int .i64 0, .slice none 0 0, .bool false] 27 (0, 0))) := Lib.hid (by rw [hw0]; exact heap_alloc_new w _)
 have C1 := Lv.crowded_c v L w0 (hL.kept g0) hl
 rw [hk] at C1
 unfold Lv.cwV at C1
 simp only at C1
 have HB0 := Lib.hid g0
 clear hL hl hk g0
 go_enter Try.func15, Try.ntmps15
 go_wp2_with fail
 rw [← hw0]
 clear hw0
 refine C1.mono ?_
 rintro e w1 ⟨rfl, g1⟩
 have hb := HB0.out.trans (g1.mono HB0.out.size)
 have HB9 := Lib.hid (Lv.below4 hb (Nat.le_refl _) (.int .i64 0) (.int .i64 0) (.slice none 0 0) (.bool false))
 obtain ⟨⟨y0, y1, y2, y3⟩, z0, z1, z2, z3⟩ := Lv.quad ((g1.block w.heap.size (lt_of_block HRS0.out)).trans HRS0.out)
 clear hb g1 C1
 go_wp2
 (try simp only [Exit.inBlock, Exit.then])
 refine bodyPost_ret (v := .tuple #[.agg #[.int .i64 0, .int .i64 0, .slice none 0 0, .bool false], .bool false]) ?_ rfl ⟨rfl, HB9.out⟩
 rw [results_cell_tmp rfl]
 go_simp
end
section
open Go Go.RowKit Go.Lib Go.Sort
set_option maxRecDepth 100000 in
theorem Lv.dis1_c (x : Mf.P) (w : World) : Calls Try.prog 51 #[.agg (Mf.cs x)] w fun e w' => e = .returned (.bool (x.lv != 0)) ∧ Below w.heap.size w w' := by
 obtain ⟨i, l, ⟨an, ai, sa⟩, ⟨bn, bi, sb⟩⟩ := x
 simp only [Mf.cs]
 go_enter Try.func51, Try.ntmps51
 go_wp2
 go_ret
 exact ⟨rfl, (Below.refl _ _).alloc (Nat.le_refl _) _⟩
theorem Lv.dis1_keeps (w : World) : Lv.Keeps w 51 #[] (fun x => x.lv != 0) := fun x W _ => Lv.dis1_c x W
def Lv.cDj (x y : Mf.P) : Int := Kn.or2 (Kn.ncmp x.lv y.lv) (Kn.cmp x.lo y.lo)
theorem Lv.sDj : SWO (ltOf Lv.cDj) := Lv.swo_of fun x y z => Kn.lex_fair (Kn.ncmp_fair x.lv y.lv z.lv) (Kn.cmp_fair x.lo y.lo z.lo)
theorem Lv.gr_refl (w : World) : ∃ q os, w = grow (w.drewN q) os := ⟨0, #[], by rw [grow_empty]; rfl⟩
theorem Lv.gr_drew {w w' : World} (h : ∃ q os, w' = grow (w.drewN q) os) : ∃ q os, w'.drew = grow (w.drewN q) os := by
 obtain ⟨q, os, rfl⟩ := h
 exact ⟨q + 1, os, rfl⟩
theorem Lv.gr_alloc {w w' : World} (h : ∃ q os, w' = grow (w.drewN q) os) (o : Obj) : ∃ q os, w'.alloc o = grow (w.drewN q) os := by
 obtain ⟨q, os, rfl⟩ := h
 exact ⟨q, os ++ #[o], by rw [alloc_eq_grow, grow_grow]⟩
theorem Lv.gr_trans {w w1 w2 : World} (h : ∃ q os, w1 = grow (w.drewN q) os) (h2 : ∃ q os, w2 = grow (w1.drewN q) os) : ∃ q os, w2 = grow (w.drewN q) os := by
 obtain ⟨q, os, rfl⟩ := h
 obtain ⟨q2, os2, rfl⟩ := h2
 exact ⟨q + q2, os ++ os2, by show grow (grow ((w.drewN q).drewN q2) os) os2 = _; rw [grow_grow, World.drewN_drewN]⟩
theorem Lv.gr_below {w w' : World} (h : ∃ q os, w' = grow (w.drewN q) os) : Below w.heap.size w w' := by
 obtain ⟨q, os, rfl⟩ := h
 exact Lv.below_gr w q os
end
section
open Go Go.RowKit Go.Lib Go.Sort
theorem Lv.pa8 {W : World} {q : Nat} {x : Mf.P} (h : Mf.PA W q 0 x) : W.cell? ⟨q, 0, none⟩ = some (.int .i64 x.id) ∧ W.cell? ⟨q, 1, none⟩ = some (.int .i64 x.lv) ∧ W.cell? ⟨q, 2, none⟩ = some (.bool x.lo.null) ∧ W.cell? ⟨q, 3, none⟩ = some (.int .i64 x.lo.n) ∧ W.cell? ⟨q, 4, none⟩ = some (.string x.lo.s) ∧ W.cell? ⟨q, 5, none⟩ = some (.bool x.hi.null) ∧ W.cell? ⟨q, 6, none⟩ = some (.int .i64 x.hi.n) ∧ W.cell? ⟨q, 7, none⟩ = some (.string x.hi.s) := by
 obtain ⟨c0, c1, c2, c3, c4, c5, c6, c7⟩ := h
 simp only [Nat.zero_add] at c0 c1 c2 c3 c4 c5 c6 c7
 exact ⟨c0, c1, c2, c3, c4, c5, c6, c7⟩
set_option maxHeartbeats 4000000 in
set_option maxRecDepth 100000 in
theorem Lv.dis2_c (x y : Mf.P) (W : World) : Calls Try.prog 53 #[.agg (Mf.pc x).toArray, .agg (Mf.pc y).toArray] W fun e w' => e = .returned (.int .i64 (Lv.cDj x y)) ∧ ∃ q os', w' = grow (W.drewN q) os' := by
 have CC := Lib.hid fun (V : World) => Lv.cmp_c x.lv y.lv V
 have CB := Lib.hid fun (V : World) => Lv.byLo_c x y V
 have hcd : Lv.cDj x y = Kn.or2 (Kn.ncmp x.lv y.lv) (Kn.cmp x.lo y.lo) := rfl
 rw [hcd]
 generalize Kn.ncmp x.lv y.lv = r1 at CC ⊢
 generalize Kn.cmp x.lo y.lo = r2 at CB ⊢
 have CO := Lib.hid fun (b : Nat) (V : World) (h0 : V.cell? ⟨b, 0, none⟩ = some (.int .i64 r1)) (h1 : V.cell? ⟨b, 1, none⟩ = some (.int .i64 r2)) => Kn.or_c b r1 r2 V h0 h1
 obtain ⟨w1, hw1⟩ : ∃ w1, w1 = (W.alloc (.cells (Mf.cs x) 38)).alloc (.cells (Mf.cs y) 38) := ⟨_, rfl⟩
 obtain ⟨q2, hq2⟩ : ∃ q2, q2 = W.heap.size := ⟨_, rfl⟩
 have hg : ∃ q os, w1 = grow (W.drewN q) os := by rw [hw1]; exact Lv.gr_alloc (Lv.gr_alloc (Lv.gr_refl W) _) _
 have s1 : (W.alloc (.cells (Mf.cs x) 38)).heap.size = q2 + 1 := by rw [hq2]; exact World.size_alloc ..
 have HX : Hid (Mf.PA w1 q2 0 x) := Lib.hid (by rw [hw1, hq2]; exact (Mf.PA.new W x 38).kept ((Below.refl _ _).alloc (Nat.le_refl _) _))
 have HY : Hid (Mf.PA w1 (q2 + 1) 0 y) := Lib.hid (by
  have := Mf.PA.new (W.alloc (.cells (Mf.cs x) 38)) y 38
  rw [s1] at this
  rw [hw1]
  exact this)
 have HG := Lib.hid hg
 have HK := Lib.hid fun (V : World) (g : Below w1.heap.size w1 V) => And.intro (Lv.pa8 (HX.out.kept g)) (Lv.pa8 (HY.out.kept g))
 have GD : Hid (∃ q os, w1.drew = grow (w1.drewN q) os) := Lib.hid (Lv.gr_drew (Lv.gr_refl w1))
 unfold Mf.cs at hw1
 simp only [Mf.pc, List.toArray] at CB ⊢
 show Calls Try.prog 53 #[.agg #[.int .i64 x.id, .int .i64 x.lv, .bool x.lo.null, .int .i64 x.lo.n, .string x.lo.s, .bool x.hi.null, .int .i64 x.hi.n, .string x.hi.s], .agg #[.int .i64 y.id, .int .i64 y.lv, .bool y.lo.null, .int .i64 y.lo.n, .string y.lo.s, .bool y.hi.null, .int .i64 y.hi.n, .string y.hi.s]] W _
 clear hcd hg s1
 go_enter Try.func53, Try.ntmps53
 go_upto_region 1 with fail
 rw [← hw1]
 rw [← hq2]
 clear hw1 hq2
 go_region_held3 (fun V => (V.cell? ⟨q2, 0, none⟩ = some (.int .i64 x.id) ∧ V.cell? ⟨q2, 1, none⟩ = some (.int .i64 x.lv) ∧ V.cell? ⟨q2, 2, none⟩ = some (.bool x.lo.null) ∧ V.cell? ⟨q2, 3, none⟩ = some (.int .i64 x.lo.n) ∧ V.cell? ⟨q2, 4, none⟩ = some (.string x.lo.s) ∧ V.cell? ⟨q2, 5, none⟩ = some (.bool x.hi.null) ∧ V.cell? ⟨q2, 6, none⟩ = some (.int .i64 x.hi.n) ∧ V.cell? ⟨q2, 7, none⟩ = some (.string x.hi.s)) ∧ V.cell? ⟨q2 + 1, 0, none⟩ = some (.int .i64 y.id) ∧ V.cell? ⟨q2 + 1, 1, none⟩ = some (.int .i64 y.lv) ∧ V.cell? ⟨q2 + 1, 2, none⟩ = some (.bool y.lo.null) ∧ V.cell? ⟨q2 + 1, 3, none⟩ = some (.int .i64 y.lo.n) ∧ V.cell? ⟨q2 + 1, 4, none⟩ = some (.string y.lo.s) ∧ V.cell? ⟨q2 + 1, 5, none⟩ = some (.bool y.hi.null) ∧ V.cell? ⟨q2 + 1, 6, none⟩ = some (.int .i64 y.hi.n) ∧ V.cell? ⟨q2 + 1, 7, none⟩ = some (.string y.hi.s))
  (first
   | exact HK.out _ (Lv.gr_below GD.out)
   | exact HK.out _ (Lv.gr_below GB.out)
   | exact HK.out _ (Lv.gr_below (Lv.gr_alloc GB.out _)))
  (first
   | (go_at_call 55; refine (CC.out _).mono ?_; rintro e wz ⟨rfl, rfl⟩)
   | (go_at_call 43; refine (CB.out _).mono ?_; rintro e wb ⟨rfl, gb⟩; have GB := Lib.hid (Lv.gr_trans GD.out gb); clear gb)
   | (go_at_call 54; refine (CO.out wb.heap.size _ (Kn.cell_new wb _ _ 0 _ rfl) (Kn.cell_new wb _ _ 1 _ rfl)).mono ?_; rintro e wz ⟨rfl, rfl⟩))
 all_goals go_wp2
 all_goals go_ret
 all_goals exact ⟨rfl, Lv.gr_trans HG.out (Lv.gr_alloc GB.out _)⟩
end
section
open Go Go.RowKit Go.Lib Go.Sort Go.Shelf
set_option maxHeartbeats 2000000 in
set_option maxRecDepth 100000 in
theorem Lv.pdq_none (lim : Int) (fv : Value) (w : World) : Calls Try.prog 71 #[.slice none 0 0, .int .i64 0, .int .i64 0, .int .i64 lim, fv] w fun e w' => e = .returned (.tuple #[]) ∧ w' = w := by
 go_enter Try.func71, Try.ntmps71
 go_wp2
 refine wp_loop_rounds 1 ?_
 rw [rounds_succ]
 go_wp2_with fail
 refine (Lv.ins_none fv w).mono ?_
 rintro e w1 ⟨rfl, rfl⟩
 go_wp2
 (try simp only [Exit.inBlock, Exit.then])
 refine bodyPost_ret (results_none rfl _ _ _) rfl ?_
 exact ⟨rfl, rfl⟩
set_option maxHeartbeats 2000000 in
set_option maxRecDepth 100000 in
theorem Lv.sort_none (fv : Value) (w : World) : Calls Try.prog 52 #[.slice none 0 0, fv] w fun e w' => e = .returned (.tuple #[]) ∧ w' = w := by
 have hl : Calls Try.prog 72 #[.int .u64 0] w fun e w' => e = .returned (.int .i64 (Lib.bitLen 0 : Nat)) ∧ w' = w := by
  have h := Any.bits_Len (SlLaysF0.n15.bits (P := Try.prog) (ρ := Try.sortL_ren) { Try.sortL with }) 0 w (by omega) (by omega)
  exact h
 have hp := fun W => Lv.pdq_none (Lib.bitLen 0 : Nat) fv W
 go_enter Try.func52, Try.ntmps52
 go_wp2_with fail
 refine hl.mono ?_
 rintro e w1 ⟨rfl, rfl⟩
 go_wp2_with fail
 refine (hp _).mono ?_
 rintro e w1 ⟨rfl, rfl⟩
 go_wp2
 go_end0
 exact ⟨rfl, rfl⟩
set_option maxHeartbeats 2000000 in
set_option maxRecDepth 100000 in
theorem Lv.sort_c {base : Nat} {w : World} {v : Value} {L : List Mf.P} (h : Mf.Ow base w v L) (hl : L.length ≤ 1000000000000) :
 Calls Try.prog 52 #[v, .func (.func 53) #[] #[]] w fun e w' => e = .returned (.tuple #[]) ∧ ∃ K : List Mf.P, K.Perm L ∧ Lv.Sd (ltOf Lv.cDj) K ∧ Lv.Sorted base w w' v K := by
 rcases Dk.Own.form h with ⟨rfl, rfl⟩ | ⟨g, c, rfl, h1, h2, h3, h4⟩
 ·refine (Lv.sort_none _ w).mono ?_
  rintro e w' ⟨rfl, rfl⟩
  exact ⟨rfl, [], List.Perm.refl _, List.Pairwise.nil, ⟨h, Nat.le_refl _, rfl, rfl, rfl, fun _ _ _ => rfl⟩⟩
 ·have eg : ∀ args w, (callFunc 53 args).run Try.prog w = .ok (.enter 53 args) w := enters_of Try.func53 (by kernel_rfl) rfl
  have hcmp : CmpLays Try.prog 53 #[] Mf.pc 8 Lv.cDj g 0 L.toArray.size w := fun _ _ _ _ x y => Lv.dis2_c x y _
  have hcon := AnyQ.slices_SortFunc Try.sortL 8 (fun _ => rfl) (fun _ => rfl) Mf.pc Mf.pc_len (fun x v hv => Mf.pc_one x v hv) Lv.cDj Lv.sDj 53 #[] g 0 c L.toArray w eg hcmp (Lv.holds_of h) h4 (by rw [List.size_toArray]; omega)
  rw [List.size_toArray] at hcon
  refine Calls.mono hcon ?_
  rintro e w' ⟨rfl, d', n, os, hpm, hst, rfl⟩
  rw [← List.size_toArray] at hpm
  have hsz : d'.size = L.length := by rw [hpm.1, List.size_toArray]
  have hperm := Lv.perm_all hpm
  rw [List.toList_toArray] at hperm
  have hsorted : Lv.Sd (ltOf Lv.cDj) d'.toList := by
   unfold Lv.Sd
   rw [List.pairwise_iff_getElem]
   intro i j hi hj hij
   have := hst i j (Nat.zero_le _) hij (by rw [Array.length_toList] at hj; omega)
   rw [getElem!_pos d' i (by simpa using hi), getElem!_pos d' j (by simpa using hj)] at this
   simpa using this
  have hahead : Mf.Ow base (Sort.ahead w n) (.slice (some ⟨g, 0, none⟩) L.length c) L := h
  have hput := Lv.Ow.put hahead d' hsz
  have hbw : Below (putRowK Mf.pc 8 (Sort.ahead w n) g 0 d').heap.size (putRowK Mf.pc 8 (Sort.ahead w n) g 0 d') (sortWorldK Mf.pc 8 w g 0 n d' os) := Lv.below_grow _ os
  refine ⟨rfl, d'.toList, hperm, hsorted, hput.kept hbw, ?_, rfl, rfl, rfl, fun j hj hne => ?_⟩
  ·have := hbw.size
   rw [size_putRowK] at this
   exact this
  ·have hj2 : j < (putRowK Mf.pc 8 (Sort.ahead w n) g 0 d').heap.size := by rw [size_putRowK]; exact hj
   exact (hbw.block j hj2).trans (Lv.heap_putRowK _ _ _ _ (fun e => hne (by rw [e]; rfl)))
end
section
open Go Go.RowKit Go.Lib Go.Sort
def Lv.cl (q p : Mf.P) : Bool := (q.lv == p.lv) && Lv.ov q p
def Lv.rt (p : Mf.P) : Bool := decide (Kn.cmp p.lo p.hi ≤ 0)
def Lv.hit (o : Option Mf.P) (p : Mf.P) : Bool := match o with | some q => Lv.cl q p | none => false
def Lv.nxt (o : Option Mf.P) (p : Mf.P) : Option Mf.P := if Lv.rt p = true then some p else o
def Lv.lp : Option Mf.P → List Mf.P → Bool
 | _, [] => true
 | o, p :: t => if Lv.hit o p = true then false else Lv.lp (Lv.nxt o p) t
def Lv.le (q x : Mf.P) : Prop := q.lv < x.lv ∨ (q.lv = x.lv ∧ Kn.cmp q.lo x.lo ≤ 0)
theorem Lv.le_of {q x : Mf.P} (h : ltOf Lv.cDj x q = false) : Lv.le q x := by
 unfold ltOf at h
 simp only [decide_eq_false_iff_not, Int.not_lt] at h
 unfold Lv.cDj Kn.or2 Kn.ncmp at h
 unfold Lv.le
 have hc : Kn.cmp x.lo q.lo = -Kn.cmp q.lo x.lo := (Kn.cmp_fair q.lo x.lo x.lo).xa
 repeat' split at h
 all_goals omega
theorem Lv.anti (a b : Kn.V) : Kn.cmp b a = -Kn.cmp a b := (Kn.cmp_fair a b b).xa
theorem Lv.tr {a b c : Kn.V} (h : Kn.cmp a b ≤ 0) (k : Kn.cmp b c ≤ 0) : Kn.cmp a c ≤ 0 := (Kn.cmp_fair a b c).le h k
theorem Lv.tr_lt {a b c : Kn.V} (h : Kn.cmp a b ≤ 0) (k : Kn.cmp b c < 0) : Kn.cmp a c < 0 := by
 have f := Kn.cmp_fair a b c
 have h1 := f.le h (by omega)
 rcases Int.lt_or_eq_of_le h1 with h2 | h2
 ·exact h2
 ·have := (f.lt h (by omega) h2).2; omega
theorem Lv.lt_tr {a b c : Kn.V} (h : Kn.cmp a b < 0) (k : Kn.cmp b c ≤ 0) : Kn.cmp a c < 0 := by
 have f := Kn.cmp_fair a b c
 have h1 := f.le (by omega) k
 rcases Int.lt_or_eq_of_le h1 with h2 | h2
 ·exact h2
 ·have := (f.lt (by omega) k h2).1; omega
theorem Lv.ov_iff (a x : Mf.P) : Lv.ov a x = true ↔ 0 ≤ Kn.cmp a.hi x.lo ∧ 0 ≤ Kn.cmp x.hi a.lo := by unfold Lv.ov; simp
theorem Lv.ov_comm (a x : Mf.P) : Lv.ov a x = Lv.ov x a := by unfold Lv.ov; rw [Bool.and_comm]
theorem Lv.wrong {p x : Mf.P} (h : Lv.rt p = false) (hs : Lv.le p x) : Lv.cl p x = false := by
 unfold Lv.rt at h
 simp only [decide_eq_false_iff_not, Int.not_le] at h
 cases hc : Lv.cl p x
 ·rfl
 ·unfold Lv.cl at hc
  rw [Bool.and_eq_true, beq_iff_eq, Lv.ov_iff] at hc
  obtain ⟨h1, h2, h3⟩ := hc
  have h4 : Kn.cmp p.lo x.lo ≤ 0 := by
   rcases hs with h | ⟨_, h⟩
   ·omega
   ·exact h
  have a1 := Lv.anti p.hi x.lo
  have a2 := Lv.anti p.lo p.hi
  have := Lv.tr_lt h4 (show Kn.cmp x.lo p.lo < 0 from Lv.lt_tr (b := p.hi) (by
   by_cases h5 : Kn.cmp x.lo p.hi < 0
   ·exact h5
   ·exfalso
    have h6 : Kn.cmp x.lo p.hi ≤ 0 := by omega
    have := Lv.tr h4 h6
    omega) (by omega))
  have a3 := (Kn.cmp_fair p.lo p.lo p.lo).xa
  omega
theorem Lv.hides {q p x : Mf.P} (hp : Lv.rt p = true) (h1 : Lv.le q p) (h2 : Lv.le p x) (h3 : Lv.cl q p = false) : Lv.cl q x = false := by
 unfold Lv.rt at hp
 simp only [decide_eq_true_eq] at hp
 cases hc : Lv.cl q x
 ·rfl
 ·unfold Lv.cl at hc
  rw [Bool.and_eq_true, beq_iff_eq, Lv.ov_iff] at hc
  obtain ⟨e1, e2, e3⟩ := hc
  have el : q.lv = p.lv ∧ p.lv = x.lv := by
   unfold Lv.le at h1 h2
   omega
  have hlo1 : Kn.cmp q.lo p.lo ≤ 0 := by
   rcases h1 with h | ⟨_, h⟩
   ·omega
   ·exact h
  have hlo2 : Kn.cmp p.lo x.lo ≤ 0 := by
   rcases h2 with h | ⟨_, h⟩
   ·omega
   ·exact h
  have hno : ¬ (0 ≤ Kn.cmp q.hi p.lo ∧ 0 ≤ Kn.cmp p.hi q.lo) := fun h => by
   have : Lv.cl q p = true := by unfold Lv.cl; rw [Bool.and_eq_true, beq_iff_eq, Lv.ov_iff]; exact ⟨el.1, h⟩
   rw [h3] at this
   cases this
  have hq : Kn.cmp q.lo p.hi ≤ 0 := Lv.tr hlo1 hp
  have a1 := Lv.anti q.lo p.hi
  have hlt : Kn.cmp q.hi p.lo < 0 := by
   by_cases h : Kn.cmp q.hi p.lo < 0
   ·exact h
   ·exact absurd ⟨by omega, by omega⟩ hno
  have := Lv.lt_tr hlt hlo2
  omega
def Lv.nc (L : List Mf.P) : Prop := L.Pairwise fun x y => Lv.cl x y = false
theorem Lv.lp_iff : ∀ (t : List Mf.P) (o : Option Mf.P), t.Pairwise Lv.le → (∀ q, o = some q → ∀ x ∈ t, Lv.le q x) → (Lv.lp o t = true ↔ Lv.nc t ∧ ∀ q, o = some q → ∀ x ∈ t, Lv.cl q x = false)
 | [], o, _, _ => by simp [Lv.lp, Lv.nc]
 | p :: t, o, hs, ho => by
   rw [List.pairwise_cons] at hs
   have ih := Lv.lp_iff t (Lv.nxt o p) hs.2 (fun q hq x hx => by
    unfold Lv.nxt at hq
    split at hq
    ·cases hq; exact hs.1 x hx
    ·exact ho q hq x (List.mem_cons_of_mem _ hx))
   unfold Lv.lp
   unfold Lv.nc at ih ⊢
   rw [List.pairwise_cons]
   cases hh : Lv.hit o p
   ·rw [if_neg (by decide), ih]
    have hop : ∀ q, o = some q → Lv.cl q p = false := fun q hq => by subst hq; exact hh
    constructor
    ·rintro ⟨h1, h2⟩
     cases hr : Lv.rt p
     ·have e : Lv.nxt o p = o := by unfold Lv.nxt; rw [if_neg (by rw [hr]; decide)]
      rw [e] at h2
      exact ⟨⟨fun x hx => Lv.wrong hr (hs.1 x hx), h1⟩, fun q hq x hx => by
       rcases List.mem_cons.1 hx with rfl | hx
       ·exact hop q hq
       ·exact h2 q hq x hx⟩
     ·have e : Lv.nxt o p = some p := by unfold Lv.nxt; rw [if_pos hr]
      rw [e] at h2
      exact ⟨⟨fun x hx => h2 p rfl x hx, h1⟩, fun q hq x hx => by
       rcases List.mem_cons.1 hx with rfl | hx
       ·exact hop q hq
       ·exact Lv.hides hr (ho q hq p List.mem_cons_self) (hs.1 x hx) (hop q hq)⟩
    ·rintro ⟨⟨h1, h2⟩, h3⟩
     refine ⟨h2, fun q hq x hx => ?_⟩
     unfold Lv.nxt at hq
     split at hq
     ·cases hq; exact h1 x hx
     ·exact h3 q hq x (List.mem_cons_of_mem _ hx)
   ·rw [if_pos rfl]
    refine ⟨fun h => (by cases h), fun ⟨_, h3⟩ => ?_⟩
    unfold Lv.hit at hh
    split at hh
    ·rw [h3 _ rfl p List.mem_cons_self] at hh; cases hh
    ·cases hh
def Lv.bad (x y : Mf.P) : Bool := ((x.lv == y.lv) && (x.lv != 0)) && Lv.ov x y
theorem Lv.bad_comm (x y : Mf.P) : Lv.bad x y = Lv.bad y x := by
 unfold Lv.bad
 rw [Lv.ov_comm x y]
 by_cases h : x.lv = y.lv
 ·rw [h]
 ·have h1 : (x.lv == y.lv) = false := beq_eq_false_iff_ne.2 h
  have h2 : (y.lv == x.lv) = false := beq_eq_false_iff_ne.2 fun e => h e.symm
  rw [h1, h2]
  rfl
def Lv.DJ (L : List Mf.P) : Prop := L.Pairwise fun x y => Lv.bad x y = false
theorem Lv.dj_lp {K L : List Mf.P} (hp : K.Perm (L.filter fun x => x.lv != 0)) (hs : Lv.Sd (ltOf Lv.cDj) K) : Lv.lp none K = true ↔ Lv.DJ L := by
 have hs2 : K.Pairwise Lv.le := hs.imp fun h => Lv.le_of h
 rw [Lv.lp_iff K none hs2 (fun q hq => by cases hq)]
 have h0 : ∀ x ∈ K, x.lv ≠ 0 := fun x hx => by
  have := (List.mem_filter.1 (hp.mem_iff.1 hx)).2
  simpa using this
 have e1 : Lv.nc K ↔ K.Pairwise fun x y => Lv.bad x y = false := by
  unfold Lv.nc
  constructor
  ·intro h
   refine h.imp fun {x y} h => ?_
   unfold Lv.cl at h
   unfold Lv.bad
   cases hb : (x.lv == y.lv)
   ·rfl
   ·rw [hb] at h
    simp only [Bool.true_and] at h
    rw [h, Bool.and_false]
  ·intro h
   refine h.imp_of_mem fun {x y} hx _ h => ?_
   have := h0 x hx
   have hb : (x.lv != 0) = true := by simpa using this
   unfold Lv.bad at h
   rw [hb, Bool.and_true] at h
   exact h
 rw [e1]
 have e2 := hp.pairwise_iff (R := fun x y => Lv.bad x y = false) (fun {x y} h => by rw [Lv.bad_comm]; exact h)
 rw [e2, List.pairwise_filter]
 constructor
 ·rintro ⟨h, _⟩
  refine h.imp fun {x y} h => ?_
  cases hx : (x.lv != 0)
  ·unfold Lv.bad; rw [hx]; simp
  ·cases hy : (y.lv != 0)
   ·unfold Lv.bad
    by_cases he : x.lv = y.lv
    ·rw [he, hy] at hx; cases hx
    ·have : (x.lv == y.lv) = false := beq_eq_false_iff_ne.2 he
     rw [this]
     rfl
   ·exact h hx hy
 ·intro h
  exact ⟨h.imp fun h _ _ => h, fun q hq => by cases hq⟩
theorem Lv.lp_step {o : Option Mf.P} {K : List Mf.P} {k : Nat} {p : Mf.P} (h : K[k]? = some p) : Lv.lp o (K.drop k) = if Lv.hit o p = true then false else Lv.lp (Lv.nxt o p) (K.drop (k + 1)) := by
 obtain ⟨hk, rfl⟩ := List.getElem?_eq_some_iff.1 h
 rw [List.drop_eq_getElem_cons hk]
 rfl
end
end Go.Proofs.Ytodeodndjkkkbaa
