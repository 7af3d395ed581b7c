import Derived.Test.YtodeodndjkkkbaaTAE
import Derived.Test.YtodeodndjkkkbaaTAA
import Derived.Test.YtodeodndjkkkbaaTAC
import Derived.Deep.Slices
import Derived.Deep.Fields
import Derived.ChangeSame
import Derived.ProofKit
import Derived.OpenShut
import Derived.SizedLaws
import Derived.Test.YtodeodndjkkkbaaRows
namespace Go.Proofs.Ytodeodndjkkkbaa
section
open Go Go.RowKit Go.Sort Go.Lib Go.Shelf
set_option maxHeartbeats 1000000 in
set_option maxRecDepth 100000 in
theorem Lv.compare_g (a b : Kn.V) (w : World) : Calls Try.prog 56 #[a.val, b.val] w fun e w' => e = .returned (.int .i64 (Kn.cmp a b)) ∧ ∃ q os', w' = grow (w.drewN q) os' := by
 obtain ⟨an, ai, sa⟩ := a
 obtain ⟨bn, bi, sb⟩ := b
 unfold Kn.V.val
 cases an <;> cases bn
 ·have h : Kn.cmp ⟨false, ai, sa⟩ ⟨false, bi, sb⟩ = Kn.or2 (Kn.ncmp ai bi) (Kn.scmp sa sb) := rfl
  rw [h]
  go_enter Try.func56, Try.ntmps56
  go_wp2_with fail
  refine wp_region_still_tail 10 (by kernel_rfl) (by kernel_rfl) ?_
  simp only [List.take_succ_cons, List.take_zero, List.drop_succ_cons, List.drop_zero]
  change wpStill _ _ (World.drew _) (fun a' => wpList _ _ _ _ a' (World.drew _)) _ _
  still_step
  still_step
  still_step
  still_step
  still_call (Kn.cmpi_c ai bi _)
  still_step
  still_step
  still_step
  still_step
  still_call (Kn.cmps_c sa sb _)
  refine wpStill_nil ?_
  go_wp2_with fail
  refine (Kn.or_c _ (Kn.ncmp ai bi) (Kn.scmp sa sb) _ (Kn.new2 _ _ _ _ _ (by simp)).1 (Kn.new2 _ _ _ _ _ (by simp)).2).mono ?_
  rintro e wc ⟨rfl, rfl⟩
  go_wp2
  go_ret
  exact ⟨rfl, 1, _, by rw [alloc_eq_grow, alloc_eq_grow, alloc_eq_grow, grow_grow, grow_grow]; rfl⟩
 all_goals
  go_enter Try.func56, Try.ntmps56
  go_wp2
  go_ret
  exact ⟨rfl, 0, _, by rw [alloc_eq_grow, alloc_eq_grow, grow_grow]; rfl⟩
theorem Lv.grow_two (w : World) (a b : Obj) (q : Nat) (os : Array Obj) : grow (((w.alloc a).alloc b).drewN q) os = grow (w.drewN q) (#[a, b] ++ os) := by
 rw [← grow_grow, alloc_eq_grow, alloc_eq_grow, grow_grow]
 rfl
set_option maxHeartbeats 1000000 in
set_option maxRecDepth 100000 in
theorem Lv.byLo_c (x y : Mf.P) (W : World) : Calls Try.prog 43 #[.agg (Mf.pc x).toArray, .agg (Mf.pc y).toArray] W fun e w' => e = .returned (.int .i64 (Kn.cmp x.lo y.lo)) ∧ ∃ q os', w' = grow (W.drewN q) os' := by
 obtain ⟨i, l, ⟨an, ai, sa⟩, ⟨bn, bi, sb⟩⟩ := x
 obtain ⟨i2, l2, ⟨an2, ai2, sa2⟩, ⟨bn2, bi2, sb2⟩⟩ := y
 have hcon := fun W' => Lv.compare_g ⟨an, ai, sa⟩ ⟨an2, ai2, sa2⟩ W'
 unfold Kn.V.val at hcon
 simp only at hcon ⊢
 generalize Kn.cmp ⟨an, ai, sa⟩ ⟨an2, ai2, sa2⟩ = r at hcon ⊢
 show Calls Try.prog 43 #[.agg #[.int .i64 i, .int .i64 l, .bool an, .int .i64 ai, .string sa, .bool bn, .int .i64 bi, .string sb], .agg #[.int .i64 i2, .int .i64 l2, .bool an2, .int .i64 ai2, .string sa2, .bool bn2, .int .i64 bi2, .string sb2]] W _
 go_enter Try.func43, Try.ntmps43
 go_wp2_with fail
 refine (hcon _).mono ?_
 rintro e w' ⟨rfl, q, os, rfl⟩
 go_wp2
 go_ret
 exact ⟨rfl, q, _, Lv.grow_two _ _ _ _ _⟩
set_option maxHeartbeats 1000000 in
set_option maxRecDepth 100000 in
theorem Lv.isNaN_c (a : Int) (w : World) : Calls Try.prog 73 #[.int .i64 a] w fun e w' => e = .returned (.bool false) ∧ w' = w := by
 go_enter Try.func73, Try.ntmps73
 go_wp2
 go_ret
 exact ⟨rfl, rfl⟩
set_option maxRecDepth 100000 in
theorem Lv.cmp_c (a b : Int) (w : World) : Calls Try.prog 55 #[.int .i64 a, .int .i64 b] w fun e w' => e = .returned (.int .i64 (Kn.ncmp a b)) ∧ w' = w := by
 have hc : (a < b ∧ Kn.ncmp a b = -1) ∨ (¬ a < b ∧ b < a ∧ Kn.ncmp a b = 1) ∨ (¬ a < b ∧ ¬ b < a ∧ Kn.ncmp a b = 0) := by unfold Kn.ncmp; repeat' split <;> omega
 rcases hc with ⟨h1, h⟩ | ⟨h1, h2, h⟩ | ⟨h1, h2, h⟩
 all_goals
  rw [h]
  go_enter Try.func55, Try.ntmps55
  go_wp2_with fail
  refine (Lv.isNaN_c _ _).mono ?_
  rintro e w1 ⟨rfl, rfl⟩
  go_wp2_with fail
  refine (Lv.isNaN_c _ _).mono ?_
  rintro e w1 ⟨rfl, rfl⟩
  go_wp2
  go_ret
  exact ⟨rfl, rfl⟩
set_option maxHeartbeats 1000000 in
set_option maxRecDepth 100000 in
theorem Lv.byId_c (x y : Mf.P) (W : World) : Calls Try.prog 65 #[.agg (Mf.pc x).toArray, .agg (Mf.pc y).toArray] W fun e w' => e = .returned (.int .i64 (Kn.ncmp x.id y.id)) ∧ ∃ q os', w' = grow (W.drewN q) os' := by
 obtain ⟨i, l, ⟨an, ai, sa⟩, ⟨bn, bi, sb⟩⟩ := x
 obtain ⟨i2, l2, ⟨an2, ai2, sa2⟩, ⟨bn2, bi2, sb2⟩⟩ := y
 have hcon := fun W' => Lv.cmp_c i i2 W'
 simp only at hcon ⊢
 generalize Kn.ncmp i i2 = r at hcon ⊢
 show Calls Try.prog 65 #[.agg #[.int .i64 i, .int .i64 l, .bool an, .int .i64 ai, .string sa, .bool bn, .int .i64 bi, .string sb], .agg #[.int .i64 i2, .int .i64 l2, .bool an2, .int .i64 ai2, .string sa2, .bool bn2, .int .i64 bi2, .string sb2]] W _
 go_enter Try.func65, Try.ntmps65
 go_wp2_with fail
 refine (hcon _).mono ?_
 rintro e w' ⟨rfl, rfl⟩
 go_wp2
 go_ret
 exact ⟨rfl, 0, _, by rw [alloc_eq_grow, alloc_eq_grow, grow_grow]; rfl⟩
set_option maxHeartbeats 1000000 in
set_option maxRecDepth 100000 in
theorem Lv.chosen1_c (x y : Mf.P) (W : World) : Calls Try.prog 64 #[.agg (Mf.pc x).toArray, .agg (Mf.pc y).toArray] W fun e w' => e = .returned (.int .i64 (Kn.ncmp y.id x.id)) ∧ ∃ q os', w' = grow (W.drewN q) os' := by
 have hcon := fun W' => Lv.byId_c y x W'
 obtain ⟨i, l, ⟨an, ai, sa⟩, ⟨bn, bi, sb⟩⟩ := x
 obtain ⟨i2, l2, ⟨an2, ai2, sa2⟩, ⟨bn2, bi2, sb2⟩⟩ := y
 simp only [Mf.pc, List.toArray] at hcon ⊢
 generalize Kn.ncmp i2 i = r at hcon ⊢
 show Calls Try.prog 64 #[.agg #[.int .i64 i, .int .i64 l, .bool an, .int .i64 ai, .string sa, .bool bn, .int .i64 bi, .string sb], .agg #[.int .i64 i2, .int .i64 l2, .bool an2, .int .i64 ai2, .string sa2, .bool bn2, .int .i64 bi2, .string sb2]] W _
 go_enter Try.func64, Try.ntmps64
 go_wp2_with fail
 refine (hcon _).mono ?_
 rintro e w' ⟨rfl, q, os, rfl⟩
 go_wp2
 go_ret
 exact ⟨rfl, q, _, Lv.grow_two _ _ _ _ _⟩
end
section
open Go Go.RowKit Go.Sort Go.Lib Go.Shelf
theorem Lv.swo_of {α : Type} {cf : α → α → Int} (h : ∀ x y z, Kn.Fair (cf x y) (cf y z) (cf x z) (cf y x) (cf z y) (cf z x)) : SWO (ltOf cf) where
 irrefl x := by
  have := (h x x x).xa
  unfold ltOf
  exact decide_eq_false (by omega)
 trans x y z h1 h2 := by
  have f := h x y z
  have e1 := of_decide_eq_true h1
  have e2 := of_decide_eq_true h2
  have e3 := f.le (by omega) (by omega)
  have e4 := f.lt (by omega) (by omega)
  unfold ltOf
  refine decide_eq_true ?_
  rcases (by omega : cf x z = 0 ∨ cf x z < 0) with e5 | e5
  ·have := (e4 e5).1; omega
  ·exact e5
 ntrans x y z h1 h2 := by
  have f := h x y z
  have e1 := of_decide_eq_false h1
  have e2 := of_decide_eq_false h2
  have e3 := f.ge (by omega) (by omega)
  unfold ltOf
  exact decide_eq_false (by omega)
def Lv.cLo (x y : Mf.P) : Int := Kn.cmp x.lo y.lo
def Lv.cId (x y : Mf.P) : Int := Kn.ncmp x.id y.id
def Lv.cDn (x y : Mf.P) : Int := Kn.ncmp y.id x.id
theorem Lv.sLo : SWO (ltOf Lv.cLo) := Lv.swo_of fun x y z => Kn.cmp_fair x.lo y.lo z.lo
theorem Lv.sDn : SWO (ltOf Lv.cDn) := Lv.swo_of fun x y z => by
 have f := Kn.ncmp_fair z.id y.id x.id
 exact ⟨f.yr, f.xr, f.zr, f.ya, f.xa, f.za, fun a b => f.le b a, fun a b c => (f.lt b a c).symm, fun a b => f.ge b a, fun a b c => (f.gt b a c).symm⟩
theorem Lv.below_grow (w : World) (os : Array Obj) : Below w.heap.size w (grow w os) :=
 ⟨rfl, rfl, rfl, by simp [grow], fun j hj => by
  show (w.heap ++ os)[j]? = w.heap[j]?
  rw [Array.getElem?_append_left hj]⟩
theorem Lv.flat_getL {L : List Mf.P} {i j : Nat} {x : Mf.P} (h : L[i]? = some x) (hj : j < 8) : (L.flatMap Mf.pc)[i * 8 + j]? = (Mf.pc x)[j]? := Dk.flat_get Mf.pc_len L i j x h hj
theorem Lv.Ow.put {base : Nat} {w : World} {g c : Nat} {L : List Mf.P} (h : Mf.Ow base w (.slice (some ⟨g, 0, none⟩) L.length c) L) (d : Array Mf.P) (hd : d.size = L.length) :
 Mf.Ow base (putRowK Mf.pc 8 w g 0 d) (.slice (some ⟨g, 0, none⟩) L.length c) d.toList := by
 rcases h.2 with ⟨e, _⟩ | ⟨g', cap, cur, e, hb, hg, hn, hm, hs, ht⟩
 ·cases e
 ·simp only [Value.slice.injEq, Option.some.injEq, Addr.mk.injEq, and_true, true_and] at e
  obtain ⟨rfl, rfl⟩ := e
  have hdl : d.toList.length = L.length := by simpa using hd
  have hlen : (d.toList.flatMap Mf.pc).length = L.length * 8 := by rw [Dk.flat_len Mf.pc_len, hdl]
  refine ⟨by rw [hlen, hdl], .inr ⟨g, c, putCells id 0 (flatK Mf.pc 8 d) cur, by rw [hdl], hb, ?_, by rw [hdl]; exact hn, hm, by unfold putCells; rw [Array.size_mapIdx]; exact hs, ?_⟩⟩
  ·unfold putRowK putRow mapBlock
   have hgl := lt_of_block hg
   show (w.heap.modify g (onCells (putCells id 0 (flatK Mf.pc 8 d))))[g]? = _
   rw [Array.getElem?_modify, if_pos rfl, hg]
   rfl
  ·have hcur : L.length * 8 ≤ cur.size := by rw [hs]; exact Nat.mul_le_mul_right 8 hn
   refine List.ext_getElem? fun t => ?_
   rw [List.getElem?_take, hdl]
   by_cases htl : t < L.length * 8
   ·rw [if_pos htl, Array.getElem?_toList]
    have h1 : (putCells id 0 (flatK Mf.pc 8 d) cur)[t]? = some ((flatK Mf.pc 8 d)[t]!) := by
     unfold putCells
     rw [Array.getElem?_mapIdx, Array.getElem?_eq_getElem (by omega)]
     simp only [Option.map_some, Nat.zero_le, true_and, Nat.zero_add, size_flatK, hd]
     rw [if_pos htl]
     rfl
    rw [h1, get_flatK _ _ _ _ (by rw [hd]; exact htl)]
    have hi : t / 8 < L.length := by omega
    have hx : d.toList[t / 8]? = some d[t / 8]! := by
     rw [Array.getElem?_toList, getElem!_pos d (t / 8) (by omega)]
     exact Array.getElem?_eq_getElem (by omega)
    have h2 := Lv.flat_getL hx (Nat.mod_lt t (by decide : 0 < 8))
    rw [show t / 8 * 8 + t % 8 = t by omega] at h2
    rw [h2]
    have hlc : t % 8 < (Mf.pc d[t / 8]!).length := by rw [Mf.pc_len]; omega
    rw [getElem!_pos (Mf.pc d[t / 8]!) (t % 8) hlc]
    exact (List.getElem?_eq_getElem hlc).symm
   ·rw [if_neg htl, List.getElem?_eq_none (by rw [hlen]; omega)]
theorem Lv.heap_putRowK (w : World) (g o : Nat) (d : Array Mf.P) {j : Nat} (hj : j ≠ g) : (putRowK Mf.pc 8 w g o d).heap[j]? = w.heap[j]? := by
 unfold putRowK putRow mapBlock
 show (w.heap.modify g _)[j]? = _
 rw [Array.getElem?_modify, if_neg (fun e => hj e.symm)]
structure Lv.Sorted (base : Nat) (w w' : World) (v : Value) (L : List Mf.P) : Prop where
 row : Mf.Ow base w' v L
 size : w.heap.size ≤ w'.heap.size
 os : w'.os = w.os
 tape : w'.tape = w.tape
 output : w'.output = w.output
 block : ∀ j, j < w.heap.size → some j ≠ v.ownBlock → w'.heap[j]? = w.heap[j]?
theorem Lv.Sorted.below {base : Nat} {w w' : World} {v : Value} {L : List Mf.P} (h : Lv.Sorted base w w' v L) (hb : base ≤ w.heap.size) (hv : ∀ j, v.ownBlock = some j → base ≤ j) : Below base w w' :=
 ⟨h.os, h.tape, h.output, h.size, fun j hj => h.block j (by omega) (fun e => by have := hv j e.symm; omega)⟩
theorem Lv.holds_of {base : Nat} {w : World} {g c : Nat} {L : List Mf.P} (h : Mf.Ow base w (.slice (some ⟨g, 0, none⟩) L.length c) L) : HoldsK Mf.pc 8 w g 0 L.toArray := by
 obtain ⟨cs, hg⟩ := Dk.Own.typed h g rfl
 intro t ht
 rw [size_flatK, List.size_toArray] at ht
 have hi : t / 8 < L.length := by omega
 have hx : L[t / 8]? = some L.toArray[t / 8]! := by
  rw [getElem!_pos L.toArray (t / 8) (by simpa using hi)]
  simp [List.getElem?_eq_getElem hi]
 have h1 := Dk.Own.cell Mf.pc_len h (g := g) rfl hx (Nat.mod_lt t (by decide : 0 < 8))
 rw [show t / 8 * 8 + t % 8 = t by omega] at h1
 rw [get_flatK _ _ _ _ (by rw [List.size_toArray]; exact ht), Nat.zero_add]
 have hlc : t % 8 < (Mf.pc L.toArray[t / 8]!).length := by rw [Mf.pc_len]; omega
 rw [getElem!_pos (Mf.pc L.toArray[t / 8]!) (t % 8) hlc]
 refine ⟨h1.trans (List.getElem?_eq_getElem hlc), ?_⟩
 exact frozen_of_row w g t _ _ hg
theorem Lv.perm_all {d d' : Array Mf.P} (h : PermIn 0 d.size d d') : d'.toList.Perm d.toList := by
 obtain ⟨h1, _, h3⟩ := h
 have e1 : d.extract 0 d.size = d := Array.extract_size
 have e2 : d'.extract 0 d.size = d' := by rw [← h1]; exact Array.extract_size
 rw [e1, e2] at h3
 exact h3
set_option maxHeartbeats 2000000 in
set_option maxRecDepth 100000 in
theorem Lv.ins_none (fv : Value) (w : World) : Calls Try.prog 77 #[.slice none 0 0, .int .i64 0, .int .i64 0, fv] w fun e w' => e = .returned (.tuple #[]) ∧ w' = w := by
 go_enter Try.func77, Try.ntmps77
 go_wp2
 refine wp_loop_rounds 1 ?_
 rw [rounds_succ]
 go_wp2
 go_end0
 exact ⟨rfl, rfl⟩
set_option maxHeartbeats 2000000 in
set_option maxRecDepth 100000 in
theorem Lv.stable_none (fv : Value) (w : World) : Calls Try.prog 69 #[.slice none 0 0, .int .i64 0, fv] w fun e w' => e = .returned (.tuple #[]) ∧ w' = w := by
 go_enter Try.func69, Try.ntmps69
 go_wp2
 refine wp_loop_rounds 1 ?_
 rw [rounds_succ]
 go_wp2_with fail
 refine (Lv.ins_none fv w).mono ?_
 rintro e w1 ⟨rfl, rfl⟩
 go_wp2
 refine wp_loop_rounds 1 ?_
 rw [rounds_succ]
 go_wp2
 go_end0
 exact ⟨rfl, rfl⟩
set_option maxHeartbeats 2000000 in
set_option maxRecDepth 100000 in
theorem Lv.sortStable_c {base : Nat} {w : World} {v : Value} {L : List Mf.P} (g : Nat) (cf : Mf.P → Mf.P → Int) (hO : SWO (ltOf cf)) (eg : ∀ args w, (callFunc g args).run Try.prog w = .ok (.enter g args) w)
 (hcf : ∀ (x y : Mf.P) (W : World), Calls Try.prog g #[.agg (Mf.pc x).toArray, .agg (Mf.pc y).toArray] W fun e w' => e = .returned (.int .i64 (cf x y)) ∧ ∃ q os', w' = grow (W.drewN q) os') (h : Mf.Ow base w v L) (hl : L.length ≤ 1000000000000) :
 Calls Try.prog 42 #[v, .func (.func g) #[] #[]] w fun e w' => e = .returned (.tuple #[]) ∧ Lv.Sorted base w w' v (Lv.st (ltOf cf) L) := by
 rcases Dk.Own.form h with ⟨rfl, rfl⟩ | ⟨b, c, rfl, h1, h2, h3, h4⟩
 ·have hc := Lv.stable_none (.func (.func g) #[] #[]) w
  go_enter Try.func42, Try.ntmps42
  go_wp2_with fail
  refine hc.mono ?_
  rintro e w1 ⟨rfl, rfl⟩
  go_wp2
  go_end0
  exact ⟨rfl, ⟨h, Nat.le_refl _, rfl, rfl, rfl, fun _ _ _ => rfl⟩⟩
 ·have hH := Lv.holds_of h
  have R : RowK Mf.pc 8 w b 0 L.toArray := ⟨Mf.pc_len, fun x v hv => Mf.pc_one x v hv, hH, h4⟩
  have hC : CmpLays Try.prog g #[] Mf.pc 8 cf b 0 L.length w := fun _ _ _ _ x y => hcf x y _
  have hC2 : CmpLays Try.prog g #[] Mf.pc 8 cf b 0 L.toArray.size w := fun _ _ _ _ x y => hcf x y _
  have hHI : ∀ (L1 Q T : List Mf.P) (d : Array Mf.P) (w1 : World), d.size = L.length → SWK Mf.pc 8 w b 0 d w1 → d.toList = L1 ++ (Q ++ T) → ∀ zA zB : Int, zA = L1.length → zB = (L1.length + Q.length : Nat) → Calls Try.prog 77 #[.slice (some ⟨b, 0, none⟩) L.length c, .int .i64 zA, .int .i64 zB, .func (.func g) #[] #[]] w1 fun e w' => e = .returned (.tuple #[]) ∧ ∃ d' : Array Mf.P, d'.toList = L1 ++ (Lv.st (ltOf cf) Q ++ T) ∧ SWK Mf.pc 8 w b 0 d' w' := by
   intro L1 Q T d w1 hd S hdl zA zB e1 e2
   subst e1 e2
   have hn := Lv.len_of hdl
   simp only [List.length_append] at hn
   have hc := AnyQ.insertionSortCmpFunc_w Try.insL 8 (fun _ => rfl) (fun _ => rfl) Mf.pc cf g #[] b 0 c L1.length (L1.length + Q.length) L.toArray d w w1 eg hC2 R (by rw [List.size_toArray, hd]) S hO (by omega) (by omega) (by omega)
   rw [hd] at hc
   refine Calls.mono hc ?_
   rintro e w' ⟨rfl, hS⟩
   exact ⟨rfl, _, Lv.isort hO L1 Q T d hdl, hS⟩
  have hcon := Lv.stable_c Lv.lays Try.func69 (enters_of Try.func77 (by kernel_rfl) rfl) Mf.pc g #[] cf hO eg b 0 c L.toArray w R L.length (by rw [List.size_toArray]) hC (by omega) hHI L.toArray (by rw [List.size_toArray]) w (SWK.start hH) L rfl
  have HCN := Lib.hid hcon
  have HH := Lib.hid h
  have hl0 : (L.length : Int) = (L.length : Int) := rfl
  clear hC hC2 hHI hcon R hH hl0
  go_enter Try.func42, Try.ntmps42
  go_wp2_with fail
  refine HCN.out.mono ?_
  rintro e w' ⟨rfl, d', hd', n, os, rfl⟩
  have hsz : d'.size = L.length := by have := Lv.len_of hd'; rw [Lv.st_len] at this; exact this
  have hahead : Mf.Ow base (Sort.ahead w n) (.slice (some ⟨b, 0, none⟩) L.length c) L := HH.out
  have hput := Lv.Ow.put hahead d' hsz
  rw [hd'] at hput
  have hbw : Below (putRowK Mf.pc 8 (Sort.ahead w n) b 0 d').heap.size (putRowK Mf.pc 8 (Sort.ahead w n) b 0 d') (sortWorldK Mf.pc 8 w b 0 n d' os) := Lv.below_grow _ os
  have HF : Hid (Lv.Sorted base w (sortWorldK Mf.pc 8 w b 0 n d' os) (.slice (some ⟨b, 0, none⟩) L.length c) (Lv.st (ltOf cf) L)) := Lib.hid (by
   refine ⟨hput.kept hbw, ?_, rfl, rfl, rfl, fun j hj hne => ?_⟩
   ·have := hbw.size
    rw [size_putRowK] at this
    exact this
   ·have hj2 : j < (putRowK Mf.pc 8 (Sort.ahead w n) b 0 d').heap.size := by rw [size_putRowK]; exact hj
    exact (hbw.block j hj2).trans (Lv.heap_putRowK _ _ _ _ (fun e => hne (by rw [e]; rfl))))
  clear hput hbw hahead hd' hsz
  generalize sortWorldK Mf.pc 8 w b 0 n d' os = w9 at HF ⊢
  go_wp2
  go_end0
  exact ⟨rfl, HF.out⟩
end
section
open Go.RowKit Go.ChangeShapes Go.WideShapes Go.ChangeAt Go.Deep
section
variable {H : Type} {enc : TypeId × Value → H} {W : World}
theorem Mf.bulk_pos (d : DataW H) : 1 ≤ Rows.uptoBulk d := by
 unfold Rows.uptoBulk
 split <;> omega
theorem Mf.bulk_all : ∀ ds : List (DataW H), ds.length ≤ Rows.uptoBulkAll ds
 | [] => by simp [Rows.uptoBulkAll]
 | d :: ds => by
   have h1 := Mf.bulk_pos d
   have h2 := Mf.bulk_all ds
   simp only [Rows.uptoBulkAll, List.length_cons]
   omega
theorem Mf.heap_of_cell {w : World} {b o : Nat} {v : Value} (h : w.cell? ⟨b, o, none⟩ = some v) : ∃ (cs : Array Value) (fr : TypeId × (Nat × Nat)), w.heap[b]? = some (.cells cs fr.1 fr.2) := by
 unfold World.cell? at h
 cases hb : w.heap[b]? with
 | none => simp [hb] at h
 | some x =>
   cases x with
   | cells cs t f => exact ⟨cs, (t, f), rfl⟩
   | _ => simp [hb] at h
theorem Mf.open_int {fuel : Nat} {cs : List Value} {z : DataW H × List MemPlace} (h : DataW.trod enc Try.prog W 0 (fun _ => true) true fuel 3 cs = some z) : ∃ x : Int, cs = Mf.ic x ∧ Ty.I64 x := by
 obtain ⟨n, e1, r1, w1⟩ := DataW.trod_int Try.underlying3 h
 exact ⟨n, e1, bounds_i64 w1⟩
def Mf.ok9 (p : Mf.P) : Prop := (Ty.I64 p.lo.n ∧ Ty.I64 p.hi.n) ∧ Ty.I64 p.id
end
end
section
open Go Go.RowKit Go.Lib
def Lv.Keeps (w : World) (g : Nat) (cb : Array Value) (p : Mf.P → Bool) : Prop :=
 ∀ (x : Mf.P) (W : World), Below w.heap.size w W → Calls Try.prog g (#[.agg (Mf.cs x)] ++ cb) W fun e w' => e = .returned (.bool (p x)) ∧ Below W.heap.size W w'
theorem Lv.filter_step {L : List Mf.P} {k : Nat} {x : Mf.P} (p : Mf.P → Bool) (h : L[k]? = some x) : (L.take (k + 1)).filter p = (L.take k).filter p ++ (if p x then [x] else []) := by
 rw [List.take_add_one, h, List.filter_append]
 simp only [Option.toList_some, List.filter_cons, List.filter_nil]
set_option maxHeartbeats 4000000 in
set_option maxRecDepth 100000 in
theorem Lv.those_c (v : Value) (L : List Mf.P) (w : World) (hL : Mf.Ps w v L) (hl : L.length ≤ 1000000000) (g : Nat) (cb : Array Value) (eg : ∀ args w, (callFunc g args).run Try.prog w = .ok (.enter g args) w) (p : Mf.P → Bool) (hK : Lv.Keeps w g cb p) :
 Calls Try.prog 38 #[v, .func (.func g) #[] cb] w fun e w' => ∃ u, e = .returned u ∧ Mf.Ow w.heap.size w' u (L.filter p) ∧ Below w.heap.size w w' := by
 have HPS := Lib.hid hL
 have HK := Lib.hid hK
 obtain ⟨a, c, rfl, -⟩ := hL.form
 have hn9 : (L.length : Int) ≤ 1000000000 := by omega
 have HLN := Lib.hid hl
 clear hK hl hL
 go_enter Try.func38, Try.ntmps38
 go_wp2_with fail
 go_loopw [5, 10] (fun u i wr => ∃ (k : Nat), k ≤ L.length ∧ i = .int .i64 (k : Int) ∧ Mf.Ow w.heap.size wr u ((L.take k).filter p) ∧ Below w.heap.size w wr) (fun _ i _ => L.length - (intOf i).toNat)
 case atStart => exact ⟨0, Nat.zero_le _, rfl, Mf.Ow.nil _ _, Below.refl _ _⟩
 case round =>
  obtain ⟨k, hk, rfl, hO, hB⟩ := hrel
  have hk0 : (0 : Int) ≤ (k : Int) := by omega
  have HO := Lib.hid hO
  have HB := Lib.hid hB
  by_cases hkl : k < L.length
  ·have hki : (k : Int) < (L.length : Int) := by omega
   have hx := List.getElem?_eq_getElem hkl
   generalize L[k] = x at hx
   obtain ⟨b, o, rfl, hPA⟩ := (HPS.out.kept hB).at_ hx
   have hst := Lv.filter_step p hx
   have HST := Lib.hid hst
   obtain ⟨w3, hw3⟩ : ∃ w3, w3 = wr.alloc (.cells (Mf.cs x) 38) := ⟨_, rfl⟩
   have g3 : Below wr.heap.size wr w3 := by rw [hw3]; exact (Below.refl _ _).alloc (Nat.le_refl _) _
   have hB3 := hB.trans (g3.mono hB.size)
   have CK := Lib.hid (HK.out x w3 hB3)
   have HPN : Hid (Mf.PA w3 wr.heap.size 0 x) := Lib.hid (by rw [hw3]; exact Mf.PA.new wr x 38)
   have HB3 := Lib.hid hB3
   have HO3 := Lib.hid (hO.kept g3)
   have HKL := Lib.hid hkl
   have hfl : ((L.take k).filter p).length ≤ 1000000000 := by
    have h1 := List.length_filter_le p (L.take k)
    rw [List.length_take] at h1
    have := HLN.out
    omega
   have HFL := Lib.hid hfl
   obtain ⟨i, l, ⟨an, ai, sa⟩, ⟨bn, bi, sb⟩⟩ := x
   obtain ⟨c0, c1, c2, c3, c4, c5, c6, c7⟩ := hPA
   simp only [Mf.cs] at hw3 c0 c1 c2 c3 c4 c5 c6 c7 CK
   obtain ⟨d0, d1, d2, d3, d4, d5, d6, d7⟩ := HPN.out
   simp only [Nat.zero_add] at d0 d1 d2 d3 d4 d5 d6 d7
   obtain ⟨q, hq⟩ : ∃ q, q = wr.heap.size := ⟨_, rfl⟩
   have HQ := Lib.hid hq
   rw [← hq] at d0 d1 d2 d3 d4 d5 d6 d7
   clear hk hkl hO hB hst hfl g3 hB3 hx
   go_upto_region 5 with fail
   rw [← hw3]
   rw [← hq]
   clear hw3 hq c0 c1 c2 c3 c4 c5 c6 c7
   go_wp2_with fail
   refine CK.out.mono ?_
   rintro e w4 ⟨rfl, g4⟩
   have HB4 := Lib.hid (HB3.out.trans (g4.mono HB3.out.size))
   have HO4 := Lib.hid (HO3.out.kept g4)
   have HP4 := Lib.hid (HPN.out.kept g4)
   rw [← HQ.out] at HP4
   clear d0 d1 d2 d3 d4 d5 d6 d7 g4 CK
   generalize p ⟨i, l, ⟨an, ai, sa⟩, ⟨bn, bi, sb⟩⟩ = pb at HST ⊢
   cases pb
   ·have HS2 : Hid ((L.take (k + 1)).filter p = (L.take k).filter p) := Lib.hid (by rw [HST.out]; simp)
    clear HST
    go_wp2
    go_roundw
    case rel => exact ⟨k + 1, HKL.out, by simp, by rw [HS2.out]; exact HO4.out, HB4.out⟩
    case measure => (have := HKL.out; simp [intOf]; omega)
   ·have HS2 : Hid ((L.take (k + 1)).filter p = (L.take k).filter p ++ [⟨i, l, ⟨an, ai, sa⟩, ⟨bn, bi, sb⟩⟩]) := Lib.hid (by rw [HST.out]; simp)
    clear HST
    obtain ⟨d0, d1, d2, d3, d4, d5, d6, d7⟩ := HP4.out
    simp only [Nat.zero_add] at d0 d1 d2 d3 d4 d5 d6 d7
    have g5 : Below w4.heap.size w4 (w4.alloc (.cells #[.int .i64 i, .int .i64 l, .bool an, .int .i64 ai, .string sa, .bool bn, .int .i64 bi, .string sb] 38)) := (Below.refl _ _).alloc (Nat.le_refl _) _
    have HO5 := Lib.hid (HO4.out.kept g5)
    have HB5 := Lib.hid (HB4.out.trans (g5.mono HB4.out.size))
    have HSR := Lib.hid (Dk.src_one (enc := Mf.pc) w4 ⟨i, l, ⟨an, ai, sa⟩, ⟨bn, bi, sb⟩⟩ #[.int .i64 i, .int .i64 l, .bool an, .int .i64 ai, .string sa, .bool bn, .int .i64 bi, .string sb] rfl 38)
    clear g5
    go_wp2_with (at_builtin; refine Mf.wpList_part [⟨i, l, ⟨an, ai, sa⟩, ⟨bn, bi, sb⟩⟩] HO5.out HB5.out.size (by have := HFL.out; simp only [List.length_singleton]; omega) HSR.out (.tmp 17) (.tmp 19) (by rfl) (by rfl) (by rfl) (by rfl) ?_; intro v6 w6 o6 g6; have HO6 := Lib.hid o6; have HB6 := Lib.hid (Mf.ow_below HB5.out HB5.out.size HO5.out g6); clear o6 g6)
    go_wp2
    go_roundw
    case rel => exact ⟨k + 1, HKL.out, by simp, by rw [HS2.out]; exact HO6.out, HB6.out⟩
    case measure => (have := HKL.out; simp [intOf]; omega)
  ·have hki : ¬ (k : Int) < (L.length : Int) := by omega
   obtain rfl : k = L.length := by omega
   rw [List.take_length] at hO
   have HO9 := Lib.hid hO
   clear hk hO hB HO
   go_wp2
   go_ret
   exact ⟨_, rfl, HO9.out, HB.out⟩
theorem Lv.on_c (n : Int) (w : World) : Calls Try.prog 39 #[.int .i64 n] w fun e w' => e = .returned (.func (.func 67) #[] #[.pointer (some ⟨w.heap.size, 0, none⟩)]) ∧ w' = w.alloc (.cells #[.int .i64 n] 3) := by
 go_enter Try.func39, Try.ntmps39
 go_wp2
 go_ret
 exact ⟨rfl, rfl⟩
set_option maxRecDepth 100000 in
theorem Lv.on1_c (n : Int) (x : Mf.P) (b : Nat) (w : World) (h : w.cell? ⟨b, 0, none⟩ = some (.int .i64 n)) : Calls Try.prog 67 #[.agg (Mf.cs x), .pointer (some ⟨b, 0, none⟩)] w fun e w' => e = .returned (.bool (x.lv == n)) ∧ Below w.heap.size w w' := by
 obtain ⟨i, l, ⟨an, ai, sa⟩, ⟨bn, bi, sb⟩⟩ := x
 have hb := World.block_lt_of_cell? w _ h
 have h2 : (w.alloc (.cells #[.int .i64 i, .int .i64 l, .bool an, .int .i64 ai, .string sa, .bool bn, .int .i64 bi, .string sb] 38)).cell? ⟨b, 0, none⟩ = some (.int .i64 n) := by
  rw [World.cell?_alloc_lt _ _ _ hb]; exact h
 simp only [Mf.cs]
 go_enter Try.func67, Try.ntmps67
 go_wp2
 go_ret
 exact ⟨rfl, (Below.refl _ _).alloc (Nat.le_refl _) _⟩
theorem Lv.on_keeps (n : Int) (w : World) (b : Nat) (h : w.cell? ⟨b, 0, none⟩ = some (.int .i64 n)) : Lv.Keeps w 67 #[.pointer (some ⟨b, 0, none⟩)] (fun x => x.lv == n) := fun x W g =>
 Lv.on1_c n x b W ((g.cell (p := ⟨b, 0, none⟩) (World.block_lt_of_cell? w _ h)).trans h)
end
section
open Go Go.RowKit Go.Lib
def Lv.at_ (n : Int) (L : List Mf.P) : List Mf.P := L.filter fun x => x.lv == n
def Lv.lim (k : Nat) : Nat := if k = 0 then 3 else if k = 1 then 4 else 8
def Lv.full (L : List Mf.P) (k : Nat) : Bool := decide (Lv.lim k < (Lv.at_ (k : Int) L).length)
def Lv.cw (L : List Mf.P) : Option Nat := if Lv.full L 0 = true then some 0 else if Lv.full L 1 = true then some 1 else if Lv.full L 2 = true then some 2 else none
def Lv.cwV : Option Nat → Value
 | some k => .tuple #[.int .i64 (k : Int), .bool true]
 | none => .tuple #[.int .i64 0, .bool false]
theorem Lv.cw_at {L : List Mf.P} {k : Nat} (hk : k < 3) (h : ∀ j, j < k → Lv.full L j = false) (hf : Lv.full L k = true) : Lv.cw L = some k := by
 unfold Lv.cw
 rcases (by omega : k = 0 ∨ k = 1 ∨ k = 2) with rfl | rfl | rfl
 ·rw [if_pos hf]
 ·rw [if_neg (by rw [h 0 (by omega)]; decide), if_pos hf]
 ·rw [if_neg (by rw [h 0 (by omega)]; decide), if_neg (by rw [h 1 (by omega)]; decide), if_pos hf]
theorem Lv.cw_no {L : List Mf.P} (h : ∀ j, j < 3 → Lv.full L j = false) : Lv.cw L = none := by
 unfold Lv.cw
 rw [if_neg (by rw [h 0 (by omega)]; decide), if_neg (by rw [h 1 (by omega)]; decide), if_neg (by rw [h 2 (by omega)]; decide)]
set_option maxRecDepth 100000 in
theorem Lv.limit_c (k : Nat) (hk : k < 3) (w : World) : Calls Try.prog 63 #[.int .i64 (k : Int)] w fun e w' => e = .returned (.int .i64 ((Lv.lim k : Nat) : Int)) ∧ w' = w := by
 rcases (by omega : k = 0 ∨ k = 1 ∨ k = 2) with rfl | rfl | rfl
 all_goals
  go_enter Try.func63, Try.ntmps63
  go_wp2
  go_ret
  exact ⟨rfl, rfl⟩
theorem Lv.at_len (n : Int) (L : List Mf.P) : (Lv.at_ n L).length ≤ L.length := List.length_filter_le _ _
set_option maxHeartbeats 2000000 in
set_option maxRecDepth 100000 in
theorem Lv.crowded_c (v : Value) (L : List Mf.P) (w : World) (hL : Mf.Ps w v L) (hl : L.length ≤ 1000000000) :
 Calls Try.prog 36 #[v] w fun e w' => e = .returned (Lv.cwV (Lv.cw L)) ∧ Below w.heap.size w w' := by
 have HPS := Lib.hid hL
 have HLN := Lib.hid hl
 have CT := Lib.hid fun (k : Nat) (W : World) (g : Below w.heap.size w W) => Lv.those_c v L (W.alloc (.cells #[.int .i64 (k : Int)] 3)) ((hL.kept g).kept ((Below.refl _ _).alloc (Nat.le_refl _) _)) hl 67 #[.pointer (some ⟨W.heap.size, 0, none⟩)] (enters_of Try.func67 (by kernel_rfl) rfl) (fun x => x.lv == (k : Int)) (Lv.on_keeps _ _ _ (Kn.cell_new W _ _ 0 _ rfl))
 obtain ⟨a, c, rfl, -⟩ := hL.form
 clear hL hl
 go_enter Try.func36, Try.ntmps36
 go_wp2_with fail
 go_loopw [5] (fun i wr => ∃ (k : Nat), k ≤ 3 ∧ i = .int .i64 (k : Int) ∧ Hid (∀ j, j < k → Lv.full L j = false) ∧ Below w.heap.size w wr) (fun i _ => 3 - (intOf i).toNat)
 case atStart => exact ⟨0, Nat.zero_le _, rfl, Lib.hid fun j h => absurd h (Nat.not_lt_zero _), Below.refl _ _⟩
 case round =>
  obtain ⟨k, hk, rfl, HF, hB⟩ := hrel
  have HB := Lib.hid hB
  by_cases hk3 : k < 3
  ·have hkz : (k : Int) < 3 := by omega
   have C1 := Lv.on_c (k : Int) wr
   have C2 := Lib.hid (CT.out k wr hB)
   have C3 := Lib.hid fun W => Lv.limit_c k hk3 W
   have HK3 := Lib.hid hk3
   obtain ⟨w3, hw3⟩ : ∃ w3, w3 = wr.alloc (.cells #[.int .i64 (k : Int)] 3) := ⟨_, rfl⟩
   have hB3 : Below w.heap.size w w3 := by rw [hw3]; exact hB.alloc hB.size _
   have HB3 := Lib.hid hB3
   rw [← hw3] at C1 C2
   obtain ⟨q, hq⟩ : ∃ q, q = wr.heap.size := ⟨_, rfl⟩
   rw [← hq] at C1 C2
   have HW3 := Lib.hid hw3
   clear hk hk3 hB hB3 hw3 hq
   go_wp2_with fail
   refine C1.mono ?_
   rintro e w4 ⟨rfl, rfl⟩
   clear C1
   go_wp2_with fail
   refine C2.out.mono ?_
   rintro e w5 ⟨u, rfl, hu, g5⟩
   have HB5 := Lib.hid (HB3.out.trans (g5.mono HB3.out.size))
   obtain ⟨ua, uc, rfl, -⟩ := hu.ps.form
   have hln : (L.filter fun x => x.lv == (k : Int)).length = (Lv.at_ (k : Int) L).length := rfl
   rw [hln]
   have hl9 : (Lv.at_ (k : Int) L).length ≤ 1000000000 := Nat.le_trans (Lv.at_len _ _) HLN.out
   obtain ⟨z, hz⟩ : ∃ z, z = (Lv.at_ (k : Int) L).length := ⟨_, rfl⟩
   rw [← hz] at hl9 ⊢
   have HZ := Lib.hid hz
   clear hu g5 C2 hln hz
   go_wp2_with fail
   refine (C3.out _).mono ?_
   rintro e w6 ⟨rfl, rfl⟩
   clear C3
   obtain ⟨y, hy⟩ : ∃ y, y = Lv.lim k := ⟨_, rfl⟩
   rw [← hy]
   have HY := Lib.hid hy
   clear hy
   by_cases hf : y < z
   ·have hfz : (y : Int) < (z : Int) := by omega
    have HFF : Hid (Lv.cw L = some k) := Lib.hid (Lv.cw_at HK3.out HF.out (decide_eq_true (by rw [← HY.out, ← HZ.out]; exact hf)))
    clear hf
    go_wp2
    go_ret2
    rw [HFF.out]
    exact ⟨rfl, HB5.out⟩
   ·have hfz : ¬ (y : Int) < (z : Int) := by omega
    have HFF : Hid (∀ j, j < k + 1 → Lv.full L j = false) := Lib.hid fun j hj => by
     rcases (by omega : j < k ∨ j = k) with h | rfl
     ·exact HF.out j h
     ·exact decide_eq_false (by rw [← HY.out, ← HZ.out]; exact hf)
    clear hf
    go_wp2
    go_roundw
    case rel => exact ⟨k + 1, HK3.out, by simp, HFF, HB5.out⟩
    case measure => (have := HK3.out; simp [intOf]; omega)
  ·obtain rfl : k = 3 := by omega
   have HFF : Hid (Lv.cw L = none) := Lib.hid (Lv.cw_no HF.out)
   clear hk hk3 hB
   go_wp2
   go_ret2
   rw [HFF.out]
   exact ⟨rfl, HB.out⟩
set_option maxRecDepth 100000 in
theorem Lv.calm_c (v : Value) (L : List Mf.P) (w : World) (hL : Mf.Ps w v L) (hl : L.length ≤ 1000000000) :
 Calls Try.prog 20 #[v] w fun e w' => e = .returned (.bool (Lv.cw L).isNone) ∧ Below w.heap.size w w' := by
 have C := Lv.crowded_c v L w hL hl
 cases hc : Lv.cw L with
 | some k =>
   rw [hc] at C
   unfold Lv.cwV at C
   simp only at C
   clear hc hL
   go_enter Try.func20, Try.ntmps20
   go_wp2_with fail
   refine C.mono ?_
   rintro e w3 ⟨rfl, g3⟩
   have G3 := Lib.hid g3
   clear g3 C
   go_wp2
   go_ret
   exact ⟨rfl, G3.out⟩
 | none =>
   rw [hc] at C
   unfold Lv.cwV at C
   simp only at C
   clear hc hL
   go_enter Try.func20, Try.ntmps20
   go_wp2_with fail
   refine C.mono ?_
   rintro e w3 ⟨rfl, g3⟩
   have G3 := Lib.hid g3
   clear g3 C
   go_wp2
   go_ret
   exact ⟨rfl, G3.out⟩
end
section
open Go Go.RowKit Go.Lib
def Lv.ov (a x : Mf.P) : Bool := decide (0 ≤ Kn.cmp a.hi x.lo) && decide (0 ≤ Kn.cmp x.hi a.lo)
set_option maxRecDepth 100000 in
theorem Lv.overlapping_c (x : Mf.P) (w : World) : Calls Try.prog 40 #[.agg (Mf.cs x)] w fun e w' => e = .returned (.func (.func 68) #[] #[.pointer (some ⟨w.heap.size, 0, none⟩)]) ∧ w' = w.alloc (.cells (Mf.cs x) 38) := by
 obtain ⟨i, l, ⟨an, ai, sa⟩, ⟨bn, bi, sb⟩⟩ := x
 simp only [Mf.cs]
 go_enter Try.func40, Try.ntmps40
 go_wp2
 go_ret
 exact ⟨rfl, rfl⟩
set_option maxHeartbeats 2000000 in
set_option maxRecDepth 100000 in
theorem Lv.overlapping1_c (a x : Mf.P) (b : Nat) (w : World) (h : Mf.PA w b 0 a) : Calls Try.prog 68 #[.agg (Mf.cs x), .pointer (some ⟨b, 0, none⟩)] w fun e w' => e = .returned (.bool (Lv.ov a x)) ∧ Below w.heap.size w w' := by
 have C1 := Lib.hid fun (W : World) => Kn.compare_c a.hi x.lo W
 have C2 := Lib.hid fun (W : World) => Kn.compare_c x.hi a.lo W
 have hov : Lv.ov a x = (decide (0 ≤ Kn.cmp a.hi x.lo) && decide (0 ≤ Kn.cmp x.hi a.lo)) := rfl
 rw [hov]
 generalize Kn.cmp a.hi x.lo = z1 at C1 ⊢
 generalize Kn.cmp x.hi a.lo = z2 at C2 ⊢
 obtain ⟨w3, hw3⟩ : ∃ w3, w3 = w.alloc (.cells (Mf.cs x) 38) := ⟨_, rfl⟩
 have g3 : Below w.heap.size w w3 := by rw [hw3]; exact (Below.refl _ _).alloc (Nat.le_refl _) _
 have hA := h.kept g3
 have hX : Mf.PA w3 w.heap.size 0 x := by rw [hw3]; exact Mf.PA.new w x 38
 have HA := Lib.hid hA
 have HX := Lib.hid hX
 have HB := Lib.hid g3
 obtain ⟨ia, la, ⟨an, ai, sa⟩, ⟨bn, bi, sb⟩⟩ := a
 obtain ⟨i, l, ⟨cn, ci, sc⟩, ⟨dn, di, sd⟩⟩ := x
 obtain ⟨-, -, -, -, -, a5, a6, a7⟩ := hA
 obtain ⟨-, -, x2, x3, x4, -, -, -⟩ := hX
 unfold Kn.V.val at C1 C2
 simp only [Mf.cs, Nat.zero_add] at C1 C2 hw3 a5 a6 a7 x2 x3 x4 ⊢
 rw [hw3] at a5 a6 a7 x2 x3 x4
 clear h g3 hov
 by_cases h1 : 0 ≤ z1
 ·have hd1 : decide (0 ≤ z1) = true := decide_eq_true h1
  go_enter Try.func68, Try.ntmps68
  go_wp2_with fail
  rw [← hw3]
  clear hw3 a5 a6 a7 x2 x3 x4
  refine (C1.out w3).mono ?_
  rintro e w4 ⟨rfl, g4⟩
  obtain ⟨-, -, a2, a3, a4, -, -, -⟩ := HA.out.kept g4
  obtain ⟨-, -, -, -, -, x5, x6, x7⟩ := HX.out.kept g4
  simp only [Nat.zero_add] at a2 a3 a4 x5 x6 x7
  have HB4 := Lib.hid (HB.out.trans (g4.mono HB.out.size))
  clear g4 C1
  go_wp2_with fail
  refine (C2.out w4).mono ?_
  rintro e w5 ⟨rfl, g5⟩
  have HB5 := Lib.hid (HB4.out.trans (g5.mono HB4.out.size))
  clear g5 C2 a2 a3 a4 x5 x6 x7
  go_wp2
  go_ret
  refine ⟨?_, HB5.out⟩
  rw [hd1, Bool.true_and]
  rfl
 ·have hd1 : decide (0 ≤ z1) = false := decide_eq_false h1
  go_enter Try.func68, Try.ntmps68
  go_wp2_with fail
  rw [← hw3]
  clear hw3 a5 a6 a7 x2 x3 x4
  refine (C1.out w3).mono ?_
  rintro e w4 ⟨rfl, g4⟩
  have HB4 := Lib.hid (HB.out.trans (g4.mono HB.out.size))
  clear g4 C1
  go_wp2
  go_ret
  refine ⟨?_, HB4.out⟩
  rw [hd1, Bool.false_and]
  rfl
theorem Lv.over_keeps (a : Mf.P) (w : World) (b : Nat) (h : Mf.PA w b 0 a) : Lv.Keeps w 68 #[.pointer (some ⟨b, 0, none⟩)] (Lv.ov a) := fun x W g => Lv.overlapping1_c a x b W (h.kept g)
theorem Lv.pick1_c (n : Int) (x : Mf.P) (b : Nat) (w : World) (h : w.cell? ⟨b, 0, none⟩ = some (.int .i64 n)) : Calls Try.prog 44 #[.agg (Mf.cs x), .pointer (some ⟨b, 0, none⟩)] w fun e w' => e = .returned (.bool (decide (n < x.lv))) ∧ Below w.heap.size w w' := by
 obtain ⟨i, l, ⟨an, ai, sa⟩, ⟨bn, bi, sb⟩⟩ := x
 have hb := World.block_lt_of_cell? w _ h
 have h2 : (w.alloc (.cells #[.int .i64 i, .int .i64 l, .bool an, .int .i64 ai, .string sa, .bool bn, .int .i64 bi, .string sb] 38)).cell? ⟨b, 0, none⟩ = some (.int .i64 n) := by
  rw [World.cell?_alloc_lt _ _ _ hb]; exact h
 simp only [Mf.cs]
 go_enter Try.func44, Try.ntmps44
 go_wp2
 go_ret
 exact ⟨rfl, (Below.refl _ _).alloc (Nat.le_refl _) _⟩
theorem Lv.pick_keeps (n : Int) (w : World) (b : Nat) (h : w.cell? ⟨b, 0, none⟩ = some (.int .i64 n)) : Lv.Keeps w 44 #[.pointer (some ⟨b, 0, none⟩)] (fun x => decide (n < x.lv)) := fun x W g =>
 Lv.pick1_c n x b W ((g.cell (p := ⟨b, 0, none⟩) (World.block_lt_of_cell? w _ h)).trans h)
end
section
open Go Go.RowKit Go.Lib
theorem Lv.any_at {L : List Mf.P} {p : Mf.P → Bool} {k : Nat} {x : Mf.P} (h : L[k]? = some x) (hp : p x = true) : L.any p = true := List.any_eq_true.2 ⟨x, List.mem_of_getElem? h, hp⟩
set_option maxHeartbeats 4000000 in
set_option maxRecDepth 100000 in
theorem Lv.index_c (v : Value) (L : List Mf.P) (w : World) (hL : Mf.Ps w v L) (hl : L.length ≤ 1000000000) (g : Nat) (cb : Array Value) (eg : ∀ args w, (callFunc g args).run Try.prog w = .ok (.enter g args) w) (p : Mf.P → Bool) (hK : Lv.Keeps w g cb p) :
 Calls Try.prog 70 #[v, .func (.func g) #[] cb] w fun e w' => ∃ z : Int, e = .returned (.int .i64 z) ∧ decide (0 ≤ z) = L.any p ∧ Below w.heap.size w w' := by
 have HPS := Lib.hid hL
 have HK := Lib.hid hK
 obtain ⟨a, c, rfl, -⟩ := hL.form
 have hn9 : (L.length : Int) ≤ 1000000000 := by omega
 clear hK hl hL
 go_enter Try.func70, Try.ntmps70
 go_wp2_with fail
 go_loopw [8] (fun i wr => ∃ (k : Nat), k ≤ L.length ∧ i = .int .i64 (k : Int) ∧ Hid ((L.take k).any p = false) ∧ Below w.heap.size w wr) (fun i _ => L.length - (intOf i).toNat)
 case atStart => exact ⟨0, Nat.zero_le _, rfl, Lib.hid rfl, Below.refl _ _⟩
 case round =>
  obtain ⟨k, hk, rfl, HF, hB⟩ := hrel
  have hk0 : (0 : Int) ≤ (k : Int) := by omega
  have HB := Lib.hid hB
  by_cases hkl : k < L.length
  ·have hki : (k : Int) < (L.length : Int) := by omega
   have hx := List.getElem?_eq_getElem hkl
   generalize L[k] = x at hx
   obtain ⟨b, o, rfl, hPA⟩ := (HPS.out.kept hB).at_ hx
   have CK := Lib.hid (HK.out x wr hB)
   have HKL := Lib.hid hkl
   have HY := Lib.hid fun (h : p x = true) => Lv.any_at hx h
   have HN : Hid (p x = false → (L.take (k + 1)).any p = false) := Lib.hid fun h => by
    rw [List.take_add_one, hx, List.any_append, HF.out, Option.toList_some, List.any_cons, h, List.any_nil]
    rfl
   obtain ⟨i, l, ⟨an, ai, sa⟩, ⟨bn, bi, sb⟩⟩ := x
   obtain ⟨c0, c1, c2, c3, c4, c5, c6, c7⟩ := hPA
   simp only [Mf.cs] at c0 c1 c2 c3 c4 c5 c6 c7 CK
   clear hk hkl hB hx
   go_wp2_with fail
   refine CK.out.mono ?_
   rintro e w4 ⟨rfl, g4⟩
   have HB4 := Lib.hid (HB.out.trans (g4.mono HB.out.size))
   clear c0 c1 c2 c3 c4 c5 c6 c7 g4 CK
   generalize p ⟨i, l, ⟨an, ai, sa⟩, ⟨bn, bi, sb⟩⟩ = pb at HY HN ⊢
   cases pb
   ·go_wp2
    go_roundw
    case rel => exact ⟨k + 1, HKL.out, by simp, Lib.hid (by first | exact HN.out rfl | exact HN.out trivial), HB4.out⟩
    case measure => (have := HKL.out; simp [intOf]; omega)
   ·have hany : L.any p = true := by first | exact HY.out rfl | exact HY.out trivial
    have HZ : Hid (decide ((0 : Int) ≤ (k : Int)) = L.any p) := Lib.hid (by rw [hany]; exact decide_eq_true hk0)
    clear hany
    go_wp2
    go_ret
    exact ⟨_, rfl, HZ.out, HB4.out⟩
  ·have hki : ¬ (k : Int) < (L.length : Int) := by omega
   have HZ : Hid (decide ((0 : Int) ≤ -1) = L.any p) := Lib.hid (by
    have := HF.out
    rw [show k = L.length by omega, List.take_length] at this
    rw [this]
    rfl)
   clear hk hkl hB
   go_wp2
   go_ret
   exact ⟨_, rfl, HZ.out, HB.out⟩
set_option maxRecDepth 100000 in
theorem Lv.contains_c (v : Value) (L : List Mf.P) (w : World) (hL : Mf.Ps w v L) (hl : L.length ≤ 1000000000) (g : Nat) (cb : Array Value) (eg : ∀ args w, (callFunc g args).run Try.prog w = .ok (.enter g args) w) (p : Mf.P → Bool) (hK : Lv.Keeps w g cb p) :
 Calls Try.prog 46 #[v, .func (.func g) #[] cb] w fun e w' => e = .returned (.bool (L.any p)) ∧ Below w.heap.size w w' := by
 have C := Lib.hid (Lv.index_c v L w hL hl g cb eg p hK)
 clear hL hl hK
 go_enter Try.func46, Try.ntmps46
 go_wp2_with fail
 refine C.out.mono ?_
 rintro e w3 ⟨z, rfl, hz, g3⟩
 have HZ := Lib.hid hz
 have G3 := Lib.hid g3
 clear hz g3 C
 go_wp2
 go_ret
 refine ⟨?_, G3.out⟩
 rw [← HZ.out]
 rfl
end
section
open Go Go.RowKit Go.Lib
def Lv.wLo (a x : Mf.P) : Mf.P := if Kn.cmp x.lo a.lo < 0 then ⟨a.id, a.lv, x.lo, a.hi⟩ else a
def Lv.wHi (a x : Mf.P) : Mf.P := if 0 < Kn.cmp x.hi a.hi then ⟨a.id, a.lv, a.lo, x.hi⟩ else a
def Lv.wd (a x : Mf.P) : Mf.P := Lv.wHi (Lv.wLo a x) x
def Lv.sp (a : Mf.P) (L : List Mf.P) : Mf.P := L.foldl Lv.wd a
theorem Lv.sp_step (a : Mf.P) {L : List Mf.P} {k : Nat} {x : Mf.P} (h : L[k]? = some x) : Lv.sp a (L.take (k + 1)) = Lv.wd (Lv.sp a (L.take k)) x := by
 unfold Lv.sp
 rw [List.take_add_one, h, List.foldl_append]
 rfl
theorem Lv.eight {w : World} {q : Nat} {x : Mf.P} {T : TypeId} (h : w.heap[q]? = some (.cells (Mf.cs x) T (0, 0))) :
 Mf.PA w q 0 x ∧ ∀ j, j < 8 → w.frozen? ⟨q, j, none⟩ = false := by
 refine ⟨⟨?_, ?_, ?_, ?_, ?_, ?_, ?_, ?_⟩, fun j hj => ?_⟩
 all_goals first | (simp [World.cell?, h]; done) | (simp [World.frozen?, h]; done) | skip
theorem Lv.set3 {w : World} {q : Nat} {a : Mf.P} {T : TypeId} (h : w.heap[q]? = some (.cells (Mf.cs a) T (0, 0))) (v : Kn.V) :
 (((w.setCell ⟨q, 2, none⟩ (.bool v.null)).setCell ⟨q, 3, none⟩ (.int .i64 v.n)).setCell ⟨q, 4, none⟩ (.string v.s)).heap[q]? = some (.cells (Mf.cs ⟨a.id, a.lv, v, a.hi⟩) T (0, 0)) :=
 heap_setCell_same _ q 4 _ _ _ (heap_setCell_same _ q 3 _ _ _ (heap_setCell_same w q 2 _ _ _ h))
theorem Lv.set6 {w : World} {q : Nat} {a : Mf.P} {T : TypeId} (h : w.heap[q]? = some (.cells (Mf.cs a) T (0, 0))) (v : Kn.V) :
 (((w.setCell ⟨q, 5, none⟩ (.bool v.null)).setCell ⟨q, 6, none⟩ (.int .i64 v.n)).setCell ⟨q, 7, none⟩ (.string v.s)).heap[q]? = some (.cells (Mf.cs ⟨a.id, a.lv, a.lo, v⟩) T (0, 0)) :=
 heap_setCell_same _ q 7 _ _ _ (heap_setCell_same _ q 6 _ _ _ (heap_setCell_same w q 5 _ _ _ h))
end
section
open Go Go.RowKit Go.Lib
abbrev Lv.z8 : Array Value := #[.int .i64 0, .int .i64 0, .bool false, .int .i64 0, .string ⟨#[]⟩, .bool false, .int .i64 0, .string ⟨#[]⟩]
theorem Lv.results_cell {fn : Func} {p : Tmp} {ty : TypeId} (h : fn.results = #[.cell p ty]) (tmps : Array Value) (P : Program) (w : World) :
 (results fn tmps).run P w = ((asAddr (tmps.getD p undef)).run P w).andThen fun a w1 => (loadVar ty a).run P w1 := by
 simp only [results, h]
 simp [Sem.run_bind, Result.andThen]
set_option maxHeartbeats 8000000 in
set_option maxRecDepth 100000 in
theorem Lv.span_c (v : Value) (x0 : Mf.P) (L : List Mf.P) (w : World) (hL : Mf.Ps w v L) (h0 : L[0]? = some x0) (hl : L.length ≤ 1000000000) :
 Calls Try.prog 41 #[v] w fun e w' => e = .returned (.agg (Mf.cs (Lv.sp x0 L))) ∧ Below w.heap.size w w' := by
 have HPS := Lib.hid hL
 obtain ⟨a, c, rfl, -⟩ := hL.form
 have hn9 : (L.length : Int) ≤ 1000000000 := by omega
 obtain ⟨w1, hw1⟩ : ∃ w1, w1 = w.alloc (.cells Lv.z8 38) := ⟨_, rfl⟩
 have g1 : Below w.heap.size w w1 := by rw [hw1]; exact (Below.refl _ _).alloc (Nat.le_refl _) _
 obtain ⟨b, o, ha, hPA⟩ := (HPS.out.kept g1).at_ h0
 subst ha
 have hl1 : (0 : Int) < (L.length : Int) := by
  have := (List.getElem?_eq_some_iff.1 h0).1
  omega
 obtain ⟨w2, hw2⟩ : ∃ w2, w2 = w1.alloc (.cells (Mf.cs x0) 38) := ⟨_, rfl⟩
 have g2 : Below w1.heap.size w1 w2 := by rw [hw2]; exact (Below.refl _ _).alloc (Nat.le_refl _) _
 have s1 : w1.heap.size = w.heap.size + 1 := by rw [hw1]; exact World.size_alloc ..
 obtain ⟨q3, hq3⟩ : ∃ q3, q3 = w.heap.size + 1 := ⟨_, rfl⟩
 have HQ3 := Lib.hid hq3
 have HBX0 : Hid (w2.heap[q3]? = some (.cells (Mf.cs x0) 38 (0, 0))) := Lib.hid (by rw [hq3, ← s1, hw2]; exact heap_alloc_new w1 _)
 have HRS0 : Hid (w2.heap[w.heap.size]? = some (.cells Lv.z8 38 (0, 0))) := Lib.hid ((g2.block w.heap.size (by omega)).trans (by rw [hw1]; exact heap_alloc_new w _))
 have HBB0 := Lib.hid (g1.trans (g2.mono g1.size))
 obtain ⟨c0, c1, c2, c3, c4, c5, c6, c7⟩ := hPA
 simp only [Nat.zero_mul, Nat.add_zero] at c0 c1 c2 c3 c4 c5 c6 c7
 rw [hw1] at c0 c1 c2 c3 c4 c5 c6 c7
 unfold Lv.z8 at hw1 c0 c1 c2 c3 c4 c5 c6 c7
 unfold Mf.cs at hw2
 have HS1 := Lib.hid s1
 clear hL h0 hl g1 g2 s1
 go_enter Try.func41, Try.ntmps41
 go_upto_region 2 with fail
 rw [← hw1]
 rw [← hw2]
 rw [← hq3]
 clear hw1 hw2 hq3 c0 c1 c2 c3 c4 c5 c6 c7
 go_wp2_with fail
 go_loopw [11] (fun i wr => ∃ (k : Nat) (W : Mf.P), k ≤ L.length ∧ i = .int .i64 (k : Int) ∧ Hid (W = Lv.sp x0 (L.take k)) ∧ wr.heap[q3]? = some (.cells (Mf.cs W) 38 (0, 0)) ∧ wr.heap[w.heap.size]? = some (.cells Lv.z8 38 (0, 0)) ∧ Below w.heap.size w wr) (fun i _ => L.length - (intOf i).toNat)
 case atStart => exact ⟨0, x0, Nat.zero_le _, rfl, Lib.hid rfl, HBX0.out, HRS0.out, HBB0.out⟩
 case round =>
  obtain ⟨k, W, hk, rfl, HT0, hbx, hrs, hB⟩ := hrel
  have hk0 : (0 : Int) ≤ (k : Int) := by omega
  by_cases hkl : k < L.length
  ·have hki : (k : Int) < (L.length : Int) := by omega
   have hx := List.getElem?_eq_getElem hkl
   generalize L[k] = x at hx
   obtain ⟨b9, o9, hb9, hPA⟩ := (HPS.out.kept hB).at_ hx
   simp only [Option.some.injEq, Addr.mk.injEq, and_true] at hb9
   obtain ⟨rfl, rfl⟩ := hb9
   have HT : Hid (Lv.sp x0 (L.take (k + 1)) = Lv.wd W x) := Lib.hid (by rw [Lv.sp_step x0 hx, HT0.out])
   have HKL := Lib.hid hkl
   obtain ⟨w3, hw3⟩ : ∃ w3, w3 = wr.alloc (.cells (Mf.cs x) 38) := ⟨_, rfl⟩
   obtain ⟨q5, hq5⟩ : ∃ q5, q5 = wr.heap.size := ⟨_, rfl⟩
   have g3 : Below wr.heap.size wr w3 := by rw [hw3]; exact (Below.refl _ _).alloc (Nat.le_refl _) _
   have H5a : w3.heap[q5]? = some (.cells (Mf.cs x) 38 (0, 0)) := by rw [hq5, hw3]; exact heap_alloc_new wr _
   have h3a := (g3.block q3 (lt_of_block hbx)).trans hbx
   have hra := (g3.block w.heap.size (lt_of_block hrs)).trans hrs
   have hba := hB.trans (g3.mono hB.size)
   have HQ5 : Hid (q3 < q5) := Lib.hid (by rw [hq5]; exact lt_of_block hbx)
   have H3A := Lib.hid h3a
   have HRA := Lib.hid hra
   have HBA := Lib.hid hba
   have HXA := Lib.hid H5a
   have C1 := Kn.compare_c x.lo W.lo w3
   unfold Kn.V.val at C1
   obtain ⟨z1, hz1⟩ : ∃ z, z = Kn.cmp x.lo W.lo := ⟨_, rfl⟩
   rw [← hz1] at C1
   have HZ1 := Lib.hid hz1
   obtain ⟨c0, c1, c2, c3, c4, c5, c6, c7⟩ := hPA
   obtain ⟨-, -, a2, a3, a4, -, -, -⟩ := (Lv.eight h3a).1
   obtain ⟨-, -, x2, x3, x4, -, -, -⟩ := (Lv.eight H5a).1
   simp only [Nat.zero_add] at a2 a3 a4 x2 x3 x4
   unfold Mf.cs at hw3
   clear hk hkl hbx hrs hB g3 h3a hra hba hx hz1 H5a HT0
   go_upto_region 5 with fail
   rw [← hw3]
   rw [← hq5]
   clear hw3 hq5 c0 c1 c2 c3 c4 c5 c6 c7
   go_wp2_with fail
   refine C1.mono ?_
   rintro e w4 ⟨rfl, g4⟩
   have h3b := (g4.block q3 (lt_of_block H3A.out)).trans H3A.out
   have h5b := (g4.block q5 (lt_of_block HXA.out)).trans HXA.out
   have hrb := (g4.block w.heap.size (lt_of_block HRA.out)).trans HRA.out
   have hbb := HBA.out.trans (g4.mono HBA.out.size)
   have hq53 : q5 ≠ q3 := by
    intro e
    have h1 := HQ5.out
    omega
   clear a2 a3 a4 x2 x3 x4 C1 g4
   by_cases hz : z1 < 0
   ·obtain ⟨W1, hW1⟩ : ∃ W1, W1 = Lv.wLo W x := ⟨_, rfl⟩
    have HW1 := Lib.hid hW1
    have e2 : W1 = ⟨W.id, W.lv, x.lo, W.hi⟩ := by rw [hW1]; unfold Lv.wLo; rw [← HZ1.out, if_pos hz]
    have hne := HQ3.out
    obtain ⟨w5, hw5⟩ : ∃ w5, w5 = ((w4.setCell ⟨q3, 2, none⟩ (.bool x.lo.null)).setCell ⟨q3, 3, none⟩ (.int .i64 x.lo.n)).setCell ⟨q3, 4, none⟩ (.string x.lo.s) := ⟨_, rfl⟩
    have HBX1 := Lib.hid (Lv.set3 h3b x.lo)
    rw [← e2, ← hw5] at HBX1
    have hot : ∀ j, j ≠ q3 → w5.heap[j]? = w4.heap[j]? := fun j hj => by
     rw [hw5]
     exact (Below.heap_setCell _ _ _ _ (by show j ≠ q3; exact hj)).trans ((Below.heap_setCell _ _ _ _ (by show j ≠ q3; exact hj)).trans (Below.heap_setCell _ _ _ _ (by show j ≠ q3; exact hj)))
    have H5 := Lib.hid ((hot q5 hq53).trans h5b)
    have HRS1 := Lib.hid ((hot w.heap.size (by omega)).trans hrb)
    have HBB1 : Hid (Below w.heap.size w w5) := Lib.hid (by rw [hw5]; exact Mf.below1 (Mf.below1 (Mf.below1 hbb (by omega) _ _) (by omega) _ _) (by omega) _ _)
    obtain ⟨⟨-, -, a2, a3, a4, -, -, -⟩, af⟩ := Lv.eight h3b
    obtain ⟨-, -, x2, x3, x4, -, -, -⟩ := (Lv.eight h5b).1
    have f2 := af 2 (by decide)
    have f3 := af 3 (by decide)
    have f4 := af 4 (by decide)
    simp only [Nat.zero_add] at a2 a3 a4 x2 x3 x4
    clear h3b h5b hrb hbb af hne e2 hW1 hot
    go_upto_region 7 with fail
    rw [← hw5]
    clear hw5 a2 a3 a4 x2 x3 x4 f2 f3 f4
    obtain ⟨-, -, -, -, -, a5, a6, a7⟩ := (Lv.eight HBX1.out).1
    obtain ⟨-, -, -, -, -, x5, x6, x7⟩ := (Lv.eight H5.out).1
    simp only [Nat.zero_add] at a5 a6 a7 x5 x6 x7
    have C2 := Kn.compare_c x.hi W1.hi w5
    unfold Kn.V.val at C2
    obtain ⟨z2, hz2⟩ : ∃ z, z = Kn.cmp x.hi W1.hi := ⟨_, rfl⟩
    rw [← hz2] at C2
    have HZ2 := Lib.hid hz2
    clear hz2
    go_wp2_with fail
    refine C2.mono ?_
    rintro e w6 ⟨rfl, g6⟩
    have h3b := (g6.block q3 (lt_of_block HBX1.out)).trans HBX1.out
    have h5b := (g6.block q5 (lt_of_block H5.out)).trans H5.out
    have hrb := (g6.block w.heap.size (lt_of_block HRS1.out)).trans HRS1.out
    have hbb := HBB1.out.trans (g6.mono HBB1.out.size)
    clear a5 a6 a7 x5 x6 x7 C2 g6
    by_cases hz : 0 < z2
    ·obtain ⟨W2, hW2⟩ : ∃ W2, W2 = Lv.wHi W1 x := ⟨_, rfl⟩
     have HW2 := Lib.hid hW2
     have e2 : W2 = ⟨W1.id, W1.lv, W1.lo, x.hi⟩ := by rw [hW2]; unfold Lv.wHi; rw [← HZ2.out, if_pos hz]
     have HBX2 := Lib.hid (Lv.set6 h3b x.hi)
     rw [← e2] at HBX2
     have hne := HQ3.out
     have HRS2 : Hid ((((w6.setCell ⟨q3, 5, none⟩ (.bool x.hi.null)).setCell ⟨q3, 6, none⟩ (.int .i64 x.hi.n)).setCell ⟨q3, 7, none⟩ (.string x.hi.s)).heap[w.heap.size]? = some (.cells Lv.z8 38 (0, 0))) := Lib.hid ((Below.heap_setCell _ _ _ _ (by show w.heap.size ≠ q3; omega)).trans ((Below.heap_setCell _ _ _ _ (by show w.heap.size ≠ q3; omega)).trans ((Below.heap_setCell _ _ _ _ (by show w.heap.size ≠ q3; omega)).trans hrb)))
     have HBB2 := Lib.hid (Mf.below1 (q := q3) (Mf.below1 (q := q3) (Mf.below1 (q := q3) hbb (by omega) 5 (.bool x.hi.null)) (by omega) 6 (.int .i64 x.hi.n)) (by omega) 7 (.string x.hi.s))
     obtain ⟨⟨-, -, -, -, -, a5, a6, a7⟩, af⟩ := Lv.eight h3b
     obtain ⟨-, -, -, -, -, x5, x6, x7⟩ := (Lv.eight h5b).1
     have f5 := af 5 (by decide)
     have f6 := af 6 (by decide)
     have f7 := af 7 (by decide)
     simp only [Nat.zero_add] at a5 a6 a7 x5 x6 x7
     clear h3b h5b hrb hbb af hne e2 hW2
     go_wp2
     go_roundw
     case rel => exact ⟨k + 1, W2, HKL.out, by simp, Lib.hid (by rw [HT.out, HW2.out, HW1.out]; rfl), HBX2.out, HRS2.out, HBB2.out⟩
     case measure => (have := HKL.out; simp [intOf]; omega)
    ·obtain ⟨W2, hW2⟩ : ∃ W2, W2 = Lv.wHi W1 x := ⟨_, rfl⟩
     have HW2 := Lib.hid hW2
     have e2 : W2 = W1 := by rw [hW2]; unfold Lv.wHi; rw [← HZ2.out, if_neg hz]
     have HBX2 := Lib.hid h3b
     rw [← e2] at HBX2
     have HRS2 := Lib.hid hrb
     have HBB2 := Lib.hid hbb
     clear h3b h5b hrb hbb e2 hW2
     go_wp2
     go_roundw
     case rel => exact ⟨k + 1, W2, HKL.out, by simp, Lib.hid (by rw [HT.out, HW2.out, HW1.out]; rfl), HBX2.out, HRS2.out, HBB2.out⟩
     case measure => (have := HKL.out; simp [intOf]; omega)
   ·obtain ⟨W1, hW1⟩ : ∃ W1, W1 = Lv.wLo W x := ⟨_, rfl⟩
    have HW1 := Lib.hid hW1
    have e2 : W1 = W := by rw [hW1]; unfold Lv.wLo; rw [← HZ1.out, if_neg hz]
    obtain ⟨w5, hw5⟩ : ∃ w5, w5 = w4 := ⟨_, rfl⟩
    have HBX1 := Lib.hid h3b
    have H5 := Lib.hid h5b
    have HRS1 := Lib.hid hrb
    have HBB1 := Lib.hid hbb
    rw [← hw5] at HBX1 H5 HRS1 HBB1 ⊢
    rw [← e2] at HBX1
    clear h3b h5b hrb hbb e2 hW1 hw5
    go_upto_region 7 with fail
    obtain ⟨-, -, -, -, -, a5, a6, a7⟩ := (Lv.eight HBX1.out).1
    obtain ⟨-, -, -, -, -, x5, x6, x7⟩ := (Lv.eight H5.out).1
    simp only [Nat.zero_add] at a5 a6 a7 x5 x6 x7
    have C2 := Kn.compare_c x.hi W1.hi w5
    unfold Kn.V.val at C2
    obtain ⟨z2, hz2⟩ : ∃ z, z = Kn.cmp x.hi W1.hi := ⟨_, rfl⟩
    rw [← hz2] at C2
    have HZ2 := Lib.hid hz2
    clear hz2
    go_wp2_with fail
    refine C2.mono ?_
    rintro e w6 ⟨rfl, g6⟩
    have h3b := (g6.block q3 (lt_of_block HBX1.out)).trans HBX1.out
    have h5b := (g6.block q5 (lt_of_block H5.out)).trans H5.out
    have hrb := (g6.block w.heap.size (lt_of_block HRS1.out)).trans HRS1.out
    have hbb := HBB1.out.trans (g6.mono HBB1.out.size)
    clear a5 a6 a7 x5 x6 x7 C2 g6
    by_cases hz : 0 < z2
    ·obtain ⟨W2, hW2⟩ : ∃ W2, W2 = Lv.wHi W1 x := ⟨_, rfl⟩
     have HW2 := Lib.hid hW2
     have e2 : W2 = ⟨W1.id, W1.lv, W1.lo, x.hi⟩ := by rw [hW2]; unfold Lv.wHi; rw [← HZ2.out, if_pos hz]
     have HBX2 := Lib.hid (Lv.set6 h3b x.hi)
     rw [← e2] at HBX2
     have hne := HQ3.out
     have HRS2 : Hid ((((w6.setCell ⟨q3, 5, none⟩ (.bool x.hi.null)).setCell ⟨q3, 6, none⟩ (.int .i64 x.hi.n)).setCell ⟨q3, 7, none⟩ (.string x.hi.s)).heap[w.heap.size]? = some (.cells Lv.z8 38 (0, 0))) := Lib.hid ((Below.heap_setCell _ _ _ _ (by show w.heap.size ≠ q3; omega)).trans ((Below.heap_setCell _ _ _ _ (by show w.heap.size ≠ q3; omega)).trans ((Below.heap_setCell _ _ _ _ (by show w.heap.size ≠ q3; omega)).trans hrb)))
     have HBB2 := Lib.hid (Mf.below1 (q := q3) (Mf.below1 (q := q3) (Mf.below1 (q := q3) hbb (by omega) 5 (.bool x.hi.null)) (by omega) 6 (.int .i64 x.hi.n)) (by omega) 7 (.string x.hi.s))
     obtain ⟨⟨-, -, -, -, -, a5, a6, a7⟩, af⟩ := Lv.eight h3b
     obtain ⟨-, -, -, -, -, x5, x6, x7⟩ := (Lv.eight h5b).1
     have f5 := af 5 (by decide)
     have f6 := af 6 (by decide)
     have f7 := af 7 (by decide)
     simp only [Nat.zero_add] at a5 a6 a7 x5 x6 x7
     clear h3b h5b hrb hbb af hne e2 hW2
     go_wp2
     go_roundw
     case rel => exact ⟨k + 1, W2, HKL.out, by simp, Lib.hid (by rw [HT.out, HW2.out, HW1.out]; rfl), HBX2.out, HRS2.out, HBB2.out⟩
     case measure => (have := HKL.out; simp [intOf]; omega)
    ·obtain ⟨W2, hW2⟩ : ∃ W2, W2 = Lv.wHi W1 x := ⟨_, rfl⟩
     have HW2 := Lib.hid hW2
     have e2 : W2 = W1 := by rw [hW2]; unfold Lv.wHi; rw [← HZ2.out, if_neg hz]
     have HBX2 := Lib.hid h3b
     rw [← e2] at HBX2
     have HRS2 := Lib.hid hrb
     have HBB2 := Lib.hid hbb
     clear h3b h5b hrb hbb e2 hW2
     go_wp2
     go_roundw
     case rel => exact ⟨k + 1, W2, HKL.out, by simp, Lib.hid (by rw [HT.out, HW2.out, HW1.out]; rfl), HBX2.out, HRS2.out, HBB2.out⟩
     case measure => (have := HKL.out; simp [intOf]; omega)
  ·have hki : ¬ (k : Int) < (L.length : Int) := by omega
   have HW : Hid (W = Lv.sp x0 L) := Lib.hid (by
    have := HT0.out
    rwa [show k = L.length by omega, List.take_length] at this)
   obtain ⟨⟨a0, a1, a2, a3, a4, a5, a6, a7⟩, -⟩ := Lv.eight hbx
   have hz8 : wr.heap[w.heap.size]? = some (.cells (Mf.cs ⟨0, 0, ⟨false, 0, ⟨#[]⟩⟩, ⟨false, 0, ⟨#[]⟩⟩⟩) 38 (0, 0)) := hrs
   obtain ⟨⟨y0, y1, y2, y3, y4, y5, y6, y7⟩, yf⟩ := Lv.eight hz8
   have f0 := yf 0 (by decide)
   have f1 := yf 1 (by decide)
   have f2 := yf 2 (by decide)
   have f3 := yf 3 (by decide)
   have f4 := yf 4 (by decide)
   have f5 := yf 5 (by decide)
   have f6 := yf 6 (by decide)
   have f7 := yf 7 (by decide)
   have hb9 := Mf.below1 (q := w.heap.size) (Mf.below1 (q := w.heap.size) (Mf.below1 (q := w.heap.size) (Mf.below1 (q := w.heap.size) (Mf.below1 (q := w.heap.size) (Mf.below1 (q := w.heap.size) (Mf.below1 (q := w.heap.size) (Mf.below1 (q := w.heap.size) hB (Nat.le_refl _) 0 (.int .i64 W.id)) (Nat.le_refl _) 1 (.int .i64 W.lv)) (Nat.le_refl _) 2 (.bool W.lo.null)) (Nat.le_refl _) 3 (.int .i64 W.lo.n)) (Nat.le_refl _) 4 (.string W.lo.s)) (Nat.le_refl _) 5 (.bool W.hi.null)) (Nat.le_refl _) 6 (.int .i64 W.hi.n)) (Nat.le_refl _) 7 (.string W.hi.s)
   have HB9 := Lib.hid hb9
   simp only [Nat.zero_add] at a0 a1 a2 a3 a4 a5 a6 a7 y0 y1 y2 y3 y4 y5 y6 y7
   clear hk hkl hbx hrs hB hz8 yf hb9
   go_wp2
   (try simp only [Exit.inBlock, Exit.then])
   refine bodyPost_ret (v := .agg (Mf.cs W)) ?_ rfl ⟨by rw [HW.out], HB9.out⟩
   rw [Lv.results_cell rfl]
   go_simp
end
end Go.Proofs.Ytodeodndjkkkbaa
