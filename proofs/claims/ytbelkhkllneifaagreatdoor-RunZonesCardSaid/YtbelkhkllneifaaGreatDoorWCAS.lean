/-
  
  
  
  
  
  
  
  
  
-/
import Derived.Test.YtbelkhkllneifaaGreatDoorWCAR
import Derived.Deep.OwnRows
import Derived.Test.YtbelkhkllneifaaGreatDoorWCAD
import Derived.Test.YtbelkhkllneifaaGreatDoorWCAI
import Derived.BigQuiet
import Derived.Deep.RegionLaw
import Derived.Deep.RegionLawGrows
import Derived.StillTailTactics
import Derived.Deep.RegionHeld3
import Derived.Test.YtbelkhkllneifaaGreatDoorWCAL
import Derived.Test.YtbelkhkllneifaaGreatDoorWCAJ
import Derived.Lib.QuietBelow
import Derived.Test.YtbelkhkllneifaaGreatDoorWCAQ
import Derived.Test.YtbelkhkllneifaaGreatDoorWCAM
import Derived.Test.YtbelkhkllneifaaGreatDoorWCAO
import Derived.Laws.ResultCell
import Derived.Deep.RegionWith
namespace Go.Proofs.YtbelkhkllneifaaGreatDoor
open Go Go.RowKit
structure Sk.Nd where
 b : Nat
 gone : Bool
 rv : Value
 row : List Kn.V
 num : Nat
 h : Nat
def Sk.Nd.d (x : Sk.Nd) : Dd.D := ⟨x.gone, x.row⟩
def Sk.kn (x : Sk.Nd) : Kn.V := Sk.kd x.d
def Sk.Nd.up (x : Sk.Nd) (i : Nat) : Sk.Nd := { x with h := i }
def Sk.pt (o : Option Nat) : Value := .pointer (o.map fun b => ⟨b, 0, none⟩)
def Sk.lnk (i : Nat) : List Sk.Nd → Option Nat
 | [] => none
 | x :: r => if i < x.h then some x.b else Sk.lnk i r
def Sk.Nd.f (x : Sk.Nd) (r : List Sk.Nd) (j : Nat) : Value :=
 if j = 0 then .bool x.gone else if j = 1 then x.rv else if j = 2 then .int .i64 (x.num : Int) else if j - 3 < x.h then Sk.pt (Sk.lnk (j - 3) r) else .pointer none
def Sk.hf (st c b : Value) (N : List Sk.Nd) (j : Nat) : Value := if j < 12 then Sk.pt (Sk.lnk j N) else if j = 12 then st else if j = 13 then c else b
def Sk.lst (i : Nat) : Nat × Nat → List Sk.Nd → Nat × Nat
 | q, [] => q
 | q, x :: r => Sk.lst i (if i < x.h then (x.b, 3) else q) r
theorem Sk.first (i : Nat) (L : List Sk.Nd) : (Sk.lnk i L = none ∧ ∀ c ∈ L, c.h ≤ i) ∨ ∃ A x B, L = A ++ x :: B ∧ (∀ c ∈ A, c.h ≤ i) ∧ i < x.h ∧ Sk.lnk i L = some x.b := by
 induction L with
 | nil => exact .inl ⟨rfl, fun c hc => (by cases hc)⟩
 | cons y L ih =>
   by_cases hy : i < y.h
   ·exact .inr ⟨[], y, L, rfl, fun c hc => (by cases hc), hy, by rw [Sk.lnk, if_pos hy]⟩
   ·rcases ih with ⟨h1, h2⟩ | ⟨A, x, B, rfl, h2, h3, h4⟩
    ·refine .inl ⟨by rw [Sk.lnk, if_neg hy, h1], fun c hc => ?_⟩
     rcases List.mem_cons.1 hc with rfl | hc
     ·omega
     ·exact h2 c hc
    ·refine .inr ⟨y :: A, x, B, rfl, fun c hc => ?_, h3, by rw [Sk.lnk, if_neg hy, h4]⟩
     rcases List.mem_cons.1 hc with rfl | hc
     ·omega
     ·exact h2 c hc
section
variable {w : World}
end
def Sk.rest (p : Nat) (N : List Sk.Nd) (v : Value) : Nat := match v with
 | .pointer (some a) => if a.block = p then N.length else go a.block N
 | _ => 0
where go (b : Nat) : List Sk.Nd → Nat
 | [] => 0
 | x :: r => if x.b = b then r.length else go b r
end Go.Proofs.YtbelkhkllneifaaGreatDoor

namespace Go.Proofs.YtbelkhkllneifaaGreatDoor
open Go Go.RowKit
def Sk.ve (v : Kn.V) : List Value := [.bool v.null, .int .i64 v.n, .string v.s]
theorem Sk.ve_len (v : Kn.V) : (Sk.ve v).length = 3 := rfl
theorem Sk.ve_one (v : Kn.V) : ∀ u ∈ Sk.ve v, u.oneCell' = true := fun u hu => by
 simp only [Sk.ve, List.mem_cons, List.not_mem_nil, or_false] at hu
 rcases hu with rfl | rfl | rfl <;> rfl
def Sk.In (w : World) (v : Value) (l : List Kn.V) : Prop := ∃ a c, v = .slice a l.length c ∧ (∀ x ∈ l, Kn.Z x) ∧ l.length ≤ 4398046511104 ∧ ((a = none ∧ c = 0 ∧ l = []) ∨ ∃ b o, a = some ⟨b, o, none⟩ ∧ b < w.heap.size ∧ ∀ i x, l[i]? = some x → Kn.At w b (o + i * 3) x)
theorem Sk.In.later {w w' : World} {v : Value} {l : List Kn.V} (h : Sk.In w v l) (g : Below w.heap.size w w') : Sk.In w' v l := by
 obtain ⟨a, c, hv, hz, hl, h⟩ := h
 refine ⟨a, c, hv, hz, hl, ?_⟩
 rcases h with h | ⟨b, o, ha, hb, h⟩
 ·exact .inl h
 ·exact .inr ⟨b, o, ha, Nat.lt_of_lt_of_le hb g.size, fun i x hx => (h i x hx).later g⟩
abbrev Sk.Rw (base : Nat) (w : World) (v : Value) (l : List Kn.V) : Prop := Dk.Own 33 3 Sk.ve base w v l
set_option maxHeartbeats 1000000 in
set_option maxRecDepth 100000 in
theorem Sk.clone_c {w : World} {v : Value} {l : List Kn.V} (h : Sk.In w v l) :
 Calls Tryz.prog 53 #[v] w fun e w' => ∃ u, e = .returned u ∧ Sk.Rw w.heap.size w' u l ∧ Below w.heap.size w w' := by
 obtain ⟨a, c, rfl, _, hl, h⟩ := h
 rcases h with ⟨rfl, rfl, rfl⟩ | ⟨b, o, rfl, hb, h⟩
 ·simp only [List.length_nil]
  have he : ∀ w : World, (binOp .eql 39 (.slice none 0 0) (.slice none 0 0)).run Tryz.prog w = .ok (.bool true) w := fun _ => rfl
  go_enter Tryz.func53, Tryz.ntmps53
  go_wp2
  go_ret
  exact ⟨_, rfl, Dk.Own.nil _ _, Below.refl _ _⟩
 ·obtain ⟨w1, hw1⟩ : ∃ w1, w1 = w.alloc (.cells #[] 33) := ⟨_, rfl⟩
  have hb1 : Below w.heap.size w w1 := by rw [hw1]; exact (Below.refl _ w).alloc (Nat.le_refl _) _
  have ho : Sk.Rw w.heap.size w1 (.slice (some ⟨w.heap.size, 0, none⟩) 0 0) [] :=
   ⟨rfl, .inr ⟨w.heap.size, 0, #[], rfl, Nat.le_refl _, by rw [hw1]; exact heap_alloc_new w _, Nat.le_refl _, by decide, rfl, rfl⟩⟩
  have hsrc : Dk.Src Sk.ve w1 (.slice (some ⟨b, o, none⟩) l.length c) l := .inr ⟨_, c, rfl, Dk.src_cells Sk.ve_len (by decide) fun i j x hx hj => by
   have hc := (h i x hx).later hb1
   rcases (by omega : j = 0 ∨ j = 1 ∨ j = 2) with rfl | rfl | rfl
   ·exact hc.c0
   ·exact hc.c1
   ·exact hc.c2⟩
  have HO := Lib.hid ho
  have HS := Lib.hid hsrc
  have HL : Hid (w.heap.size ≤ w1.heap.size ∧ l.length ≤ 4398046511104) := Lib.hid ⟨hb1.size, hl⟩
  have HF : Hid (∀ v' w', Ty.Grew w1 w' (.slice (some ⟨w.heap.size, 0, none⟩) 0 0) v' → Below w.heap.size w w') := Lib.hid fun v' w' g => hb1.trans (g.below hb1.size ho.base_le)
  have he : ∀ w : World, (binOp .eql 39 (.slice (some ⟨b, o, none⟩) l.length c) (.slice none 0 0)).run Tryz.prog w = .ok (.bool false) w := fun _ => rfl
  clear h hsrc ho hb hl hb1
  go_enter Tryz.func53, Tryz.ntmps53
  go_wp2_with (
   at_builtin
   rw [← hw1]
   refine Dk.wpList_append 39 _ 32 Tryz.underlying39 Cl.infoV rfl (by decide) Sk.ve_len Sk.ve_one l HO.out HL.out.1 (by have := HL.out.2; simp; omega) (by have := HL.out.2; simp; omega) HS.out _ _ rfl rfl rfl rfl ?_
   intro v' w' h1 h2
   obtain ⟨av, nv, cv, hv⟩ : ∃ a n c, v' = .slice a n c := by
    rcases h1.form with ⟨e, _⟩ | ⟨g, c, e, _⟩
    ·exact ⟨none, 0, 0, e⟩
    ·exact ⟨_, _, c, e⟩
   have H1 := Lib.hid h1
   have H2 := Lib.hid h2
   clear h1 h2
   subst hv)
  go_ret
  exact ⟨_, rfl, H1.out, HF.out _ _ H2.out⟩
theorem Sk.results_cell {fn : Func} {p : Tmp} {ty : TypeId} (h : fn.results = #[.cell p ty]) (tmps : Array Value) (P : Program) (w : World) :
 (results fn tmps).run P w = ((asAddr (tmps.getD p undef)).run P w).andThen fun a w1 => (loadVar ty a).run P w1 := by
 simp only [results, h]
 simp [Sem.run_bind, Result.andThen]
theorem Sk.box2 {w : World} {x y z u : Value} {t t' : TypeId} {wb : World} (hw : wb = (w.alloc (.cells #[x, y] t)).alloc (.cells #[z, u] t')) :
 Below w.heap.size w wb ∧ wb.heap.size = w.heap.size + 2 ∧ (∀ W, Below wb.heap.size wb W → (W.cell? ⟨w.heap.size, 0, none⟩ = some x ∧ W.cell? ⟨w.heap.size, 1, none⟩ = some y) ∧ W.heap[w.heap.size + 1]? = some (.cells #[z, u] t' (0, 0))) := by
 have h1 : Below w.heap.size w wb := by rw [hw]; exact ((Below.refl _ w).alloc (Nat.le_refl _) _).alloc (by simp) _
 have h2 : wb.heap.size = w.heap.size + 2 := by rw [hw]; simp
 have h3 : wb.heap[w.heap.size]? = some (.cells #[x, y] t (0, 0)) := by
  rw [hw]
  exact (((Below.refl _ (w.alloc (.cells #[x, y] t))).alloc (Nat.le_refl _) _).block w.heap.size (by simp)).trans (heap_alloc_new w _)
 have h4 : wb.heap[w.heap.size + 1]? = some (.cells #[z, u] t' (0, 0)) := by
  rw [hw]
  have := heap_alloc_new (w.alloc (.cells #[x, y] t)) (.cells #[z, u] t')
  rwa [World.size_alloc] at this
 refine ⟨h1, h2, fun W g => ?_⟩
 have a3 := (g.block w.heap.size (by omega)).trans h3
 have a4 := (g.block (w.heap.size + 1) (by omega)).trans h4
 exact ⟨⟨by rw [cell_of_row W _ _ _ _ _ a3]; rfl, by rw [cell_of_row W _ _ _ _ _ a3]; rfl⟩, a4⟩
theorem Sk.Rw.put {base q i : Nat} {w : World} {v u : Value} {l : List Kn.V} (h : Sk.Rw base w v l) (hq : q < base) : Sk.Rw base (w.setCell ⟨q, i, none⟩ u) v l :=
 h.same fun b hb => Below.heap_setCell _ _ _ _ (by have := h.base_le b hb; show b ≠ q; omega)
theorem Sk.Rw.mono {base base' : Nat} {w : World} {v : Value} {l : List Kn.V} (h : Sk.Rw base w v l) (hb : base' ≤ base) : Sk.Rw base' w v l := by
 refine ⟨h.1, ?_⟩
 rcases h.2 with hn | ⟨g, cap, cur, e1, hbg, rest⟩
 ·exact .inl hn
 ·exact .inr ⟨g, cap, cur, e1, Nat.le_trans hb hbg, rest⟩
theorem Sk.put2 {B q : Nat} {w w1 : World} (g : Below B w w1) (hq : B ≤ q) (x y : Value) : Below B w ((w1.setCell ⟨q, 0, none⟩ x).setCell ⟨q, 1, none⟩ y) :=
 (g.setCell (p := ⟨q, 0, none⟩) hq x).setCell (p := ⟨q, 1, none⟩) hq y
end Go.Proofs.YtbelkhkllneifaaGreatDoor

namespace Go.Proofs.YtbelkhkllneifaaGreatDoor
open Go Go.RowKit
set_option maxHeartbeats 2000000 in
set_option maxRecDepth 100000 in
theorem Rn.given_c {w : World} (gn : Bool) {v : Value} {l : List Kn.V} (h : Sk.In w v l) :
 Calls Tryz.prog 44 #[.agg #[.bool gn, v]] w fun e w' => ∃ u, e = .returned (.agg #[.bool gn, u]) ∧ Sk.Rw w.heap.size w' u l ∧ Below w.heap.size w w' := by
 obtain ⟨a, c, hv, _⟩ := id h
 obtain ⟨wb, hwb⟩ : ∃ wb, wb = (w.alloc (.cells #[.bool gn, .slice a l.length c] 41)).alloc (.cells #[.bool false, .slice none 0 0] 41) := ⟨_, rfl⟩
 obtain ⟨hb, hs, hc⟩ := Sk.box2 hwb
 have cc : Calls Tryz.prog 53 #[.slice a l.length c] wb.drew _ := Sk.clone_c (w := wb.drew) (by rw [← hv]; exact h.later hb.drew)
 have CC := Lib.hid cc
 have HC := Lib.hid hc
 have HS : Hid (wb.heap.size = w.heap.size + 2 ∧ Below w.heap.size w wb) := Lib.hid ⟨hs, hb⟩
 obtain ⟨⟨t0, t1⟩, t2⟩ := hc wb.drew (Below.refl _ _).drew
 have z0 : wb.drew.cell? ⟨w.heap.size + 1, 0, none⟩ = some (.bool false) := by rw [cell_of_row _ _ _ _ _ _ t2]; rfl
 have z1 : wb.drew.cell? ⟨w.heap.size + 1, 1, none⟩ = some (.slice none 0 0) := by rw [cell_of_row _ _ _ _ _ _ t2]; rfl
 have f0 := frozen_of_row _ _ 0 _ _ t2
 have f1 := frozen_of_row _ _ 1 _ _ t2
 rw [hv]
 clear h hv cc hc hs hb t2
 go_enter Tryz.func44, Tryz.ntmps44
 go_wp2_with fail
 rw [← hwb]
 clear hwb
 go_region_law (first
  | (go_simp; go_at_call 53; (with_reducible refine CC.out.mono ?_); rintro e w1 ⟨u, rfl, hu, g1⟩
     obtain ⟨av, nv, cv, rfl⟩ : ∃ a n c, u = .slice a n c := by
      rcases hu.form with ⟨e, _⟩ | ⟨g, c, e, _⟩
      ·exact ⟨none, 0, 0, e⟩
      ·exact ⟨_, _, c, e⟩
     have HU := Lib.hid hu
     have HG : Hid (Below wb.heap.size wb w1) := Lib.hid ((Below.refl _ wb).drew.trans g1)
     have HC1 := HC.out w1 HG.out
     have z0 : w1.cell? ⟨w.heap.size + 1, 0, none⟩ = some (.bool false) := by rw [cell_of_row _ _ _ _ _ _ HC1.2]; rfl
     have z1 : w1.cell? ⟨w.heap.size + 1, 1, none⟩ = some (.slice none 0 0) := by rw [cell_of_row _ _ _ _ _ _ HC1.2]; rfl
     have t0 := HC1.1.1
     have t1 := HC1.1.2
     have f0 := frozen_of_row _ _ 0 _ _ HC1.2
     have f1 := frozen_of_row _ _ 1 _ _ HC1.2
     clear HC1 hu g1))
 all_goals
  have HE : Hid (Sk.Rw w.heap.size ((w1.setCell ⟨w.heap.size + 1, 0, none⟩ (.bool gn)).setCell ⟨w.heap.size + 1, 1, none⟩ (.slice av nv cv)) (.slice av nv cv) l ∧ Below w.heap.size w ((w1.setCell ⟨w.heap.size + 1, 0, none⟩ (.bool gn)).setCell ⟨w.heap.size + 1, 1, none⟩ (.slice av nv cv))) := Lib.hid (by
   have hs := HS.out.1
   have hu : Sk.Rw wb.heap.size w1 (.slice av nv cv) l := HU.out
   exact ⟨((hu.put (by omega)).put (by omega)).mono (by omega), Sk.put2 (HS.out.2.trans (HG.out.mono (by omega))) (by omega) _ _⟩)
  clear CC HC HU HG HS
  go_wp2
  (try simp only [Exit.inBlock, Exit.then])
  refine bodyPost_ret (v := .agg #[.bool gn, .slice av nv cv]) ?_ rfl ⟨_, rfl, HE.out⟩
  rw [Sk.results_cell rfl]
  go_simp
end Go.Proofs.YtbelkhkllneifaaGreatDoor

namespace Go.Proofs.YtbelkhkllneifaaGreatDoor
open Go.RowKit
def Rn.il {α : Type} (p : Dd.D → Bool) (f : Nat → Dd.D → α) : Nat → List Dd.D → List α
 | _, [] => []
 | k, d :: r => if p d = true then f k d :: Rn.il p f (k + 1) r else Rn.il p f (k + 1) r
theorem Rn.il_snoc {α : Type} (p : Dd.D → Bool) (f : Nat → Dd.D → α) (d : Dd.D) : ∀ (k : Nat) (A : List Dd.D), Rn.il p f k (A ++ [d]) = Rn.il p f k A ++ if p d = true then [f (k + A.length) d] else []
 | k, [] => by
   simp only [List.nil_append, Rn.il, List.length_nil, Nat.add_zero]
 | k, x :: A => by
   have ih := Rn.il_snoc p f d (k + 1) A
   simp only [List.cons_append, Rn.il, List.length_cons]
   rw [ih, show k + 1 + A.length = k + (A.length + 1) by omega]
   split <;> simp
theorem Rn.il_take {α : Type} {p : Dd.D → Bool} {f : Nat → Dd.D → α} {L : List Dd.D} {k : Nat} {d : Dd.D} (h : L[k]? = some d) : Rn.il p f 0 (L.take (k + 1)) = Rn.il p f 0 (L.take k) ++ if p d = true then [f k d] else [] := by
 obtain ⟨hk, rfl⟩ := List.getElem?_eq_some_iff.1 h
 rw [List.take_succ_eq_append_getElem hk, Rn.il_snoc, List.length_take, Nat.min_eq_left (by omega), Nat.zero_add]
theorem Rn.il_len {α : Type} (p : Dd.D → Bool) (f : Nat → Dd.D → α) : ∀ (k : Nat) (L : List Dd.D), (Rn.il p f k L).length = (L.filter p).length
 | _, [] => rfl
 | k, d :: L => by
   have ih := Rn.il_len p f (k + 1) L
   unfold Rn.il
   rw [List.filter_cons]
   split
   ·rw [List.length_cons, List.length_cons, ih]
   ·exact ih
theorem Rn.il_at {α : Type} (p : Dd.D → Bool) (f : Nat → Dd.D → α) : ∀ (o : Nat) (L : List Dd.D) (k : Nat) (d : Dd.D), (L.filter p)[k]? = some d → ∃ j, L[j]? = some d ∧ (Rn.il p f o L)[k]? = some (f (o + j) d)
 | _, [], k, d, h => by simp at h
 | o, x :: L, k, d, h => by
   unfold Rn.il
   rw [List.filter_cons] at h
   by_cases hp : p x = true
   ·rw [if_pos hp] at h ⊢
    cases k with
    | zero =>
      obtain rfl : x = d := by simpa using h
      exact ⟨0, rfl, rfl⟩
    | succ k =>
      obtain ⟨j, h1, h2⟩ := Rn.il_at p f (o + 1) L k d (by simpa using h)
      exact ⟨j + 1, by simpa using h1, by rw [List.getElem?_cons_succ, h2]; congr 2; omega⟩
   ·rw [if_neg hp] at h ⊢
    obtain ⟨j, h1, h2⟩ := Rn.il_at p f (o + 1) L k d h
    exact ⟨j + 1, by simpa using h1, by rw [h2]; congr 2; omega⟩
def Rn.e2 (x : Bool × (Option Addr × Nat × Nat)) : List Value := [.bool x.1, Bk.sv x.2]
theorem Rn.e2_len (x : Bool × (Option Addr × Nat × Nat)) : (Rn.e2 x).length = 2 := rfl
theorem Rn.e2_one (x : Bool × (Option Addr × Nat × Nat)) : ∀ u ∈ Rn.e2 x, u.oneCell' = true := fun u hu => by
 simp only [Rn.e2, List.mem_cons, List.not_mem_nil, or_false] at hu
 rcases hu with rfl | rfl <;> rfl
theorem Rn.infoD : (Tryz.prog.info? 41).map (fun i => (i.zero, i.size, i.bytes)) = some (some (.agg #[.bool false, .slice none 0 0]), 2, 32) := by kernel_rfl
def Rn.fd (R : Nat → Option Addr × Nat × Nat) (k : Nat) (d : Dd.D) : Bool × (Option Addr × Nat × Nat) := (d.gone, R k)
theorem Rn.own_ds {base : Nat} {w : World} {u : Value} {L : List Dd.D} {R : Nat → Option Addr × Nat × Nat} {p : Dd.D → Bool} (h : Dk.Own 41 2 Rn.e2 base w u (Rn.il p (Rn.fd R) 0 L)) (hr : ∀ i x, L[i]? = some x → Kn.Vals w (Bk.sv (R i)) x.row) : Bk.Ds w u (L.filter p) := by
 have hl := Rn.il_len p (Rn.fd R) 0 L
 rcases h.form with ⟨rfl, h0⟩ | ⟨g, c, rfl, h1, h2, _, h4⟩
 ·rw [h0] at hl
  have : L.filter p = [] := List.eq_nil_of_length_eq_zero hl.symm
  rw [this]
  exact ⟨none, 0, rfl, Nat.le_refl _, by omega, .inl rfl⟩
 ·refine ⟨_, c, by rw [hl], by rw [← hl]; exact h1, by unfold maxLen at h2; omega, .inr ⟨g, 0, rfl, h4, fun i x hx => ?_⟩⟩
  obtain ⟨j, hj, hi⟩ := Rn.il_at p (Rn.fd R) 0 L i x hx
  have c0 := h.cell Rn.e2_len rfl hi (j := 0) (by decide)
  have c1 := h.cell Rn.e2_len rfl hi (j := 1) (by decide)
  rw [Nat.zero_add]
  rw [Nat.zero_add] at c0 c1
  exact ⟨Bk.sv (R j), c0, c1, hr j x hj⟩
theorem Rn.row_at {w : World} {a : Option Addr} {n c : Nat} {vs : List Kn.V} (h : Kn.Vals w (.slice a n c) vs) {i : Nat} {x : Kn.V} (hx : vs[i]? = some x) : n = vs.length ∧ ∃ b o, a = some ⟨b, o, none⟩ ∧ b < w.heap.size ∧ Kn.At w b (o + i * 3) x := by
 obtain ⟨a', c', e, h⟩ := h
 simp only [Value.slice.injEq] at e
 obtain ⟨rfl, rfl, _⟩ := e
 rcases h with rfl | ⟨b, o, rfl, hb, _, h⟩
 ·simp at hx
 ·exact ⟨rfl, b, o, rfl, hb, h i x hx⟩
theorem Rn.key_at {d : Dd.D} (h : d.row ≠ []) : d.row[0]? = some (Bk.key d) := by
 unfold Bk.key
 cases hr : d.row with
 | nil => exact absurd hr h
 | cons x l => rfl
set_option maxHeartbeats 4000000 in
set_option maxRecDepth 100000 in
theorem Rn.rin_c (v : Value) (L : List Dd.D) (r : Kn.R) (w : World) (hv : Bk.Ds w v L) (hz : Bk.Zs L) (hk : ∀ d ∈ L, d.row ≠ []) (hl : Kn.Z r.lo) (hh : Kn.Z r.hi) (h200 : L.length ≤ 1048576) :
 Calls Tryz.prog 20 #[v, r.val] w fun e w' => ∃ u, e = .returned u ∧ Bk.Ds w' u (Rn.in_ L r) ∧ Below w.heap.size w w' := by
 obtain ⟨R, hr, hrv⟩ := hv.dr
 have HRV := Lib.hid hrv
 have HZ := Lib.hid hz
 have HKE := Lib.hid hk
 have H2 := Lib.hid h200
 obtain ⟨a, c, rfl, h⟩ := hr
 have HH := Lib.hid h
 have CI := Lib.hid fun (k : Kn.V) (hk : Kn.Z k) (wz : World) => Kn.rin_c r k hk hl hh wz
 unfold Rn.in_
 have HR0 := Lib.hid (Kn.RAt.new w r 43)
 have HB0 : Hid (Below w.heap.size w (w.alloc (.cells #[.bool r.from_, .bool r.til, .bool r.lo.null, .int .i64 r.lo.n, .string r.lo.s, .bool r.hi.null, .int .i64 r.hi.n, .string r.hi.s] 43))) := Lib.hid ((Below.refl _ _).alloc (Nat.le_refl _) _)
 have hsz : (w.alloc (.cells #[.bool r.from_, .bool r.til, .bool r.lo.null, .int .i64 r.lo.n, .string r.lo.s, .bool r.hi.null, .int .i64 r.hi.n, .string r.hi.s] 43)).heap.size = w.heap.size + 1 := World.size_alloc ..
 obtain ⟨P, hP⟩ : ∃ P : Dd.D → Bool, P = fun d => Kn.inR r (Bk.key d) := ⟨_, rfl⟩
 rw [← hP]
 have HP := Lib.hid hP
 have HSZ := Lib.hid hsz
 clear hv hrv hz hk h200 h hP hl hh hsz
 go_enter Tryz.func20, Tryz.ntmps20
 go_wp2_with fail
 obtain ⟨q, hq⟩ : ∃ q, q = w.heap.size := ⟨_, rfl⟩
 rw [← hq] at HR0 ⊢
 generalize w.alloc _ = w1 at HR0 HB0 HSZ ⊢
 have HQ : Hid (q < w1.heap.size) := Lib.hid (by have := HSZ.out; omega)
 clear hq HSZ
 go_loopw [5, 6] (fun out i wr => ∃ k : Nat, k ≤ L.length ∧ i = .int .i64 k ∧ Dk.Own 41 2 Rn.e2 w1.heap.size wr out (Rn.il P (Rn.fd R) 0 (L.take k)) ∧ Below w1.heap.size w1 wr) (fun _ i _ => L.length - (intOf i).toNat)
 case atStart => exact ⟨0, Nat.zero_le _, rfl, Dk.Own.nil _ _, Below.refl _ _⟩
 case round =>
  obtain ⟨k, hk, rfl, hO, hB⟩ := hrel
  have HO := Lib.hid hO
  have HB := Lib.hid hB
  clear hO hB
  by_cases hkl : k < L.length
  ·rcases HH.out with rfl | ⟨b, o, rfl, hlt, hc⟩
   ·simp at hkl
   ·have hx := List.getElem?_eq_getElem hkl
    generalize L[k] = d at hx
    obtain ⟨c0, c1⟩ := hc k d hx
    have HBW := Lib.hid (HB0.out.trans (HB.out.mono HB0.out.size))
    have c0 := (HBW.out.cell (p := ⟨b, o + k * 2, none⟩) hlt).trans c0
    have c1 := (HBW.out.cell (p := ⟨b, o + k * 2 + 1, none⟩) hlt).trans c1
    have hv9 := (HRV.out k d hx).later HBW.out
    have hne := HKE.out d (List.mem_of_getElem? hx)
    have hkey := Rn.key_at hne
    have hzk := HZ.out d (List.mem_of_getElem? hx) _ (List.mem_of_getElem? hkey)
    have cI := CI.out (Bk.key d) hzk
    have HPD : Hid (P d = Kn.inR r (Bk.key d)) := Lib.hid (by rw [HP.out])
    rw [← HPD.out] at cI
    have HT := Lib.hid (Rn.il_take (p := P) (f := Rn.fd R) hx)
    have HML : Hid ((Rn.il P (Rn.fd R) 0 (L.take k)).length ≤ 1048576) := Lib.hid (by
     rw [Rn.il_len]
     refine Nat.le_trans (List.length_filter_le ..) ?_
     rw [List.length_take]
     have := H2.out
     omega)
    generalize Rn.il P (Rn.fd R) 0 (L.take k) = M at HO HT HML
    rw [show Rn.fd R k d = (d.gone, R k) from rfl] at HT
    generalize R k = rk at c1 hv9 HT
    obtain ⟨ra, rn, rc⟩ := rk
    simp only [Bk.sv] at c1 hv9
    generalize Bk.key d = x at hkey hzk cI
    obtain ⟨rfl, b2, o2, rfl, hb2, hat⟩ := Rn.row_at hv9 hkey
    have e0 := hat.c0
    have e1 := hat.c1
    have e2 := hat.c2
    simp only [Nat.zero_mul, Nat.add_zero] at e0 e1 e2
    have hRt := HR0.out.later HB.out
    have x0 := hRt.c0
    have x1 := hRt.c1
    have x2 := hRt.lo.c0
    have x3 := hRt.lo.c1
    have x4 := hRt.lo.c2
    have x5 := hRt.hi.c0
    have x6 := hRt.hi.c1
    have x7 := hRt.hi.c2
    simp only [Nat.reduceAdd] at x3 x4 x6 x7
    have dk : (k : Int) < (L.length : Int) := by omega
    have dk0 : (0 : Int) ≤ (k : Int) := by omega
    have dk7 : (k : Int) ≤ 1048576 := by have := H2.out; omega
    have hrl : (0 : Int) < (d.row.length : Int) := by have := List.length_pos_iff.2 hne; omega
    have HK := Lib.hid hkl
    have HX2 := Lib.hid (And.intro c0 c1)
    have HLT : Hid (b < wr.heap.size) := Lib.hid (Nat.lt_of_lt_of_le hlt HBW.out.size)
    obtain ⟨rf, rt, rlo, rhi⟩ := r
    simp only at x0 x1 x2 x3 x4 x5 x6 x7 cI
    unfold Kn.R.val Kn.V.val at cI
    simp only at cI
    have X0 := fun d os => cell_regrown x0 d os
    have X1 := fun d os => cell_regrown x1 d os
    have X2 := fun d os => cell_regrown x2 d os
    have X3 := fun d os => cell_regrown x3 d os
    have X4 := fun d os => cell_regrown x4 d os
    have X5 := fun d os => cell_regrown x5 d os
    have X6 := fun d os => cell_regrown x6 d os
    have X7 := fun d os => cell_regrown x7 d os
    have C1 := fun d os => cell_regrown c1 d os
    have E0 := fun d os => cell_regrown e0 d os
    have E1 := fun d os => cell_regrown e1 d os
    have E2 := fun d os => cell_regrown e2 d os
    have CA : Hid (∀ p : Regrown, _) := Lib.hid fun p : Regrown => Calls.regrown_of (d := p.d) (os := p.os) (w := wr) (cI _)
    clear hc hx hv9 hne hkey hzk cI hat hRt x0 x1 x2 x3 x4 x5 x6 x7 c0 c1 e0 e1 e2 hkl hk hlt hb2
    generalize P d = pd at CA HT HPD
    generalize d.row.length = rl at C1 hrl HT HX2
    generalize d.gone = gd at HT HX2
    go_upto_region 5 with (fail)
    cases pd
    ·have HT2 := Lib.hid (HT.out.trans (by rw [if_neg (by decide), List.append_nil]))
     refine wp_region_quiet_below (by kernel_rfl) (by kernel_rfl) ?_
     repeat (go_big_quiet_step (first | with_reducible exact CA.out _))
     refine wpQuiet_nil ?_
     intro w5 hw'
     have hg := Bk.below_reg hw'
     have HB5 := Lib.hid (HB.out.trans (hg.mono HB.out.size))
     have HO5 := Lib.hid (HO.out.kept hg)
     clear hw' hg
     go_wp2
     go_roundw
     case rel => exact ⟨k + 1, HK.out, by simp, by rw [HT2.out]; exact HO5.out, HB5.out⟩
     case measure => (have := HK.out; simp [intOf]; omega)
    ·have HT2 := Lib.hid (HT.out.trans (by rw [if_pos rfl]))
     refine wp_region_quiet_below (by kernel_rfl) (by kernel_rfl) ?_
     repeat (go_big_quiet_step (first | with_reducible exact CA.out _))
     refine wpQuiet_nil ?_
     intro w5 hw'
     have hg := Bk.below_reg hw'
     have HB5 := Lib.hid (HB.out.trans (hg.mono HB.out.size))
     have hO5 := HO.out.kept hg
     have c0 := (hg.cell (p := ⟨b, o + k * 2, none⟩) HLT.out).trans HX2.out.1
     have c1 := (hg.cell (p := ⟨b, o + k * 2 + 1, none⟩) HLT.out).trans HX2.out.2
     have hbs : w1.heap.size ≤ w5.heap.size := HB5.out.size
     have hml := HML.out
     clear hw' hg
     go_wp2_with (at_builtin; refine Dk.wpList_append1 23 _ 32 Tryz.underlying23 Rn.infoD rfl (by decide) Rn.e2_len Rn.e2_one (gd, (some ⟨b2, o2, none⟩, rl, rc)) hO5 hbs (by omega) (by omega) _ rfl _ rfl (.tmp 22) (.tmp 27) (by rfl) (by rfl) (by rfl) (by rfl) ?_; intro v6 w6 h6 g6)
     have H6 := Lib.hid h6
     have HB6 := Lib.hid (Dk.own_below HB5.out hO5 g6)
     clear h6 g6 hO5 hbs hml
     go_roundw
     case rel => exact ⟨k + 1, HK.out, by simp, by rw [HT2.out]; exact H6.out, HB6.out⟩
     case measure => (have := HK.out; simp [intOf]; omega)
  ·obtain rfl : k = L.length := by omega
   have dk : ¬ (L.length : Int) < (L.length : Int) := by omega
   rw [List.take_length] at HO
   clear hk hkl
   go_wp2
   go_ret
   exact ⟨_, rfl, Rn.own_ds HO.out (fun i x hx => (HRV.out i x hx).later (HB0.out.trans (HB.out.mono HB0.out.size))), HB0.out.trans (HB.out.mono HB0.out.size)⟩
end Go.Proofs.YtbelkhkllneifaaGreatDoor

namespace Go.Proofs.YtbelkhkllneifaaGreatDoor
open Go Go.RowKit
set_option maxHeartbeats 2000000 in
set_option maxRecDepth 100000 in
theorem Rn.seek1_c {w : World} {a : Option Addr} {n c : Nat} {d : Dd.D} (g : Bool) (k : Kn.V) (h : Kn.Vals w (.slice a n c) d.row) (hne : d.row ≠ []) :
 Calls Tryz.prog 80 #[.agg #[.bool g, .slice a n c], k.val] w fun e w' => e = .returned (.int .i64 (Kn.cmp (Bk.key d) k)) ∧ Below w.heap.size w w' := by
 have hkey := Rn.key_at hne
 generalize Bk.key d = x at hkey ⊢
 obtain ⟨rfl, b, o, rfl, hb, hat⟩ := Rn.row_at h hkey
 simp only [Nat.zero_mul, Nat.add_zero] at hat
 obtain ⟨wb, hwb⟩ : ∃ wb, wb = (w.alloc (.cells #[.bool g, .slice (some ⟨b, o, none⟩) d.row.length c] 41)).alloc (.cells #[.bool k.null, .int .i64 k.n, .string k.s] 33) := ⟨_, rfl⟩
 have hB : Below w.heap.size w wb := by rw [hwb]; exact Kn.box2 _ _ _
 have x1 : wb.cell? ⟨w.heap.size, 1, none⟩ = some (.slice (some ⟨b, o, none⟩) d.row.length c) := by
  rw [hwb]
  exact (((Below.refl _ _).alloc (Nat.le_refl _) _).cell (p := ⟨w.heap.size, 1, none⟩) (by simp)).trans (Kn.cell_new w _ _ 1 _ rfl)
 have hk : Kn.At wb (w.heap.size + 1) 0 k := by
  rw [hwb]
  have := Kn.At.new (w.alloc (.cells #[.bool g, .slice (some ⟨b, o, none⟩) d.row.length c] 41)) k 33
  rwa [World.size_alloc] at this
 have e0 := (hat.later hB).c0
 have e1 := (hat.later hB).c1
 have e2 := (hat.later hB).c2
 have y0 := hk.c0
 have y1 := hk.c1
 have y2 := hk.c2
 simp only [Nat.zero_add] at y1 y2
 have X1 := fun d os => cell_regrown x1 d os
 have E0 := fun d os => cell_regrown e0 d os
 have E1 := fun d os => cell_regrown e1 d os
 have E2 := fun d os => cell_regrown e2 d os
 have Y0 := fun d os => cell_regrown y0 d os
 have Y1 := fun d os => cell_regrown y1 d os
 have Y2 := fun d os => cell_regrown y2 d os
 have cC := Kn.compare_c x k
 generalize Kn.cmp x k = z at cC ⊢
 unfold Kn.V.val at cC ⊢
 have CA : Hid (∀ p : Regrown, _) := Lib.hid fun p : Regrown => Calls.regrown_of (d := p.d) (os := p.os) (w := wb) (cC _)
 have hrl : (0 : Int) < (d.row.length : Int) := by have := List.length_pos_iff.2 hne; omega
 have HB := Lib.hid hB
 generalize d.row.length = rl at X1 hrl hwb ⊢
 clear hkey h hat hk x1 e0 e1 e2 y0 y1 y2 cC hB hb hne
 go_enter Tryz.func80, Tryz.ntmps80
 go_upto_region 1 with (fail)
 rw [← hwb]
 clear hwb
 refine wp_region_quiet_below (by kernel_rfl) (by kernel_rfl) ?_
 repeat (go_big_quiet_step (first | with_reducible exact CA.out _))
 refine wpQuiet_nil ?_
 intro w5 hw'
 have HB5 := Lib.hid (HB.out.trans ((Bk.below_reg hw').mono HB.out.size))
 clear hw'
 go_wp2
 go_ret
 exact ⟨rfl, HB5.out⟩
theorem Rn.th_at {L : List Dd.D} {k : Kn.V} {d : Dd.D} (h : L[Rn.at_ L k]? = some d) : Rn.th L k = (Kn.cmp (Bk.key d) k == 0) := by
 unfold Rn.th
 rw [h]
theorem Rn.th_end {L : List Dd.D} {k : Kn.V} (h : Rn.at_ L k = L.length) : Rn.th L k = false := by
 unfold Rn.th
 rw [h, List.getElem?_eq_none (Nat.le_refl _)]
set_option maxHeartbeats 4000000 in
set_option maxRecDepth 100000 in
theorem Rn.search_c (v : Value) (L : List Dd.D) (k : Kn.V) (w : World) (hv : Bk.Ds w v L) (hs : Bk.sorted L = true) (hk : ∀ d ∈ L, d.row ≠ []) (hl : L.length ≤ 1048576) :
 Calls Tryz.prog 79 #[v, k.val, .func (.func 80) #[] #[]] w fun e w' => e = .returned (.tuple #[.int .i64 (Rn.at_ L k : Nat), .bool (Rn.th L k)]) ∧ Below w.heap.size w w' := by
 obtain ⟨a, c, rfl, hlc, hcm, h⟩ := hv
 have HH := Lib.hid h
 have HAL : Hid (Rn.at_ L k ≤ L.length) := Lib.hid (Sk.at_le _ _)
 have HDE := Lib.hid fun (i : Nat) (x : Dd.D) (hx : L[i]? = some x) => Rn.at_dec hs (k := k) hx
 have HTH := Lib.hid fun (d : Dd.D) (h : L[Rn.at_ L k]? = some d) => Rn.th_at h
 have HTE := Lib.hid (Rn.th_end (L := L) (k := k))
 have HKE := Lib.hid hk
 have HC := Lib.hid fun (wz : World) (a : Option Addr) (n c : Nat) (d : Dd.D) (g : Bool) (h : Kn.Vals wz (.slice a n c) d.row) (hne : d.row ≠ []) => Rn.seek1_c g k h hne
 have HL := Lib.hid hl
 obtain ⟨n, hn⟩ : ∃ n, n = L.length := ⟨_, rfl⟩
 have HN := Lib.hid hn
 rw [← hn] at hl HAL HTE hlc ⊢
 generalize Rn.at_ L k = x at HAL HDE HTH HTE ⊢
 generalize Rn.th L k = t at HTH HTE ⊢
 have HK0 := Lib.hid (Kn.At.new w k 33)
 have HB0 : Hid (Below w.heap.size w (w.alloc (.cells #[.bool k.null, .int .i64 k.n, .string k.s] 33))) := Lib.hid ((Below.refl _ _).alloc (Nat.le_refl _) _)
 clear h hs hk hn hlc hcm
 unfold Kn.V.val at HC ⊢
 go_enter Tryz.func79, Tryz.ntmps79
 go_wp2_with fail
 obtain ⟨q, hq⟩ : ∃ q, q = w.heap.size := ⟨_, rfl⟩
 rw [← hq] at HK0 ⊢
 generalize w.alloc _ = w1 at HK0 HB0 ⊢
 clear hq
 go_loopw [9, 10] (fun a b wr => ∃ i j : Nat, i ≤ x ∧ x ≤ j ∧ j ≤ n ∧ a = .int .i64 i ∧ b = .int .i64 j ∧ Below w1.heap.size w1 wr) (fun a b _ => (intOf b).toNat - (intOf a).toNat)
 case atStart => exact ⟨0, n, Nat.zero_le _, HAL.out, Nat.le_refl _, rfl, rfl, Below.refl _ _⟩
 case round =>
  obtain ⟨i, j, hi, hj, hjn, rfl, rfl, hB⟩ := hrel
  have HIJ := Lib.hid (And.intro hi (And.intro hj hjn))
  have HB := Lib.hid hB
  have HBW := Lib.hid (HB0.out.trans (HB.out.mono HB0.out.size))
  have hkw := HK0.out.later HB.out
  have y0 := hkw.c0
  have y1 := hkw.c1
  have y2 := hkw.c2
  simp only [Nat.zero_add] at y1 y2
  have Y0 := fun d os => cell_regrown y0 d os
  have Y1 := fun d os => cell_regrown y1 d os
  have Y2 := fun d os => cell_regrown y2 d os
  clear hB hkw y0 y1 y2
  have hi0 : (0 : Int) ≤ (i : Int) := by omega
  by_cases hl2 : i < j
  ·have hil : (i : Int) < (j : Int) := by omega
   obtain ⟨m, hm⟩ : ∃ m, m = (i + j) / 2 := ⟨_, rfl⟩
   have hm1 : i ≤ m := by omega
   have hm2 : m < j := by omega
   rcases HH.out with h0 | ⟨b, o, rfl, hb, hc⟩
   ·have := HN.out; rw [h0] at this; simp at this; omega
   ·have hx := List.getElem?_eq_getElem (l := L) (i := m) (by rw [← HN.out]; omega)
    generalize L[m]'(by rw [← HN.out]; omega) = d at hx
    obtain ⟨u, c0, c1, hu⟩ := hc m d hx
    have c0 := (HBW.out.cell (p := ⟨b, o + m * 2, none⟩) hb).trans c0
    have c1 := (HBW.out.cell (p := ⟨b, o + m * 2 + 1, none⟩) hb).trans c1
    have hu9 := hu.later HBW.out
    obtain ⟨ua, uc, rfl, -⟩ := hu
    have HD := Lib.hid (HDE.out m d hx)
    have hne := HKE.out d (List.mem_of_getElem? hx)
    have CA : Hid (∀ p : Regrown, _) := Lib.hid fun p : Regrown => Calls.regrown_of (d := p.d) (os := p.os) (w := wr) (HC.out _ ua d.row.length uc d d.gone (hu9.later (below_regrown wr p.d p.os)) hne)
    rw [hm] at c0 c1
    have C0 := fun d os => cell_regrown c0 d os
    have C1 := fun d os => cell_regrown c1 d os
    generalize d.row.length = rl at C1 CA
    generalize d.gone = dg at C0 CA
    generalize Kn.cmp (Bk.key d) k = z at CA HD
    have HM := Lib.hid hm
    have HM1 := Lib.hid hm1
    have HM2 := Lib.hid hm2
    clear hc hx hu9 hne c0 c1 hm hm1 hm2 hi hj hb
    go_upto_region 5 with (fail)
    by_cases hz : z < 0
    ·have HX : Hid (m < x) := Lib.hid (by have := HD.out; rw [decide_eq_true hz] at this; exact of_decide_eq_true this.symm)
     refine wp_region_quiet_below (by kernel_rfl) (by kernel_rfl) ?_
     repeat (go_big_quiet_step (first | with_reducible exact CA.out _))
     refine wpQuiet_nil ?_
     intro w5 hw'
     have HB5 := Lib.hid (HB.out.trans ((Bk.below_reg hw').mono HB.out.size))
     clear hw'
     go_wp2
     go_roundw
     case rel => exact ⟨m + 1, j, HX.out, HIJ.out.2.1, HIJ.out.2.2, by rw [HM.out]; simp, rfl, HB5.out⟩
     case measure => have h1 := HM.out; have h2 := HM1.out; have h3 := HM2.out; simp [intOf]; omega
    ·have HX : Hid (x ≤ m) := Lib.hid (by have := HD.out; rw [decide_eq_false hz] at this; have := of_decide_eq_false this.symm; omega)
     have hz0 : (0 : Int) ≤ z := by omega
     refine wp_region_quiet_below (by kernel_rfl) (by kernel_rfl) ?_
     repeat (go_big_quiet_step (first | with_reducible exact CA.out _))
     refine wpQuiet_nil ?_
     intro w5 hw'
     have HB5 := Lib.hid (HB.out.trans ((Bk.below_reg hw').mono HB.out.size))
     clear hw'
     go_wp2
     go_roundw
     case rel => exact ⟨i, m, HIJ.out.1, HX.out, by have := HM2.out; have := HIJ.out.2.2; omega, rfl, by rw [HM.out]; simp, HB5.out⟩
     case measure => have h1 := HM.out; have h2 := HM1.out; have h3 := HM2.out; simp [intOf]; omega
  ·obtain rfl : i = j := by omega
   obtain rfl : i = x := by omega
   have hil : ¬ (i : Int) < (i : Int) := by omega
   by_cases hin : i < n
   ·have hinI : (i : Int) < (n : Int) := by omega
    rcases HH.out with h0 | ⟨b, o, rfl, hb, hc⟩
    ·have := HN.out; rw [h0] at this; simp at this; omega
    ·have hx := List.getElem?_eq_getElem (l := L) (i := i) (by rw [← HN.out]; omega)
     generalize L[i]'(by rw [← HN.out]; omega) = d at hx
     obtain ⟨u, c0, c1, hu⟩ := hc i d hx
     have c0 := (HBW.out.cell (p := ⟨b, o + i * 2, none⟩) hb).trans c0
     have c1 := (HBW.out.cell (p := ⟨b, o + i * 2 + 1, none⟩) hb).trans c1
     have hu9 := hu.later HBW.out
     obtain ⟨ua, uc, rfl, -⟩ := hu
     have HT := Lib.hid (HTH.out d hx)
     have hne := HKE.out d (List.mem_of_getElem? hx)
     have CA : Hid (∀ p : Regrown, _) := Lib.hid fun p : Regrown => Calls.regrown_of (d := p.d) (os := p.os) (w := wr) (HC.out _ ua d.row.length uc d d.gone (hu9.later (below_regrown wr p.d p.os)) hne)
     have C0 := fun d os => cell_regrown c0 d os
     have C1 := fun d os => cell_regrown c1 d os
     generalize d.row.length = rl at C1 CA
     generalize d.gone = dg at C0 CA
     generalize Kn.cmp (Bk.key d) k = z at CA HT
     clear hc hx hu9 hne c0 c1 hi hj hb hjn hl2 hin
     go_upto_region 8 with (fail)
     refine wp_region_quiet_below (by kernel_rfl) (by kernel_rfl) ?_
     repeat (go_big_quiet_step (first | with_reducible exact CA.out _))
     refine wpQuiet_nil ?_
     intro w5 hw'
     have HB5 := Lib.hid (HB0.out.trans ((HB.out.trans ((Bk.below_reg hw').mono HB.out.size)).mono HB0.out.size))
     clear hw'
     go_wp2
     go_ret2
     exact ⟨by rw [HT.out]; rfl, HB5.out⟩
   ·have hinI : ¬ (i : Int) < (n : Int) := by omega
    have hinJ : (n : Int) ≤ (i : Int) := by omega
    have HT := Lib.hid (HTE.out (by omega))
    clear hi hj hjn hl2 hin
    go_upto_region 8 with (fail)
    refine wp_region_quiet_below (by kernel_rfl) (by kernel_rfl) ?_
    repeat (go_big_quiet_step (fail))
    refine wpQuiet_nil ?_
    intro w5 hw'
    have HB5 := Lib.hid (HB0.out.trans ((HB.out.trans ((Bk.below_reg hw').mono HB.out.size)).mono HB0.out.size))
    clear hw'
    go_wp2
    go_ret2
    exact ⟨by rw [HT.out]; rfl, HB5.out⟩
end Go.Proofs.YtbelkhkllneifaaGreatDoor

namespace Go.Proofs.YtbelkhkllneifaaGreatDoor
open Go Go.RowKit
theorem Rn.has_len {s : List Kn.C} {d : Dd.D} (hl : 1 ≤ s.length) (h : Dd.fitE s d = 0) {i : Nat} (hi : i < s.length) : Bk.has i d = decide (i < d.row.length) := by
 obtain ⟨_, h2, _⟩ := Dd.fitE_0 h
 rw [Bk.cols_len] at h2
 unfold Bk.has
 rw [h2]
 cases hg : d.gone
 ·rw [if_neg (by decide), decide_eq_true hi]; simp
 ·rw [if_pos rfl]
  by_cases h0 : i = 0
  ·subst h0; rw [decide_eq_true (by omega)]; rfl
  ·rw [decide_eq_false (by omega)]
   simp [h0]
set_option maxHeartbeats 4000000 in
set_option maxRecDepth 100000 in
theorem Rn.values_c (v : Value) (L : List Dd.D) (i : Nat) (h8 : L.length ≤ 8) (hi6 : i < 6) (hr : ∀ d ∈ L, Bk.has i d = decide (i < d.row.length)) (w : World) (hv : Bk.Ds w v L) :
 Calls Tryz.prog 117 #[v, .int .i64 (i : Int)] w fun e w' => ∃ u, e = .returned u ∧ Kn.Vals w' u (Bk.col L i) ∧ Below w.heap.size w w' := by
 obtain ⟨a, c, rfl, hlc, hcm, h⟩ := hv
 have HH := Lib.hid h
 have HR := Lib.hid hr
 have H8 := Lib.hid h8
 have HT : Hid (∀ (k : Nat) (d : Dd.D), L[k]? = some d → Bk.col (L.take (k + 1)) i = if Bk.has i d = true then Bk.col (L.take k) i ++ [d.row.getD i Cl.nul] else Bk.col (L.take k) i) := Lib.hid fun k d h => Bk.col_take h
 have HLT : Hid (∀ k, (Bk.col (L.take k) i).length ≤ 8) := Lib.hid fun k => by
  unfold Bk.col
  rw [List.length_map]
  exact Nat.le_trans (List.length_filter_le _ _) (Nat.le_trans (List.length_take_le' _ _) h8)
 clear h hr h8
 have hi0 : (0 : Int) ≤ (i : Int) := by omega
 go_enter Tryz.func117, Tryz.ntmps117
 go_wp2_with fail
 go_loopw [5, 10] (fun u q wr => ∃ k : Nat, k ≤ L.length ∧ q = .int .i64 k ∧ Cl.Own w.heap.size wr u (Bk.col (L.take k) i) ∧ Below w.heap.size w wr) (fun _ q _ => L.length - (intOf q).toNat)
 case atStart => exact ⟨0, Nat.zero_le _, rfl, Cl.Own.nil _ _, Below.refl _ _⟩
 case round =>
  obtain ⟨k, hk, rfl, ho, hg⟩ := hrel
  have HO := Lib.hid ho
  have HG := Lib.hid hg
  clear ho
  by_cases hkl : k < L.length
  ·rcases HH.out with rfl | ⟨b, o, rfl, hlt, hc⟩
   ·simp at hkl
   ·have hx := List.getElem?_eq_getElem hkl
    have hm := List.getElem_mem hkl
    generalize L[k] = d at hx hm
    have HN := Lib.hid (HT.out k d hx)
    obtain ⟨u0, c0, c1, hu⟩ := hc k d hx
    have hu := hu.later hg
    have c0 := (hg.cell (p := ⟨b, o + k * 2, none⟩) hlt).trans c0
    have c1 := (hg.cell (p := ⟨b, o + k * 2 + 1, none⟩) hlt).trans c1
    have dk : (k : Int) < (L.length : Int) := by omega
    have dk0 : (0 : Int) ≤ (k : Int) := by omega
    have dk8 : (k : Int) ≤ 8 := by have := H8.out; omega
    have HK := Lib.hid hkl
    have hhas := HR.out d hm
    obtain ⟨ua, uc, rfl, huc⟩ := hu
    have HUC := Lib.hid huc
    have HBX : Hid (Below wr.heap.size wr (wr.alloc (.cells #[.bool d.gone, .slice ua d.row.length uc] 41))) := Lib.hid ((Below.refl _ _).alloc (Nat.le_refl _) _)
    have x1 := Kn.cell_new wr #[.bool d.gone, .slice ua d.row.length uc] 41 1 _ rfl
    simp only [List.getElem_toArray, List.getElem_cons_zero, List.getElem_cons_succ] at x1
    clear hc hx hkl hk hg hm huc
    go_upto_region 5 with (fail)
    obtain ⟨q, hq⟩ : ∃ q, q = wr.heap.size := ⟨_, rfl⟩
    rw [← hq] at x1 ⊢
    generalize wr.alloc _ = w3 at HBX x1 ⊢
    have HG3 := Lib.hid (HG.out.trans (HBX.out.mono HG.out.size))
    have HO3 := Lib.hid (HO.out.kept HBX.out)
    clear hq c0 c1
    by_cases hil : i < d.row.length
    ·have HN2 : Hid (Bk.col (L.take (k + 1)) i = Bk.col (L.take k) i ++ [d.row.getD i Cl.nul]) := Lib.hid (by rw [HN.out, hhas, if_pos (decide_eq_true hil)])
     have hgt : d.row[i]? = some (d.row.getD i Cl.nul) := by rw [List.getD_eq_getElem?_getD, List.getElem?_eq_getElem hil]; rfl
     rcases HUC.out with h0 | ⟨b2, o2, rfl, hlt2, hm2, hcc⟩
     ·rw [h0] at hil; simp at hil
     ·obtain ⟨e0, e1, e2⟩ := hcc i _ hgt
      have e0 := (HBX.out.cell (p := ⟨b2, o2 + i * 3, none⟩) hlt2).trans e0
      have e1 := (HBX.out.cell (p := ⟨b2, o2 + i * 3 + 1, none⟩) hlt2).trans e1
      have e2 := (HBX.out.cell (p := ⟨b2, o2 + i * 3 + 2, none⟩) hlt2).trans e2
      have dil : (i : Int) < (d.row.length : Int) := by omega
      have hO := HO3.out
      have hl := HLT.out k
      have hsz := HG3.out.size
      generalize d.row.getD i Cl.nul = x at HN2 e0 e1 e2
      clear hcc hgt hil HUC hhas HN hlt2 hm2
      go_wp2_with (at_builtin; refine Cl.wpList_append_val x hO (by omega) (by omega) (.tmp 19) (.tmp 25) _ rfl rfl rfl rfl rfl ?_; intro v5 w5 h5 g5)
      have H5 := Lib.hid h5
      have HB5 := Lib.hid (Cl.own_below HG3.out hO g5)
      clear h5 g5 hO
      go_roundw
      case rel => exact ⟨k + 1, HK.out, by simp, by rw [HN2.out]; exact H5.out, HB5.out⟩
      case measure => (have := HK.out; simp [intOf]; omega)
    ·have HN2 : Hid (Bk.col (L.take (k + 1)) i = Bk.col (L.take k) i) := Lib.hid (by rw [HN.out, hhas, if_neg (by rw [decide_eq_false hil]; decide)])
     have dil : ¬ (i : Int) < (d.row.length : Int) := by omega
     clear hil hhas HN HUC
     go_wp2
     go_roundw
     case rel => exact ⟨k + 1, HK.out, by simp, by rw [HN2.out]; exact HO3.out, HG3.out⟩
     case measure => (have := HK.out; simp [intOf]; omega)
  ·obtain rfl : k = L.length := by omega
   have dk : ¬ (L.length : Int) < (L.length : Int) := by omega
   have HO2 : Hid (Cl.Own w.heap.size wr _ (Bk.col L i)) := Lib.hid (by have := HO.out; rw [List.take_length] at this; exact this)
   clear hk hkl hg
   go_wp2
   go_ret
   exact ⟨_, rfl, HO2.out.vals, HG.out⟩
theorem Rn.run_makeZ (n : Nat) (hn : n ≤ 6) (w : World) : (Instr.makeSlice 108 (.int .i64 (n : Int)) (.int .i64 (n : Int))).run Tryz.prog w = .ok (.slice (some ⟨w.heap.size, 0, none⟩) n n) (w.alloc (.cells (madeCells (Zn.cs Zn.z0) (n * 8)) 68)) := by
 obtain ⟨i0, hi, hz0, hz1, hz2⟩ := info_parts (show (Tryz.prog.info? 68).map (fun i => (i.zero, i.size, i.bytes)) = some (some (.agg #[.bool false, .bool false, .bool false, .int .i64 0, .string ⟨#[]⟩, .bool false, .int .i64 0, .string ⟨#[]⟩]), 8, 72) by kernel_rfl)
 have := Go.run_make (P := Tryz.prog) w 108 68 i0 _ Tryz.underlying108 hi hz0 .i64 .i64 n n (by omega) (Int.le_refl _) (by rw [hz2]; omega) (by omega)
 rw [hz1, Int.toNat_natCast] at this
 exact this
set_option maxHeartbeats 4000000 in
set_option maxRecDepth 100000 in
theorem Rn.zonesOf_c (v : Value) (L : List Dd.D) (n : Nat) (h8 : L.length ≤ 8) (hn : n ≤ 6) (hr : ∀ d ∈ L, ∀ i, i < n → Bk.has i d = decide (i < d.row.length)) (hz : Bk.Zs L) (w : World) (hv : Bk.Ds w v L) :
 Calls Tryz.prog 88 #[v, .int .i64 (n : Int)] w fun e w' => ∃ g, e = .returned (.slice (some ⟨g, 0, none⟩) n n) ∧ w.heap.size ≤ g ∧ Rn.ZR w' g n (fun j => Zn.of (Bk.col L j)) ∧ Below w.heap.size w w' := by
 have HV := Lib.hid hv
 have CV := Lib.hid fun (i : Nat) (h : i < n) (wz : World) (hz : Bk.Ds wz v L) => Rn.values_c v L i h8 (by omega) (fun d hd => hr d hd i h) wz hz
 have CO := Lib.hid fun (i : Nat) (u : Value) (wz : World) (h : Kn.Vals wz u (Bk.col L i)) => Zn.of_c u _ wz h (fun x hx => by
  obtain ⟨d, hd, _, rfl⟩ := Bk.mem_col.1 hx
  rw [List.getD_eq_getElem?_getD]
  cases h : d.row[i]? with
  | none => unfold Kn.Z; exact Nat.zero_le _
  | some v => exact hz d hd v (List.mem_of_getElem? h))
 have hmk := Rn.run_makeZ n hn
 have HN := Lib.hid hn
 obtain ⟨a, c, rfl, -⟩ := hv
 clear h8 hn hr hz
 go_enter Tryz.func88, Tryz.ntmps88
 go_wp2_with fail
 have hM := Rn.ZR.made w n
 have hB : Below w.heap.size w (w.alloc (.cells (madeCells (Zn.cs Zn.z0) (n * 8)) 68)) := (Below.refl _ _).alloc (Nat.le_refl _) _
 generalize w.alloc _ = w1 at hM hB ⊢
 obtain ⟨g, hg⟩ : ∃ g, g = w.heap.size := ⟨_, rfl⟩
 rw [← hg] at hM ⊢
 have HGE := Lib.hid hg
 have HM := Lib.hid hM
 have HB := Lib.hid hB
 clear hg hM hB hmk
 go_loopw [11] (fun i wr => ∃ k : Nat, k ≤ n ∧ i = .int .i64 k ∧ Rn.ZR wr g n (fun j => if j < k then Zn.of (Bk.col L j) else Zn.z0) ∧ Below w.heap.size w wr) (fun i _ => n - (intOf i).toNat)
 case atStart => exact ⟨0, Nat.zero_le _, rfl, HM.out.congr fun i _ => by simp, HB.out⟩
 case round =>
  obtain ⟨k, hk, rfl, hZ, hB⟩ := hrel
  have HZ := Lib.hid hZ
  have HBk := Lib.hid hB
  clear hZ hB
  by_cases hl : k < n
  ·have hkl : (k : Int) < (n : Int) := by omega
   have hk0 : (0 : Int) ≤ (k : Int) := by omega
   have hk6 : (k : Int) ≤ 6 := by have := HN.out; omega
   have cv := CV.out k hl wr (HV.out.later HBk.out)
   have HK := Lib.hid hl
   clear hk hl
   go_wp2_with fail
   with_reducible refine cv.mono ?_
   rintro e w2 ⟨u, rfl, hu, g2⟩
   have HB2 := Lib.hid (HBk.out.trans (g2.mono HBk.out.size))
   have HZ2 := Lib.hid (HZ.out.kept (g2.block g HZ.out.lt))
   have co := CO.out k u w2 hu
   obtain ⟨ua, uc, rfl, -⟩ := hu
   have HCZ : Hid (∃ z, z = Zn.of (Bk.col L k)) := Lib.hid ⟨_, rfl⟩
   obtain ⟨z, hz⟩ := HCZ.out
   rw [← hz] at co
   have HZE := Lib.hid hz
   clear cv g2 hz
   go_wp2_with fail
   with_reducible refine co.mono ?_
   rintro e w3 ⟨rfl, g3⟩
   have HB3 := Lib.hid (HB2.out.trans (g3.mono HB2.out.size))
   have HZ3 := Lib.hid (HZ2.out.kept (g3.block g HZ2.out.lt))
   obtain ⟨r0, r1, r2, r3, r4, r5, r6, r7⟩ := HZ3.out.cells HK.out
   have f0 := HZ3.out.frozen (k * 8)
   have f1 := HZ3.out.frozen (k * 8 + 1)
   have f2 := HZ3.out.frozen (k * 8 + 2)
   have f3 := HZ3.out.frozen (k * 8 + 3)
   have f4 := HZ3.out.frozen (k * 8 + 4)
   have f5 := HZ3.out.frozen (k * 8 + 5)
   have f6 := HZ3.out.frozen (k * 8 + 6)
   have f7 := HZ3.out.frozen (k * 8 + 7)
   generalize (if k < k then Zn.of (Bk.col L k) else Zn.z0) = y at r0 r1 r2 r3 r4 r5 r6 r7
   have HE : Hid (Rn.ZR (Rn.zput w3 g (k * 8) z) g n (fun j => if j < k + 1 then Zn.of (Bk.col L j) else Zn.z0) ∧ Below w.heap.size w (Rn.zput w3 g (k * 8) z)) := Lib.hid ⟨(HZ3.out.put k z).congr fun i _ => by
    by_cases e : i = k
    ·subst e
     rw [if_pos rfl, if_pos (by omega), HZE.out]
    ·rw [if_neg e]
     by_cases e2 : i < k
     ·rw [if_pos e2, if_pos (by omega)]
     ·rw [if_neg e2, if_neg (by omega)], Rn.zput_below HB3.out (by rw [HGE.out]; exact Nat.le_refl _) z⟩
   unfold Rn.zput at HE
   obtain ⟨zn, zw, ⟨ln, li, ls⟩, ⟨hn, hi, hs⟩⟩ := z
   obtain ⟨yn, yw, ⟨yln, yli, yls⟩, ⟨yhn, yhi, yhs⟩⟩ := y
   simp only at r0 r1 r2 r3 r4 r5 r6 r7 HE
   clear co g3
   go_wp2
   go_roundw
   case rel => exact ⟨k + 1, HK.out, by simp, HE.out⟩
   case measure => (have := HK.out; simp [intOf]; omega)
  ·obtain rfl : k = n := by omega
   have hkl : ¬ (k : Int) < (k : Int) := by omega
   have HE : Hid (Rn.ZR wr g k (fun j => Zn.of (Bk.col L j))) := Lib.hid (HZ.out.congr fun i hi => by rw [if_pos hi])
   clear hk hl
   go_wp2
   go_ret
   exact ⟨g, rfl, by rw [HGE.out]; exact Nat.le_refl _, HE.out, HBk.out⟩
end Go.Proofs.YtbelkhkllneifaaGreatDoor

namespace Go.Proofs.YtbelkhkllneifaaGreatDoor
open Go.RowKit
open Ty (num)
open Ig (rest)
section
variable {c : Kn.C} {l : List UInt8}
def Cl.bb (l : List UInt8) : ByteArray := Ty.S ((rest l).take (Bt.need (num l).1))
def Cl.vb (l : List UInt8) : List UInt8 := (rest l).drop (Bt.need (num l).1)
theorem Cl.rd_k (h : c.good = false) : Cl.rd c l = (4, []) := by unfold Cl.rd; rw [if_pos h]
theorem Cl.rd_n (hg : c.good = true) (h : (num l).2.2 ≠ 0) : Cl.rd c l = ((num l).2.2, []) := by unfold Cl.rd; rw [if_neg (by rw [hg]; decide), if_pos h]
theorem Cl.rd_3 (hg : c.good = true) (h : (num l).2.2 = 0) (h2 : 65536 < (num l).1) : Cl.rd c l = (3, []) := by unfold Cl.rd; rw [if_neg (by rw [hg]; decide), if_neg (by rw [h]; simp), if_pos h2]
theorem Cl.rd_2 (hg : c.good = true) (h : (num l).2.2 = 0) (h2 : ¬ 65536 < (num l).1) (h3 : (rest l).length < Bt.need (num l).1) : Cl.rd c l = (2, []) := by
 unfold Cl.rd; rw [if_neg (by rw [hg]; decide), if_neg (by rw [h]; simp), if_neg h2, if_pos h3]
theorem Cl.rd_c (hg : c.good = true) (h : (num l).2.2 = 0) (h2 : ¬ 65536 < (num l).1) (h3 : ¬ (rest l).length < Bt.need (num l).1) (h4 : Bt.chk (Cl.bb l) (num l).1 ≠ 0) : Cl.rd c l = (Bt.chk (Cl.bb l) (num l).1, []) := by
 unfold Cl.bb at h4 ⊢
 unfold Cl.rd
 rw [if_neg (by rw [hg]; decide), if_neg (by rw [h]; simp), if_neg h2, if_neg h3, if_pos h4]
theorem Cl.rd_6 (hg : c.good = true) (h : (num l).2.2 = 0) (h2 : ¬ 65536 < (num l).1) (h3 : ¬ (rest l).length < Bt.need (num l).1) (h4 : Bt.chk (Cl.bb l) (num l).1 = 0) {k : Nat} (hk : k < (num l).1) (hb : Bt.bit (Cl.bb l) k = true) (hn : c.null = false) : Cl.rd c l = (6, []) := by
 unfold Cl.rd
 rw [if_neg (by rw [hg]; decide), if_neg (by rw [h]; simp), if_neg h2, if_neg h3]
 unfold Cl.bb at h4 hb
 rw [if_neg (by rw [h4]; simp), if_pos]
 rw [hn, Bool.and_eq_true, List.any_eq_true]
 exact ⟨rfl, true, List.mem_map.2 ⟨k, List.mem_range.2 hk, hb⟩, rfl⟩
theorem Cl.rd_v (hg : c.good = true) (h : (num l).2.2 = 0) (h2 : ¬ 65536 < (num l).1) (h3 : ¬ (rest l).length < Bt.need (num l).1) (h4 : Bt.chk (Cl.bb l) (num l).1 = 0) (h5 : ∀ k, k < (num l).1 → Bt.bit (Cl.bb l) k = true → c.null = true) :
 Cl.rd c l = Cl.rdV c (Cl.bits (num l).1 (Cl.bb l)) (Cl.vb l) := by
 have hn : ¬ (!c.null && (Cl.bits (num l).1 (Ty.S ((rest l).take (Bt.need (num l).1)))).any id) = true := by
  intro hx
  rw [Bool.and_eq_true, List.any_eq_true] at hx
  obtain ⟨h1, x, hx, h2⟩ := hx
  obtain ⟨k, hk, rfl⟩ := List.mem_map.1 hx
  have := h5 k (List.mem_range.1 hk) h2
  rw [this] at h1
  cases h1
 unfold Cl.rd Cl.bb Cl.vb
 unfold Cl.bb at h4
 rw [if_neg (by rw [hg]; decide), if_neg (by rw [h]; simp), if_neg h2, if_neg h3, if_neg (by rw [h4]; simp), if_neg hn]
end
section
variable {c : Kn.C} {T : List Bool} {r : List UInt8}
theorem Cl.rdV_e (h : (Cl.back c r).1 ≠ 0) : Cl.rdV c T r = ((Cl.back c r).1, []) := by unfold Cl.rdV; rw [if_pos h]
theorem Cl.rdV_no (h : (Cl.back c r).1 = 0) (hf : Cl.fill T (Cl.back c r).2 = none) : Cl.rdV c T r = (4, []) := by
 unfold Cl.rdV; rw [if_neg (by rw [h]; simp), hf]
theorem Cl.rdV_4 (h : (Cl.back c r).1 = 0) {out : List Kn.V} (hf : Cl.fill T (Cl.back c r).2 = some out) (hv : Cl.vals c out ≠ r) : Cl.rdV c T r = (4, []) := by
 unfold Cl.rdV
 rw [if_neg (by rw [h]; simp), hf]
 simp only
 rw [if_neg hv]
theorem Cl.rdV_ok (h : (Cl.back c r).1 = 0) {out : List Kn.V} (hf : Cl.fill T (Cl.back c r).2 = some out) (hv : Cl.vals c out = r) : Cl.rdV c T r = (0, out) := by
 unfold Cl.rdV
 rw [if_neg (by rw [h]; simp), hf]
 simp only
 rw [if_pos hv]
end
def Cl.MidF (T : List Bool) (M : List Kn.V) (k j : Nat) (O : List Kn.V) : Prop := O.length = k ∧ k ≤ T.length ∧ j ≤ M.length ∧ Cl.fill T M = (Cl.fill (T.drop k) (M.drop j)).map (O ++ ·)
theorem Cl.MidF.start (T : List Bool) (M : List Kn.V) : Cl.MidF T M 0 0 [] := ⟨rfl, by omega, by omega, by simp⟩
theorem Cl.MidF.null {T : List Bool} {M : List Kn.V} {k j : Nat} {O : List Kn.V} (h : Cl.MidF T M k j O) (hk : T[k]? = some true) : Cl.MidF T M (k + 1) j (O ++ [Cl.nul]) := by
 obtain ⟨h1, h2, h3, h4⟩ := h
 obtain ⟨hlt, he⟩ := List.getElem?_eq_some_iff.1 hk
 refine ⟨by simp [h1], by omega, h3, ?_⟩
 rw [h4, List.drop_eq_getElem_cons hlt, he]
 simp only [Cl.fill, Option.map_map]
 congr 1
 funext x
 simp
theorem Cl.MidF.fail {T : List Bool} {M : List Kn.V} {k j : Nat} {O : List Kn.V} (h : Cl.MidF T M k j O) (hk : T[k]? = some false) (hj : M.length ≤ j) : Cl.fill T M = none := by
 obtain ⟨h1, h2, h3, h4⟩ := h
 obtain ⟨hlt, he⟩ := List.getElem?_eq_some_iff.1 hk
 rw [h4, List.drop_eq_getElem_cons hlt, he, List.drop_eq_nil_of_le hj]
 simp [Cl.fill]
theorem Cl.MidF.live {T : List Bool} {M : List Kn.V} {k j : Nat} {O : List Kn.V} (h : Cl.MidF T M k j O) (hk : T[k]? = some false) {x : Kn.V} (hx : M[j]? = some x) : Cl.MidF T M (k + 1) (j + 1) (O ++ [x]) := by
 obtain ⟨h1, h2, h3, h4⟩ := h
 obtain ⟨hlt, he⟩ := List.getElem?_eq_some_iff.1 hk
 obtain ⟨hl2, he2⟩ := List.getElem?_eq_some_iff.1 hx
 refine ⟨by simp [h1], by omega, by omega, ?_⟩
 rw [h4, List.drop_eq_getElem_cons hlt, he, List.drop_eq_getElem_cons hl2, he2]
 simp only [Cl.fill, Option.map_map]
 congr 1
 funext x
 simp
theorem Cl.MidF.left {T : List Bool} {M : List Kn.V} {k j : Nat} {O : List Kn.V} (h : Cl.MidF T M k j O) (hk : k = T.length) (hj : j ≠ M.length) : Cl.fill T M = none := by
 obtain ⟨h1, h2, h3, h4⟩ := h
 have e := List.drop_eq_getElem_cons (show j < M.length by omega)
 rw [h4, hk, List.drop_length, e]
 simp [Cl.fill]
theorem Cl.MidF.done {T : List Bool} {M : List Kn.V} {k j : Nat} {O : List Kn.V} (h : Cl.MidF T M k j O) (hk : k = T.length) (hj : j = M.length) : Cl.fill T M = some O := by
 obtain ⟨h1, h2, h3, h4⟩ := h
 rw [h4, hk, hj, List.drop_length, List.drop_length]
 simp [Cl.fill]
def Cl.Got (w : World) (r : Nat × List Kn.V) (e : Ending) (w' : World) : Prop :=
 ∃ v, e = .returned (.tuple #[v, .int .i64 ((r.1 : Nat) : Int)]) ∧ Kn.Vals w' v r.2 ∧ Below w.heap.size w w'
theorem Cl.Got.bad {w w' : World} {r : Nat × List Kn.V} {z : Int} {q : Nat} (hr : r = (q, [])) (hz : z = (q : Int)) (g : Below w.heap.size w w') : Cl.Got w r (.returned (.tuple #[.slice none 0 0, .int .i64 z])) w' :=
 ⟨_, by rw [hr, hz], by rw [hr]; exact ⟨_, 0, rfl, .inl rfl⟩, g⟩
theorem Cl.Got.good {w w' : World} {r : Nat × List Kn.V} {v : Value} {L : List Kn.V} (hr : r = (0, L)) (h : Kn.Vals w' v L) (g : Below w.heap.size w w') : Cl.Got w r (.returned (.tuple #[v, .int .i64 0])) w' :=
 ⟨v, by rw [hr]; rfl, by rw [hr]; exact h, g⟩
end Go.Proofs.YtbelkhkllneifaaGreatDoor

namespace Go.Proofs.YtbelkhkllneifaaGreatDoor
open Go.RowKit
open Ty (num)
open Ig (rest)
def Cl.RelF (w9 : World) (T : List Bool) (M : List Kn.V) (ov jv iv : Value) (wr : World) : Prop :=
 ∃ (q j : Nat) (O : List Kn.V), iv = .int .i64 q ∧ jv = .int .i64 j ∧ Cl.MidF T M q j O ∧ Cl.Own w9.heap.size wr ov O ∧ Below w9.heap.size w9 wr
end Go.Proofs.YtbelkhkllneifaaGreatDoor

namespace Go.Proofs.YtbelkhkllneifaaGreatDoor
open Go.RowKit
open Ty (num txt)
open Ig (rest sg)
open Tx (restT)
end Go.Proofs.YtbelkhkllneifaaGreatDoor
