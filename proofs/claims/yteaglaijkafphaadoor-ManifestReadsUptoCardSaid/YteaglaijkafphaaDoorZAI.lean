import Derived.Test.YteaglaijkafphaaDoorZAH
import Derived.Maps.OwnOps
import Derived.Maps.OwnSet
import Derived.Maps.RangeWalk
import Derived.Sort.KeysCollected
import Derived.Deep.RegionHeld3
import Derived.Deep.OwnRows
import Derived.Lib.QuietBelow
import Derived.Test.YteaglaijkafphaaDoorSLay
import Derived.Test.YteaglaijkafphaaDoorZAD
namespace Go.Proofs.YteaglaijkafphaaDoor
section
open Go.RowKit Go.Maps
def Mf.slR : Value → Option (DataW Value × List MemPlace)
 | .slice a n c => some (.held (.slice a n c), [])
 | _ => none
theorem Mf.slR_some {v z : Value} {ps : List MemPlace} (h : Mf.slR v = some (.held z, ps)) : v = z := by
 unfold Mf.slR at h
 split at h
 ·simp only [Option.some.injEq, Prod.mk.injEq, DataW.held.injEq] at h
  exact h.1
 ·cases h
theorem Mf.keyed : Keyed Tryd.prog 3 := int_keyed Tryd.underlying3
theorem Mf.wf {x : Int} (h : Ty.I64 x) : (Lit.int .i64 x).wf = true := by
 unfold Ty.I64 at h
 have h1 : IntKind.i64.min = -9223372036854775808 := rfl
 have h2 : IntKind.i64.max = 9223372036854775807 := rfl
 simp [Lit.wf, h1, h2]
 omega
theorem Mf.keyI {x : Int} (h : Ty.I64 x) : keyOf Tryd.prog 3 (.int .i64 x) = some (.int .i64 x) := keyOf_int_mk Tryd.underlying3 (Mf.wf h)
theorem Mf.isKey (x : Int) : WideAt.IsKeyLit (.int .i64 x) := trivial
theorem Mf.key_ne {x y : Int} (h : y ≠ x) : (Lit.int .i64 y) ≠ .int .i64 x := fun e => h (by simpa using e)
def Mf.Rds (D : DataW Value) (m : Int → Option Value) : Prop := ∀ (x : Int) (z : DataW Value), D.atKey (.int .i64 x) z = match m x with | none => z | some v => .held v
theorem Mf.Rds.nil : Mf.Rds (.map []) (fun _ => none) := fun _ _ => rfl
theorem Mf.Rds.put {D : DataW Value} {m : Int → Option Value} (h : Mf.Rds D m) (hD : IsMap D) (x : Int) (v : Value) : Mf.Rds (D.put (.int .i64 x) (.held v)) (fun k => if k = x then some v else m k) := fun y z => by
 by_cases e : y = x
 ·rw [e, atKey_put_same hD (Mf.isKey x)]; simp
 ·rw [atKey_put_other (Mf.key_ne e), h y z]; simp [e]
theorem Mf.Rds.del {D : DataW Value} {m : Int → Option Value} (h : Mf.Rds D m) (x : Int) : Mf.Rds (D.del (.int .i64 x)) (fun k => if k = x then none else m k) := fun y z => by
 by_cases e : y = x
 ·rw [e, atKey_del_same]; simp
 ·rw [atKey_del_other (Mf.key_ne e), h y z]; simp [e]
theorem Mf.Rds.has {D : DataW Value} {m : Int → Option Value} (h : Mf.Rds D m) (x : Int) : Maps.has D (.int .i64 x) = (m x).isSome := by
 cases hl : m x with
 | none => exact has_false_of_atKey fun z => by rw [h x z, hl]
 | some v => exact has_true_of_atKey (y := .held v) fun z => by rw [h x z, hl]
def Mf.PM (w : World) (b n : Nat) (m : Int → Option Value) : Prop := ∃ D : DataW Value, w.ownsMap Tryd.prog 3 Mf.slR b n D ∧ Mf.Rds D m
theorem Mf.PM.lt {w : World} {b n : Nat} {m : Int → Option Value} (h : Mf.PM w b n m) : b < w.heap.size := by
 obtain ⟨D, hown, _⟩ := h
 exact hown.lt
theorem Mf.PM.isMap {w : World} {b n : Nat} {m : Int → Option Value} (h : Mf.PM w b n m) : ∃ es c, w.heap[b]? = some (.map es c) := by
 obtain ⟨D, ⟨es, c, hb, _⟩, _⟩ := h
 exact ⟨es, c, hb⟩
theorem Mf.PM.same {w w' : World} {b n : Nat} {m : Int → Option Value} (h : Mf.PM w b n m) (g : w'.heap[b]? = w.heap[b]?) : Mf.PM w' b n m := by
 obtain ⟨D, ⟨es, c, hb, r⟩, hr⟩ := h
 exact ⟨D, ⟨es, c, g.trans hb, r⟩, hr⟩
theorem Mf.PM.mono {w : World} {b n n' : Nat} {m : Int → Option Value} (h : Mf.PM w b n m) (hn : n ≤ n') : Mf.PM w b n' m := by
 obtain ⟨D, hown, hr⟩ := h
 exact ⟨D, hown.mono hn, hr⟩
theorem Mf.PM.made (w : World) : Mf.PM (w.alloc (.map #[] 0)) w.heap.size 0 (fun _ => none) := ⟨_, World.ownsMap_made w _ _ _, Mf.Rds.nil⟩
def Mf.slv (o : Option Value) : Value := match o with | none => .slice none 0 0 | some v => v
theorem Mf.PM.look {w : World} {b n : Nat} {m : Int → Option Value} (h : Mf.PM w b n m) {x : Int} (hx : Ty.I64 x) :
 (Instr.lookup 60 (.map (some b)) (.int .i64 x) false).run Tryd.prog w = .ok (Mf.slv (m x)) w := by
 obtain ⟨D, hown, hr⟩ := h
 obtain ⟨v, ps, hrun, hv⟩ := hown.lookup (e := 72) Mf.keyed Tryd.underlying60 (z := .slice none 0 0) (by kernel_rfl) (zd := .held (.slice none 0 0)) (zp := []) rfl (Mf.keyI hx)
 rw [hrun]
 rw [hr x] at hv
 cases hl : m x with
 | none => rw [hl] at hv; rw [Mf.slR_some hv]; rfl
 | some u => rw [hl] at hv; rw [Mf.slR_some hv]; rfl
theorem Mf.PM.store {w : World} {b n : Nat} {m : Int → Option Value} (h : Mf.PM w b n m) (hn : n < maxLen) {x : Int} (hx : Ty.I64 x) {v : Value} (hv : ∃ a l c, v = .slice a l c) :
 ∃ w', (Instr.mapUpdate 60 (.map (some b)) (.int .i64 x) v).run Tryd.prog w = .ok () w' ∧ Mf.PM w' b (n + 1) (fun k => if k = x then some v else m k) ∧ w.mapTurned w' b := by
 obtain ⟨D, hown, hr⟩ := h
 obtain ⟨a, l, c, rfl⟩ := hv
 obtain ⟨w', hrun, h1, h2⟩ := hown.store (e := 72) Mf.keyed Tryd.underlying60 hn (Mf.keyI hx) (val := .slice a l c) (d := .held (.slice a l c)) (ps := []) rfl
 exact ⟨w', hrun, ⟨_, h1, hr.put hown.isMap x _⟩, h2⟩
theorem Mf.PM.drop {w : World} {b n : Nat} {m : Int → Option Value} (h : Mf.PM w b n m) {x : Int} (hx : Ty.I64 x) (ty : TypeId) :
 ∃ w', (Builtin.delete_ #[60, 3] ty #[.map (some b), .int .i64 x]).run Tryd.prog w = .ok (.tuple #[]) w' ∧ Mf.PM w' b n (fun k => if k = x then none else m k) ∧ w.mapTurned w' b := by
 obtain ⟨D, hown, hr⟩ := h
 obtain ⟨w', hrun, h1, h2⟩ := hown.drop (e := 72) Mf.keyed Tryd.underlying60 (Mf.keyI hx) ty
 exact ⟨w', hrun, ⟨_, h1, hr.del x⟩, h2⟩
def Mf.lc (x : Nat × Mf.P) : List Value := [.int .i64 (x.1 : Int), .int .i64 x.2.id, .int .i64 x.2.lv, .bool x.2.lo.null, .int .i64 x.2.lo.n, .string x.2.lo.s, .bool x.2.hi.null, .int .i64 x.2.hi.n, .string x.2.hi.s]
theorem Mf.lc_len (x : Nat × Mf.P) : (Mf.lc x).length = 9 := rfl
theorem Mf.lc_one (x : Nat × Mf.P) : ∀ u ∈ Mf.lc x, u.oneCell' = true := by
 intro u hu
 simp only [Mf.lc, List.mem_cons, List.not_mem_nil, or_false] at hu
 rcases hu with rfl | rfl | rfl | rfl | rfl | rfl | rfl | rfl | rfl <;> rfl
theorem Mf.infoL : (Tryd.prog.info? 75).map (fun i => (i.zero, i.size, i.bytes)) = some (some (.agg #[.int .i64 0, .int .i64 0, .int .i64 0, .bool false, .int .i64 0, .string ⟨#[]⟩, .bool false, .int .i64 0, .string ⟨#[]⟩]), 9, 88) := by kernel_rfl
def Mf.Op (base : Nat) (w : World) (v : Value) (K : List (Nat × Mf.P)) : Prop := Dk.Own 75 9 Mf.lc base w v K
theorem Mf.Op.nil (base : Nat) (w : World) : Mf.Op base w (.slice none 0 0) [] := Dk.Own.nil base w
theorem Mf.Op.kept {base : Nat} {w w' : World} {v : Value} {K : List (Nat × Mf.P)} (h : Mf.Op base w v K) (g : Below w.heap.size w w') : Mf.Op base w' v K := Dk.Own.kept h g
theorem Mf.Op.form {base : Nat} {w : World} {v : Value} {K : List (Nat × Mf.P)} (h : Mf.Op base w v K) : ∃ a c, v = .slice a K.length c := by
 rcases Dk.Own.form h with ⟨rfl, rfl⟩ | ⟨g, c, rfl, _⟩
 ·exact ⟨_, _, rfl⟩
 ·exact ⟨_, _, rfl⟩
theorem Mf.Op.blk {base : Nat} {w : World} {v : Value} {K : List (Nat × Mf.P)} (h : Mf.Op base w v K) (hk : K ≠ []) : ∃ g, v.ownBlock = some g ∧ base ≤ g ∧ g < w.heap.size := by
 rcases Dk.Own.form h with ⟨_, h0⟩ | ⟨g, c, rfl, _, _, h1, h2⟩
 ·exact absurd h0 hk
 ·exact ⟨g, rfl, h1, h2⟩
def Mf.of (K : List (Nat × Mf.P)) (x : Int) : List (Nat × Mf.P) := K.filter fun y => y.2.id == x
theorem Mf.of_snoc (K : List (Nat × Mf.P)) (y : Nat × Mf.P) (x : Int) : Mf.of (K ++ [y]) x = if y.2.id = x then Mf.of K x ++ [y] else Mf.of K x := by
 unfold Mf.of
 rw [List.filter_append]
 by_cases h : y.2.id = x
 ·rw [if_pos h]; simp [h]
 ·rw [if_neg h]; simp [h]
def Mf.off (K : List (Nat × Mf.P)) (x : Int) : List (Nat × Mf.P) := K.filter fun y => !(y.2.id == x)
theorem Mf.of_off (K : List (Nat × Mf.P)) (x k : Int) : Mf.of (Mf.off K x) k = if k = x then [] else Mf.of K k := by
 unfold Mf.of Mf.off
 rw [List.filter_filter]
 by_cases h : k = x
 ·rw [if_pos h, h]
  refine List.filter_eq_nil_iff.2 fun y _ => ?_
  by_cases e : y.2.id = x <;> simp [e]
 ·rw [if_neg h]
  refine List.filter_congr fun y _ => ?_
  by_cases e : y.2.id = k
  ·simp [e, h]
  ·simp [e]
theorem Mf.of_has (K : List (Nat × Mf.P)) (x : Int) : Mf.of K x = [] ↔ Mf.has (K.map (·.2)) x = false := by
 rw [Mf.has_not]
 unfold Mf.of
 rw [List.filter_eq_nil_iff]
 constructor
 ·intro h p hp
  obtain ⟨y, hy, rfl⟩ := List.mem_map.1 hp
  have := h y hy
  simpa using this
 ·intro h y hy
  have := h y.2 (List.mem_map.2 ⟨y, hy, rfl⟩)
  simpa using this
theorem Mf.off_wo (K : List (Nat × Mf.P)) (x : Int) : (Mf.off K x).map (·.2) = Mf.wo (K.map (·.2)) x := by
 unfold Mf.off Mf.wo
 rw [List.filter_map]
 rfl
structure Mf.Bm (B : Nat) (w : World) (q b : Nat) (m : Int → Option Value) (K : List (Nat × Mf.P)) (pl : Nat) (f n : Int) : Prop where
 box : w.heap[q]? = some (.cells #[.map (some b), .int .i64 (pl : Int), .int .i64 f, .int .i64 n] 62 (0, 0))
 map : Mf.PM w b pl m
 some_ : ∀ x v, m x = some v → Mf.Op B w v (Mf.of K x) ∧ Mf.of K x ≠ []
 none_ : ∀ x, m x = none → Mf.of K x = []
 apart : ∀ x y u v, x ≠ y → m x = some u → m y = some v → u.ownBlock ≠ v.ownBlock
 bq : B ≤ q
 bb : B ≤ b
 asc : K.Pairwise fun x y => x.1 < y.1
 lt : ∀ y ∈ K, y.1 < pl
 keys : ∀ y ∈ K, Ty.I64 y.2.id
def Mf.Bk (B : Nat) (w : World) (q : Nat) (K : List (Nat × Mf.P)) (pl : Nat) (f n : Int) : Prop := ∃ b m, Mf.Bm B w q b m K pl f n
structure Mf.Tf (B : Nat) (w w' : World) : Prop where
 below : Below B w w'
 cells : ∀ (j : Nat) (cs : Array Value) (t : TypeId) (fr : Nat × Nat), w.heap[j]? = some (Obj.cells cs t fr) → t ≠ 62 → t ≠ 75 → w'.heap[j]? = w.heap[j]?
theorem Mf.Tf.refl (B : Nat) (w : World) : Mf.Tf B w w := ⟨Below.refl _ _, fun _ _ _ _ _ _ _ => rfl⟩
theorem Mf.Tf.trans {B : Nat} {w w1 w2 : World} (h : Mf.Tf B w w1) (g : Mf.Tf B w1 w2) : Mf.Tf B w w2 :=
 ⟨h.below.trans g.below, fun j cs t fr h0 h1 h2 => (g.cells j cs t fr ((h.cells j cs t fr h0 h1 h2).trans h0) h1 h2).trans (h.cells j cs t fr h0 h1 h2)⟩
theorem Mf.Tf.of {B : Nat} {w w' : World} (g : Below w.heap.size w w') (hB : B ≤ w.heap.size) : Mf.Tf B w w' :=
 ⟨g.mono hB, fun j _ _ _ h0 _ _ => g.block j (lt_of_block h0)⟩
theorem Mf.Tf.alloc {B : Nat} {w w' : World} (h : Mf.Tf B w w') (hB : B ≤ w.heap.size) (o : Obj) : Mf.Tf B w (w'.alloc o) := h.trans (Mf.Tf.of ((Below.refl _ _).alloc (Nat.le_refl _) o) (Nat.le_trans hB h.below.size))
theorem Mf.Tf.own {α : Type} {B base : Nat} {e : TypeId} {k : Nat} {enc : α → List Value} {w w' : World} {v : Value} {L : List α} (g : Mf.Tf B w w') (h : Dk.Own e k enc base w v L) (h1 : e ≠ 62) (h2 : e ≠ 75) : Dk.Own e k enc base w' v L :=
 Dk.Own.same h fun b hb => by
  obtain ⟨cs, hcs⟩ := Dk.Own.typed h b hb
  exact g.cells b _ _ _ hcs h1 h2
theorem Mf.Bm.kept {B : Nat} {w w' : World} {q b : Nat} {m : Int → Option Value} {K : List (Nat × Mf.P)} {pl : Nat} {f n : Int} (h : Mf.Bm B w q b m K pl f n) (g : Below w.heap.size w w') : Mf.Bm B w' q b m K pl f n :=
 ⟨(g.block q (lt_of_block h.box)).trans h.box, h.map.same (g.block b h.map.lt), fun x v hx => ⟨(h.some_ x v hx).1.kept g, (h.some_ x v hx).2⟩, h.none_, h.apart, h.bq, h.bb, h.asc, h.lt, h.keys⟩
theorem Mf.Bk.kept {B : Nat} {w w' : World} {q : Nat} {K : List (Nat × Mf.P)} {pl : Nat} {f n : Int} (h : Mf.Bk B w q K pl f n) (g : Below w.heap.size w w') : Mf.Bk B w' q K pl f n := by
 obtain ⟨b, m, h⟩ := h
 exact ⟨b, m, h.kept g⟩
theorem Mf.Bm.four {B : Nat} {w : World} {q b : Nat} {m : Int → Option Value} {K : List (Nat × Mf.P)} {pl : Nat} {f n : Int} (h : Mf.Bm B w q b m K pl f n) :
 (w.cell? ⟨q, 0, none⟩ = some (.map (some b)) ∧ w.cell? ⟨q, 1, none⟩ = some (.int .i64 (pl : Int)) ∧ w.cell? ⟨q, 2, none⟩ = some (.int .i64 f) ∧ w.cell? ⟨q, 3, none⟩ = some (.int .i64 n)) ∧ w.frozen? ⟨q, 1, none⟩ = false ∧ w.frozen? ⟨q, 2, none⟩ = false ∧ w.frozen? ⟨q, 3, none⟩ = false := by
 have hb := h.box
 refine ⟨⟨?_, ?_, ?_, ?_⟩, ?_, ?_, ?_⟩ <;> simp [World.cell?, World.frozen?, hb]
theorem Mf.Bm.slice {B : Nat} {w : World} {q b : Nat} {m : Int → Option Value} {K : List (Nat × Mf.P)} {pl : Nat} {f n : Int} (h : Mf.Bm B w q b m K pl f n) (x : Int) : Mf.Op B w (Mf.slv (m x)) (Mf.of K x) := by
 cases hm : m x with
 | none => rw [h.none_ x hm]; exact Mf.Op.nil _ _
 | some v => exact (h.some_ x v hm).1
set_option maxHeartbeats 1000000 in
set_option maxRecDepth 100000 in
theorem Mf.has_c {B : Nat} {w : World} {q : Nat} {K : List (Nat × Mf.P)} {pl : Nat} {f n : Int} (h : Mf.Bk B w q K pl f n) (x : Int) (hx : Ty.I64 x) :
 Calls Tryd.prog 31 #[.pointer (some ⟨q, 0, none⟩), .int .i64 x] w fun e w' => e = .returned (.bool (Mf.has (K.map (·.2)) x)) ∧ w' = w := by
 obtain ⟨b, m, h⟩ := h
 have hlk := h.map.look hx
 obtain ⟨a, c, e⟩ := (h.slice x).form
 rw [e] at hlk
 obtain ⟨⟨c0, c1, c2, c3⟩, -⟩ := h.four
 have HH : Hid (decide (0 < (Mf.of K x).length) = Mf.has (K.map (·.2)) x) := Lib.hid (by
  cases hh : Mf.has (K.map (·.2)) x
  ·rw [(Mf.of_has K x).2 hh]; rfl
  ·have : Mf.of K x ≠ [] := fun e => by rw [(Mf.of_has K x).1 e] at hh; cases hh
   exact decide_eq_true (List.length_pos_iff.2 this))
 rw [← HH.out]
 generalize (Mf.of K x).length = z at hlk ⊢
 clear h e HH
 go_enter Tryd.func31, Tryd.ntmps31
 go_wp2
 go_ret
 exact ⟨rfl, rfl⟩
end
section
open Go.RowKit Go.Maps
theorem Mf.chain {w w1 w2 w3 : World} {v v' : Value} {b q : Nat} (g1 : Below w.heap.size w w1) (g2 : Ty.Grew w1 w2 v v') (g3 : w2.mapTurned w3 b) (u : Value) {j : Nat} (hj : j < w.heap.size) (hv : some j ≠ v.ownBlock) (hb : j ≠ b) (hq : j ≠ q) :
 (w3.setCell ⟨q, 1, none⟩ u).heap[j]? = w.heap[j]? :=
 (Below.heap_setCell _ _ _ _ (by show j ≠ q; exact hq)).trans ((g3.grown.block j (Nat.lt_of_lt_of_le hj (Nat.le_trans g1.size g2.by_.size)) (fun e => hb (Option.some.inj e))).trans ((g2.by_.block j (Nat.lt_of_lt_of_le hj g1.size) hv).trans (g1.block j hj)))
theorem Mf.Op.typed {base : Nat} {w : World} {v : Value} {K : List (Nat × Mf.P)} (h : Mf.Op base w v K) {j : Nat} (hj : v.ownBlock = some j) : ∃ cs, w.heap[j]? = some (.cells cs 75 (0, 0)) := Dk.Own.typed h j hj
theorem Mf.Op.at_blk {base : Nat} {w w' : World} {v : Value} {K : List (Nat × Mf.P)} (h : Mf.Op base w v K) (g : ∀ j, v.ownBlock = some j → w'.heap[j]? = w.heap[j]?) : Mf.Op base w' v K := Dk.Own.same h g
theorem Mf.apart_of {w : World} {j k : Nat} {cs : Array Value} {t t' : TypeId} {f f' : Nat × Nat} {cs' : Array Value} (h : w.heap[j]? = some (.cells cs t f)) (h' : w.heap[k]? = some (.cells cs' t' f')) (ht : t ≠ t') : j ≠ k := fun e => by
 subst e
 rw [h] at h'
 simp only [Option.some.injEq, Obj.cells.injEq] at h'
 exact ht h'.2.1
theorem Mf.apart_map {w : World} {j k : Nat} {cs : Array Value} {t : TypeId} {f : Nat × Nat} {es : Array MapEntry} {c : Nat} (h : w.heap[j]? = some (.cells cs t f)) (h' : w.heap[k]? = some (.map es c)) : j ≠ k := fun e => by
 subst e
 rw [h] at h'
 cases h'
theorem Mf.Bm.added {B : Nat} {w w1 w2 w3 : World} {q b : Nat} {m : Int → Option Value} {K : List (Nat × Mf.P)} {pl : Nat} {f n : Int} (h : Mf.Bm B w q b m K pl f n) (p : Mf.P) (hp : Ty.I64 p.id) {v' : Value} (g1 : Below w.heap.size w w1)
 (g2 : Ty.Grew w1 w2 (Mf.slv (m p.id)) v') (ho : Mf.Op B w2 v' (Mf.of K p.id ++ [(pl, p)])) (hm : Mf.PM w3 b (pl + 1) (fun k => if k = p.id then some v' else m k)) (g3 : w2.mapTurned w3 b) :
 Mf.Bm B (w3.setCell ⟨q, 1, none⟩ (.int .i64 ((pl : Int) + 1))) q b (fun k => if k = p.id then some v' else m k) (K ++ [(pl, p)]) (pl + 1) f n ∧ Mf.Tf B w (w3.setCell ⟨q, 1, none⟩ (.int .i64 ((pl : Int) + 1))) := by
 have hsl := h.slice p.id
 obtain ⟨es, cc, hbm⟩ := h.map.isMap
 have hqb : q ≠ b := Mf.apart_map h.box hbm
 have hown : ∀ j, (Mf.slv (m p.id)).ownBlock = some j → B ≤ j ∧ j < w.heap.size ∧ j ≠ q ∧ j ≠ b := fun j hj => by
  obtain ⟨cs, hc⟩ := hsl.typed hj
  have h1 := World.ownsRow.lt hsl j hj
  exact ⟨h1.1, h1.2, Mf.apart_of hc h.box (by decide), Mf.apart_map hc hbm⟩
 have hs1 : w.heap.size ≤ w1.heap.size := g1.size
 have hs2 : w1.heap.size ≤ w2.heap.size := g2.by_.size
 have hs3 : w2.heap.size ≤ w3.heap.size := g3.grown.size
 have hql := lt_of_block h.box
 have hbl := h.map.lt
 have hch : ∀ j, j < w.heap.size → some j ≠ (Mf.slv (m p.id)).ownBlock → j ≠ b → j ≠ q → (w3.setCell ⟨q, 1, none⟩ (.int .i64 ((pl : Int) + 1))).heap[j]? = w.heap[j]? := fun j hj hv hb hq => Mf.chain g1 g2 g3 _ hj hv hb hq
 have hbox3 : w3.heap[q]? = some (.cells #[.map (some b), .int .i64 (pl : Int), .int .i64 f, .int .i64 n] 62 (0, 0)) :=
  (g3.grown.block q (by omega) (fun e => hqb (Option.some.inj e))).trans ((g2.by_.block q (by omega) (fun e => (hown q e.symm).2.2.1 rfl)).trans ((g1.block q hql).trans h.box))
 have hv' : ∀ j, v'.ownBlock = some j → (w3.setCell ⟨q, 1, none⟩ (.int .i64 ((pl : Int) + 1))).heap[j]? = w2.heap[j]? ∧ ((Mf.slv (m p.id)).ownBlock = some j ∨ w1.heap.size ≤ j) := fun j hj => by
  have hor : (Mf.slv (m p.id)).ownBlock = some j ∨ w1.heap.size ≤ j := by
   rcases g2.own with e | ⟨i, e, hi⟩
   ·exact .inl (e ▸ hj)
   ·rw [e] at hj
    obtain rfl := Option.some.inj hj
    exact .inr hi
  have hne : j ≠ q ∧ j ≠ b := by
   rcases hor with e | e
   ·exact (hown j e).2.2
   ·exact ⟨by omega, by omega⟩
  have hl2 := (World.ownsRow.lt ho j hj).2
  exact ⟨(Below.heap_setCell _ _ _ _ (by show j ≠ q; exact hne.1)).trans (g3.grown.block j hl2 (fun e => hne.2 (Option.some.inj e))), hor⟩
 have hother : ∀ x u, x ≠ p.id → m x = some u → ∀ j, u.ownBlock = some j → some j ≠ (Mf.slv (m p.id)).ownBlock := fun x u hx hu j hj e => by
  cases hm0 : m p.id with
  | none => rw [hm0] at e; cases e
  | some v =>
    rw [hm0] at e
    exact h.apart x p.id u v hx hu hm0 (hj.trans e)
 refine ⟨⟨?_, hm.same ?_, ?_, ?_, ?_, h.bq, h.bb, ?_, ?_, ?_⟩, ⟨⟨?_, ?_, ?_, ?_, ?_⟩, ?_⟩⟩
 ·exact heap_setCell_same w3 q 1 _ _ _ hbox3
 ·exact Below.heap_setCell _ _ _ _ (by show b ≠ q; exact fun e => hqb e.symm)
 ·intro x v hx
  by_cases e : x = p.id
  ·rw [if_pos e] at hx
   obtain rfl := Option.some.inj hx
   rw [Mf.of_snoc, if_pos e.symm, e]
   exact ⟨ho.at_blk fun j hj => (hv' j hj).1, by simp⟩
  ·rw [if_neg e] at hx
   rw [Mf.of_snoc, if_neg (fun e2 => e e2.symm)]
   obtain ⟨ho1, hne⟩ := h.some_ x v hx
   refine ⟨ho1.at_blk fun j hj => ?_, hne⟩
   obtain ⟨cs, hc⟩ := ho1.typed hj
   exact hch j (World.ownsRow.lt ho1 j hj).2 (hother x v e hx j hj) (Mf.apart_map hc hbm) (Mf.apart_of hc h.box (by decide))
 ·intro x hx
  by_cases e : x = p.id
  ·rw [if_pos e] at hx; cases hx
  ·rw [if_neg e] at hx
   rw [Mf.of_snoc, if_neg (fun e2 => e e2.symm)]
   exact h.none_ x hx
 ·have hkey : ∀ x u, x ≠ p.id → m x = some u → u.ownBlock ≠ v'.ownBlock := fun x u hx hu e => by
   obtain ⟨ho1, hne⟩ := h.some_ x u hu
   obtain ⟨j, hj, _, hjl⟩ := ho1.blk hne
   rcases (hv' j (e ▸ hj)).2 with e2 | e2
   ·exact hother x u hx hu j hj e2.symm
   ·omega
  intro x y u v hxy hu hv e
  by_cases ex : x = p.id
  ·have ey : y ≠ p.id := fun e2 => hxy (ex.trans e2.symm)
   rw [if_pos ex] at hu
   rw [if_neg ey] at hv
   obtain rfl := Option.some.inj hu
   exact hkey y v ey hv e.symm
  ·rw [if_neg ex] at hu
   by_cases ey : y = p.id
   ·rw [if_pos ey] at hv
    obtain rfl := Option.some.inj hv
    exact hkey x u ex hu e
   ·rw [if_neg ey] at hv
    exact h.apart x y u v hxy hu hv e
 ·rw [List.pairwise_append]
  refine ⟨h.asc, List.pairwise_singleton _ _, fun x hx y hy => ?_⟩
  obtain rfl : y = (pl, p) := by simpa using hy
  exact h.lt x hx
 ·intro y hy
  rcases List.mem_append.1 hy with hy | hy
  ·have := h.lt y hy
   omega
  ·obtain rfl : y = (pl, p) := by simpa using hy
   exact Nat.lt_succ_self _
 ·intro y hy
  rcases List.mem_append.1 hy with hy | hy
  ·exact h.keys y hy
  ·obtain rfl : y = (pl, p) := by simpa using hy
   exact hp
 ·exact (g3.grown.os).trans (g2.by_.os.trans g1.os)
 ·exact (g3.grown.tape).trans (g2.by_.tape.trans g1.tape)
 ·exact (g3.grown.output).trans (g2.by_.output.trans g1.output)
 ·have : (w3.setCell ⟨q, 1, none⟩ (.int .i64 ((pl : Int) + 1))).heap.size = w3.heap.size := by simp [World.setCell]
  omega
 ·intro j hj
  have := h.bq
  have := h.bb
  exact hch j (by omega) (fun e => by have := (hown j e.symm).1; omega) (by omega) (by omega)
 ·intro j cs t fr hc h1 h2
  refine hch j (lt_of_block hc) (fun e => ?_) (Mf.apart_map hc hbm) (Mf.apart_of hc h.box h1)
  obtain ⟨cs2, hc2⟩ := hsl.typed e.symm
  exact Mf.apart_of hc hc2 h2 rfl
end
section
open Go.RowKit Go.Maps
theorem Mf.step_op {base : Nat} {w0 : World} {v : Value} {M : List (Nat × Mf.P)} (K : List (Nat × Mf.P)) (hb : base ≤ w0.heap.size) (hown : Mf.Op base w0 v M) (hl : M.length + K.length ≤ 1500000000000)
 {ops : Array Oper} {o : Oper} {a : Act} {Kx : Act → World → Prop} {Q : Exit → Act → World → Prop} {E : Prop} (s x : Operand) (u : Value) (hgd : o.guard = none)
 (ho : o.op = .call { callee := .builtin .append, args := #[s, x], argTypes := #[72, 72] })
 (hs : a.eval s = v) (hx : a.eval x = u) (hu : Dk.Src Mf.lc w0 u K)
 (h : ∀ v' w', Mf.Op base w' v' (M ++ K) → Ty.Grew w0 w' v v' → Kx (a.put o.dst v') w') :
 if Region.wanted o (yielded ops a.tmps) = true then Oper.wp Tryd.prog o a w0 Kx Q else E :=
 Dk.step_appendB 72 _ 88 Tryd.underlying72 Mf.infoL rfl (by decide) Mf.lc_len Mf.lc_one K hb hown (by omega) (by omega) s x u hgd ho hs hx hu h
abbrev Mf.ls (x : Nat × Mf.P) : Array Value := #[.int .i64 (x.1 : Int), .int .i64 x.2.id, .int .i64 x.2.lv, .bool x.2.lo.null, .int .i64 x.2.lo.n, .string x.2.lo.s, .bool x.2.hi.null, .int .i64 x.2.hi.n, .string x.2.hi.s]
theorem Mf.of_len (K : List (Nat × Mf.P)) (x : Int) : (Mf.of K x).length ≤ K.length := List.length_filter_le _ _
theorem Mf.lt_len_aux : ∀ (K : List (Nat × Mf.P)) (lo pl : Nat), (K.Pairwise fun x y => x.1 < y.1) → (∀ y ∈ K, lo ≤ y.1 ∧ y.1 < pl) → K = [] ∨ lo + K.length ≤ pl
 | [], _, _, _, _ => .inl rfl
 | x :: K, lo, pl, ha, hl => by
   rw [List.pairwise_cons] at ha
   have hx := hl x (by simp)
   rcases Mf.lt_len_aux K (x.1 + 1) pl ha.2 (fun y hy => ⟨ha.1 y hy, (hl y (by simp [hy])).2⟩) with rfl | h
   ·exact .inr (by simp; omega)
   ·exact .inr (by simp; omega)
theorem Mf.lt_len {K : List (Nat × Mf.P)} {pl : Nat} (ha : K.Pairwise fun x y => x.1 < y.1) (hl : ∀ y ∈ K, y.1 < pl) : K.length ≤ pl := by
 rcases Mf.lt_len_aux K 0 pl ha (fun y hy => ⟨Nat.zero_le _, hl y hy⟩) with rfl | h
 ·exact Nat.zero_le _
 ·omega
theorem Mf.Bm.put {B : Nat} {w w1 w2 : World} {q b : Nat} {m : Int → Option Value} {K : List (Nat × Mf.P)} {pl : Nat} {f n : Int} (h : Mf.Bm B w q b m K pl f n) (hpl : pl ≤ 1000000000000) {x : Int} (hx : Ty.I64 x) {v' : Value} (g1 : Below w.heap.size w w1)
 (g2 : Ty.Grew w1 w2 (Mf.slv (m x)) v') {M : List (Nat × Mf.P)} (ho : Mf.Op B w2 v' M) :
 ∃ w3, (Instr.mapUpdate 60 (.map (some b)) (.int .i64 x) v').run Tryd.prog w2 = .ok () w3 ∧ Mf.PM w3 b (pl + 1) (fun k => if k = x then some v' else m k) ∧ w2.mapTurned w3 b := by
 obtain ⟨es, cc, hbm⟩ := h.map.isMap
 have hne : some b ≠ (Mf.slv (m x)).ownBlock := fun e => by
  obtain ⟨cs, hc⟩ := (h.slice x).typed e.symm
  exact Mf.apart_map hc hbm rfl
 have hb2 := (g2.by_.block b (Nat.lt_of_lt_of_le h.map.lt g1.size) hne).trans (g1.block b h.map.lt)
 obtain ⟨a, c, e⟩ := ho.form
 exact (h.map.same hb2).store (by unfold maxLen; omega) hx ⟨_, _, _, e⟩
set_option maxHeartbeats 4000000 in
set_option maxRecDepth 100000 in
theorem Mf.add_c {B : Nat} {w : World} {q : Nat} {K : List (Nat × Mf.P)} {pl : Nat} {f n : Int} (h : Mf.Bk B w q K pl f n) (hB : B ≤ w.heap.size) (p : Mf.P) (hp : Ty.I64 p.id) (hpl : pl ≤ 1000000000000) :
 Calls Tryd.prog 27 #[.pointer (some ⟨q, 0, none⟩), p.val] w fun e w' => e = .returned (.tuple #[]) ∧ Mf.Bk B w' q (K ++ [(pl, p)]) (pl + 1) f n ∧ Mf.Tf B w w' := by
 obtain ⟨b, m, h⟩ := h
 have hpn := Mf.PA.new w p 44
 have hA : Below w.heap.size w (w.alloc (.cells (Mf.cs p) 44)) := (Below.refl _ _).alloc (Nat.le_refl _) _
 have hblk := heap_alloc_new w (.cells (Mf.cs p) 44)
 have hsz : (w.alloc (.cells (Mf.cs p) 44)).heap.size = w.heap.size + 1 := World.size_alloc ..
 have h1 := h.kept hA
 have HP := Lib.hid hp
 have HPL := Lib.hid hpl
 have HB := Lib.hid hB
 have HADD := Lib.hid fun (w1 w2 w3 : World) (v' : Value) (g1 : Below w.heap.size w w1) (g2 : Ty.Grew w1 w2 (Mf.slv (m p.id)) v') (ho : Mf.Op B w2 v' (Mf.of K p.id ++ [(pl, p)])) (hm : Mf.PM w3 b (pl + 1) (fun k => if k = p.id then some v' else m k)) (g3 : w2.mapTurned w3 b) => h.added p hp g1 g2 ho hm g3
 have HPUT := Lib.hid fun (w1 w2 : World) (v' : Value) (g1 : Below w.heap.size w w1) (g2 : Ty.Grew w1 w2 (Mf.slv (m p.id)) v') (ho : Mf.Op B w2 v' (Mf.of K p.id ++ [(pl, p)])) => h.put hpl hp g1 g2 ho
 have HLEN : Hid ((Mf.of K p.id).length ≤ 1000000000000) := Lib.hid (by have := Mf.of_len K p.id; have := Mf.lt_len h.asc h.lt; omega)
 have HSL := Lib.hid (h.slice p.id)
 have hpl9 : (pl : Int) ≤ 1000000000000 := by omega
 obtain ⟨es, cc, hbm⟩ := h.map.isMap
 have hqb : q ≠ b := Mf.apart_map h.box hbm
 have hvq : ∀ j, (Mf.slv (m p.id)).ownBlock = some j → j < w.heap.size ∧ j ≠ q ∧ j ≠ b := fun j hj => by
  obtain ⟨cs, hc⟩ := (h.slice p.id).typed hj
  exact ⟨(World.ownsRow.lt (h.slice p.id) j hj).2, Mf.apart_of hc h.box (by decide), Mf.apart_map hc hbm⟩
 have hbl := h.map.lt
 have hql := lt_of_block h.box
 obtain ⟨w1, hw1⟩ : ∃ w1, w1 = w.alloc (.cells (Mf.cs p) 44) := ⟨_, rfl⟩
 rw [← hw1] at hpn hA hblk hsz h1
 have HCELL : Hid (∀ W : World, W.heap[q]? = w1.heap[q]? → W.heap[w.heap.size]? = w1.heap[w.heap.size]? → W.cell? ⟨q, 0, none⟩ = some (.map (some b)) ∧ W.cell? ⟨q, 1, none⟩ = some (.int .i64 (pl : Int)) ∧ W.cell? ⟨w.heap.size, 0, none⟩ = some (.int .i64 p.id) ∧ W.cell? ⟨w.heap.size, 1, none⟩ = some (.int .i64 p.lv) ∧ W.cell? ⟨w.heap.size, 2, none⟩ = some (.bool p.lo.null) ∧ W.cell? ⟨w.heap.size, 3, none⟩ = some (.int .i64 p.lo.n) ∧ W.cell? ⟨w.heap.size, 4, none⟩ = some (.string p.lo.s) ∧ W.cell? ⟨w.heap.size, 5, none⟩ = some (.bool p.hi.null) ∧ W.cell? ⟨w.heap.size, 6, none⟩ = some (.int .i64 p.hi.n) ∧ W.cell? ⟨w.heap.size, 7, none⟩ = some (.string p.hi.s)) := Lib.hid fun W e1 e2 => by
  obtain ⟨⟨c0, c1, -⟩, -⟩ := h1.four
  have k : ∀ i, W.cell? ⟨w.heap.size, i, none⟩ = w1.cell? ⟨w.heap.size, i, none⟩ := fun i => World.cell?_of_block (a := ⟨w.heap.size, i, none⟩) e2
  have k1 : ∀ i, W.cell? ⟨q, i, none⟩ = w1.cell? ⟨q, i, none⟩ := fun i => World.cell?_of_block (a := ⟨q, i, none⟩) e1
  exact ⟨(k1 0).trans c0, (k1 1).trans c1, (k 0).trans hpn.c0, (k 1).trans hpn.c1, (k 2).trans hpn.c2, (k 3).trans hpn.c3, (k 4).trans hpn.c4, (k 5).trans hpn.c5, (k 6).trans hpn.c6, (k 7).trans hpn.c7⟩
 have HS1 := Lib.hid fun (W : World) (g : Below w1.heap.size w1 W) => HCELL.out W (g.block q (by omega)) (g.block w.heap.size (by omega))
 have HS2 := Lib.hid fun (wa W : World) (v' : Value) (ga : Below w1.heap.size w1 wa) (g : Ty.Grew wa W (Mf.slv (m p.id)) v') => HCELL.out W
  ((g.by_.block q (by have := ga.size; omega) (fun e => (hvq q e.symm).2.1 rfl)).trans (ga.block q (by omega))) ((g.by_.block w.heap.size (by have := ga.size; omega) (fun e => by have := (hvq _ e.symm).1; omega)).trans (ga.block w.heap.size (by omega)))
 have HS3 := Lib.hid fun (wa W W3 : World) (v' : Value) (ga : Below w1.heap.size w1 wa) (g : Ty.Grew wa W (Mf.slv (m p.id)) v') (g3 : W.mapTurned W3 b) => HCELL.out W3
  ((g3.grown.block q (by have := ga.size; have := g.by_.size; omega) (fun e => hqb (Option.some.inj e))).trans ((g.by_.block q (by have := ga.size; omega) (fun e => (hvq q e.symm).2.1 rfl)).trans (ga.block q (by omega))))
  ((g3.grown.block w.heap.size (by have := ga.size; have := g.by_.size; omega) (fun e => by have := Option.some.inj e; omega)).trans ((g.by_.block w.heap.size (by have := ga.size; omega) (fun e => by have := (hvq _ e.symm).1; omega)).trans (ga.block w.heap.size (by omega))))
 have HLK := Lib.hid fun (W : World) (g : Below w1.heap.size w1 W) => (h1.kept g).map.look hp
 have HFZ : Hid (∀ (wa W W3 : World) (v' : Value), Below w1.heap.size w1 wa → Ty.Grew wa W (Mf.slv (m p.id)) v' → W.mapTurned W3 b → W3.frozen? ⟨q, 1, none⟩ = false) := Lib.hid fun wa W W3 v' ga g g3 => by
  have hh := (g3.grown.block q (by have := ga.size; have := g.by_.size; omega) (fun e => hqb (Option.some.inj e))).trans ((g.by_.block q (by have := ga.size; omega) (fun e => (hvq q e.symm).2.1 rfl)).trans ((ga.block q (by omega)).trans h1.box))
  exact frozen_of_row W3 q 1 _ _ hh
 have HA := Lib.hid hA
 obtain ⟨av, cv, hav⟩ := (h.slice p.id).form
 rw [hav] at HADD HPUT HS2 HS3 HLK HFZ HSL
 clear h hB hp hpl hbm hqb hvq hbl hql hpn hblk h1 HCELL hA
 obtain ⟨id, lv, ⟨an, ai, sa⟩, ⟨bn, bi, sb⟩⟩ := p
 unfold Mf.P.val Mf.cs
 unfold Mf.cs at hw1
 simp only at HADD HPUT HS1 HS2 HS3 HLK HLEN HSL hav hw1 ⊢
 generalize (Mf.of K id) = KI at HADD HPUT HS2 HS3 HLK HLEN HSL HFZ
 clear hav
 go_enter Tryd.func27, Tryd.ntmps27
 go_wp2_with fail
 rw [← hw1]
 clear hw1
 have HD0 : Hid (Below w1.heap.size w1 w1.drew) := Lib.hid (Kn.below_drewN (Below.refl _ _) 1)
 have HDA : Hid (Below w1.heap.size w1 (w1.drew.alloc (.cells #[.int .i64 (pl : Int), .int .i64 id, .int .i64 lv, .bool an, .int .i64 ai, .string sa, .bool bn, .int .i64 bi, .string sb] 75))) := Lib.hid (HD0.out.alloc HD0.out.size _)
 have HSRC : Hid (Dk.Src Mf.lc (w1.drew.alloc (.cells #[.int .i64 (pl : Int), .int .i64 id, .int .i64 lv, .bool an, .int .i64 ai, .string sa, .bool bn, .int .i64 bi, .string sb] 75)) (.slice (some ⟨w1.drew.heap.size, 0, none⟩) 1 1) [(pl, ⟨id, lv, ⟨an, ai, sa⟩, ⟨bn, bi, sb⟩⟩)]) := Lib.hid (Dk.src_one w1.drew _ _ rfl _)
 have HOWN : Hid (Mf.Op B (w1.drew.alloc (.cells #[.int .i64 (pl : Int), .int .i64 id, .int .i64 lv, .bool an, .int .i64 ai, .string sa, .bool bn, .int .i64 bi, .string sb] 75)) (.slice av KI.length cv) KI) := Lib.hid ((HSL.out.kept HA.out).kept HDA.out)
 have HBS : Hid (B ≤ (w1.drew.alloc (.cells #[.int .i64 (pl : Int), .int .i64 id, .int .i64 lv, .bool an, .int .i64 ai, .string sa, .bool bn, .int .i64 bi, .string sb] 75)).heap.size) := Lib.hid (Nat.le_trans HB.out (Nat.le_trans HA.out.size HDA.out.size))
 have hw9 : IntKind.i64.wrap ((pl : Int) + 1) = (pl : Int) + 1 := by rw [IntKind.wrap_i64]; omega
 have l1 := HLK.out w1.drew HD0.out
 have l2 := HLK.out (w1.alloc (.cells #[.int .i64 (pl : Int), .int .i64 id, .int .i64 lv, .bool an, .int .i64 ai, .string sa, .bool bn, .int .i64 bi, .string sb] 75)).drew HDA.out
 clear HSL HLK hsz
 go_region_held3 (fun W => W.cell? ⟨q, 0, none⟩ = some (.map (some b)) ∧ W.cell? ⟨q, 1, none⟩ = some (.int .i64 (pl : Int)) ∧ W.cell? ⟨w.heap.size, 0, none⟩ = some (.int .i64 id) ∧ W.cell? ⟨w.heap.size, 1, none⟩ = some (.int .i64 lv) ∧ W.cell? ⟨w.heap.size, 2, none⟩ = some (.bool an) ∧ W.cell? ⟨w.heap.size, 3, none⟩ = some (.int .i64 ai) ∧ W.cell? ⟨w.heap.size, 4, none⟩ = some (.string sa) ∧ W.cell? ⟨w.heap.size, 5, none⟩ = some (.bool bn) ∧ W.cell? ⟨w.heap.size, 6, none⟩ = some (.int .i64 bi) ∧ W.cell? ⟨w.heap.size, 7, none⟩ = some (.string sb))
  (first
   | exact HS1.out _ HD0.out
   | exact HS1.out _ HDA.out
   | exact HS3.out _ _ _ _ HDA.out G2.out HT3.out
   | exact HS2.out _ _ _ HDA.out G2.out)
  (first
   | (refine Mf.step_op [(pl, ⟨id, lv, ⟨an, ai, sa⟩, ⟨bn, bi, sb⟩⟩)] HBS.out HOWN.out (by have := HLEN.out; simp only [List.length_singleton]; omega) _ _ _ (by rfl) (by rfl) (by rfl) (by rfl) HSRC.out ?_
      intro v2 w2 o2 g2
      obtain ⟨w3, hrun, hpm, ht⟩ := HPUT.out _ w2 v2 (HA.out.trans (HDA.out.mono HA.out.size)) g2 o2
      have O2 := Lib.hid o2
      have G2 := Lib.hid g2
      have HPM := Lib.hid hpm
      have HT3 := Lib.hid ht
      have f1 := HFZ.out _ _ _ _ HDA.out g2 ht
      clear o2 g2 hpm ht))
 all_goals
  have HEND := Lib.hid (HADD.out _ _ _ _ (HA.out.trans (HDA.out.mono HA.out.size)) G2.out O2.out HPM.out HT3.out)
  clear l1 l2 hrun
  (try go_wp2)
  go_end0
  exact ⟨rfl, ⟨_, _, HEND.out.1⟩, HEND.out.2⟩
end
section
open Go.RowKit Go.Maps
theorem Mf.Bm.dropped {B : Nat} {w w' : World} {q b : Nat} {m : Int → Option Value} {K : List (Nat × Mf.P)} {pl : Nat} {f n : Int} (h : Mf.Bm B w q b m K pl f n) {x : Int} (hm : Mf.PM w' b pl (fun k => if k = x then none else m k)) (ht : w.mapTurned w' b) :
 Mf.Bm B w' q b (fun k => if k = x then none else m k) (Mf.off K x) pl f n ∧ Mf.Tf B w w' := by
 obtain ⟨es, cc, hbm⟩ := h.map.isMap
 have hqb : q ≠ b := Mf.apart_map h.box hbm
 have g := ht.grown
 have hother : ∀ j, j < w.heap.size → j ≠ b → w'.heap[j]? = w.heap[j]? := fun j hj hne => g.block j hj (fun e => hne (Option.some.inj e))
 refine ⟨⟨(hother q (lt_of_block h.box) hqb).trans h.box, hm, ?_, ?_, ?_, h.bq, h.bb, h.asc.sublist List.filter_sublist, fun y hy => h.lt y (List.mem_filter.1 hy).1, fun y hy => h.keys y (List.mem_filter.1 hy).1⟩, ⟨⟨g.os, g.tape, g.output, g.size, fun j hj => ?_⟩, fun j cs t fr hc _ _ => hother j (lt_of_block hc) (Mf.apart_map hc hbm)⟩⟩
 ·intro y v hy
  by_cases e : y = x
  ·rw [if_pos e] at hy; cases hy
  ·rw [if_neg e] at hy
   obtain ⟨ho, hne⟩ := h.some_ y v hy
   rw [Mf.of_off, if_neg e]
   refine ⟨ho.at_blk fun j hj => ?_, hne⟩
   obtain ⟨cs, hc⟩ := ho.typed hj
   exact hother j (lt_of_block hc) (Mf.apart_map hc hbm)
 ·intro y hy
  rw [Mf.of_off]
  by_cases e : y = x
  ·rw [if_pos e]
  ·rw [if_neg e] at hy
   rw [if_neg e]
   exact h.none_ y hy
 ·intro y z u v hyz hu hv
  by_cases e : y = x
  ·rw [if_pos e] at hu; cases hu
  ·rw [if_neg e] at hu
   by_cases e2 : z = x
   ·rw [if_pos e2] at hv; cases hv
   ·rw [if_neg e2] at hv
    exact h.apart y z u v hyz hu hv
 ·have := h.bb
  have := h.map.lt
  exact hother j (by omega) (by omega)
theorem Mf.Bm.rebox {B : Nat} {w w' : World} {q b : Nat} {m : Int → Option Value} {K : List (Nat × Mf.P)} {pl : Nat} {f n f' n' : Int} (h : Mf.Bm B w q b m K pl f n) (hbox : w'.heap[q]? = some (.cells #[.map (some b), .int .i64 (pl : Int), .int .i64 f', .int .i64 n'] 62 (0, 0)))
 (ho : ∀ j, j ≠ q → w'.heap[j]? = w.heap[j]?) (h1 : w'.os = w.os) (h2 : w'.tape = w.tape) (h3 : w'.output = w.output) (h4 : w'.heap.size = w.heap.size) : Mf.Bm B w' q b m K pl f' n' ∧ Mf.Tf B w w' := by
 obtain ⟨es, cc, hbm⟩ := h.map.isMap
 have hqb : q ≠ b := Mf.apart_map h.box hbm
 refine ⟨⟨hbox, h.map.same (ho b (fun e => hqb e.symm)), fun x v hx => ?_, h.none_, h.apart, h.bq, h.bb, h.asc, h.lt, h.keys⟩, ⟨⟨h1, h2, h3, by omega, fun j hj => ho j (by have := h.bq; omega)⟩, fun j cs t fr hc ht _ => ho j (Mf.apart_of hc h.box ht)⟩⟩
 obtain ⟨ho1, hne⟩ := h.some_ x v hx
 refine ⟨ho1.at_blk fun j hj => ?_, hne⟩
 obtain ⟨cs, hc⟩ := ho1.typed hj
 exact ho j (Mf.apart_of hc h.box (by decide))
theorem Mf.below_reg3 {w w' : World} (h : ∃ p : Regrown, w' = Sort.grow (redrawn w p.d) p.os) : Below w.heap.size w w' := by
 obtain ⟨p, rfl⟩ := h
 exact below_regrown w p.d p.os
def Mf.GotB (B : Nat) (w : World) (q : Nat) (pl : Nat) (r : Option Mf.S) (e : Ending) (w' : World) : Prop :=
 Mf.Tf B w w' ∧ (r = none ∧ e = .returned (.bool false) ∨ ∃ t K' pl', r = some t ∧ e = .returned (.bool true) ∧ Mf.Bk B w' q K' pl' t.floor t.next ∧ K'.map (·.2) = t.parts ∧ pl' ≤ pl + 1000)
theorem Mf.part_id {p : Mf.P} (h : Mf.part p = true) : Mf.nm p.id = true := by
 unfold Mf.part at h
 simp only [Bool.and_eq_true] at h
 exact h.1.1.1.1
theorem Mf.nm_i64 {x : Int} (h : Mf.nm x = true) : Ty.I64 x := by
 have := (Mf.nm_iff x).1 h
 unfold Ty.I64
 omega
set_option maxHeartbeats 16000000 in
set_option maxRecDepth 100000 in
theorem Mf.bapply_c {B : Nat} {w : World} {q : Nat} {K : List (Nat × Mf.P)} {pl : Nat} {f n : Int} (h : Mf.Bk B w q K pl f n) (hB : B ≤ w.heap.size) (vd va : Value) (e : Mf.E) (hd : Mf.Is w vd e.drop) (ha : Mf.Ps w va e.add) (hst : ∀ W, Mf.Tf B w W → Mf.Is W vd e.drop ∧ Mf.Ps W va e.add) (hpl : pl ≤ 999999998000) :
 Calls Tryd.prog 15 #[.pointer (some ⟨q, 0, none⟩), .agg #[vd, va, .int .i64 e.floor, .int .i64 e.next]] w (Mf.GotB B w q pl (Mf.ap ⟨K.map (·.2), f, n⟩ e)) := by
 have HNO : Hid (Mf.right e = false ∨ e.floor < f ∨ e.next < n → Mf.ap ⟨K.map (·.2), f, n⟩ e = none) := Lib.hid (Mf.ap_not (s := ⟨K.map (·.2), f, n⟩))
 have HIS := Lib.hid fun h1 h2 h3 => Mf.ap_is (s := ⟨K.map (·.2), f, n⟩) (e := e) h1 h2 h3
 have HRT := Lib.hid ((Mf.right_iff e).1)
 have hE := Mf.EA.new w vd va e.floor e.next 37
 have hb : Below w.heap.size w (w.alloc (.cells #[vd, va, .int .i64 e.floor, .int .i64 e.next] 37)) := (Below.refl _ w).alloc (Nat.le_refl _) _
 have hT0 : Mf.Tf B w (w.alloc (.cells #[vd, va, .int .i64 e.floor, .int .i64 e.next] 37)) := Mf.Tf.of hb hB
 have hEH := heap_alloc_new w (.cells #[vd, va, .int .i64 e.floor, .int .i64 e.next] 37)
 have hk0 := h.kept hb
 have CR := Lib.hid fun (W : World) (g : Below w.heap.size w W) => Mf.rightEdit_c vd va e W (hd.kept g) (ha.kept g)
 obtain ⟨D, A, fl, nx⟩ := e
 simp only at hE hb hT0 hEH hk0 CR HNO HIS HRT hd ha hst ⊢
 have hd1 := hd.kept hb
 have ha1 := ha.kept hb
 obtain ⟨ad, cd, rfl, -, -⟩ := id hd
 obtain ⟨aa, ca, rfl, -⟩ := ha.form
 obtain ⟨w0, hw0⟩ : ∃ w0, w0 = w.alloc (.cells #[.slice ad D.length cd, .slice aa A.length ca, .int .i64 fl, .int .i64 nx] 37) := ⟨_, rfl⟩
 rw [← hw0] at hE hb hT0 hEH hk0 hd1 ha1
 have HEA := Lib.hid hE
 have HT0 := Lib.hid hT0
 have HB0 := Lib.hid hb
 have HK0 := Lib.hid hk0
 have HB := Lib.hid hB
 have HPL := Lib.hid hpl
 have HEDT : Hid (∀ W, Mf.Tf B w0 W → Mf.EA W w.heap.size (.slice ad D.length cd) (.slice aa A.length ca) fl nx) := Lib.hid fun W g => by
  have hs := g.cells _ _ _ _ hEH (by decide) (by decide)
  have k : ∀ i, W.cell? ⟨w.heap.size, i, none⟩ = w0.cell? ⟨w.heap.size, i, none⟩ := fun i => World.cell?_of_block (a := ⟨w.heap.size, i, none⟩) hs
  exact ⟨(k 0).trans hE.c0, (k 1).trans hE.c1, (k 2).trans hE.c2, (k 3).trans hE.c3⟩
 have HDT : Hid (∀ W, Mf.Tf B w0 W → ∀ (i : Nat) (x : Int), D[i]? = some x → ∃ b o, ad = some ⟨b, o, none⟩ ∧ W.cell? ⟨b, o + i, none⟩ = some (.int .i64 x)) := Lib.hid fun W g i x hx => by
  obtain ⟨a', c', e, -, h⟩ := (hst W (HT0.out.trans g)).1
  simp only [Value.slice.injEq, true_and] at e
  obtain ⟨rfl, rfl⟩ := e
  rcases h with ⟨h0, -⟩ | ⟨b, o, cs, fr, rfl, -, _, h⟩
  ·rw [h0] at hx; cases hx
  ·exact ⟨b, o, rfl, Mf.Is.num h hx⟩
 have HAT : Hid (∀ W, Mf.Tf B w0 W → ∀ (i : Nat) (p : Mf.P), A[i]? = some p → ∃ b o, aa = some ⟨b, o, none⟩ ∧ Mf.PA W b (o + i * 8) p) := Lib.hid fun W g i p hp => Mf.Ps.at_ (hst W (HT0.out.trans g)).2 hp
 have HRTRUE := Lib.hid fun (r : Bool) => (rfl : r = r)
 generalize hRES : Mf.ap ⟨K.map (·.2), f, n⟩ ⟨D, A, fl, nx⟩ = RES at HNO HIS ⊢
 generalize hRR : Mf.right ⟨D, A, fl, nx⟩ = R at CR HNO HIS HRT
 clear hRR hRES h hB hd ha hst hpl hT0 hEH hd1 ha1
 obtain ⟨b, m, hbm⟩ := hk0
 obtain ⟨⟨c0, c1, c2, c3⟩, -⟩ := hbm.four
 obtain ⟨e0, e1, e2, e3⟩ := hE
 have HF4 := Lib.hid hbm.four
 have HBM := Lib.hid hbm
 have HBAD : Hid (RES = none → ∀ W, Mf.Tf B w0 W → Mf.GotB B w q pl RES (.returned (.bool false)) W) := Lib.hid fun hr W g => ⟨HT0.out.trans g, .inl ⟨hr, rfl⟩⟩
 have hB0 : B ≤ w0.heap.size := Nat.le_trans HB.out hb.size
 clear hbm hb HRTRUE
 have hways : (R = false) ∨ (R = true ∧ fl < f) ∨ (R = true ∧ ¬ fl < f ∧ nx < n) ∨ (R = true ∧ ¬ fl < f ∧ ¬ nx < n) := by
  cases R
  ·exact .inl rfl
  ·by_cases h1 : fl < f
   ·exact .inr (.inl ⟨rfl, h1⟩)
   ·by_cases h2 : nx < n
    ·exact .inr (.inr (.inl ⟨rfl, h1, h2⟩))
    ·exact .inr (.inr (.inr ⟨rfl, h1, h2⟩))
 have E2 := fun d os => cell_regrown e2 d os
 have E3 := fun d os => cell_regrown e3 d os
 have E0 := fun d os => cell_regrown e0 d os
 have E1 := fun d os => cell_regrown e1 d os
 have C2 := fun d os => cell_regrown c2 d os
 have C3 := fun d os => cell_regrown c3 d os
 have CRR : Hid (∀ z : Regrown, Calls Tryd.prog 20 #[.agg #[.slice ad D.length cd, .slice aa A.length ca, .int .i64 fl, .int .i64 nx]] (Sort.grow (redrawn w0 z.d) z.os) fun e w'' => e = .returned (.bool R) ∧ ∃ p : Regrown, w'' = Sort.grow (redrawn w0 p.d) p.os) := Lib.hid fun z => Calls.regrown_of (CR.out _ (HB0.out.trans ((below_regrown w0 z.d z.os).mono HB0.out.size)))
 clear CR
 rcases hways with rfl | ⟨rfl, h1⟩ | ⟨rfl, h1, h2⟩ | ⟨rfl, h1, h2⟩
 ·have HN := Lib.hid (HBAD.out (HNO.out (.inl rfl)))
  go_enter Tryd.func15, Tryd.ntmps15
  go_wp2_with fail
  rw [← hw0]
  clear e0 e1 e2 e3 c0 c1 c2 c3 hw0
  refine wp_region_quiet_below (by kernel_rfl) (by kernel_rfl) ?_
  repeat (go_big_quiet_step (first | with_reducible exact CRR.out _))
  refine wpQuiet_nil ?_
  intro wq hw'
  have HF := Lib.hid (HN.out wq (Mf.Tf.of (Mf.below_reg3 hw') hB0))
  clear hw' E0 E1 E2 E3 C2 C3
  go_wp2
  go_ret
  exact HF.out
 ·have HN := Lib.hid (HBAD.out (HNO.out (.inr (.inl h1))))
  have hd1 : decide (fl < f) = true := decide_eq_true h1
  go_enter Tryd.func15, Tryd.ntmps15
  go_wp2_with fail
  rw [← hw0]
  clear e0 e1 e2 e3 c0 c1 c2 c3 hw0
  refine wp_region_quiet_below (by kernel_rfl) (by kernel_rfl) ?_
  repeat (go_big_quiet_step (first | with_reducible exact CRR.out _))
  refine wpQuiet_nil ?_
  intro wq hw'
  have HF := Lib.hid (HN.out wq (Mf.Tf.of (Mf.below_reg3 hw') hB0))
  clear hw' E0 E1 E2 E3 C2 C3
  go_wp2
  go_ret
  exact HF.out
 ·have HN := Lib.hid (HBAD.out (HNO.out (.inr (.inr h2))))
  have hd1 : decide (fl < f) = false := decide_eq_false h1
  have hd2 : decide (nx < n) = true := decide_eq_true h2
  go_enter Tryd.func15, Tryd.ntmps15
  go_wp2_with fail
  rw [← hw0]
  clear e0 e1 e2 e3 c0 c1 c2 c3 hw0
  refine wp_region_quiet_below (by kernel_rfl) (by kernel_rfl) ?_
  repeat (go_big_quiet_step (first | with_reducible exact CRR.out _))
  refine wpQuiet_nil ?_
  intro wq hw'
  have HF := Lib.hid (HN.out wq (Mf.Tf.of (Mf.below_reg3 hw') hB0))
  clear hw' E0 E1 E2 E3 C2 C3
  go_wp2
  go_ret
  exact HF.out
 ·have HRES := Lib.hid (HIS.out rfl h1 h2)
  have hd1 : decide (fl < f) = false := decide_eq_false h1
  have hd2 : decide (nx < n) = false := decide_eq_false h2
  obtain ⟨r1, r2, r3, r4, r5, r6⟩ := HRT.out rfl
  have HR3 := Lib.hid r3
  have HR4 := Lib.hid r4
  have HN : Hid (D.length ≤ 1000 ∧ A.length ≤ 1000) := Lib.hid ⟨r1, r2⟩
  have hl1 : (D.length : Int) ≤ 1000 := by omega
  have hl2 : (A.length : Int) ≤ 1000 := by omega
  clear HNO HIS HRT r1 r2 r3 r4 r5 r6
  go_enter Tryd.func15, Tryd.ntmps15
  go_wp2_with fail
  rw [← hw0]
  clear e0 e1 e2 e3 c0 c1 c2 c3 hw0
  refine wp_region_quiet_below (by kernel_rfl) (by kernel_rfl) ?_
  repeat (go_big_quiet_step (first | with_reducible exact CRR.out _))
  refine wpQuiet_nil ?_
  intro wq hw'
  have HTQ := Lib.hid (Mf.Tf.of (Mf.below_reg3 hw') hB0)
  have HBQ : Hid (Mf.Bk B wq q K pl f n) := Lib.hid ⟨b, m, HBM.out.kept (Mf.below_reg3 hw')⟩
  clear hw' E0 E1 E2 E3 C2 C3 CRR hd1 hd2 h1 h2 HBM HF4 HK0
  obtain ⟨e0, e1, e2, e3⟩ := HEDT.out wq HTQ.out
  go_wp2_with fail
  clear e0 e1 e2 e3
  go_loopw [33] (fun i wr => ∃ (k : Nat) (K1 : List (Nat × Mf.P)), k ≤ D.length ∧ i = .int .i64 k ∧ Mf.Bk B wr q K1 pl f n ∧ Mf.Tf B w0 wr ∧ Mf.dr (K1.map (·.2)) (D.drop k) = Mf.dr (K.map (·.2)) D) (fun i _ => D.length - (intOf i).toNat)
  case atStart => exact ⟨0, K, Nat.zero_le _, rfl, HBQ.out, HTQ.out, rfl⟩
  case round =>
   obtain ⟨k, K1, hk, rfl, hK, hT, hdr⟩ := hrel
   have hk0 : (0 : Int) ≤ (k : Int) := by omega
   have HK := Lib.hid hK
   have HT := Lib.hid hT
   have HDR := Lib.hid hdr
   by_cases hkl : k < D.length
   ·have hx := List.getElem?_eq_getElem hkl
    have hmem := List.getElem_mem hkl
    generalize D[k] = d at hx hmem
    have hdi := Mf.nm_i64 (HR3.out d hmem)
    obtain ⟨b1, o1, rfl, x0⟩ := HDT.out wr hT k d hx
    have HST := Lib.hid (Mf.dr_step (L := K1.map (·.2)) hx)
    have hki : (k : Int) < (D.length : Int) := by omega
    have CH := Mf.has_c hK d hdi
    cases hh : Mf.has (K1.map (·.2)) d
    ·rw [hh] at CH
     have HF := Lib.hid (HBAD.out (by
      have e : Mf.dr (K.map (·.2)) D = none := by rw [← HDR.out, HST.out, hh]; rfl
      simp only [HRES.out, e]) wr HT.out)
     clear hh hx hmem hdi hK hT hdr
     go_wp2_with fail
     with_reducible refine CH.mono ?_
     rintro e w3 ⟨rfl, h9⟩
     subst w3
     go_wp2
     go_ret
     exact HF.out
    ·rw [hh] at CH
     have HNX : Hid (Mf.dr ((Mf.off K1 d).map (·.2)) (D.drop (k + 1)) = Mf.dr (K.map (·.2)) D) := Lib.hid (by rw [Mf.off_wo, ← HDR.out, HST.out, hh]; rfl)
     obtain ⟨bb, mm, hbm⟩ := hK
     obtain ⟨⟨c0, -⟩, -⟩ := hbm.four
     obtain ⟨w3, hrun, hpm, ht⟩ := hbm.map.drop hdi 0
     obtain ⟨hbm3, ht3⟩ := hbm.dropped hpm ht
     have HB3 : Hid (Mf.Bk B w3 q (Mf.off K1 d) pl f n) := Lib.hid ⟨bb, _, hbm3⟩
     have HT3 := Lib.hid (HT.out.trans ht3)
     clear hh hx hmem hdi hT hdr hbm hpm ht hbm3 ht3
     go_wp2_with fail
     with_reducible refine CH.mono ?_
     rintro e w4 ⟨rfl, h9⟩
     subst w4
     clear CH
     go_wp2
     go_roundw
     case rel => exact ⟨k + 1, _, by omega, by simp, HB3.out, HT3.out, HNX.out⟩
     case measure => simp [intOf]; omega
   ·obtain rfl : k = D.length := by omega
    have hki : ¬ (D.length : Int) < (D.length : Int) := by omega
    have HDM : Hid (Mf.dr (K.map (·.2)) D = some (K1.map (·.2))) := Lib.hid (by rw [← hdr, Mf.dr_end (by omega)])
    obtain ⟨e0, e1, e2, e3⟩ := HEDT.out wr hT
    clear hk hkl hk0 hK hT hdr HDR hl1
    go_wp2_with fail
    clear e0 e1 e2 e3 hki
    have HKM := Lib.hid HK.out
    have HTM := Lib.hid HT.out
    go_loopw [50] (fun i wr => ∃ (k : Nat) (K2 : List (Nat × Mf.P)), k ≤ A.length ∧ i = .int .i64 k ∧ Mf.Bk B wr q K2 (pl + k) f n ∧ Mf.Tf B w0 wr ∧ Mf.ad nx (K2.map (·.2)) (A.drop k) = Mf.ad nx (K1.map (·.2)) A) (fun i _ => A.length - (intOf i).toNat)
    case atStart => exact ⟨0, K1, Nat.zero_le _, rfl, HKM.out, HTM.out, rfl⟩
    case round =>
     obtain ⟨k, K2, hk, rfl, hK, hT, had⟩ := hrel
     have hk0 : (0 : Int) ≤ (k : Int) := by omega
     have HK := Lib.hid hK
     have HT := Lib.hid hT
     have HAD := Lib.hid had
     obtain ⟨e0, e1, e2, e3⟩ := HEDT.out wr hT
     by_cases hkl : k < A.length
     ·have hx := List.getElem?_eq_getElem hkl
      have hmem := List.getElem_mem hkl
      generalize A[k] = p at hx hmem
      obtain ⟨b1, o1, rfl, ⟨p0, p1, p2, p3, p4, p5, p6, p7⟩⟩ := HAT.out wr hT k p hx
      have HST := Lib.hid (Mf.ad_step (n := nx) (L := K2.map (·.2)) hx)
      have hki : (k : Int) < (A.length : Int) := by omega
      have hpi := Mf.nm_i64 (by have := (Mf.part_id (HR4.out p hmem)); exact this : Mf.nm p.id = true)
      have hA : Below wr.heap.size wr (wr.alloc (.cells (Mf.cs p) 44)) := (Below.refl _ _).alloc (Nat.le_refl _) _
      have hBr : B ≤ wr.heap.size := Nat.le_trans hB0 hT.below.size
      have HTA := Lib.hid (hT.alloc hB0 (.cells (Mf.cs p) 44))
      have hpn := Mf.PA.new wr p 44
      have hea := (HEDT.out wr hT).kept hA
      have CH := Mf.has_c (hK.kept hA) p.id hpi
      have CADD := Mf.add_c (hK.kept hA) (Nat.le_trans hBr hA.size) p hpi (by have := HPL.out; have := HN.out; omega)
      have HBD := Lib.hid fun (h : nx ≤ p.id ∨ Mf.has (K2.map (·.2)) p.id = true) => HBAD.out (by
       have e : Mf.ad nx (K1.map (·.2)) A = none := by rw [← HAD.out, HST.out, if_pos h]
       simp only [HRES.out, HDM.out, e])
      have HNX : Hid (¬ (nx ≤ p.id ∨ Mf.has (K2.map (·.2)) p.id = true) → Mf.ad nx ((K2 ++ [(pl + k, p)]).map (·.2)) (A.drop (k + 1)) = Mf.ad nx (K1.map (·.2)) A) := Lib.hid fun h => by rw [← HAD.out, HST.out, if_neg h, List.map_append]; rfl
      generalize hH : Mf.has (K2.map (·.2)) p.id = HH at CH HBD HNX
      obtain ⟨id, lv, ⟨an, ai, sa⟩, ⟨bn, bi, sb⟩⟩ := p
      unfold Mf.P.val Mf.cs at CADD
      unfold Mf.cs at hA HTA hpn hea CH
      simp only at p0 p1 p2 p3 p4 p5 p6 p7 HBD HNX hpn hea CH CADD HTA hA
      obtain ⟨f0, f1, f2, f3⟩ := hea
      obtain ⟨s0, s1, s2, s3, s4, s5, s6, s7⟩ := hpn
      clear hx hmem hpi hK hT had hBr hA hH HST
      by_cases hni : nx ≤ id
      ·have HF := Lib.hid (HBD.out (.inl hni) _ HTA.out)
       go_wp2
       go_ret
       exact HF.out
      ·cases HH
       ·have HNY := Lib.hid (HNX.out (by rintro (h | h); exact hni h; cases h))
        go_wp2_with fail
        with_reducible refine CH.mono ?_
        rintro e w4 ⟨rfl, h9⟩
        subst w4
        go_wp2_with fail
        with_reducible refine CADD.mono ?_
        rintro e w5 ⟨rfl, hK5, hT5⟩
        have HK5 := Lib.hid hK5
        have HT5 := Lib.hid (HTA.out.trans hT5)
        clear hK5 hT5 CH CADD
        go_wp2
        go_roundw
        case rel => exact ⟨k + 1, _, by omega, by simp, HK5.out, HT5.out, HNY.out⟩
        case measure => simp [intOf]; omega
       ·have HF := Lib.hid (HBD.out (.inr rfl) _ HTA.out)
        go_wp2_with fail
        with_reducible refine CH.mono ?_
        rintro e w4 ⟨rfl, h9⟩
        subst w4
        go_wp2
        go_ret
        exact HF.out
     ·obtain rfl : k = A.length := by omega
      have hki : ¬ (A.length : Int) < (A.length : Int) := by omega
      have HRS : Hid (RES = some ⟨K2.map (·.2), fl, nx⟩) := Lib.hid (by
       have e : Mf.ad nx (K1.map (·.2)) A = some (K2.map (·.2)) := by rw [← HAD.out, Mf.ad_end (by omega)]
       simp only [HRES.out, HDM.out, e])
      obtain ⟨bb, mm, hbm⟩ := hK
      obtain ⟨⟨c0, c1, c2, c3⟩, z1, z2, z3⟩ := hbm.four
      have HBM := Lib.hid hbm
      clear hk hkl hk0 hT had hbm
      go_wp2_with fail
      go_region
      have HEND : Hid (∀ W : World, W = ((wr.setCell ⟨q, 2, none⟩ (.int .i64 fl)).setCell ⟨q, 3, none⟩ (.int .i64 nx)).drew → Mf.GotB B w q pl RES (.returned (.bool true)) W) := Lib.hid fun W hW => by
       have hb := HBM.out.box
       subst hW
       have hfin : ((wr.setCell ⟨q, 2, none⟩ (.int .i64 fl)).setCell ⟨q, 3, none⟩ (.int .i64 nx)).drew.heap[q]? = some (.cells #[.map (some bb), .int .i64 ((pl + A.length : Nat) : Int), .int .i64 fl, .int .i64 nx] 62 (0, 0)) :=
        heap_setCell_same _ q 3 _ _ _ (heap_setCell_same wr q 2 _ _ _ hb)
       have hoth : ∀ j, j ≠ q → ((wr.setCell ⟨q, 2, none⟩ (.int .i64 fl)).setCell ⟨q, 3, none⟩ (.int .i64 nx)).drew.heap[j]? = wr.heap[j]? := fun j hj =>
        (Below.heap_setCell (wr.setCell ⟨q, 2, none⟩ (.int .i64 fl)) _ _ _ (by show j ≠ q; exact hj)).trans (Below.heap_setCell _ _ _ _ (by show j ≠ q; exact hj))
       obtain ⟨h1, h2⟩ := HBM.out.rebox hfin hoth rfl rfl rfl (by show ((wr.setCell ⟨q, 2, none⟩ (.int .i64 fl)).setCell ⟨q, 3, none⟩ (.int .i64 nx)).heap.size = _; simp [World.setCell])
       exact ⟨HT0.out.trans (HT.out.trans h2), .inr ⟨_, K2, pl + A.length, HRS.out, rfl, ⟨bb, mm, h1⟩, rfl, by have := HN.out; omega⟩⟩
      clear c0 c1 c2 c3 z1 z2 z3
      go_wp2
      go_ret
      exact HEND.out _ rfl
end
section
open Go.RowKit Go.Sort
instance Mf.inhP : Inhabited Mf.P := ⟨⟨0, 0, ⟨false, 0, ⟨#[]⟩⟩, ⟨false, 0, ⟨#[]⟩⟩⟩⟩
set_option maxRecDepth 100000 in
theorem Mf.isNaN_c (a : Int) (w : World) : Calls Tryd.prog 57 #[.int .i64 a] w fun e w' => e = .returned (.bool false) ∧ w' = w := by
 go_enter Tryd.func57, Tryd.ntmps57
 go_wp2
 go_ret
 exact ⟨rfl, rfl⟩
set_option maxRecDepth 100000 in
theorem Mf.cmp_c (a b : Int) (w : World) : Calls Tryd.prog 34 #[.int .i64 a, .int .i64 b] w fun e w' => e = .returned (.int .i64 (Kn.ncmp a b)) ∧ w' = w := by
 have hc : (a < b ∧ Kn.ncmp a b = -1) ∨ (¬ a < b ∧ b < a ∧ Kn.ncmp a b = 1) ∨ (¬ a < b ∧ ¬ b < a ∧ Kn.ncmp a b = 0) := by unfold Kn.ncmp; repeat' split <;> omega
 rcases hc with ⟨h1, h⟩ | ⟨h1, h2, h⟩ | ⟨h1, h2, h⟩
 all_goals
  rw [h]
  go_enter Tryd.func34, Tryd.ntmps34
  go_wp2_with fail
  refine (Mf.isNaN_c _ _).mono ?_
  rintro e w1 ⟨rfl, rfl⟩
  go_wp2_with fail
  refine (Mf.isNaN_c _ _).mono ?_
  rintro e w1 ⟨rfl, rfl⟩
  go_wp2
  go_ret
  exact ⟨rfl, rfl⟩
set_option maxHeartbeats 2000000 in
set_option maxRecDepth 100000 in
theorem Mf.closure_c (x y : Nat × Mf.P) (W : World) : Calls Tryd.prog 33 #[.agg (Mf.lc x).toArray, .agg (Mf.lc y).toArray] W fun e w' => e = .returned (.int .i64 (Kn.ncmp x.1 y.1)) ∧ ∃ q os', w' = grow (W.drewN q) os' := by
 have hcon := fun W' => Mf.cmp_c (x.1 : Int) (y.1 : Int) W'
 obtain ⟨a, ⟨i, l, ⟨an, ai, sa⟩, ⟨bn, bi, sb⟩⟩⟩ := x
 obtain ⟨a2, ⟨i2, l2, ⟨an2, ai2, sa2⟩, ⟨bn2, bi2, sb2⟩⟩⟩ := y
 simp only at hcon ⊢
 generalize Kn.ncmp (a : Int) (a2 : Int) = r at hcon ⊢
 show Calls Tryd.prog 33 #[.agg #[.int .i64 (a : Int), .int .i64 i, .int .i64 l, .bool an, .int .i64 ai, .string sa, .bool bn, .int .i64 bi, .string sb], .agg #[.int .i64 (a2 : Int), .int .i64 i2, .int .i64 l2, .bool an2, .int .i64 ai2, .string sa2, .bool bn2, .int .i64 bi2, .string sb2]] W _
 go_enter Tryd.func33, Tryd.ntmps33
 go_wp2_with fail
 refine (hcon _).mono ?_
 rintro e w' ⟨rfl, rfl⟩
 go_wp2
 go_ret
 exact ⟨rfl, 0, _, by rw [alloc_eq_grow, alloc_eq_grow, grow_grow]; rfl⟩
def Mf.cf (x y : Nat × Mf.P) : Int := Kn.ncmp x.1 y.1
theorem Mf.ltOf_is (x y : Nat × Mf.P) : ltOf Mf.cf x y = decide (x.1 < y.1) := by
 unfold ltOf Mf.cf Kn.ncmp
 by_cases h1 : x.1 < y.1
 ·have : (x.1 : Int) < y.1 := by omega
  simp [h1, this]
 ·have : ¬ (x.1 : Int) < y.1 := by omega
  by_cases h2 : y.1 < x.1
  ·have h3 : (y.1 : Int) < x.1 := by omega
   simp [h1, this, h3]
  ·have h3 : ¬ (y.1 : Int) < x.1 := by omega
   simp [h1, this, h3]
theorem Mf.swo : SWO (ltOf Mf.cf) where
 irrefl x := by rw [Mf.ltOf_is]; simp
 trans x y z h1 h2 := by rw [Mf.ltOf_is] at *; simp at *; omega
 ntrans x y z h1 h2 := by rw [Mf.ltOf_is] at *; simp at *; omega
set_option maxHeartbeats 2000000 in
set_option maxRecDepth 100000 in
theorem Mf.ins_none (fv : Value) (w : World) : Calls Tryd.prog 72 #[.slice none 0 0, .int .i64 0, .int .i64 0, fv] w fun e w' => e = .returned (.tuple #[]) ∧ w' = w := by
 go_enter Tryd.func72, Tryd.ntmps72
 go_wp2
 refine wp_loop_rounds 1 ?_
 rw [rounds_succ]
 go_wp2
 go_end0
 exact ⟨rfl, rfl⟩
set_option maxHeartbeats 2000000 in
set_option maxRecDepth 100000 in
theorem Mf.pdq_none (lim : Int) (fv : Value) (w : World) : Calls Tryd.prog 55 #[.slice none 0 0, .int .i64 0, .int .i64 0, .int .i64 lim, fv] w fun e w' => e = .returned (.tuple #[]) ∧ w' = w := by
 go_enter Tryd.func55, Tryd.ntmps55
 go_wp2
 refine wp_loop_rounds 1 ?_
 rw [rounds_succ]
 go_wp2_with fail
 refine (Mf.ins_none fv w).mono ?_
 rintro e w1 ⟨rfl, rfl⟩
 go_wp2
 (try simp only [Exit.inBlock, Exit.then])
 refine bodyPost_ret (results_none rfl _ _ _) rfl ?_
 exact ⟨rfl, rfl⟩
set_option maxHeartbeats 2000000 in
set_option maxRecDepth 100000 in
theorem Mf.sort_none (fv : Value) (w : World) : Calls Tryd.prog 32 #[.slice none 0 0, fv] w fun e w' => e = .returned (.tuple #[]) ∧ w' = w := by
 have hl : Calls Tryd.prog 56 #[.int .u64 0] w fun e w' => e = .returned (.int .i64 (Lib.bitLen 0 : Nat)) ∧ w' = w := by
  have h := Any.bits_Len (SlLaysF0.n15.bits (P := Tryd.prog) (ρ := Tryd.sortL_ren) { Tryd.sortL with }) 0 w (by omega) (by omega)
  exact h
 have hp := fun W => Mf.pdq_none (Lib.bitLen 0 : Nat) fv W
 go_enter Tryd.func32, Tryd.ntmps32
 go_wp2_with fail
 refine hl.mono ?_
 rintro e w1 ⟨rfl, rfl⟩
 go_wp2_with fail
 refine (hp _).mono ?_
 rintro e w1 ⟨rfl, rfl⟩
 go_wp2
 go_end0
 exact ⟨rfl, rfl⟩
theorem Mf.below_grow (w : World) (os : Array Obj) : Below w.heap.size w (grow w os) :=
 ⟨rfl, rfl, rfl, by simp [grow], fun j hj => by
  show (w.heap ++ os)[j]? = w.heap[j]?
  rw [Array.getElem?_append_left hj]⟩
theorem Mf.flat_getL {L : List (Nat × Mf.P)} {i j : Nat} {x : Nat × Mf.P} (h : L[i]? = some x) (hj : j < 9) : (L.flatMap Mf.lc)[i * 9 + j]? = (Mf.lc x)[j]? := Dk.flat_get Mf.lc_len L i j x h hj
theorem Mf.Op.put {base : Nat} {w : World} {g c : Nat} {L : List (Nat × Mf.P)} (h : Mf.Op base w (.slice (some ⟨g, 0, none⟩) L.length c) L) (d : Array (Nat × Mf.P)) (hd : d.size = L.length) :
 Mf.Op base (putRowK Mf.lc 9 w g 0 d) (.slice (some ⟨g, 0, none⟩) L.length c) d.toList := by
 rcases h.2 with ⟨e, _⟩ | ⟨g', cap, cur, e, hb, hg, hn, hm, hs, ht⟩
 ·cases e
 ·simp only [Value.slice.injEq, Option.some.injEq, Addr.mk.injEq, and_true, true_and] at e
  obtain ⟨rfl, rfl⟩ := e
  have hdl : d.toList.length = L.length := by simpa using hd
  have hlen : (d.toList.flatMap Mf.lc).length = L.length * 9 := by rw [Dk.flat_len Mf.lc_len, hdl]
  refine ⟨by rw [hlen, hdl], .inr ⟨g, c, putCells id 0 (flatK Mf.lc 9 d) cur, by rw [hdl], hb, ?_, by rw [hdl]; exact hn, hm, by unfold putCells; rw [Array.size_mapIdx]; exact hs, ?_⟩⟩
  ·unfold putRowK putRow mapBlock
   have hgl := lt_of_block hg
   show (w.heap.modify g (onCells (putCells id 0 (flatK Mf.lc 9 d))))[g]? = _
   rw [Array.getElem?_modify, if_pos rfl, hg]
   rfl
  ·have hcur : L.length * 9 ≤ cur.size := by rw [hs]; exact Nat.mul_le_mul_right 9 hn
   refine List.ext_getElem? fun t => ?_
   rw [List.getElem?_take, hdl]
   by_cases htl : t < L.length * 9
   ·rw [if_pos htl, Array.getElem?_toList]
    have h1 : (putCells id 0 (flatK Mf.lc 9 d) cur)[t]? = some ((flatK Mf.lc 9 d)[t]!) := by
     unfold putCells
     rw [Array.getElem?_mapIdx, Array.getElem?_eq_getElem (by omega)]
     simp only [Option.map_some, Nat.zero_le, true_and, Nat.zero_add, size_flatK, hd]
     rw [if_pos htl]
     rfl
    rw [h1, get_flatK _ _ _ _ (by rw [hd]; exact htl)]
    have hi : t / 9 < L.length := by omega
    have hx : d.toList[t / 9]? = some d[t / 9]! := by
     rw [Array.getElem?_toList, getElem!_pos d (t / 9) (by omega)]
     exact Array.getElem?_eq_getElem (by omega)
    have h2 := Mf.flat_getL hx (Nat.mod_lt t (by decide : 0 < 9))
    rw [show t / 9 * 9 + t % 9 = t by omega] at h2
    rw [h2]
    have hlc : t % 9 < (Mf.lc d[t / 9]!).length := by rw [Mf.lc_len]; omega
    rw [getElem!_pos (Mf.lc d[t / 9]!) (t % 9) hlc]
    exact (List.getElem?_eq_getElem hlc).symm
   ·rw [if_neg htl, List.getElem?_eq_none (by rw [hlen]; omega)]
theorem Mf.heap_putRowK (w : World) (g o : Nat) (d : Array (Nat × Mf.P)) {j : Nat} (hj : j ≠ g) : (putRowK Mf.lc 9 w g o d).heap[j]? = w.heap[j]? := by
 unfold putRowK putRow mapBlock
 show (w.heap.modify g _)[j]? = _
 rw [Array.getElem?_modify, if_neg (fun e => hj e.symm)]
structure Mf.Sorted (base : Nat) (w w' : World) (v : Value) (L : List (Nat × Mf.P)) : Prop where
 row : Mf.Op base w' v L
 size : w.heap.size ≤ w'.heap.size
 os : w'.os = w.os
 tape : w'.tape = w.tape
 output : w'.output = w.output
 block : ∀ j, j < w.heap.size → some j ≠ v.ownBlock → w'.heap[j]? = w.heap[j]?
theorem Mf.Sorted.below {base : Nat} {w w' : World} {v : Value} {L : List (Nat × Mf.P)} (h : Mf.Sorted base w w' v L) (hb : base ≤ w.heap.size) (hv : ∀ j, v.ownBlock = some j → base ≤ j) : Below base w w' :=
 ⟨h.os, h.tape, h.output, h.size, fun j hj => h.block j (by omega) (fun e => by have := hv j e.symm; omega)⟩
theorem Mf.holds_of {base : Nat} {w : World} {g c : Nat} {L : List (Nat × Mf.P)} (h : Mf.Op base w (.slice (some ⟨g, 0, none⟩) L.length c) L) : HoldsK Mf.lc 9 w g 0 L.toArray := by
 obtain ⟨cs, hg⟩ := h.typed (j := g) rfl
 intro t ht
 rw [size_flatK, List.size_toArray] at ht
 have hi : t / 9 < L.length := by omega
 have hx : L[t / 9]? = some L.toArray[t / 9]! := by
  rw [getElem!_pos L.toArray (t / 9) (by simpa using hi)]
  simp [List.getElem?_eq_getElem hi]
 have h1 := Dk.Own.cell Mf.lc_len h (g := g) rfl hx (Nat.mod_lt t (by decide : 0 < 9))
 rw [show t / 9 * 9 + t % 9 = t by omega] at h1
 rw [get_flatK _ _ _ _ (by rw [List.size_toArray]; exact ht), Nat.zero_add]
 have hlc : t % 9 < (Mf.lc L.toArray[t / 9]!).length := by rw [Mf.lc_len]; omega
 rw [getElem!_pos (Mf.lc L.toArray[t / 9]!) (t % 9) hlc]
 refine ⟨h1.trans (List.getElem?_eq_getElem hlc), ?_⟩
 exact frozen_of_row w g t _ _ hg
theorem Mf.perm_all {d d' : Array (Nat × Mf.P)} (h : PermIn 0 d.size d d') : d'.toList.Perm d.toList := by
 obtain ⟨h1, _, h3⟩ := h
 have e1 : d.extract 0 d.size = d := Array.extract_size
 have e2 : d'.extract 0 d.size = d' := by rw [← h1]; exact Array.extract_size
 rw [e1, e2] at h3
 exact h3
theorem Mf.sorted_is {K L : List (Nat × Mf.P)} (hp : L.Perm K) (hs : L.Pairwise fun x y => x.1 ≤ y.1) (hk : K.Pairwise fun x y => x.1 < y.1) : L = K := by
 refine hp.eq_of_pairwise (le := fun x y => x.1 ≤ y.1) (fun a b ha hb h1 h2 => ?_) hs (hk.imp fun h => Nat.le_of_lt h)
 have ha' := hp.subset ha
 have hinj : ∀ {K : List (Nat × Mf.P)}, (K.Pairwise fun x y => x.1 < y.1) → ∀ a ∈ K, ∀ b ∈ K, a.1 = b.1 → a = b := fun {K} hk => by
  induction hk with
  | nil => intro a ha; cases ha
  | cons h _ ih =>
    intro a ha b hb e
    rcases List.mem_cons.1 ha with ea | ha2
    ·rcases List.mem_cons.1 hb with eb | hb2
     ·rw [ea, eb]
     ·have := h b hb2; rw [ea] at e; omega
    ·rcases List.mem_cons.1 hb with eb | hb2
     ·have := h a ha2; rw [eb] at e; omega
     ·exact ih a ha2 b hb2 e
 exact hinj hk a ha' b hb (by omega)
set_option maxHeartbeats 2000000 in
set_option maxRecDepth 100000 in
theorem Mf.sort_c {base : Nat} {w : World} {v : Value} {L K : List (Nat × Mf.P)} (h : Mf.Op base w v L) (hp : L.Perm K) (hk : K.Pairwise fun x y => x.1 < y.1) (hl : L.length ≤ 1000000000000) :
 Calls Tryd.prog 32 #[v, .func (.func 33) #[] #[]] w fun e w' => e = .returned (.tuple #[]) ∧ Mf.Sorted base w w' v K := by
 rcases Dk.Own.form h with ⟨rfl, rfl⟩ | ⟨g, c, rfl, h1, h2, h3, h4⟩
 ·obtain rfl : K = [] := by simpa using hp.symm
  refine (Mf.sort_none _ w).mono ?_
  rintro e w' ⟨rfl, rfl⟩
  exact ⟨rfl, ⟨h, Nat.le_refl _, rfl, rfl, rfl, fun _ _ _ => rfl⟩⟩
 ·have eg : ∀ args w, (callFunc 33 args).run Tryd.prog w = .ok (.enter 33 args) w := enters_of Tryd.func33 (by kernel_rfl) rfl
  have hcmp : CmpLays Tryd.prog 33 #[] Mf.lc 9 Mf.cf g 0 L.toArray.size w := fun _ _ _ _ x y => Mf.closure_c x y _
  have hcon := AnyQ.slices_SortFunc Tryd.sortL 9 (fun _ => rfl) (fun _ => rfl) Mf.lc Mf.lc_len (fun x v hv => Mf.lc_one x v hv) Mf.cf Mf.swo 33 #[] g 0 c L.toArray w eg hcmp (Mf.holds_of h) h4 (by rw [List.size_toArray]; omega)
  rw [List.size_toArray] at hcon
  refine Calls.mono hcon ?_
  rintro e w' ⟨rfl, d', n, os, hpm, hst, rfl⟩
  rw [← List.size_toArray] at hpm
  have hsz : d'.size = L.length := by rw [hpm.1, List.size_toArray]
  have hperm := Mf.perm_all hpm
  rw [List.toList_toArray] at hperm
  have hsorted : d'.toList.Pairwise fun x y => x.1 ≤ y.1 := by
   rw [List.pairwise_iff_getElem]
   intro i j hi hj hij
   have := hst i j (Nat.zero_le _) hij (by rw [Array.length_toList] at hj; omega)
   rw [Mf.ltOf_is] at this
   rw [getElem!_pos d' i (by simpa using hi), getElem!_pos d' j (by simpa using hj)] at this
   have := of_decide_eq_false this
   simpa using this
  have hK : d'.toList = K := Mf.sorted_is (hperm.trans hp) hsorted hk
  refine ⟨rfl, ?_⟩
  have hput := h.put (w := w) d' hsz
  have hahead : Mf.Op base (Sort.ahead w n) (.slice (some ⟨g, 0, none⟩) L.length c) L := h
  have hput := hahead.put d' hsz
  rw [hK] at hput
  have hbw : Below (putRowK Mf.lc 9 (Sort.ahead w n) g 0 d').heap.size (putRowK Mf.lc 9 (Sort.ahead w n) g 0 d') (sortWorldK Mf.lc 9 w g 0 n d' os) := Mf.below_grow _ os
  refine ⟨hput.kept hbw, ?_, rfl, rfl, rfl, fun j hj hne => ?_⟩
  ·have := hbw.size
   rw [size_putRowK] at this
   exact this
  ·have hj2 : j < (putRowK Mf.lc 9 (Sort.ahead w n) g 0 d').heap.size := by rw [size_putRowK]; exact hj
   exact (hbw.block j hj2).trans (Mf.heap_putRowK _ _ _ _ (fun e => hne (by rw [e]; rfl)))
end
end Go.Proofs.YteaglaijkafphaaDoor
