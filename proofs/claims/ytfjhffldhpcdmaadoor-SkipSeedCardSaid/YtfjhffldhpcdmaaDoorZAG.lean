/-
  The program's list: its state; the heights that are drawn; New, Len, Bytes.
  The program's list: the levels that lead to a key.
  The program's list: the first node that does not come before a key; Get.
  The program's list: Get.
  The program's list: a node comes in.
  The program's list: insert.
-/
import Derived.Test.YtfjhffldhpcdmaaDoorZAF
import Derived.Laws.Rows
import Derived.Laws.Tables
import Derived.Laws.CopyOwn
import Derived.BigRegion
namespace Go.Proofs.YtfjhffldhpcdmaaDoor
open Go Go.RowKit
/-- The list's nodes in memory; S: its own blocks. -/
structure Sk.PL (S : Nat → Prop) (w : World) (p : Nat) (N : List Sk.Nd) : Prop where
  hdr : ∃ st : Int, w.rowIs p 58 15 (Sk.hf (.int .u64 st) (.int .i64 (N.length : Int)) (.int .i64 (wrap64 (Sk.bytes (N.map Sk.Nd.d) : Int))) N)
  seg : Sk.Seg w N []
  nodup : (N.map Sk.Nd.b).Nodup
  num : ∀ x ∈ N, x.num < N.length
  rows : ∀ x ∈ N, Sk.Rw 0 w x.rv x.row ∧ x.row ≠ [] ∧ (∀ v ∈ x.row, Kn.Z v) ∧ x.row.length ≤ 4398046511104
  ownS : ∀ x ∈ N, ∀ b, x.rv.ownBlock = some b → S b
  mine : S p
  nodes : ∀ x ∈ N, S x.b
  alive : ∀ b, S b → b < w.heap.size
  asc : Sk.Asc Sk.kn N
  hgt : ∀ x ∈ N, 1 ≤ x.h
theorem Sk.Seg.mem {w : World} {A B : List Sk.Nd} (h : Sk.Seg w A B) {x : Sk.Nd} (hx : x ∈ A) : ∃ r, w.rowIs x.b 66 15 (x.f r) := by
  induction A with
  | nil => cases hx
  | cons y A ih =>
    rcases List.mem_cons.1 hx with rfl | hx
    · exact ⟨_, h.1⟩
    · exact ih h.2 hx
theorem Sk.PL.ne {S : Nat → Prop} {w : World} {p : Nat} {N : List Sk.Nd} (h : Sk.PL S w p N) : ∀ x ∈ N, x.b ≠ p := by
  intro x hx e
  obtain ⟨st, c, h1, _⟩ := h.hdr
  obtain ⟨r, c', h2, _⟩ := h.seg.mem hx
  rw [e, h1] at h2
  simp only [Option.some.injEq, Obj.cells.injEq] at h2
  exact absurd h2.2.1 (by decide)
theorem Sk.PL.same {S : Nat → Prop} {w w' : World} {p : Nat} {N : List Sk.Nd} (h : Sk.PL S w p N) (hs : w.heap.size ≤ w'.heap.size) (g : ∀ b, S b → w'.heap[b]? = w.heap[b]?) : Sk.PL S w' p N := by
  obtain ⟨st, h1⟩ := h.hdr
  exact ⟨⟨st, h1.of_block (g p h.mine)⟩, h.seg.same fun x hx => g x.b (h.nodes x hx), h.nodup, h.num,
    fun x hx => ⟨(h.rows x hx).1.same fun b hb => g b (h.ownS x hx b hb), (h.rows x hx).2⟩, h.ownS, h.mine, h.nodes, fun b hb => Nat.lt_of_lt_of_le (h.alive b hb) hs, h.asc, h.hgt⟩
theorem Sk.PL.kept {S : Nat → Prop} {w w' : World} {p : Nat} {N : List Sk.Nd} (h : Sk.PL S w p N) (g : Below w.heap.size w w') : Sk.PL S w' p N :=
  h.same g.size fun b hb => g.block b (h.alive b hb)
theorem Sk.PL.in_ {S : Nat → Prop} {w : World} {p : Nat} {N : List Sk.Nd} (h : Sk.PL S w p N) {x : Sk.Nd} (hx : x ∈ N) : Sk.In w x.rv x.row :=
  (h.rows x hx).1.in_ (h.rows x hx).2.2.1 (h.rows x hx).2.2.2
theorem Sk.PL.slice {S : Nat → Prop} {w : World} {p : Nat} {N : List Sk.Nd} (h : Sk.PL S w p N) {x : Sk.Nd} (hx : x ∈ N) : ∃ g c, x.rv = .slice (some ⟨g, 0, none⟩) x.row.length c := by
  rcases (h.rows x hx).1.form with ⟨_, e⟩ | ⟨g, c, e, _⟩
  · exact absurd e (h.rows x hx).2.1
  · exact ⟨g, c, e⟩
theorem Sk.PL.node {S : Nat → Prop} {w : World} {p : Nat} {N : List Sk.Nd} (h : Sk.PL S w p N) {x : Sk.Nd} (hx : x ∈ N) :
    w.cell? ⟨x.b, 0, none⟩ = some (.bool x.gone) ∧ w.cell? ⟨x.b, 1, none⟩ = some x.rv ∧ w.cell? ⟨x.b, 2, none⟩ = some (.int .i64 (x.num : Int)) := by
  obtain ⟨r, hr⟩ := h.seg.mem hx
  exact ⟨hr.cell (i := 0) (by decide), hr.cell (i := 1) (by decide), hr.cell (i := 2) (by decide)⟩
theorem Sk.PL.key {S : Nat → Prop} {w : World} {p : Nat} {N : List Sk.Nd} (h : Sk.PL S w p N) {x : Sk.Nd} (hx : x ∈ N) : Sk.Ky w x.b (Sk.kn x) := by
  obtain ⟨g, c, hv⟩ := h.slice hx
  obtain ⟨hr, hne, _⟩ := h.rows x hx
  obtain ⟨k, r, hk⟩ : ∃ k r, x.row = k :: r := List.exists_cons_of_ne_nil hne
  have hkn : Sk.kn x = k := by unfold Sk.kn Sk.kd Sk.Nd.d; rw [hk]; rfl
  have hc := fun j (hj : j < 3) => hr.cell Sk.ve_len (g := g) (i := 0) (x := k) (j := j) (by rw [hv]; rfl) (by rw [hk]; rfl) hj
  refine ⟨g, x.row.length, c, by rw [← hv]; exact (h.node hx).2.1, List.length_pos_iff.2 hne, ?_⟩
  rw [hkn]
  have h0 := hc 0 (by decide)
  have h1 := hc 1 (by decide)
  have h2 := hc 2 (by decide)
  simp only [Nat.zero_mul, Nat.zero_add] at h0 h1 h2
  exact ⟨h0, h1, h2⟩
theorem Sk.PL.zkey {S : Nat → Prop} {w : World} {p : Nat} {N : List Sk.Nd} (h : Sk.PL S w p N) {x : Sk.Nd} (hx : x ∈ N) : Kn.Z (Sk.kn x) := by
  obtain ⟨_, hne, hz, _⟩ := h.rows x hx
  obtain ⟨k, r, hk⟩ : ∃ k r, x.row = k :: r := List.exists_cons_of_ne_nil hne
  have hkn : Sk.kn x = k := by unfold Sk.kn Sk.kd Sk.Nd.d; rw [hk]; rfl
  rw [hkn]
  exact hz k (by rw [hk]; exact List.mem_cons_self)
/-- What the levels hold that lead on behind the nodes A. -/
theorem Sk.PL.lnk {S : Nat → Prop} {w : World} {p : Nat} {A B : List Sk.Nd} (h : Sk.PL S w p (A ++ B)) {i : Nat} (hi : i < 12) :
    w.cell? ⟨(Sk.lst i (p, 0) A).1, (Sk.lst i (p, 0) A).2 + i, none⟩ = some (Sk.pt (Sk.lnk i B)) ∧ w.frozen? ⟨(Sk.lst i (p, 0) A).1, (Sk.lst i (p, 0) A).2 + i, none⟩ = false := by
  obtain ⟨st, h1⟩ := h.hdr
  have hs := ((Sk.seg_append A B []).1 h.seg).1
  rw [List.append_nil] at hs
  refine ⟨hs.lst hi (p, 0) ?_, hs.lst_frozen (p, 0) (h1.frozen _)⟩
  have := h1.cell (i := 0 + i) (by omega)
  rw [this]
  unfold Sk.hf
  rw [if_pos (by omega), Nat.zero_add]
set_option maxHeartbeats 1000000 in
set_option maxRecDepth 100000 in
/-- A height is drawn. -/
theorem Sk.draw_c {w : World} {p : Nat} {st : Int} {c b : Value} {N : List Sk.Nd} (h : w.rowIs p 58 15 (Sk.hf (.int .u64 st) c b N)) (hT : Sk.Tab w) (hp : 0 < p) :
    Calls Tryd.prog 41 #[.pointer (some ⟨p, 0, none⟩)] w fun e w' => ∃ (k : Nat) (st' : Int), 1 ≤ k ∧ k ≤ 12 ∧ e = .returned (.int .i64 (k : Int)) ∧ w' = w.setCell ⟨p, 12, none⟩ (.int .u64 st') := by
  have c0 := h.cell (i := 12) (by decide)
  have f0 := h.frozen 12
  have e0 : Sk.hf (.int .u64 st) c b N 12 = .int .u64 st := rfl
  rw [e0] at c0
  have HT : Hid (∀ v, Sk.Tab (w.setCell ⟨p, 12, none⟩ v)) := Lib.hid fun v => hT.later ((Below.refl _ w).setCell (B := p) (p := ⟨p, 12, none⟩) (Nat.le_refl _) v) hp
  clear h hT e0
  go_enter Tryd.func41, Tryd.ntmps41
  go_wp2_with fail
  with_reducible refine (Sk.tz_c (HT.out _) _).mono ?_
  rintro e w1 ⟨t, ht, rfl, rfl⟩
  obtain ⟨q, hq⟩ : ∃ q, q = t / 2 := ⟨_, rfl⟩
  have hq2 : (t : Int) / 2 = (q : Int) := by omega
  have hq3 : q < 33 := by omega
  clear ht hq
  have hq0 : (0 : Int) ≤ (q : Int) := by omega
  go_wp2
  go_ret
  exact ⟨min (1 + q) 12, _, by omega, by omega, (show Ending.returned (.int .i64 (min (1 + (q : Int)) 12)) = _ from by rw [show min (1 + (q : Int)) 12 = ((min (1 + q) 12 : Nat) : Int) by omega]), rfl⟩
set_option maxHeartbeats 1000000 in
set_option maxRecDepth 100000 in
/-- A list without deeds. -/
theorem Sk.new_c {w : World} (seed : Int) :
    Calls Tryd.prog 11 #[.int .u64 seed] w fun e w' => e = .returned (.pointer (some ⟨w.heap.size, 0, none⟩)) ∧ Sk.PL (fun b => b = w.heap.size) w' w.heap.size [] ∧ Below w.heap.size w w' := by
  have hw : wrap64 (0 : Int) = 0 := by unfold wrap64; omega
  have HP : Hid (∀ cs : Array Value, cs = ((List.range 15).map (Sk.hf (.int .u64 seed) (.int .i64 0) (.int .i64 0) [])).toArray → Sk.PL (fun b => b = w.heap.size) (w.alloc (.cells cs 58)) w.heap.size []) := Lib.hid fun cs hcs => by
    refine ⟨⟨seed, ?_⟩, trivial, List.nodup_nil, fun x hx => (by cases hx), fun x hx => (by cases hx), fun x hx => (by cases hx), rfl, fun x hx => (by cases hx), fun b hb => by rw [hb, World.size_alloc]; omega, List.Pairwise.nil, fun x hx => (by cases hx)⟩
    have := World.rowIs_alloc w cs 58 (Sk.hf (.int .u64 seed) (.int .i64 0) (.int .i64 0) []) (fun i hi => by
      subst hcs
      rw [List.getElem?_toArray, List.getElem?_map, List.getElem?_range (by simpa using hi)]
      rfl)
    rw [show cs.size = 15 by rw [hcs]; rfl] at this
    rw [show Sk.bytes (List.map Sk.Nd.d []) = 0 from rfl, show (([] : List Sk.Nd).length : Int) = 0 from rfl, show (((0 : Nat)) : Int) = 0 from rfl, hw]
    exact this
  clear hw
  go_enter Tryd.func11, Tryd.ntmps11
  go_wp2
  go_ret
  exact ⟨rfl, HP.out _ rfl, (Below.refl _ w).alloc (Nat.le_refl _) _⟩
set_option maxHeartbeats 1000000 in
set_option maxRecDepth 100000 in
theorem Sk.len_c {S : Nat → Prop} {w : World} {p : Nat} {N : List Sk.Nd} (h : Sk.PL S w p N) :
    Calls Tryd.prog 14 #[.pointer (some ⟨p, 0, none⟩)] w fun e w' => e = .returned (.int .i64 (N.length : Int)) ∧ w' = w := by
  obtain ⟨st, h1⟩ := h.hdr
  have c0 : w.cell? ⟨p, 13, none⟩ = some (.int .i64 (N.length : Int)) := h1.cell (i := 13) (by decide)
  clear h h1
  go_enter Tryd.func14, Tryd.ntmps14
  go_wp2
  go_ret
  exact ⟨rfl, rfl⟩
set_option maxHeartbeats 1000000 in
set_option maxRecDepth 100000 in
theorem Sk.bytes_c {S : Nat → Prop} {w : World} {p : Nat} {N : List Sk.Nd} (h : Sk.PL S w p N) :
    Calls Tryd.prog 15 #[.pointer (some ⟨p, 0, none⟩)] w fun e w' => e = .returned (.int .i64 (wrap64 (Sk.bytes (N.map Sk.Nd.d) : Int))) ∧ w' = w := by
  obtain ⟨st, h1⟩ := h.hdr
  have c0 : w.cell? ⟨p, 14, none⟩ = some (.int .i64 (wrap64 (Sk.bytes (N.map Sk.Nd.d) : Int))) := h1.cell (i := 14) (by decide)
  clear h h1
  go_enter Tryd.func15, Tryd.ntmps15
  go_wp2
  go_ret
  exact ⟨rfl, rfl⟩
set_option maxHeartbeats 1000000 in
theorem Sk.nil_len_c (w : World) : Calls Tryd.prog 14 #[.pointer none] w fun e w' => e = .returned (.int .i64 0) ∧ w' = w := by
  go_enter Tryd.func14, Tryd.ntmps14
  go_wp2
  go_ret
  exact ⟨rfl, rfl⟩
set_option maxHeartbeats 1000000 in
theorem Sk.nil_bytes_c (w : World) : Calls Tryd.prog 15 #[.pointer none] w fun e w' => e = .returned (.int .i64 0) ∧ w' = w := by
  go_enter Tryd.func15, Tryd.ntmps15
  go_wp2
  go_ret
  exact ⟨rfl, rfl⟩
end Go.Proofs.YtfjhffldhpcdmaaDoor

namespace Go.Proofs.YtfjhffldhpcdmaaDoor
open Go Go.RowKit
def Sk.ad (q : Nat × Nat) : Value := .pointer (some ⟨q.1, q.2, none⟩)
/-- What the levels from i on lead to. -/
def Sk.pa (p : Nat) (L : List Sk.Nd) (i j : Nat) : Value := if i ≤ j then Sk.ad (Sk.lst j (p, 0) L) else .pointer none
def Sk.paA (p : Nat) (L : List Sk.Nd) : Array Value := ((List.range 12).map (Sk.pa p L 0)).toArray
def Sk.nils : Array Value := #[.pointer none, .pointer none, .pointer none, .pointer none, .pointer none, .pointer none, .pointer none, .pointer none, .pointer none, .pointer none, .pointer none, .pointer none]
theorem Sk.nils_row (w : World) (p : Nat) (L : List Sk.Nd) (t : TypeId) : (w.alloc (.cells Sk.nils t)).rowIs w.heap.size t 12 (Sk.pa p L 12) := by
  have := World.rowIs_alloc w Sk.nils t (Sk.pa p L 12) (fun i hi => by
    have hi : i < 12 := hi
    unfold Sk.pa
    rw [if_neg (by omega)]
    rcases (by omega : i = 0 ∨ i = 1 ∨ i = 2 ∨ i = 3 ∨ i = 4 ∨ i = 5 ∨ i = 6 ∨ i = 7 ∨ i = 8 ∨ i = 9 ∨ i = 10 ∨ i = 11) with rfl | rfl | rfl | rfl | rfl | rfl | rfl | rfl | rfl | rfl | rfl | rfl <;> rfl)
  exact this
theorem Sk.row_all {w : World} {g p : Nat} {L : List Sk.Nd} {t : TypeId} (h : w.rowIs g t 12 (Sk.pa p L 0)) : w.heap[g]? = some (.cells (Sk.paA p L) t (0, 0)) := by
  obtain ⟨c, h1, h2, h3⟩ := h
  have : c = Sk.paA p L := by
    refine Array.ext (by rw [h2]; rfl) fun i hi1 hi2 => ?_
    have a1 := h3 i (by omega)
    have a2 : (Sk.paA p L)[i]? = some (Sk.pa p L 0 i) := by
      unfold Sk.paA
      rw [List.getElem?_toArray, List.getElem?_map, List.getElem?_range (by omega)]
      rfl
    rw [Array.getElem?_eq_getElem hi1] at a1
    rw [Array.getElem?_eq_getElem hi2] at a2
    rw [Option.some.inj a1, Option.some.inj a2]
  rw [← this]
  exact h1
/-- What the next level leads to: none; a node of C; a node behind. -/
theorem Sk.next_of {m : Nat} (C G : List Sk.Nd) : ((∀ c ∈ C, c.h ≤ m) ∧ Sk.lnk m (C ++ G) = none) ∨ ((∀ c ∈ C, c.h ≤ m) ∧ ∃ y ∈ G, Sk.lnk m (C ++ G) = some y.b) ∨ ∃ C1 y C2, C = C1 ++ y :: C2 ∧ m < y.h ∧ Sk.lnk m (C ++ G) = some y.b := by
  rcases Sk.first m C with ⟨_, h⟩ | ⟨C1, y, C2, rfl, h1, h2, _⟩
  · rcases Sk.first m G with ⟨hn, _⟩ | ⟨G1, y, G2, rfl, _, _, hl⟩
    · exact .inl ⟨h, by rw [Sk.lnk_low _ h, hn]⟩
    · exact .inr (.inl ⟨h, y, by simp, by rw [Sk.lnk_low _ h, hl]⟩)
  · refine .inr (.inr ⟨C1, y, C2, rfl, h2, ?_⟩)
    rw [List.append_assoc, Sk.lnk_low _ h1, List.cons_append, Sk.lnk, if_pos h2]
theorem Sk.take_lt {N : List Sk.Nd} {k : Kn.V} {y : Sk.Nd} (h : y ∈ N.take (Sk.at_ Sk.kn N k)) : Kn.cmp (Sk.kn y) k < 0 := by
  obtain ⟨i, hi, e⟩ := List.getElem_of_mem h
  rw [List.length_take] at hi
  rw [List.getElem_take] at e
  exact Sk.at_lt (key := Sk.kn) (L := N) (k := k) (i := i) (by omega) (by rw [List.getElem?_eq_getElem (by omega), e])
theorem Sk.drop_ge {N : List Sk.Nd} (ha : Sk.Asc Sk.kn N) {k : Kn.V} {y : Sk.Nd} (h : y ∈ N.drop (Sk.at_ Sk.kn N k)) : ¬ Kn.cmp (Sk.kn y) k < 0 := by
  obtain ⟨i, hi, e⟩ := List.getElem_of_mem h
  rw [List.length_drop] at hi
  rw [List.getElem_drop] at e
  have hy : N[Sk.at_ Sk.kn N k + i]? = some y := by rw [List.getElem?_eq_getElem (by omega), e]
  have hx : N[Sk.at_ Sk.kn N k]? = some (N[Sk.at_ Sk.kn N k]'(by omega)) := List.getElem?_eq_getElem _
  have h0 := Sk.at_ge hx
  rcases Nat.eq_zero_or_pos i with rfl | hp
  · rw [Nat.add_zero, hx] at hy
    rw [Option.some.inj hy] at h0
    exact h0
  · intro hlt
    have h1 := Sk.asc_behind ha (show Sk.at_ Sk.kn N k < Sk.at_ Sk.kn N k + i by omega) hx hy
    exact h0 (Sk.lt_trans h1 hlt)
theorem Sk.paA_one (p : Nat) (L : List Sk.Nd) : (Sk.paA p L).all (·.oneCell') = true := by
  have h : ∀ x ∈ (List.range 12).map (Sk.pa p L 0), x.oneCell' = true := fun x hx => by
    obtain ⟨j, _, rfl⟩ := List.mem_map.1 hx
    unfold Sk.pa
    rw [if_pos (Nat.zero_le _)]
    rfl
  unfold Sk.paA
  rw [List.all_toArray]
  exact List.all_eq_true.2 h
theorem Sk.paA_size (p : Nat) (L : List Sk.Nd) : (Sk.paA p L).size = 12 := by rfl
theorem Sk.pa_next {w : World} {g p m : Nat} {L : List Sk.Nd} {t : TypeId} (h : w.rowIs g t 12 (Sk.pa p L (m + 1))) : (w.setCell ⟨g, m, none⟩ (Sk.ad (Sk.lst m (p, 0) L))).rowIs g t 12 (Sk.pa p L m) :=
  (h.set m _).congr fun j _ => by
    unfold Sk.pa
    by_cases e : j = m
    · rw [if_pos e, if_pos (by omega), e]
    · rw [if_neg e]
      by_cases h2 : m + 1 ≤ j
      · rw [if_pos h2, if_pos (by omega)]
      · rw [if_neg h2, if_neg (by omega)]
set_option maxHeartbeats 8000000 in
set_option maxRecDepth 100000 in
theorem Sk.path_c {S : Nat → Prop} {w : World} {p : Nat} {N : List Sk.Nd} (h : Sk.PL S w p N) (k : Kn.V) :
    Calls Tryd.prog 26 #[.pointer (some ⟨p, 0, none⟩), k.val] w fun e w' => e = .returned (.agg (Sk.paA p (N.take (Sk.at_ Sk.kn N k)))) ∧ Below w.heap.size w w' := by
  obtain ⟨wa, hwa⟩ : ∃ wa, wa = w.alloc (.cells #[.bool k.null, .int .i64 k.n, .string k.s] 25) := ⟨_, rfl⟩
  obtain ⟨wb, hwb⟩ : ∃ wb, wb = wa.alloc (.cells Sk.nils 61) := ⟨_, rfl⟩
  obtain ⟨w3, hw3⟩ : ∃ w3, w3 = wb.alloc (.cells Sk.nils 61) := ⟨_, rfl⟩
  have hsa : wa.heap.size = w.heap.size + 1 := by rw [hwa]; exact World.size_alloc ..
  have hsb : wb.heap.size = w.heap.size + 2 := by rw [hwb, World.size_alloc]; omega
  have hs3 : w3.heap.size = w.heap.size + 3 := by rw [hw3, World.size_alloc]; omega
  have hba : Below w.heap.size w wa := by rw [hwa]; exact (Below.refl _ w).alloc (Nat.le_refl _) _
  have hbb : Below wa.heap.size wa wb := by rw [hwb]; exact (Below.refl _ wa).alloc (Nat.le_refl _) _
  have hb3 : Below wb.heap.size wb w3 := by rw [hw3]; exact (Below.refl _ wb).alloc (Nat.le_refl _) _
  have hka : Kn.At wa w.heap.size 0 k := by rw [hwa]; exact Kn.At.new w k _
  have hkk : Kn.At w3 w.heap.size 0 k := (hka.later hbb).later hb3
  have hB3 : Below w.heap.size w w3 := (hba.trans (hbb.mono (by omega))).trans (hb3.mono (by omega))
  have hres : w3.heap[w.heap.size + 1]? = some (.cells Sk.nils 61 (0, 0)) := by
    refine (hb3.block _ (by omega)).trans ?_
    rw [hwb, ← hsa]
    exact heap_alloc_new wa _
  obtain ⟨Lt, hLt⟩ : ∃ Lt, Lt = N.take (Sk.at_ Sk.kn N k) := ⟨_, rfl⟩
  obtain ⟨Ge, hGe⟩ : ∃ Ge, Ge = N.drop (Sk.at_ Sk.kn N k) := ⟨_, rfl⟩
  have hN : N = Lt ++ Ge := by rw [hLt, hGe, List.take_append_drop]
  have hrow : w3.rowIs (w.heap.size + 2) 61 12 (Sk.pa p Lt 12) := by rw [hw3, ← hsb]; exact Sk.nils_row wb p Lt _
  have HLT : Hid (∀ y ∈ Lt, Kn.cmp (Sk.kn y) k < 0) := Lib.hid fun y hy => Sk.take_lt (N := N) (by rw [← hLt]; exact hy)
  have HGE : Hid (∀ y ∈ Ge, 0 ≤ Kn.cmp (Sk.kn y) k) := Lib.hid fun y hy => Int.not_lt.1 (Sk.drop_ge h.asc (by rw [← hGe]; exact hy))
  have HND : Hid (((Lt ++ Ge).map Sk.Nd.b).Nodup ∧ ∀ x ∈ Lt ++ Ge, x.b ≠ p) := Lib.hid (by rw [← hN]; exact ⟨h.nodup, h.ne⟩)
  have HW : Hid (∀ W, Below (w.heap.size + 2) w3 W → Sk.PL S W p (Lt ++ Ge) ∧ Kn.At W w.heap.size 0 k ∧ W.heap[w.heap.size + 1]? = some (.cells Sk.nils 61 (0, 0))) := Lib.hid fun W g =>
    ⟨by rw [← hN]; exact h.kept (hB3.trans (g.mono (by omega))), ⟨(g.cell (p := ⟨w.heap.size, 0, none⟩) (by show w.heap.size < _; omega)).trans hkk.c0, (g.cell (p := ⟨w.heap.size, 0 + 1, none⟩) (by show w.heap.size < _; omega)).trans hkk.c1, (g.cell (p := ⟨w.heap.size, 0 + 2, none⟩) (by show w.heap.size < _; omega)).trans hkk.c2⟩, (g.block _ (by omega)).trans hres⟩
  have HS : Hid (w3.heap.size = w.heap.size + 3 ∧ Below w.heap.size w w3) := Lib.hid ⟨hs3, hB3⟩
  have HROW := Lib.hid hrow
  rw [← hLt]
  obtain ⟨kn, ki, ks⟩ := k
  clear h hsa hsb hs3 hba hbb hb3 hka hkk hB3 hres hLt hGe hN hrow
  unfold Kn.V.val
  go_enter Tryd.func26, Tryd.ntmps26
  go_wp2_with fail
  change Code.wp _ _ _ _ (((w.alloc (.cells #[.bool kn, .int .i64 ki, .string ks] 25)).alloc (.cells Sk.nils 61)).alloc (.cells Sk.nils 61))
  rw [← hwa, ← hwb, ← hw3]
  clear hwa hwb hw3
  go_loopw [6, 7] (fun at_ i wr => ∃ (n : Nat) (j : Int) (q : Nat × Nat), n ≤ 12 ∧ i = .int .i64 j ∧ j = (n : Int) - 1 ∧ at_ = .pointer (some ⟨q.1, q.2, none⟩) ∧ (∀ m, n = m + 1 → ∃ A C, Lt = A ++ C ∧ q = Sk.lst m (p, 0) A) ∧
      wr.rowIs (w.heap.size + 2) 61 12 (Sk.pa p Lt n) ∧ Below (w.heap.size + 2) w3 wr) (fun _ i _ => (intOf i + 1).toNat)
  case atStart => exact ⟨12, 11, (p, 0), Nat.le_refl _, rfl, rfl, rfl, fun m hm => ⟨[], Lt, rfl, rfl⟩, HROW.out, Below.refl _ _⟩
  case round =>
    obtain ⟨n, j, q, hn, rfl, hj, rfl, hq, hR, hB⟩ := hrel
    have HR := Lib.hid hR
    have HB := Lib.hid hB
    have HQ := Lib.hid hq
    clear hR hB hq HROW
    rcases n with _ | m
    · have hjn : ¬ (0 : Int) ≤ j := by omega
      clear hj
      obtain ⟨_, _, hr⟩ := HW.out wr HB.out
      have hz : wr.heap[w.heap.size + 2]? = some (.cells (Sk.paA p Lt) 61 (0, 0)) := Sk.row_all HR.out
      have HE : Hid (Below w.heap.size w (wr.setRow (w.heap.size + 1) (Sk.paA p Lt))) := Lib.hid (below_setRow (HS.out.2.trans (HB.out.mono (by omega))) (by omega) _)
      have HZ := Lib.hid hz
      have HRR := Lib.hid hr
      clear hr hz HW HLT HGE HND HR HB HQ HS
      go_wp2_with (first
        | refine wpList_load_row rfl 61 (.tmp 5) rfl (w.heap.size + 2) rfl 61 (Sk.paA p Lt) (0, 0) _ HZ.out Tryd.underlying61 rfl (by kernel_rfl) ?_
        | refine wpList_store_row rfl 61 (.tmp 4) (.tmp 42) rfl (w.heap.size + 1) (Sk.paA p Lt) rfl rfl 61 Sk.nils HRR.out (by kernel_rfl) rfl (Sk.paA_one _ _) ?_)
      refine bodyPost_ret (v := .agg (Sk.paA p Lt)) ?_ rfl ⟨rfl, HE.out⟩
      exact results_cell_row (P := Tryd.prog) rfl _ _ (w.heap.size + 1) 61 (Sk.paA p Lt) (0, 0) _ rfl (setRow_heap wr (w.heap.size + 1) Sk.nils (Sk.paA p Lt) 61 (0, 0) HRR.out) Tryd.underlying61 rfl (by kernel_rfl)
    · obtain rfl : j = (m : Int) := by omega
      obtain ⟨A0, C0, hAC0, rfl⟩ := HQ.out m rfl
      have hm0 : (0 : Int) ≤ (m : Int) := by omega
      have hm12 : m < 12 := by omega
      have hmi : (m : Int) < 12 := by omega
      have hm1 : (m : Int) + 1 - 1 = (m : Int) := by omega
      clear hj
      obtain ⟨a0, ha0⟩ : ∃ q, q = Sk.lst m (p, 0) A0 := ⟨_, rfl⟩
      rw [← ha0]
      have HA0 := Lib.hid ha0
      have HAC := Lib.hid hAC0
      clear ha0 hAC0 HQ
      go_wp2_with fail
      go_loopw [6] (fun at_ wt => ∃ (A C : List Sk.Nd) (q : Nat × Nat), Lt = A ++ C ∧ at_ = .pointer (some ⟨q.1, q.2, none⟩) ∧ q = Sk.lst m (p, 0) A ∧
          wt.rowIs (w.heap.size + 2) 61 12 (Sk.pa p Lt (m + 1)) ∧ Below (w.heap.size + 2) w3 wt) (fun at_ _ => Sk.rest p (Lt ++ Ge) at_)
      case atStart => exact ⟨A0, C0, a0, HAC.out, rfl, HA0.out, HR.out, HB.out⟩
      case round =>
        obtain ⟨A, C, q, hAC, rfl, hq, hR2, hB2⟩ := hrel
        have HR2 := Lib.hid hR2
        have HB2 := Lib.hid hB2
        clear hR2 hB2 HR HB HA0 HAC
        obtain ⟨q1, q2⟩ := q
        have HQ := Lib.hid hq
        have HAC := Lib.hid hAC
        have hN2 : Lt ++ Ge = A ++ (C ++ Ge) := by rw [hAC, List.append_assoc]
        have HL : Hid (∀ W, Below wr.heap.size wr W → W.cell? ⟨q1, q2 + m, none⟩ = some (Sk.pt (Sk.lnk m (C ++ Ge))) ∧ Kn.At W w.heap.size 0 ⟨kn, ki, ks⟩) := Lib.hid fun W g => by
          obtain ⟨h1, h2, _⟩ := HW.out W (HB2.out.trans (g.mono (by have := HB2.out.size; have := HS.out.1; omega)))
          rw [hN2] at h1
          have := (h1.lnk hm12).1
          rw [← hq] at this
          exact ⟨this, h2⟩
        have HB3 : Hid (∀ W, Below wr.heap.size wr W → Below (w.heap.size + 2) w3 W ∧ W.rowIs (w.heap.size + 2) 61 12 (Sk.pa p Lt (m + 1))) := Lib.hid fun W g =>
          ⟨HB2.out.trans (g.mono (by have := HB2.out.size; have := HS.out.1; omega)), HR2.out.of_block (g.block _ HR2.out.lt)⟩
        obtain ⟨l0, k0, k1, k2⟩ := HL.out wr.drew (Below.refl _ wr).drew
        have HEND : Hid ((∀ c ∈ C, c.h ≤ m) → (q1, q2) = Sk.lst m (p, 0) Lt) := Lib.hid fun hlow => by rw [HAC.out, Sk.lst_append, ← HQ.out, Sk.lst_low _ hlow]
        have HC9 : Hid (∀ W, Below wr.heap.size wr W → W.cell? ⟨w.heap.size + 1 + 1, m, none⟩ = some (.pointer none) ∧ W.frozen? ⟨w.heap.size + 1 + 1, m, none⟩ = false) := Lib.hid fun W g => by
          have h9 := (HB3.out W g).2
          have c9 := h9.cell hm12
          unfold Sk.pa at c9
          rw [if_neg (by omega)] at c9
          exact ⟨c9, h9.frozen m⟩
        have HFIN : Hid (∀ W, Below wr.heap.size wr W → (q1, q2) = Sk.lst m (p, 0) Lt → (∀ m', m = m' + 1 → ∃ A C, Lt = A ++ C ∧ ((q1, q2) : Nat × Nat) = Sk.lst m' (p, 0) A) ∧
            (W.setCell ⟨w.heap.size + 1 + 1, m, none⟩ (.pointer (some ⟨q1, q2, none⟩))).rowIs (w.heap.size + 2) 61 12 (Sk.pa p Lt m) ∧ Below (w.heap.size + 2) w3 (W.setCell ⟨w.heap.size + 1 + 1, m, none⟩ (.pointer (some ⟨q1, q2, none⟩)))) := Lib.hid fun W g e => by
          obtain ⟨h1, h2⟩ := HB3.out W g
          refine ⟨fun m' hm' => ?_, ?_, h1.setCell (p := ⟨w.heap.size + 1 + 1, m, none⟩) (Nat.le_refl _) _⟩
          · obtain ⟨A, C, e1, e2⟩ := Sk.lst_down m' (p, 0) Lt
            rw [← hm', ← e] at e2
            exact ⟨A, C, e1, e2⟩
          · have := Sk.pa_next h2
            rw [← e] at this
            exact this
        have HKY : Hid (∀ y ∈ Lt ++ Ge, Sk.Ky wr.drew y.b (Sk.kn y)) := Lib.hid fun y hy => (HW.out wr.drew (HB3.out _ (Below.refl _ wr).drew).1).1.key hy
        have HCMP : Hid (∀ (y : Sk.Nd) W, Below wr.heap.size wr W → Calls Tryd.prog 39 #[(Sk.kn y).val, .agg #[.bool kn, .int .i64 ki, .string ks]] W fun e w' => e = .returned (.int .i64 (Kn.cmp (Sk.kn y) ⟨kn, ki, ks⟩)) ∧ Below wr.heap.size wr w') := Lib.hid fun y W g =>
          (Kn.compare_c (Sk.kn y) ⟨kn, ki, ks⟩ W).mono fun e w' hh => ⟨hh.1, g.trans (hh.2.mono g.size)⟩
        clear hq hAC hN2
        rcases Sk.next_of (m := m) C Ge with ⟨hlow, hl⟩ | ⟨hlow, y, hy, hl⟩ | ⟨C1, y, C2, hC, hym, hl⟩
        · rw [hl] at l0
          replace l0 : wr.cell? ⟨q1, q2 + m, none⟩ = some (.pointer none) := l0
          have HQE := Lib.hid (HEND.out hlow)
          obtain ⟨c9, f9⟩ := HC9.out wr (Below.refl _ wr)
          clear hl hlow HL HB3 HEND HKY HCMP HC9 HND HS HLT HGE HW HQ HAC HR2 HB2
          go_wp2_with fail
          go_quiet (fail)
          go_wp2
          go_roundw
          case rel => exact ⟨m, (m : Int) - 1, (q1, q2), by omega, rfl, rfl, rfl, HFIN.out _ (Kn.below_drewN (Below.refl _ wr) _) HQE.out⟩
          case measure => simp [intOf]
        · rw [hl] at l0
          replace l0 : wr.drew.cell? ⟨q1, q2 + m, none⟩ = some (.pointer (some ⟨y.b, 0, none⟩)) := l0
          have HQE := Lib.hid (HEND.out hlow)
          have hge := HGE.out y hy
          have CK := Lib.hid (Sk.key_c (HKY.out y (List.mem_append_right _ hy)))
          have CC : Hid (∀ W, _) := Lib.hid (HCMP.out y)
          have hge2 : decide (Kn.cmp (Sk.kn y) ⟨kn, ki, ks⟩ < 0) = false := decide_eq_false (by omega)
          generalize Kn.cmp (Sk.kn y) ⟨kn, ki, ks⟩ = cm at CC hge hge2
          generalize (Sk.kn y).val = kv at CC CK
          clear hl hlow HB3 HEND HKY HCMP HND HS HLT HGE HW HQ HAC HR2 HB2 hy
          generalize y.b = yb at l0 CK
          go_wp2_with fail
          go_region_law (first
            | (go_simp; go_at_call 40; (with_reducible refine CK.out.mono ?_); rintro e w4 ⟨rfl, g4⟩
               have G4 : Hid (Below wr.heap.size wr w4) := Lib.hid ((Below.refl _ wr).drew.trans g4)
               obtain ⟨-, k0, k1, k2⟩ := HL.out w4 G4.out
               clear g4)
            | (go_simp; go_at_call 39; (with_reducible refine (CC.out _ G4.out).mono ?_); rintro e w5 ⟨rfl, g5⟩
               have G5 := Lib.hid g5
               clear g5))
          all_goals
            obtain ⟨c9, f9⟩ := HC9.out w5 G5.out
            clear CK CC HL HC9 G4
            go_wp2
            have HF := Lib.hid (HFIN.out _ G5.out HQE.out)
            go_roundw
            case rel => exact ⟨m, (m : Int) - 1, (q1, q2), by omega, rfl, rfl, rfl, HF.out⟩
            case measure => simp [intOf]
        · rw [hl] at l0
          replace l0 : wr.drew.cell? ⟨q1, q2 + m, none⟩ = some (.pointer (some ⟨y.b, 0, none⟩)) := l0
          have hyL : y ∈ Lt := by rw [HAC.out, hC]; simp
          have hlt := HLT.out y hyL
          have CK := Lib.hid (Sk.key_c (HKY.out y (List.mem_append_left _ hyL)))
          have CC : Hid (∀ W, _) := Lib.hid (HCMP.out y)
          have hlt2 : decide (Kn.cmp (Sk.kn y) ⟨kn, ki, ks⟩ < 0) = true := decide_eq_true hlt
          have HREL : Hid (Lt = (A ++ C1 ++ [y]) ++ C2 ∧ ((y.b, 3) : Nat × Nat) = Sk.lst m (p, 0) (A ++ C1 ++ [y])) := Lib.hid ⟨by rw [HAC.out, hC]; simp, (Sk.lst_high _ _ hym).symm⟩
          have HMS : Hid (Sk.rest p (Lt ++ Ge) (.pointer (some ⟨y.b, 3, none⟩)) < Sk.rest p (Lt ++ Ge) (.pointer (some ⟨q1, q2, none⟩))) := Lib.hid (by
            have e1 : Lt ++ Ge = (A ++ C1) ++ y :: (C2 ++ Ge) := by rw [HAC.out, hC]; simp
            have e2 : Lt ++ Ge = A ++ (C1 ++ y :: (C2 ++ Ge)) := by rw [HAC.out, hC]; simp
            obtain ⟨hd, hp⟩ := HND.out
            have m1 : Sk.rest p (Lt ++ Ge) (.pointer (some ⟨y.b, 3, none⟩)) = (C2 ++ Ge).length := by rw [e1]; exact Sk.rest_node 3 (by rw [← e1]; exact hd) (hp y (List.mem_append_left _ hyL))
            have m2 := Sk.rest_lst (p := p) (i := m) (o := 0) (A := A) (B := C1 ++ y :: (C2 ++ Ge)) (by rw [← e2]; exact hd) (fun x hx => hp x (by rw [e2]; exact List.mem_append_left _ hx))
            rw [← e2, ← HQ.out] at m2
            rw [m1]
            simp only [List.length_append, List.length_cons] at m2 ⊢
            omega)
          have HL2 : Hid (∀ W, Below wr.heap.size wr W → W.cell? ⟨q1, q2 + m, none⟩ = some (.pointer (some ⟨y.b, 0, none⟩))) := Lib.hid fun W g => by
            have := (HL.out W g).1
            rw [hl] at this
            exact this
          generalize Kn.cmp (Sk.kn y) ⟨kn, ki, ks⟩ = cm at CC hlt hlt2
          generalize (Sk.kn y).val = kv at CC CK
          clear hl HEND HKY HCMP HND HS HLT HGE HW HQ HAC HR2 HB2 hyL hC hym HFIN HC9
          go_wp2_with fail
          go_region_law (first
            | (go_simp; go_at_call 40; (with_reducible refine CK.out.mono ?_); rintro e w4 ⟨rfl, g4⟩
               have G4 : Hid (Below wr.heap.size wr w4) := Lib.hid ((Below.refl _ wr).drew.trans g4)
               obtain ⟨-, k0, k1, k2⟩ := HL.out w4 G4.out
               clear g4)
            | (go_simp; go_at_call 39; (with_reducible refine (CC.out _ G4.out).mono ?_); rintro e w5 ⟨rfl, g5⟩
               have G5 := Lib.hid g5
               clear g5))
          all_goals
            have l5 := HL2.out w5 G5.out
            have HF := Lib.hid (HB3.out w5 G5.out)
            clear CK CC HL HL2 G4 HB3
            go_wp2
            go_roundw
            case rel => exact ⟨A ++ C1 ++ [y], C2, (y.b, 3), HREL.out.1, rfl, HREL.out.2, HF.out.2, HF.out.1⟩
            case measure => exact HMS.out
end Go.Proofs.YtfjhffldhpcdmaaDoor

namespace Go.Proofs.YtfjhffldhpcdmaaDoor
open Go Go.RowKit
/-- The first node that does not come before a key. -/
def Sk.fst (N : List Sk.Nd) (k : Kn.V) : Option Nat := Sk.lnk 0 (N.drop (Sk.at_ Sk.kn N k))
theorem Sk.lnk_zero {L : List Sk.Nd} (h : ∀ x ∈ L, 1 ≤ x.h) : Sk.lnk 0 L = L.head?.map Sk.Nd.b := by
  cases L with
  | nil => rfl
  | cons x L => rw [Sk.lnk, if_pos (show 0 < x.h from h x List.mem_cons_self)]; rfl
theorem Sk.PL.fst {S : Nat → Prop} {w : World} {p : Nat} {N : List Sk.Nd} (h : Sk.PL S w p N) (k : Kn.V) : Sk.fst N k = (N[Sk.at_ Sk.kn N k]?).map Sk.Nd.b := by
  unfold Sk.fst
  rw [Sk.lnk_zero fun x hx => h.hgt x (List.mem_of_mem_drop hx), List.head?_drop]
theorem Sk.PL.split {S : Nat → Prop} {w : World} {p : Nat} {N : List Sk.Nd} (h : Sk.PL S w p N) (n : Nat) : Sk.PL S w p (N.take n ++ N.drop n) := by rw [List.take_append_drop]; exact h
set_option maxHeartbeats 1000000 in
set_option maxRecDepth 100000 in
theorem Sk.seek_c {S : Nat → Prop} {w : World} {p : Nat} {N : List Sk.Nd} (h : Sk.PL S w p N) (k : Kn.V) :
    Calls Tryd.prog 31 #[.pointer (some ⟨p, 0, none⟩), k.val] w fun e w' => e = .returned (Sk.pt (Sk.fst N k)) ∧ Below w.heap.size w w' := by
  obtain ⟨wb, hwb⟩ : ∃ wb, wb = w.alloc (.cells #[.bool k.null, .int .i64 k.n, .string k.s] 25) := ⟨_, rfl⟩
  have hb : Below w.heap.size w wb := by rw [hwb]; exact (Below.refl _ w).alloc (Nat.le_refl _) _
  obtain ⟨k0, k1, k2⟩ : Kn.At wb w.heap.size 0 k := by rw [hwb]; exact Kn.At.new w k _
  have hp := h.kept hb
  have CP := Lib.hid (Sk.path_c hp k)
  have HL : Hid (∀ W, Below wb.heap.size wb W → W.cell? ⟨(Sk.lst 0 (p, 0) (N.take (Sk.at_ Sk.kn N k))).1, (Sk.lst 0 (p, 0) (N.take (Sk.at_ Sk.kn N k))).2, none⟩ = some (Sk.pt (Sk.fst N k))) := Lib.hid fun W g =>
    ((((hp.kept g).split (Sk.at_ Sk.kn N k)).lnk (i := 0) (by decide)).1)
  have HB : Hid (∀ W, Below wb.heap.size wb W → Below w.heap.size w W) := Lib.hid fun W g => hb.trans (g.mono hb.size)
  have HPA : ∃ v1 v2 v3 v4 v5 v6 v7 v8 v9 v10 v11, Sk.paA p (N.take (Sk.at_ Sk.kn N k)) = #[.pointer (some ⟨(Sk.lst 0 (p, 0) (N.take (Sk.at_ Sk.kn N k))).1, (Sk.lst 0 (p, 0) (N.take (Sk.at_ Sk.kn N k))).2, none⟩), v1, v2, v3, v4, v5, v6, v7, v8, v9, v10, v11] := ⟨_, _, _, _, _, _, _, _, _, _, _, rfl⟩
  obtain ⟨v1, v2, v3, v4, v5, v6, v7, v8, v9, v10, v11, hpa⟩ := HPA
  rw [hpa] at CP
  generalize Sk.lst 0 (p, 0) (N.take (Sk.at_ Sk.kn N k)) = q at CP HL hpa
  obtain ⟨q1, q2⟩ := q
  generalize Sk.pt (Sk.fst N k) = pv at HL ⊢
  have hix : ∀ W : World, (Instr.index 61 (.agg #[.pointer (some ⟨q1, q2, none⟩), v1, v2, v3, v4, v5, v6, v7, v8, v9, v10, v11]) (.int .i64 0)).run Tryd.prog W = .ok (.pointer (some ⟨q1, q2, none⟩)) W := fun _ => rfl
  obtain ⟨kn, ki, ks⟩ := k
  unfold Kn.V.val at CP ⊢
  clear h hb hp hpa
  subst hwb
  go_enter Tryd.func31, Tryd.ntmps31
  go_wp2_with fail
  with_reducible refine CP.out.mono ?_
  rintro e w1 ⟨rfl, g1⟩
  have l0 := HL.out w1 g1
  have HE := Lib.hid (HB.out w1 g1)
  clear g1 HL HB CP k0 k1 k2
  go_wp2
  go_ret
  exact ⟨rfl, HE.out⟩
end Go.Proofs.YtfjhffldhpcdmaaDoor

namespace Go.Proofs.YtfjhffldhpcdmaaDoor
open Go Go.RowKit
/-- What Get answers. -/
def Sk.GetP (o : Option Dd.D) (w : World) (e : Ending) (w' : World) : Prop := match o with
  | none => e = .returned (.tuple #[.agg #[.bool false, .slice none 0 0], .bool false]) ∧ Below w.heap.size w w'
  | some d => ∃ u, e = .returned (.tuple #[.agg #[.bool d.gone, u], .bool true]) ∧ Sk.Rw w.heap.size w' u d.row ∧ Below w.heap.size w w'
theorem Sk.get_cases (N : List Sk.Nd) (k : Kn.V) : (N[Sk.at_ Sk.kn N k]? = none ∧ Sk.get Sk.kn N k = none) ∨
    (∃ x, N[Sk.at_ Sk.kn N k]? = some x ∧ (Kn.cmp (Sk.kn x) k == 0) = false ∧ Sk.get Sk.kn N k = none) ∨ ∃ x, N[Sk.at_ Sk.kn N k]? = some x ∧ (Kn.cmp (Sk.kn x) k == 0) = true ∧ Sk.get Sk.kn N k = some x := by
  cases hx : N[Sk.at_ Sk.kn N k]? with
  | none =>
    refine .inl ⟨rfl, ?_⟩
    unfold Sk.get
    split
    · exact hx
    · rfl
  | some x =>
    have h1 := Sk.at_ge hx
    have h2 := Sk.cmp_anti k (Sk.kn x)
    by_cases h0 : Kn.cmp (Sk.kn x) k = 0
    · refine .inr (.inr ⟨x, rfl, by rw [h0]; rfl, ?_⟩)
      unfold Sk.get Sk.there
      rw [hx]
      simp only [Bool.not_eq_true', decide_eq_false_iff_not]
      rw [if_pos (by omega)]
    · refine .inr (.inl ⟨x, rfl, by rw [beq_eq_false_iff_ne]; exact h0, ?_⟩)
      unfold Sk.get Sk.there
      rw [hx]
      simp only [Bool.not_eq_true', decide_eq_false_iff_not]
      rw [if_neg (by omega)]
theorem Sk.pt_none : Sk.pt (none.map Sk.Nd.b) = .pointer none := rfl
theorem Sk.pt_some (x : Sk.Nd) : Sk.pt ((some x).map Sk.Nd.b) = .pointer (some ⟨x.b, 0, none⟩) := rfl
set_option maxHeartbeats 4000000 in
set_option maxRecDepth 100000 in
theorem Sk.get_c {S : Nat → Prop} {w : World} {p : Nat} {N : List Sk.Nd} (h : Sk.PL S w p N) (k : Kn.V) :
    Calls Tryd.prog 17 #[.pointer (some ⟨p, 0, none⟩), k.val] w (Sk.GetP ((Sk.get Sk.kn N k).map Sk.Nd.d) w) := by
  obtain ⟨wa, hwa⟩ : ∃ wa, wa = w.alloc (.cells #[.bool k.null, .int .i64 k.n, .string k.s] 25) := ⟨_, rfl⟩
  obtain ⟨wb, hwb⟩ : ∃ wb, wb = wa.alloc (.cells #[.bool false, .slice none 0 0] 37) := ⟨_, rfl⟩
  have hsa : wa.heap.size = w.heap.size + 1 := by rw [hwa]; exact World.size_alloc ..
  have hba : Below w.heap.size w wa := by rw [hwa]; exact (Below.refl _ w).alloc (Nat.le_refl _) _
  have hbb : Below wa.heap.size wa wb := by rw [hwb]; exact (Below.refl _ wa).alloc (Nat.le_refl _) _
  have hsb : wb.heap.size = w.heap.size + 2 := by rw [hwb, World.size_alloc]; omega
  have hb0 : Below w.heap.size w wb := hba.trans (hbb.mono (by omega))
  have hkk : Kn.At wb w.heap.size 0 k := (show Kn.At wa w.heap.size 0 k by rw [hwa]; exact Kn.At.new w k _).later hbb
  have t2 : wb.heap[w.heap.size + 1]? = some (.cells #[.bool false, .slice none 0 0] 37 (0, 0)) := by rw [hwb, ← hsa]; exact heap_alloc_new wa _
  have hP := h.kept hb0
  have CS := Lib.hid (Sk.seek_c hP k)
  have HT : Hid (∀ W, Below wb.heap.size wb W → (W.cell? ⟨w.heap.size + 1, 0, none⟩ = some (.bool false) ∧ W.cell? ⟨w.heap.size + 1, 1, none⟩ = some (.slice none 0 0)) ∧ W.frozen? ⟨w.heap.size + 1, 0, none⟩ = false ∧ W.frozen? ⟨w.heap.size + 1, 1, none⟩ = false) := Lib.hid fun W g => by
    have hb := (g.block (w.heap.size + 1) (by omega)).trans t2
    exact ⟨⟨by rw [cell_of_row _ _ _ _ _ _ hb]; rfl, by rw [cell_of_row _ _ _ _ _ _ hb]; rfl⟩, frozen_of_row W _ 0 _ _ hb, frozen_of_row W _ 1 _ _ hb⟩
  have HSET : Hid (∀ W (a b : Value), Below wb.heap.size wb W → Below w.heap.size w ((W.setCell ⟨w.heap.size + 1, 0, none⟩ a).setCell ⟨w.heap.size + 1, 1, none⟩ b)) := Lib.hid fun W a b g =>
    Sk.put2 (hb0.trans (g.mono (by omega))) (by omega) a b
  have HRW : Hid (∀ W u l (a b : Value), Sk.Rw wb.heap.size W u l → Sk.Rw w.heap.size ((W.setCell ⟨w.heap.size + 1, 0, none⟩ a).setCell ⟨w.heap.size + 1, 1, none⟩ b) u l) := Lib.hid fun W u l a b hu => ((hu.put (by omega)).put (by omega)).mono (by omega)
  have HKK : Hid (∀ W, Below wb.heap.size wb W → Kn.At W w.heap.size 0 k) := Lib.hid fun W g => hkk.later g
  have HPW : Hid (∀ W, Below wb.heap.size wb W → Sk.PL S W p N) := Lib.hid fun W g => hP.kept g
  obtain ⟨k0, k1, k2⟩ := hkk
  rw [hP.fst] at CS
  rcases Sk.get_cases N k with ⟨hx, hG⟩ | ⟨x, hx, hc, hG⟩ | ⟨x, hx, hc, hG⟩
  · have CH : Hid (∀ W, _) := Lib.hid fun W => Sk.hasno_c (w := W) k
    rw [hG]
    rw [hx, Sk.pt_none] at CS
    unfold Sk.GetP
    dsimp only [Option.map]
    obtain ⟨kn, ki, ks⟩ := k
    unfold Kn.V.val at CS CH ⊢
    clear h hP hsa hba hbb hb0 hsb t2 hx hG
    go_enter Tryd.func17, Tryd.ntmps17
    go_wp2_with fail
    rw [← hwa, ← hwb]
    clear hwa hwb
    with_reducible refine CS.out.mono ?_
    rintro e w1 ⟨rfl, g1⟩
    obtain ⟨k0, k1, k2⟩ := HKK.out w1 g1
    have G1 := Lib.hid g1
    clear g1 CS
    go_wp2_with fail
    with_reducible refine (CH.out w1).mono ?_
    rintro e w2 ⟨rfl, g2⟩
    have G2 : Hid (Below wb.heap.size wb w2) := Lib.hid (G1.out.trans (g2.mono G1.out.size))
    obtain ⟨⟨t0, t1⟩, f0, f1⟩ := HT.out w2 G2.out
    have HE := Lib.hid (HSET.out w2 (.bool false) (.slice none 0 0) G2.out)
    clear g2 CH G1 G2 HT HSET HKK HPW HRW
    go_wp2
    (try simp only [Exit.inBlock, Exit.then])
    refine bodyPost_ret (v := .tuple #[.agg #[.bool false, .slice none 0 0], .bool false]) ?_ rfl ⟨rfl, HE.out⟩
    rw [results_cell_tmp rfl]
    go_simp
  · have CH : Hid (∀ W, Below wb.heap.size wb W → _) := Lib.hid fun W g => Sk.has_c (w := W) ((HPW.out W g).key (List.mem_of_getElem? hx)) k
    rw [hG]
    rw [hx, Sk.pt_some] at CS
    rw [hc] at CH
    unfold Sk.GetP
    dsimp only [Option.map]
    obtain ⟨kn, ki, ks⟩ := k
    unfold Kn.V.val at CS CH ⊢
    clear h hP hsa hba hbb hb0 hsb t2 hx hG hc
    generalize x.b = xb at CS CH
    go_enter Tryd.func17, Tryd.ntmps17
    go_wp2_with fail
    rw [← hwa, ← hwb]
    clear hwa hwb
    with_reducible refine CS.out.mono ?_
    rintro e w1 ⟨rfl, g1⟩
    obtain ⟨k0, k1, k2⟩ := HKK.out w1 g1
    have G1 := Lib.hid g1
    clear g1 CS
    go_wp2_with fail
    with_reducible refine (CH.out w1 G1.out).mono ?_
    rintro e w2 ⟨rfl, g2⟩
    have G2 : Hid (Below wb.heap.size wb w2) := Lib.hid (G1.out.trans (g2.mono G1.out.size))
    obtain ⟨⟨t0, t1⟩, f0, f1⟩ := HT.out w2 G2.out
    have HE := Lib.hid (HSET.out w2 (.bool false) (.slice none 0 0) G2.out)
    clear g2 CH G1 G2 HT HSET HKK HPW HRW
    go_wp2
    (try simp only [Exit.inBlock, Exit.then])
    refine bodyPost_ret (v := .tuple #[.agg #[.bool false, .slice none 0 0], .bool false]) ?_ rfl ⟨rfl, HE.out⟩
    rw [results_cell_tmp rfl]
    go_simp
  · have hxm := List.mem_of_getElem? hx
    have CH : Hid (∀ W, Below wb.heap.size wb W → _) := Lib.hid fun W g => Sk.has_c (w := W) ((HPW.out W g).key hxm) k
    obtain ⟨xa, xc, hxv⟩ := hP.slice hxm
    have CG : Hid (∀ W, Below wb.heap.size wb W → _) := Lib.hid fun W g => Sk.given_c (w := W) x.gone ((HPW.out W g).in_ hxm)
    have HND : Hid (∀ W, Below wb.heap.size wb W → W.cell? ⟨x.b, 0, none⟩ = some (.bool x.gone) ∧ W.cell? ⟨x.b, 1, none⟩ = some (.slice (some ⟨xa, 0, none⟩) x.row.length xc)) := Lib.hid fun W g => by
      have := (HPW.out W g).node hxm
      rw [hxv] at this
      exact ⟨this.1, this.2.1⟩
    rw [hxv] at CG
    rw [hG]
    rw [hx, Sk.pt_some] at CS
    rw [hc] at CH
    unfold Sk.GetP
    dsimp only [Option.map]
    obtain ⟨kn, ki, ks⟩ := k
    unfold Kn.V.val at CS CH ⊢
    have hgn : x.d.gone = x.gone := rfl
    have hrw : x.d.row = x.row := rfl
    rw [hgn, hrw]
    clear h hP hsa hba hbb hb0 hsb t2 hx hG hc hxm hxv hgn hrw
    generalize x.b = xb at CS CH HND
    generalize x.gone = xg at CG HND ⊢
    generalize x.row = xr at CG HND ⊢
    go_enter Tryd.func17, Tryd.ntmps17
    go_wp2_with fail
    rw [← hwa, ← hwb]
    clear hwa hwb
    with_reducible refine CS.out.mono ?_
    rintro e w1 ⟨rfl, g1⟩
    obtain ⟨k0, k1, k2⟩ := HKK.out w1 g1
    have G1 := Lib.hid g1
    clear g1 CS
    go_wp2_with fail
    with_reducible refine (CH.out w1 G1.out).mono ?_
    rintro e w2 ⟨rfl, g2⟩
    have G2 : Hid (Below wb.heap.size wb w2) := Lib.hid (G1.out.trans (g2.mono G1.out.size))
    obtain ⟨n0, n1⟩ := HND.out w2 G2.out
    clear g2 CH G1
    go_wp2_with fail
    with_reducible refine (CG.out w2 G2.out).mono ?_
    rintro e w3 ⟨u, rfl, hu, g3⟩
    have G3 : Hid (Below wb.heap.size wb w3) := Lib.hid (G2.out.trans (g3.mono G2.out.size))
    obtain ⟨av, nv, cv, rfl⟩ : ∃ a n c, u = .slice a n c := by
      rcases hu.form with ⟨e, _⟩ | ⟨g, c, e, _⟩
      · exact ⟨none, 0, 0, e⟩
      · exact ⟨_, _, c, e⟩
    obtain ⟨⟨t0, t1⟩, f0, f1⟩ := HT.out w3 G3.out
    have HE := Lib.hid (HSET.out w3 (.bool xg) (.slice av nv cv) G3.out)
    have HU := Lib.hid (HRW.out w3 _ _ (.bool xg) (.slice av nv cv) (hu.mono G2.out.size))
    clear g3 G3 G2 HT HSET HKK HPW HRW CG HND hu n0 n1
    go_wp2
    (try simp only [Exit.inBlock, Exit.then])
    refine bodyPost_ret (v := .tuple #[.agg #[.bool xg, .slice av nv cv], .bool true]) ?_ rfl ⟨_, rfl, HU.out, HE.out⟩
    rw [results_cell_tmp rfl]
    go_simp
set_option maxHeartbeats 1000000 in
set_option maxRecDepth 100000 in
/-- Of a list that isn't there. -/
theorem Sk.nil_get_c (w : World) (k : Kn.V) :
    Calls Tryd.prog 17 #[.pointer none, k.val] w (Sk.GetP none w) := by
  obtain ⟨wb, hwb⟩ : ∃ wb, wb = (w.alloc (.cells #[.bool k.null, .int .i64 k.n, .string k.s] 25)).alloc (.cells #[.bool false, .slice none 0 0] 37) := ⟨_, rfl⟩
  have hB : Below w.heap.size w wb := by rw [hwb]; exact ((Below.refl _ w).alloc (Nat.le_refl _) _).alloc (by simp) _
  have t2 : wb.heap[w.heap.size + 1]? = some (.cells #[.bool false, .slice none 0 0] 37 (0, 0)) := by
    rw [hwb]
    have := heap_alloc_new (w.alloc (.cells #[.bool k.null, .int .i64 k.n, .string k.s] 25)) (.cells #[.bool false, .slice none 0 0] 37)
    rwa [World.size_alloc] at this
  have t0 : wb.cell? ⟨w.heap.size + 1, 0, none⟩ = some (.bool false) := by rw [cell_of_row _ _ _ _ _ _ t2]; rfl
  have t1 : wb.cell? ⟨w.heap.size + 1, 1, none⟩ = some (.slice none 0 0) := by rw [cell_of_row _ _ _ _ _ _ t2]; rfl
  have f0 := frozen_of_row _ _ 0 _ _ t2
  have f1 := frozen_of_row _ _ 1 _ _ t2
  have HE := Lib.hid hB
  obtain ⟨kn, ki, ks⟩ := k
  unfold Kn.V.val Sk.GetP
  clear hB t2
  subst hwb
  go_enter Tryd.func17, Tryd.ntmps17
  go_wp2
  (try simp only [Exit.inBlock, Exit.then])
  refine bodyPost_ret (v := .tuple #[.agg #[.bool false, .slice none 0 0], .bool false]) ?_ rfl ⟨rfl, HE.out⟩
  rw [results_cell_tmp rfl]
  go_simp
end Go.Proofs.YtfjhffldhpcdmaaDoor

namespace Go.Proofs.YtfjhffldhpcdmaaDoor
open Go Go.RowKit
theorem Sk.Off.set {S : Nat → Prop} {w w' : World} (h : Sk.Off S w w') {a : Addr} (ha : S a.block ∨ w.heap.size ≤ a.block) (v : Value) : Sk.Off S w (w'.setCell a v) :=
  ⟨h.os, h.tape, h.output, by have := h.size; simpa [World.setCell] using this, fun k hk hs => by
    rw [Below.heap_setCell _ _ _ _ (fun e => by rcases ha with ha | ha; exact hs (e ▸ ha); omega)]
    exact h.block k hk hs⟩
theorem Sk.Off.alloc {S : Nat → Prop} {w w' : World} (h : Sk.Off S w w') (o : Obj) : Sk.Off S w (w'.alloc o) :=
  h.same (Sk.Off.of_below ((Below.refl _ w').alloc (Nat.le_refl _) o) |> fun x => ⟨x.os, x.tape, x.output, x.size, x.block⟩)
theorem Sk.Off.drew {S : Nat → Prop} {w w' : World} (h : Sk.Off S w w') : Sk.Off S w w'.drew := ⟨h.os, h.tape, h.output, h.size, h.block⟩
theorem Sk.Off.then {S : Nat → Prop} {w w1 w2 : World} (h : Sk.Off S w w1) (g : Below w1.heap.size w1 w2) : Sk.Off S w w2 := h.same (Sk.Off.of_below g)
theorem Sk.setCell_comm (w : World) {a b : Addr} (h : a.block ≠ b.block) (u v : Value) : (w.setCell a u).setCell b v = (w.setCell b v).setCell a u := by
  unfold World.setCell
  congr 1
  refine Array.ext_getElem? fun i => ?_
  simp only [Array.getElem?_modify]
  by_cases h1 : a.block = i
  · by_cases h2 : b.block = i
    · exact absurd (h1.trans h2.symm) h
    · simp [h1, h2]
  · by_cases h2 : b.block = i
    · simp [h1, h2]
    · simp [h1, h2]
/-- The list, while a node comes in. -/
structure Sk.MS (w0 : World) (p : Nat) (A B : List Sk.Nd) (n : Sk.Nd) (st : Int) (c bt : Value) (w : World) : Prop where
  hdr : w.rowIs p 58 15 (Sk.hf (.int .u64 st) c bt (A ++ n :: B))
  seg : Sk.Seg w (A ++ n :: B) []
  off : Sk.Off (fun b => b = p ∨ ∃ x ∈ A ++ B, x.b = b) w0 w
theorem Sk.MS.kept {w0 : World} {p : Nat} {A B : List Sk.Nd} {n : Sk.Nd} {st : Int} {c bt : Value} {w w' : World} (h : Sk.MS w0 p A B n st c bt w) (g : Below w.heap.size w w') : Sk.MS w0 p A B n st c bt w' :=
  ⟨h.hdr.of_block (g.block _ h.hdr.lt), h.seg.same fun x hx => g.block _ (h.seg.alive x hx), h.off.then g⟩
theorem Sk.MS.raise {w0 : World} {p : Nat} {A B : List Sk.Nd} {n : Sk.Nd} {st : Int} {c bt : Value} {w : World} {i : Nat} (hi : i < 12) (h : Sk.MS w0 p A B (n.up i) st c bt w)
    (hd : ((A ++ B).map Sk.Nd.b).Nodup) (hp : ∀ x ∈ A ++ B, x.b ≠ p) (hn : ∀ x ∈ A ++ B, x.b ≠ n.b) (hnp : n.b ≠ p) (hw : w0.heap.size ≤ n.b) :
    Sk.MS w0 p A B (n.up (i + 1)) st c bt ((w.setCell ⟨n.b, 3 + i, none⟩ (Sk.pt (Sk.lnk i B))).setCell ⟨(Sk.lst i (p, 0) A).1, (Sk.lst i (p, 0) A).2 + i, none⟩ (Sk.pt (some n.b))) := by
  have hup : (n.up i).up (i + 1) = n.up (i + 1) := rfl
  obtain ⟨hsA, hsB⟩ := (Sk.seg_append A (n.up i :: B) []).1 h.seg
  rw [List.append_nil] at hsA
  have hq : (Sk.lst i (p, 0) A).1 = p ∨ ∃ y ∈ A, (Sk.lst i (p, 0) A).1 = y.b := by
    rcases Sk.lst_or i A with hl | ⟨y, hy, _, h2, _⟩
    · exact .inl (by rw [Sk.lst_low _ hl])
    · exact .inr ⟨y, hy, by rw [h2]⟩
  have hqn : n.b ≠ (Sk.lst i (p, 0) A).1 := by
    rcases hq with e | ⟨y, hy, e⟩
    · rw [e]; exact hnp
    · rw [e]; exact (hn y (List.mem_append_left _ hy)).symm
  have hqB : ∀ x ∈ B, x.b ≠ (Sk.lst i (p, 0) A).1 := by
    rintro x hx e
    rcases hq with e2 | ⟨y, hy, e2⟩
    · exact hp x (List.mem_append_right _ hx) (e.trans e2)
    · rw [List.map_append, List.nodup_append] at hd
      exact hd.2.2 _ (List.mem_map_of_mem hy) _ (List.mem_map_of_mem hx) (e2.symm.trans e.symm)
  have hdA : (A.map Sk.Nd.b).Nodup := by rw [List.map_append, List.nodup_append] at hd; exact hd.1
  refine ⟨?_, ?_, ?_⟩
  · have h1 := h.hdr.setOther (a := ⟨n.b, 3 + i, none⟩) (fun e => hnp e.symm) (Sk.pt (Sk.lnk i B))
    have := Sk.raise_head hi (show (n.up i).h = i from rfl) h1 fun x hx => hp x (List.mem_append_left _ hx)
    rw [hup] at this
    exact this
  · refine (Sk.seg_append A _ []).2 ⟨?_, ?_, ?_⟩
    · rw [List.append_nil]
      have h1 := hsA.other (a := ⟨n.b, 3 + i, none⟩) (fun x hx => hn x (List.mem_append_left _ hx)) (Sk.pt (Sk.lnk i B))
      have := Sk.Seg.raise hi (show (n.up i).h = i from rfl) (p, 0) h1 hdA fun x hx => hp x (List.mem_append_left _ hx)
      rw [hup] at this
      exact this
    · rw [List.append_nil]
      have h1 := hsB.1
      rw [List.append_nil] at h1
      have := Sk.raise_self (show (n.up i).h = i from rfl) h1
      rw [hup] at this
      exact this.setOther (a := ⟨(Sk.lst i (p, 0) A).1, (Sk.lst i (p, 0) A).2 + i, none⟩) hqn _
    · exact (hsB.2.other (a := ⟨n.b, 3 + i, none⟩) (fun x hx => hn x (List.mem_append_right _ hx)) _).other (a := ⟨(Sk.lst i (p, 0) A).1, (Sk.lst i (p, 0) A).2 + i, none⟩) hqB _
  · refine (h.off.set (a := ⟨n.b, 3 + i, none⟩) (.inr hw) _).set (a := ⟨(Sk.lst i (p, 0) A).1, (Sk.lst i (p, 0) A).2 + i, none⟩) (.inl ?_) _
    rcases hq with e | ⟨y, hy, e⟩
    · exact .inl e
    · exact .inr ⟨y, List.mem_append_left _ hy, e.symm⟩
end Go.Proofs.YtfjhffldhpcdmaaDoor

namespace Go.Proofs.YtfjhffldhpcdmaaDoor
open Go Go.RowKit
theorem Sk.lnk_mid {n : Sk.Nd} (hn : n.h = 0) (j : Nat) (A B : List Sk.Nd) : Sk.lnk j (A ++ n :: B) = Sk.lnk j (A ++ B) := by
  induction A with
  | nil => rw [List.nil_append, List.nil_append, Sk.lnk, if_neg (by omega)]
  | cons x A ih => rw [List.cons_append, List.cons_append, Sk.lnk, Sk.lnk, ih]
/-- A node that is in no level yet. -/
theorem Sk.MS.start {w0 w : World} {p : Nat} {A B : List Sk.Nd} {n : Sk.Nd} {st : Int} {c bt : Value} (hn : n.h = 0) (h1 : w.rowIs p 58 15 (Sk.hf (.int .u64 st) c bt (A ++ B))) (h2 : Sk.Seg w (A ++ B) [])
    (hr : w.rowIs n.b 66 15 (n.f B)) (ho : Sk.Off (fun b => b = p ∨ ∃ x ∈ A ++ B, x.b = b) w0 w) : Sk.MS w0 p A B n st c bt w := by
  refine ⟨h1.congr fun j _ => ?_, ?_, ho⟩
  · unfold Sk.hf
    rw [Sk.lnk_mid hn]
  · obtain ⟨a1, a2⟩ := (Sk.seg_append A B []).1 h2
    rw [List.append_nil] at a1
    refine (Sk.seg_append A _ []).2 ⟨?_, ?_, a2⟩
    · rw [List.append_nil]
      exact a1.tail fun i R => Sk.lnk_mid hn i R B
    · rw [List.append_nil]
      exact hr
theorem Sk.MS.at {w0 w : World} {p : Nat} {A B : List Sk.Nd} {n : Sk.Nd} {st : Int} {c bt : Value} {k : Nat} (hk : k < 12) (h : Sk.MS w0 p A B (n.up k) st c bt w) :
    (w.cell? ⟨(Sk.lst k (p, 0) A).1, (Sk.lst k (p, 0) A).2 + k, none⟩ = some (.pointer ((Sk.lnk k B).map fun b => ⟨b, 0, none⟩)) ∧ w.frozen? ⟨(Sk.lst k (p, 0) A).1, (Sk.lst k (p, 0) A).2 + k, none⟩ = false) ∧
    w.cell? ⟨n.b, 3 + k, none⟩ = some (.pointer none) ∧ w.frozen? ⟨n.b, 3 + k, none⟩ = false := by
  obtain ⟨a1, a2, _⟩ := (Sk.seg_append A (n.up k :: B) []).1 h.seg
  rw [List.append_nil] at a1 a2
  have hl : Sk.lnk k (n.up k :: B) = Sk.lnk k B := by rw [Sk.lnk, if_neg (by show ¬ k < k; omega)]
  refine ⟨⟨?_, a1.lst_frozen (p, 0) (h.hdr.frozen _)⟩, ?_, a2.frozen (3 + k)⟩
  · have := a1.lst hk (p, 0) (by
      rw [show (0 : Nat) + k = k by omega]
      have := h.hdr.cell (i := k) (by omega)
      unfold Sk.hf at this
      rw [if_pos hk] at this
      exact this)
    rw [hl] at this
    exact this
  · have := a2.cell (i := 3 + k) (by omega)
    unfold Sk.Nd.f at this
    rw [if_neg (by omega), if_neg (by omega), if_neg (by omega), if_neg (by show ¬ 3 + k - 3 < k; omega)] at this
    exact this
theorem Sk.MS.drew {w0 w : World} {p : Nat} {A B : List Sk.Nd} {n : Sk.Nd} {st : Int} {c bt : Value} (h : Sk.MS w0 p A B n st c bt w) : Sk.MS w0 p A B n st c bt w.drew := h.kept (Below.refl _ w).drew
theorem Sk.lst_lt {w0 : World} {p : Nat} {A B : List Sk.Nd} (k : Nat) (h : ∀ x ∈ A ++ B, x.b < w0.heap.size) (hp : p < w0.heap.size) : (Sk.lst k (p, 0) A).1 < w0.heap.size := by
  rcases Sk.lst_or k A with hl | ⟨y, hy, _, h2, _⟩
  · rw [Sk.lst_low _ hl]; exact hp
  · rw [h2]; exact h y (List.mem_append_left _ hy)
theorem Sk.node_new (w : World) (gn : Bool) (rv : Value) (row : List Kn.V) (c : Nat) (B : List Sk.Nd) (b : Nat) (hb : b = w.heap.size) :
    (w.alloc (.cells #[.bool gn, rv, .int .i64 (c : Int), .pointer none, .pointer none, .pointer none, .pointer none, .pointer none, .pointer none, .pointer none, .pointer none, .pointer none, .pointer none, .pointer none, .pointer none] 66)).rowIs b 66 15 ((⟨b, gn, rv, row, c, 0⟩ : Sk.Nd).f B) := by
  subst hb
  exact World.rowIs_alloc w _ _ _ (fun i hi => by
    have hi : i < 15 := hi
    rcases (by omega : i = 0 ∨ i = 1 ∨ i = 2 ∨ i = 3 ∨ i = 4 ∨ i = 5 ∨ i = 6 ∨ i = 7 ∨ i = 8 ∨ i = 9 ∨ i = 10 ∨ i = 11 ∨ i = 12 ∨ i = 13 ∨ i = 14) with rfl | rfl | rfl | rfl | rfl | rfl | rfl | rfl | rfl | rfl | rfl | rfl | rfl | rfl | rfl <;> rfl)
set_option maxHeartbeats 8000000 in
set_option maxRecDepth 100000 in
theorem Sk.insert_c {w : World} {p : Nat} {A B : List Sk.Nd} {st : Int} {c : Nat} {bt : Value} (h1 : w.rowIs p 58 15 (Sk.hf (.int .u64 st) (.int .i64 (c : Int)) bt (A ++ B))) (h2 : Sk.Seg w (A ++ B) [])
    (hd : ((A ++ B).map Sk.Nd.b).Nodup) (hp : ∀ x ∈ A ++ B, x.b ≠ p) (hT : Sk.Tab w) (hg : 0 < p) (hc : c ≤ 1000000) (gn : Bool) (a : Option Addr) (m q : Nat) (row : List Kn.V) :
    Calls Tryd.prog 29 #[.pointer (some ⟨p, 0, none⟩), .agg (Sk.paA p A), .agg #[.bool gn, .slice a m q]] w fun e w' => e = .returned (.tuple #[]) ∧
      ∃ (b h : Nat) (st' : Int), w.heap.size ≤ b ∧ b < w'.heap.size ∧ 1 ≤ h ∧ Sk.MS w p A B ⟨b, gn, .slice a m q, row, c, h⟩ st' (.int .i64 ((c + 1 : Nat) : Int)) bt w' := by
  obtain ⟨wa, hwa⟩ : ∃ wa, wa = w.alloc (.cells (Sk.paA p A) 61) := ⟨_, rfl⟩
  obtain ⟨wb, hwb⟩ : ∃ wb, wb = wa.alloc (.cells #[.bool gn, .slice a m q] 37) := ⟨_, rfl⟩
  have hsa : wa.heap.size = w.heap.size + 1 := by rw [hwa]; exact World.size_alloc ..
  have hba : Below w.heap.size w wa := by rw [hwa]; exact (Below.refl _ w).alloc (Nat.le_refl _) _
  have hbb : Below wa.heap.size wa wb := by rw [hwb]; exact (Below.refl _ wa).alloc (Nat.le_refl _) _
  have hsb : wb.heap.size = w.heap.size + 2 := by rw [hwb, World.size_alloc]; omega
  have hb0 : Below w.heap.size w wb := hba.trans (hbb.mono (by omega))
  have hpw : p < w.heap.size := h1.lt
  have r1 := h1.of_block (hb0.block p hpw)
  have c13 : wb.drew.cell? ⟨p, 13, none⟩ = some (.int .i64 (c : Int)) := r1.drew.cell (i := 13) (by decide)
  have td : wb.heap[w.heap.size + 1]? = some (.cells #[.bool gn, .slice a m q] 37 (0, 0)) := by rw [hwb, ← hsa]; exact heap_alloc_new wa _
  have d0 : wb.drew.cell? ⟨w.heap.size + 1, 0, none⟩ = some (.bool gn) := by show wb.cell? _ = _; rw [cell_of_row _ _ _ _ _ _ td]; rfl
  have d1 : wb.drew.cell? ⟨w.heap.size + 1, 1, none⟩ = some (.slice a m q) := by show wb.cell? _ = _; rw [cell_of_row _ _ _ _ _ _ td]; rfl
  have HN1 : Hid (∀ cs : Array Value, cs = #[.bool gn, .slice a m q, .int .i64 (c : Int), .pointer none, .pointer none, .pointer none, .pointer none, .pointer none, .pointer none, .pointer none, .pointer none, .pointer none, .pointer none, .pointer none, .pointer none] → ∀ st',
      Sk.MS w p A B ⟨wb.heap.size, gn, .slice a m q, row, c, 0⟩ st' (.int .i64 (c : Int)) bt (((wb.alloc (.cells cs 66)).drew).setCell ⟨p, 12, none⟩ (.int .u64 st')) ∧
      (((wb.alloc (.cells cs 66)).drew).setCell ⟨p, 12, none⟩ (.int .u64 st')).rowIs w.heap.size 61 12 (Sk.pa p A 0) ∧
      ((wb.alloc (.cells cs 66)).drew).rowIs p 58 15 (Sk.hf (.int .u64 st) (.int .i64 (c : Int)) bt (A ++ B)) ∧ Sk.Tab ((wb.alloc (.cells cs 66)).drew)) := Lib.hid fun cs hcs st' => by
    have hb4 : Below w.heap.size w ((wb.alloc (.cells cs 66)).drew) := (hb0.alloc hb0.size _).drew
    have r4 := h1.of_block (hb4.block p hpw)
    have hnew := (Sk.node_new wb gn (.slice a m q) row c B wb.heap.size rfl).drew
    rw [← hcs] at hnew
    have hset := fun (b : Nat) (hb : b ≠ p) => Below.heap_setCell ((wb.alloc (.cells cs 66)).drew) ⟨p, 12, none⟩ (.int .u64 st') b hb
    refine ⟨Sk.MS.start rfl ?_ ?_ ?_ ?_, ?_, r4, hT.later hb4 (by omega)⟩
    · refine (r4.set 12 (.int .u64 st')).congr fun j hj => ?_
      by_cases e : j = 12
      · subst e; rfl
      · rw [if_neg e]
        unfold Sk.hf
        rw [if_neg e, if_neg e]
    · exact h2.same fun x hx => (hset x.b (hp x hx)).trans (hb4.block _ (h2.alive x hx))
    · exact hnew.of_block (hset _ (by show wb.heap.size ≠ p; omega))
    · exact (Sk.Off.of_below hb4).set (.inl (.inl rfl)) _
    · refine World.rowIs.of_block (w := wa) ?_ ?_
      · rw [hwa]
        exact World.rowIs_alloc w _ _ _ (fun i hi => by
          rw [Sk.paA_size] at hi
          unfold Sk.paA
          rw [List.getElem?_toArray, List.getElem?_map, List.getElem?_range hi]
          rfl)
      · refine (hset _ (by omega)).trans ?_
        exact ((hbb.alloc hbb.size _).drew.block w.heap.size (by omega))
  have HNB : Hid (w.heap.size + 2 = wb.heap.size) := Lib.hid hsb.symm
  have HOFF : Hid (∀ x ∈ A ++ B, x.b < w.heap.size) := Lib.hid fun x hx => h2.alive x hx
  have HD := Lib.hid hd
  have HP := Lib.hid hp
  have HPW := Lib.hid hpw
  clear h1 h2 hd hp hT hsa hba hbb hsb hb0 hpw r1 td
  go_enter Tryd.func29, Tryd.ntmps29
  go_wp2_with fail
  rw [← hwa, ← hwb]
  clear hwa hwb
  go_region
  have HN2 := Lib.hid (HN1.out _ rfl)
  clear HN1
  generalize hw4 : (wb.alloc _).drew = w4 at HN2 ⊢
  generalize wb.heap.size = nb at HN2 HNB ⊢
  clear hw4 c13 d0 d1
  go_wp2_with fail
  with_reducible refine (Sk.draw_c (HN2.out 0).2.2.1 (HN2.out 0).2.2.2 hg).mono ?_
  rintro e w5 ⟨h, st', hh1, hh2, rfl, rfl⟩
  obtain ⟨hms, hpb, _, _⟩ := HN2.out st'
  have HMS := Lib.hid hms
  have HPB := Lib.hid hpb
  clear hms hpb HN2
  generalize w4.setCell ⟨p, 12, none⟩ (.int .u64 st') = w5 at HMS HPB ⊢
  have hh0 : (0 : Int) ≤ (h : Int) := by omega
  go_wp2_with fail
  go_loopw [17] (fun i wr => ∃ k : Nat, k ≤ h ∧ i = .int .i64 k ∧ Sk.MS w p A B ⟨nb, gn, .slice a m q, row, c, k⟩ st' (.int .i64 (c : Int)) bt wr ∧ wr.rowIs w.heap.size 61 12 (Sk.pa p A 0)) (fun i _ => h - (intOf i).toNat)
  case atStart => exact ⟨0, Nat.zero_le _, rfl, HMS.out, HPB.out⟩
  case round =>
    obtain ⟨k, hk, rfl, hm2, hp2⟩ := hrel
    have HM2 := Lib.hid hm2
    have HP2 := Lib.hid hp2
    clear hm2 hp2 HMS HPB
    have hk0 : (0 : Int) ≤ (k : Int) := by omega
    by_cases hkh : k < h
    · have hki : (k : Int) < (h : Int) := by omega
      have hk12 : k < 12 := by omega
      have hk12i : (k : Int) < 12 := by omega
      obtain ⟨⟨hc1, hf1⟩, hc2, hf2⟩ := Sk.MS.at (n := ⟨nb, gn, .slice a m q, row, c, 0⟩) hk12 HM2.out
      have hlt := Sk.lst_lt (B := B) k HOFF.out HPW.out
      have hpc := HP2.out.cell hk12
      have hpa : Sk.pa p A 0 k = .pointer (some ⟨(Sk.lst k (p, 0) A).1, (Sk.lst k (p, 0) A).2, none⟩) := by unfold Sk.pa; rw [if_pos (Nat.zero_le _)]; rfl
      rw [hpa] at hpc
      have HNX : Hid (∀ W, W = (wr.setCell ⟨nb, 3 + k, none⟩ (.pointer ((Sk.lnk k B).map fun b => ⟨b, 0, none⟩))).setCell ⟨(Sk.lst k (p, 0) A).1, (Sk.lst k (p, 0) A).2 + k, none⟩ (.pointer (some ⟨nb, 0, none⟩)) →
          Sk.MS w p A B ⟨nb, gn, .slice a m q, row, c, k + 1⟩ st' (.int .i64 (c : Int)) bt W ∧ W.rowIs w.heap.size 61 12 (Sk.pa p A 0)) := Lib.hid fun W hW => by
        have hnb := HNB.out
        rw [hW]
        refine ⟨Sk.MS.raise (n := ⟨nb, gn, .slice a m q, row, c, 0⟩) hk12 HM2.out HD.out HP.out (fun x hx => by have := HOFF.out x hx; show x.b ≠ nb; omega) (by have := HPW.out; show nb ≠ p; omega) (by show w.heap.size ≤ nb; omega), ?_⟩
        exact (HP2.out.setOther (a := ⟨nb, 3 + k, none⟩) (by show w.heap.size ≠ nb; omega) _).setOther (a := ⟨(Sk.lst k (p, 0) A).1, (Sk.lst k (p, 0) A).2 + k, none⟩) (by show w.heap.size ≠ (Sk.lst k (p, 0) A).1; omega) _
      have hnq : ¬ nb = (Sk.lst k (p, 0) A).1 := by have := HNB.out; omega
      have hqn : ¬ (Sk.lst k (p, 0) A).1 = nb := by have := HNB.out; omega
      replace hc1 : wr.drew.cell? _ = _ := hc1
      replace hf1 : wr.drew.frozen? _ = _ := hf1
      replace hc2 : wr.drew.cell? _ = _ := hc2
      replace hf2 : wr.drew.frozen? _ = _ := hf2
      replace hpc : wr.drew.cell? _ = _ := hpc
      generalize (Sk.lnk k B).map (fun b => (⟨b, 0, none⟩ : Addr)) = o9 at hc1 HNX
      generalize Sk.lst k (p, 0) A = qq at hc1 hf1 hpc HNX hnq hqn hlt
      obtain ⟨q1, q2⟩ := qq
      have hwq : ¬ w.heap.size = nb := by have := HNB.out; omega
      have hwl : ¬ w.heap.size = q1 := by show ¬ w.heap.size = q1; have h9 : q1 < w.heap.size := hlt; omega
      have x1 : ((wr.setCell ⟨nb, 3 + k, none⟩ (.pointer o9)).drew).cell? ⟨w.heap.size, k, none⟩ = some (.pointer (some ⟨q1, q2, none⟩)) := (World.cell?_of_block (Below.heap_setCell _ _ _ _ hwq)).trans hpc
      have x2 : ((wr.setCell ⟨nb, 3 + k, none⟩ (.pointer o9)).drew).cell? ⟨q1, q2 + k, none⟩ = some (.pointer o9) := (World.cell?_of_block (Below.heap_setCell _ _ _ _ hqn)).trans hc1
      have x3 : ((wr.setCell ⟨nb, 3 + k, none⟩ (.pointer o9)).drew).frozen? ⟨q1, q2 + k, none⟩ = false := (World.frozen?_of_block (Below.heap_setCell _ _ _ _ hqn)).trans hf1
      have x4 : ((wr.setCell ⟨q1, q2 + k, none⟩ (.pointer (some ⟨nb, 0, none⟩))).drew).cell? ⟨w.heap.size, k, none⟩ = some (.pointer (some ⟨q1, q2, none⟩)) := (World.cell?_of_block (Below.heap_setCell _ _ _ _ hwl)).trans hpc
      have x5 : ((wr.setCell ⟨q1, q2 + k, none⟩ (.pointer (some ⟨nb, 0, none⟩))).drew).cell? ⟨nb, 3 + k, none⟩ = some (.pointer none) := (World.cell?_of_block (Below.heap_setCell _ _ _ _ hnq)).trans hc2
      have x6 : ((wr.setCell ⟨q1, q2 + k, none⟩ (.pointer (some ⟨nb, 0, none⟩))).drew).frozen? ⟨nb, 3 + k, none⟩ = false := (World.frozen?_of_block (Below.heap_setCell _ _ _ _ hnq)).trans hf2
      clear hpa hlt HM2 HP2 HOFF HD HP
      go_wp2_with fail
      go_region
      clear x1 x2 x3 x4 x5 x6 hc1 hf1 hc2 hf2 hpc
      go_wp2
      go_roundw
      case rel => exact ⟨k + 1, by omega, by simp, (HNX.out _ rfl).1.drew, (HNX.out _ rfl).2.drew⟩
      case measure => simp [intOf]; omega
    · obtain rfl : k = h := by omega
      have hki : ¬ (k : Int) < (k : Int) := by omega
      have c13 : wr.cell? ⟨p, 13, none⟩ = some (.int .i64 (c : Int)) := HM2.out.hdr.cell (i := 13) (by decide)
      have f13 := HM2.out.hdr.frozen 13
      have HF : Hid (Sk.MS w p A B ⟨nb, gn, .slice a m q, row, c, k⟩ st' (.int .i64 ((c + 1 : Nat) : Int)) bt (wr.setCell ⟨p, 13, none⟩ (.int .i64 ((c + 1 : Nat) : Int))) ∧ nb < (wr.setCell ⟨p, 13, none⟩ (.int .i64 ((c + 1 : Nat) : Int))).heap.size) := Lib.hid (by
        have h9 := HM2.out
        refine ⟨⟨(h9.hdr.set 13 _).congr fun j hj => ?_, h9.seg.other (a := ⟨p, 13, none⟩) (fun x hx => ?_) _, h9.off.set (.inl (.inl rfl)) _⟩, ?_⟩
        · by_cases e : j = 13
          · subst e; rfl
          · rw [if_neg e]
            unfold Sk.hf
            rw [if_neg e, if_neg e]
        · show x.b ≠ p
          rcases List.mem_append.1 hx with hx | hx
          · exact HP.out x (List.mem_append_left _ hx)
          · rcases List.mem_cons.1 hx with rfl | hx
            · have := HNB.out; have := HPW.out; show nb ≠ p; omega
            · exact HP.out x (List.mem_append_right _ hx)
        · have := h9.seg.alive ⟨nb, gn, .slice a m q, row, c, k⟩ (by simp)
          simpa [World.setCell] using this)
      have hc0 : (0 : Int) ≤ (c : Int) := by omega
      have hci : (c : Int) ≤ 1000000 := by omega
      have hcc : ((c + 1 : Nat) : Int) = (c : Int) + 1 := by omega
      rw [hcc] at HF
      have HNBL : Hid (w.heap.size ≤ nb) := Lib.hid (by have := HNB.out; omega)
      clear HM2 HP2 HOFF HD HP HNB hcc
      go_wp2
      go_end0
      exact ⟨rfl, nb, HNBL.out, HF.out.2, k, hh1, st', HF.out.1⟩
end Go.Proofs.YtfjhffldhpcdmaaDoor
