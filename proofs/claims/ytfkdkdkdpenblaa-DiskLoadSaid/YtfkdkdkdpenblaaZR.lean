/-
  Contracts of package texts: a string copied. Over a contract of the shelf, laid at this program.
  The developers' directories: a map of files by their names, as the plain directory that it reads as.
  The developers' files: their bytes (a slice whose room may have been cut), how many are durable; which block is whose.
  The developers' disk in memory: directories, files, pending changes (closures), alarms.
-/
import Derived.Test.YtfkdkdkdpenblaaRows
import Derived.Test.YtfkdkdkdpenblaaLay
import Derived.WalkKit
import Derived.WalkSpells
import Derived.WalkLawsBesides
import Derived.Test.YtfkdkdkdpenblaaZM
import Derived.Test.YtfkdkdkdpenblaaZH
import Derived.Test.YtfkdkdkdpenblaaZG
import Derived.Maps.OwnOps
import Derived.Maps.OwnSet
import Derived.Maps.RangeWalk
import Derived.Sort.KeysCollected
import Derived.Lib.AppendStr
import Derived.Lib.ConvBytes
import Derived.Laws.BytesArg
namespace Go.Proofs.Ytfkdkdkdpenblaa
open Go.RowKit Go.Shelf
/-- A string copied. -/
theorem Tx.clone_c (s : ByteArray) (w : World) (hs : s.size ≤ 140737488355328) : Calls Try.prog 57 #[.string s] w fun e w' => e = .returned (.string s) ∧ Below w.heap.size w w' := by
  have cc := Any.stringslite_Clone Try.cloneL s w (by omega)
  go_enter Try.func57, Try.ntmps57
  go_wp2_with fail
  refine Calls.mono cc ?_
  rintro e w1 ⟨rfl, hb⟩
  go_wp2
  go_ret
  exact ⟨rfl, hb⟩
end Go.Proofs.Ytfkdkdkdpenblaa

namespace Go.Proofs.Ytfkdkdkdpenblaa
open Go.RowKit Go.Maps
/-- How a pointer to a file reads: as the number of the file's block. -/
def Dk.ptrR : Value → Option (DataW Unit × List MemPlace)
  | .pointer none => some (.lit (.bool false), [])
  | .pointer (some ⟨b, 0, none⟩) => some (.lit (.int .i64 (b : Int)), [])
  | _ => none
theorem Dk.ptrR_some {v : Value} {b : Nat} {ps : List MemPlace} (h : Dk.ptrR v = some (.lit (.int .i64 (b : Int)), ps)) : v = .pointer (some ⟨b, 0, none⟩) := by
  unfold Dk.ptrR at h
  split at h
  · cases h
  · simp only [Option.some.injEq, Prod.mk.injEq, DataW.lit.injEq, Lit.int.injEq, true_and] at h
    rw [show b = _ from (Int.ofNat.inj h.1).symm]
  · cases h
theorem Dk.ptrR_none {v : Value} {ps : List MemPlace} (h : Dk.ptrR v = some (.lit (.bool false), ps)) : v = .pointer none := by
  unfold Dk.ptrR at h
  split at h
  · rfl
  · simp at h
  · cases h
theorem Dk.keyed : Keyed Try.prog 9 := string_keyed Try.underlying9
theorem Dk.key (s : Dk.Str) (hs : s.length ≤ 140737488351232) : keyOf Try.prog 9 (.string (Ty.S s)) = some (.string s) :=
  Go.WideMaps.keyOf_string_mk Try.underlying9 (by rw [Tx.S_size]; unfold maxLen; omega)
theorem Dk.isKey (s : Dk.Str) : WideAt.IsKeyLit (.string s) := trivial
/-- The datum reads as the directory l; file f lies in block q f. -/
def Dk.Rds (q : Nat → Nat) (D : DataW Unit) (l : Dk.Dir) : Prop := ∀ (s : Dk.Str) (z : DataW Unit), D.atKey (.string s) z = match Dk.look l s with | none => z | some f => .lit (.int .i64 (q f : Int))
theorem Dk.str_ne {s t : Dk.Str} (h : t ≠ s) : (Lit.string t) ≠ .string s := fun e => h (by simpa using e)
theorem Dk.Rds.nil (q : Nat → Nat) : Dk.Rds q (.map []) [] := fun _ _ => rfl
theorem Dk.Rds.put {q : Nat → Nat} {D : DataW Unit} {l : Dk.Dir} (h : Dk.Rds q D l) (hD : IsMap D) (ha : Dk.Asc l) (s : Dk.Str) (f : Nat) : Dk.Rds q (D.put (.string s) (.lit (.int .i64 (q f : Int)))) (Dk.wi l (s, f)) := fun t z => by
  rw [Dk.look_wi ha]
  by_cases e : t = s
  · rw [if_pos e, e, atKey_put_same hD (Dk.isKey s)]
  · rw [if_neg e, atKey_put_other (Dk.str_ne e), h t z]
theorem Dk.Rds.del {q : Nat → Nat} {D : DataW Unit} {l : Dk.Dir} (h : Dk.Rds q D l) (s : Dk.Str) : Dk.Rds q (D.del (.string s)) (Dk.wo l s) := fun t z => by
  rw [Dk.look_wo]
  by_cases e : t = s
  · rw [if_pos e, e, atKey_del_same]
  · rw [if_neg e, atKey_del_other (Dk.str_ne e), h t z]
theorem Dk.Rds.has {q : Nat → Nat} {D : DataW Unit} {l : Dk.Dir} (h : Dk.Rds q D l) (s : Dk.Str) : Maps.has D (.string s) = (Dk.look l s).isSome := by
  cases hl : Dk.look l s with
  | none => exact has_false_of_atKey fun z => by rw [h s z, hl]
  | some f => exact has_true_of_atKey (y := .lit (.int .i64 (q f : Int))) fun z => by rw [h s z, hl]
theorem Dk.names_nodup {l : Dk.Dir} (h : Dk.Asc l) : (l.map (·.1)).Nodup := by
  unfold Dk.Asc at h
  refine List.pairwise_map.2 (h.imp fun {x y} hxy => Dk.lt_ne hxy)
theorem Dk.look_isSome {l : Dk.Dir} (h : Dk.Asc l) (s : Dk.Str) : (Dk.look l s).isSome = true ↔ s ∈ l.map (·.1) := by
  rw [List.mem_map]
  cases hl : Dk.look l s with
  | none =>
    rw [Dk.look_none] at hl
    constructor
    · intro e; cases e
    · rintro ⟨y, hy, e⟩; exact absurd e (hl y hy)
  | some f =>
    rw [Dk.look_some h] at hl
    exact ⟨fun _ => ⟨_, hl, rfl⟩, fun _ => rfl⟩
/-- Block b is a map that reads as the directory l. -/
def Dk.PM (w : World) (q : Nat → Nat) (b : Nat) (l : Dk.Dir) : Prop := ∃ D : DataW Unit, w.ownsMap Try.prog 9 Dk.ptrR b 1000000 D ∧ Dk.Rds q D l
theorem Dk.tight {H : Type} {P : Program} {k : TypeId} {R : Value → Option (DataW H × List MemPlace)} {w : World} {b n : Nat} {D : DataW H} (h : w.ownsMap P k R b n D) : w.ownsMap P k R b (Maps.size D) D := by
  obtain ⟨es, clock, hb, F, hs, rfl⟩ := h
  exact ⟨es, clock, hb, F, by simp [Maps.size, length_sorted], rfl⟩
theorem Dk.PM.keys {w : World} {q : Nat → Nat} {b : Nat} {l : Dk.Dir} (h : Dk.PM w q b l) (ha : Dk.Asc l) :
    ∃ D : DataW Unit, w.ownsMap Try.prog 9 Dk.ptrR b l.length D ∧ Dk.Rds q D l ∧ (l.map (·.1)).Perm (strKeys D) ∧ Maps.size D = l.length := by
  obtain ⟨D, hown, hr⟩ := h
  obtain ⟨es, hD, hpw, _⟩ := hown.entries Dk.keyed
  obtain ⟨es', hD', hko⟩ := hown.keysOf
  obtain rfl : es = es' := by rw [hD] at hD'; simpa using hD'
  subst hD
  have hp := perm_strKeys hpw (fun p hp => by obtain ⟨v, hv⟩ := hko p hp; obtain ⟨x, _, hx, _⟩ := Maps.keyOf_str Try.underlying9 hv; exact ⟨x, hx⟩) (Dk.names_nodup ha) (fun x => by rw [hr.has, Dk.look_isSome ha])
  have hs : Maps.size (DataW.map es) = l.length := by
    have := hp.length_eq
    rw [List.length_map] at this
    rw [this]
    show es.length = (es.map fun p => strOf p.1).length
    rw [List.length_map]
  exact ⟨_, hs ▸ Dk.tight hown, hr, hp, hs⟩
theorem Dk.PM.lt {w : World} {q : Nat → Nat} {b : Nat} {l : Dk.Dir} (h : Dk.PM w q b l) : b < w.heap.size := by
  obtain ⟨D, hown, _⟩ := h
  exact hown.lt
theorem Dk.PM.isMap {w : World} {q : Nat → Nat} {b : Nat} {l : Dk.Dir} (h : Dk.PM w q b l) : ∃ es c, w.heap[b]? = some (.map es c) := by
  obtain ⟨D, ⟨es, c, hb, _⟩, _⟩ := h
  exact ⟨es, c, hb⟩
theorem Dk.PM.same {w w' : World} {q : Nat → Nat} {b : Nat} {l : Dk.Dir} (h : Dk.PM w q b l) (g : w'.heap[b]? = w.heap[b]?) : Dk.PM w' q b l := by
  obtain ⟨D, ⟨es, c, hb, r⟩, hr⟩ := h
  exact ⟨D, ⟨es, c, g.trans hb, r⟩, hr⟩
/-- Another naming of blocks that is the same on the files that are there. -/
theorem Dk.PM.turn {w : World} {q q' : Nat → Nat} {b : Nat} {l : Dk.Dir} (h : Dk.PM w q b l) (ha : Dk.Asc l) (g : ∀ y ∈ l, q' y.2 = q y.2) : Dk.PM w q' b l := by
  obtain ⟨D, hown, hr⟩ := h
  refine ⟨D, hown, fun s z => ?_⟩
  rw [hr s z]
  cases hl : Dk.look l s with
  | none => rfl
  | some f => simp only; rw [g (s, f) ((Dk.look_some ha).1 hl)]
theorem Dk.PM.made (w : World) (q : Nat → Nat) : Dk.PM (w.alloc (.map #[] 0)) q w.heap.size [] := ⟨_, (World.ownsMap_made w _ _ _).mono (Nat.zero_le _), Dk.Rds.nil q⟩
/-- 'm[s]'. -/
theorem Dk.PM.look {w : World} {q : Nat → Nat} {b : Nat} {l : Dk.Dir} (h : Dk.PM w q b l) (s : Dk.Str) (hs : s.length ≤ 140737488351232) :
    (Instr.lookup 57 (.map (some b)) (.string (Ty.S s)) false).run Try.prog w = .ok (.pointer (match Dk.look l s with | none => none | some f => some ⟨q f, 0, none⟩)) w := by
  obtain ⟨D, hown, hr⟩ := h
  obtain ⟨v, ps, hrun, hv⟩ := hown.lookup (e := 72) Dk.keyed Try.underlying57 (z := .pointer none) (by kernel_rfl) (zd := .lit (.bool false)) (zp := []) rfl (Dk.key s hs)
  rw [hrun]
  rw [hr s] at hv
  cases hl : Dk.look l s with
  | none => rw [hl] at hv; rw [Dk.ptrR_none hv]
  | some f => rw [hl] at hv; rw [Dk.ptrR_some hv]
theorem Dk.look_nil (s : Dk.Str) (hs : s.length ≤ 140737488351232) (w : World) : (Instr.lookup 57 (.map none) (.string (Ty.S s)) false).run Try.prog w = .ok (.pointer none) w := by
  have := Maps.look_nil (P := Try.prog) (w := w) (t := 57) (e := 72) false Dk.keyed Try.underlying57 (z := .pointer none) (by kernel_rfl) (Dk.key s hs)
  simpa using this
/-- 'm[s] = f'. -/
theorem Dk.PM.store {w : World} {q : Nat → Nat} {b : Nat} {l : Dk.Dir} (h : Dk.PM w q b l) (ha : Dk.Asc l) (hl : l.length ≤ 500000) (s : Dk.Str) (hs : s.length ≤ 140737488351232) (f : Nat) :
    ∃ w', (Instr.mapUpdate 57 (.map (some b)) (.string (Ty.S s)) (.pointer (some ⟨q f, 0, none⟩))).run Try.prog w = .ok () w' ∧ Dk.PM w' q b (Dk.wi l (s, f)) ∧ w.mapTurned w' b := by
  obtain ⟨D, hown, hr, _, _⟩ := h.keys ha
  obtain ⟨w', hrun, h1, h2⟩ := hown.store (e := 72) Dk.keyed Try.underlying57 (by unfold maxLen; omega) (Dk.key s hs) (val := .pointer (some ⟨q f, 0, none⟩)) (d := .lit (.int .i64 (q f : Int))) (ps := []) rfl
  exact ⟨w', hrun, ⟨_, h1.mono (by omega), hr.put hown.isMap ha s f⟩, h2⟩
/-- 'delete(m, s)'. -/
theorem Dk.PM.drop {w : World} {q : Nat → Nat} {b : Nat} {l : Dk.Dir} (h : Dk.PM w q b l) (s : Dk.Str) (hs : s.length ≤ 140737488351232) (ty : TypeId) :
    ∃ w', (Builtin.delete_ #[57, 9] ty #[.map (some b), .string (Ty.S s)]).run Try.prog w = .ok (.tuple #[]) w' ∧ Dk.PM w' q b (Dk.wo l s) ∧ w.mapTurned w' b := by
  obtain ⟨D, hown, hr⟩ := h
  obtain ⟨w', hrun, h1, h2⟩ := hown.drop (e := 72) Dk.keyed Try.underlying57 (Dk.key s hs) ty
  exact ⟨w', hrun, ⟨_, h1, hr.del s⟩, h2⟩
end Go.Proofs.Ytfkdkdkdpenblaa

namespace Go.Proofs.Ytfkdkdkdpenblaa
open Go.RowKit Go.Maps
/-- The slice v holds the bytes l. 'm': of a disk that was loaded (whose bytes may have room that cannot be written). -/
def Dk.PB (m : Bool) (w : World) (v : Value) (l : Dk.Str) : Prop :=
  (v = .slice none 0 0 ∧ l = []) ∨ ∃ g c cur fr, v = .slice (some ⟨g, 0, none⟩) l.length c ∧ w.heap[g]? = some (.cells cur 5 fr) ∧ l.length ≤ c ∧ c ≤ maxLen ∧ l.length ≤ cur.size ∧ cur.toList.take l.length = l.map Ty.B ∧ (m = true ∨ c = l.length ∨ (fr = (0, 0) ∧ c ≤ cur.size))
theorem Dk.PB.nil (m : Bool) (w : World) : Dk.PB m w (.slice none 0 0) [] := .inl ⟨rfl, rfl⟩
theorem Dk.PB.same {m : Bool} {w w' : World} {v : Value} {l : Dk.Str} (h : Dk.PB m w v l) (g : ∀ b, v.ownBlock = some b → w'.heap[b]? = w.heap[b]?) : Dk.PB m w' v l := by
  rcases h with h | ⟨b, c, cur, fr, rfl, hb, r⟩
  · exact .inl h
  · exact .inr ⟨b, c, cur, fr, rfl, (g b rfl).trans hb, r⟩
theorem Dk.PB.lt {m : Bool} {w : World} {v : Value} {l : Dk.Str} (h : Dk.PB m w v l) : ∀ b, v.ownBlock = some b → b < w.heap.size := by
  rcases h with ⟨rfl, _⟩ | ⟨g, c, cur, fr, rfl, hb, _⟩
  · intro b hb; cases hb
  · intro b e
    obtain rfl : g = b := by simpa [Value.ownBlock] using e
    exact (Array.getElem?_eq_some_iff.1 hb).1
theorem Dk.PB.typed {m : Bool} {w : World} {v : Value} {l : Dk.Str} (h : Dk.PB m w v l) : ∀ b, v.ownBlock = some b → ∃ cs fr, w.heap[b]? = some (.cells cs 5 fr) := by
  rcases h with ⟨rfl, _⟩ | ⟨g, c, cur, fr, rfl, hb, _⟩
  · intro b hb; cases hb
  · intro b e
    obtain rfl : g = b := by simpa [Value.ownBlock] using e
    exact ⟨cur, fr, hb⟩
theorem Dk.PB.is {m : Bool} {w : World} {v : Value} {l : Dk.Str} (h : Dk.PB m w v l) : ∃ a c, v = .slice a l.length c ∧ l.length ≤ c := by
  rcases h with ⟨rfl, rfl⟩ | ⟨g, c, cur, fr, rfl, _, h1, _⟩
  · exact ⟨none, 0, rfl, Nat.le_refl _⟩
  · exact ⟨_, c, rfl, h1⟩
theorem Dk.cells_take {cur : Array Value} {xs : List Value} (h : cur.toList.take xs.length = xs) (j : Nat) (u : Value) (hj : xs[j]? = some u) : cur[j]? = some u := by
  have hjl : j < xs.length := (List.getElem?_eq_some_iff.1 hj).1
  rw [← h, List.getElem?_take, if_pos hjl] at hj
  simpa using hj
theorem Dk.PB.cell {m : Bool} {w : World} {g n c : Nat} {l : Dk.Str} (h : Dk.PB m w (.slice (some ⟨g, 0, none⟩) n c) l) (j : Nat) (u : Value) (hj : (l.map Ty.B)[j]? = some u) : w.cell? ⟨g, j, none⟩ = some u := by
  rcases h with ⟨e, _⟩ | ⟨g', c', cur, fr, e, hb, _, _, _, ht, _⟩
  · cases e
  · simp only [Value.slice.injEq, Option.some.injEq, Addr.mk.injEq, and_true] at e
    obtain ⟨rfl, _, _⟩ := e
    rw [cell_of_row w g j cur _ _ hb]
    have ht' : cur.toList.take (l.map Ty.B).length = l.map Ty.B := by rw [List.length_map]; exact ht
    have := Dk.cells_take ht' j u hj
    rw [this]
theorem Dk.strCells (t : Dk.Str) : Lib.strCells (Ty.S t) = t.map Ty.B := rfl
/-- 'append(b, t...)'. -/
theorem Dk.PB.append {w : World} {v : Value} {l : Dk.Str} (h : Dk.PB false w v l) (t : Dk.Str) (hl : l.length + t.length ≤ 140737488355328) (ty : TypeId) :
    ∃ v' w', (Builtin.append_ #[73, 9] ty #[v, .string (Ty.S t)]).run Try.prog w = .ok v' w' ∧ Dk.PB false w' v' (l ++ t) ∧ Ty.Grew w w' v v' := by
  obtain ⟨i0, hi, hz0, hz1, hz2⟩ := info_parts Ty.info8
  have hsz : (Ty.S t).size = t.length := Tx.S_size t
  have hlm : l.length + t.length ≤ maxLen := by unfold maxLen; omega
  have fromRow : ∀ {w' : World} {v' : Value}, w'.ownsRow 0 5 1 v' (l.length + t.length) ((l ++ t).map Ty.B) → Dk.PB false w' v' (l ++ t) := by
    intro w' v' ho
    rcases ho.2 with ⟨rfl, hn⟩ | ⟨g, cap, cur, rfl, _, hg, hnc, hcm, hcs, htk⟩
    · refine .inl ⟨rfl, List.eq_nil_of_length_eq_zero (by rw [List.length_append]; omega)⟩
    · refine .inr ⟨g, cap, cur, (0, 0), by rw [List.length_append], hg, by rw [List.length_append]; omega, hcm, by rw [List.length_append]; omega, ?_, .inr (.inr ⟨rfl, by omega⟩)⟩
      rw [List.length_append]
      simpa using htk
  rcases h with ⟨rfl, rfl⟩ | ⟨g, c, cur, fr, rfl, hg, hnc, hcm, hcs, htk, hfr⟩
  · obtain ⟨v', w', hr, ho, hgr⟩ := Ty.append_tight_string (P := Try.prog) w 0 73 9 ty 5 i0 Try.underlying73 Try.underlying9 hi hz0 hz1 hz2 (.slice none 0 0) 0 [] (World.ownsRow_nil w 0 _ 1) (Ty.S t) (by rw [hsz]; unfold maxLen; omega) (by rw [hsz]; simp at hl; omega) (Nat.zero_le _)
    refine ⟨v', w', hr, fromRow (by rw [hsz, Dk.strCells] at ho; simpa using ho), hgr⟩
  · have holds : ∀ j u, (l.map Ty.B)[j]? = some u → w.cell? ((⟨g, 0, none⟩ : Addr).add j) = some u := fun j u hj => by
      rw [Dk.addr_add, Nat.zero_add]
      exact Dk.PB.cell (m := false) (.inr ⟨g, c, cur, fr, rfl, hg, hnc, hcm, hcs, htk, hfr⟩) j u hj
    by_cases ht0 : t = []
    · subst ht0
      refine ⟨.slice (some ⟨g, 0, none⟩) l.length c, w, ?_, ?_, Ty.Grew.refl _ _⟩
      · have hf := Lib.run_firstCells_string (P := Try.prog) w 1 (Ty.S [])
        have e0 : (Ty.S []).size = 0 := Tx.S_size []
        rw [e0] at hf
        have ec : Lib.strCells (Ty.S []) = [] := rfl
        rw [ec] at hf
        simp [Builtin.append_, run_underlying Try.underlying73, run_underlying Try.underlying9, sizeOf, typeInfo, hi, hz1, Builtin.lenOf, hnc, e0, hf, storeCells]
      · rw [List.append_nil]
        exact .inr ⟨g, c, cur, fr, rfl, hg, hnc, hcm, hcs, htk, hfr⟩
    · have htp : 0 < t.length := List.length_pos_iff.2 ht0
      by_cases hroom : l.length + t.length ≤ c
      · obtain ⟨rfl, hcc⟩ : fr = (0, 0) ∧ c ≤ cur.size := by
          rcases hfr with h | h | h
          · cases h
          · omega
          · exact h
        have hr := Lib.run_append_room_string (P := Try.prog) w 73 9 ty 5 i0 Try.underlying73 Try.underlying9 hi hz1 g l.length c cur hg (Ty.S t) (by rw [hsz]; exact hroom) (by rw [hsz]; omega)
        refine ⟨_, _, hr, .inr ⟨g, c, _, (0, 0), by rw [hsz, List.length_append], setRow_heap w g cur _ _ _ hg, by rw [List.length_append]; omega, hcm, ?_, ?_, .inr (.inr ⟨rfl, ?_⟩)⟩, ⟨⟨rfl, rfl, rfl, by simp, fun k _ hk => setRow_other w g k _ (fun e => hk (by simp [Value.ownBlock, e]))⟩, .inl rfl⟩⟩
        · simp only [List.size_toArray, List.length_append, List.length_take, List.length_drop, Array.length_toList, Lib.strCells_length, hsz]
          omega
        · rw [htk, Dk.strCells, ← List.map_append]
          have : (l ++ t).length = ((l ++ t).map Ty.B).length := (List.length_map _).symm
          rw [this]
          exact List.take_left
        · simp only [List.size_toArray, List.length_append, List.length_take, List.length_drop, Array.length_toList, Lib.strCells_length, hsz]
          omega
      · have hr := Lib.run_append_grow_string (P := Try.prog) w 73 9 ty 5 i0 (.int .u8 0) Try.underlying73 Try.underlying9 hi hz0 ⟨g, 0, none⟩ l.length c (l.map Ty.B) (by rw [hz1]; simp) holds (Ty.S t) (by rw [hsz]; omega) (by rw [hsz]; omega) (by rw [hsz, hz2]; exact growslice_fits (by omega) (by omega))
        rw [hsz] at hr
        have hge := grownCap_ge w (l.length + t.length) c 5
        have hcm2 : grownCap w (l.length + t.length) c 5 ≤ maxLen := grownCap_le_maxLen w (l.length + t.length) c _ hlm
        generalize grownCap w (l.length + t.length) c 5 = gc at hr hge hcm2
        have hz1' : (Value.int IntKind.u8 0).cells.size = 1 := rfl
        refine ⟨_, _, hr, .inr ⟨w.heap.size, gc, _, (0, 0), by rw [List.length_append], heap_alloc_new w.drew _, by rw [List.length_append]; omega, hcm2, ?_, ?_, .inr (.inr ⟨rfl, ?_⟩)⟩, ⟨⟨rfl, rfl, rfl, by simp, fun k hk _ => Below.heap_alloc w.drew _ k hk⟩, .inr ⟨_, rfl, Nat.le_refl _⟩⟩⟩
        · simp only [Array.size_append, List.size_toArray, size_zeroCells, hz1', List.length_map, Lib.strCells_length, hsz, List.length_append]
          omega
        · simp only [Array.toList_append, List.append_assoc, Dk.strCells]
          rw [← List.append_assoc, ← List.map_append]
          have : (l ++ t).length = ((l ++ t).map Ty.B).length := (List.length_map _).symm
          rw [this]
          exact List.take_left
        · simp only [Array.size_append, List.size_toArray, size_zeroCells, hz1', List.length_map, Lib.strCells_length, hsz]
          omega
set_option maxRecDepth 100000 in
/-- 'string(b)'. -/
theorem Dk.PB.string {m : Bool} {w : World} {v : Value} {l : Dk.Str} (h : Dk.PB m w v l) : (convert 73 9 v).run Try.prog w = .ok (.string (Ty.S l)) w := by
  rcases h with ⟨rfl, rfl⟩ | ⟨g, c, cur, fr, rfl, hg, hnc, hcm, hcs, htk, hfr⟩
  · exact run_convert_bytes_nil w 73 _ Try.underlying73 Try.underlying5 0 0 9 Try.underlying9
  · have hc := Dk.PB.cell (m := m) (w := w) (.inr ⟨g, c, cur, fr, rfl, hg, hnc, hcm, hcs, htk, hfr⟩)
    have := run_convert_bytes_arg (P := Try.prog) w 73 _ Try.underlying73 Try.underlying5 g 0 l.length c (l.map fun u => (u.toNat : Int)) (by simp) (fun i hi => by
      rw [Nat.zero_add]
      rw [hc i (Ty.B l[i]) (by simp [hi])]
      simp [Ty.B, hi]) 9 Try.underlying9
    rw [this]
    have e : strOfNums (l.map fun u => (u.toNat : Int)) = Ty.S l := by
      unfold strOfNums Ty.S
      congr 1
      rw [List.map_map]
      congr 1
      conv => rhs; rw [← List.map_id l]
      apply List.map_congr_left
      intro u _
      simp
    rw [e]
/-- 'b[:n:n]'. -/
theorem Dk.PB.cut {m : Bool} {w : World} {a : Option Addr} {k c : Nat} {l : Dk.Str} (h : Dk.PB m w (.slice a k c) l) (n : Nat) (hn : n ≤ l.length) : Dk.PB m w (.slice a n n) (l.take n) := by
  have hlen : (l.take n).length = n := by rw [List.length_take]; omega
  rcases h with ⟨e, rfl⟩ | ⟨g, c', cur, fr, e, hg, hnc, hcm, hcs, htk, hfr⟩
  · simp only [Value.slice.injEq] at e
    obtain ⟨rfl, _, _⟩ := e
    have : n = 0 := by simpa using hn
    subst this
    exact .inl ⟨rfl, rfl⟩
  · simp only [Value.slice.injEq] at e
    obtain ⟨rfl, _, _⟩ := e
    refine .inr ⟨g, n, cur, fr, by rw [hlen], hg, by omega, by omega, by omega, ?_, .inr (.inl hlen.symm)⟩
    rw [hlen, List.map_take, ← htk, List.take_take, Nat.min_eq_left hn]
/-- All files: the block of each (q), its bytes (vb). -/
structure Dk.PF (m : Bool) (S : Nat → Prop) (w : World) (q : Nat → Nat) (vb : Nat → Value) (fs : List (Dk.Str × Nat)) : Prop where
  cell : ∀ f, f < fs.length → w.heap[q f]? = some (.cells #[vb f, .int .i64 ((Dk.file fs f).2 : Int)] 75 (0, 0))
  mine : ∀ f, f < fs.length → S (q f)
  inj : ∀ f g, f < fs.length → g < fs.length → q f = q g → f = g
  bytes : ∀ f, f < fs.length → Dk.PB m w (vb f) (Dk.file fs f).1
  bmine : ∀ f b, f < fs.length → (vb f).ownBlock = some b → S b
  binj : ∀ f g b, f < fs.length → g < fs.length → (vb f).ownBlock = some b → (vb g).ownBlock = some b → f = g
section
variable {m : Bool} {S S' : Nat → Prop} {w w' : World} {q : Nat → Nat} {vb : Nat → Value} {fs : List (Dk.Str × Nat)}
theorem Dk.PF.nil : Dk.PF m S w q vb [] := ⟨fun f hf => by simp at hf, fun f hf => by simp at hf, fun f _ hf => by simp at hf, fun f hf => by simp at hf, fun f _ hf => by simp at hf, fun f _ _ hf => by simp at hf⟩
theorem Dk.PF.lt (h : Dk.PF m S w q vb fs) {f : Nat} (hf : f < fs.length) : q f < w.heap.size := (Array.getElem?_eq_some_iff.1 (h.cell f hf)).1
theorem Dk.PF.other (h : Dk.PF m S w q vb fs) (g : ∀ b cs T fr, S b → w.heap[b]? = some (.cells cs T fr) → (T = 75 ∨ T = 5) → w'.heap[b]? = w.heap[b]?) : Dk.PF m S w' q vb fs :=
  ⟨fun f hf => (g _ _ _ _ (h.mine f hf) (h.cell f hf) (.inl rfl)).trans (h.cell f hf), h.mine, h.inj, fun f hf => (h.bytes f hf).same fun b hb => by
    obtain ⟨cs, fr, hc⟩ := (h.bytes f hf).typed b hb
    exact g b _ _ _ (h.bmine f b hf hb) hc (.inr rfl), h.bmine, h.binj⟩
theorem Dk.PF.same (h : Dk.PF m S w q vb fs) (g : ∀ b, S b → w'.heap[b]? = w.heap[b]?) : Dk.PF m S w' q vb fs := h.other fun b _ _ _ hb _ _ => g b hb
theorem Dk.PF.mono (h : Dk.PF m S w q vb fs) (g : ∀ b, S b → S' b) : Dk.PF m S' w q vb fs := ⟨h.cell, fun f hf => g _ (h.mine f hf), h.inj, h.bytes, fun f b hf hb => g _ (h.bmine f b hf hb), h.binj⟩
theorem Dk.PF.cells (h : Dk.PF m S w q vb fs) {f : Nat} (hf : f < fs.length) : w.cell? ⟨q f, 0, none⟩ = some (vb f) ∧ w.cell? ⟨q f, 1, none⟩ = some (.int .i64 ((Dk.file fs f).2 : Int)) ∧ w.frozen? ⟨q f, 0, none⟩ = false ∧ w.frozen? ⟨q f, 1, none⟩ = false := by
  have hb := h.cell f hf
  refine ⟨?_, ?_, frozen_of_row w _ _ _ _ hb, frozen_of_row w _ _ _ _ hb⟩ <;> (rw [cell_of_row w _ _ _ _ _ hb]; rfl)
/-- One file turned. -/
theorem Dk.PF.set (h : Dk.PF m S w q vb fs) (hS : ∀ b, S b → S' b) {f : Nat} (hf : f < fs.length) (v' : Value) (x : Dk.Str × Nat)
    (hc : w'.heap[q f]? = some (.cells #[v', .int .i64 (x.2 : Int)] 75 (0, 0))) (hb : Dk.PB m w' v' x.1)
    (hv : v'.ownBlock = none ∨ v'.ownBlock = (vb f).ownBlock ∨ ∃ k, v'.ownBlock = some k ∧ S' k ∧ w.heap.size ≤ k)
    (ho : ∀ k cs T fr, w.heap[k]? = some (.cells cs T fr) → (T = 75 ∨ T = 5) → k ≠ q f → (vb f).ownBlock ≠ some k → w'.heap[k]? = w.heap[k]?) :
    Dk.PF m S' w' q (fun g => if g = f then v' else vb g) (fs.set f x) := by
  have hl : (fs.set f x).length = fs.length := List.length_set
  have hfile : ∀ g, Dk.file (fs.set f x) g = if g = f then x else Dk.file fs g := fun g => by
    rw [Dk.file_set _ _ _ _ hf]
    by_cases e : f = g
    · rw [if_pos e, if_pos e.symm]
    · rw [if_neg e, if_neg fun e' => e e'.symm]
  have hown : ∀ b, v'.ownBlock = some b → (vb f).ownBlock = some b ∨ (S' b ∧ w.heap.size ≤ b) := fun b e => by
    rcases hv with h1 | h1 | ⟨k, h1, h2, h3⟩
    · rw [h1] at e; cases e
    · exact .inl (h1.symm.trans e)
    · rw [h1] at e; cases e; exact .inr ⟨h2, h3⟩
  have hne8 : ∀ g b, g < fs.length → (vb g).ownBlock = some b → b ≠ q f := fun g b hg e e2 => by
    obtain ⟨cs, fr, hcs⟩ := (h.bytes g hg).typed b e
    rw [e2, h.cell f hf] at hcs
    simp only [Option.some.injEq, Obj.cells.injEq] at hcs
    exact absurd hcs.2.1 (by decide)
  refine ⟨fun g hg => ?_, fun g hg => ?_, fun g k hg hk => ?_, fun g hg => ?_, fun g b hg => ?_, fun g k b hg hk => ?_⟩
  · rw [hl] at hg
    rw [hfile g]
    by_cases e : g = f
    · simp only [e, if_true]; exact hc
    · simp only [if_neg e]
      rw [ho (q g) _ _ _ (h.cell g hg) (.inl rfl) (fun e2 => e (h.inj g f hg hf e2)) (fun e2 => by
        obtain ⟨cs, fr, hcs⟩ := (h.bytes f hf).typed _ e2
        rw [h.cell g hg] at hcs
        simp only [Option.some.injEq, Obj.cells.injEq] at hcs
        exact absurd hcs.2.1 (by decide))]
      exact h.cell g hg
  · rw [hl] at hg; exact hS _ (h.mine g hg)
  · rw [hl] at hg hk; exact h.inj g k hg hk
  · rw [hl] at hg
    rw [hfile g]
    by_cases e : g = f
    · simp only [e, if_true]; exact hb
    · simp only [if_neg e]
      refine (h.bytes g hg).same fun b hb2 => ?_
      obtain ⟨cs, fr, hcs⟩ := (h.bytes g hg).typed b hb2
      exact ho b _ _ _ hcs (.inr rfl) (hne8 g b hg hb2) fun e2 => e (h.binj g f b hg hf hb2 e2)
  · rw [hl] at hg
    by_cases e : g = f
    · simp only [e, if_true]
      intro e2
      rcases hown b e2 with h1 | h1
      · exact hS _ (h.bmine f b hf h1)
      · exact h1.1
    · simp only [if_neg e]
      exact fun e2 => hS _ (h.bmine g b hg e2)
  · rw [hl] at hg hk
    by_cases e : g = f <;> by_cases e' : k = f
    · intro _ _; rw [e, e']
    · simp only [e, if_true, if_neg e']
      intro e1 e2
      rcases hown b e1 with h1 | h1
      · exact absurd (h.binj f k b hf hk h1 e2).symm e'
      · have := (h.bytes k hk).lt b e2; omega
    · simp only [e', if_true, if_neg e]
      intro e1 e2
      rcases hown b e2 with h1 | h1
      · exact absurd (h.binj g f b hg hf e1 h1) e
      · have := (h.bytes g hg).lt b e1; omega
    · simp only [if_neg e, if_neg e']
      exact h.binj g k b hg hk
/-- One file more, empty, in a new block. -/
theorem Dk.PF.grow (h : Dk.PF m S w q vb fs) (hS : ∀ b, S b → S' b) (hn : S' w.heap.size) (w' : World) (hw : w' = w.alloc (.cells #[.slice none 0 0, .int .i64 0] 75)) :
    Dk.PF m S' w' (fun f => if f = fs.length then w.heap.size else q f) (fun f => if f = fs.length then .slice none 0 0 else vb f) (fs ++ [([], 0)]) := by
  subst hw
  have hl : (fs ++ [(([] : Dk.Str), 0)]).length = fs.length + 1 := by simp
  have hold : ∀ k, k < w.heap.size → (w.alloc (.cells #[.slice none 0 0, .int .i64 0] 75)).heap[k]? = w.heap[k]? := fun k hk => Below.heap_alloc w _ k hk
  have hfo : ∀ g, g < fs.length → Dk.file (fs ++ [([], 0)]) g = Dk.file fs g := fun g hg => by
    unfold Dk.file
    rw [List.getD, List.getElem?_append_left hg]
    rfl
  have hfn : Dk.file (fs ++ [([], 0)]) fs.length = ([], 0) := by
    unfold Dk.file
    rw [List.getD, List.getElem?_append_right (Nat.le_refl _), Nat.sub_self]
    rfl
  have part : ∀ g, g < (fs ++ [(([] : Dk.Str), 0)]).length → (g = fs.length ∨ (g ≠ fs.length ∧ g < fs.length)) := fun g hg => by rw [hl] at hg; omega
  refine ⟨fun g hg => ?_, fun g hg => ?_, fun g k hg hk => ?_, fun g hg => ?_, fun g b hg => ?_, fun g k b hg hk => ?_⟩
  · rcases part g hg with e | ⟨e, hg⟩
    · simp only [e, if_true]
      rw [hfn]
      exact heap_alloc_new w _
    · simp only [if_neg e]
      rw [hfo g hg, hold _ (h.lt hg)]
      exact h.cell g hg
  · rcases part g hg with e | ⟨e, hg⟩
    · simp only [e, if_true]; exact hn
    · simp only [if_neg e]; exact hS _ (h.mine g hg)
  · rcases part g hg with e | ⟨e, hg⟩ <;> rcases part k hk with e' | ⟨e', hk⟩
    · intro _; rw [e, e']
    · simp only [e, if_true, if_neg e']
      intro e2; have := h.lt hk; omega
    · simp only [e', if_true, if_neg e]
      intro e2; have := h.lt hg; omega
    · simp only [if_neg e, if_neg e']
      exact h.inj g k hg hk
  · rcases part g hg with e | ⟨e, hg⟩
    · simp only [e, if_true]
      rw [hfn]
      exact Dk.PB.nil m _
    · simp only [if_neg e]
      rw [hfo g hg]
      exact (h.bytes g hg).same fun b hb => hold b ((h.bytes g hg).lt b hb)
  · rcases part g hg with e | ⟨e, hg⟩
    · simp only [e, if_true]
      intro e2; cases e2
    · simp only [if_neg e]
      exact fun e2 => hS _ (h.bmine g b hg e2)
  · rcases part g hg with e | ⟨e, hg⟩ <;> rcases part k hk with e' | ⟨e', hk⟩
    · intro _ _; rw [e, e']
    · simp only [e, if_true]
      intro e2; cases e2
    · simp only [e', if_true, if_neg e]
      intro _ e2; cases e2
    · simp only [if_neg e, if_neg e']
      exact h.binj g k b hg hk
end
end Go.Proofs.Ytfkdkdkdpenblaa

namespace Go.Proofs.Ytfkdkdkdpenblaa
open Go.RowKit Go.Maps
def Dk.pcells (vN vD vP : Value) (room held : Int) (ss : Bool) (sa : Int) (rs : Bool) (ra : Int) : Array Value := #[vN, vD, vP, .int .i64 room, .int .i64 held, .bool ss, .int .i64 sa, .bool rs, .int .i64 ra]
/-- The alarm that stops. -/
def Dk.AStop (d : Dk.D) (ss : Bool) (sa : Int) : Prop := -9223372036854775808 ≤ sa ∧ sa ≤ 9223372036854775807 ∧
  ((ss = false ∧ sa ≤ 0 ∧ d.halt < 0) ∨ (ss = true ∧ 1099511627776 < sa + (d.calls : Int) ∧ d.halt < 0) ∨ (ss = true ∧ 0 ≤ d.halt ∧ sa = max (d.halt - (d.calls : Int)) 0))
/-- The alarm that refuses. -/
def Dk.ARef (d : Dk.D) (rs : Bool) (ra : Int) : Prop := -9223372036854775808 ≤ ra ∧ ra ≤ 9223372036854775807 ∧
  ((rs = false ∧ ra ≤ 0 ∧ d.deny < (d.calls : Int)) ∨ (rs = true ∧ 1099511627776 < ra + (d.calls : Int) ∧ d.deny < (d.calls : Int)) ∨ (rs = true ∧ 0 ≤ ra ∧ d.deny = (d.calls : Int) + ra))
/-- A variable that holds a text. -/
def Dk.Box (S : Nat → Prop) (w : World) (b : Nat) (s : Dk.Str) : Prop := S b ∧ w.heap[b]? = some (.cells #[.string (Ty.S s)] 9 (0, 0))
/-- A closure: its function, what it captured. -/
abbrev Dk.Cls := Nat × Array Value
/-- A closure that makes the change c. -/
def Dk.PC (S : Nat → Prop) (w : World) (q : Nat → Nat) (n : Nat) (v : Dk.Cls) (c : Dk.Ch) : Prop :=
  (c.b ≠ [] ∧ ∃ ba bb, v = (61, #[.pointer (some ⟨ba, 0, none⟩), .pointer (some ⟨bb, 0, none⟩)]) ∧ Dk.Box S w ba c.a ∧ Dk.Box S w bb c.b) ∨
  (c.b = [] ∧ c.f < 0 ∧ ∃ ba, v = (62, #[.pointer (some ⟨ba, 0, none⟩)]) ∧ Dk.Box S w ba c.a) ∨
  (c.b = [] ∧ 0 ≤ c.f ∧ c.f.toNat < n ∧ ∃ bf ba, v = (59, #[.pointer (some ⟨bf, 0, none⟩), .pointer (some ⟨ba, 0, none⟩)]) ∧
    (S bf ∧ w.heap[bf]? = some (.cells #[.pointer (some ⟨q c.f.toNat, 0, none⟩)] 72 (0, 0))) ∧ Dk.Box S w ba c.a)
def Dk.PCs (S : Nat → Prop) (w : World) (q : Nat → Nat) (n : Nat) (vs : List Dk.Cls) (cs : List Dk.Ch) : Prop := vs.length = cs.length ∧ ∀ (i : Nat) (v : Dk.Cls) (c : Dk.Ch), vs[i]? = some v → cs[i]? = some c → Dk.PC S w q n v c
/-- Both directories: neither was made yet, or both. -/
def Dk.PDirs (S : Nat → Prop) (w : World) (q : Nat → Nat) (vN vD : Value) (l k : Dk.Dir) : Prop :=
  (vN = .map none ∧ vD = .map none ∧ l = [] ∧ k = []) ∨ ∃ bN bD, vN = .map (some bN) ∧ vD = .map (some bD) ∧ bN ≠ bD ∧ S bN ∧ S bD ∧ Dk.PM w q bN l ∧ Dk.PM w q bD k
def Dk.encV (v : Dk.Cls) : List Value := [.func (.func v.1) #[] v.2]
abbrev Dk.POwn (w : World) (v : Value) (l : List Dk.Cls) : Prop := Dk.Own 95 1 Dk.encV 0 w v l
section
variable {m : Bool} {S S' : Nat → Prop} {w w' : World} {q q' : Nat → Nat} {n n' : Nat}
theorem Dk.Box.other {b : Nat} {s : Dk.Str} (h : Dk.Box S w b s) (g : ∀ b cs T, S b → w.heap[b]? = some (.cells cs T (0, 0)) → (T = 9 ∨ T = 72) → w'.heap[b]? = w.heap[b]?) : Dk.Box S w' b s :=
  ⟨h.1, (g b _ _ h.1 h.2 (.inl rfl)).trans h.2⟩
theorem Dk.Box.c {b : Nat} {s : Dk.Str} (h : Dk.Box S w b s) : w.cell? ⟨b, 0, none⟩ = some (.string (Ty.S s)) := by rw [cell_of_row w b _ _ _ _ h.2]; rfl
theorem Dk.Box.mono {b : Nat} {s : Dk.Str} (h : Dk.Box S w b s) (g : ∀ b, S b → S' b) : Dk.Box S' w b s := ⟨g b h.1, h.2⟩
theorem Dk.PC.other {v : Dk.Cls} {c : Dk.Ch} (h : Dk.PC S w q n v c) (g : ∀ b cs T, S b → w.heap[b]? = some (.cells cs T (0, 0)) → (T = 9 ∨ T = 72) → w'.heap[b]? = w.heap[b]?) : Dk.PC S w' q n v c := by
  rcases h with ⟨hb, ba, bb, e, h1, h2⟩ | ⟨hb, hf, ba, e, h1⟩ | ⟨hb, hf, hn, bf, ba, e, h0, h1⟩
  · exact .inl ⟨hb, ba, bb, e, h1.other g, h2.other g⟩
  · exact .inr (.inl ⟨hb, hf, ba, e, h1.other g⟩)
  · exact .inr (.inr ⟨hb, hf, hn, bf, ba, e, ⟨h0.1, (g bf _ _ h0.1 h0.2 (.inr rfl)).trans h0.2⟩, h1.other g⟩)
theorem Dk.PC.mono {v : Dk.Cls} {c : Dk.Ch} (h : Dk.PC S w q n v c) (g : ∀ b, S b → S' b) : Dk.PC S' w q n v c := by
  rcases h with ⟨hb, ba, bb, e, h1, h2⟩ | ⟨hb, hf, ba, e, h1⟩ | ⟨hb, hf, hn, bf, ba, e, h0, h1⟩
  · exact .inl ⟨hb, ba, bb, e, h1.mono g, h2.mono g⟩
  · exact .inr (.inl ⟨hb, hf, ba, e, h1.mono g⟩)
  · exact .inr (.inr ⟨hb, hf, hn, bf, ba, e, ⟨g bf h0.1, h0.2⟩, h1.mono g⟩)
theorem Dk.PC.turn {v : Dk.Cls} {c : Dk.Ch} (h : Dk.PC S w q n v c) (hn : n ≤ n') (g : ∀ f, f < n → q' f = q f) : Dk.PC S w q' n' v c := by
  rcases h with ⟨hb, ba, bb, e, h1, h2⟩ | ⟨hb, hf, ba, e, h1⟩ | ⟨hb, hf, hfn, bf, ba, e, h0, h1⟩
  · exact .inl ⟨hb, ba, bb, e, h1, h2⟩
  · exact .inr (.inl ⟨hb, hf, ba, e, h1⟩)
  · exact .inr (.inr ⟨hb, hf, by omega, bf, ba, e, by rw [g _ hfn]; exact h0, h1⟩)
theorem Dk.PCs.nil : Dk.PCs S w q n [] [] := ⟨rfl, fun i v c h => by simp at h⟩
theorem Dk.PCs.map {vs : List Dk.Cls} {cs : List Dk.Ch} (h : Dk.PCs S w q n vs cs) (g : ∀ v c, Dk.PC S w q n v c → Dk.PC S' w' q' n' v c) : Dk.PCs S' w' q' n' vs cs :=
  ⟨h.1, fun i v c hv hc => g v c (h.2 i v c hv hc)⟩
theorem Dk.PCs.snoc {vs : List Dk.Cls} {cs : List Dk.Ch} (h : Dk.PCs S w q n vs cs) {v : Dk.Cls} {c : Dk.Ch} (hc : Dk.PC S w q n v c) : Dk.PCs S w q n (vs ++ [v]) (cs ++ [c]) := by
  refine ⟨by simp [h.1], fun i v' c' h1 h2 => ?_⟩
  by_cases hi : i < vs.length
  · rw [List.getElem?_append_left hi] at h1
    rw [List.getElem?_append_left (by rw [← h.1]; exact hi)] at h2
    exact h.2 i v' c' h1 h2
  · have hi2 : i = vs.length := by
      have := (List.getElem?_eq_some_iff.1 h1).1
      rw [List.length_append, List.length_singleton] at this
      omega
    rw [hi2] at h1 h2
    rw [h.1] at h2
    simp at h1 h2
    rw [← h1, ← h2]
    exact hc
theorem Dk.PDirs.other {vN vD : Value} {l k : Dk.Dir} (h : Dk.PDirs S w q vN vD l k) (g : ∀ b es c, S b → w.heap[b]? = some (.map es c) → w'.heap[b]? = w.heap[b]?) : Dk.PDirs S w' q vN vD l k := by
  rcases h with h | ⟨bN, bD, e1, e2, hne, h1, h2, h3, h4⟩
  · exact .inl h
  · obtain ⟨es, c, hb⟩ := h3.isMap
    obtain ⟨es', c', hb'⟩ := h4.isMap
    exact .inr ⟨bN, bD, e1, e2, hne, h1, h2, h3.same (g bN _ _ h1 hb), h4.same (g bD _ _ h2 hb')⟩
theorem Dk.PDirs.mono {vN vD : Value} {l k : Dk.Dir} (h : Dk.PDirs S w q vN vD l k) (g : ∀ b, S b → S' b) : Dk.PDirs S' w q vN vD l k := by
  rcases h with h | ⟨bN, bD, e1, e2, hne, h1, h2, h3, h4⟩
  · exact .inl h
  · exact .inr ⟨bN, bD, e1, e2, hne, g _ h1, g _ h2, h3, h4⟩
theorem Dk.PDirs.turn {vN vD : Value} {l k : Dk.Dir} (h : Dk.PDirs S w q vN vD l k) (hl : Dk.Well n l) (hk : Dk.Well n k) (g : ∀ f, f < n → q' f = q f) : Dk.PDirs S w q' vN vD l k := by
  rcases h with h | ⟨bN, bD, e1, e2, hne, h1, h2, h3, h4⟩
  · exact .inl h
  · exact .inr ⟨bN, bD, e1, e2, hne, h1, h2, h3.turn hl.asc (fun y hy => g _ (hl.lim y hy)), h4.turn hk.asc (fun y hy => g _ (hk.lim y hy))⟩
theorem Dk.encV_len : ∀ x : Dk.Cls, (Dk.encV x).length = 1 := fun _ => rfl
theorem Dk.encV_one : ∀ x : Dk.Cls, ∀ u ∈ Dk.encV x, u.oneCell' = true := fun x u hu => by
  simp only [Dk.encV, List.mem_singleton] at hu
  rw [hu]
  rfl
end
/-- The developers' disk in memory, told whole. -/
structure Dk.PA (m : Bool) (S : Nat → Prop) (w : World) (p : Nat) (d : Dk.D) (q : Nat → Nat) (vb : Nat → Value) (vs : List Dk.Cls) (vN vD vP : Value) (ss : Bool) (sa : Int) (rs : Bool) (ra : Int) : Prop where
  blk : w.heap[p]? = some (.cells (Dk.pcells vN vD vP d.room (Dk.held d : Int) ss sa rs ra) 62 (0, 0))
  files : Dk.PF m S w q vb d.files
  dirs : Dk.PDirs S w q vN vD d.dir d.sure
  own : Dk.POwn w vP vs
  ownS : ∀ b, vP.ownBlock = some b → S b
  chg : Dk.PCs S w q d.files.length vs d.chg
  stop : Dk.AStop d ss sa
  ref : Dk.ARef d rs ra
  mine : S p
  alive : ∀ b, S b → b < w.heap.size
  made : vN = .map none → vs = []
def Dk.PAtM (m : Bool) (S : Nat → Prop) (w : World) (p : Nat) (d : Dk.D) : Prop := ∃ q vb vs vN vD vP ss sa rs ra, Dk.PA m S w p d q vb vs vN vD vP ss sa rs ra
def Dk.PAt (S : Nat → Prop) (w : World) (p : Nat) (d : Dk.D) : Prop := Dk.PAtM false S w p d
section
variable {m : Bool} {S S' : Nat → Prop} {w w' : World} {p : Nat} {d d' : Dk.D} {q : Nat → Nat} {vb : Nat → Value} {vs : List Dk.Cls} {vN vD vP : Value} {ss rs : Bool} {sa ra : Int}
theorem Dk.PA.same (h : Dk.PA m S w p d q vb vs vN vD vP ss sa rs ra) (hs : w.heap.size ≤ w'.heap.size) (g : ∀ b, S b → w'.heap[b]? = w.heap[b]?) : Dk.PA m S w' p d q vb vs vN vD vP ss sa rs ra :=
  ⟨(g p h.mine).trans h.blk, h.files.same g, h.dirs.other fun b _ _ hb _ => g b hb, h.own.same fun b hb => g b (h.ownS b hb), h.ownS, h.chg.map fun _ _ hc => hc.other fun b _ _ hb _ _ => g b hb, h.stop, h.ref, h.mine, fun b hb => Nat.lt_of_lt_of_le (h.alive b hb) hs, h.made⟩
theorem Dk.PA.mono (h : Dk.PA m S w p d q vb vs vN vD vP ss sa rs ra) (g : ∀ b, S b → S' b) (ha : ∀ b, S' b → b < w.heap.size) : Dk.PA m S' w p d q vb vs vN vD vP ss sa rs ra :=
  ⟨h.blk, h.files.mono g, h.dirs.mono g, h.own, fun b hb => g b (h.ownS b hb), h.chg.map fun _ _ hc => hc.mono g, h.stop, h.ref, g p h.mine, ha, h.made⟩
theorem Dk.PA.c (h : Dk.PA m S w p d q vb vs vN vD vP ss sa rs ra) : w.cell? ⟨p, 0, none⟩ = some vN ∧ w.cell? ⟨p, 1, none⟩ = some vD ∧ w.cell? ⟨p, 2, none⟩ = some vP ∧ w.cell? ⟨p, 3, none⟩ = some (.int .i64 d.room) ∧
    w.cell? ⟨p, 4, none⟩ = some (.int .i64 (Dk.held d : Int)) ∧ w.cell? ⟨p, 5, none⟩ = some (.bool ss) ∧ w.cell? ⟨p, 6, none⟩ = some (.int .i64 sa) ∧ w.cell? ⟨p, 7, none⟩ = some (.bool rs) ∧ w.cell? ⟨p, 8, none⟩ = some (.int .i64 ra) := by
  have hb := h.blk
  refine ⟨?_, ?_, ?_, ?_, ?_, ?_, ?_, ?_, ?_⟩ <;> (rw [cell_of_row w p _ _ _ _ hb]; rfl)
theorem Dk.PA.fz (h : Dk.PA m S w p d q vb vs vN vD vP ss sa rs ra) (i : Nat) : w.frozen? ⟨p, i, none⟩ = false := frozen_of_row w p i _ _ h.blk
theorem Dk.PA.lt (h : Dk.PA m S w p d q vb vs vN vD vP ss sa rs ra) : p < w.heap.size := h.alive p h.mine
/-- The disk's own cells turned, and nothing else. -/
theorem Dk.PA.put (h : Dk.PA m S w p d q vb vs vN vD vP ss sa rs ra) {vN' vD' vP' : Value} {vs' : List Dk.Cls} {ss' rs' : Bool} {sa' ra' : Int} (hsz : w'.heap.size = w.heap.size)
    (hc : w'.heap[p]? = some (.cells (Dk.pcells vN' vD' vP' d'.room (Dk.held d' : Int) ss' sa' rs' ra') 62 (0, 0)))
    (ho : ∀ b, b ≠ p → w'.heap[b]? = w.heap[b]?) (ef : d'.files = d.files)
    (hd : Dk.PDirs S w q vN' vD' d'.dir d'.sure) (hown : Dk.POwn w vP' vs') (hownS : ∀ b, vP'.ownBlock = some b → S b) (hchg : Dk.PCs S w q d.files.length vs' d'.chg) (hs : Dk.AStop d' ss' sa') (hr : Dk.ARef d' rs' ra') (hmade : vN' = .map none → vs' = []) :
    Dk.PA m S w' p d' q vb vs' vN' vD' vP' ss' sa' rs' ra' := by
  have hne : ∀ (b : Nat) (cs : Array Value) (fr : Nat × Nat) (T : TypeId), T ≠ 62 → w.heap[b]? = some (.cells cs T fr) → b ≠ p := fun b cs fr T hT hb e => by
    rw [e, h.blk] at hb
    simp only [Option.some.injEq, Obj.cells.injEq] at hb
    exact hT hb.2.1.symm
  have hnm : ∀ (b : Nat) es c, w.heap[b]? = some (.map es c) → b ≠ p := fun b es c hb e => by
    rw [e, h.blk] at hb
    simp at hb
  refine ⟨hc, ?_, hd.other fun b es c _ hb => ho b (hnm b es c hb), hown.other fun b cs _ hb => ho b (hne b cs _ _ (by decide) hb), hownS, ?_, hs, hr, h.mine, fun b hb => by rw [hsz]; exact h.alive b hb, hmade⟩
  · rw [ef]
    refine h.files.other fun b cs T fr _ hb hT => ho b (hne b cs fr T ?_ hb)
    rcases hT with rfl | rfl <;> decide
  · rw [ef]
    refine hchg.map fun _ _ hx => hx.other fun b cs T _ hb hT => ho b (hne b cs (0, 0) T ?_ hb)
    rcases hT with rfl | rfl <;> decide
theorem Dk.PAtM.same (h : Dk.PAtM m S w p d) (hs : w.heap.size ≤ w'.heap.size) (g : ∀ b, S b → w'.heap[b]? = w.heap[b]?) : Dk.PAtM m S w' p d := by
  obtain ⟨a1, a2, a3, a4, a5, a6, a7, a8, a9, a10, h⟩ := h
  exact ⟨a1, a2, a3, a4, a5, a6, a7, a8, a9, a10, h.same hs g⟩
theorem Dk.PAtM.mono (h : Dk.PAtM m S w p d) (g : ∀ b, S b → S' b) (ha : ∀ b, S' b → b < w.heap.size) : Dk.PAtM m S' w p d := by
  obtain ⟨a1, a2, a3, a4, a5, a6, a7, a8, a9, a10, h⟩ := h
  exact ⟨a1, a2, a3, a4, a5, a6, a7, a8, a9, a10, h.mono g ha⟩
theorem Dk.PAtM.alive (h : Dk.PAtM m S w p d) : ∀ b, S b → b < w.heap.size := by
  obtain ⟨a1, a2, a3, a4, a5, a6, a7, a8, a9, a10, h⟩ := h
  exact h.alive
theorem Dk.PAtM.kept (h : Dk.PAtM m S w p d) (g : Below w.heap.size w w') : Dk.PAtM m S w' p d := h.same g.size fun b hb => g.block b (h.alive b hb)
theorem Dk.PAt.same : Dk.PAt S w p d → w.heap.size ≤ w'.heap.size → (∀ b, S b → w'.heap[b]? = w.heap[b]?) → Dk.PAt S w' p d := fun h => Dk.PAtM.same h
theorem Dk.PAt.mono : Dk.PAt S w p d → (∀ b, S b → S' b) → (∀ b, S' b → b < w.heap.size) → Dk.PAt S' w p d := fun h => Dk.PAtM.mono h
theorem Dk.PAt.alive : Dk.PAt S w p d → ∀ b, S b → b < w.heap.size := fun h => Dk.PAtM.alive h
/-- What a call that writes leaves. -/
def Dk.PDidM (m : Bool) (S : Nat → Prop) (w : World) (p : Nat) (d' : Dk.D) (w' : World) : Prop := Dk.PAtM m (Dk.More S w w') w' p d' ∧ Dk.Off S w w'
def Dk.PDid (S : Nat → Prop) (w : World) (p : Nat) (d' : Dk.D) (w' : World) : Prop := Dk.PAt (Dk.More S w w') w' p d' ∧ Dk.Off S w w'
end
end Go.Proofs.Ytfkdkdkdpenblaa
