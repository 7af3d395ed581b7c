/-
  Values that a call owns: a slice that is appended to; rows of values that are made and then filled.
-/
import Derived.Test.YtdjnjhlcdcmeaaaK4
import Derived.Test.YtdjnjhlcdcmeaaaT1
import Derived.Test.YtdjnjhlcdcmeaaaW5
import Derived.Test.YtdjnjhlcdcmeaaaOwn
import Derived.Deep.OwnRows
namespace Go.Proofs.Ytdjnjhlcdcmeaaa
open Go.RowKit
/-- A null; a value that is a number, a string. -/
def Cl.nul : Kn.V := ⟨true, 0, ⟨#[]⟩⟩
def Cl.ofN (x : Int) : Kn.V := ⟨false, x, ⟨#[]⟩⟩
def Cl.ofS (t : List UInt8) : Kn.V := ⟨false, 0, Ty.S t⟩
/-- Values as cells. -/
def Cl.cells (l : List Kn.V) : List Value := l.flatMap fun v => [.bool v.null, .int .i64 v.n, .string v.s]
theorem Cl.cells_len : ∀ l : List Kn.V, (Cl.cells l).length = l.length * 3
  | [] => rfl
  | v :: l => by
    have := Cl.cells_len l
    unfold Cl.cells at this ⊢
    rw [List.flatMap_cons, List.length_append, this]
    simp only [List.length_cons, List.length_nil]
    omega
theorem Cl.cells_get : ∀ (l : List Kn.V) (i : Nat) (x : Kn.V), l[i]? = some x → (Cl.cells l)[i * 3]? = some (.bool x.null) ∧ (Cl.cells l)[i * 3 + 1]? = some (.int .i64 x.n) ∧ (Cl.cells l)[i * 3 + 2]? = some (.string x.s)
  | [], _, _, h => by cases h
  | v :: l, 0, x, h => by
    obtain rfl : v = x := by simpa using h
    exact ⟨rfl, rfl, rfl⟩
  | v :: l, i + 1, x, h => by
    have ih := Cl.cells_get l i x (by simpa using h)
    have e : Cl.cells (v :: l) = [.bool v.null, .int .i64 v.n, .string v.s] ++ Cl.cells l := rfl
    rw [e]
    refine ⟨?_, ?_, ?_⟩
    · rw [List.getElem?_append_right (by simp; omega), show (i + 1) * 3 - [Value.bool v.null, .int .i64 v.n, .string v.s].length = i * 3 by simp; omega]; exact ih.1
    · rw [List.getElem?_append_right (by simp; omega), show (i + 1) * 3 + 1 - [Value.bool v.null, .int .i64 v.n, .string v.s].length = i * 3 + 1 by simp; omega]; exact ih.2.1
    · rw [List.getElem?_append_right (by simp; omega), show (i + 1) * 3 + 2 - [Value.bool v.null, .int .i64 v.n, .string v.s].length = i * 3 + 2 by simp; omega]; exact ih.2.2
theorem Cl.infoV : (Try.prog.info? 23).map (fun i => (i.zero, i.size, i.bytes)) = some (some (.agg #[.bool false, .int .i64 0, .string ⟨#[]⟩]), 3, 32) := by kernel_rfl
/-- A slice of values that a call owns. -/
def Cl.Own (base : Nat) (w : World) (v : Value) (L : List Kn.V) : Prop := w.ownsRow base 23 3 v L.length (Cl.cells L)
theorem Cl.Own.nil (base : Nat) (w : World) : Cl.Own base w (.slice none 0 0) [] := World.ownsRow_nil w base _ 3
theorem Cl.addr_add (b i : Nat) : (⟨b, 0, none⟩ : Addr).add i = ⟨b, i, none⟩ := by unfold Addr.add; split <;> simp_all
theorem Cl.Own.vals {base : Nat} {w : World} {v : Value} {L : List Kn.V} (h : Cl.Own base w v L) : Kn.Vals w v L := by
  rcases h.2 with ⟨rfl, e0⟩ | ⟨g, cap, cur, rfl, hb, hg, hc, hm, _⟩
  · obtain rfl := List.eq_nil_of_length_eq_zero e0
    exact ⟨_, 0, rfl, .inl rfl⟩
  · refine ⟨_, cap, rfl, .inr ⟨g, 0, rfl, (Array.getElem?_eq_some_iff.1 hg).1, by unfold maxLen at hm; omega, fun i x hx => ?_⟩⟩
    have hcl := World.ownsRow.cells h (g := g) rfl
    obtain ⟨h0, h1, h2⟩ := Cl.cells_get L i x hx
    have a0 := hcl _ _ h0
    have a1 := hcl _ _ h1
    have a2 := hcl _ _ h2
    rw [Cl.addr_add] at a0 a1 a2
    rw [Nat.zero_add]
    exact ⟨a0, a1, a2⟩
theorem Cl.Own.base_le {base : Nat} {w : World} {v : Value} {L : List Kn.V} (h : Cl.Own base w v L) : ∀ k, v.ownBlock = some k → base ≤ k := fun k hk => (World.ownsRow.lt h k hk).1
theorem Cl.Own.kept {base : Nat} {w w' : World} {v : Value} {L : List Kn.V} (h : Cl.Own base w v L) (g : Below w.heap.size w w') : Cl.Own base w' v L := by
  refine ⟨h.1, ?_⟩
  rcases h.2 with hn | ⟨b, cap, cur, rfl, hbb, hgg, rest⟩
  · exact .inl hn
  · exact .inr ⟨b, cap, cur, rfl, hbb, by rw [g.block b (Array.getElem?_eq_some_iff.1 hgg).1]; exact hgg, rest⟩
theorem Cl.own_below {wo w w' : World} {v v' : Value} {L : List Kn.V} (hb : Below wo.heap.size wo w) (ho : Cl.Own wo.heap.size w v L) (g : Ty.Grew w w' v v') : Below wo.heap.size wo w' :=
  hb.trans (g.below hb.size ho.base_le)
/-- One more value appended, to a slice of whatever type: the walk's law. -/
theorem Cl.wpList_append_valT {base : Nat} {w0 : World} {v : Value} {M : List Kn.V} (T : TypeId) (hT : Try.prog.underlying T = some (.slice 23)) (x : Kn.V) (hown : Cl.Own base w0 v M) (hb : base ≤ w0.heap.size) (hl : M.length + 1 ≤ 1048576)
    {ops : Array Oper} {rest : List Oper} {o : Oper} {a : Act} {Q : Exit → Act → World → Prop} (s y : Operand) (q : Nat) (hq : q = w0.heap.size) (cs : Array Value) (hcs : cs = #[.bool x.null, .int .i64 x.n, .string x.s]) (hgd : o.guard = none)
    (ho : o.op = .call { callee := .builtin .append, args := #[s, y], argTypes := #[T, T] })
    (hs : a.eval s = v) (hx : a.eval y = .slice (some ⟨q, 0, none⟩) 1 1)
    (h : ∀ v' w', Cl.Own base w' v' (M ++ [x]) → Ty.Grew w0 w' v v' → wpList Try.prog ops Q rest (a.put o.dst v') w') :
    wpList Try.prog ops Q (o :: rest) a (w0.alloc (.cells cs 23)) := by
  subst hcs hq
  obtain ⟨i0, hi, hz0, hz1, hz2⟩ := info_parts Cl.infoV
  refine Ty.wpList_append_tight _ hgd s y T ho base 23 i0 _ 3 32 hT hi hz0 hz1 hz2 rfl (by decide) v M.length (Cl.cells M) hs (World.ownsRow.alloc hown _) ⟨w0.heap.size, 0, none⟩ 1 1 [.bool x.null, .int .i64 x.n, .string x.s] hx rfl (fun j u hj => ?_)
    (fun u hu => ?_) (by unfold maxLen; omega) (by omega) (by simp; omega) fun v' w' h1 h2 => h v' w' ?_ (h2.behind _)
  · rw [Cl.addr_add]
    exact Kn.cell_new w0 _ _ j u (by simpa using hj)
  · simp only [List.mem_cons, List.not_mem_nil, or_false] at hu
    rcases hu with rfl | rfl | rfl <;> rfl
  · unfold Cl.Own
    have e : Cl.cells (M ++ [x]) = Cl.cells M ++ [.bool x.null, .int .i64 x.n, .string x.s] := by unfold Cl.cells; rw [List.flatMap_append]; rfl
    rw [List.length_append, e]
    exact h1
/-- .. to a slice of values. -/
theorem Cl.wpList_append_val {base : Nat} {w0 : World} {v : Value} {M : List Kn.V} (x : Kn.V) (hown : Cl.Own base w0 v M) (hb : base ≤ w0.heap.size) (hl : M.length + 1 ≤ 1048576)
    {ops : Array Oper} {rest : List Oper} {o : Oper} {a : Act} {Q : Exit → Act → World → Prop} (s y : Operand) (cs : Array Value) (hcs : cs = #[.bool x.null, .int .i64 x.n, .string x.s]) (hgd : o.guard = none)
    (ho : o.op = .call { callee := .builtin .append, args := #[s, y], argTypes := #[28, 28] })
    (hs : a.eval s = v) (hx : a.eval y = .slice (some ⟨w0.heap.size, 0, none⟩) 1 1)
    (h : ∀ v' w', Cl.Own base w' v' (M ++ [x]) → Ty.Grew w0 w' v v' → wpList Try.prog ops Q rest (a.put o.dst v') w') :
    wpList Try.prog ops Q (o :: rest) a (w0.alloc (.cells cs 23)) :=
  Cl.wpList_append_valT 28 Try.underlying28 x hown hb hl s y _ rfl cs hcs hgd ho hs hx h
theorem Cl.Own.setOther {base : Nat} {w : World} {v : Value} {L : List Kn.V} (h : Cl.Own base w v L) {g i : Nat} (hg : g < base) (u : Value) : Cl.Own base (w.setCell ⟨g, i, none⟩ u) v L := by
  refine ⟨h.1, ?_⟩
  rcases h.2 with hn | ⟨b, cap, cur, rfl, hbb, hgg, rest⟩
  · exact .inl hn
  · exact .inr ⟨b, cap, cur, rfl, hbb, by rw [Below.heap_setCell _ _ _ _ (by show b ≠ g; omega)]; exact hgg, rest⟩
theorem Cl.own_grown {base : Nat} {w w' : World} {v v' : Value} {L : List Kn.V} (hb : base ≤ w.heap.size) (ho : Cl.Own base w v L) (g : Ty.Grew w w' v v') : Below base w w' :=
  g.below hb ho.base_le
/-- The append's law, the new block's number spelled otherwise. -/
theorem Cl.wpList_append_val_at {base : Nat} {w0 : World} {v : Value} {M : List Kn.V} (x : Kn.V) (hown : Cl.Own base w0 v M) (hb : base ≤ w0.heap.size) (hl : M.length + 1 ≤ 1048576)
    {ops : Array Oper} {rest : List Oper} {o : Oper} {a : Act} {Q : Exit → Act → World → Prop} (s y : Operand) (q : Nat) (hq : q = w0.heap.size) (cs : Array Value) (hcs : cs = #[.bool x.null, .int .i64 x.n, .string x.s]) (hgd : o.guard = none)
    (ho : o.op = .call { callee := .builtin .append, args := #[s, y], argTypes := #[28, 28] })
    (hs : a.eval s = v) (hx : a.eval y = .slice (some ⟨q, 0, none⟩) 1 1)
    (h : ∀ v' w', Cl.Own base w' v' (M ++ [x]) → Ty.Grew w0 w' v v' → wpList Try.prog ops Q rest (a.put o.dst v') w') :
    wpList Try.prog ops Q (o :: rest) a (w0.alloc (.cells cs 23)) := by
  exact Cl.wpList_append_valT 28 Try.underlying28 x hown hb hl s y q hq cs hcs hgd ho hs hx h
theorem Cl.Own.by {base b : Nat} {w w' : World} {v : Value} {L : List Kn.V} (h : Cl.Own base w v L) (hg : w.grownBy w' (some b)) (hb : b < base) : Cl.Own base w' v L :=
  World.ownsRow.kept h hg (.inr fun e => by have := h.base_le b e; omega)
/-- THE CELLS OF VALUES, value i being F i. -/
def Cl.mf (F : Nat → Kn.V) (i : Nat) : Value := if i % 3 = 0 then .bool (F (i / 3)).null else if i % 3 = 1 then .int .i64 (F (i / 3)).n else .string (F (i / 3)).s
theorem Cl.mf0 (F : Nat → Kn.V) (i : Nat) : Cl.mf F (i * 3) = .bool (F i).null := by
  unfold Cl.mf
  rw [if_pos (by omega), show i * 3 / 3 = i by omega]
theorem Cl.mf1 (F : Nat → Kn.V) (i : Nat) : Cl.mf F (i * 3 + 1) = .int .i64 (F i).n := by
  unfold Cl.mf
  rw [if_neg (by omega), if_pos (by omega), show (i * 3 + 1) / 3 = i by omega]
theorem Cl.mf2 (F : Nat → Kn.V) (i : Nat) : Cl.mf F (i * 3 + 2) = .string (F i).s := by
  unfold Cl.mf
  rw [if_neg (by omega), if_neg (by omega), show (i * 3 + 2) / 3 = i by omega]
/-- A row of values. -/
def Cl.Row (w : World) (g n : Nat) (F : Nat → Kn.V) : Prop := w.rowIs g 23 (n * 3) (Cl.mf F)
theorem Cl.Row.made (w : World) (n : Nat) : Cl.Row (w.alloc (.cells (madeCells #[.bool false, .int .i64 0, .string ⟨#[]⟩] (n * 3)) 23)) w.heap.size n (fun _ => Cl.ofN 0) := by
  refine ⟨_, Go.Deep.blk_alloc_new _ _, size_madeCells _ _, fun i hi => ?_⟩
  unfold madeCells
  rw [Array.getElem?_map, Array.getElem?_range, if_pos hi]
  unfold Cl.mf Cl.ofN
  have h3 : i % 3 = 0 ∨ i % 3 = 1 ∨ i % 3 = 2 := by omega
  rcases h3 with h | h | h <;> simp [h]
theorem Cl.Row.lt {w : World} {g n : Nat} {F : Nat → Kn.V} (h : Cl.Row w g n F) : g < w.heap.size := World.rowIs.lt h
theorem Cl.Row.c0 {w : World} {g n : Nat} {F : Nat → Kn.V} (h : Cl.Row w g n F) {k : Nat} (hk : k < n) : w.cell? ⟨g, k * 3, none⟩ = some (.bool (F k).null) := by rw [World.rowIs.cell h (by omega), Cl.mf0]
theorem Cl.Row.c1 {w : World} {g n : Nat} {F : Nat → Kn.V} (h : Cl.Row w g n F) {k : Nat} (hk : k < n) : w.cell? ⟨g, k * 3 + 1, none⟩ = some (.int .i64 (F k).n) := by rw [World.rowIs.cell h (by omega), Cl.mf1]
theorem Cl.Row.c2 {w : World} {g n : Nat} {F : Nat → Kn.V} (h : Cl.Row w g n F) {k : Nat} (hk : k < n) : w.cell? ⟨g, k * 3 + 2, none⟩ = some (.string (F k).s) := by rw [World.rowIs.cell h (by omega), Cl.mf2]
theorem Cl.Row.congr {w : World} {g n : Nat} {F G : Nat → Kn.V} (h : Cl.Row w g n F) (e : ∀ i, i < n → F i = G i) : Cl.Row w g n G :=
  World.rowIs.congr h fun i hi => by unfold Cl.mf; rw [e (i / 3) (by omega)]
/-- A store into a value's field. -/
theorem Cl.Row.set0 {w : World} {g n : Nat} {F : Nat → Kn.V} (h : Cl.Row w g n F) (k : Nat) (b : Bool) : Cl.Row (w.setCell ⟨g, k * 3, none⟩ (.bool b)) g n (fun i => if i = k then ⟨b, (F k).n, (F k).s⟩ else F i) :=
  World.rowIs.congr (World.rowIs.set h (k * 3) (.bool b)) fun i _ => by
    unfold Cl.mf
    dsimp only
    by_cases e : i = k * 3
    · subst e
      rw [if_pos rfl, if_pos (by omega), if_pos (by omega)]
    · rw [if_neg e]
      by_cases e2 : i / 3 = k
      · rw [if_pos e2, e2, if_neg (show ¬ i % 3 = 0 by omega), if_neg (show ¬ i % 3 = 0 by omega)]
      · rw [if_neg e2]
theorem Cl.Row.set1 {w : World} {g n : Nat} {F : Nat → Kn.V} (h : Cl.Row w g n F) (k : Nat) (x : Int) : Cl.Row (w.setCell ⟨g, k * 3 + 1, none⟩ (.int .i64 x)) g n (fun i => if i = k then ⟨(F k).null, x, (F k).s⟩ else F i) :=
  World.rowIs.congr (World.rowIs.set h (k * 3 + 1) (.int .i64 x)) fun i _ => by
    unfold Cl.mf
    dsimp only
    by_cases e : i = k * 3 + 1
    · subst e
      rw [if_pos rfl, if_neg (by omega), if_pos (by omega), if_pos (by omega)]
    · rw [if_neg e]
      by_cases e2 : i / 3 = k
      · rw [if_pos e2, e2]
        by_cases h0 : i % 3 = 0
        · rw [if_pos h0, if_pos h0]
        · rw [if_neg h0, if_neg h0, if_neg (show ¬ i % 3 = 1 by omega), if_neg (show ¬ i % 3 = 1 by omega)]
      · rw [if_neg e2]
theorem Cl.Row.set2 {w : World} {g n : Nat} {F : Nat → Kn.V} (h : Cl.Row w g n F) (k : Nat) (s : ByteArray) : Cl.Row (w.setCell ⟨g, k * 3 + 2, none⟩ (.string s)) g n (fun i => if i = k then ⟨(F k).null, (F k).n, s⟩ else F i) :=
  World.rowIs.congr (World.rowIs.set h (k * 3 + 2) (.string s)) fun i _ => by
    unfold Cl.mf
    dsimp only
    by_cases e : i = k * 3 + 2
    · subst e
      rw [if_pos rfl, if_neg (by omega), if_neg (by omega), if_pos (by omega)]
    · rw [if_neg e]
      by_cases e2 : i / 3 = k
      · rw [if_pos e2, e2]
        by_cases h0 : i % 3 = 0
        · rw [if_pos h0, if_pos h0]
        · rw [if_neg h0, if_neg h0, if_pos (show i % 3 = 1 by omega), if_pos (show i % 3 = 1 by omega)]
      · rw [if_neg e2]
theorem Cl.Row.vals {w : World} {g n cap : Nat} {F : Nat → Kn.V} {L : List Kn.V} (h : Cl.Row w g n F) (hL : L.length = n) (hF : ∀ i x, L[i]? = some x → F i = x) (hn : n ≤ 9223372036854775807) : Kn.Vals w (.slice (some ⟨g, 0, none⟩) (n : Nat) cap) L := by
  subst hL
  refine ⟨_, cap, rfl, .inr ⟨g, 0, rfl, h.lt, hn, fun i x hx => ?_⟩⟩
  have hi := (List.getElem?_eq_some_iff.1 hx).1
  have e := hF i x hx
  rw [Nat.zero_add, ← e]
  exact ⟨h.c0 hi, h.c1 hi, h.c2 hi⟩
theorem Cl.Row.below {w w' : World} {g n : Nat} {F : Nat → Kn.V} (h : Cl.Row w g n F) (k : Below w.heap.size w w') : Cl.Row w' g n F :=
  World.rowIs.of_block h (k.block g h.lt)
theorem Cl.run_makeV (n : Nat) (hn : n ≤ 8796093022208) (w : World) : (Instr.makeSlice 28 (.int .i64 (n : Int)) (.int .i64 (n : Int))).run Try.prog w = .ok (.slice (some ⟨w.heap.size, 0, none⟩) n n) (w.alloc (.cells (madeCells #[.bool false, .int .i64 0, .string ⟨#[]⟩] (n * 3)) 23)) := by
  obtain ⟨i0, hi, hz0, hz1, hz2⟩ := info_parts Cl.infoV
  have := Go.run_make (P := Try.prog) w 28 23 i0 _ Try.underlying28 hi hz0 .i64 .i64 n n (by omega) (Int.le_refl _) (by rw [hz2]; omega) (by omega)
  rw [hz1, Int.toNat_natCast] at this
  exact this
theorem Cl.below_cell {B : Nat} {w w' : World} (h : Below B w w') {g i : Nat} (hg : B ≤ g) (u : Value) : Below B w (w'.setCell ⟨g, i, none⟩ u) :=
  ⟨h.os, h.tape, h.output, by have := h.size; simpa [World.setCell] using this, fun j hj => (Below.heap_setCell _ _ _ _ (by show j ≠ g; omega)).trans (h.block j hj)⟩
/-- The values O, zero values behind them. -/
def Cl.fo (O : List Kn.V) (i : Nat) : Kn.V := O.getD i (Cl.ofN 0)
theorem Cl.fo_nil (i : Nat) : Cl.fo [] i = Cl.ofN 0 := by unfold Cl.fo; simp
theorem Cl.fo_end {O : List Kn.V} {k : Nat} (h : O.length = k) : Cl.fo O k = Cl.ofN 0 := by
  unfold Cl.fo
  rw [List.getD, List.getElem?_eq_none (by omega)]
  rfl
theorem Cl.fo_snoc (O : List Kn.V) (x : Kn.V) {k : Nat} (h : O.length = k) (i : Nat) : (if i = k then x else Cl.fo O i) = Cl.fo (O ++ [x]) i := by
  subst h
  unfold Cl.fo
  rw [List.getD, List.getD]
  by_cases e : i = O.length
  · subst e
    rw [if_pos rfl, List.getElem?_append_right (Nat.le_refl _), Nat.sub_self]
    rfl
  · rw [if_neg e]
    rcases Nat.lt_or_ge i O.length with h | h
    · rw [List.getElem?_append_left h]
    · rw [List.getElem?_eq_none h, List.getElem?_eq_none (by rw [List.length_append, List.length_singleton]; omega)]
theorem Cl.Row.start {w : World} {n : Nat} : Cl.Row (w.alloc (.cells (madeCells #[.bool false, .int .i64 0, .string ⟨#[]⟩] (n * 3)) 23)) w.heap.size n (Cl.fo []) :=
  (Cl.Row.made w n).congr fun i _ => (Cl.fo_nil i).symm
theorem Cl.Row.snoc_nul {w : World} {g n k : Nat} {O : List Kn.V} (h : Cl.Row w g n (Cl.fo O)) (hk : O.length = k) : Cl.Row (w.setCell ⟨g, k * 3, none⟩ (.bool true)) g n (Cl.fo (O ++ [Cl.nul])) :=
  (h.set0 k true).congr fun i _ => by rw [Cl.fo_end hk]; exact Cl.fo_snoc O Cl.nul hk i
theorem Cl.Row.snoc_n {w : World} {g n k : Nat} {O : List Kn.V} (h : Cl.Row w g n (Cl.fo O)) (hk : O.length = k) (x : Int) : Cl.Row (w.setCell ⟨g, k * 3 + 1, none⟩ (.int .i64 x)) g n (Cl.fo (O ++ [Cl.ofN x])) :=
  (h.set1 k x).congr fun i _ => by rw [Cl.fo_end hk]; exact Cl.fo_snoc O (Cl.ofN x) hk i
theorem Cl.Row.snoc_s {w : World} {g n k : Nat} {O : List Kn.V} (h : Cl.Row w g n (Cl.fo O)) (hk : O.length = k) (t : Tx.Str) : Cl.Row (w.setCell ⟨g, k * 3 + 2, none⟩ (.string (Ty.S t))) g n (Cl.fo (O ++ [Cl.ofS t])) :=
  (h.set2 k (Ty.S t)).congr fun i _ => by rw [Cl.fo_end hk]; exact Cl.fo_snoc O (Cl.ofS t) hk i
/-- A whole value stored, field by field. -/
theorem Cl.Row.setV {w : World} {g n : Nat} {F : Nat → Kn.V} (h : Cl.Row w g n F) (k : Nat) (x : Kn.V) : Cl.Row (((w.setCell ⟨g, k * 3, none⟩ (.bool x.null)).setCell ⟨g, k * 3 + 1, none⟩ (.int .i64 x.n)).setCell ⟨g, k * 3 + 2, none⟩ (.string x.s)) g n (fun i => if i = k then x else F i) :=
  (((h.set0 k x.null).set1 k x.n).set2 k x.s).congr fun i _ => by
    by_cases e : i = k
    · simp [e]
    · simp [e]
theorem Cl.Row.snoc_v {w : World} {g n k : Nat} {O : List Kn.V} (h : Cl.Row w g n (Cl.fo O)) (hk : O.length = k) (x : Kn.V) : Cl.Row (((w.setCell ⟨g, k * 3, none⟩ (.bool x.null)).setCell ⟨g, k * 3 + 1, none⟩ (.int .i64 x.n)).setCell ⟨g, k * 3 + 2, none⟩ (.string x.s)) g n (Cl.fo (O ++ [x])) :=
  (h.setV k x).congr fun i _ => Cl.fo_snoc O x hk i
theorem Cl.Row.done {w : World} {g n cap : Nat} {O : List Kn.V} (h : Cl.Row w g n (Cl.fo O)) (hO : O.length = n) (hn : n ≤ 9223372036854775807) : Kn.Vals w (.slice (some ⟨g, 0, none⟩) (n : Nat) cap) O :=
  h.vals hO (fun i x hx => by unfold Cl.fo; rw [List.getD, hx]; rfl) hn
end Go.Proofs.Ytdjnjhlcdcmeaaa
