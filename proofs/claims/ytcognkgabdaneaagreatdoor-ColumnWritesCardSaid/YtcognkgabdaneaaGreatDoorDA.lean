/-
  Package column, the developers' code: what its parts return; rows of values that are made and then filled. No program but the make.
  Contracts of package column: the schema of a column; how many are not null; is one of the booleans true.
  Contracts of package column: do values fit; which are null, and those that are not.
  Contracts of package column: values and nulls laid together; is one of the booleans true.
-/
import Derived.Test.YtcognkgabdaneaaGreatDoorCB
import Derived.Deep.OwnRows
namespace Go.Proofs.YtcognkgabdaneaaGreatDoor
open Go.RowKit
open Ty (num)
open Ig (rest)
theorem Cl.fits_is {c : Kn.C} (h : c.good = true) (v : Kn.V) : Kn.fits c v = Cl.is c v := by
  rw [Kn.isK_fits c v h]
  unfold Cl.is
  cases v.null <;> cases c.null <;> simp
/-- The schema of one more column, ahead of it one of numbers. -/
def Cl.sch (c : Kn.C) : List Kn.C := [⟨1, false⟩, c]
theorem Cl.sch_right (c : Kn.C) : Kn.right (Cl.sch c) = c.good := by
  simp [Cl.sch, Kn.right, Kn.headOk, Kn.C.good]
theorem Cl.fits_zero : Kn.fits ⟨1, false⟩ (Cl.ofN 0) = true := by
  unfold Kn.fits Cl.ofN
  simp
theorem Cl.sch_fits {c : Kn.C} (h : c.good = true) (v : Kn.V) : Kn.fitsE (Cl.sch c) [Cl.ofN 0, v] = if Cl.is c v = true then 0 else 6 := by
  have hf : Kn.fitsAll (Cl.sch c) [Cl.ofN 0, v] = Cl.is c v := by
    show (Kn.fits ⟨1, false⟩ (Cl.ofN 0) && (Kn.fits c v && true)) = _
    rw [Cl.fits_zero, Cl.fits_is h]
    simp
  unfold Kn.fitsE
  rw [Cl.sch_right, if_pos h, if_pos (show [Cl.ofN 0, v].length = (Cl.sch c).length from rfl), hf]
/-- The bytes of values none of which is null. -/
def Cl.pv (k : Int) (M : List Kn.V) : List UInt8 :=
  if k = 1 then Ig.enc (Ig.bk (M.map fun v => v.n) 3) (M.map fun v => v.n) else Tx.enc (Tx.bestK (M.map fun v => v.s.data.toList)) (M.map fun v => v.s.data.toList)
theorem Cl.pv_live (c : Kn.C) (l : List Kn.V) : Cl.pv c.k (Cl.live l) = Cl.vals c l := rfl
/-- How many of the first are not null. -/
def Cl.cnt (F : Nat → Bool) : Nat → Nat
  | 0 => 0
  | k + 1 => Cl.cnt F k + (if F k = true then 0 else 1)
theorem Cl.cnt_null {F : Nat → Bool} {k : Nat} (h : F k = true) : Cl.cnt F (k + 1) = Cl.cnt F k := by simp [Cl.cnt, h]
theorem Cl.cnt_live {F : Nat → Bool} {k : Nat} (h : F k = false) : Cl.cnt F (k + 1) = Cl.cnt F k + 1 := by simp [Cl.cnt, h]
theorem Cl.cnt_le (F : Nat → Bool) : ∀ n, Cl.cnt F n ≤ n
  | 0 => Nat.le_refl _
  | k + 1 => by
    have := Cl.cnt_le F k
    simp only [Cl.cnt]
    split <;> omega
theorem Cl.cnt_mono (F : Nat → Bool) {k : Nat} : ∀ {n : Nat}, k ≤ n → Cl.cnt F k ≤ Cl.cnt F n
  | 0, h => by
    obtain rfl : k = 0 := by omega
    exact Nat.le_refl _
  | n + 1, h => by
    by_cases e : k = n + 1
    · rw [e]; exact Nat.le_refl _
    · have := Cl.cnt_mono F (k := k) (n := n) (by omega)
      simp only [Cl.cnt]
      omega
def Cl.lives (T : List Bool) : Nat := T.countP fun b => !b
theorem Cl.cnt_lives (F : Nat → Bool) : ∀ n, Cl.lives ((List.range n).map F) = Cl.cnt F n
  | 0 => rfl
  | n + 1 => by
    have ih := Cl.cnt_lives F n
    unfold Cl.lives at ih ⊢
    rw [List.range_succ, List.map_append, List.countP_append, ih]
    simp only [Cl.cnt, List.map_cons, List.map_nil]
    cases F n <;> simp
theorem Cl.fill_lives : ∀ (T : List Bool) (M out : List Kn.V), Cl.fill T M = some out → M.length = Cl.lives T
  | [], [], _, _ => rfl
  | [], _ :: _, _, h => by simp [Cl.fill] at h
  | true :: T, M, out, h => by
    simp only [Cl.fill, Option.map_eq_some_iff] at h
    obtain ⟨o, h, _⟩ := h
    rw [Cl.fill_lives T M o h]
    simp [Cl.lives]
  | false :: T, [], out, h => by simp [Cl.fill] at h
  | false :: T, x :: M, out, h => by
    simp only [Cl.fill, Option.map_eq_some_iff] at h
    obtain ⟨o, h, _⟩ := h
    rw [List.length_cons, Cl.fill_lives T M o h]
    simp [Cl.lives]
theorem Cl.lives_fill : ∀ (T : List Bool) (M : List Kn.V), M.length = Cl.lives T → ∃ out, Cl.fill T M = some out
  | [], [], _ => ⟨[], rfl⟩
  | [], _ :: _, h => by simp [Cl.lives] at h
  | true :: T, M, h => by
    obtain ⟨o, ho⟩ := Cl.lives_fill T M (by rw [h]; simp [Cl.lives])
    exact ⟨Cl.nul :: o, by simp [Cl.fill, ho]⟩
  | false :: T, [], h => by simp [Cl.lives] at h
  | false :: T, x :: M, h => by
    obtain ⟨o, ho⟩ := Cl.lives_fill T M (by simp [Cl.lives] at h; unfold Cl.lives; omega)
    exact ⟨x :: o, by simp [Cl.fill, ho]⟩
/-- What Read answers behind the booleans, as the code finds it. -/
theorem Cl.rdV_cnt {c : Kn.C} {T : List Bool} {r : List UInt8} (h : (Cl.back c r).1 = 0) (hn : (Cl.back c r).2.length ≠ Cl.lives T) : Cl.rdV c T r = (4, []) :=
  Cl.rdV_no h (by
    cases hf : Cl.fill T (Cl.back c r).2 with
    | none => rfl
    | some o => exact absurd (Cl.fill_lives _ _ _ hf) hn)
theorem Cl.vals_pv {c : Kn.C} {T : List Bool} {r : List UInt8} {out : List Kn.V} (hg : c.good = true) (h : (Cl.back c r).1 = 0) (hf : Cl.fill T (Cl.back c r).2 = some out) : Cl.vals c out = Cl.pv c.k (Cl.back c r).2 := by
  rw [← Cl.pv_live, (Cl.fill_only _ _ _ (fun v hv => (Cl.back_is hg h v hv).1) hf).2]
theorem Cl.rdV_ne {c : Kn.C} {T : List Bool} {r : List UInt8} (hg : c.good = true) (h : (Cl.back c r).1 = 0) (hn : (Cl.back c r).2.length = Cl.lives T) (hv : Cl.pv c.k (Cl.back c r).2 ≠ r) : Cl.rdV c T r = (4, []) := by
  obtain ⟨out, hf⟩ := Cl.lives_fill T _ hn
  exact Cl.rdV_4 h hf (by rw [Cl.vals_pv hg h hf]; exact hv)
theorem Cl.rdV_eq {c : Kn.C} {T : List Bool} {r : List UInt8} (hg : c.good = true) (h : (Cl.back c r).1 = 0) (hv : Cl.pv c.k (Cl.back c r).2 = r) {out : List Kn.V} (hf : Cl.fill T (Cl.back c r).2 = some out) : Cl.rdV c T r = (0, out) :=
  Cl.rdV_ok h hf (by rw [Cl.vals_pv hg h hf]; exact hv)
/-- The error of the booleans of bytes. -/
def Cl.rnE (l : List UInt8) : Nat :=
  if (num l).2.2 ≠ 0 then (num l).2.2 else if 65536 < (num l).1 then 3 else if (rest l).length < Bt.need (num l).1 then 2 else Bt.chk (Cl.bb l) (num l).1
theorem Cl.rd_rn {c : Kn.C} {l : List UInt8} (hg : c.good = true) (h : Cl.rnE l ≠ 0) : Cl.rd c l = (Cl.rnE l, []) := by
  unfold Cl.rnE at h ⊢
  by_cases h1 : (num l).2.2 ≠ 0
  · rw [if_pos h1]; exact Cl.rd_n hg h1
  · rw [if_neg h1] at h ⊢
    by_cases h2 : 65536 < (num l).1
    · rw [if_pos h2]; exact Cl.rd_3 hg (by simpa using h1) h2
    · rw [if_neg h2] at h ⊢
      by_cases h3 : (rest l).length < Bt.need (num l).1
      · rw [if_pos h3]; exact Cl.rd_2 hg (by simpa using h1) h2 h3
      · rw [if_neg h3] at h ⊢
        exact Cl.rd_c hg (by simpa using h1) h2 h3 h
theorem Cl.rn_0 {l : List UInt8} (h : Cl.rnE l = 0) : (num l).2.2 = 0 ∧ ¬ 65536 < (num l).1 ∧ ¬ (rest l).length < Bt.need (num l).1 ∧ Bt.chk (Cl.bb l) (num l).1 = 0 := by
  unfold Cl.rnE at h
  by_cases h1 : (num l).2.2 ≠ 0
  · rw [if_pos h1] at h; exact absurd h h1
  · rw [if_neg h1] at h
    by_cases h2 : 65536 < (num l).1
    · rw [if_pos h2] at h; cases h
    · rw [if_neg h2] at h
      by_cases h3 : (rest l).length < Bt.need (num l).1
      · rw [if_pos h3] at h; cases h
      · rw [if_neg h3] at h
        exact ⟨by simpa using h1, h2, h3, h⟩
/-- Is one of the first n true? -/
def Cl.has (F : Nat → Bool) (n : Nat) : Bool := ((List.range n).map F).any id
theorem Cl.rd_has {c : Kn.C} {l : List UInt8} (hg : c.good = true) (h : Cl.rnE l = 0) (hb : Cl.has (Bt.bit (Cl.bb l)) (num l).1 = true) (hn : c.null = false) : Cl.rd c l = (6, []) := by
  obtain ⟨h1, h2, h3, h4⟩ := Cl.rn_0 h
  unfold Cl.has at hb
  rw [List.any_eq_true] at hb
  obtain ⟨x, hx, hx2⟩ := hb
  obtain ⟨k, hk, rfl⟩ := List.mem_map.1 hx
  exact Cl.rd_6 hg h1 h2 h3 h4 (List.mem_range.1 hk) hx2 hn
theorem Cl.rd_vals {c : Kn.C} {l : List UInt8} (hg : c.good = true) (h : Cl.rnE l = 0) (hn : c.null = true ∨ Cl.has (Bt.bit (Cl.bb l)) (num l).1 = false) : Cl.rd c l = Cl.rdV c ((List.range (num l).1).map (Bt.bit (Cl.bb l))) (Cl.vb l) := by
  obtain ⟨h1, h2, h3, h4⟩ := Cl.rn_0 h
  refine Cl.rd_v hg h1 h2 h3 h4 fun k hk hb => ?_
  rcases hn with hn | hn
  · exact hn
  · exfalso
    unfold Cl.has at hn
    rw [List.any_eq_false] at hn
    exact hn _ (List.mem_map.2 ⟨k, List.mem_range.2 hk, rfl⟩) hb
theorem Cl.has_step {F : Nat → Bool} {n k : Nat} (hk : k < n) (h : F k = true) : Cl.has F n = true := by
  unfold Cl.has
  rw [List.any_eq_true]
  exact ⟨true, List.mem_map.2 ⟨k, List.mem_range.2 hk, h⟩, rfl⟩
theorem Cl.has_none {F : Nat → Bool} {n : Nat} (h : ∀ k, k < n → F k = false) : Cl.has F n = false := by
  unfold Cl.has
  rw [List.any_eq_false]
  intro x hx
  obtain ⟨k, hk, rfl⟩ := List.mem_map.1 hx
  rw [h k (List.mem_range.1 hk)]
  decide
/-- THE CELLS OF VALUES, value i being F i. -/
def Cl.mf (F : Nat → Kn.V) (i : Nat) : Value := if i % 3 = 0 then .bool (F (i / 3)).null else if i % 3 = 1 then .int .i64 (F (i / 3)).n else .string (F (i / 3)).s
theorem Cl.mf0 (F : Nat → Kn.V) (i : Nat) : Cl.mf F (i * 3) = .bool (F i).null := by
  unfold Cl.mf
  rw [if_pos (by omega), show i * 3 / 3 = i by omega]
theorem Cl.mf1 (F : Nat → Kn.V) (i : Nat) : Cl.mf F (i * 3 + 1) = .int .i64 (F i).n := by
  unfold Cl.mf
  rw [if_neg (by omega), if_pos (by omega), show (i * 3 + 1) / 3 = i by omega]
theorem Cl.mf2 (F : Nat → Kn.V) (i : Nat) : Cl.mf F (i * 3 + 2) = .string (F i).s := by
  unfold Cl.mf
  rw [if_neg (by omega), if_neg (by omega), show (i * 3 + 2) / 3 = i by omega]
/-- A row of values. -/
def Cl.Row (w : World) (g n : Nat) (F : Nat → Kn.V) : Prop := w.rowIs g 36 (n * 3) (Cl.mf F)
theorem Cl.Row.made (w : World) (n : Nat) : Cl.Row (w.alloc (.cells (madeCells #[.bool false, .int .i64 0, .string ⟨#[]⟩] (n * 3)) 36)) w.heap.size n (fun _ => Cl.ofN 0) := by
  refine ⟨_, Go.Deep.blk_alloc_new _ _, size_madeCells _ _, fun i hi => ?_⟩
  unfold madeCells
  rw [Array.getElem?_map, Array.getElem?_range, if_pos hi]
  unfold Cl.mf Cl.ofN
  have h3 : i % 3 = 0 ∨ i % 3 = 1 ∨ i % 3 = 2 := by omega
  rcases h3 with h | h | h <;> simp [h]
theorem Cl.Row.lt {w : World} {g n : Nat} {F : Nat → Kn.V} (h : Cl.Row w g n F) : g < w.heap.size := World.rowIs.lt h
theorem Cl.Row.c0 {w : World} {g n : Nat} {F : Nat → Kn.V} (h : Cl.Row w g n F) {k : Nat} (hk : k < n) : w.cell? ⟨g, k * 3, none⟩ = some (.bool (F k).null) := by rw [World.rowIs.cell h (by omega), Cl.mf0]
theorem Cl.Row.c1 {w : World} {g n : Nat} {F : Nat → Kn.V} (h : Cl.Row w g n F) {k : Nat} (hk : k < n) : w.cell? ⟨g, k * 3 + 1, none⟩ = some (.int .i64 (F k).n) := by rw [World.rowIs.cell h (by omega), Cl.mf1]
theorem Cl.Row.c2 {w : World} {g n : Nat} {F : Nat → Kn.V} (h : Cl.Row w g n F) {k : Nat} (hk : k < n) : w.cell? ⟨g, k * 3 + 2, none⟩ = some (.string (F k).s) := by rw [World.rowIs.cell h (by omega), Cl.mf2]
theorem Cl.Row.congr {w : World} {g n : Nat} {F G : Nat → Kn.V} (h : Cl.Row w g n F) (e : ∀ i, i < n → F i = G i) : Cl.Row w g n G :=
  World.rowIs.congr h fun i hi => by unfold Cl.mf; rw [e (i / 3) (by omega)]
/-- A store into a value's field. -/
theorem Cl.Row.set0 {w : World} {g n : Nat} {F : Nat → Kn.V} (h : Cl.Row w g n F) (k : Nat) (b : Bool) : Cl.Row (w.setCell ⟨g, k * 3, none⟩ (.bool b)) g n (fun i => if i = k then ⟨b, (F k).n, (F k).s⟩ else F i) :=
  World.rowIs.congr (World.rowIs.set h (k * 3) (.bool b)) fun i _ => by
    unfold Cl.mf
    dsimp only
    by_cases e : i = k * 3
    · subst e
      rw [if_pos rfl, if_pos (by omega), if_pos (by omega)]
    · rw [if_neg e]
      by_cases e2 : i / 3 = k
      · rw [if_pos e2, e2, if_neg (show ¬ i % 3 = 0 by omega), if_neg (show ¬ i % 3 = 0 by omega)]
      · rw [if_neg e2]
theorem Cl.Row.set1 {w : World} {g n : Nat} {F : Nat → Kn.V} (h : Cl.Row w g n F) (k : Nat) (x : Int) : Cl.Row (w.setCell ⟨g, k * 3 + 1, none⟩ (.int .i64 x)) g n (fun i => if i = k then ⟨(F k).null, x, (F k).s⟩ else F i) :=
  World.rowIs.congr (World.rowIs.set h (k * 3 + 1) (.int .i64 x)) fun i _ => by
    unfold Cl.mf
    dsimp only
    by_cases e : i = k * 3 + 1
    · subst e
      rw [if_pos rfl, if_neg (by omega), if_pos (by omega), if_pos (by omega)]
    · rw [if_neg e]
      by_cases e2 : i / 3 = k
      · rw [if_pos e2, e2]
        by_cases h0 : i % 3 = 0
        · rw [if_pos h0, if_pos h0]
        · rw [if_neg h0, if_neg h0, if_neg (show ¬ i % 3 = 1 by omega), if_neg (show ¬ i % 3 = 1 by omega)]
      · rw [if_neg e2]
theorem Cl.Row.set2 {w : World} {g n : Nat} {F : Nat → Kn.V} (h : Cl.Row w g n F) (k : Nat) (s : ByteArray) : Cl.Row (w.setCell ⟨g, k * 3 + 2, none⟩ (.string s)) g n (fun i => if i = k then ⟨(F k).null, (F k).n, s⟩ else F i) :=
  World.rowIs.congr (World.rowIs.set h (k * 3 + 2) (.string s)) fun i _ => by
    unfold Cl.mf
    dsimp only
    by_cases e : i = k * 3 + 2
    · subst e
      rw [if_pos rfl, if_neg (by omega), if_neg (by omega), if_pos (by omega)]
    · rw [if_neg e]
      by_cases e2 : i / 3 = k
      · rw [if_pos e2, e2]
        by_cases h0 : i % 3 = 0
        · rw [if_pos h0, if_pos h0]
        · rw [if_neg h0, if_neg h0, if_pos (show i % 3 = 1 by omega), if_pos (show i % 3 = 1 by omega)]
      · rw [if_neg e2]
theorem Cl.Row.vals {w : World} {g n cap : Nat} {F : Nat → Kn.V} {L : List Kn.V} (h : Cl.Row w g n F) (hL : L.length = n) (hF : ∀ i x, L[i]? = some x → F i = x) (hn : n ≤ 9223372036854775807) : Kn.Vals w (.slice (some ⟨g, 0, none⟩) (n : Nat) cap) L := by
  subst hL
  refine ⟨_, cap, rfl, .inr ⟨g, 0, rfl, h.lt, hn, fun i x hx => ?_⟩⟩
  have hi := (List.getElem?_eq_some_iff.1 hx).1
  have e := hF i x hx
  rw [Nat.zero_add, ← e]
  exact ⟨h.c0 hi, h.c1 hi, h.c2 hi⟩
theorem Cl.Row.below {w w' : World} {g n : Nat} {F : Nat → Kn.V} (h : Cl.Row w g n F) (k : Below w.heap.size w w') : Cl.Row w' g n F :=
  World.rowIs.of_block h (k.block g h.lt)
theorem Cl.run_makeV (n : Nat) (hn : n ≤ 8796093022208) (w : World) : (Instr.makeSlice 25 (.int .i64 (n : Int)) (.int .i64 (n : Int))).run Tryz.prog w = .ok (.slice (some ⟨w.heap.size, 0, none⟩) n n) (w.alloc (.cells (madeCells #[.bool false, .int .i64 0, .string ⟨#[]⟩] (n * 3)) 36)) := by
  obtain ⟨i0, hi, hz0, hz1, hz2⟩ := info_parts Cl.infoV
  have := Go.run_make (P := Tryz.prog) w 25 36 i0 _ Tryz.underlying25 hi hz0 .i64 .i64 n n (by omega) (Int.le_refl _) (by rw [hz2]; omega) (by omega)
  rw [hz1, Int.toNat_natCast] at this
  exact this
theorem Cl.below_cell {B : Nat} {w w' : World} (h : Below B w w') {g i : Nat} (hg : B ≤ g) (u : Value) : Below B w (w'.setCell ⟨g, i, none⟩ u) :=
  ⟨h.os, h.tape, h.output, by have := h.size; simpa [World.setCell] using this, fun j hj => (Below.heap_setCell _ _ _ _ (by show j ≠ g; omega)).trans (h.block j hj)⟩
/-- The values O, zero values behind them. -/
def Cl.fo (O : List Kn.V) (i : Nat) : Kn.V := O.getD i (Cl.ofN 0)
theorem Cl.fo_nil (i : Nat) : Cl.fo [] i = Cl.ofN 0 := by unfold Cl.fo; simp
theorem Cl.fo_end {O : List Kn.V} {k : Nat} (h : O.length = k) : Cl.fo O k = Cl.ofN 0 := by
  unfold Cl.fo
  rw [List.getD, List.getElem?_eq_none (by omega)]
  rfl
theorem Cl.fo_snoc (O : List Kn.V) (x : Kn.V) {k : Nat} (h : O.length = k) (i : Nat) : (if i = k then x else Cl.fo O i) = Cl.fo (O ++ [x]) i := by
  subst h
  unfold Cl.fo
  rw [List.getD, List.getD]
  by_cases e : i = O.length
  · subst e
    rw [if_pos rfl, List.getElem?_append_right (Nat.le_refl _), Nat.sub_self]
    rfl
  · rw [if_neg e]
    rcases Nat.lt_or_ge i O.length with h | h
    · rw [List.getElem?_append_left h]
    · rw [List.getElem?_eq_none h, List.getElem?_eq_none (by rw [List.length_append, List.length_singleton]; omega)]
theorem Cl.Row.start {w : World} {n : Nat} : Cl.Row (w.alloc (.cells (madeCells #[.bool false, .int .i64 0, .string ⟨#[]⟩] (n * 3)) 36)) w.heap.size n (Cl.fo []) :=
  (Cl.Row.made w n).congr fun i _ => (Cl.fo_nil i).symm
theorem Cl.Row.snoc_nul {w : World} {g n k : Nat} {O : List Kn.V} (h : Cl.Row w g n (Cl.fo O)) (hk : O.length = k) : Cl.Row (w.setCell ⟨g, k * 3, none⟩ (.bool true)) g n (Cl.fo (O ++ [Cl.nul])) :=
  (h.set0 k true).congr fun i _ => by rw [Cl.fo_end hk]; exact Cl.fo_snoc O Cl.nul hk i
theorem Cl.Row.snoc_n {w : World} {g n k : Nat} {O : List Kn.V} (h : Cl.Row w g n (Cl.fo O)) (hk : O.length = k) (x : Int) : Cl.Row (w.setCell ⟨g, k * 3 + 1, none⟩ (.int .i64 x)) g n (Cl.fo (O ++ [Cl.ofN x])) :=
  (h.set1 k x).congr fun i _ => by rw [Cl.fo_end hk]; exact Cl.fo_snoc O (Cl.ofN x) hk i
theorem Cl.Row.snoc_s {w : World} {g n k : Nat} {O : List Kn.V} (h : Cl.Row w g n (Cl.fo O)) (hk : O.length = k) (t : Tx.Str) : Cl.Row (w.setCell ⟨g, k * 3 + 2, none⟩ (.string (Ty.S t))) g n (Cl.fo (O ++ [Cl.ofS t])) :=
  (h.set2 k (Ty.S t)).congr fun i _ => by rw [Cl.fo_end hk]; exact Cl.fo_snoc O (Cl.ofS t) hk i
/-- A whole value stored, field by field. -/
theorem Cl.Row.setV {w : World} {g n : Nat} {F : Nat → Kn.V} (h : Cl.Row w g n F) (k : Nat) (x : Kn.V) : Cl.Row (((w.setCell ⟨g, k * 3, none⟩ (.bool x.null)).setCell ⟨g, k * 3 + 1, none⟩ (.int .i64 x.n)).setCell ⟨g, k * 3 + 2, none⟩ (.string x.s)) g n (fun i => if i = k then x else F i) :=
  (((h.set0 k x.null).set1 k x.n).set2 k x.s).congr fun i _ => by
    by_cases e : i = k
    · simp [e]
    · simp [e]
theorem Cl.Row.snoc_v {w : World} {g n k : Nat} {O : List Kn.V} (h : Cl.Row w g n (Cl.fo O)) (hk : O.length = k) (x : Kn.V) : Cl.Row (((w.setCell ⟨g, k * 3, none⟩ (.bool x.null)).setCell ⟨g, k * 3 + 1, none⟩ (.int .i64 x.n)).setCell ⟨g, k * 3 + 2, none⟩ (.string x.s)) g n (Cl.fo (O ++ [x])) :=
  (h.setV k x).congr fun i _ => Cl.fo_snoc O x hk i
theorem Cl.Row.done {w : World} {g n cap : Nat} {O : List Kn.V} (h : Cl.Row w g n (Cl.fo O)) (hO : O.length = n) (hn : n ≤ 9223372036854775807) : Kn.Vals w (.slice (some ⟨g, 0, none⟩) (n : Nat) cap) O :=
  h.vals hO (fun i x hx => by unfold Cl.fo; rw [List.getD, hx]; rfl) hn
end Go.Proofs.YtcognkgabdaneaaGreatDoor

namespace Go.Proofs.YtcognkgabdaneaaGreatDoor
open Go.RowKit
set_option maxHeartbeats 1000000 in
set_option maxRecDepth 100000 in
theorem Cl.schemaWith_c (c : Kn.C) (w : World) :
    Calls Tryz.prog 15 #[c.val] w fun e w' => ∃ v, e = .returned v ∧ Kn.Cols w' v (Cl.sch c) ∧ Below w.heap.size w w' := by
  have HC := Lib.hid (fun i v h => Kn.cell_new (w.alloc (.cells #[.int .i64 c.k, .bool c.null] 24)) #[.int .i64 1, .bool false, .int .i64 c.k, .bool c.null] 24 i v h)
  have HG := Lib.hid (((Below.refl _ w).alloc (Nat.le_refl _) (.cells #[.int .i64 c.k, .bool c.null] 24)).alloc (by simp) (.cells #[.int .i64 1, .bool false, .int .i64 c.k, .bool c.null] 24))
  rw [World.size_alloc] at HC
  have HX0 := Kn.cell_new w #[.int .i64 c.k, .bool c.null] 24 0 _ rfl
  have HX1 := Kn.cell_new w #[.int .i64 c.k, .bool c.null] 24 1 _ rfl
  simp only [List.getElem_toArray, List.getElem_cons_zero, List.getElem_cons_succ] at HX0 HX1
  unfold Kn.C.val
  go_enter Tryz.func15, Tryz.ntmps15
  go_wp2
  go_ret
  refine ⟨_, rfl, ⟨_, 2, rfl, .inr ⟨_, 0, rfl, by simp, by simp [Cl.sch], fun i x hx => ?_⟩⟩, HG.out⟩
  have hi2 : i = 0 ∨ i = 1 := by
    have := (List.getElem?_eq_some_iff.1 hx).1
    simp [Cl.sch] at this
    omega
  rcases hi2 with rfl | rfl
  · obtain rfl : (⟨1, false⟩ : Kn.C) = x := by simpa [Cl.sch] using hx
    exact ⟨HC.out _ _ rfl, HC.out _ _ rfl⟩
  · obtain rfl : c = x := by simpa [Cl.sch] using hx
    exact ⟨HC.out _ _ rfl, HC.out _ _ rfl⟩
set_option maxHeartbeats 1000000 in
set_option maxRecDepth 100000 in
theorem Cl.presentCount_c (v : Value) (n : Nat) (F : Nat → Bool) (w : World) (h : Bt.Sl w v n (Bt.bv F)) (hn : n ≤ 65536) :
    Calls Tryz.prog 29 #[v] w fun e w' => e = .returned (.int .i64 (Cl.cnt F n : Nat)) ∧ w' = w := by
  obtain ⟨a, c, rfl, h⟩ := h
  have HN := Lib.hid hn
  clear hn
  go_enter Tryz.func29, Tryz.ntmps29
  go_wp2
  go_loop [3, 8] (fun m i => ∃ k : Nat, k ≤ n ∧ i = .int .i64 k ∧ m = .int .i64 (Cl.cnt F k : Nat)) (fun _ i => n - (intOf i).toNat)
  case atStart => exact ⟨0, by omega, rfl, rfl⟩
  case round =>
    obtain ⟨k, hk, rfl, rfl⟩ := hrel
    have hle := Cl.cnt_le F k
    by_cases hl : k < n
    · rcases h with h | ⟨b, o, rfl, hb, h⟩
      · omega
      · have hc : w.cell? ⟨b, o + k, none⟩ = some (.bool (F k)) := h k hl
        have hkl : (k : Int) < (n : Int) := by omega
        have hk0 : (0 : Int) ≤ (k : Int) := by omega
        have hn6 := HN.out
        cases hT : F k
        · have HC := Lib.hid (Cl.cnt_live hT)
          rw [hT] at hc
          clear h hT
          go_wp2
          go_round
          case rel => exact ⟨k + 1, by omega, by simp, by rw [HC.out]; simp⟩
          case measure => simp [intOf]; omega
        · have HC := Lib.hid (Cl.cnt_null hT)
          rw [hT] at hc
          clear h hT
          go_wp2
          go_round
          case rel => exact ⟨k + 1, by omega, by simp, by rw [HC.out]⟩
          case measure => simp [intOf]; omega
    · obtain rfl : k = n := by omega
      have hkl : ¬ (k : Int) < (k : Int) := by omega
      go_wp2
      go_ret
      exact ⟨rfl, rfl⟩
set_option maxHeartbeats 1000000 in
set_option maxRecDepth 100000 in
theorem Cl.index_c (v : Value) (n : Nat) (F : Nat → Bool) (w : World) (h : Bt.Sl w v n (Bt.bv F)) (hn : n ≤ 65536) :
    Calls Tryz.prog 49 #[v, .bool true] w fun e w' => ∃ z : Int, e = .returned (.int .i64 z) ∧ ((Cl.has F n = true ∧ 0 ≤ z) ∨ (Cl.has F n = false ∧ z = -1)) ∧ w' = w := by
  obtain ⟨a, c, rfl, h⟩ := h
  have HS : Hid (∀ k, k < n → F k = true → Cl.has F n = true) := Lib.hid fun k hk hf => Cl.has_step hk hf
  have HN : Hid ((∀ k, k < n → F k = false) → Cl.has F n = false) := Lib.hid fun h => Cl.has_none h
  generalize Cl.has F n = B at HS HN ⊢
  go_enter Tryz.func49, Tryz.ntmps49
  go_wp2
  go_loop [8] (fun i => ∃ k : Nat, k ≤ n ∧ i = .int .i64 k ∧ ∀ j, j < k → F j = false) (fun i => n - (intOf i).toNat)
  case atStart => exact ⟨0, by omega, rfl, fun j hj => by omega⟩
  case round =>
    obtain ⟨k, hk, rfl, hp⟩ := hrel
    have HP := Lib.hid hp
    clear hp
    by_cases hl : k < n
    · rcases h with h | ⟨b, o, rfl, hb, h⟩
      · omega
      · have hc : w.cell? ⟨b, o + k, none⟩ = some (.bool (F k)) := h k hl
        have hkl : (k : Int) < (n : Int) := by omega
        have hk0 : (0 : Int) ≤ (k : Int) := by omega
        cases hT : F k
        · rw [hT] at hc
          have HT := Lib.hid hT
          clear h hT
          go_wp2
          go_round
          case rel => exact ⟨k + 1, by omega, by simp, fun j hj => by
            by_cases e : j = k
            · rw [e]; exact HT.out
            · exact HP.out j (by omega)⟩
          case measure => simp [intOf]; omega
        · have HB := Lib.hid (HS.out k hl hT)
          rw [hT] at hc
          clear h hT
          go_wp2
          go_ret
          exact ⟨_, rfl, .inl ⟨HB.out, by omega⟩, rfl⟩
    · obtain rfl : k = n := by omega
      have hkl : ¬ (k : Int) < (k : Int) := by omega
      have HB := Lib.hid (HN.out HP.out)
      go_wp2
      go_ret
      exact ⟨_, rfl, .inr ⟨HB.out, rfl⟩, rfl⟩
set_option maxHeartbeats 1000000 in
set_option maxRecDepth 100000 in
theorem Cl.contains_c (v : Value) (n : Nat) (F : Nat → Bool) (w : World) (h : Bt.Sl w v n (Bt.bv F)) (hn : n ≤ 65536) :
    Calls Tryz.prog 27 #[v, .bool true] w fun e w' => e = .returned (.bool (Cl.has F n)) ∧ w' = w := by
  have ci := Cl.index_c v n F w h hn
  generalize Cl.has F n = B at ci ⊢
  clear h hn
  go_enter Tryz.func27, Tryz.ntmps27
  go_wp2_with fail
  refine ci.mono ?_
  rintro e w1 ⟨z, rfl, hz, rfl⟩
  rcases hz with ⟨rfl, hz⟩ | ⟨rfl, rfl⟩
  · go_wp2
    go_ret
    exact ⟨rfl, rfl⟩
  · go_wp2
    go_ret
    exact ⟨rfl, rfl⟩
end Go.Proofs.YtcognkgabdaneaaGreatDoor

namespace Go.Proofs.YtcognkgabdaneaaGreatDoor
open Go.RowKit
theorem Cl.all_no {c : Kn.C} {l : List Kn.V} {k : Nat} {x : Kn.V} (h : l[k]? = some x) (hx : Cl.is c x = false) : l.all (Cl.is c) = false := by
  rw [Bool.eq_false_iff]
  intro ha
  have := List.all_eq_true.1 ha x (List.mem_of_getElem? h)
  rw [hx] at this
  cases this
/-- The row that is tried: a zero number, one more value. -/
def Cl.rowF (X : Kn.V) (i : Nat) : Kn.V := if i = 0 then Cl.ofN 0 else X
theorem Cl.rowF_vals {w : World} {g cap : Nat} {X : Kn.V} (h : Cl.Row w g 2 (Cl.rowF X)) : Kn.Vals w (.slice (some ⟨g, 0, none⟩) 2 cap) [Cl.ofN 0, X] :=
  Cl.Row.vals (n := 2) h rfl (fun i x hx => by
    have hi2 : i = 0 ∨ i = 1 := by
      have := (List.getElem?_eq_some_iff.1 hx).1
      simp at this
      omega
    rcases hi2 with rfl | rfl
    · simpa [Cl.rowF] using hx
    · simpa [Cl.rowF] using hx) (by omega)
set_option maxHeartbeats 2000000 in
set_option maxRecDepth 100000 in
theorem Cl.fit_c (c : Kn.C) (v u : Value) (l : List Kn.V) (w : World) (hg : c.good = true) (hs : Kn.Cols w v (Cl.sch c)) (hu : Kn.Vals w u l) (hl : l.length ≤ 65536) :
    Calls Tryz.prog 17 #[v, u] w fun e w' => e = .returned (.bool (l.all (Cl.is c))) ∧ Below w.heap.size w w' := by
  have CF : Hid (∀ (row : Value) (x : Kn.V) (wz : World), Kn.Cols wz v (Cl.sch c) → Kn.Vals wz row [Cl.ofN 0, x] → Calls Tryz.prog 35 #[v, row] wz fun e w' => e = .returned (.int .i64 (if Cl.is c x = true then 0 else 6)) ∧ Below wz.heap.size wz w') := Lib.hid fun row x wz h1 h2 => by
    have := Kn.fits_c v row (Cl.sch c) [Cl.ofN 0, x] wz h1 h2
    rwa [Cl.sch_fits hg] at this
  have HNO : Hid (∀ (k : Nat) (x : Kn.V), l[k]? = some x → Cl.is c x = false → l.all (Cl.is c) = false) := Lib.hid fun k x h h2 => Cl.all_no h h2
  have HYES : Hid ((∀ (i : Nat) (x : Kn.V), l[i]? = some x → Cl.is c x = true) → l.all (Cl.is c) = true) := Lib.hid fun h => Cl.all_of h
  generalize l.all (Cl.is c) = B at HNO HYES ⊢
  have HS := Lib.hid hs
  obtain ⟨a, cp, rfl, h⟩ := hu
  have HH := Lib.hid h
  have hl6 : (l.length : Int) ≤ 65536 := by omega
  clear hs h hg hl
  go_enter Tryz.func17, Tryz.ntmps17
  go_wp2_with fail
  have hR : Cl.Row (w.alloc (.cells #[.bool false, .int .i64 0, .string ⟨#[]⟩, .bool false, .int .i64 0, .string ⟨#[]⟩] 36)) w.heap.size 2 (Cl.rowF (Cl.ofN 0)) := World.rowIs_alloc w #[.bool false, .int .i64 0, .string ⟨#[]⟩, .bool false, .int .i64 0, .string ⟨#[]⟩] 36 _ (fun i hi => by
    have hi6 : i < 6 := hi
    have e : Cl.rowF (Cl.ofN 0) = fun _ => Cl.ofN 0 := by funext j; unfold Cl.rowF; split <;> rfl
    rw [e]
    rcases (by omega : i = 0 ∨ i = 1 ∨ i = 2 ∨ i = 3 ∨ i = 4 ∨ i = 5) with rfl | rfl | rfl | rfl | rfl | rfl <;> rfl)
  have hB : Below w.heap.size w (w.alloc (.cells #[.bool false, .int .i64 0, .string ⟨#[]⟩, .bool false, .int .i64 0, .string ⟨#[]⟩] 36)) := (Below.refl _ _).alloc (Nat.le_refl _) _
  generalize w.alloc _ = w2 at hR hB ⊢
  obtain ⟨g, hg⟩ : ∃ g, g = w.heap.size := ⟨_, rfl⟩
  rw [← hg] at hR hB ⊢
  have HGE := Lib.hid hg
  clear hg
  go_loopw [13] (fun i wr => ∃ (k : Nat) (X : Kn.V), k ≤ l.length ∧ i = .int .i64 k ∧ Cl.Row wr g 2 (Cl.rowF X) ∧ Below g w wr ∧ ∀ j x, j < k → l[j]? = some x → Cl.is c x = true) (fun i _ => l.length - (intOf i).toNat)
  case atStart => exact ⟨0, _, by omega, rfl, hR, hB, fun j x hj => by omega⟩
  case round =>
    obtain ⟨k, X, hk, rfl, hRk, hBk, hall⟩ := hrel
    have HR := Lib.hid hRk
    have HB := Lib.hid hBk
    have HALL := Lib.hid hall
    have hgl : g < wr.heap.size := hRk.lt
    clear hR hB hRk hBk hall
    by_cases hlk : k < l.length
    · rcases HH.out with h | ⟨b, o, rfl, hbl, hm, h⟩
      · exact absurd hlk (by rw [h]; simp)
      · obtain ⟨x, hx⟩ : ∃ x, l[k]? = some x := ⟨_, List.getElem?_eq_getElem hlk⟩
        have hblg : b < g := by rw [HGE.out]; exact hbl
        have hA := h k x hx
        have a0 := (HB.out.cell (p := ⟨b, o + k * 3, none⟩) hblg).trans hA.c0
        have a1 := (HB.out.cell (p := ⟨b, o + k * 3 + 1, none⟩) hblg).trans hA.c1
        have a2 := (HB.out.cell (p := ⟨b, o + k * 3 + 2, none⟩) hblg).trans hA.c2
        have hkl : (k : Int) < (l.length : Int) := by omega
        have hk0 : (0 : Int) ≤ (k : Int) := by omega
        have r0 := HR.out.c0 (show 1 < 2 by omega)
        have r1 := HR.out.c1 (show 1 < 2 by omega)
        have r2 := HR.out.c2 (show 1 < 2 by omega)
        have f0 := World.rowIs.frozen HR.out 3
        have f1 := World.rowIs.frozen HR.out 4
        have f2 := World.rowIs.frozen HR.out 5
        rw [Nat.one_mul] at r0 r1 r2
        have HX := Lib.hid hx
        clear h hx hA hm
        go_wp2_with fail
        have hR3 : Cl.Row (((wr.setCell ⟨g, 3, none⟩ (.bool x.null)).setCell ⟨g, 4, none⟩ (.int .i64 x.n)).setCell ⟨g, 5, none⟩ (.string x.s)) g 2 (Cl.rowF x) := Cl.Row.congr (HR.out.setV 1 x) fun i hi => by
          unfold Cl.rowF
          by_cases e : i = 1
          · rw [if_pos e, if_neg (by omega)]
          · rw [if_neg e, if_pos (by omega), if_pos (by omega)]
        have hB3 : Below g w (((wr.setCell ⟨g, 3, none⟩ (.bool x.null)).setCell ⟨g, 4, none⟩ (.int .i64 x.n)).setCell ⟨g, 5, none⟩ (.string x.s)) := Cl.below_cell (Cl.below_cell (Cl.below_cell HB.out (Nat.le_refl _) _) (Nat.le_refl _) _) (Nat.le_refl _) _
        have hRn := World.rowIs.alloc hR3 (.cells #[.bool x.null, .int .i64 x.n, .string x.s] 36)
        have hBn := hB3.alloc (Nat.le_of_lt hR3.lt) (.cells #[.bool x.null, .int .i64 x.n, .string x.s] 36)
        generalize World.alloc _ _ = wn at hRn hBn ⊢
        have hbb := hBn
        rw [HGE.out] at hbb
        have cf := CF.out _ x wn (HS.out.later hbb) (Cl.rowF_vals (cap := 2) hRn)
        have HRN := Lib.hid hRn
        have HBN := Lib.hid hBn
        have hgn : g < wn.heap.size := World.rowIs.lt hRn
        clear hR3 hB3 hRn hBn hbb a0 a1 a2 r0 r1 r2 f0 f1 f2
        cases hT : Cl.is c x
        · have HF := Lib.hid (HNO.out k x HX.out hT)
          rw [hT] at cf
          simp only [Bool.false_eq_true, if_false] at cf
          clear hT
          refine cf.mono ?_
          rintro e w3 ⟨rfl, g3⟩
          have HB3 := Lib.hid (HBN.out.trans (g3.mono (Nat.le_of_lt hgn)))
          clear cf g3
          go_wp2
          go_ret
          exact ⟨by rw [HF.out]; rfl, by have := HB3.out; rwa [HGE.out] at this⟩
        · have HT := Lib.hid hT
          rw [hT] at cf
          simp only [if_true] at cf
          clear hT
          refine cf.mono ?_
          rintro e w3 ⟨rfl, g3⟩
          have HB3 := Lib.hid (HBN.out.trans (g3.mono (Nat.le_of_lt hgn)))
          have HR3 := Lib.hid (Cl.Row.below HRN.out g3)
          clear cf g3
          go_wp2
          go_roundw
          case rel => exact ⟨k + 1, x, by omega, by simp, HR3.out, HB3.out, fun j y hj hy => by
            by_cases e : j = k
            · subst e
              rw [HX.out] at hy
              obtain rfl := Option.some.inj hy
              exact HT.out
            · exact HALL.out j y (by omega) hy⟩
          case measure => simp [intOf]; omega
    · obtain rfl : k = l.length := by omega
      have hkl : ¬ (l.length : Int) < (l.length : Int) := by omega
      have HY := Lib.hid (HYES.out fun i x hx => HALL.out i x (by
        rcases Nat.lt_or_ge i l.length with h | h
        · exact h
        · rw [List.getElem?_eq_none h] at hx; cases hx) hx)
      go_wp2
      go_ret
      exact ⟨by rw [HY.out]; rfl, by have := HB.out; rwa [HGE.out] at this⟩
theorem Cl.Own.setOther {base : Nat} {w : World} {v : Value} {L : List Kn.V} (h : Cl.Own base w v L) {g i : Nat} (hg : g < base) (u : Value) : Cl.Own base (w.setCell ⟨g, i, none⟩ u) v L := by
  refine ⟨h.1, ?_⟩
  rcases h.2 with hn | ⟨b, cap, cur, rfl, hbb, hgg, rest⟩
  · exact .inl hn
  · exact .inr ⟨b, cap, cur, rfl, hbb, by rw [Below.heap_setCell _ _ _ _ (by show b ≠ g; omega)]; exact hgg, rest⟩
theorem Cl.own_grown {base : Nat} {w w' : World} {v v' : Value} {L : List Kn.V} (hb : base ≤ w.heap.size) (ho : Cl.Own base w v L) (g : Ty.Grew w w' v v') : Below base w w' :=
  g.below hb ho.base_le
/-- The append's law, the new block's number spelled otherwise. -/
theorem Cl.wpList_append_val_at {base : Nat} {w0 : World} {v : Value} {M : List Kn.V} (x : Kn.V) (hown : Cl.Own base w0 v M) (hb : base ≤ w0.heap.size) (hl : M.length + 1 ≤ 1048576)
    {ops : Array Oper} {rest : List Oper} {o : Oper} {a : Act} {Q : Exit → Act → World → Prop} (s y : Operand) (q : Nat) (hq : q = w0.heap.size) (cs : Array Value) (hcs : cs = #[.bool x.null, .int .i64 x.n, .string x.s]) (hgd : o.guard = none)
    (ho : o.op = .call { callee := .builtin .append, args := #[s, y], argTypes := #[25, 25] })
    (hs : a.eval s = v) (hx : a.eval y = .slice (some ⟨q, 0, none⟩) 1 1)
    (h : ∀ v' w', Cl.Own base w' v' (M ++ [x]) → Ty.Grew w0 w' v v' → wpList Tryz.prog ops Q rest (a.put o.dst v') w') :
    wpList Tryz.prog ops Q (o :: rest) a (w0.alloc (.cells cs 36)) := by
  subst hq
  exact Cl.wpList_append_val x hown hb hl s y cs hcs hgd ho hs hx h
set_option maxHeartbeats 2000000 in
set_option maxRecDepth 100000 in
theorem Cl.split_c (u : Value) (l : List Kn.V) (w : World) (hu : Kn.Vals w u l) (hl : l.length ≤ 65536) :
    Calls Tryz.prog 18 #[u] w fun e w' => ∃ v p, e = .returned (.tuple #[v, p]) ∧ Bt.Sl w' v l.length (Bt.bv (Cl.nulls l)) ∧ Kn.Vals w' p (Cl.live l) ∧ Below w.heap.size w w' := by
  obtain ⟨a, cp, rfl, h⟩ := hu
  have HH := Lib.hid h
  have HL := Lib.hid hl
  have hmk := run_make_row' (P := Tryz.prog) 44 4 (.bool false) 1 Tryz.underlying44 Bt.infoB rfl .i64 .i64 l.length (by omega) (by omega)
  have hsz1 : (w.alloc (.cells (madeCells #[.bool false] l.length) 4)).heap.size = w.heap.size + 1 := World.size_alloc ..
  obtain ⟨i0, hi0, hz0, hz1, hz2⟩ := info_parts Cl.infoV
  obtain ⟨w2, hm2, hO2, hg2⟩ := run_make_own (P := Tryz.prog) (w.alloc (.cells (madeCells #[.bool false] l.length) 4)) (w.heap.size + 1) 25 36 i0 _ 3 Tryz.underlying25 hi0 hz0 hz1 .i64 .i64 l.length (by rw [hz2]; omega) (by unfold maxLen; omega) (by omega)
  have hR := (World.rowIs_made w (.bool false) l.length 4).congr (g := Bt.upTo 0 (Bt.bv (Cl.nulls l)) (.bool false)) fun i _ => by unfold Bt.upTo; rw [if_neg (by omega)]
  have hR2 := hR.of_block (w' := w2) (hg2.block _ (by omega) (by simp))
  have hB2 : Below w.heap.size w w2 := ((Below.refl _ w).alloc (Nat.le_refl _) (.cells (madeCells #[.bool false] l.length) 4)).trans ⟨hg2.os, hg2.tape, hg2.output, hg2.size, fun k hk => hg2.block k (by omega) (by simp)⟩
  have hO3 : Cl.Own (w.heap.size + 1) w2 (.slice (some ⟨w.heap.size + 1, 0, none⟩) 0 l.length) [] := by rw [hsz1] at hO2; exact hO2
  rw [hsz1] at hm2
  have hs2 : w.heap.size + 1 ≤ w2.heap.size := by have := hg2.size; omega
  have HR2 := Lib.hid hR2
  have HB2 := Lib.hid hB2
  have HO3 := Lib.hid hO3
  clear h hl hi0 hz0 hz1 hz2 hR hR2 hB2 hO2 hO3 hg2 hsz1
  go_enter Tryz.func18, Tryz.ntmps18
  go_wp2_with fail
  clear hmk hm2
  obtain ⟨g, hg⟩ : ∃ g, g = w.heap.size := ⟨_, rfl⟩
  rw [← hg] at HR2 HB2 HO3 hs2 ⊢
  have HGE := Lib.hid hg
  clear hg
  go_loopw [5, 16] (fun pv i wr => ∃ k : Nat, k ≤ l.length ∧ i = .int .i64 k ∧ wr.rowIs g 4 l.length (Bt.upTo k (Bt.bv (Cl.nulls l)) (.bool false)) ∧ Cl.Own (g + 1) wr pv (Cl.live (l.take k)) ∧ Below g w wr ∧ g + 1 ≤ wr.heap.size) (fun _ i _ => l.length - (intOf i).toNat)
  case atStart => exact ⟨0, by omega, rfl, HR2.out, HO3.out, HB2.out, hs2⟩
  case round =>
    obtain ⟨k, hk, rfl, hRk, hOk, hBk, hgs⟩ := hrel
    have HR := Lib.hid hRk
    have HO := Lib.hid hOk
    have HB := Lib.hid hBk
    clear hRk hOk hBk HR2 HB2 HO3 hs2
    have hl6 : (l.length : Int) ≤ 65536 := by have := HL.out; omega
    by_cases hlk : k < l.length
    · rcases HH.out with h | ⟨b, o, rfl, hbl, hm, h⟩
      · exact absurd hlk (by rw [h]; simp)
      · obtain ⟨x, hx⟩ : ∃ x, l[k]? = some x := ⟨_, List.getElem?_eq_getElem hlk⟩
        have hblg : b < g := by rw [HGE.out]; exact hbl
        have hA := h k x hx
        have a0 := (HB.out.cell (p := ⟨b, o + k * 3, none⟩) hblg).trans hA.c0
        have a1 := (HB.out.cell (p := ⟨b, o + k * 3 + 1, none⟩) hblg).trans hA.c1
        have a2 := (HB.out.cell (p := ⟨b, o + k * 3 + 2, none⟩) hblg).trans hA.c2
        have hkl : (k : Int) < (l.length : Int) := by omega
        have hk0 : (0 : Int) ≤ (k : Int) := by omega
        have hcl := HR.out.cell hlk
        have hf := HR.out.frozen k
        have hgl : g < wr.heap.size := by omega
        have HU : Hid (Value.bool x.null = Bt.bv (Cl.nulls l) k) := Lib.hid (by unfold Bt.bv; rw [Cl.nulls_at hx])
        have HLS := Lib.hid (Cl.live_step l k x hx)
        have hlen : (Cl.live (l.take k)).length ≤ k := Nat.le_trans (Cl.live_len _) (List.length_take_le _ _)
        have HRN := Lib.hid (World.rowIs.alloc (Bt.upTo_next HR.out HU.out) (.cells #[.bool x.null, .int .i64 x.n, .string x.s] 36))
        have hbn := (HB.out.trans (Bt.below_set (w := wr) (g := g) (i := k) (Nat.le_refl _) (.bool x.null))).alloc (Nat.le_of_lt (World.rowIs.lt (Bt.upTo_next HR.out HU.out))) (.cells #[.bool x.null, .int .i64 x.n, .string x.s] 36)
        have HBN := Lib.hid hbn
        have hOn := (HO.out.setOther (g := g) (i := k) (by omega) (.bool x.null)).kept ((Below.refl _ _).alloc (Nat.le_refl _) (.cells #[.bool x.null, .int .i64 x.n, .string x.s] 36))
        have HON := Lib.hid hOn
        have hbs : g + 1 ≤ ((wr.setCell ⟨g, k, none⟩ (.bool x.null)).alloc (.cells #[.bool x.null, .int .i64 x.n, .string x.s] 36)).heap.size := by simp [World.setCell]; omega
        have HBS := Lib.hid hbs
        clear h hx hA hm hbn hOn hbs
        cases hn : x.null
        · rw [hn] at a0 HLS HRN HBN HON HBS
          have e3 : (if false = true then ([] : List Kn.V) else [x]) = [x] := rfl
          rw [e3] at HLS
          have hO := HON.out
          have HNF := Lib.hid hn
          clear hn e3
          go_wp2_with (at_builtin; refine Cl.wpList_append_val_at x hO HBS.out (by omega) (.tmp 29) (.tmp 31) _ (by simp [World.setCell]) _ (by rw [HNF.out]) rfl rfl rfl rfl ?_; intro v5 w5 h5 g5)
          have H5 := Lib.hid h5
          have hb5 := Cl.own_grown HBS.out hO g5
          have HR5 := Lib.hid (HRN.out.of_block (hb5.block g (by omega)))
          have HB5 := Lib.hid (HBN.out.trans (hb5.mono (by omega)))
          have hs5 : g + 1 ≤ w5.heap.size := Nat.le_trans HBS.out hb5.size
          clear h5 g5 hO hb5
          go_wp2
          go_roundw
          case rel => exact ⟨k + 1, by omega, by simp, HR5.out, by rw [HLS.out]; exact H5.out, HB5.out, hs5⟩
          case measure => simp [intOf]; omega
        · rw [hn] at a0 HLS HRN HBN HON HBS
          have e3 : (if true = true then ([] : List Kn.V) else [x]) = [] := rfl
          rw [e3, List.append_nil] at HLS
          clear hn e3
          go_wp2
          go_roundw
          case rel => exact ⟨k + 1, by omega, by simp, HRN.out, by rw [HLS.out]; exact HON.out, HBN.out, HBS.out⟩
          case measure => simp [intOf]; omega
    · obtain rfl : k = l.length := by omega
      have hkl : ¬ (l.length : Int) < (l.length : Int) := by omega
      have HV := Lib.hid HO.out.vals
      have HSl : Hid (Bt.Sl wr (.slice (some ⟨g, 0, none⟩) l.length l.length) l.length (Bt.bv (Cl.nulls l))) := Lib.hid (Bt.Sl.row (HR.out.congr fun i hi => by unfold Bt.upTo; rw [if_pos hi]))
      go_wp2
      go_ret2
      refine ⟨_, _, rfl, HSl.out, ?_, by have := HB.out; rwa [HGE.out] at this⟩
      have := HV.out
      rwa [List.take_length] at this
end Go.Proofs.YtcognkgabdaneaaGreatDoor

namespace Go.Proofs.YtcognkgabdaneaaGreatDoor
open Go.RowKit
set_option maxHeartbeats 2000000 in
set_option maxRecDepth 100000 in
theorem Cl.join_c (v u : Value) (n : Nat) (F : Nat → Bool) (M : List Kn.V) (w : World) (hv : Bt.Sl w v n (Bt.bv F)) (hu : Kn.Vals w u M) (hn : n ≤ 65536) (hM : M.length = Cl.cnt F n) :
    Calls Tryz.prog 30 #[v, u] w fun e w' => ∃ O p, e = .returned p ∧ Cl.fill ((List.range n).map F) M = some O ∧ Kn.Vals w' p O ∧ Below w.heap.size w w' := by
  obtain ⟨a, cp, rfl, h⟩ := hv
  obtain ⟨a2, cp2, rfl, h2⟩ := hu
  have HH := Lib.hid h
  have HH2 := Lib.hid h2
  have hmk := Cl.run_makeV n (by omega)
  have HM0 := Lib.hid (Cl.MidF.start ((List.range n).map F) M)
  have hTl : ((List.range n).map F).length = n := by simp
  have HTG : Hid (∀ k, k < n → ((List.range n).map F)[k]? = some (F k)) := Lib.hid fun k hk => by rw [List.getElem?_map, List.getElem?_range hk]; rfl
  have HN := Lib.hid hn
  have HML := Lib.hid hM
  have HCM : Hid (∀ k, k < n → F k = false → Cl.cnt F k + 1 ≤ M.length) := Lib.hid fun k hk hf => by
    have := Cl.cnt_mono F (show k + 1 ≤ n by omega)
    rw [Cl.cnt_live hf] at this
    omega
  generalize (List.range n).map F = T at HM0 hTl HTG ⊢
  have HTL := Lib.hid hTl
  clear h h2 hTl hM hn
  go_enter Tryz.func30, Tryz.ntmps30
  go_wp2_with fail
  have hR := Cl.Row.start (w := w) (n := n)
  have hB : Below w.heap.size w (w.alloc (.cells (madeCells #[.bool false, .int .i64 0, .string ⟨#[]⟩] (n * 3)) 36)) := (Below.refl _ _).alloc (Nat.le_refl _) _
  generalize w.alloc _ = w2 at hR hB ⊢
  clear hmk
  obtain ⟨g, hg⟩ : ∃ g, g = w.heap.size := ⟨_, rfl⟩
  rw [← hg] at hR hB ⊢
  have HGE := Lib.hid hg
  clear hg
  go_loopw [6, 14] (fun j i wr => ∃ (k : Nat) (O : List Kn.V), k ≤ n ∧ i = .int .i64 k ∧ j = .int .i64 (Cl.cnt F k : Nat) ∧ Cl.MidF T M k (Cl.cnt F k) O ∧ Cl.Row wr g n (Cl.fo O) ∧ Below g w wr) (fun _ i _ => n - (intOf i).toNat)
  case atStart => exact ⟨0, [], by omega, rfl, rfl, HM0.out, hR, hB⟩
  case round =>
    obtain ⟨k, O, hk, rfl, rfl, hM, hRk, hBk⟩ := hrel
    have HR := Lib.hid hRk
    have HB := Lib.hid hBk
    have HM := Lib.hid hM
    have HOL := Lib.hid hM.1
    have hgl : g < wr.heap.size := hRk.lt
    clear hR hB hRk hBk hM HM0
    have hj0 : (0 : Int) ≤ (Cl.cnt F k : Int) := by omega
    have hk0 : (0 : Int) ≤ (k : Int) := by omega
    by_cases hl : k < n
    · rcases HH.out with h | ⟨b, o, rfl, hb, h⟩
      · omega
      · have hblg : b < g := by rw [HGE.out]; exact hb
        have hc := (HB.out.cell (p := ⟨b, o + k, none⟩) hblg).trans (h k hl)
        unfold Bt.bv at hc
        have hkl : (k : Int) < (n : Int) := by omega
        have hT := HTG.out k hl
        have hj6 := Cl.cnt_le F k
        have hn6 := HN.out
        cases hF : F k
        · have hJ := HCM.out k hl hF
          have HC := Lib.hid (Cl.cnt_live hF)
          rw [hF] at hc hT
          generalize Cl.cnt F k = j at HM hj0 hj6 hJ HC ⊢
          rcases HH2.out with h2 | ⟨b2, o2, rfl, hb2, hm2, h2⟩
          · exact absurd hJ (by rw [h2]; simp)
          · obtain ⟨x, hx⟩ : ∃ x, M[j]? = some x := ⟨_, List.getElem?_eq_getElem (by omega)⟩
            have hblg2 : b2 < g := by rw [HGE.out]; exact hb2
            have hA := h2 j x hx
            have a0 := (HB.out.cell (p := ⟨b2, o2 + j * 3, none⟩) hblg2).trans hA.c0
            have a1 := (HB.out.cell (p := ⟨b2, o2 + j * 3 + 1, none⟩) hblg2).trans hA.c1
            have a2 := (HB.out.cell (p := ⟨b2, o2 + j * 3 + 2, none⟩) hblg2).trans hA.c2
            have hji : (j : Int) < (M.length : Int) := by omega
            have r0 := HR.out.c0 hl
            have r1 := HR.out.c1 hl
            have r2 := HR.out.c2 hl
            have f0 := World.rowIs.frozen HR.out (k * 3)
            have f1 := World.rowIs.frozen HR.out (k * 3 + 1)
            have f2 := World.rowIs.frozen HR.out (k * 3 + 2)
            have HMN := Lib.hid (HM.out.live hT hx)
            clear h h2 hx hA hm2 hT hF
            go_wp2
            go_roundw
            case rel => exact ⟨k + 1, O ++ [x], by omega, by simp, by rw [HC.out]; simp, by rw [HC.out]; exact HMN.out, HR.out.snoc_v HOL.out x, Cl.below_cell (Cl.below_cell (Cl.below_cell HB.out (Nat.le_refl _) _) (Nat.le_refl _) _) (Nat.le_refl _) _⟩
            case measure => simp [intOf]; omega
        · have HC := Lib.hid (Cl.cnt_null hF)
          rw [hF] at hc hT
          generalize Cl.cnt F k = j at HM hj0 hj6 HC ⊢
          have r0 := HR.out.c0 hl
          have f0 := World.rowIs.frozen HR.out (k * 3)
          have HMN := Lib.hid (HM.out.null hT)
          clear h hT hF
          go_wp2
          go_roundw
          case rel => exact ⟨k + 1, O ++ [Cl.nul], by omega, by simp, by rw [HC.out], by rw [HC.out]; exact HMN.out, HR.out.snoc_nul HOL.out, Cl.below_cell HB.out (Nat.le_refl _) _⟩
          case measure => simp [intOf]; omega
    · obtain rfl : k = n := by omega
      have hkl : ¬ (k : Int) < (k : Int) := by omega
      have hn6 := HN.out
      have HF := Lib.hid (HM.out.done HTL.out.symm HML.out.symm)
      go_wp2
      go_ret
      exact ⟨O, _, rfl, HF.out, HR.out.done HOL.out (by omega), by have := HB.out; rwa [HGE.out] at this⟩
end Go.Proofs.YtcognkgabdaneaaGreatDoor
