/-
  The plain mathematics of package disk: the calls, a crash; what they keep. No program.
  Lists of things of k cells each: slices that a call owns, slices that are read; an append of one thing, of many. No program beyond its types' sizes.
  Contracts of the document's answers for kinds: which schemas, rows and keys may be.
  Contracts of the document's answers for kinds: rows and keys.
  Contracts of package kinds: rows that are the same; keys in a range. The document's answers for these.
  The document's list of deeds in memory; where a key stands.
-/
import Derived.Test.YtfjhffldhpcdmaaDoorZAD
import Derived.Test.YtfjhffldhpcdmaaDoorZAC
import Derived.Laws.AppendOwnNone
import Derived.OneCell
import Derived.Laws.OwnMore
import Derived.Deep.Onto
import Derived.Test.YtfjhffldhpcdmaaDoorZAA
import Derived.BigQuiet
namespace Go.Proofs.YtfjhffldhpcdmaaDoor.Dk
open Go
def file (fs : List (Str × Nat)) (f : Nat) : Str × Nat := fs.getD f ([], 0)
def heldL (fs : List (Str × Nat)) (l : Dir) : Nat := (l.map fun y => (file fs y.2).1.length).sum
def held (d : D) : Nat := heldL d.files d.dir
def callE (d : D) : Nat := if 0 ≤ d.halt ∧ d.halt ≤ (d.calls : Int) then 11 else if (d.calls : Int) = d.deny then 9 else 0
def tick (d : D) : D := { d with calls := d.calls + 1 }
def change (d : D) (c : Ch) : D := { d with dir := apply d.dir c, chg := d.chg ++ [c] }
def grow (d : D) : D := { d with files := d.files ++ [([], 0)] }
def put (d : D) (f : Nat) (x : Str × Nat) : D := { d with files := d.files.set f x }
def create (d : D) (n : Str) : D × Nat :=
  if callE d ≠ 0 then (tick d, callE d) else if right n = false ∨ look d.dir n ≠ none then (tick d, 12)
  else (change (grow (tick d)) ⟨n, [], (d.files.length : Int)⟩, 0)
def append (d : D) (n s : Str) : D × Nat :=
  if callE d ≠ 0 then (tick d, callE d) else match look d.dir n with
  | none => (tick d, 12)
  | some f => if d.room - (held d : Int) < (s.length : Int) then (tick d, 10) else (put (tick d) f ((file d.files f).1 ++ s, (file d.files f).2), 0)
def sync (d : D) (n : Str) : D × Nat :=
  if callE d ≠ 0 then (tick d, callE d) else match look d.dir n with
  | none => (tick d, 12)
  | some f => (put (tick d) f ((file d.files f).1, (file d.files f).1.length), 0)
def rename (d : D) (a b : Str) : D × Nat :=
  if callE d ≠ 0 then (tick d, callE d) else if look d.dir a = none ∨ right b = false ∨ a = b then (tick d, 12) else (change (tick d) ⟨a, b, 0⟩, 0)
def remove (d : D) (n : Str) : D × Nat :=
  if callE d ≠ 0 then (tick d, callE d) else if look d.dir n = none then (tick d, 12) else (change (tick d) ⟨n, [], -1⟩, 0)
def syncDir (d : D) : D × Nat :=
  if callE d ≠ 0 then (tick d, callE d) else ({ tick d with sure := d.dir, chg := [] }, 0)
def space (d : D) (n : Int) : D := { d with room := max n 0 }
def later (d : D) (n : Int) : Int := if n < 0 ∨ 1099511627776 < n then -1 else (d.calls : Int) + n
def stop (d : D) (n : Int) : D := { d with halt := later d n }
def refuse (d : D) (n : Int) : D := { d with deny := later d n }
def keepAt (keep : List Int) (i : Nat) : Int := if keep = [] then 0 else max (keep.getD (i % keep.length) 0) 0
def cutN (x : Str × Nat) (k : Int) : Nat := x.2 + min k.toNat (x.1.length - x.2)
def cut (fs : List (Str × Nat)) (f : Nat) (k : Int) : List (Str × Nat) := fs.set f ((file fs f).1.take (cutN (file fs f) k), cutN (file fs f) k)
def cuts (keep : List Int) : Nat → List (Str × Nat) → Dir → List (Str × Nat)
  | _, fs, [] => fs
  | i, fs, y :: l => cuts keep (i + 1) (cut fs y.2 (keepAt keep i)) l
def crashDir (d : D) (n : Int) : Dir := fold d.sure (d.chg.take n.toNat)
def crash (d : D) (n : Int) (keep : List Int) : D :=
  { d with files := cuts keep 0 d.files (crashDir d n), dir := crashDir d n, sure := crashDir d n, chg := [], halt := -1, deny := -1 }
def read (d : D) (n : Str) : Str × Nat := match look d.dir n with | none => ([], 12) | some f => ((file d.files f).1, 0)
def names (d : D) : List Str := d.dir.map (·.1)
structure Op where
  kind : Nat
  a : Str
  b : Str
  n : Int
  keep : List Int
def step (d : D) (o : Op) : D × Nat :=
  if o.kind = 0 then create d o.a else if o.kind = 1 then append d o.a o.b else if o.kind = 2 then sync d o.a else if o.kind = 3 then rename d o.a o.b
  else if o.kind = 4 then remove d o.a else if o.kind = 5 then syncDir d else if o.kind = 6 then (space d o.n, 0) else if o.kind = 7 then (stop d o.n, 0)
  else if o.kind = 8 then (refuse d o.n, 0) else (crash d o.n o.keep, 0)
theorem callE_cases (d : D) : callE d = 0 ∨ callE d = 11 ∨ callE d = 9 := by
  unfold callE
  split
  · exact .inr (.inl rfl)
  · split
    · exact .inr (.inr rfl)
    · exact .inl rfl
theorem file_set (fs : List (Str × Nat)) (f g : Nat) (x : Str × Nat) (hf : f < fs.length) : file (fs.set f x) g = if f = g then x else file fs g := by
  unfold file
  rw [List.getD, List.getD, List.getElem?_set]
  by_cases h : f = g
  · rw [if_pos h, if_pos h, if_pos hf]; rfl
  · rw [if_neg h, if_neg h]
theorem getD_lt {fs : List (Str × Nat)} {f : Nat} (h : f < fs.length) : fs.getD f ([], 0) = fs[f] := by
  rw [List.getD, List.getElem?_eq_getElem h]
  rfl
theorem file_mem {fs : List (Str × Nat)} {f : Nat} (h : f < fs.length) : file fs f ∈ fs := by
  unfold file
  rw [getD_lt h]
  exact List.getElem_mem h
theorem file_snoc (fs : List (Str × Nat)) (x : Str × Nat) {f : Nat} (h : f < fs.length) : file (fs ++ [x]) f = file fs f := by
  unfold file
  rw [List.getD, List.getD, List.getElem?_append_left h]
theorem mem_set {fs : List (Str × Nat)} {f : Nat} {x y : Str × Nat} (h : y ∈ fs.set f x) : y = x ∨ y ∈ fs := by
  rcases List.mem_or_eq_of_mem_set h with h | h
  · exact .inr h
  · exact .inl h
theorem size_set (fs : List (Str × Nat)) : ∀ (f : Nat) (x : Str × Nat), f < fs.length → size (fs.set f x) + (file fs f).1.length = size fs + x.1.length := by
  induction fs with
  | nil => intro f x h; simp at h
  | cons a fs ih =>
    intro f x h
    cases f with
    | zero =>
      have : file (a :: fs) 0 = a := rfl
      rw [this, List.set_cons_zero]
      simp only [size, List.map_cons, List.sum_cons]
      omega
    | succ f =>
      have e : file (a :: fs) (f + 1) = file fs f := rfl
      have := ih f x (by simpa using h)
      rw [e, List.set_cons_succ]
      simp only [size, List.map_cons, List.sum_cons] at this ⊢
      omega
theorem size_snoc (fs : List (Str × Nat)) (x : Str × Nat) : size (fs ++ [x]) = size fs + x.1.length := by
  simp [size]
/-- What is always so, behind a call that only counts. -/
theorem Inv.tick {d : D} (h : Inv d) : Inv (tick d) := ⟨h.chain, h.well, h.part⟩
theorem Sz.tick {n : Nat} {d : D} (h : Sz n d) : Sz (n + 1) (tick d) :=
  ⟨Nat.le_succ_of_le h.files, Nat.le_succ_of_le h.dirs, Nat.le_trans h.bytes (Nat.mul_le_mul_right _ (Nat.le_succ _)), Nat.succ_le_succ h.calls⟩
theorem Inv.change {d : D} (h : Inv d) {c : Ch} (hc : Ok d.files.length d.dir c) : Inv (change d c) := ⟨h.chain.snoc hc, h.well, h.part⟩
theorem Inv.grow {d : D} (h : Inv d) : Inv (grow d) := by
  have hl : d.files.length ≤ (d.files ++ [(([] : Str), 0)]).length := by simp
  refine ⟨h.chain.mono hl, h.well.mono hl, fun x hx => ?_⟩
  rcases List.mem_append.1 hx with hx | hx
  · exact h.part x hx
  · rw [List.mem_singleton.1 hx]; exact Nat.le_refl _
theorem Inv.put {d : D} (h : Inv d) (f : Nat) {x : Str × Nat} (hx : x.2 ≤ x.1.length) : Inv (put d f x) := by
  have hl : (d.files.set f x).length = d.files.length := List.length_set
  refine ⟨?_, ?_, fun y hy => ?_⟩
  · show Chain (d.files.set f x).length _ _ _
    rw [hl]; exact h.chain
  · show Well (d.files.set f x).length _
    rw [hl]; exact h.well
  · rcases mem_set hy with rfl | hy
    · exact hx
    · exact h.part y hy
theorem Inv.dirlt {d : D} (h : Inv d) {n : Str} {f : Nat} (hf : look d.dir n = some f) : f < d.files.length := h.dir.lim _ ((look_some h.dir.asc).1 hf)
theorem Inv.file {d : D} (h : Inv d) (f : Nat) : (file d.files f).2 ≤ (file d.files f).1.length := by
  by_cases hf : f < d.files.length
  · exact h.part _ (file_mem hf)
  · unfold Dk.file
    rw [List.getD, List.getElem?_eq_none (by omega)]
    exact Nat.le_refl _
theorem right_ne {b : Str} (h : right b ≠ false) : b ≠ [] := fun e => by rw [e] at h; exact h rfl
theorem Inv.create {d : D} (h : Inv d) (n : Str) : Inv (create d n).1 := by
  unfold Dk.create
  split
  · exact h.tick
  · split
    · exact h.tick
    · next hn =>
      refine Inv.change h.tick.grow ?_
      have h2 : look d.dir n = none := by
        cases hl : look d.dir n with
        | none => rfl
        | some f => exact absurd (Or.inr (by rw [hl]; simp)) hn
      unfold Ok
      rw [if_neg (by simp), if_neg (by simp)]
      refine ⟨h2, ?_, fun y hy e => ?_⟩
      · show (Int.toNat (d.files.length : Int)) < (d.files ++ [(([] : Str), 0)]).length
        simp
      · have h3 := h.dir.lim y hy
        simp only [Int.toNat_natCast] at e
        omega
set_option maxRecDepth 100000 in
theorem Sz.create {k : Nat} {d : D} (h : Sz k d) (n : Str) : Sz (k + 1) (create d n).1 := by
  unfold Dk.create
  split
  · exact h.tick
  · split
    · exact h.tick
    · have := h.files
      have := h.dirs
      have := h.bytes
      have := h.calls
      refine ⟨?_, ?_, ?_, ?_⟩
      · show (d.files ++ [(([] : Str), 0)]).length ≤ _
        simp; omega
      · show d.sure.length + (d.chg ++ [_]).length ≤ _
        simp; omega
      · exact Nat.le_trans (Nat.le_of_eq (size_snoc d.files ([], 0))) (Nat.le_trans h.bytes (Nat.mul_le_mul_right _ (Nat.le_succ k)))
      · show d.calls + 1 ≤ _
        omega
theorem Inv.append {d : D} (h : Inv d) (n s : Str) : Inv (append d n s).1 := by
  unfold Dk.append
  split
  · exact h.tick
  · split
    · exact h.tick
    · next f hf =>
      split
      · exact h.tick
      · refine Inv.put h.tick f ?_
        have := h.file f
        rw [List.length_append]
        omega
set_option maxRecDepth 100000 in
theorem Sz.put {k : Nat} {d : D} (h : Sz k d) {f : Nat} {x : Str × Nat} (hf : f < d.files.length) (hx : x.1.length ≤ (file d.files f).1.length + 1048576) : Sz (k + 1) (Dk.put (Dk.tick d) f x) := by
  have := h.files
  have := h.dirs
  have := h.bytes
  have := h.calls
  refine ⟨?_, ?_, ?_, ?_⟩
  · show (d.files.set f x).length ≤ _
    rw [List.length_set]; omega
  · show d.sure.length + d.chg.length ≤ _
    omega
  · show size (d.files.set f x) ≤ _
    have := size_set d.files f x hf
    omega
  · show d.calls + 1 ≤ _
    omega
theorem Sz.append {k : Nat} {d : D} (h : Sz k d) (hi : Inv d) (n s : Str) (hs : s.length ≤ 1048576) : Sz (k + 1) (append d n s).1 := by
  unfold Dk.append
  split
  · exact h.tick
  · split
    · exact h.tick
    · next f hf =>
      split
      · exact h.tick
      · exact h.put (hi.dirlt hf) (by rw [List.length_append]; omega)
theorem Inv.sync {d : D} (h : Inv d) (n : Str) : Inv (sync d n).1 := by
  unfold Dk.sync
  split
  · exact h.tick
  · split
    · exact h.tick
    · next f hf => exact Inv.put h.tick f (Nat.le_refl _)
theorem Sz.sync {k : Nat} {d : D} (h : Sz k d) (hi : Inv d) (n : Str) : Sz (k + 1) (sync d n).1 := by
  unfold Dk.sync
  split
  · exact h.tick
  · split
    · exact h.tick
    · next f hf => exact h.put (hi.dirlt hf) (Nat.le_add_right _ _)
theorem Inv.rename {d : D} (h : Inv d) (a b : Str) : Inv (rename d a b).1 := by
  unfold Dk.rename
  split
  · exact h.tick
  · split
    · exact h.tick
    · next hn =>
      refine Inv.change h.tick ?_
      unfold Ok
      rw [if_pos (right_ne fun e => hn (.inr (.inl e)))]
      cases hl : look d.dir a with
      | none => exact absurd (Or.inl hl) hn
      | some f => exact ⟨f, hl, fun e => hn (.inr (.inr e))⟩
set_option maxRecDepth 100000 in
theorem Sz.change {k : Nat} {d : D} (h : Sz k d) (c : Ch) : Sz (k + 1) (Dk.change (Dk.tick d) c) := by
  have := h.files
  have := h.dirs
  have := h.bytes
  have := h.calls
  refine ⟨?_, ?_, ?_, ?_⟩
  · show d.files.length ≤ _
    omega
  · show d.sure.length + (d.chg ++ [c]).length ≤ _
    simp; omega
  · exact Nat.le_trans h.bytes (Nat.mul_le_mul_right _ (Nat.le_succ k))
  · show d.calls + 1 ≤ _
    omega
theorem Sz.rename {k : Nat} {d : D} (h : Sz k d) (a b : Str) : Sz (k + 1) (rename d a b).1 := by
  unfold Dk.rename
  split
  · exact h.tick
  · split
    · exact h.tick
    · exact h.change _
theorem Inv.remove {d : D} (h : Inv d) (n : Str) : Inv (remove d n).1 := by
  unfold Dk.remove
  split
  · exact h.tick
  · split
    · exact h.tick
    · next hn =>
      refine Inv.change h.tick ?_
      unfold Ok
      rw [if_neg (by simp), if_pos (by simp)]
      cases hl : look d.dir n with
      | none => exact absurd hl hn
      | some f => exact ⟨f, hl⟩
theorem Sz.remove {k : Nat} {d : D} (h : Sz k d) (n : Str) : Sz (k + 1) (remove d n).1 := by
  unfold Dk.remove
  split
  · exact h.tick
  · split
    · exact h.tick
    · exact h.change _
theorem Inv.syncDir {d : D} (h : Inv d) : Inv (syncDir d).1 := by
  unfold Dk.syncDir
  split
  · exact h.tick
  · exact ⟨rfl, h.dir, h.part⟩
theorem Sz.syncDir {k : Nat} {d : D} (h : Sz k d) (hi : Inv d) : Sz (k + 1) (syncDir d).1 := by
  unfold Dk.syncDir
  split
  · exact h.tick
  · have := h.dir hi
    have := h.tick
    exact ⟨this.files, by show d.dir.length + 0 ≤ _; omega, this.bytes, this.calls⟩
theorem length_cuts (keep : List Int) : ∀ (l : Dir) (i : Nat) (fs : List (Str × Nat)), (cuts keep i fs l).length = fs.length
  | [], _, _ => rfl
  | y :: l, i, fs => by
    have := length_cuts keep l (i + 1) (cut fs y.2 (keepAt keep i))
    rw [show cuts keep i fs (y :: l) = cuts keep (i + 1) (cut fs y.2 (keepAt keep i)) l from rfl, this]
    exact List.length_set
theorem cuts_snoc (keep : List Int) (y : Str × Nat) : ∀ (l : Dir) (i : Nat) (fs : List (Str × Nat)), cuts keep i fs (l ++ [y]) = cut (cuts keep i fs l) y.2 (keepAt keep (i + l.length))
  | [], i, fs => rfl
  | z :: l, i, fs => by
    have := cuts_snoc keep y l (i + 1) (cut fs z.2 (keepAt keep i))
    rw [List.cons_append, show cuts keep i fs (z :: (l ++ [y])) = cuts keep (i + 1) (cut fs z.2 (keepAt keep i)) (l ++ [y]) from rfl, this, List.length_cons]
    rw [show i + 1 + l.length = i + (l.length + 1) by omega]
    rfl
/-- What cutting leaves of a file: a beginning that has what was sure. -/
structure Left (x y : Str × Nat) : Prop where
  take : y.1 = x.1.take y.1.length
  le : y.1.length ≤ x.1.length
  least : x.2 ≤ y.1.length
  sure : x.2 ≤ y.2
  part : y.2 ≤ y.1.length
theorem Left.refl {x : Str × Nat} (h : x.2 ≤ x.1.length) : Left x x := ⟨by rw [List.take_length], Nat.le_refl _, h, Nat.le_refl _, h⟩
theorem Left.trans {x y z : Str × Nat} (h : Left x y) (g : Left y z) : Left x z :=
  ⟨by
    have h1 := g.take
    rw [h.take, List.take_take, Nat.min_eq_left g.le] at h1
    exact h1, Nat.le_trans g.le h.le, by have := g.least; have := h.sure; omega, Nat.le_trans h.sure g.sure, g.part⟩
theorem cut_left {x : Str × Nat} (h : x.2 ≤ x.1.length) (k : Int) : Left x (x.1.take (cutN x k), cutN x k) := by
  have hn : cutN x k ≤ x.1.length ∧ x.2 ≤ cutN x k := by unfold cutN; omega
  have hl : (x.1.take (cutN x k)).length = cutN x k := by rw [List.length_take]; omega
  exact ⟨by show _ = _; rw [hl], by show (x.1.take (cutN x k)).length ≤ _; omega, by show _ ≤ (x.1.take (cutN x k)).length; omega, hn.2, by show _ ≤ (x.1.take (cutN x k)).length; omega⟩
theorem cuts_left (keep : List Int) : ∀ (l : Dir) (i : Nat) (fs : List (Str × Nat)), (∀ f, (file fs f).2 ≤ (file fs f).1.length) → (∀ y ∈ l, y.2 < fs.length) →
    (∀ f, Left (file fs f) (file (cuts keep i fs l) f)) ∧ ∀ y ∈ l, (file (cuts keep i fs l) y.2).2 = (file (cuts keep i fs l) y.2).1.length := by
  intro l
  induction l with
  | nil => exact fun i fs h _ => ⟨fun f => Left.refl (h f), by simp⟩
  | cons a l ih =>
    intro i fs h hl
    have hc : ∀ f, Left (file fs f) (file (cut fs a.2 (keepAt keep i)) f) := fun f => by
      unfold cut
      rw [file_set _ _ _ _ (hl a List.mem_cons_self)]
      by_cases e : a.2 = f
      · rw [if_pos e, e]; exact cut_left (h f) _
      · rw [if_neg e]; exact Left.refl (h f)
    obtain ⟨h1, h2⟩ := ih (i + 1) (cut fs a.2 (keepAt keep i)) (fun f => (hc f).part) (fun y hy => by unfold cut; rw [List.length_set]; exact hl y (List.mem_cons_of_mem _ hy))
    refine ⟨fun f => (hc f).trans (h1 f), fun y hy => ?_⟩
    rcases List.mem_cons.1 hy with rfl | hy
    · have h3 := h1 y.2
      have h4 : (file (cut fs y.2 (keepAt keep i)) y.2).2 = (file (cut fs y.2 (keepAt keep i)) y.2).1.length := by
        unfold cut
        rw [file_set _ _ _ _ (hl y List.mem_cons_self), if_pos rfl]
        rw [List.length_take]
        have := h y.2
        unfold cutN
        omega
      have := h3.sure
      have := h3.part
      have := h3.le
      show (file (cuts keep (i + 1) (cut fs y.2 (keepAt keep i)) l) y.2).2 = (file (cuts keep (i + 1) (cut fs y.2 (keepAt keep i)) l) y.2).1.length
      omega
    · exact h2 y hy
theorem ext_file {fs gs : List (Str × Nat)} (hl : fs.length = gs.length) (h : ∀ f, file fs f = file gs f) : fs = gs := by
  refine List.ext_getElem hl fun i h1 h2 => ?_
  have := h i
  unfold file at this
  rwa [getD_lt h1, getD_lt h2] at this
/-- Where all is sure, cutting changes nothing. -/
theorem cuts_full (keep : List Int) : ∀ (l : Dir) (i : Nat) (fs : List (Str × Nat)), (∀ y ∈ l, y.2 < fs.length) → (∀ y ∈ l, (file fs y.2).2 = (file fs y.2).1.length) → cuts keep i fs l = fs
  | [], _, _, _, _ => rfl
  | y :: l, i, fs, hl, h => by
    have e : cut fs y.2 (keepAt keep i) = fs := by
      refine ext_file List.length_set fun f => ?_
      unfold cut
      rw [file_set _ _ _ _ (hl y List.mem_cons_self)]
      by_cases e : y.2 = f
      · rw [if_pos e, ← e]
        have := h y List.mem_cons_self
        have hn : cutN (file fs y.2) (keepAt keep i) = (file fs y.2).1.length := by unfold cutN; omega
        rw [hn, List.take_length]
        exact Prod.ext rfl this.symm
      · rw [if_neg e]
    show cuts keep (i + 1) (cut fs y.2 (keepAt keep i)) l = fs
    rw [e]
    exact cuts_full keep l (i + 1) fs (fun z hz => hl z (List.mem_cons_of_mem _ hz)) fun z hz => h z (List.mem_cons_of_mem _ hz)
theorem size_le {fs gs : List (Str × Nat)} (hl : fs.length = gs.length) (h : ∀ f, (file fs f).1.length ≤ (file gs f).1.length) : size fs ≤ size gs := by
  induction fs generalizing gs with
  | nil => exact Nat.zero_le _
  | cons a fs ih =>
    cases gs with
    | nil => simp at hl
    | cons b gs =>
      have h0 : a.1.length ≤ b.1.length := h 0
      have := ih (gs := gs) (by simpa using hl) fun f => h (f + 1)
      simp only [size, List.map_cons, List.sum_cons] at this ⊢
      omega
theorem Inv.crashDir {d : D} (h : Inv d) (n : Int) : Well d.files.length (Dk.crashDir d n) := (h.chain.take n.toNat).well h.well
theorem Inv.crash {d : D} (h : Inv d) (n : Int) (keep : List Int) : Inv (Dk.crash d n keep) := by
  have hw := h.crashDir n
  obtain ⟨h1, _⟩ := cuts_left keep (Dk.crashDir d n) 0 d.files h.file hw.lim
  have hl := length_cuts keep (Dk.crashDir d n) 0 d.files
  refine ⟨rfl, ?_, fun x hx => ?_⟩
  · show Well (cuts keep 0 d.files (Dk.crashDir d n)).length (Dk.crashDir d n)
    rw [hl]; exact hw
  · obtain ⟨f, hf, e⟩ := List.getElem_of_mem hx
    have := (h1 f).part
    have e2 : Dk.file (cuts keep 0 d.files (Dk.crashDir d n)) f = x := by
      exact (getD_lt (fs := cuts keep 0 d.files (Dk.crashDir d n)) hf).trans e
    rwa [e2] at this
set_option maxRecDepth 100000 in
theorem Sz.crash {k : Nat} {d : D} (h : Sz k d) (hi : Inv d) (n : Int) (keep : List Int) : Sz k (Dk.crash d n keep) := by
  have hl := length_cuts keep (Dk.crashDir d n) 0 d.files
  obtain ⟨h1, _⟩ := cuts_left keep (Dk.crashDir d n) 0 d.files hi.file (hi.crashDir n).lim
  have hlen := len_fold (d.chg.take n.toNat) d.sure
  have := h.dirs
  have := h.bytes
  have hs := size_le hl fun f => (h1 f).le
  refine ⟨?_, ?_, ?_, h.calls⟩
  · show (cuts keep 0 d.files (Dk.crashDir d n)).length ≤ k
    rw [hl]; exact h.files
  · show (Dk.crashDir d n).length + 0 ≤ k
    rw [List.length_take] at hlen
    unfold Dk.crashDir
    omega
  · show size (cuts keep 0 d.files (Dk.crashDir d n)) ≤ _
    omega
theorem Inv.step {d : D} (h : Inv d) (o : Op) : Inv (step d o).1 := by
  unfold Dk.step
  repeat' split
  · exact h.create _
  · exact h.append _ _
  · exact h.sync _
  · exact h.rename _ _
  · exact h.remove _
  · exact h.syncDir
  · exact ⟨h.chain, h.well, h.part⟩
  · exact ⟨h.chain, h.well, h.part⟩
  · exact ⟨h.chain, h.well, h.part⟩
  · exact h.crash _ _
theorem Sz.step {k : Nat} {d : D} (h : Sz k d) (hi : Inv d) (o : Op) (hb : o.b.length ≤ 1048576) : Sz (k + 1) (step d o).1 := by
  have hm := h.mono (Nat.le_succ k)
  unfold Dk.step
  repeat' split
  · exact h.create _
  · exact h.append hi _ _ hb
  · exact h.sync hi _
  · exact h.rename _ _
  · exact h.remove _
  · exact h.syncDir hi
  · exact ⟨hm.files, hm.dirs, hm.bytes, hm.calls⟩
  · exact ⟨hm.files, hm.dirs, hm.bytes, hm.calls⟩
  · exact ⟨hm.files, hm.dirs, hm.bytes, hm.calls⟩
  · exact hm.crash hi _ _
/-- A new disk. -/
def new (n : Int) : D := ⟨[], [], [], [], max n 0, -1, -1, 0⟩
theorem Inv.new (n : Int) : Inv (new n) := ⟨rfl, Well.nil _, by simp [Dk.new]⟩
theorem Sz.new (n : Int) : Sz 0 (new n) := ⟨Nat.le_refl _, Nat.le_refl _, Nat.le_refl _, Nat.le_refl _⟩
end Go.Proofs.YtfjhffldhpcdmaaDoor.Dk

namespace Go.Proofs.YtfjhffldhpcdmaaDoor
open Go.RowKit
section
variable {α : Type}
theorem Dk.flat_len {k : Nat} {enc : α → List Value} (he : ∀ x, (enc x).length = k) : ∀ L : List α, (L.flatMap enc).length = L.length * k
  | [] => by simp
  | x :: L => by
    have := Dk.flat_len he L
    rw [List.flatMap_cons, List.length_append, this, he, List.length_cons, Nat.succ_mul]
    omega
theorem Dk.flat_get {k : Nat} {enc : α → List Value} (he : ∀ x, (enc x).length = k) : ∀ (L : List α) (i j : Nat) (x : α), L[i]? = some x → j < k → (L.flatMap enc)[i * k + j]? = (enc x)[j]?
  | [], _, _, _, h, _ => by cases h
  | y :: L, 0, j, x, h, hj => by
    obtain rfl : y = x := by simpa using h
    rw [List.flatMap_cons, Nat.zero_mul, Nat.zero_add, List.getElem?_append_left (by rw [he]; exact hj)]
  | y :: L, i + 1, j, x, h, hj => by
    have ih := Dk.flat_get he L i j x (by simpa using h) hj
    have e : (i + 1) * k + j = (enc y).length + (i * k + j) := by rw [he, Nat.succ_mul]; omega
    rw [List.flatMap_cons, e, List.getElem?_append_right (Nat.le_add_right _ _), Nat.add_sub_cancel_left]
    exact ih
theorem Dk.flat_set {k : Nat} {enc : α → List Value} (he : ∀ x, (enc x).length = k) (L : List α) (i : Nat) (x y : α) (hi : L[i]? = some x) (j : Nat) (hj : j < k) (u : Value) (hy : enc y = (enc x).set j u) :
    (L.flatMap enc).set (i * k + j) u = (L.set i y).flatMap enc := by
  have hil : i < L.length := by
    rcases Nat.lt_or_ge i L.length with h | h
    · exact h
    · rw [List.getElem?_eq_none h] at hi; cases hi
  have hlen : (L.flatMap enc).length = L.length * k := Dk.flat_len he L
  have hm : i * k + j < L.length * k := by
    have := Nat.mul_le_mul_right k hil
    rw [Nat.succ_mul] at this
    omega
  refine List.ext_getElem? fun q => ?_
  by_cases hq : q < L.length * k
  · have hk : 0 < k := by omega
    obtain ⟨a, b, hb, e⟩ : ∃ a b, b < k ∧ q = a * k + b := ⟨q / k, q % k, Nat.mod_lt _ hk, by rw [Nat.mul_comm]; exact (Nat.div_add_mod q k).symm⟩
    have ha : a < L.length := by
      rcases Nat.lt_or_ge a L.length with h | h
      · exact h
      · have := Nat.mul_le_mul_right k h; omega
    rw [e, Dk.flat_get he (L.set i y) a b (if i = a then y else L[a]) (by
      rw [List.getElem?_set]
      by_cases h : i = a
      · rw [if_pos h, if_pos h, if_pos (by omega)]
      · rw [if_neg h, if_neg h, List.getElem?_eq_getElem ha]) hb, List.getElem?_set]
    have hx : L[a]? = some L[a] := List.getElem?_eq_getElem ha
    by_cases h : i = a
    · subst h
      rw [if_pos rfl, hy, List.getElem?_set]
      rw [hi] at hx
      have hxe := Option.some.inj hx
      by_cases hjb : j = b
      · subst hjb
        rw [if_pos rfl, if_pos rfl, if_pos (by rw [hlen]; exact hm), if_pos (by rw [he]; exact hj)]
      · rw [if_neg (by omega), if_neg hjb]
        exact Dk.flat_get he L i b x hi hb
    · rw [if_neg h, if_neg (fun e2 => by
        have h1 : i * k + j = a * k + b := e2
        rcases Nat.lt_or_gt_of_ne h with h2 | h2
        · have := Nat.mul_le_mul_right k h2; rw [Nat.succ_mul] at this; omega
        · have := Nat.mul_le_mul_right k h2; rw [Nat.succ_mul] at this; omega)]
      exact Dk.flat_get he L a b _ hx hb
  · rw [List.getElem?_eq_none (by rw [List.length_set, hlen]; omega), List.getElem?_eq_none (by rw [Dk.flat_len he, List.length_set]; omega)]
/-- A slice of things that a call owns. -/
def Dk.Own (e : TypeId) (k : Nat) (enc : α → List Value) (base : Nat) (w : World) (v : Value) (L : List α) : Prop := w.ownsRow base e k v L.length (L.flatMap enc)
/-- A slice of things that can be read; where it lies. -/
def Dk.At (P : Nat → Prop) (e : TypeId) (k : Nat) (enc : α → List Value) (w : World) (v : Value) (L : List α) : Prop :=
  ∃ a c, v = .slice a L.length c ∧ L.length ≤ c ∧ ((L = [] ∧ (a = none → c = 0)) ∨ ∃ b o cs fr, a = some ⟨b, o, none⟩ ∧ P b ∧ w.heap[b]? = some (.cells cs e fr) ∧ ∀ i j x, L[i]? = some x → j < k → w.cell? ⟨b, o + i * k + j, none⟩ = (enc x)[j]?)
theorem Dk.addr_add (b o i : Nat) : (⟨b, o, none⟩ : Addr).add i = ⟨b, o + i, none⟩ := by unfold Addr.add; split <;> simp_all
variable {P P' : Nat → Prop} {e : TypeId} {k : Nat} {enc : α → List Value}
theorem Dk.Own.nil (base : Nat) (w : World) : Dk.Own e k enc base w (.slice none 0 0) ([] : List α) := World.ownsRow_nil w base _ k
theorem Dk.Own.base_le {base : Nat} {w : World} {v : Value} {L : List α} (h : Dk.Own e k enc base w v L) : ∀ b, v.ownBlock = some b → base ≤ b := fun b hb => (World.ownsRow.lt h b hb).1
theorem Dk.Own.lt {base : Nat} {w : World} {v : Value} {L : List α} (h : Dk.Own e k enc base w v L) : ∀ b, v.ownBlock = some b → b < w.heap.size := fun b hb => (World.ownsRow.lt h b hb).2
theorem Dk.Own.typed {base : Nat} {w : World} {v : Value} {L : List α} (h : Dk.Own e k enc base w v L) : ∀ b, v.ownBlock = some b → ∃ cs, w.heap[b]? = some (.cells cs e (0, 0)) := by
  intro b hb
  rcases h.2 with ⟨rfl, _⟩ | ⟨g, cap, cur, rfl, _, hg, _⟩
  · cases hb
  · have : g = b := by simpa [Value.ownBlock] using hb
    subst this
    exact ⟨cur, hg⟩
theorem Dk.Own.same {base : Nat} {w w' : World} {v : Value} {L : List α} (h : Dk.Own e k enc base w v L) (g : ∀ b, v.ownBlock = some b → w'.heap[b]? = w.heap[b]?) : Dk.Own e k enc base w' v L := by
  refine ⟨h.1, ?_⟩
  rcases h.2 with hn | ⟨b, cap, cur, rfl, hbb, hgg, rest⟩
  · exact .inl hn
  · exact .inr ⟨b, cap, cur, rfl, hbb, by rw [g b rfl]; exact hgg, rest⟩
theorem Dk.Own.kept {base : Nat} {w w' : World} {v : Value} {L : List α} (h : Dk.Own e k enc base w v L) (g : Below w.heap.size w w') : Dk.Own e k enc base w' v L :=
  h.same fun b hb => g.block b (h.lt b hb)
theorem Dk.own_below {wo w w' : World} {v v' : Value} {L : List α} (hb : Below wo.heap.size wo w) (ho : Dk.Own e k enc wo.heap.size w v L) (g : Ty.Grew w w' v v') : Below wo.heap.size wo w' :=
  hb.trans (g.below hb.size ho.base_le)
theorem Dk.Own.form {base : Nat} {w : World} {v : Value} {L : List α} (h : Dk.Own e k enc base w v L) : (v = .slice none 0 0 ∧ L = []) ∨ ∃ g c, v = .slice (some ⟨g, 0, none⟩) L.length c ∧ L.length ≤ c ∧ c ≤ maxLen ∧ base ≤ g ∧ g < w.heap.size := by
  rcases h.2 with ⟨e1, e0⟩ | ⟨g, cap, cur, e1, hbg, hgg, hcap, hm, _⟩
  · exact .inl ⟨e1, List.eq_nil_of_length_eq_zero e0⟩
  · exact .inr ⟨g, cap, e1, hcap, hm, hbg, (Array.getElem?_eq_some_iff.1 hgg).1⟩
theorem Dk.Own.cell (he : ∀ x, (enc x).length = k) {base : Nat} {w : World} {v : Value} {L : List α} (h : Dk.Own e k enc base w v L) {g : Nat} (hv : v.ownBlock = some g) {i j : Nat} {x : α} (hi : L[i]? = some x) (hj : j < k) : w.cell? ⟨g, i * k + j, none⟩ = (enc x)[j]? := by
  have hx : (enc x)[j]? = some ((enc x)[j]'(by rw [he]; exact hj)) := List.getElem?_eq_getElem _
  have := World.ownsRow.cells h hv (i * k + j) _ ((Dk.flat_get he L i j x hi hj).trans hx)
  rw [Dk.addr_add, Nat.zero_add] at this
  rw [this, hx]
theorem Dk.Own.at (he : ∀ x, (enc x).length = k) {base : Nat} {w : World} {v : Value} {L : List α} (h : Dk.Own e k enc base w v L) : Dk.At (fun b => base ≤ b ∧ b < w.heap.size) e k enc w v L := by
  rcases h.form with ⟨rfl, rfl⟩ | ⟨g, c, rfl, hc, _, hb, hg⟩
  · exact ⟨none, 0, rfl, Nat.le_refl _, .inl ⟨rfl, fun _ => rfl⟩⟩
  · obtain ⟨cs, hcs⟩ := h.typed g rfl
    refine ⟨_, c, rfl, hc, .inr ⟨g, 0, cs, (0, 0), rfl, ⟨hb, hg⟩, hcs, fun i j x hi hj => ?_⟩⟩
    rw [Nat.zero_add]
    exact h.cell he rfl hi hj
theorem Dk.At.same {w w' : World} {v : Value} {L : List α} (h : Dk.At P e k enc w v L) (g : ∀ b, P b → w'.heap[b]? = w.heap[b]?) : Dk.At P e k enc w' v L := by
  obtain ⟨a, c, hv, hc, h⟩ := h
  refine ⟨a, c, hv, hc, ?_⟩
  rcases h with h | ⟨b, o, cs, fr, ha, hP, hb, h⟩
  · exact .inl h
  · refine .inr ⟨b, o, cs, fr, ha, hP, (g b hP).trans hb, fun i j x hi hj => ?_⟩
    rw [← h i j x hi hj]
    exact World.cell?_of_block (g b hP)
theorem Dk.At.imp {w : World} {v : Value} {L : List α} (h : Dk.At P e k enc w v L) (g : ∀ b, P b → P' b) : Dk.At P' e k enc w v L := by
  obtain ⟨a, c, hv, hc, h⟩ := h
  refine ⟨a, c, hv, hc, ?_⟩
  rcases h with h | ⟨b, o, cs, fr, ha, hP, hb, h⟩
  · exact .inl h
  · exact .inr ⟨b, o, cs, fr, ha, g b hP, hb, h⟩
/-- The same by way of what lives. -/
theorem Dk.At.alive {w : World} {v : Value} {L : List α} (h : Dk.At P e k enc w v L) : Dk.At (fun b => P b ∧ b < w.heap.size) e k enc w v L := by
  obtain ⟨a, c, hv, hc, h⟩ := h
  refine ⟨a, c, hv, hc, ?_⟩
  rcases h with h | ⟨b, o, cs, fr, ha, hP, hb, h⟩
  · exact .inl h
  · exact .inr ⟨b, o, cs, fr, ha, ⟨hP, lt_of_block hb⟩, hb, h⟩
theorem Dk.At.kept {w w' : World} {v : Value} {L : List α} (h : Dk.At P e k enc w v L) (g : Below w.heap.size w w') : Dk.At P e k enc w' v L :=
  ((h.alive).same fun b hb => g.block b hb.2).imp fun _ hb => hb.1
theorem Dk.At.nil (w : World) : Dk.At P e k enc w (.slice none 0 0) ([] : List α) := ⟨none, 0, rfl, Nat.le_refl _, .inl ⟨rfl, fun _ => rfl⟩⟩
/-- The things K can be read off this slice. -/
def Dk.Src (enc : α → List Value) (w : World) (u : Value) (K : List α) : Prop :=
  (u = .slice none 0 0 ∧ K = []) ∨ ∃ ad c, u = .slice (some ad) K.length c ∧ ∀ j y, (K.flatMap enc)[j]? = some y → w.cell? (ad.add j) = some y
theorem Dk.src_cells {w : World} {b o : Nat} {K : List α} (he : ∀ x, (enc x).length = k) (hk : 0 < k) (h : ∀ i j x, K[i]? = some x → j < k → w.cell? ⟨b, o + i * k + j, none⟩ = (enc x)[j]?) :
    ∀ j y, (K.flatMap enc)[j]? = some y → w.cell? ((⟨b, o, none⟩ : Addr).add j) = some y := by
  intro q y hq
  have hql : q < K.length * k := by
    rw [← Dk.flat_len he K]
    exact (List.getElem?_eq_some_iff.1 hq).1
  obtain ⟨i, j, hj, e1⟩ : ∃ i j, j < k ∧ q = i * k + j := ⟨q / k, q % k, Nat.mod_lt _ hk, by rw [Nat.mul_comm]; exact (Nat.div_add_mod q k).symm⟩
  have hi : i < K.length := by
    rcases Nat.lt_or_ge i K.length with h | h
    · exact h
    · have := Nat.mul_le_mul_right k h; omega
  have hx : K[i]? = some K[i] := List.getElem?_eq_getElem hi
  rw [Dk.addr_add, e1, ← Nat.add_assoc, h i j _ hx hj, ← Dk.flat_get he K i j _ hx hj, ← e1, hq]
/-- AN APPEND OF MANY. -/
theorem Dk.append_many {Pr : Program} (T : TypeId) (z : Value) (by_ : Nat) (hT : Pr.underlying T = some (.slice e)) (hinfo : (Pr.info? e).map (fun i => (i.zero, i.size, i.bytes)) = some (some z, k, by_)) (hz : z.cells.size = k) (hk : 0 < k)
    (he : ∀ x, (enc x).length = k) (hone : ∀ x, ∀ u ∈ enc x, u.oneCell' = true) {base : Nat} {w0 : World} {v : Value} {M K : List α} (hown : Dk.Own e k enc base w0 v M) (hb : base ≤ w0.heap.size)
    (hl : (M.length + K.length) * by_ ≤ 140737488355328) (hl2 : M.length + K.length ≤ 140737488355328) {u : Value} (hu : Dk.Src enc w0 u K) (ty : TypeId) :
    ∃ v' w', (Builtin.append_ #[T, T] ty #[v, u]).run Pr w0 = .ok v' w' ∧ Dk.Own e k enc base w' v' (M ++ K) ∧ Ty.Grew w0 w' v v' := by
  obtain ⟨i0, hi, hz0, hz1, hz2⟩ := info_parts hinfo
  rcases hu with ⟨rfl, rfl⟩ | ⟨ad, c, rfl, hK⟩
  · exact ⟨v, w0, run_append_owned_none (P := Pr) w0 base T ty e i0 k hT hi v _ _ hown, by rw [List.append_nil]; exact hown, Ty.Grew.refl _ _⟩
  · obtain ⟨v', w', hr, h1, h2⟩ := Ty.append_tight (P := Pr) w0 base T ty e i0 _ k by_ hT hi hz0 hz1 hz2 hz hk v M.length (M.flatMap enc) hown ad K.length c (K.flatMap enc) (Dk.flat_len he K) hK (fun y hy => by
      obtain ⟨x, _, hx⟩ := List.mem_flatMap.1 hy
      exact hone x y hx) (by unfold maxLen; omega) hl hb
    refine ⟨v', w', hr, ?_, h2⟩
    unfold Dk.Own
    rw [List.length_append, List.flatMap_append]
    exact h1
/-- .. the walk's law, at a guard that is met. -/
theorem Dk.wpList_append {Pr : Program} (T : TypeId) (z : Value) (by_ : Nat) (hT : Pr.underlying T = some (.slice e)) (hinfo : (Pr.info? e).map (fun i => (i.zero, i.size, i.bytes)) = some (some z, k, by_)) (hz : z.cells.size = k) (hk : 0 < k)
    (he : ∀ x, (enc x).length = k) (hone : ∀ x, ∀ u ∈ enc x, u.oneCell' = true) {base : Nat} {w0 : World} {v : Value} {M : List α} (K : List α) (hown : Dk.Own e k enc base w0 v M) (hb : base ≤ w0.heap.size)
    (hl : (M.length + K.length) * by_ ≤ 140737488355328) (hl2 : M.length + K.length ≤ 140737488355328) {u : Value} (hu : Dk.Src enc w0 u K)
    {ops : Array Oper} {rest : List Oper} {o : Oper} {a : Act} {Q : Exit → Act → World → Prop} (s x : Operand) (hgd : Region.wanted o (yielded ops a.tmps) = true)
    (ho : o.op = .call { callee := .builtin .append, args := #[s, x], argTypes := #[T, T] })
    (hs : a.eval s = v) (hx : a.eval x = u)
    (h : ∀ v' w', Dk.Own e k enc base w' v' (M ++ K) → Ty.Grew w0 w' v v' → wpList Pr ops Q rest (a.put o.dst v') w') :
    wpList Pr ops Q (o :: rest) a w0 := by
  refine wpList_step fun Kx hKx => ?_
  rw [if_pos hgd]
  obtain ⟨v', w', hr, h2, h3⟩ := Dk.append_many (Pr := Pr) T z by_ hT hinfo hz hk he hone hown hb hl hl2 hu o.type
  unfold Oper.wp execOp
  simp only [ho, resolve, invoke, builtin, Sem.run_bind, Sem.run_pure, Result.andThen_ok, List.map_toArray, List.map_cons, List.map_nil, hs, hx, hr]
  exact hKx _ _ (h v' w' h2 h3)
/-- .. a step of a region that draws its order. -/
theorem Dk.step_append {Pr : Program} (T : TypeId) (z : Value) (by_ : Nat) (hT : Pr.underlying T = some (.slice e)) (hinfo : (Pr.info? e).map (fun i => (i.zero, i.size, i.bytes)) = some (some z, k, by_)) (hz : z.cells.size = k) (hk : 0 < k)
    (he : ∀ x, (enc x).length = k) (hone : ∀ x, ∀ u ∈ enc x, u.oneCell' = true) {wo w0 : World} {v : Value} {M : List α} (K : List α) (hbW : Below wo.heap.size wo w0) (hown : Dk.Own e k enc wo.heap.size w0 v M)
    (hl : (M.length + K.length) * by_ ≤ 140737488355328) (hl2 : M.length + K.length ≤ 140737488355328)
    {ops : Array Oper} {o : Oper} {a : Act} {Kx : Act → World → Prop} {Q : Exit → Act → World → Prop} {E : Prop} (s x : Operand) (u : Value) (hgd : o.guard = none)
    (ho : o.op = .call { callee := .builtin .append, args := #[s, x], argTypes := #[T, T] })
    (hs : a.eval s = v) (hx : a.eval x = u) (hu : Dk.Src enc w0 u K)
    (h : ∀ v' w', Dk.Own e k enc wo.heap.size w' v' (M ++ K) → Below wo.heap.size wo w' → Ty.Grew w0 w' v v' → Kx (a.put o.dst v') w') :
    if Region.wanted o (yielded ops a.tmps) = true then Oper.wp Pr o a w0 Kx Q else E := by
  have hw : Region.wanted o (yielded ops a.tmps) = true := by simp [Region.wanted, hgd]
  rw [if_pos hw]
  obtain ⟨v', w', hr, h2, h3⟩ := Dk.append_many (Pr := Pr) T z by_ hT hinfo hz hk he hone hown hbW.size hl hl2 hu o.type
  unfold Oper.wp execOp
  simp only [ho, resolve, invoke, builtin, Sem.run_bind, Sem.run_pure, Result.andThen_ok, List.map_toArray, List.map_cons, List.map_nil, hs, hx, hr]
  exact h v' w' h2 (Dk.own_below hbW hown h3) h3
/-- .. whatever the base. -/
theorem Dk.step_appendB {Pr : Program} (T : TypeId) (z : Value) (by_ : Nat) (hT : Pr.underlying T = some (.slice e)) (hinfo : (Pr.info? e).map (fun i => (i.zero, i.size, i.bytes)) = some (some z, k, by_)) (hz : z.cells.size = k) (hk : 0 < k)
    (he : ∀ x, (enc x).length = k) (hone : ∀ x, ∀ u ∈ enc x, u.oneCell' = true) {base : Nat} {w0 : World} {v : Value} {M : List α} (K : List α) (hb : base ≤ w0.heap.size) (hown : Dk.Own e k enc base w0 v M)
    (hl : (M.length + K.length) * by_ ≤ 140737488355328) (hl2 : M.length + K.length ≤ 140737488355328)
    {ops : Array Oper} {o : Oper} {a : Act} {Kx : Act → World → Prop} {Q : Exit → Act → World → Prop} {E : Prop} (s x : Operand) (u : Value) (hgd : o.guard = none)
    (ho : o.op = .call { callee := .builtin .append, args := #[s, x], argTypes := #[T, T] })
    (hs : a.eval s = v) (hx : a.eval x = u) (hu : Dk.Src enc w0 u K)
    (h : ∀ v' w', Dk.Own e k enc base w' v' (M ++ K) → Ty.Grew w0 w' v v' → Kx (a.put o.dst v') w') :
    if Region.wanted o (yielded ops a.tmps) = true then Oper.wp Pr o a w0 Kx Q else E := by
  have hw : Region.wanted o (yielded ops a.tmps) = true := by simp [Region.wanted, hgd]
  rw [if_pos hw]
  obtain ⟨v', w', hr, h2, h3⟩ := Dk.append_many (Pr := Pr) T z by_ hT hinfo hz hk he hone hown hb hl hl2 hu o.type
  unfold Oper.wp execOp
  simp only [ho, resolve, invoke, builtin, Sem.run_bind, Sem.run_pure, Result.andThen_ok, List.map_toArray, List.map_cons, List.map_nil, hs, hx, hr]
  exact h v' w' h2 h3
theorem Dk.Own.form1 {base : Nat} {w : World} {v : Value} {M : List α} {x : α} (h : Dk.Own e k enc base w v (M ++ [x])) : ∃ g c, v = .slice (some ⟨g, 0, none⟩) (M.length + 1) c ∧ M.length + 1 ≤ c ∧ c ≤ maxLen := by
  rcases h.form with ⟨_, h0⟩ | ⟨g, c, rfl, hc, hm, _, _⟩
  · exact absurd h0 (by simp)
  · exact ⟨g, c, by rw [List.length_append]; rfl, by rw [List.length_append] at hc; exact hc, hm⟩
/-- A piece of a row as a source. -/
theorem Dk.src_take (he : ∀ x, (enc x).length = k) (hk : 0 < k) {w : World} {D : List α} {b q : Nat} (hc : ∀ i j x, D[i]? = some x → j < k → w.cell? ⟨b, i * k + j, none⟩ = (enc x)[j]?) (hq : q ≤ D.length) (c : Nat) : Dk.Src enc w (.slice (some ⟨b, 0, none⟩) q c) (D.take q) := by
  have hl : (D.take q).length = q := by rw [List.length_take]; omega
  refine .inr ⟨⟨b, 0, none⟩, c, by rw [hl], Dk.src_cells he hk fun i j x hi hj => ?_⟩
  rw [Nat.zero_add]
  refine hc i j x ?_ hj
  rw [List.getElem?_take] at hi
  split at hi
  · exact hi
  · cases hi
theorem Dk.src_drop (he : ∀ x, (enc x).length = k) (hk : 0 < k) {w : World} {D : List α} {b q o : Nat} (ho : o = q * k) (hc : ∀ i j x, D[i]? = some x → j < k → w.cell? ⟨b, i * k + j, none⟩ = (enc x)[j]?) (c : Nat) : Dk.Src enc w (.slice (some ⟨b, o, none⟩) (D.length - q) c) (D.drop q) := by
  subst ho
  have hl : (D.drop q).length = D.length - q := List.length_drop
  refine .inr ⟨⟨b, q * k, none⟩, c, by rw [hl], Dk.src_cells he hk fun i j x hi hj => ?_⟩
  rw [List.getElem?_drop] at hi
  rw [← Nat.add_mul]
  exact hc (q + i) j x hi hj
theorem Dk.src_none {w : World} (b o c m : Nat) {K : List α} (hK : K = []) (hm : m = 0) : Dk.Src enc w (.slice (some ⟨b, o, none⟩) m c) K := by
  subst hK hm
  exact .inr ⟨_, c, rfl, fun j y hj => by simp at hj⟩
/-- A slice that has just been made of one thing. -/
theorem Dk.src_one (w : World) (x : α) (cs : Array Value) (hcs : cs = (enc x).toArray) (t : TypeId) : Dk.Src enc (w.alloc (.cells cs t)) (.slice (some ⟨w.heap.size, 0, none⟩) 1 1) [x] := by
  refine .inr ⟨⟨w.heap.size, 0, none⟩, 1, rfl, fun j y hj => ?_⟩
  rw [Dk.addr_add, Nat.zero_add]
  have e1 : ([x].flatMap enc) = enc x := by simp
  rw [e1] at hj
  have hn := heap_alloc_new w (.cells cs t)
  simp only [World.cell?, hn]
  subst hcs
  simpa using hj
theorem Dk.src_cell {w : World} {b : Nat} {x : α} (h : ∀ j y, (enc x)[j]? = some y → w.cell? ⟨b, j, none⟩ = some y) : Dk.Src enc w (.slice (some ⟨b, 0, none⟩) 1 1) [x] := by
  refine .inr ⟨⟨b, 0, none⟩, 1, rfl, fun j y hj => ?_⟩
  rw [Dk.addr_add, Nat.zero_add]
  have e1 : ([x].flatMap enc) = enc x := by simp
  rw [e1] at hj
  exact h j y hj
theorem Dk.cell_new {w : World} {cs : Array Value} {t : TypeId} {x : α} (hcs : cs = (enc x).toArray) : ∀ j y, (enc x)[j]? = some y → (w.alloc (.cells cs t)).cell? ⟨w.heap.size, j, none⟩ = some y := by
  intro j y hj
  have hn := heap_alloc_new w (.cells cs t)
  simp only [World.cell?, hn]
  subst hcs
  simpa using hj
theorem Dk.cell_kept {w w' : World} {v' : Value} (g : Ty.Grew w w' (.slice none 0 0) v') {a : Addr} {x : Value} (h : w.cell? a = some x) : w'.cell? a = some x := by
  have hb : Below w.heap.size w w' := g.below (Nat.le_refl _) (fun k hk => by cases hk)
  exact (hb.cell (World.block_lt_of_cell? w _ h)).trans h
/-- .. one more. -/
theorem Dk.wpList_append1 {Pr : Program} (T : TypeId) (z : Value) (by_ : Nat) (hT : Pr.underlying T = some (.slice e)) (hinfo : (Pr.info? e).map (fun i => (i.zero, i.size, i.bytes)) = some (some z, k, by_)) (hz : z.cells.size = k) (hk : 0 < k)
    (he : ∀ x, (enc x).length = k) (hone : ∀ x, ∀ u ∈ enc x, u.oneCell' = true) {base : Nat} {w0 : World} {v : Value} {M : List α} (x : α) (hown : Dk.Own e k enc base w0 v M) (hb : base ≤ w0.heap.size)
    (hl : (M.length + 1) * by_ ≤ 140737488355328) (hl2 : M.length + 1 ≤ 140737488355328) (q : Nat) (hq : q = w0.heap.size) (cs : Array Value) (hcs : cs = (enc x).toArray)
    {ops : Array Oper} {rest : List Oper} {o : Oper} {a : Act} {Q : Exit → Act → World → Prop} (s y : Operand) (hgd : Region.wanted o (yielded ops a.tmps) = true)
    (ho : o.op = .call { callee := .builtin .append, args := #[s, y], argTypes := #[T, T] })
    (hs : a.eval s = v) (hx : a.eval y = .slice (some ⟨q, 0, none⟩) 1 1)
    (h : ∀ v' w', Dk.Own e k enc base w' v' (M ++ [x]) → Ty.Grew w0 w' v v' → wpList Pr ops Q rest (a.put o.dst v') w') :
    wpList Pr ops Q (o :: rest) a (w0.alloc (.cells cs e)) := by
  subst hq
  exact Dk.wpList_append T z by_ hT hinfo hz hk he hone [x] (World.ownsRow.alloc hown _) (by rw [World.size_alloc]; omega) hl hl2 (Dk.src_one w0 x cs hcs e) s y hgd ho hs hx fun v' w' h1 h2 => h v' w' h1 (h2.behind _)
/-- A store into a thing. -/
theorem Dk.Own.set (he : ∀ x, (enc x).length = k) {base : Nat} {w : World} {v : Value} {L : List α} (h : Dk.Own e k enc base w v L) {g : Nat} (hv : v.ownBlock = some g) {i j : Nat} {x : α} (hi : L[i]? = some x) (hj : j < k) (u : Value) (y : α) (hy : enc y = (enc x).set j u) :
    Dk.Own e k enc base (w.setCell ⟨g, i * k + j, none⟩ u) v (L.set i y) := by
  rcases h.form with ⟨rfl, rfl⟩ | ⟨g', c, rfl, hc, _, hb, hg⟩
  · cases hi
  · have : g' = g := by simpa [Value.ownBlock] using hv
    subst this
    have := (World.ownsRow.stored h (i * k + j) u).1
    rw [Dk.flat_set he L i x y hi j hj u hy] at this
    unfold Dk.Own
    rw [List.length_set]
    exact this
end
end Go.Proofs.YtfjhffldhpcdmaaDoor

namespace Go.Proofs.YtfjhffldhpcdmaaDoor
open Go.RowKit
/-- Is a value of a kind? -/
def Kn.isK (k : Int) (v : Kn.V) : Bool :=
  if v.null = true then (v.n == 0) && (v.s.toList == (⟨#[]⟩ : ByteArray).toList)
  else if k = 1 then v.s.toList == (⟨#[]⟩ : ByteArray).toList
  else (k == 2) && ((v.n == 0) && decide (v.s.size ≤ 64))
/-- The document's test of a value against its column, of a kind that may be. -/
theorem Kn.isK_fits (c : Kn.C) (v : Kn.V) (h : c.good = true) : Kn.fits c v = (Kn.isK c.k v && !(v.null && !c.null)) := by
  obtain ⟨ck, cn⟩ := c
  obtain ⟨vn, vi, vs⟩ := v
  have hk : ck = 1 ∨ ck = 2 := by
    unfold Kn.C.good at h
    by_cases h1 : ck = 1
    · exact .inl h1
    · by_cases h2 : ck = 2
      · exact .inr h2
      · have e1 : (ck != 1) = true := by rw [bne_iff_ne]; exact h1
        have e2 : (ck != 2) = true := by rw [bne_iff_ne]; exact h2
        simp only [e1, e2] at h
        cases h
  unfold Kn.fits Kn.isK
  rcases hk with rfl | rfl <;> cases vn <;> cases cn <;> simp
theorem Kn.right_ends (l : List Kn.C) (ha : (l.take l.length).all Kn.C.good = true) (hh : 0 < l.length → Kn.headOk l = true) : (¬ 1 ≤ l.length → Kn.right l = false) ∧ (1 ≤ l.length → ¬ l.length ≤ 6 → Kn.right l = false) ∧ (1 ≤ l.length → l.length ≤ 6 → Kn.right l = true) := by
  rw [List.take_length] at ha
  unfold Kn.right
  rw [ha]
  refine ⟨fun h => ?_, fun _ h => ?_, fun h1 h2 => ?_⟩
  · rw [decide_eq_false h]; rfl
  · rw [decide_eq_false (p := l.length ≤ 6) h]; simp
  · rw [hh (by omega), decide_eq_true h1, decide_eq_true h2]; rfl
theorem Kn.head_ok (l : List Kn.C) (x : Kn.C) (h : l[0]? = some x) : Kn.headOk l = !x.null := by
  cases l with
  | nil => cases h
  | cons y t => obtain rfl : y = x := by simpa using h
                rfl
end Go.Proofs.YtfjhffldhpcdmaaDoor

namespace Go.Proofs.YtfjhffldhpcdmaaDoor
open Go.RowKit
theorem Kn.right_all {s : List Kn.C} (h : Kn.right s = true) : s.all Kn.C.good = true := by
  unfold Kn.right at h
  simp only [Bool.and_eq_true] at h
  exact h.2
/-- What the document's test of a value comes to, way by way. -/
theorem Kn.test_ways (c : Kn.C) (v : Kn.V) (h : c.good = true) : (Kn.isK c.k v = false ∧ Kn.fits c v = false) ∨ (Kn.isK c.k v = true ∧ v.null = false ∧ Kn.fits c v = true) ∨ (Kn.isK c.k v = true ∧ v.null = true ∧ c.null = true ∧ Kn.fits c v = true) ∨ (Kn.isK c.k v = true ∧ v.null = true ∧ c.null = false ∧ Kn.fits c v = false) := by
  have := Kn.isK_fits c v h
  rw [this]
  cases Kn.isK c.k v <;> cases v.null <;> cases c.null <;> simp
end Go.Proofs.YtfjhffldhpcdmaaDoor

namespace Go.Proofs.YtfjhffldhpcdmaaDoor
open Go.RowKit
/-- Two values are equal in every field. -/
def Kn.sameV (a b : Kn.V) : Bool := (a.null == b.null) && ((a.n == b.n) && (a.s.toList == b.s.toList))
/-- Two rows are the same. -/
def Kn.sameR : List Kn.V → List Kn.V → Bool
  | a :: l, b :: m => Kn.sameV a b && Kn.sameR l m
  | [], [] => true
  | _, _ => false
theorem Kn.sameR_self : ∀ l : List Kn.V, Kn.sameR l l = true
  | [] => rfl
  | a :: l => by simp [Kn.sameR, Kn.sameV, Kn.sameR_self l]
theorem Kn.sameR_len : ∀ a b : List Kn.V, a.length ≠ b.length → Kn.sameR a b = false
  | [], [], h => absurd rfl h
  | [], _ :: _, _ => rfl
  | _ :: _, [], _ => rfl
  | a :: l, b :: m, h => by
    simp only [Kn.sameR]
    rw [Kn.sameR_len l m (by simpa using h)]
    simp
theorem Kn.sameR_step (s r : List Kn.V) (k : Nat) (c v : Kn.V) (hc : s[k]? = some c) (hv : r[k]? = some v) : Kn.sameR (s.drop k) (r.drop k) = (Kn.sameV c v && Kn.sameR (s.drop (k + 1)) (r.drop (k + 1))) := by
  obtain ⟨h1, rfl⟩ := List.getElem?_eq_some_iff.1 hc
  obtain ⟨h2, rfl⟩ := List.getElem?_eq_some_iff.1 hv
  rw [List.drop_eq_getElem_cons h1, List.drop_eq_getElem_cons h2]
  rfl
theorem Kn.sameR_end (s r : List Kn.V) (k : Nat) (h : ¬ k < s.length) (h2 : r.length = s.length) : Kn.sameR (s.drop k) (r.drop k) = true := by
  rw [List.drop_eq_nil_of_le (by omega), List.drop_eq_nil_of_le (by omega)]
  rfl
theorem Kn.sameV_ways (a b : Kn.V) : (Kn.sameV a b = false ∧ (a.null == b.null) = false) ∨ (Kn.sameV a b = false ∧ (a.null == b.null) = true ∧ (a.n == b.n) = false) ∨ (Kn.sameV a b = false ∧ (a.null == b.null) = true ∧ (a.n == b.n) = true ∧ (a.s.toList == b.s.toList) = false) ∨ (Kn.sameV a b = true ∧ (a.null == b.null) = true ∧ (a.n == b.n) = true ∧ (a.s.toList == b.s.toList) = true) := by
  unfold Kn.sameV
  cases (a.null == b.null) <;> cases (a.n == b.n) <;> cases (a.s.toList == b.s.toList) <;> simp
/-- The test of the two values, as the program makes it. -/
theorem Kn.neq_run (a b : Kn.V) (w : World) : (binOp .neq 25 (.agg #[.bool a.null, .int .i64 a.n, .string a.s]) (.agg #[.bool b.null, .int .i64 b.n, .string b.s])).run Tryd.prog w = .ok (.bool (!Kn.sameV a b)) w := by
  rcases Kn.sameV_ways a b with ⟨h, h1⟩ | ⟨h, h1, h2⟩ | ⟨h, h1, h2, h3⟩ | ⟨h, h1, h2, h3⟩
  all_goals
    rw [h]
    clear h
    go_simp
    done
set_option maxHeartbeats 1000000 in
set_option maxRecDepth 100000 in
/-- The document's answer: the same rows. -/
theorem Kn.rsame_c (v u : Value) (s r : List Kn.V) (w : World) (hs : Kn.Vals w v s) (hr : Kn.Vals w u r) :
    Calls Tryd.prog 33 #[v, u] w fun e w' => e = .returned (.bool (Kn.sameR s r)) ∧ ∃ n, w' = w.drewN n := by
  obtain ⟨a, c, rfl, h⟩ := hs
  obtain ⟨a2, c2, rfl, h2⟩ := hr
  by_cases hn : r.length = s.length
  · rw [hn]
    have hz : ((s.length : Int) != (s.length : Int)) = false := by simp
    generalize hB : Kn.sameR s r = B
    have HB := Lib.hid hB
    clear hB
    go_enter Tryd.func33, Tryd.ntmps33
    go_wp2
    go_loopw [5] (fun i wr => ∃ k : Nat, k ≤ s.length ∧ i = .int .i64 k ∧ Kn.sameR s r = Kn.sameR (s.drop k) (r.drop k) ∧ ∃ n, wr = w.drewN n) (fun i _ => s.length - (intOf i).toNat)
    case atStart => exact ⟨0, by omega, rfl, rfl, 0, rfl⟩
    case round =>
      obtain ⟨k, hk, rfl, hg, n, rfl⟩ := hrel
      have HG := Lib.hid hg
      clear hg
      by_cases hkl : k < s.length
      · rcases h with rfl | ⟨b, o, rfl, hlt, hm, hc⟩
        · simp at hkl
        · rcases h2 with rfl | ⟨b2, o2, rfl, hlt2, hm2, hc2⟩
          · simp at hn; omega
          · have hx := List.getElem?_eq_getElem hkl
            have hy := List.getElem?_eq_getElem (show k < r.length by omega)
            generalize s[k] = x at hx
            generalize r[k] = y at hy
            have HS := Lib.hid (Kn.sameR_step s r k x y hx hy)
            obtain ⟨e0, e1, e2⟩ := hc k x hx
            obtain ⟨f0, f1, f2⟩ := hc2 k y hy
            have dk : (k : Int) < (s.length : Int) := by omega
            have dk0 : (0 : Int) ≤ (k : Int) := by omega
            have HC := Lib.hid hc
            have HC2 := Lib.hid hc2
            clear hc hc2 hx hy
            rcases Kn.sameV_ways x y with ⟨h0, h1⟩ | ⟨h0, h1, h2⟩ | ⟨h0, h1, h2, h3⟩ | ⟨h0, h1, h2, h3⟩
            all_goals
              have HF := Lib.hid h0
              clear h0
              go_wp2_with fail
              go_quiet (fail)
              go_wp2
            all_goals first
              | (go_ret
                 exact ⟨Kn.retb (by rw [← HB.out, HG.out, HS.out, HF.out]; rfl), by first | exact ⟨_, rfl⟩ | exact ⟨_, World.drewN_drewN _ _ _⟩⟩)
              | (go_roundw
                 case rel => exact ⟨k + 1, by omega, by simp, by rw [HG.out, HS.out, HF.out]; rfl, by first | exact ⟨_, rfl⟩ | exact ⟨_, World.drewN_drewN _ _ _⟩⟩
                 case measure => simp [intOf]; omega)
      · obtain rfl : k = s.length := by omega
        have dk : ¬ (s.length : Int) < (s.length : Int) := by omega
        have he : B = true := HB.out.symm.trans (HG.out.trans (Kn.sameR_end s r _ (by omega) hn))
        subst he
        go_wp2
        go_ret
        exact ⟨rfl, _, rfl⟩
  · rw [Kn.sameR_len s r (fun e => hn e.symm)]
    have hz : ((s.length : Int) != (r.length : Int)) = true := by rw [bne_iff_ne]; omega
    go_enter Tryd.func33, Tryd.ntmps33
    go_wp2
    go_ret
    exact ⟨rfl, 0, rfl⟩
end Go.Proofs.YtfjhffldhpcdmaaDoor

namespace Go.Proofs.YtfjhffldhpcdmaaDoor
open Go.RowKit
/-- What a call may write: the blocks S, and new ones. -/
structure Sk.Off (S : Nat → Prop) (w w' : World) : Prop where
  os : w'.os = w.os
  tape : w'.tape = w.tape
  output : w'.output = w.output
  size : w.heap.size ≤ w'.heap.size
  block : ∀ k, k < w.heap.size → ¬ S k → w'.heap[k]? = w.heap[k]?
def Sk.More (S : Nat → Prop) (w w' : World) (b : Nat) : Prop := S b ∨ (w.heap.size ≤ b ∧ b < w'.heap.size)
theorem Sk.Off.refl (S : Nat → Prop) (w : World) : Sk.Off S w w := ⟨rfl, rfl, rfl, Nat.le_refl _, fun _ _ _ => rfl⟩
theorem Sk.Off.of_below {S : Nat → Prop} {w w' : World} (h : Below w.heap.size w w') : Sk.Off S w w' := ⟨h.os, h.tape, h.output, h.size, fun k hk _ => h.block k hk⟩
theorem Sk.Off.below {S : Nat → Prop} {w w' : World} (h : Sk.Off S w w') {B : Nat} (hB : B ≤ w.heap.size) (hS : ∀ b, S b → B ≤ b) : Below B w w' :=
  ⟨h.os, h.tape, h.output, h.size, fun k hk => h.block k (by omega) (fun hs => by have := hS k hs; omega)⟩
theorem Sk.Off.same {S : Nat → Prop} {w w1 w2 : World} (h : Sk.Off S w w1) (g : Sk.Off S w1 w2) : Sk.Off S w w2 :=
  ⟨g.os.trans h.os, g.tape.trans h.tape, g.output.trans h.output, Nat.le_trans h.size g.size, fun k hk hn => (g.block k (Nat.lt_of_lt_of_le hk h.size) hn).trans (h.block k hk hn)⟩
/-- Values that lie below B. -/
def Sk.Row (B : Nat) (w : World) (v : Value) (l : List Kn.V) : Prop := ∃ a c, v = .slice a l.length c ∧ l.length ≤ 9223372036854775807 ∧ (∀ x ∈ l, Kn.Z x) ∧ (l = [] ∨ ∃ b o, a = some ⟨b, o, none⟩ ∧ b < B ∧ b < w.heap.size ∧ ∀ i x, l[i]? = some x → Kn.At w b (o + i * 3) x)
theorem Sk.At_below {B : Nat} {w w' : World} {b o : Nat} {v : Kn.V} (h : Kn.At w b o v) (hb : b < B) (g : Below B w w') : Kn.At w' b o v :=
  ⟨(g.cell (p := ⟨b, o, none⟩) hb).trans h.c0, (g.cell (p := ⟨b, o + 1, none⟩) hb).trans h.c1, (g.cell (p := ⟨b, o + 2, none⟩) hb).trans h.c2⟩
theorem Sk.Row.below {B : Nat} {w w' : World} {v : Value} {l : List Kn.V} (h : Sk.Row B w v l) (g : Below B w w') : Sk.Row B w' v l := by
  obtain ⟨a, c, hv, hm, hz, h⟩ := h
  refine ⟨a, c, hv, hm, hz, ?_⟩
  rcases h with h | ⟨b, o, ha, hb, hl, h⟩
  · exact .inl h
  · exact .inr ⟨b, o, ha, hb, Nat.lt_of_lt_of_le hl g.size, fun i x hx => Sk.At_below (h i x hx) hb g⟩
theorem Sk.Row.vals {B : Nat} {w : World} {v : Value} {l : List Kn.V} (h : Sk.Row B w v l) : Kn.Vals w v l := by
  obtain ⟨a, c, hv, hm, _, h⟩ := h
  refine ⟨a, c, hv, ?_⟩
  rcases h with h | ⟨b, o, ha, _, hl, h⟩
  · exact .inl h
  · exact .inr ⟨b, o, ha, hl, hm, h⟩
/-- A deed of the document's list: with the slice of its row. -/
structure Sk.E where
  gone : Bool
  rv : Value
  row : List Kn.V
def Sk.E.enc (x : Sk.E) : List Value := [.bool x.gone, x.rv]
def Sk.E.d (x : Sk.E) : Dd.D := ⟨x.gone, x.row⟩
def Sk.kd (d : Dd.D) : Kn.V := d.row.headD ⟨true, 0, ⟨#[]⟩⟩
def Sk.ke (x : Sk.E) : Kn.V := Sk.kd x.d
theorem Sk.enc_len (x : Sk.E) : x.enc.length = 2 := rfl
/-- The document's list; S: its own blocks. -/
structure Sk.RL (S : Nat → Prop) (B : Nat) (w : World) (p : Nat) (v : Value) (L : List Sk.E) : Prop where
  blk : w.heap[p]? = some (.cells #[v] 32 (0, 0))
  own : Dk.Own 37 2 Sk.E.enc 0 w v L
  ownS : ∀ b, v.ownBlock = some b → S b
  mine : S p
  alive : ∀ b, S b → b < w.heap.size
  from_ : ∀ b, S b → B ≤ b
  rows : ∀ x ∈ L, Sk.Row B w x.rv x.row ∧ x.row ≠ []
theorem Sk.RL.same {S : Nat → Prop} {B : Nat} {w w' : World} {p : Nat} {v : Value} {L : List Sk.E} (h : Sk.RL S B w p v L) (hs : w.heap.size ≤ w'.heap.size) (g : ∀ b, S b → w'.heap[b]? = w.heap[b]?) (gb : Below B w w') : Sk.RL S B w' p v L :=
  ⟨(g p h.mine).trans h.blk, h.own.same fun b hb => g b (h.ownS b hb), h.ownS, h.mine, fun b hb => Nat.lt_of_lt_of_le (h.alive b hb) hs, h.from_, fun x hx => ⟨(h.rows x hx).1.below gb, (h.rows x hx).2⟩⟩
theorem Sk.RL.le {S : Nat → Prop} {B : Nat} {w : World} {p : Nat} {v : Value} {L : List Sk.E} (h : Sk.RL S B w p v L) : B ≤ w.heap.size := by
  have := h.from_ p h.mine
  have := h.alive p h.mine
  omega
theorem Sk.RL.kept {S : Nat → Prop} {B : Nat} {w w' : World} {p : Nat} {v : Value} {L : List Sk.E} (h : Sk.RL S B w p v L) (g : Below w.heap.size w w') : Sk.RL S B w' p v L :=
  h.same g.size (fun b hb => g.block b (h.alive b hb)) (g.mono h.le)
/-- A deed's key in memory: the row's slice, where its first value lies. -/
structure Sk.Cell (w : World) (g i : Nat) (x : Sk.E) (rb ro rn rc : Nat) : Prop where
  c : w.cell? ⟨g, i * 2 + 1, none⟩ = some (.slice (some ⟨rb, ro, none⟩) rn rc)
  c0 : w.cell? ⟨g, i * 2, none⟩ = some (.bool x.gone)
  k : Kn.At w rb ro (Sk.ke x)
  pos : 0 < rn
  rv : x.rv = .slice (some ⟨rb, ro, none⟩) rn rc
theorem Sk.RL.cell {S : Nat → Prop} {B : Nat} {w : World} {p : Nat} {v : Value} {L : List Sk.E} (h : Sk.RL S B w p v L) {i : Nat} {x : Sk.E} (hx : L[i]? = some x) :
    ∃ g c rb ro rn rc, v = .slice (some ⟨g, 0, none⟩) L.length c ∧ Sk.Cell w g i x rb ro rn rc ∧ Kn.Z (Sk.ke x) := by
  obtain ⟨⟨ra, rc, hrv, hrm, hrz, hr⟩, hne⟩ := h.rows x (List.mem_of_getElem? hx)
  rcases hr with hr | ⟨rb, ro, rfl, _, _, hr⟩
  · exact absurd hr hne
  · rcases h.own.form with ⟨_, rfl⟩ | ⟨g, c, rfl, _⟩
    · cases hx
    · have h0 := h.own.cell Sk.enc_len (g := g) rfl hx (j := 0) (by decide)
      have h1 := h.own.cell Sk.enc_len (g := g) rfl hx (j := 1) (by decide)
      obtain ⟨k, r, hk⟩ : ∃ k r, x.row = k :: r := List.exists_cons_of_ne_nil hne
      have hke : Sk.ke x = k := by unfold Sk.ke Sk.kd Sk.E.d; rw [hk]; rfl
      refine ⟨g, c, rb, ro, x.row.length, rc, rfl, ⟨?_, ?_, ?_, List.length_pos_iff.2 hne, hrv⟩, ?_⟩
      · rw [← hrv]; exact h1
      · exact h0
      · rw [hke]
        have := hr 0 k (by rw [hk]; rfl)
        simpa using this
      · rw [hke]
        exact hrz k (by rw [hk]; exact List.mem_cons_self)
theorem Sk.RL.slice {S : Nat → Prop} {B : Nat} {w : World} {p : Nat} {v : Value} {L : List Sk.E} (h : Sk.RL S B w p v L) : ∃ a c, v = .slice a L.length c := by
  rcases h.own.form with ⟨rfl, rfl⟩ | ⟨g, c, rfl, _⟩
  · exact ⟨none, 0, rfl⟩
  · exact ⟨_, c, rfl⟩
set_option maxHeartbeats 4000000 in
set_option maxRecDepth 100000 in
theorem Sk.place_c {S : Nat → Prop} {B : Nat} {w : World} {p : Nat} {v : Value} {L : List Sk.E} (h : Sk.RL S B w p v L) (k : Kn.V) (hk : Kn.Z k) (hl : L.length ≤ 1000000) :
    Calls Tryd.prog 30 #[.pointer (some ⟨p, 0, none⟩), k.val] w fun e w' => e = .returned (.tuple #[.int .i64 ((Sk.at_ Sk.ke L k : Nat) : Int), .bool (Sk.there Sk.ke L k)]) ∧ Below w.heap.size w w' := by
  obtain ⟨wb, hwb⟩ : ∃ wb, wb = w.alloc (.cells #[.bool k.null, .int .i64 k.n, .string k.s] 25) := ⟨_, rfl⟩
  have hb0 : Below w.heap.size w wb := by rw [hwb]; exact (Below.refl _ w).alloc (Nat.le_refl _) _
  have hkk : Kn.At wb w.heap.size 0 k := by rw [hwb]; exact Kn.At.new w k _
  have hsb : w.heap.size < wb.heap.size := by rw [hwb, World.size_alloc]; omega
  have hR := h.kept hb0
  obtain ⟨a, c, hv⟩ := h.slice
  have HK : Hid (∀ W, Below wb.heap.size wb W → W.cell? ⟨p, 0, none⟩ = some (.slice a L.length c) ∧ Kn.At W w.heap.size 0 k) := Lib.hid fun W g => by
    have h2 := hR.kept g
    refine ⟨?_, hkk.later g⟩
    rw [cell_of_row W p _ _ _ _ h2.blk, hv]
    rfl
  have HX : Hid (∀ W i x, Below wb.heap.size wb W → L[i]? = some x → ∃ g rb ro rn rc, a = some ⟨g, 0, none⟩ ∧ Sk.Cell W g i x rb ro rn rc ∧ Kn.Z (Sk.ke x)) := Lib.hid fun W i x g hx => by
    obtain ⟨g', c', rb, ro, rn, rc, e, hc, hz⟩ := (hR.kept g).cell hx
    rw [hv] at e
    simp only [Value.slice.injEq, true_and] at e
    exact ⟨g', rb, ro, rn, rc, e.1, hc, hz⟩
  have HLT : Hid (∀ i x, i ≤ Sk.at_ Sk.ke L k → L[i]? = some x → Kn.cmp (Sk.ke x) k < 0 → i + 1 ≤ Sk.at_ Sk.ke L k) := Lib.hid fun i x hi hx hc => by
    rcases Nat.lt_or_ge i (Sk.at_ Sk.ke L k) with h1 | h1
    · exact h1
    · obtain rfl : i = Sk.at_ Sk.ke L k := by omega
      exact absurd hc (Sk.at_ge hx)
  have HGE : Hid (∀ i x, i ≤ Sk.at_ Sk.ke L k → L[i]? = some x → 0 ≤ Kn.cmp (Sk.ke x) k → Sk.at_ Sk.ke L k = i ∧ Sk.there Sk.ke L k = !decide (Kn.cmp k (Sk.ke x) < 0)) := Lib.hid fun i x hi hx hc => by
    have e : Sk.at_ Sk.ke L k = i := by
      rcases Nat.lt_or_ge i (Sk.at_ Sk.ke L k) with h1 | h1
      · exact absurd (Sk.at_lt h1 hx) (by omega)
      · omega
    refine ⟨e, ?_⟩
    unfold Sk.there
    rw [e, hx]
  have HEND : Hid (∀ i, i ≤ Sk.at_ Sk.ke L k → i = L.length → Sk.at_ Sk.ke L k = i ∧ Sk.there Sk.ke L k = false) := Lib.hid fun i hi hil => by
    have := Sk.at_le (key := Sk.ke) L k
    have e : Sk.at_ Sk.ke L k = i := by omega
    refine ⟨e, ?_⟩
    unfold Sk.there
    rw [e, List.getElem?_eq_none (by omega)]
  have HB0 := Lib.hid hb0
  have HKZ := Lib.hid hk
  have HSB := Lib.hid hsb
  have hli : (L.length : Int) ≤ 1000000 := by omega
  generalize Sk.at_ Sk.ke L k = A at HLT HGE HEND ⊢
  generalize Sk.there Sk.ke L k = TH at HGE HEND ⊢
  obtain ⟨bk, hbk⟩ : ∃ bk, bk = w.heap.size := ⟨_, rfl⟩
  clear h hR hv hb0 hkk hsb hk hl
  go_enter Tryd.func30, Tryd.ntmps30
  go_wp2_with fail
  rw [← hwb]
  clear hwb
  go_loopw [6] (fun iv wr => ∃ i : Nat, i ≤ A ∧ i ≤ L.length ∧ iv = .int .i64 i ∧ Below wb.heap.size wb wr) (fun iv _ => L.length - (intOf iv).toNat)
  case atStart => exact ⟨0, Nat.zero_le _, Nat.zero_le _, rfl, Below.refl _ _⟩
  case round =>
    obtain ⟨i, hi, hil, rfl, hB⟩ := hrel
    have HB := Lib.hid hB
    have hi0 : (0 : Int) ≤ (i : Int) := by omega
    obtain ⟨c0, ⟨k0, k1, k2⟩⟩ := HK.out wr hB
    by_cases hlt : i < L.length
    · obtain ⟨x, hx⟩ : ∃ x, L[i]? = some x := ⟨_, List.getElem?_eq_getElem hlt⟩
      obtain ⟨g, rb, ro, rn, rc, rfl, ⟨hc, _, ⟨x0, x1, x2⟩, hpos, _⟩, hz⟩ := HX.out wr i x hB hx
      have hii : (i : Int) < (L.length : Int) := by omega
      have hrp : (0 : Int) < (rn : Int) := by omega
      have ca := Kn.rAhead_c (Sk.ke x) k hz HKZ.out
      have cb := Kn.rAhead_c k (Sk.ke x) HKZ.out hz
      have HLT' : Hid (Kn.cmp (Sk.ke x) k < 0 → i + 1 ≤ A) := Lib.hid fun hc => HLT.out i x hi hx hc
      have HGE' : Hid (0 ≤ Kn.cmp (Sk.ke x) k → A = i ∧ TH = !decide (Kn.cmp k (Sk.ke x) < 0)) := Lib.hid fun hc => HGE.out i x hi hx hc
      have HX' : Hid (∀ W, Below wb.heap.size wb W → ∃ rb ro rn rc, Sk.Cell W g i x rb ro rn rc) := Lib.hid fun W gW => by
        obtain ⟨g', rb', ro', rn', rc', e, hc', _⟩ := HX.out W i x gW hx
        simp only [Option.some.injEq, Addr.mk.injEq, and_true] at e
        subst e
        exact ⟨rb', ro', rn', rc', hc'⟩
      unfold Kn.V.val at ca cb
      by_cases hcmp : Kn.cmp (Sk.ke x) k < 0
      · rw [decide_eq_true hcmp] at ca
        have hnext := HLT'.out hcmp
        have E1 := fun d os => cell_regrown c0 d os
        have E2 := fun d os => cell_regrown hc d os
        have E3 := fun d os => cell_regrown x0 d os
        have E4 := fun d os => cell_regrown x1 d os
        have E5 := fun d os => cell_regrown x2 d os
        have E6 := fun d os => cell_regrown k0 d os
        have E7 := fun d os => cell_regrown k1 d os
        have E8 := fun d os => cell_regrown k2 d os
        have CA : Hid (∀ p : Regrown, _) := Lib.hid fun p : Regrown => Calls.regrown_of (d := p.d) (os := p.os) (w := wr) (ca _)
        clear ca cb hcmp hB HLT' HGE' HLT HGE HEND hz hx HX
        go_wp2_with fail
        refine wp_region_quiet_below (by kernel_rfl) (by kernel_rfl) ?_
        repeat (go_big_quiet_step (exact CA.out _))
        refine wpQuiet_nil ?_
        intro wq hw'
        have hbq : Below wr.heap.size wr wq := by
          obtain ⟨q, rfl⟩ := hw'
          exact below_regrown wr q.d q.os
        have HBQ := Lib.hid (HB.out.trans (hbq.mono HB.out.size))
        clear hw' hbq E1 E2 E3 E4 E5 E6 E7 E8 CA
        go_wp2
        go_roundw
        case rel => exact ⟨i + 1, hnext, by omega, by simp, HBQ.out⟩
        case measure => simp [intOf]; omega
      · rw [decide_eq_false hcmp] at ca
        obtain ⟨hA, hTH⟩ := HGE'.out (by omega)
        have E1 := fun d os => cell_regrown c0 d os
        have E2 := fun d os => cell_regrown hc d os
        have E3 := fun d os => cell_regrown x0 d os
        have E4 := fun d os => cell_regrown x1 d os
        have E5 := fun d os => cell_regrown x2 d os
        have E6 := fun d os => cell_regrown k0 d os
        have E7 := fun d os => cell_regrown k1 d os
        have E8 := fun d os => cell_regrown k2 d os
        have CA : Hid (∀ p : Regrown, _) := Lib.hid fun p : Regrown => Calls.regrown_of (d := p.d) (os := p.os) (w := wr) (ca _)
        have CB := Lib.hid cb
        have HAT := Lib.hid (And.intro hA hTH)
        clear ca cb hcmp hB HLT' HGE' HLT HGE HEND hz hx HX hA hTH
        go_wp2_with fail
        refine wp_region_quiet_below (by kernel_rfl) (by kernel_rfl) ?_
        repeat (go_big_quiet_step (exact CA.out _))
        refine wpQuiet_nil ?_
        intro wq hw'
        have hbq : Below wr.heap.size wr wq := by
          obtain ⟨q, rfl⟩ := hw'
          exact below_regrown wr q.d q.os
        have HBQ := Lib.hid (HB.out.trans (hbq.mono HB.out.size))
        clear hw' hbq E1 E2 E3 E4 E5 E6 E7 E8 CA c0 hc x0 x1 x2 k0 k1 k2
        obtain ⟨c0, ⟨k0, k1, k2⟩⟩ := HK.out wq HBQ.out
        obtain ⟨rb, ro, rn, rc, ⟨hc, _, ⟨x0, x1, x2⟩, hpos, _⟩⟩ := HX'.out wq HBQ.out
        have hrp : (0 : Int) < (rn : Int) := by omega
        have E1 := fun d os => cell_regrown c0 d os
        have E2 := fun d os => cell_regrown hc d os
        have E3 := fun d os => cell_regrown x0 d os
        have E4 := fun d os => cell_regrown x1 d os
        have E5 := fun d os => cell_regrown x2 d os
        have E6 := fun d os => cell_regrown k0 d os
        have E7 := fun d os => cell_regrown k1 d os
        have E8 := fun d os => cell_regrown k2 d os
        have CA : Hid (∀ p : Regrown, _) := Lib.hid fun p : Regrown => Calls.regrown_of (d := p.d) (os := p.os) (w := wq) (CB.out _)
        clear HX' CB
        go_wp2_with fail
        refine wp_region_quiet_below (by kernel_rfl) (by kernel_rfl) ?_
        repeat (go_big_quiet_step (exact CA.out _))
        refine wpQuiet_nil ?_
        intro wz hw'
        have hbq : Below wq.heap.size wq wz := by
          obtain ⟨q, rfl⟩ := hw'
          exact below_regrown wq q.d q.os
        have HBZ := Lib.hid (HBQ.out.trans (hbq.mono HBQ.out.size))
        clear hw' hbq E1 E2 E3 E4 E5 E6 E7 E8 CA c0 hc x0 x1 x2 k0 k1 k2
        go_wp2
        go_ret2
        exact ⟨by rw [HAT.out.1, HAT.out.2]; rfl, HB0.out.trans (HBZ.out.mono (Nat.le_of_lt HSB.out))⟩
    · obtain rfl : i = L.length := by omega
      have hii : ¬ (L.length : Int) < (L.length : Int) := by omega
      obtain ⟨hA, hTH⟩ := HEND.out _ hi rfl
      have HAT := Lib.hid (And.intro hA hTH)
      have E1 := fun d os => cell_regrown c0 d os
      clear hA hTH HLT HGE HEND HX hlt hB
      go_wp2_with fail
      refine wp_region_quiet_below (by kernel_rfl) (by kernel_rfl) ?_
      repeat (go_big_quiet_step (fail))
      refine wpQuiet_nil ?_
      intro wq hw'
      have hbq : Below wr.heap.size wr wq := by
        obtain ⟨q, rfl⟩ := hw'
        exact below_regrown wr q.d q.os
      have HBQ := Lib.hid (HB.out.trans (hbq.mono HB.out.size))
      clear hw' hbq E1 c0 k0 k1 k2
      obtain ⟨c0, _⟩ := HK.out wq HBQ.out
      have E1 := fun d os => cell_regrown c0 d os
      go_wp2_with fail
      refine wp_region_quiet_below (by kernel_rfl) (by kernel_rfl) ?_
      repeat (go_big_quiet_step (fail))
      refine wpQuiet_nil ?_
      intro wz hw'
      have hbq : Below wq.heap.size wq wz := by
        obtain ⟨q, rfl⟩ := hw'
        exact below_regrown wq q.d q.os
      have HBZ := Lib.hid (HBQ.out.trans (hbq.mono HBQ.out.size))
      clear hw' hbq E1 c0
      go_wp2
      go_ret2
      exact ⟨by rw [HAT.out.1, HAT.out.2]; rfl, HB0.out.trans (HBZ.out.mono (Nat.le_of_lt HSB.out))⟩
end Go.Proofs.YtfjhffldhpcdmaaDoor
