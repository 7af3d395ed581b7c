import Derived.Test.YtkhiemkekmdhgaaDoorZDAI
import Derived.Test.YtkhiemkekmdhgaaDoorZDAA
import Derived.Test.YtkhiemkekmdhgaaDoorZDAB
import Derived.Laws.AppendOwnNone
import Derived.OneCell
import Derived.Laws.OwnMore
import Derived.Deep.Onto
import Derived.Test.YtkhiemkekmdhgaaDoorZDAD
import Derived.Test.YtkhiemkekmdhgaaDoorZDAF
import Derived.Lib.QuietBelow
import Derived.BigQuiet
import Derived.Test.YtkhiemkekmdhgaaDoorZDAH
import Derived.Test.YtkhiemkekmdhgaaDoorZDAE
import Derived.Deep.RegionHeld3
import Derived.Deep.RegionLaw
import Derived.Deep.RegionLawGrows
namespace Go.Proofs.YtkhiemkekmdhgaaDoor.Dk
open Go
def file (fs : List (Str × Nat)) (f : Nat) : Str × Nat := fs.getD f ([], 0)
def heldL (fs : List (Str × Nat)) (l : Dir) : Nat := (l.map fun y => (file fs y.2).1.length).sum
def held (d : D) : Nat := heldL d.files d.dir
def callE (d : D) : Nat := if 0 ≤ d.halt ∧ d.halt ≤ (d.calls : Int) then 11 else if (d.calls : Int) = d.deny then 9 else 0
def tick (d : D) : D := { d with calls := d.calls + 1 }
def change (d : D) (c : Ch) : D := { d with dir := apply d.dir c, chg := d.chg ++ [c] }
def grow (d : D) : D := { d with files := d.files ++ [([], 0)] }
def put (d : D) (f : Nat) (x : Str × Nat) : D := { d with files := d.files.set f x }
def create (d : D) (n : Str) : D × Nat :=
 if callE d ≠ 0 then (tick d, callE d) else if right n = false ∨ look d.dir n ≠ none then (tick d, 12)
 else (change (grow (tick d)) ⟨n, [], (d.files.length : Int)⟩, 0)
def append (d : D) (n s : Str) : D × Nat :=
 if callE d ≠ 0 then (tick d, callE d) else match look d.dir n with
 | none => (tick d, 12)
 | some f => if d.room - (held d : Int) < (s.length : Int) then (tick d, 10) else (put (tick d) f ((file d.files f).1 ++ s, (file d.files f).2), 0)
def sync (d : D) (n : Str) : D × Nat :=
 if callE d ≠ 0 then (tick d, callE d) else match look d.dir n with
 | none => (tick d, 12)
 | some f => (put (tick d) f ((file d.files f).1, (file d.files f).1.length), 0)
def rename (d : D) (a b : Str) : D × Nat :=
 if callE d ≠ 0 then (tick d, callE d) else if look d.dir a = none ∨ right b = false ∨ a = b then (tick d, 12) else (change (tick d) ⟨a, b, 0⟩, 0)
def remove (d : D) (n : Str) : D × Nat :=
 if callE d ≠ 0 then (tick d, callE d) else if look d.dir n = none then (tick d, 12) else (change (tick d) ⟨n, [], -1⟩, 0)
def syncDir (d : D) : D × Nat :=
 if callE d ≠ 0 then (tick d, callE d) else ({ tick d with sure := d.dir, chg := [] }, 0)
def space (d : D) (n : Int) : D := { d with room := max n 0 }
def later (d : D) (n : Int) : Int := if n < 0 ∨ 1099511627776 < n then -1 else (d.calls : Int) + n
def stop (d : D) (n : Int) : D := { d with halt := later d n }
def refuse (d : D) (n : Int) : D := { d with deny := later d n }
def keepAt (keep : List Int) (i : Nat) : Int := if keep = [] then 0 else max (keep.getD (i % keep.length) 0) 0
def cutN (x : Str × Nat) (k : Int) : Nat := x.2 + min k.toNat (x.1.length - x.2)
def cut (fs : List (Str × Nat)) (f : Nat) (k : Int) : List (Str × Nat) := fs.set f ((file fs f).1.take (cutN (file fs f) k), cutN (file fs f) k)
def cuts (keep : List Int) : Nat → List (Str × Nat) → Dir → List (Str × Nat)
 | _, fs, [] => fs
 | i, fs, y :: l => cuts keep (i + 1) (cut fs y.2 (keepAt keep i)) l
def crashDir (d : D) (n : Int) : Dir := fold d.sure (d.chg.take n.toNat)
def crash (d : D) (n : Int) (keep : List Int) : D :=
 { d with files := cuts keep 0 d.files (crashDir d n), dir := crashDir d n, sure := crashDir d n, chg := [], halt := -1, deny := -1 }
def read (d : D) (n : Str) : Str × Nat := match look d.dir n with | none => ([], 12) | some f => ((file d.files f).1, 0)
def names (d : D) : List Str := d.dir.map (·.1)
structure Op where
 kind : Nat
 a : Str
 b : Str
 n : Int
 keep : List Int
def step (d : D) (o : Op) : D × Nat :=
 if o.kind = 0 then create d o.a else if o.kind = 1 then append d o.a o.b else if o.kind = 2 then sync d o.a else if o.kind = 3 then rename d o.a o.b
 else if o.kind = 4 then remove d o.a else if o.kind = 5 then syncDir d else if o.kind = 6 then (space d o.n, 0) else if o.kind = 7 then (stop d o.n, 0)
 else if o.kind = 8 then (refuse d o.n, 0) else (crash d o.n o.keep, 0)
theorem file_set (fs : List (Str × Nat)) (f g : Nat) (x : Str × Nat) (hf : f < fs.length) : file (fs.set f x) g = if f = g then x else file fs g := by
 unfold file
 rw [List.getD, List.getD, List.getElem?_set]
 by_cases h : f = g
 ·rw [if_pos h, if_pos h, if_pos hf]; rfl
 ·rw [if_neg h, if_neg h]
theorem getD_lt {fs : List (Str × Nat)} {f : Nat} (h : f < fs.length) : fs.getD f ([], 0) = fs[f] := by
 rw [List.getD, List.getElem?_eq_getElem h]
 rfl
theorem file_mem {fs : List (Str × Nat)} {f : Nat} (h : f < fs.length) : file fs f ∈ fs := by
 unfold file
 rw [getD_lt h]
 exact List.getElem_mem h
theorem mem_set {fs : List (Str × Nat)} {f : Nat} {x y : Str × Nat} (h : y ∈ fs.set f x) : y = x ∨ y ∈ fs := by
 rcases List.mem_or_eq_of_mem_set h with h | h
 ·exact .inr h
 ·exact .inl h
theorem size_set (fs : List (Str × Nat)) : ∀ (f : Nat) (x : Str × Nat), f < fs.length → size (fs.set f x) + (file fs f).1.length = size fs + x.1.length := by
 induction fs with
 | nil => intro f x h; simp at h
 | cons a fs ih =>
   intro f x h
   cases f with
   | zero =>
     have : file (a :: fs) 0 = a := rfl
     rw [this, List.set_cons_zero]
     simp only [size, List.map_cons, List.sum_cons]
     omega
   | succ f =>
     have e : file (a :: fs) (f + 1) = file fs f := rfl
     have := ih f x (by simpa using h)
     rw [e, List.set_cons_succ]
     simp only [size, List.map_cons, List.sum_cons] at this ⊢
     omega
theorem size_snoc (fs : List (Str × Nat)) (x : Str × Nat) : size (fs ++ [x]) = size fs + x.1.length := by
 simp [size]
theorem Inv.tick {d : D} (h : Inv d) : Inv (tick d) := ⟨h.chain, h.well, h.part⟩
theorem Sz.tick {n : Nat} {d : D} (h : Sz n d) : Sz (n + 1) (tick d) :=
 ⟨Nat.le_succ_of_le h.files, Nat.le_succ_of_le h.dirs, Nat.le_trans h.bytes (Nat.mul_le_mul_right _ (Nat.le_succ _)), Nat.succ_le_succ h.calls⟩
theorem Inv.change {d : D} (h : Inv d) {c : Ch} (hc : Ok d.files.length d.dir c) : Inv (change d c) := ⟨h.chain.snoc hc, h.well, h.part⟩
theorem Inv.grow {d : D} (h : Inv d) : Inv (grow d) := by
 have hl : d.files.length ≤ (d.files ++ [(([] : Str), 0)]).length := by simp
 refine ⟨h.chain.mono hl, h.well.mono hl, fun x hx => ?_⟩
 rcases List.mem_append.1 hx with hx | hx
 ·exact h.part x hx
 ·rw [List.mem_singleton.1 hx]; exact Nat.le_refl _
theorem Inv.put {d : D} (h : Inv d) (f : Nat) {x : Str × Nat} (hx : x.2 ≤ x.1.length) : Inv (put d f x) := by
 have hl : (d.files.set f x).length = d.files.length := List.length_set
 refine ⟨?_, ?_, fun y hy => ?_⟩
 ·show Chain (d.files.set f x).length _ _ _
  rw [hl]; exact h.chain
 ·show Well (d.files.set f x).length _
  rw [hl]; exact h.well
 ·rcases mem_set hy with rfl | hy
  ·exact hx
  ·exact h.part y hy
theorem Inv.dirlt {d : D} (h : Inv d) {n : Str} {f : Nat} (hf : look d.dir n = some f) : f < d.files.length := h.dir.lim _ ((look_some h.dir.asc).1 hf)
theorem Inv.file {d : D} (h : Inv d) (f : Nat) : (file d.files f).2 ≤ (file d.files f).1.length := by
 by_cases hf : f < d.files.length
 ·exact h.part _ (file_mem hf)
 ·unfold Dk.file
  rw [List.getD, List.getElem?_eq_none (by omega)]
  exact Nat.le_refl _
theorem right_ne {b : Str} (h : right b ≠ false) : b ≠ [] := fun e => by rw [e] at h; exact h rfl
theorem Inv.create {d : D} (h : Inv d) (n : Str) : Inv (create d n).1 := by
 unfold Dk.create
 split
 ·exact h.tick
 ·split
  ·exact h.tick
  ·next hn =>
   refine Inv.change h.tick.grow ?_
   have h2 : look d.dir n = none := by
    cases hl : look d.dir n with
    | none => rfl
    | some f => exact absurd (Or.inr (by rw [hl]; simp)) hn
   unfold Ok
   rw [if_neg (by simp), if_neg (by simp)]
   refine ⟨h2, ?_, fun y hy e => ?_⟩
   ·show (Int.toNat (d.files.length : Int)) < (d.files ++ [(([] : Str), 0)]).length
    simp
   ·have h3 := h.dir.lim y hy
    simp only [Int.toNat_natCast] at e
    omega
set_option maxRecDepth 100000 in
theorem Sz.create {k : Nat} {d : D} (h : Sz k d) (n : Str) : Sz (k + 1) (create d n).1 := by
 unfold Dk.create
 split
 ·exact h.tick
 ·split
  ·exact h.tick
  ·have := h.files
   have := h.dirs
   have := h.bytes
   have := h.calls
   refine ⟨?_, ?_, ?_, ?_⟩
   ·show (d.files ++ [(([] : Str), 0)]).length ≤ _
    simp; omega
   ·show d.sure.length + (d.chg ++ [_]).length ≤ _
    simp; omega
   ·exact Nat.le_trans (Nat.le_of_eq (size_snoc d.files ([], 0))) (Nat.le_trans h.bytes (Nat.mul_le_mul_right _ (Nat.le_succ k)))
   ·show d.calls + 1 ≤ _
    omega
theorem Inv.append {d : D} (h : Inv d) (n s : Str) : Inv (append d n s).1 := by
 unfold Dk.append
 split
 ·exact h.tick
 ·split
  ·exact h.tick
  ·next f hf =>
   split
   ·exact h.tick
   ·refine Inv.put h.tick f ?_
    have := h.file f
    rw [List.length_append]
    omega
set_option maxRecDepth 100000 in
theorem Sz.put {k : Nat} {d : D} (h : Sz k d) {f : Nat} {x : Str × Nat} (hf : f < d.files.length) (hx : x.1.length ≤ (file d.files f).1.length + 1048576) : Sz (k + 1) (Dk.put (Dk.tick d) f x) := by
 have := h.files
 have := h.dirs
 have := h.bytes
 have := h.calls
 refine ⟨?_, ?_, ?_, ?_⟩
 ·show (d.files.set f x).length ≤ _
  rw [List.length_set]; omega
 ·show d.sure.length + d.chg.length ≤ _
  omega
 ·show size (d.files.set f x) ≤ _
  have := size_set d.files f x hf
  omega
 ·show d.calls + 1 ≤ _
  omega
theorem Sz.append {k : Nat} {d : D} (h : Sz k d) (hi : Inv d) (n s : Str) (hs : s.length ≤ 1048576) : Sz (k + 1) (append d n s).1 := by
 unfold Dk.append
 split
 ·exact h.tick
 ·split
  ·exact h.tick
  ·next f hf =>
   split
   ·exact h.tick
   ·exact h.put (hi.dirlt hf) (by rw [List.length_append]; omega)
theorem Inv.sync {d : D} (h : Inv d) (n : Str) : Inv (sync d n).1 := by
 unfold Dk.sync
 split
 ·exact h.tick
 ·split
  ·exact h.tick
  ·next f hf => exact Inv.put h.tick f (Nat.le_refl _)
theorem Sz.sync {k : Nat} {d : D} (h : Sz k d) (hi : Inv d) (n : Str) : Sz (k + 1) (sync d n).1 := by
 unfold Dk.sync
 split
 ·exact h.tick
 ·split
  ·exact h.tick
  ·next f hf => exact h.put (hi.dirlt hf) (Nat.le_add_right _ _)
theorem Inv.rename {d : D} (h : Inv d) (a b : Str) : Inv (rename d a b).1 := by
 unfold Dk.rename
 split
 ·exact h.tick
 ·split
  ·exact h.tick
  ·next hn =>
   refine Inv.change h.tick ?_
   unfold Ok
   rw [if_pos (right_ne fun e => hn (.inr (.inl e)))]
   cases hl : look d.dir a with
   | none => exact absurd (Or.inl hl) hn
   | some f => exact ⟨f, hl, fun e => hn (.inr (.inr e))⟩
set_option maxRecDepth 100000 in
theorem Sz.change {k : Nat} {d : D} (h : Sz k d) (c : Ch) : Sz (k + 1) (Dk.change (Dk.tick d) c) := by
 have := h.files
 have := h.dirs
 have := h.bytes
 have := h.calls
 refine ⟨?_, ?_, ?_, ?_⟩
 ·show d.files.length ≤ _
  omega
 ·show d.sure.length + (d.chg ++ [c]).length ≤ _
  simp; omega
 ·exact Nat.le_trans h.bytes (Nat.mul_le_mul_right _ (Nat.le_succ k))
 ·show d.calls + 1 ≤ _
  omega
theorem Sz.rename {k : Nat} {d : D} (h : Sz k d) (a b : Str) : Sz (k + 1) (rename d a b).1 := by
 unfold Dk.rename
 split
 ·exact h.tick
 ·split
  ·exact h.tick
  ·exact h.change _
theorem Inv.remove {d : D} (h : Inv d) (n : Str) : Inv (remove d n).1 := by
 unfold Dk.remove
 split
 ·exact h.tick
 ·split
  ·exact h.tick
  ·next hn =>
   refine Inv.change h.tick ?_
   unfold Ok
   rw [if_neg (by simp), if_pos (by simp)]
   cases hl : look d.dir n with
   | none => exact absurd hl hn
   | some f => exact ⟨f, hl⟩
theorem Sz.remove {k : Nat} {d : D} (h : Sz k d) (n : Str) : Sz (k + 1) (remove d n).1 := by
 unfold Dk.remove
 split
 ·exact h.tick
 ·split
  ·exact h.tick
  ·exact h.change _
theorem Inv.syncDir {d : D} (h : Inv d) : Inv (syncDir d).1 := by
 unfold Dk.syncDir
 split
 ·exact h.tick
 ·exact ⟨rfl, h.dir, h.part⟩
theorem Sz.syncDir {k : Nat} {d : D} (h : Sz k d) (hi : Inv d) : Sz (k + 1) (syncDir d).1 := by
 unfold Dk.syncDir
 split
 ·exact h.tick
 ·have := h.dir hi
  have := h.tick
  exact ⟨this.files, by show d.dir.length + 0 ≤ _; omega, this.bytes, this.calls⟩
theorem length_cuts (keep : List Int) : ∀ (l : Dir) (i : Nat) (fs : List (Str × Nat)), (cuts keep i fs l).length = fs.length
 | [], _, _ => rfl
 | y :: l, i, fs => by
   have := length_cuts keep l (i + 1) (cut fs y.2 (keepAt keep i))
   rw [show cuts keep i fs (y :: l) = cuts keep (i + 1) (cut fs y.2 (keepAt keep i)) l from rfl, this]
   exact List.length_set
structure Left (x y : Str × Nat) : Prop where
 take : y.1 = x.1.take y.1.length
 le : y.1.length ≤ x.1.length
 least : x.2 ≤ y.1.length
 sure : x.2 ≤ y.2
 part : y.2 ≤ y.1.length
theorem Left.refl {x : Str × Nat} (h : x.2 ≤ x.1.length) : Left x x := ⟨by rw [List.take_length], Nat.le_refl _, h, Nat.le_refl _, h⟩
theorem Left.trans {x y z : Str × Nat} (h : Left x y) (g : Left y z) : Left x z :=
 ⟨by
  have h1 := g.take
  rw [h.take, List.take_take, Nat.min_eq_left g.le] at h1
  exact h1, Nat.le_trans g.le h.le, by have := g.least; have := h.sure; omega, Nat.le_trans h.sure g.sure, g.part⟩
theorem cut_left {x : Str × Nat} (h : x.2 ≤ x.1.length) (k : Int) : Left x (x.1.take (cutN x k), cutN x k) := by
 have hn : cutN x k ≤ x.1.length ∧ x.2 ≤ cutN x k := by unfold cutN; omega
 have hl : (x.1.take (cutN x k)).length = cutN x k := by rw [List.length_take]; omega
 exact ⟨by show _ = _; rw [hl], by show (x.1.take (cutN x k)).length ≤ _; omega, by show _ ≤ (x.1.take (cutN x k)).length; omega, hn.2, by show _ ≤ (x.1.take (cutN x k)).length; omega⟩
theorem cuts_left (keep : List Int) : ∀ (l : Dir) (i : Nat) (fs : List (Str × Nat)), (∀ f, (file fs f).2 ≤ (file fs f).1.length) → (∀ y ∈ l, y.2 < fs.length) →
 (∀ f, Left (file fs f) (file (cuts keep i fs l) f)) ∧ ∀ y ∈ l, (file (cuts keep i fs l) y.2).2 = (file (cuts keep i fs l) y.2).1.length := by
 intro l
 induction l with
 | nil => exact fun i fs h _ => ⟨fun f => Left.refl (h f), by simp⟩
 | cons a l ih =>
   intro i fs h hl
   have hc : ∀ f, Left (file fs f) (file (cut fs a.2 (keepAt keep i)) f) := fun f => by
    unfold cut
    rw [file_set _ _ _ _ (hl a List.mem_cons_self)]
    by_cases e : a.2 = f
    ·rw [if_pos e, e]; exact cut_left (h f) _
    ·rw [if_neg e]; exact Left.refl (h f)
   obtain ⟨h1, h2⟩ := ih (i + 1) (cut fs a.2 (keepAt keep i)) (fun f => (hc f).part) (fun y hy => by unfold cut; rw [List.length_set]; exact hl y (List.mem_cons_of_mem _ hy))
   refine ⟨fun f => (hc f).trans (h1 f), fun y hy => ?_⟩
   rcases List.mem_cons.1 hy with rfl | hy
   ·have h3 := h1 y.2
    have h4 : (file (cut fs y.2 (keepAt keep i)) y.2).2 = (file (cut fs y.2 (keepAt keep i)) y.2).1.length := by
     unfold cut
     rw [file_set _ _ _ _ (hl y List.mem_cons_self), if_pos rfl]
     rw [List.length_take]
     have := h y.2
     unfold cutN
     omega
    have := h3.sure
    have := h3.part
    have := h3.le
    show (file (cuts keep (i + 1) (cut fs y.2 (keepAt keep i)) l) y.2).2 = (file (cuts keep (i + 1) (cut fs y.2 (keepAt keep i)) l) y.2).1.length
    omega
   ·exact h2 y hy
theorem size_le {fs gs : List (Str × Nat)} (hl : fs.length = gs.length) (h : ∀ f, (file fs f).1.length ≤ (file gs f).1.length) : size fs ≤ size gs := by
 induction fs generalizing gs with
 | nil => exact Nat.zero_le _
 | cons a fs ih =>
   cases gs with
   | nil => simp at hl
   | cons b gs =>
     have h0 : a.1.length ≤ b.1.length := h 0
     have := ih (gs := gs) (by simpa using hl) fun f => h (f + 1)
     simp only [size, List.map_cons, List.sum_cons] at this ⊢
     omega
theorem Inv.crashDir {d : D} (h : Inv d) (n : Int) : Well d.files.length (Dk.crashDir d n) := (h.chain.take n.toNat).well h.well
theorem Inv.crash {d : D} (h : Inv d) (n : Int) (keep : List Int) : Inv (Dk.crash d n keep) := by
 have hw := h.crashDir n
 obtain ⟨h1, _⟩ := cuts_left keep (Dk.crashDir d n) 0 d.files h.file hw.lim
 have hl := length_cuts keep (Dk.crashDir d n) 0 d.files
 refine ⟨rfl, ?_, fun x hx => ?_⟩
 ·show Well (cuts keep 0 d.files (Dk.crashDir d n)).length (Dk.crashDir d n)
  rw [hl]; exact hw
 ·obtain ⟨f, hf, e⟩ := List.getElem_of_mem hx
  have := (h1 f).part
  have e2 : Dk.file (cuts keep 0 d.files (Dk.crashDir d n)) f = x := by
   exact (getD_lt (fs := cuts keep 0 d.files (Dk.crashDir d n)) hf).trans e
  rwa [e2] at this
set_option maxRecDepth 100000 in
theorem Sz.crash {k : Nat} {d : D} (h : Sz k d) (hi : Inv d) (n : Int) (keep : List Int) : Sz k (Dk.crash d n keep) := by
 have hl := length_cuts keep (Dk.crashDir d n) 0 d.files
 obtain ⟨h1, _⟩ := cuts_left keep (Dk.crashDir d n) 0 d.files hi.file (hi.crashDir n).lim
 have hlen := len_fold (d.chg.take n.toNat) d.sure
 have := h.dirs
 have := h.bytes
 have hs := size_le hl fun f => (h1 f).le
 refine ⟨?_, ?_, ?_, h.calls⟩
 ·show (cuts keep 0 d.files (Dk.crashDir d n)).length ≤ k
  rw [hl]; exact h.files
 ·show (Dk.crashDir d n).length + 0 ≤ k
  rw [List.length_take] at hlen
  unfold Dk.crashDir
  omega
 ·show size (cuts keep 0 d.files (Dk.crashDir d n)) ≤ _
  omega
theorem Inv.step {d : D} (h : Inv d) (o : Op) : Inv (step d o).1 := by
 unfold Dk.step
 repeat' split
 ·exact h.create _
 ·exact h.append _ _
 ·exact h.sync _
 ·exact h.rename _ _
 ·exact h.remove _
 ·exact h.syncDir
 ·exact ⟨h.chain, h.well, h.part⟩
 ·exact ⟨h.chain, h.well, h.part⟩
 ·exact ⟨h.chain, h.well, h.part⟩
 ·exact h.crash _ _
theorem Sz.step {k : Nat} {d : D} (h : Sz k d) (hi : Inv d) (o : Op) (hb : o.b.length ≤ 1048576) : Sz (k + 1) (step d o).1 := by
 have hm := h.mono (Nat.le_succ k)
 unfold Dk.step
 repeat' split
 ·exact h.create _
 ·exact h.append hi _ _ hb
 ·exact h.sync hi _
 ·exact h.rename _ _
 ·exact h.remove _
 ·exact h.syncDir hi
 ·exact ⟨hm.files, hm.dirs, hm.bytes, hm.calls⟩
 ·exact ⟨hm.files, hm.dirs, hm.bytes, hm.calls⟩
 ·exact ⟨hm.files, hm.dirs, hm.bytes, hm.calls⟩
 ·exact hm.crash hi _ _
def new (n : Int) : D := ⟨[], [], [], [], max n 0, -1, -1, 0⟩
theorem Inv.new (n : Int) : Inv (new n) := ⟨rfl, Well.nil _, by simp [Dk.new]⟩
theorem Sz.new (n : Int) : Sz 0 (new n) := ⟨Nat.le_refl _, Nat.le_refl _, Nat.le_refl _, Nat.le_refl _⟩
end Go.Proofs.YtkhiemkekmdhgaaDoor.Dk
namespace Go.Proofs.YtkhiemkekmdhgaaDoor
open Go.RowKit
section
variable {α : Type}
theorem Dk.flat_len {k : Nat} {enc : α → List Value} (he : ∀ x, (enc x).length = k) : ∀ L : List α, (L.flatMap enc).length = L.length * k
 | [] => by simp
 | x :: L => by
   have := Dk.flat_len he L
   rw [List.flatMap_cons, List.length_append, this, he, List.length_cons, Nat.succ_mul]
   omega
theorem Dk.flat_get {k : Nat} {enc : α → List Value} (he : ∀ x, (enc x).length = k) : ∀ (L : List α) (i j : Nat) (x : α), L[i]? = some x → j < k → (L.flatMap enc)[i * k + j]? = (enc x)[j]?
 | [], _, _, _, h, _ => by cases h
 | y :: L, 0, j, x, h, hj => by
   obtain rfl : y = x := by simpa using h
   rw [List.flatMap_cons, Nat.zero_mul, Nat.zero_add, List.getElem?_append_left (by rw [he]; exact hj)]
 | y :: L, i + 1, j, x, h, hj => by
   have ih := Dk.flat_get he L i j x (by simpa using h) hj
   have e : (i + 1) * k + j = (enc y).length + (i * k + j) := by rw [he, Nat.succ_mul]; omega
   rw [List.flatMap_cons, e, List.getElem?_append_right (Nat.le_add_right _ _), Nat.add_sub_cancel_left]
   exact ih
theorem Dk.flat_set {k : Nat} {enc : α → List Value} (he : ∀ x, (enc x).length = k) (L : List α) (i : Nat) (x y : α) (hi : L[i]? = some x) (j : Nat) (hj : j < k) (u : Value) (hy : enc y = (enc x).set j u) :
 (L.flatMap enc).set (i * k + j) u = (L.set i y).flatMap enc := by
 have hil : i < L.length := by
  rcases Nat.lt_or_ge i L.length with h | h
  ·exact h
  ·rw [List.getElem?_eq_none h] at hi; cases hi
 have hlen : (L.flatMap enc).length = L.length * k := Dk.flat_len he L
 have hm : i * k + j < L.length * k := by
  have := Nat.mul_le_mul_right k hil
  rw [Nat.succ_mul] at this
  omega
 refine List.ext_getElem? fun q => ?_
 by_cases hq : q < L.length * k
 ·have hk : 0 < k := by omega
  obtain ⟨a, b, hb, e⟩ : ∃ a b, b < k ∧ q = a * k + b := ⟨q / k, q % k, Nat.mod_lt _ hk, by rw [Nat.mul_comm]; exact (Nat.div_add_mod q k).symm⟩
  have ha : a < L.length := by
   rcases Nat.lt_or_ge a L.length with h | h
   ·exact h
   ·have := Nat.mul_le_mul_right k h; omega
  rw [e, Dk.flat_get he (L.set i y) a b (if i = a then y else L[a]) (by
   rw [List.getElem?_set]
   by_cases h : i = a
   ·rw [if_pos h, if_pos h, if_pos (by omega)]
   ·rw [if_neg h, if_neg h, List.getElem?_eq_getElem ha]) hb, List.getElem?_set]
  have hx : L[a]? = some L[a] := List.getElem?_eq_getElem ha
  by_cases h : i = a
  ·subst h
   rw [if_pos rfl, hy, List.getElem?_set]
   rw [hi] at hx
   have hxe := Option.some.inj hx
   by_cases hjb : j = b
   ·subst hjb
    rw [if_pos rfl, if_pos rfl, if_pos (by rw [hlen]; exact hm), if_pos (by rw [he]; exact hj)]
   ·rw [if_neg (by omega), if_neg hjb]
    exact Dk.flat_get he L i b x hi hb
  ·rw [if_neg h, if_neg (fun e2 => by
    have h1 : i * k + j = a * k + b := e2
    rcases Nat.lt_or_gt_of_ne h with h2 | h2
    ·have := Nat.mul_le_mul_right k h2; rw [Nat.succ_mul] at this; omega
    ·have := Nat.mul_le_mul_right k h2; rw [Nat.succ_mul] at this; omega)]
   exact Dk.flat_get he L a b _ hx hb
 ·rw [List.getElem?_eq_none (by rw [List.length_set, hlen]; omega), List.getElem?_eq_none (by rw [Dk.flat_len he, List.length_set]; omega)]
def Dk.Own (e : TypeId) (k : Nat) (enc : α → List Value) (base : Nat) (w : World) (v : Value) (L : List α) : Prop := w.ownsRow base e k v L.length (L.flatMap enc)
def Dk.At (P : Nat → Prop) (e : TypeId) (k : Nat) (enc : α → List Value) (w : World) (v : Value) (L : List α) : Prop :=
 ∃ a c, v = .slice a L.length c ∧ L.length ≤ c ∧ ((L = [] ∧ (a = none → c = 0)) ∨ ∃ b o cs fr, a = some ⟨b, o, none⟩ ∧ P b ∧ w.heap[b]? = some (.cells cs e fr) ∧ ∀ i j x, L[i]? = some x → j < k → w.cell? ⟨b, o + i * k + j, none⟩ = (enc x)[j]?)
theorem Dk.addr_add (b o i : Nat) : (⟨b, o, none⟩ : Addr).add i = ⟨b, o + i, none⟩ := by unfold Addr.add; split <;> simp_all
variable {P P' : Nat → Prop} {e : TypeId} {k : Nat} {enc : α → List Value}
theorem Dk.Own.nil (base : Nat) (w : World) : Dk.Own e k enc base w (.slice none 0 0) ([] : List α) := World.ownsRow_nil w base _ k
theorem Dk.Own.base_le {base : Nat} {w : World} {v : Value} {L : List α} (h : Dk.Own e k enc base w v L) : ∀ b, v.ownBlock = some b → base ≤ b := fun b hb => (World.ownsRow.lt h b hb).1
theorem Dk.Own.lt {base : Nat} {w : World} {v : Value} {L : List α} (h : Dk.Own e k enc base w v L) : ∀ b, v.ownBlock = some b → b < w.heap.size := fun b hb => (World.ownsRow.lt h b hb).2
theorem Dk.Own.typed {base : Nat} {w : World} {v : Value} {L : List α} (h : Dk.Own e k enc base w v L) : ∀ b, v.ownBlock = some b → ∃ cs, w.heap[b]? = some (.cells cs e (0, 0)) := by
 intro b hb
 rcases h.2 with ⟨rfl, _⟩ | ⟨g, cap, cur, rfl, _, hg, _⟩
 ·cases hb
 ·have : g = b := by simpa [Value.ownBlock] using hb
  subst this
  exact ⟨cur, hg⟩
theorem Dk.Own.same {base : Nat} {w w' : World} {v : Value} {L : List α} (h : Dk.Own e k enc base w v L) (g : ∀ b, v.ownBlock = some b → w'.heap[b]? = w.heap[b]?) : Dk.Own e k enc base w' v L := by
 refine ⟨h.1, ?_⟩
 rcases h.2 with hn | ⟨b, cap, cur, rfl, hbb, hgg, rest⟩
 ·exact .inl hn
 ·exact .inr ⟨b, cap, cur, rfl, hbb, by rw [g b rfl]; exact hgg, rest⟩
theorem Dk.Own.kept {base : Nat} {w w' : World} {v : Value} {L : List α} (h : Dk.Own e k enc base w v L) (g : Below w.heap.size w w') : Dk.Own e k enc base w' v L :=
 h.same fun b hb => g.block b (h.lt b hb)
theorem Dk.Own.form {base : Nat} {w : World} {v : Value} {L : List α} (h : Dk.Own e k enc base w v L) : (v = .slice none 0 0 ∧ L = []) ∨ ∃ g c, v = .slice (some ⟨g, 0, none⟩) L.length c ∧ L.length ≤ c ∧ c ≤ maxLen ∧ base ≤ g ∧ g < w.heap.size := by
 rcases h.2 with ⟨e1, e0⟩ | ⟨g, cap, cur, e1, hbg, hgg, hcap, hm, _⟩
 ·exact .inl ⟨e1, List.eq_nil_of_length_eq_zero e0⟩
 ·exact .inr ⟨g, cap, e1, hcap, hm, hbg, (Array.getElem?_eq_some_iff.1 hgg).1⟩
theorem Dk.Own.cell (he : ∀ x, (enc x).length = k) {base : Nat} {w : World} {v : Value} {L : List α} (h : Dk.Own e k enc base w v L) {g : Nat} (hv : v.ownBlock = some g) {i j : Nat} {x : α} (hi : L[i]? = some x) (hj : j < k) : w.cell? ⟨g, i * k + j, none⟩ = (enc x)[j]? := by
 have hx : (enc x)[j]? = some ((enc x)[j]'(by rw [he]; exact hj)) := List.getElem?_eq_getElem _
 have := World.ownsRow.cells h hv (i * k + j) _ ((Dk.flat_get he L i j x hi hj).trans hx)
 rw [Dk.addr_add, Nat.zero_add] at this
 rw [this, hx]
theorem Dk.Own.at (he : ∀ x, (enc x).length = k) {base : Nat} {w : World} {v : Value} {L : List α} (h : Dk.Own e k enc base w v L) : Dk.At (fun b => base ≤ b ∧ b < w.heap.size) e k enc w v L := by
 rcases h.form with ⟨rfl, rfl⟩ | ⟨g, c, rfl, hc, _, hb, hg⟩
 ·exact ⟨none, 0, rfl, Nat.le_refl _, .inl ⟨rfl, fun _ => rfl⟩⟩
 ·obtain ⟨cs, hcs⟩ := h.typed g rfl
  refine ⟨_, c, rfl, hc, .inr ⟨g, 0, cs, (0, 0), rfl, ⟨hb, hg⟩, hcs, fun i j x hi hj => ?_⟩⟩
  rw [Nat.zero_add]
  exact h.cell he rfl hi hj
theorem Dk.At.same {w w' : World} {v : Value} {L : List α} (h : Dk.At P e k enc w v L) (g : ∀ b, P b → w'.heap[b]? = w.heap[b]?) : Dk.At P e k enc w' v L := by
 obtain ⟨a, c, hv, hc, h⟩ := h
 refine ⟨a, c, hv, hc, ?_⟩
 rcases h with h | ⟨b, o, cs, fr, ha, hP, hb, h⟩
 ·exact .inl h
 ·refine .inr ⟨b, o, cs, fr, ha, hP, (g b hP).trans hb, fun i j x hi hj => ?_⟩
  rw [← h i j x hi hj]
  exact World.cell?_of_block (g b hP)
theorem Dk.At.imp {w : World} {v : Value} {L : List α} (h : Dk.At P e k enc w v L) (g : ∀ b, P b → P' b) : Dk.At P' e k enc w v L := by
 obtain ⟨a, c, hv, hc, h⟩ := h
 refine ⟨a, c, hv, hc, ?_⟩
 rcases h with h | ⟨b, o, cs, fr, ha, hP, hb, h⟩
 ·exact .inl h
 ·exact .inr ⟨b, o, cs, fr, ha, g b hP, hb, h⟩
theorem Dk.At.alive {w : World} {v : Value} {L : List α} (h : Dk.At P e k enc w v L) : Dk.At (fun b => P b ∧ b < w.heap.size) e k enc w v L := by
 obtain ⟨a, c, hv, hc, h⟩ := h
 refine ⟨a, c, hv, hc, ?_⟩
 rcases h with h | ⟨b, o, cs, fr, ha, hP, hb, h⟩
 ·exact .inl h
 ·exact .inr ⟨b, o, cs, fr, ha, ⟨hP, lt_of_block hb⟩, hb, h⟩
theorem Dk.At.kept {w w' : World} {v : Value} {L : List α} (h : Dk.At P e k enc w v L) (g : Below w.heap.size w w') : Dk.At P e k enc w' v L :=
 ((h.alive).same fun b hb => g.block b hb.2).imp fun _ hb => hb.1
theorem Dk.At.nil (w : World) : Dk.At P e k enc w (.slice none 0 0) ([] : List α) := ⟨none, 0, rfl, Nat.le_refl _, .inl ⟨rfl, fun _ => rfl⟩⟩
def Dk.Src (enc : α → List Value) (w : World) (u : Value) (K : List α) : Prop :=
 (u = .slice none 0 0 ∧ K = []) ∨ ∃ ad c, u = .slice (some ad) K.length c ∧ ∀ j y, (K.flatMap enc)[j]? = some y → w.cell? (ad.add j) = some y
theorem Dk.append_many {Pr : Program} (T : TypeId) (z : Value) (by_ : Nat) (hT : Pr.underlying T = some (.slice e)) (hinfo : (Pr.info? e).map (fun i => (i.zero, i.size, i.bytes)) = some (some z, k, by_)) (hz : z.cells.size = k) (hk : 0 < k)
 (he : ∀ x, (enc x).length = k) (hone : ∀ x, ∀ u ∈ enc x, u.oneCell' = true) {base : Nat} {w0 : World} {v : Value} {M K : List α} (hown : Dk.Own e k enc base w0 v M) (hb : base ≤ w0.heap.size)
 (hl : (M.length + K.length) * by_ ≤ 140737488355328) (hl2 : M.length + K.length ≤ 140737488355328) {u : Value} (hu : Dk.Src enc w0 u K) (ty : TypeId) :
 ∃ v' w', (Builtin.append_ #[T, T] ty #[v, u]).run Pr w0 = .ok v' w' ∧ Dk.Own e k enc base w' v' (M ++ K) ∧ Ty.Grew w0 w' v v' := by
 obtain ⟨i0, hi, hz0, hz1, hz2⟩ := info_parts hinfo
 rcases hu with ⟨rfl, rfl⟩ | ⟨ad, c, rfl, hK⟩
 ·exact ⟨v, w0, run_append_owned_none (P := Pr) w0 base T ty e i0 k hT hi v _ _ hown, by rw [List.append_nil]; exact hown, Ty.Grew.refl _ _⟩
 ·obtain ⟨v', w', hr, h1, h2⟩ := Ty.append_tight (P := Pr) w0 base T ty e i0 _ k by_ hT hi hz0 hz1 hz2 hz hk v M.length (M.flatMap enc) hown ad K.length c (K.flatMap enc) (Dk.flat_len he K) hK (fun y hy => by
   obtain ⟨x, _, hx⟩ := List.mem_flatMap.1 hy
   exact hone x y hx) (by unfold maxLen; omega) hl hb
  refine ⟨v', w', hr, ?_, h2⟩
  unfold Dk.Own
  rw [List.length_append, List.flatMap_append]
  exact h1
theorem Dk.wpList_append {Pr : Program} (T : TypeId) (z : Value) (by_ : Nat) (hT : Pr.underlying T = some (.slice e)) (hinfo : (Pr.info? e).map (fun i => (i.zero, i.size, i.bytes)) = some (some z, k, by_)) (hz : z.cells.size = k) (hk : 0 < k)
 (he : ∀ x, (enc x).length = k) (hone : ∀ x, ∀ u ∈ enc x, u.oneCell' = true) {base : Nat} {w0 : World} {v : Value} {M : List α} (K : List α) (hown : Dk.Own e k enc base w0 v M) (hb : base ≤ w0.heap.size)
 (hl : (M.length + K.length) * by_ ≤ 140737488355328) (hl2 : M.length + K.length ≤ 140737488355328) {u : Value} (hu : Dk.Src enc w0 u K)
 {ops : Array Oper} {rest : List Oper} {o : Oper} {a : Act} {Q : Exit → Act → World → Prop} (s x : Operand) (hgd : Region.wanted o (yielded ops a.tmps) = true)
 (ho : o.op = .call { callee := .builtin .append, args := #[s, x], argTypes := #[T, T] })
 (hs : a.eval s = v) (hx : a.eval x = u)
 (h : ∀ v' w', Dk.Own e k enc base w' v' (M ++ K) → Ty.Grew w0 w' v v' → wpList Pr ops Q rest (a.put o.dst v') w') :
 wpList Pr ops Q (o :: rest) a w0 := by
 refine wpList_step fun Kx hKx => ?_
 rw [if_pos hgd]
 obtain ⟨v', w', hr, h2, h3⟩ := Dk.append_many (Pr := Pr) T z by_ hT hinfo hz hk he hone hown hb hl hl2 hu o.type
 unfold Oper.wp execOp
 simp only [ho, resolve, invoke, builtin, Sem.run_bind, Sem.run_pure, Result.andThen_ok, List.map_toArray, List.map_cons, List.map_nil, hs, hx, hr]
 exact hKx _ _ (h v' w' h2 h3)
theorem Dk.src_one (w : World) (x : α) (cs : Array Value) (hcs : cs = (enc x).toArray) (t : TypeId) : Dk.Src enc (w.alloc (.cells cs t)) (.slice (some ⟨w.heap.size, 0, none⟩) 1 1) [x] := by
 refine .inr ⟨⟨w.heap.size, 0, none⟩, 1, rfl, fun j y hj => ?_⟩
 rw [Dk.addr_add, Nat.zero_add]
 have e1 : ([x].flatMap enc) = enc x := by simp
 rw [e1] at hj
 have hn := heap_alloc_new w (.cells cs t)
 simp only [World.cell?, hn]
 subst hcs
 simpa using hj
theorem Dk.wpList_append1 {Pr : Program} (T : TypeId) (z : Value) (by_ : Nat) (hT : Pr.underlying T = some (.slice e)) (hinfo : (Pr.info? e).map (fun i => (i.zero, i.size, i.bytes)) = some (some z, k, by_)) (hz : z.cells.size = k) (hk : 0 < k)
 (he : ∀ x, (enc x).length = k) (hone : ∀ x, ∀ u ∈ enc x, u.oneCell' = true) {base : Nat} {w0 : World} {v : Value} {M : List α} (x : α) (hown : Dk.Own e k enc base w0 v M) (hb : base ≤ w0.heap.size)
 (hl : (M.length + 1) * by_ ≤ 140737488355328) (hl2 : M.length + 1 ≤ 140737488355328) (q : Nat) (hq : q = w0.heap.size) (cs : Array Value) (hcs : cs = (enc x).toArray)
 {ops : Array Oper} {rest : List Oper} {o : Oper} {a : Act} {Q : Exit → Act → World → Prop} (s y : Operand) (hgd : Region.wanted o (yielded ops a.tmps) = true)
 (ho : o.op = .call { callee := .builtin .append, args := #[s, y], argTypes := #[T, T] })
 (hs : a.eval s = v) (hx : a.eval y = .slice (some ⟨q, 0, none⟩) 1 1)
 (h : ∀ v' w', Dk.Own e k enc base w' v' (M ++ [x]) → Ty.Grew w0 w' v v' → wpList Pr ops Q rest (a.put o.dst v') w') :
 wpList Pr ops Q (o :: rest) a (w0.alloc (.cells cs e)) := by
 subst hq
 exact Dk.wpList_append T z by_ hT hinfo hz hk he hone [x] (World.ownsRow.alloc hown _) (by rw [World.size_alloc]; omega) hl hl2 (Dk.src_one w0 x cs hcs e) s y hgd ho hs hx fun v' w' h1 h2 => h v' w' h1 (h2.behind _)
theorem Dk.Own.set (he : ∀ x, (enc x).length = k) {base : Nat} {w : World} {v : Value} {L : List α} (h : Dk.Own e k enc base w v L) {g : Nat} (hv : v.ownBlock = some g) {i j : Nat} {x : α} (hi : L[i]? = some x) (hj : j < k) (u : Value) (y : α) (hy : enc y = (enc x).set j u) :
 Dk.Own e k enc base (w.setCell ⟨g, i * k + j, none⟩ u) v (L.set i y) := by
 rcases h.form with ⟨rfl, rfl⟩ | ⟨g', c, rfl, hc, _, hb, hg⟩
 ·cases hi
 ·have : g' = g := by simpa [Value.ownBlock] using hv
  subst this
  have := (World.ownsRow.stored h (i * k + j) u).1
  rw [Dk.flat_set he L i x y hi j hj u hy] at this
  unfold Dk.Own
  rw [List.length_set]
  exact this
end
end Go.Proofs.YtkhiemkekmdhgaaDoor
namespace Go.Proofs.YtkhiemkekmdhgaaDoor
open Go.RowKit
def Bk.sv (x : Option Addr × Nat × Nat) : Value := .slice x.1 x.2.1 x.2.2
def Bk.e1 (x : Option Addr × Nat × Nat) : List Value := [Bk.sv x]
structure Bk.Dr (w : World) (v : Value) (L : List Dd.D) (R : Nat → Option Addr × Nat × Nat) : Prop where
 is : ∃ a c, v = .slice a L.length c ∧ (L = [] ∨ ∃ b o, a = some ⟨b, o, none⟩ ∧ b < w.heap.size ∧
  ∀ i x, L[i]? = some x → w.cell? ⟨b, o + i * 2, none⟩ = some (.bool x.gone) ∧ w.cell? ⟨b, o + i * 2 + 1, none⟩ = some (Bk.sv (R i)))
theorem Bk.Dr.later {w w' : World} {v : Value} {L : List Dd.D} {R : Nat → Option Addr × Nat × Nat} (h : Bk.Dr w v L R) (g : Below w.heap.size w w') : Bk.Dr w' v L R := by
 obtain ⟨a, c, hv, h⟩ := h
 refine ⟨a, c, hv, ?_⟩
 rcases h with h | ⟨b, o, ha, hb, h⟩
 ·exact .inl h
 ·refine .inr ⟨b, o, ha, Nat.lt_of_lt_of_le hb g.size, fun i x hx => ?_⟩
  obtain ⟨c0, c1⟩ := h i x hx
  exact ⟨(g.cell (p := ⟨b, o + i * 2, none⟩) hb).trans c0, (g.cell (p := ⟨b, o + i * 2 + 1, none⟩) hb).trans c1⟩
def Bk.partsOf : Option Value → Option Addr × Nat × Nat
 | some (.slice a n c) => (a, n, c)
 | _ => (none, 0, 0)
theorem Bk.Ds.dr {w : World} {v : Value} {L : List Dd.D} (h : Bk.Ds w v L) : ∃ R, Bk.Dr w v L R ∧ ∀ i x, L[i]? = some x → Kn.Vals w (Bk.sv (R i)) x.row := by
 obtain ⟨a, c, hv, _, _, h⟩ := h
 rcases h with rfl | ⟨b, o, ha, hb, h⟩
 ·exact ⟨fun _ => (none, 0, 0), ⟨a, c, hv, .inl rfl⟩, fun i x hx => by simp at hx⟩
 ·have key : ∀ i x, L[i]? = some x → w.cell? ⟨b, o + i * 2 + 1, none⟩ = some (Bk.sv (Bk.partsOf (w.cell? ⟨b, o + i * 2 + 1, none⟩))) ∧ Kn.Vals w (Bk.sv (Bk.partsOf (w.cell? ⟨b, o + i * 2 + 1, none⟩))) x.row := fun i x hx => by
   obtain ⟨u, _, c1, hu⟩ := h i x hx
   rw [c1]
   obtain ⟨a', c', rfl, hu'⟩ := hu
   exact ⟨rfl, a', c', rfl, hu'⟩
  exact ⟨fun i => Bk.partsOf (w.cell? ⟨b, o + i * 2 + 1, none⟩), ⟨a, c, hv, .inr ⟨b, o, ha, hb, fun i x hx => ⟨(h i x hx).choose_spec.1, (key i x hx).1⟩⟩⟩, fun i x hx => (key i x hx).2⟩
def Bk.hl (i : Nat) (R : Nat → Option Addr × Nat × Nat) : Nat → List Dd.D → List (Option Addr × Nat × Nat)
 | _, [] => []
 | k, d :: r => if Bk.has i d = true then R k :: Bk.hl i R (k + 1) r else Bk.hl i R (k + 1) r
def Bk.wd (s : List Kn.C) (g : Bool) : Nat := if g = true then 1 else s.length
end Go.Proofs.YtkhiemkekmdhgaaDoor
namespace Go.Proofs.YtkhiemkekmdhgaaDoor
open Go.RowKit
def Rn.part (b o n c i : Nat) : Option Addr × Nat × Nat := (some ⟨b, o + 8 * i * 2, none⟩, min 8 (n - 8 * i), c - 8 * i)
def Rn.parts (b o n c k : Nat) : List (Option Addr × Nat × Nat) := (List.range k).map (Rn.part b o n c)
end Go.Proofs.YtkhiemkekmdhgaaDoor
namespace Go.Proofs.YtkhiemkekmdhgaaDoor
open Go.RowKit
def Rn.il {α : Type} (p : Dd.D → Bool) (f : Nat → Dd.D → α) : Nat → List Dd.D → List α
 | _, [] => []
 | k, d :: r => if p d = true then f k d :: Rn.il p f (k + 1) r else Rn.il p f (k + 1) r
def Rn.e2 (x : Bool × (Option Addr × Nat × Nat)) : List Value := [.bool x.1, Bk.sv x.2]
theorem Rn.e2_len (x : Bool × (Option Addr × Nat × Nat)) : (Rn.e2 x).length = 2 := rfl
theorem Rn.e2_one (x : Bool × (Option Addr × Nat × Nat)) : ∀ u ∈ Rn.e2 x, u.oneCell' = true := fun u hu => by
 simp only [Rn.e2, List.mem_cons, List.not_mem_nil, or_false] at hu
 rcases hu with rfl | rfl <;> rfl
theorem Rn.infoD : (Tryd.prog.info? 36).map (fun i => (i.zero, i.size, i.bytes)) = some (some (.agg #[.bool false, .slice none 0 0]), 2, 32) := by kernel_rfl
def Rn.fd (R : Nat → Option Addr × Nat × Nat) (k : Nat) (d : Dd.D) : Bool × (Option Addr × Nat × Nat) := (d.gone, R k)
end Go.Proofs.YtkhiemkekmdhgaaDoor
namespace Go.Proofs.YtkhiemkekmdhgaaDoor
open Go.RowKit
abbrev Jn.Y := Bool × (Option Addr × Nat × Nat)
theorem Jn.vals_same {w w' : World} {u : Value} {l : List Kn.V} (h : Kn.Vals w u l) (hne : l ≠ []) (hs : w.heap.size ≤ w'.heap.size) (g : ∀ k, u.ownBlock = some k → w'.heap[k]? = w.heap[k]?) : Kn.Vals w' u l := by
 obtain ⟨a, c, hv, h⟩ := h
 rcases h with h | ⟨b, o, ha, hb, hm, h⟩
 ·exact absurd h hne
 ·have e := g b (by rw [hv, ha]; rfl)
  exact ⟨a, c, hv, .inr ⟨b, o, ha, Nat.lt_of_lt_of_le hb hs, hm, fun i x hx => ⟨(World.cell?_of_block e).trans (h i x hx).c0, (World.cell?_of_block e).trans (h i x hx).c1, (World.cell?_of_block e).trans (h i x hx).c2⟩⟩⟩
theorem Jn.vals_alive {w : World} {u : Value} {l : List Kn.V} (h : Kn.Vals w u l) (hne : l ≠ []) {k : Nat} (hk : u.ownBlock = some k) : k < w.heap.size := by
 obtain ⟨a, c, rfl, h⟩ := h
 rcases h with h | ⟨b, o, rfl, hb, _, _⟩
 ·exact absurd h hne
 ·obtain rfl : b = k := by simpa [Value.ownBlock] using hk
  exact hb
structure Jn.Ow (B : Nat) (w : World) (u : Value) (Es : List Jn.Y) (L : List Dd.D) : Prop where
 ow : Dk.Own 36 2 Rn.e2 B w u Es
 len : Es.length = L.length
 rd : ∀ (i : Nat) (x : Dd.D), L[i]? = some x → x.row ≠ [] ∧ ∃ y, Es[i]? = some y ∧ y.1 = x.gone ∧ Kn.Vals w (Bk.sv y.2) x.row ∧ ∀ k, (Bk.sv y.2).ownBlock = some k → B ≤ k ∧ u.ownBlock ≠ some k
theorem Jn.Ow.nil (B : Nat) (w : World) : Jn.Ow B w (.slice none 0 0) [] [] := ⟨Dk.Own.nil _ _, rfl, fun i x hx => by simp at hx⟩
theorem Jn.Ow.kept {B : Nat} {w w' : World} {u : Value} {Es : List Jn.Y} {L : List Dd.D} (h : Jn.Ow B w u Es L) (g : Below w.heap.size w w') : Jn.Ow B w' u Es L :=
 ⟨h.ow.kept g, h.len, fun i x hx => by
  obtain ⟨hne, y, e1, e2, e3, e4⟩ := h.rd i x hx
  exact ⟨hne, y, e1, e2, e3.later g, e4⟩⟩
theorem Jn.Ow.snoc {B : Nat} {w w6 w7 : World} {u u' : Value} {Es : List Jn.Y} {L : List Dd.D} (h : Jn.Ow B w u Es L) (hB : B ≤ w.heap.size) (g6 : Below w.heap.size w w6) {y : Jn.Y} {d : Dd.D} (h1 : y.1 = d.gone) (hne : d.row ≠ [])
 (h2 : Kn.Vals w6 (Bk.sv y.2) d.row) (hf : ∀ k, (Bk.sv y.2).ownBlock = some k → w.heap.size ≤ k) (ho : Dk.Own 36 2 Rn.e2 B w7 u' (Es ++ [y])) (g : Ty.Grew w6 w7 u u') : Jn.Ow B w7 u' (Es ++ [y]) (L ++ [d]) := by
 have hu : ∀ k, u.ownBlock = some k → k < w.heap.size := h.ow.lt
 have hkeep : ∀ k, k < w6.heap.size → u.ownBlock ≠ some k → u'.ownBlock ≠ some k := fun k hk hn e => by
  rcases g.own with e2 | ⟨j, e2, hj⟩
  ·exact hn (e2 ▸ e)
  ·rw [e2] at e
   obtain rfl : j = k := by simpa using e
   omega
 have hnew : ∀ k, (Bk.sv y.2).ownBlock = some k → u.ownBlock ≠ some k := fun k hk e => by
  have := hf k hk
  have := hu k e
  omega
 refine ⟨ho, by rw [List.length_append, List.length_append, h.len]; rfl, fun i x hx => ?_⟩
 rcases Nat.lt_or_ge i L.length with hi | hi
 ·rw [List.getElem?_append_left hi] at hx
  obtain ⟨hn, z, e1, e2, e3, e4⟩ := h.rd i x hx
  have e3' := e3.later g6
  refine ⟨hn, z, by rw [List.getElem?_append_left (by rw [h.len]; exact hi)]; exact e1, e2, Jn.vals_same e3' hn g.by_.size fun k hk => g.by_.block k (Jn.vals_alive e3' hn hk) fun e => (e4 k hk).2 e.symm, fun k hk => ⟨(e4 k hk).1, hkeep k (Jn.vals_alive e3' hn hk) (e4 k hk).2⟩⟩
 ·rw [List.getElem?_append_right hi] at hx
  cases hq : i - L.length with
  | zero =>
    rw [hq] at hx
    obtain rfl : d = x := by simpa using hx
    refine ⟨hne, y, by rw [List.getElem?_append_right (by rw [h.len]; exact hi), h.len, hq]; rfl, h1, Jn.vals_same h2 hne g.by_.size fun k hk => g.by_.block k (Jn.vals_alive h2 hne hk) fun e => hnew k hk e.symm, fun k hk => ⟨Nat.le_trans hB (hf k hk), hkeep k (Jn.vals_alive h2 hne hk) (hnew k hk)⟩⟩
  | succ q => rw [hq] at hx; simp at hx
theorem Jn.Ow.ds {B : Nat} {w : World} {u : Value} {Es : List Jn.Y} {L : List Dd.D} (h : Jn.Ow B w u Es L) : Bk.Ds w u L := by
 rcases h.ow.form with ⟨rfl, h0⟩ | ⟨b, c, rfl, h1, h2, _, h4⟩
 ·have hl := h.len
  rw [h0] at hl
  have : L = [] := List.eq_nil_of_length_eq_zero hl.symm
  rw [this]
  exact ⟨none, 0, rfl, Nat.le_refl _, by omega, .inl rfl⟩
 ·refine ⟨_, c, by rw [h.len], by rw [← h.len]; exact h1, by unfold maxLen at h2; omega, .inr ⟨b, 0, rfl, h4, fun i x hx => ?_⟩⟩
  obtain ⟨_, y, hy, e1, e2, _⟩ := h.rd i x hx
  have c0 := h.ow.cell Rn.e2_len rfl hy (j := 0) (by decide)
  have c1 := h.ow.cell Rn.e2_len rfl hy (j := 1) (by decide)
  rw [Nat.zero_add]
  rw [Nat.add_zero] at c0
  exact ⟨Bk.sv y.2, by rw [← e1]; exact c0, c1, e2⟩
def Jn.GotR (w : World) (r : Nat × List Dd.D) (e : Ending) (w' : World) : Prop :=
 ∃ u Es, e = .returned (.tuple #[u, .int .i64 ((r.1 : Nat) : Int)]) ∧ Jn.Ow w.heap.size w' u Es r.2 ∧ Below w.heap.size w w'
theorem Jn.GotR.bad {w w' : World} {r : Nat × List Dd.D} {z : Int} {q : Nat} (hr : r = (q, [])) (hz : z = (q : Int)) (g : Below w.heap.size w w') : Jn.GotR w r (.returned (.tuple #[.slice none 0 0, .int .i64 z])) w' :=
 ⟨_, [], by rw [hr, hz], by rw [hr]; exact Jn.Ow.nil _ _, g⟩
theorem Jn.GotR.good {w w' : World} {r : Nat × List Dd.D} {u : Value} {Es : List Jn.Y} {L : List Dd.D} (hr : r = (0, L)) (h : Jn.Ow w.heap.size w' u Es L) (g : Below w.heap.size w w') : Jn.GotR w r (.returned (.tuple #[u, .int .i64 0])) w' :=
 ⟨_, Es, by rw [hr]; rfl, by rw [hr]; exact h, g⟩
end Go.Proofs.YtkhiemkekmdhgaaDoor
namespace Go.Proofs.YtkhiemkekmdhgaaDoor
open Go.RowKit
structure Sk.Off (S : Nat → Prop) (w w' : World) : Prop where
 os : w'.os = w.os
 tape : w'.tape = w.tape
 output : w'.output = w.output
 size : w.heap.size ≤ w'.heap.size
 block : ∀ k, k < w.heap.size → ¬ S k → w'.heap[k]? = w.heap[k]?
def Sk.More (S : Nat → Prop) (w w' : World) (b : Nat) : Prop := S b ∨ (w.heap.size ≤ b ∧ b < w'.heap.size)
theorem Sk.Off.refl (S : Nat → Prop) (w : World) : Sk.Off S w w := ⟨rfl, rfl, rfl, Nat.le_refl _, fun _ _ _ => rfl⟩
theorem Sk.Off.below {S : Nat → Prop} {w w' : World} (h : Sk.Off S w w') {B : Nat} (hB : B ≤ w.heap.size) (hS : ∀ b, S b → B ≤ b) : Below B w w' :=
 ⟨h.os, h.tape, h.output, h.size, fun k hk => h.block k (by omega) (fun hs => by have := hS k hs; omega)⟩
theorem Sk.Off.same {S : Nat → Prop} {w w1 w2 : World} (h : Sk.Off S w w1) (g : Sk.Off S w1 w2) : Sk.Off S w w2 :=
 ⟨g.os.trans h.os, g.tape.trans h.tape, g.output.trans h.output, Nat.le_trans h.size g.size, fun k hk hn => (g.block k (Nat.lt_of_lt_of_le hk h.size) hn).trans (h.block k hk hn)⟩
def Sk.Row (B : Nat) (w : World) (v : Value) (l : List Kn.V) : Prop := ∃ a c, v = .slice a l.length c ∧ l.length ≤ 9223372036854775807 ∧ (∀ x ∈ l, Kn.Z x) ∧ (l = [] ∨ ∃ b o, a = some ⟨b, o, none⟩ ∧ b < B ∧ b < w.heap.size ∧ ∀ i x, l[i]? = some x → Kn.At w b (o + i * 3) x)
theorem Sk.At_below {B : Nat} {w w' : World} {b o : Nat} {v : Kn.V} (h : Kn.At w b o v) (hb : b < B) (g : Below B w w') : Kn.At w' b o v :=
 ⟨(g.cell (p := ⟨b, o, none⟩) hb).trans h.c0, (g.cell (p := ⟨b, o + 1, none⟩) hb).trans h.c1, (g.cell (p := ⟨b, o + 2, none⟩) hb).trans h.c2⟩
theorem Sk.Row.below {B : Nat} {w w' : World} {v : Value} {l : List Kn.V} (h : Sk.Row B w v l) (g : Below B w w') : Sk.Row B w' v l := by
 obtain ⟨a, c, hv, hm, hz, h⟩ := h
 refine ⟨a, c, hv, hm, hz, ?_⟩
 rcases h with h | ⟨b, o, ha, hb, hl, h⟩
 ·exact .inl h
 ·exact .inr ⟨b, o, ha, hb, Nat.lt_of_lt_of_le hl g.size, fun i x hx => Sk.At_below (h i x hx) hb g⟩
theorem Sk.Row.vals {B : Nat} {w : World} {v : Value} {l : List Kn.V} (h : Sk.Row B w v l) : Kn.Vals w v l := by
 obtain ⟨a, c, hv, hm, _, h⟩ := h
 refine ⟨a, c, hv, ?_⟩
 rcases h with h | ⟨b, o, ha, _, hl, h⟩
 ·exact .inl h
 ·exact .inr ⟨b, o, ha, hl, hm, h⟩
structure Sk.E where
 gone : Bool
 rv : Value
 row : List Kn.V
def Sk.E.enc (x : Sk.E) : List Value := [.bool x.gone, x.rv]
def Sk.E.d (x : Sk.E) : Dd.D := ⟨x.gone, x.row⟩
def Sk.kd (d : Dd.D) : Kn.V := d.row.headD ⟨true, 0, ⟨#[]⟩⟩
def Sk.ke (x : Sk.E) : Kn.V := Sk.kd x.d
structure Sk.Cell (w : World) (g i : Nat) (x : Sk.E) (rb ro rn rc : Nat) : Prop where
 c : w.cell? ⟨g, i * 2 + 1, none⟩ = some (.slice (some ⟨rb, ro, none⟩) rn rc)
 c0 : w.cell? ⟨g, i * 2, none⟩ = some (.bool x.gone)
 k : Kn.At w rb ro (Sk.ke x)
 pos : 0 < rn
 rv : x.rv = .slice (some ⟨rb, ro, none⟩) rn rc
end Go.Proofs.YtkhiemkekmdhgaaDoor
namespace Go.Proofs.YtkhiemkekmdhgaaDoor
open Go.RowKit
def Sk.getV : Option Sk.E → Value
 | none => .tuple #[.agg #[.bool false, .slice none 0 0], .bool false]
 | some x => .tuple #[.agg #[.bool x.gone, x.rv], .bool true]
end Go.Proofs.YtkhiemkekmdhgaaDoor
namespace Go.Proofs.YtkhiemkekmdhgaaDoor
open Go.RowKit
end Go.Proofs.YtkhiemkekmdhgaaDoor
