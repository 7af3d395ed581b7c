import Derived.Test.YtbelkhkllneifaaGreatDoorWEAK
import Derived.Test.YtbelkhkllneifaaGreatDoorWEAC
import Derived.Test.YtbelkhkllneifaaGreatDoorWEAD
import Derived.Laws.AppendOwnNone
import Derived.OneCell
import Derived.Laws.OwnMore
import Derived.Deep.Onto
import Derived.Test.YtbelkhkllneifaaGreatDoorWEAE
import Derived.Test.YtbelkhkllneifaaGreatDoorWEAI
import Derived.Test.YtbelkhkllneifaaGreatDoorWEAJ
import Derived.BigQuiet
namespace Go.Proofs.YtbelkhkllneifaaGreatDoor.Dk
open Go
def file (fs : List (Str × Nat)) (f : Nat) : Str × Nat := fs.getD f ([], 0)
def heldL (fs : List (Str × Nat)) (l : Dir) : Nat := (l.map fun y => (file fs y.2).1.length).sum
def held (d : D) : Nat := heldL d.files d.dir
def callE (d : D) : Nat := if 0 ≤ d.halt ∧ d.halt ≤ (d.calls : Int) then 11 else if (d.calls : Int) = d.deny then 9 else 0
def tick (d : D) : D := { d with calls := d.calls + 1 }
def change (d : D) (c : Ch) : D := { d with dir := apply d.dir c, chg := d.chg ++ [c] }
def grow (d : D) : D := { d with files := d.files ++ [([], 0)] }
def put (d : D) (f : Nat) (x : Str × Nat) : D := { d with files := d.files.set f x }
def create (d : D) (n : Str) : D × Nat :=
 if callE d ≠ 0 then (tick d, callE d) else if right n = false ∨ look d.dir n ≠ none then (tick d, 12)
 else (change (grow (tick d)) ⟨n, [], (d.files.length : Int)⟩, 0)
def append (d : D) (n s : Str) : D × Nat :=
 if callE d ≠ 0 then (tick d, callE d) else match look d.dir n with
 | none => (tick d, 12)
 | some f => if d.room - (held d : Int) < (s.length : Int) then (tick d, 10) else (put (tick d) f ((file d.files f).1 ++ s, (file d.files f).2), 0)
def sync (d : D) (n : Str) : D × Nat :=
 if callE d ≠ 0 then (tick d, callE d) else match look d.dir n with
 | none => (tick d, 12)
 | some f => (put (tick d) f ((file d.files f).1, (file d.files f).1.length), 0)
def rename (d : D) (a b : Str) : D × Nat :=
 if callE d ≠ 0 then (tick d, callE d) else if look d.dir a = none ∨ right b = false ∨ a = b then (tick d, 12) else (change (tick d) ⟨a, b, 0⟩, 0)
def remove (d : D) (n : Str) : D × Nat :=
 if callE d ≠ 0 then (tick d, callE d) else if look d.dir n = none then (tick d, 12) else (change (tick d) ⟨n, [], -1⟩, 0)
def syncDir (d : D) : D × Nat :=
 if callE d ≠ 0 then (tick d, callE d) else ({ tick d with sure := d.dir, chg := [] }, 0)
def space (d : D) (n : Int) : D := { d with room := max n 0 }
def later (d : D) (n : Int) : Int := if n < 0 ∨ 1099511627776 < n then -1 else (d.calls : Int) + n
def stop (d : D) (n : Int) : D := { d with halt := later d n }
def refuse (d : D) (n : Int) : D := { d with deny := later d n }
def keepAt (keep : List Int) (i : Nat) : Int := if keep = [] then 0 else max (keep.getD (i % keep.length) 0) 0
def cutN (x : Str × Nat) (k : Int) : Nat := x.2 + min k.toNat (x.1.length - x.2)
def cut (fs : List (Str × Nat)) (f : Nat) (k : Int) : List (Str × Nat) := fs.set f ((file fs f).1.take (cutN (file fs f) k), cutN (file fs f) k)
def cuts (keep : List Int) : Nat → List (Str × Nat) → Dir → List (Str × Nat)
 | _, fs, [] => fs
 | i, fs, y :: l => cuts keep (i + 1) (cut fs y.2 (keepAt keep i)) l
def crashDir (d : D) (n : Int) : Dir := fold d.sure (d.chg.take n.toNat)
def crash (d : D) (n : Int) (keep : List Int) : D :=
 { d with files := cuts keep 0 d.files (crashDir d n), dir := crashDir d n, sure := crashDir d n, chg := [], halt := -1, deny := -1 }
def read (d : D) (n : Str) : Str × Nat := match look d.dir n with | none => ([], 12) | some f => ((file d.files f).1, 0)
def names (d : D) : List Str := d.dir.map (·.1)
structure Op where
 kind : Nat
 a : Str
 b : Str
 n : Int
 keep : List Int
def step (d : D) (o : Op) : D × Nat :=
 if o.kind = 0 then create d o.a else if o.kind = 1 then append d o.a o.b else if o.kind = 2 then sync d o.a else if o.kind = 3 then rename d o.a o.b
 else if o.kind = 4 then remove d o.a else if o.kind = 5 then syncDir d else if o.kind = 6 then (space d o.n, 0) else if o.kind = 7 then (stop d o.n, 0)
 else if o.kind = 8 then (refuse d o.n, 0) else (crash d o.n o.keep, 0)
theorem file_set (fs : List (Str × Nat)) (f g : Nat) (x : Str × Nat) (hf : f < fs.length) : file (fs.set f x) g = if f = g then x else file fs g := by
 unfold file
 rw [List.getD, List.getD, List.getElem?_set]
 by_cases h : f = g
 ·rw [if_pos h, if_pos h, if_pos hf]; rfl
 ·rw [if_neg h, if_neg h]
theorem getD_lt {fs : List (Str × Nat)} {f : Nat} (h : f < fs.length) : fs.getD f ([], 0) = fs[f] := by
 rw [List.getD, List.getElem?_eq_getElem h]
 rfl
theorem file_mem {fs : List (Str × Nat)} {f : Nat} (h : f < fs.length) : file fs f ∈ fs := by
 unfold file
 rw [getD_lt h]
 exact List.getElem_mem h
theorem mem_set {fs : List (Str × Nat)} {f : Nat} {x y : Str × Nat} (h : y ∈ fs.set f x) : y = x ∨ y ∈ fs := by
 rcases List.mem_or_eq_of_mem_set h with h | h
 ·exact .inr h
 ·exact .inl h
theorem size_set (fs : List (Str × Nat)) : ∀ (f : Nat) (x : Str × Nat), f < fs.length → size (fs.set f x) + (file fs f).1.length = size fs + x.1.length := by
 induction fs with
 | nil => intro f x h; simp at h
 | cons a fs ih =>
   intro f x h
   cases f with
   | zero =>
     have : file (a :: fs) 0 = a := rfl
     rw [this, List.set_cons_zero]
     simp only [size, List.map_cons, List.sum_cons]
     omega
   | succ f =>
     have e : file (a :: fs) (f + 1) = file fs f := rfl
     have := ih f x (by simpa using h)
     rw [e, List.set_cons_succ]
     simp only [size, List.map_cons, List.sum_cons] at this ⊢
     omega
theorem size_snoc (fs : List (Str × Nat)) (x : Str × Nat) : size (fs ++ [x]) = size fs + x.1.length := by
 simp [size]
theorem Inv.tick {d : D} (h : Inv d) : Inv (tick d) := ⟨h.chain, h.well, h.part⟩
theorem Sz.tick {n : Nat} {d : D} (h : Sz n d) : Sz (n + 1) (tick d) :=
 ⟨Nat.le_succ_of_le h.files, Nat.le_succ_of_le h.dirs, Nat.le_trans h.bytes (Nat.mul_le_mul_right _ (Nat.le_succ _)), Nat.succ_le_succ h.calls⟩
theorem Inv.change {d : D} (h : Inv d) {c : Ch} (hc : Ok d.files.length d.dir c) : Inv (change d c) := ⟨h.chain.snoc hc, h.well, h.part⟩
theorem Inv.grow {d : D} (h : Inv d) : Inv (grow d) := by
 have hl : d.files.length ≤ (d.files ++ [(([] : Str), 0)]).length := by simp
 refine ⟨h.chain.mono hl, h.well.mono hl, fun x hx => ?_⟩
 rcases List.mem_append.1 hx with hx | hx
 ·exact h.part x hx
 ·rw [List.mem_singleton.1 hx]; exact Nat.le_refl _
theorem Inv.put {d : D} (h : Inv d) (f : Nat) {x : Str × Nat} (hx : x.2 ≤ x.1.length) : Inv (put d f x) := by
 have hl : (d.files.set f x).length = d.files.length := List.length_set
 refine ⟨?_, ?_, fun y hy => ?_⟩
 ·show Chain (d.files.set f x).length _ _ _
  rw [hl]; exact h.chain
 ·show Well (d.files.set f x).length _
  rw [hl]; exact h.well
 ·rcases mem_set hy with rfl | hy
  ·exact hx
  ·exact h.part y hy
theorem Inv.dirlt {d : D} (h : Inv d) {n : Str} {f : Nat} (hf : look d.dir n = some f) : f < d.files.length := h.dir.lim _ ((look_some h.dir.asc).1 hf)
theorem Inv.file {d : D} (h : Inv d) (f : Nat) : (file d.files f).2 ≤ (file d.files f).1.length := by
 by_cases hf : f < d.files.length
 ·exact h.part _ (file_mem hf)
 ·unfold Dk.file
  rw [List.getD, List.getElem?_eq_none (by omega)]
  exact Nat.le_refl _
theorem right_ne {b : Str} (h : right b ≠ false) : b ≠ [] := fun e => by rw [e] at h; exact h rfl
theorem Inv.create {d : D} (h : Inv d) (n : Str) : Inv (create d n).1 := by
 unfold Dk.create
 split
 ·exact h.tick
 ·split
  ·exact h.tick
  ·next hn =>
   refine Inv.change h.tick.grow ?_
   have h2 : look d.dir n = none := by
    cases hl : look d.dir n with
    | none => rfl
    | some f => exact absurd (Or.inr (by rw [hl]; simp)) hn
   unfold Ok
   rw [if_neg (by simp), if_neg (by simp)]
   refine ⟨h2, ?_, fun y hy e => ?_⟩
   ·show (Int.toNat (d.files.length : Int)) < (d.files ++ [(([] : Str), 0)]).length
    simp
   ·have h3 := h.dir.lim y hy
    simp only [Int.toNat_natCast] at e
    omega
set_option maxRecDepth 100000 in
theorem Sz.create {k : Nat} {d : D} (h : Sz k d) (n : Str) : Sz (k + 1) (create d n).1 := by
 unfold Dk.create
 split
 ·exact h.tick
 ·split
  ·exact h.tick
  ·have := h.files
   have := h.dirs
   have := h.bytes
   have := h.calls
   refine ⟨?_, ?_, ?_, ?_⟩
   ·show (d.files ++ [(([] : Str), 0)]).length ≤ _
    simp; omega
   ·show d.sure.length + (d.chg ++ [_]).length ≤ _
    simp; omega
   ·exact Nat.le_trans (Nat.le_of_eq (size_snoc d.files ([], 0))) (Nat.le_trans h.bytes (Nat.mul_le_mul_right _ (Nat.le_succ k)))
   ·show d.calls + 1 ≤ _
    omega
theorem Inv.append {d : D} (h : Inv d) (n s : Str) : Inv (append d n s).1 := by
 unfold Dk.append
 split
 ·exact h.tick
 ·split
  ·exact h.tick
  ·next f hf =>
   split
   ·exact h.tick
   ·refine Inv.put h.tick f ?_
    have := h.file f
    rw [List.length_append]
    omega
set_option maxRecDepth 100000 in
theorem Sz.put {k : Nat} {d : D} (h : Sz k d) {f : Nat} {x : Str × Nat} (hf : f < d.files.length) (hx : x.1.length ≤ (file d.files f).1.length + 1048576) : Sz (k + 1) (Dk.put (Dk.tick d) f x) := by
 have := h.files
 have := h.dirs
 have := h.bytes
 have := h.calls
 refine ⟨?_, ?_, ?_, ?_⟩
 ·show (d.files.set f x).length ≤ _
  rw [List.length_set]; omega
 ·show d.sure.length + d.chg.length ≤ _
  omega
 ·show size (d.files.set f x) ≤ _
  have := size_set d.files f x hf
  omega
 ·show d.calls + 1 ≤ _
  omega
theorem Sz.append {k : Nat} {d : D} (h : Sz k d) (hi : Inv d) (n s : Str) (hs : s.length ≤ 1048576) : Sz (k + 1) (append d n s).1 := by
 unfold Dk.append
 split
 ·exact h.tick
 ·split
  ·exact h.tick
  ·next f hf =>
   split
   ·exact h.tick
   ·exact h.put (hi.dirlt hf) (by rw [List.length_append]; omega)
theorem Inv.sync {d : D} (h : Inv d) (n : Str) : Inv (sync d n).1 := by
 unfold Dk.sync
 split
 ·exact h.tick
 ·split
  ·exact h.tick
  ·next f hf => exact Inv.put h.tick f (Nat.le_refl _)
theorem Sz.sync {k : Nat} {d : D} (h : Sz k d) (hi : Inv d) (n : Str) : Sz (k + 1) (sync d n).1 := by
 unfold Dk.sync
 split
 ·exact h.tick
 ·split
  ·exact h.tick
  ·next f hf => exact h.put (hi.dirlt hf) (Nat.le_add_right _ _)
theorem Inv.rename {d : D} (h : Inv d) (a b : Str) : Inv (rename d a b).1 := by
 unfold Dk.rename
 split
 ·exact h.tick
 ·split
  ·exact h.tick
  ·next hn =>
   refine Inv.change h.tick ?_
   unfold Ok
   rw [if_pos (right_ne fun e => hn (.inr (.inl e)))]
   cases hl : look d.dir a with
   | none => exact absurd (Or.inl hl) hn
   | some f => exact ⟨f, hl, fun e => hn (.inr (.inr e))⟩
set_option maxRecDepth 100000 in
theorem Sz.change {k : Nat} {d : D} (h : Sz k d) (c : Ch) : Sz (k + 1) (Dk.change (Dk.tick d) c) := by
 have := h.files
 have := h.dirs
 have := h.bytes
 have := h.calls
 refine ⟨?_, ?_, ?_, ?_⟩
 ·show d.files.length ≤ _
  omega
 ·show d.sure.length + (d.chg ++ [c]).length ≤ _
  simp; omega
 ·exact Nat.le_trans h.bytes (Nat.mul_le_mul_right _ (Nat.le_succ k))
 ·show d.calls + 1 ≤ _
  omega
theorem Sz.rename {k : Nat} {d : D} (h : Sz k d) (a b : Str) : Sz (k + 1) (rename d a b).1 := by
 unfold Dk.rename
 split
 ·exact h.tick
 ·split
  ·exact h.tick
  ·exact h.change _
theorem Inv.remove {d : D} (h : Inv d) (n : Str) : Inv (remove d n).1 := by
 unfold Dk.remove
 split
 ·exact h.tick
 ·split
  ·exact h.tick
  ·next hn =>
   refine Inv.change h.tick ?_
   unfold Ok
   rw [if_neg (by simp), if_pos (by simp)]
   cases hl : look d.dir n with
   | none => exact absurd hl hn
   | some f => exact ⟨f, hl⟩
theorem Sz.remove {k : Nat} {d : D} (h : Sz k d) (n : Str) : Sz (k + 1) (remove d n).1 := by
 unfold Dk.remove
 split
 ·exact h.tick
 ·split
  ·exact h.tick
  ·exact h.change _
theorem Inv.syncDir {d : D} (h : Inv d) : Inv (syncDir d).1 := by
 unfold Dk.syncDir
 split
 ·exact h.tick
 ·exact ⟨rfl, h.dir, h.part⟩
theorem Sz.syncDir {k : Nat} {d : D} (h : Sz k d) (hi : Inv d) : Sz (k + 1) (syncDir d).1 := by
 unfold Dk.syncDir
 split
 ·exact h.tick
 ·have := h.dir hi
  have := h.tick
  exact ⟨this.files, by show d.dir.length + 0 ≤ _; omega, this.bytes, this.calls⟩
theorem length_cuts (keep : List Int) : ∀ (l : Dir) (i : Nat) (fs : List (Str × Nat)), (cuts keep i fs l).length = fs.length
 | [], _, _ => rfl
 | y :: l, i, fs => by
   have := length_cuts keep l (i + 1) (cut fs y.2 (keepAt keep i))
   rw [show cuts keep i fs (y :: l) = cuts keep (i + 1) (cut fs y.2 (keepAt keep i)) l from rfl, this]
   exact List.length_set
structure Left (x y : Str × Nat) : Prop where
 take : y.1 = x.1.take y.1.length
 le : y.1.length ≤ x.1.length
 least : x.2 ≤ y.1.length
 sure : x.2 ≤ y.2
 part : y.2 ≤ y.1.length
theorem Left.refl {x : Str × Nat} (h : x.2 ≤ x.1.length) : Left x x := ⟨by rw [List.take_length], Nat.le_refl _, h, Nat.le_refl _, h⟩
theorem Left.trans {x y z : Str × Nat} (h : Left x y) (g : Left y z) : Left x z :=
 ⟨by
  have h1 := g.take
  rw [h.take, List.take_take, Nat.min_eq_left g.le] at h1
  exact h1, Nat.le_trans g.le h.le, by have := g.least; have := h.sure; omega, Nat.le_trans h.sure g.sure, g.part⟩
theorem cut_left {x : Str × Nat} (h : x.2 ≤ x.1.length) (k : Int) : Left x (x.1.take (cutN x k), cutN x k) := by
 have hn : cutN x k ≤ x.1.length ∧ x.2 ≤ cutN x k := by unfold cutN; omega
 have hl : (x.1.take (cutN x k)).length = cutN x k := by rw [List.length_take]; omega
 exact ⟨by show _ = _; rw [hl], by show (x.1.take (cutN x k)).length ≤ _; omega, by show _ ≤ (x.1.take (cutN x k)).length; omega, hn.2, by show _ ≤ (x.1.take (cutN x k)).length; omega⟩
theorem cuts_left (keep : List Int) : ∀ (l : Dir) (i : Nat) (fs : List (Str × Nat)), (∀ f, (file fs f).2 ≤ (file fs f).1.length) → (∀ y ∈ l, y.2 < fs.length) →
 (∀ f, Left (file fs f) (file (cuts keep i fs l) f)) ∧ ∀ y ∈ l, (file (cuts keep i fs l) y.2).2 = (file (cuts keep i fs l) y.2).1.length := by
 intro l
 induction l with
 | nil => exact fun i fs h _ => ⟨fun f => Left.refl (h f), by simp⟩
 | cons a l ih =>
   intro i fs h hl
   have hc : ∀ f, Left (file fs f) (file (cut fs a.2 (keepAt keep i)) f) := fun f => by
    unfold cut
    rw [file_set _ _ _ _ (hl a List.mem_cons_self)]
    by_cases e : a.2 = f
    ·rw [if_pos e, e]; exact cut_left (h f) _
    ·rw [if_neg e]; exact Left.refl (h f)
   obtain ⟨h1, h2⟩ := ih (i + 1) (cut fs a.2 (keepAt keep i)) (fun f => (hc f).part) (fun y hy => by unfold cut; rw [List.length_set]; exact hl y (List.mem_cons_of_mem _ hy))
   refine ⟨fun f => (hc f).trans (h1 f), fun y hy => ?_⟩
   rcases List.mem_cons.1 hy with rfl | hy
   ·have h3 := h1 y.2
    have h4 : (file (cut fs y.2 (keepAt keep i)) y.2).2 = (file (cut fs y.2 (keepAt keep i)) y.2).1.length := by
     unfold cut
     rw [file_set _ _ _ _ (hl y List.mem_cons_self), if_pos rfl]
     rw [List.length_take]
     have := h y.2
     unfold cutN
     omega
    have := h3.sure
    have := h3.part
    have := h3.le
    show (file (cuts keep (i + 1) (cut fs y.2 (keepAt keep i)) l) y.2).2 = (file (cuts keep (i + 1) (cut fs y.2 (keepAt keep i)) l) y.2).1.length
    omega
   ·exact h2 y hy
theorem size_le {fs gs : List (Str × Nat)} (hl : fs.length = gs.length) (h : ∀ f, (file fs f).1.length ≤ (file gs f).1.length) : size fs ≤ size gs := by
 induction fs generalizing gs with
 | nil => exact Nat.zero_le _
 | cons a fs ih =>
   cases gs with
   | nil => simp at hl
   | cons b gs =>
     have h0 : a.1.length ≤ b.1.length := h 0
     have := ih (gs := gs) (by simpa using hl) fun f => h (f + 1)
     simp only [size, List.map_cons, List.sum_cons] at this ⊢
     omega
theorem Inv.crashDir {d : D} (h : Inv d) (n : Int) : Well d.files.length (Dk.crashDir d n) := (h.chain.take n.toNat).well h.well
theorem Inv.crash {d : D} (h : Inv d) (n : Int) (keep : List Int) : Inv (Dk.crash d n keep) := by
 have hw := h.crashDir n
 obtain ⟨h1, _⟩ := cuts_left keep (Dk.crashDir d n) 0 d.files h.file hw.lim
 have hl := length_cuts keep (Dk.crashDir d n) 0 d.files
 refine ⟨rfl, ?_, fun x hx => ?_⟩
 ·show Well (cuts keep 0 d.files (Dk.crashDir d n)).length (Dk.crashDir d n)
  rw [hl]; exact hw
 ·obtain ⟨f, hf, e⟩ := List.getElem_of_mem hx
  have := (h1 f).part
  have e2 : Dk.file (cuts keep 0 d.files (Dk.crashDir d n)) f = x := by
   exact (getD_lt (fs := cuts keep 0 d.files (Dk.crashDir d n)) hf).trans e
  rwa [e2] at this
set_option maxRecDepth 100000 in
theorem Sz.crash {k : Nat} {d : D} (h : Sz k d) (hi : Inv d) (n : Int) (keep : List Int) : Sz k (Dk.crash d n keep) := by
 have hl := length_cuts keep (Dk.crashDir d n) 0 d.files
 obtain ⟨h1, _⟩ := cuts_left keep (Dk.crashDir d n) 0 d.files hi.file (hi.crashDir n).lim
 have hlen := len_fold (d.chg.take n.toNat) d.sure
 have := h.dirs
 have := h.bytes
 have hs := size_le hl fun f => (h1 f).le
 refine ⟨?_, ?_, ?_, h.calls⟩
 ·show (cuts keep 0 d.files (Dk.crashDir d n)).length ≤ k
  rw [hl]; exact h.files
 ·show (Dk.crashDir d n).length + 0 ≤ k
  rw [List.length_take] at hlen
  unfold Dk.crashDir
  omega
 ·show size (cuts keep 0 d.files (Dk.crashDir d n)) ≤ _
  omega
theorem Inv.step {d : D} (h : Inv d) (o : Op) : Inv (step d o).1 := by
 unfold Dk.step
 repeat' split
 ·exact h.create _
 ·exact h.append _ _
 ·exact h.sync _
 ·exact h.rename _ _
 ·exact h.remove _
 ·exact h.syncDir
 ·exact ⟨h.chain, h.well, h.part⟩
 ·exact ⟨h.chain, h.well, h.part⟩
 ·exact ⟨h.chain, h.well, h.part⟩
 ·exact h.crash _ _
theorem Sz.step {k : Nat} {d : D} (h : Sz k d) (hi : Inv d) (o : Op) (hb : o.b.length ≤ 1048576) : Sz (k + 1) (step d o).1 := by
 have hm := h.mono (Nat.le_succ k)
 unfold Dk.step
 repeat' split
 ·exact h.create _
 ·exact h.append hi _ _ hb
 ·exact h.sync hi _
 ·exact h.rename _ _
 ·exact h.remove _
 ·exact h.syncDir hi
 ·exact ⟨hm.files, hm.dirs, hm.bytes, hm.calls⟩
 ·exact ⟨hm.files, hm.dirs, hm.bytes, hm.calls⟩
 ·exact ⟨hm.files, hm.dirs, hm.bytes, hm.calls⟩
 ·exact hm.crash hi _ _
def new (n : Int) : D := ⟨[], [], [], [], max n 0, -1, -1, 0⟩
theorem Inv.new (n : Int) : Inv (new n) := ⟨rfl, Well.nil _, by simp [Dk.new]⟩
theorem Sz.new (n : Int) : Sz 0 (new n) := ⟨Nat.le_refl _, Nat.le_refl _, Nat.le_refl _, Nat.le_refl _⟩
end Go.Proofs.YtbelkhkllneifaaGreatDoor.Dk
namespace Go.Proofs.YtbelkhkllneifaaGreatDoor
open Go.RowKit
section
variable {α : Type}
theorem Dk.flat_len {k : Nat} {enc : α → List Value} (he : ∀ x, (enc x).length = k) : ∀ L : List α, (L.flatMap enc).length = L.length * k
 | [] => by simp
 | x :: L => by
   have := Dk.flat_len he L
   rw [List.flatMap_cons, List.length_append, this, he, List.length_cons, Nat.succ_mul]
   omega
theorem Dk.flat_get {k : Nat} {enc : α → List Value} (he : ∀ x, (enc x).length = k) : ∀ (L : List α) (i j : Nat) (x : α), L[i]? = some x → j < k → (L.flatMap enc)[i * k + j]? = (enc x)[j]?
 | [], _, _, _, h, _ => by cases h
 | y :: L, 0, j, x, h, hj => by
   obtain rfl : y = x := by simpa using h
   rw [List.flatMap_cons, Nat.zero_mul, Nat.zero_add, List.getElem?_append_left (by rw [he]; exact hj)]
 | y :: L, i + 1, j, x, h, hj => by
   have ih := Dk.flat_get he L i j x (by simpa using h) hj
   have e : (i + 1) * k + j = (enc y).length + (i * k + j) := by rw [he, Nat.succ_mul]; omega
   rw [List.flatMap_cons, e, List.getElem?_append_right (Nat.le_add_right _ _), Nat.add_sub_cancel_left]
   exact ih
theorem Dk.flat_set {k : Nat} {enc : α → List Value} (he : ∀ x, (enc x).length = k) (L : List α) (i : Nat) (x y : α) (hi : L[i]? = some x) (j : Nat) (hj : j < k) (u : Value) (hy : enc y = (enc x).set j u) :
 (L.flatMap enc).set (i * k + j) u = (L.set i y).flatMap enc := by
 have hil : i < L.length := by
  rcases Nat.lt_or_ge i L.length with h | h
  ·exact h
  ·rw [List.getElem?_eq_none h] at hi; cases hi
 have hlen : (L.flatMap enc).length = L.length * k := Dk.flat_len he L
 have hm : i * k + j < L.length * k := by
  have := Nat.mul_le_mul_right k hil
  rw [Nat.succ_mul] at this
  omega
 refine List.ext_getElem? fun q => ?_
 by_cases hq : q < L.length * k
 ·have hk : 0 < k := by omega
  obtain ⟨a, b, hb, e⟩ : ∃ a b, b < k ∧ q = a * k + b := ⟨q / k, q % k, Nat.mod_lt _ hk, by rw [Nat.mul_comm]; exact (Nat.div_add_mod q k).symm⟩
  have ha : a < L.length := by
   rcases Nat.lt_or_ge a L.length with h | h
   ·exact h
   ·have := Nat.mul_le_mul_right k h; omega
  rw [e, Dk.flat_get he (L.set i y) a b (if i = a then y else L[a]) (by
   rw [List.getElem?_set]
   by_cases h : i = a
   ·rw [if_pos h, if_pos h, if_pos (by omega)]
   ·rw [if_neg h, if_neg h, List.getElem?_eq_getElem ha]) hb, List.getElem?_set]
  have hx : L[a]? = some L[a] := List.getElem?_eq_getElem ha
  by_cases h : i = a
  ·subst h
   rw [if_pos rfl, hy, List.getElem?_set]
   rw [hi] at hx
   have hxe := Option.some.inj hx
   by_cases hjb : j = b
   ·subst hjb
    rw [if_pos rfl, if_pos rfl, if_pos (by rw [hlen]; exact hm), if_pos (by rw [he]; exact hj)]
   ·rw [if_neg (by omega), if_neg hjb]
    exact Dk.flat_get he L i b x hi hb
  ·rw [if_neg h, if_neg (fun e2 => by
    have h1 : i * k + j = a * k + b := e2
    rcases Nat.lt_or_gt_of_ne h with h2 | h2
    ·have := Nat.mul_le_mul_right k h2; rw [Nat.succ_mul] at this; omega
    ·have := Nat.mul_le_mul_right k h2; rw [Nat.succ_mul] at this; omega)]
   exact Dk.flat_get he L a b _ hx hb
 ·rw [List.getElem?_eq_none (by rw [List.length_set, hlen]; omega), List.getElem?_eq_none (by rw [Dk.flat_len he, List.length_set]; omega)]
def Dk.Own (e : TypeId) (k : Nat) (enc : α → List Value) (base : Nat) (w : World) (v : Value) (L : List α) : Prop := w.ownsRow base e k v L.length (L.flatMap enc)
def Dk.At (P : Nat → Prop) (e : TypeId) (k : Nat) (enc : α → List Value) (w : World) (v : Value) (L : List α) : Prop :=
 ∃ a c, v = .slice a L.length c ∧ L.length ≤ c ∧ ((L = [] ∧ (a = none → c = 0)) ∨ ∃ b o cs fr, a = some ⟨b, o, none⟩ ∧ P b ∧ w.heap[b]? = some (.cells cs e fr) ∧ ∀ i j x, L[i]? = some x → j < k → w.cell? ⟨b, o + i * k + j, none⟩ = (enc x)[j]?)
theorem Dk.addr_add (b o i : Nat) : (⟨b, o, none⟩ : Addr).add i = ⟨b, o + i, none⟩ := by unfold Addr.add; split <;> simp_all
variable {P P' : Nat → Prop} {e : TypeId} {k : Nat} {enc : α → List Value}
theorem Dk.Own.nil (base : Nat) (w : World) : Dk.Own e k enc base w (.slice none 0 0) ([] : List α) := World.ownsRow_nil w base _ k
theorem Dk.Own.base_le {base : Nat} {w : World} {v : Value} {L : List α} (h : Dk.Own e k enc base w v L) : ∀ b, v.ownBlock = some b → base ≤ b := fun b hb => (World.ownsRow.lt h b hb).1
theorem Dk.Own.lt {base : Nat} {w : World} {v : Value} {L : List α} (h : Dk.Own e k enc base w v L) : ∀ b, v.ownBlock = some b → b < w.heap.size := fun b hb => (World.ownsRow.lt h b hb).2
theorem Dk.Own.typed {base : Nat} {w : World} {v : Value} {L : List α} (h : Dk.Own e k enc base w v L) : ∀ b, v.ownBlock = some b → ∃ cs, w.heap[b]? = some (.cells cs e (0, 0)) := by
 intro b hb
 rcases h.2 with ⟨rfl, _⟩ | ⟨g, cap, cur, rfl, _, hg, _⟩
 ·cases hb
 ·have : g = b := by simpa [Value.ownBlock] using hb
  subst this
  exact ⟨cur, hg⟩
theorem Dk.Own.same {base : Nat} {w w' : World} {v : Value} {L : List α} (h : Dk.Own e k enc base w v L) (g : ∀ b, v.ownBlock = some b → w'.heap[b]? = w.heap[b]?) : Dk.Own e k enc base w' v L := by
 refine ⟨h.1, ?_⟩
 rcases h.2 with hn | ⟨b, cap, cur, rfl, hbb, hgg, rest⟩
 ·exact .inl hn
 ·exact .inr ⟨b, cap, cur, rfl, hbb, by rw [g b rfl]; exact hgg, rest⟩
theorem Dk.Own.kept {base : Nat} {w w' : World} {v : Value} {L : List α} (h : Dk.Own e k enc base w v L) (g : Below w.heap.size w w') : Dk.Own e k enc base w' v L :=
 h.same fun b hb => g.block b (h.lt b hb)
theorem Dk.own_below {wo w w' : World} {v v' : Value} {L : List α} (hb : Below wo.heap.size wo w) (ho : Dk.Own e k enc wo.heap.size w v L) (g : Ty.Grew w w' v v') : Below wo.heap.size wo w' :=
 hb.trans (g.below hb.size ho.base_le)
theorem Dk.Own.form {base : Nat} {w : World} {v : Value} {L : List α} (h : Dk.Own e k enc base w v L) : (v = .slice none 0 0 ∧ L = []) ∨ ∃ g c, v = .slice (some ⟨g, 0, none⟩) L.length c ∧ L.length ≤ c ∧ c ≤ maxLen ∧ base ≤ g ∧ g < w.heap.size := by
 rcases h.2 with ⟨e1, e0⟩ | ⟨g, cap, cur, e1, hbg, hgg, hcap, hm, _⟩
 ·exact .inl ⟨e1, List.eq_nil_of_length_eq_zero e0⟩
 ·exact .inr ⟨g, cap, e1, hcap, hm, hbg, (Array.getElem?_eq_some_iff.1 hgg).1⟩
theorem Dk.Own.cell (he : ∀ x, (enc x).length = k) {base : Nat} {w : World} {v : Value} {L : List α} (h : Dk.Own e k enc base w v L) {g : Nat} (hv : v.ownBlock = some g) {i j : Nat} {x : α} (hi : L[i]? = some x) (hj : j < k) : w.cell? ⟨g, i * k + j, none⟩ = (enc x)[j]? := by
 have hx : (enc x)[j]? = some ((enc x)[j]'(by rw [he]; exact hj)) := List.getElem?_eq_getElem _
 have := World.ownsRow.cells h hv (i * k + j) _ ((Dk.flat_get he L i j x hi hj).trans hx)
 rw [Dk.addr_add, Nat.zero_add] at this
 rw [this, hx]
theorem Dk.Own.at (he : ∀ x, (enc x).length = k) {base : Nat} {w : World} {v : Value} {L : List α} (h : Dk.Own e k enc base w v L) : Dk.At (fun b => base ≤ b ∧ b < w.heap.size) e k enc w v L := by
 rcases h.form with ⟨rfl, rfl⟩ | ⟨g, c, rfl, hc, _, hb, hg⟩
 ·exact ⟨none, 0, rfl, Nat.le_refl _, .inl ⟨rfl, fun _ => rfl⟩⟩
 ·obtain ⟨cs, hcs⟩ := h.typed g rfl
  refine ⟨_, c, rfl, hc, .inr ⟨g, 0, cs, (0, 0), rfl, ⟨hb, hg⟩, hcs, fun i j x hi hj => ?_⟩⟩
  rw [Nat.zero_add]
  exact h.cell he rfl hi hj
theorem Dk.At.same {w w' : World} {v : Value} {L : List α} (h : Dk.At P e k enc w v L) (g : ∀ b, P b → w'.heap[b]? = w.heap[b]?) : Dk.At P e k enc w' v L := by
 obtain ⟨a, c, hv, hc, h⟩ := h
 refine ⟨a, c, hv, hc, ?_⟩
 rcases h with h | ⟨b, o, cs, fr, ha, hP, hb, h⟩
 ·exact .inl h
 ·refine .inr ⟨b, o, cs, fr, ha, hP, (g b hP).trans hb, fun i j x hi hj => ?_⟩
  rw [← h i j x hi hj]
  exact World.cell?_of_block (g b hP)
theorem Dk.At.imp {w : World} {v : Value} {L : List α} (h : Dk.At P e k enc w v L) (g : ∀ b, P b → P' b) : Dk.At P' e k enc w v L := by
 obtain ⟨a, c, hv, hc, h⟩ := h
 refine ⟨a, c, hv, hc, ?_⟩
 rcases h with h | ⟨b, o, cs, fr, ha, hP, hb, h⟩
 ·exact .inl h
 ·exact .inr ⟨b, o, cs, fr, ha, g b hP, hb, h⟩
theorem Dk.At.alive {w : World} {v : Value} {L : List α} (h : Dk.At P e k enc w v L) : Dk.At (fun b => P b ∧ b < w.heap.size) e k enc w v L := by
 obtain ⟨a, c, hv, hc, h⟩ := h
 refine ⟨a, c, hv, hc, ?_⟩
 rcases h with h | ⟨b, o, cs, fr, ha, hP, hb, h⟩
 ·exact .inl h
 ·exact .inr ⟨b, o, cs, fr, ha, ⟨hP, lt_of_block hb⟩, hb, h⟩
theorem Dk.At.kept {w w' : World} {v : Value} {L : List α} (h : Dk.At P e k enc w v L) (g : Below w.heap.size w w') : Dk.At P e k enc w' v L :=
 ((h.alive).same fun b hb => g.block b hb.2).imp fun _ hb => hb.1
theorem Dk.At.nil (w : World) : Dk.At P e k enc w (.slice none 0 0) ([] : List α) := ⟨none, 0, rfl, Nat.le_refl _, .inl ⟨rfl, fun _ => rfl⟩⟩
def Dk.Src (enc : α → List Value) (w : World) (u : Value) (K : List α) : Prop :=
 (u = .slice none 0 0 ∧ K = []) ∨ ∃ ad c, u = .slice (some ad) K.length c ∧ ∀ j y, (K.flatMap enc)[j]? = some y → w.cell? (ad.add j) = some y
theorem Dk.src_cells {w : World} {b o : Nat} {K : List α} (he : ∀ x, (enc x).length = k) (hk : 0 < k) (h : ∀ i j x, K[i]? = some x → j < k → w.cell? ⟨b, o + i * k + j, none⟩ = (enc x)[j]?) :
 ∀ j y, (K.flatMap enc)[j]? = some y → w.cell? ((⟨b, o, none⟩ : Addr).add j) = some y := by
 intro q y hq
 have hql : q < K.length * k := by
  rw [← Dk.flat_len he K]
  exact (List.getElem?_eq_some_iff.1 hq).1
 obtain ⟨i, j, hj, e1⟩ : ∃ i j, j < k ∧ q = i * k + j := ⟨q / k, q % k, Nat.mod_lt _ hk, by rw [Nat.mul_comm]; exact (Nat.div_add_mod q k).symm⟩
 have hi : i < K.length := by
  rcases Nat.lt_or_ge i K.length with h | h
  ·exact h
  ·have := Nat.mul_le_mul_right k h; omega
 have hx : K[i]? = some K[i] := List.getElem?_eq_getElem hi
 rw [Dk.addr_add, e1, ← Nat.add_assoc, h i j _ hx hj, ← Dk.flat_get he K i j _ hx hj, ← e1, hq]
theorem Dk.append_many {Pr : Program} (T : TypeId) (z : Value) (by_ : Nat) (hT : Pr.underlying T = some (.slice e)) (hinfo : (Pr.info? e).map (fun i => (i.zero, i.size, i.bytes)) = some (some z, k, by_)) (hz : z.cells.size = k) (hk : 0 < k)
 (he : ∀ x, (enc x).length = k) (hone : ∀ x, ∀ u ∈ enc x, u.oneCell' = true) {base : Nat} {w0 : World} {v : Value} {M K : List α} (hown : Dk.Own e k enc base w0 v M) (hb : base ≤ w0.heap.size)
 (hl : (M.length + K.length) * by_ ≤ 140737488355328) (hl2 : M.length + K.length ≤ 140737488355328) {u : Value} (hu : Dk.Src enc w0 u K) (ty : TypeId) :
 ∃ v' w', (Builtin.append_ #[T, T] ty #[v, u]).run Pr w0 = .ok v' w' ∧ Dk.Own e k enc base w' v' (M ++ K) ∧ Ty.Grew w0 w' v v' := by
 obtain ⟨i0, hi, hz0, hz1, hz2⟩ := info_parts hinfo
 rcases hu with ⟨rfl, rfl⟩ | ⟨ad, c, rfl, hK⟩
 ·exact ⟨v, w0, run_append_owned_none (P := Pr) w0 base T ty e i0 k hT hi v _ _ hown, by rw [List.append_nil]; exact hown, Ty.Grew.refl _ _⟩
 ·obtain ⟨v', w', hr, h1, h2⟩ := Ty.append_tight (P := Pr) w0 base T ty e i0 _ k by_ hT hi hz0 hz1 hz2 hz hk v M.length (M.flatMap enc) hown ad K.length c (K.flatMap enc) (Dk.flat_len he K) hK (fun y hy => by
   obtain ⟨x, _, hx⟩ := List.mem_flatMap.1 hy
   exact hone x y hx) (by unfold maxLen; omega) hl hb
  refine ⟨v', w', hr, ?_, h2⟩
  unfold Dk.Own
  rw [List.length_append, List.flatMap_append]
  exact h1
theorem Dk.wpList_append {Pr : Program} (T : TypeId) (z : Value) (by_ : Nat) (hT : Pr.underlying T = some (.slice e)) (hinfo : (Pr.info? e).map (fun i => (i.zero, i.size, i.bytes)) = some (some z, k, by_)) (hz : z.cells.size = k) (hk : 0 < k)
 (he : ∀ x, (enc x).length = k) (hone : ∀ x, ∀ u ∈ enc x, u.oneCell' = true) {base : Nat} {w0 : World} {v : Value} {M : List α} (K : List α) (hown : Dk.Own e k enc base w0 v M) (hb : base ≤ w0.heap.size)
 (hl : (M.length + K.length) * by_ ≤ 140737488355328) (hl2 : M.length + K.length ≤ 140737488355328) {u : Value} (hu : Dk.Src enc w0 u K)
 {ops : Array Oper} {rest : List Oper} {o : Oper} {a : Act} {Q : Exit → Act → World → Prop} (s x : Operand) (hgd : Region.wanted o (yielded ops a.tmps) = true)
 (ho : o.op = .call { callee := .builtin .append, args := #[s, x], argTypes := #[T, T] })
 (hs : a.eval s = v) (hx : a.eval x = u)
 (h : ∀ v' w', Dk.Own e k enc base w' v' (M ++ K) → Ty.Grew w0 w' v v' → wpList Pr ops Q rest (a.put o.dst v') w') :
 wpList Pr ops Q (o :: rest) a w0 := by
 refine wpList_step fun Kx hKx => ?_
 rw [if_pos hgd]
 obtain ⟨v', w', hr, h2, h3⟩ := Dk.append_many (Pr := Pr) T z by_ hT hinfo hz hk he hone hown hb hl hl2 hu o.type
 unfold Oper.wp execOp
 simp only [ho, resolve, invoke, builtin, Sem.run_bind, Sem.run_pure, Result.andThen_ok, List.map_toArray, List.map_cons, List.map_nil, hs, hx, hr]
 exact hKx _ _ (h v' w' h2 h3)
theorem Dk.step_appendB {Pr : Program} (T : TypeId) (z : Value) (by_ : Nat) (hT : Pr.underlying T = some (.slice e)) (hinfo : (Pr.info? e).map (fun i => (i.zero, i.size, i.bytes)) = some (some z, k, by_)) (hz : z.cells.size = k) (hk : 0 < k)
 (he : ∀ x, (enc x).length = k) (hone : ∀ x, ∀ u ∈ enc x, u.oneCell' = true) {base : Nat} {w0 : World} {v : Value} {M : List α} (K : List α) (hb : base ≤ w0.heap.size) (hown : Dk.Own e k enc base w0 v M)
 (hl : (M.length + K.length) * by_ ≤ 140737488355328) (hl2 : M.length + K.length ≤ 140737488355328)
 {ops : Array Oper} {o : Oper} {a : Act} {Kx : Act → World → Prop} {Q : Exit → Act → World → Prop} {E : Prop} (s x : Operand) (u : Value) (hgd : o.guard = none)
 (ho : o.op = .call { callee := .builtin .append, args := #[s, x], argTypes := #[T, T] })
 (hs : a.eval s = v) (hx : a.eval x = u) (hu : Dk.Src enc w0 u K)
 (h : ∀ v' w', Dk.Own e k enc base w' v' (M ++ K) → Ty.Grew w0 w' v v' → Kx (a.put o.dst v') w') :
 if Region.wanted o (yielded ops a.tmps) = true then Oper.wp Pr o a w0 Kx Q else E := by
 have hw : Region.wanted o (yielded ops a.tmps) = true := by simp [Region.wanted, hgd]
 rw [if_pos hw]
 obtain ⟨v', w', hr, h2, h3⟩ := Dk.append_many (Pr := Pr) T z by_ hT hinfo hz hk he hone hown hb hl hl2 hu o.type
 unfold Oper.wp execOp
 simp only [ho, resolve, invoke, builtin, Sem.run_bind, Sem.run_pure, Result.andThen_ok, List.map_toArray, List.map_cons, List.map_nil, hs, hx, hr]
 exact h v' w' h2 h3
theorem Dk.src_one (w : World) (x : α) (cs : Array Value) (hcs : cs = (enc x).toArray) (t : TypeId) : Dk.Src enc (w.alloc (.cells cs t)) (.slice (some ⟨w.heap.size, 0, none⟩) 1 1) [x] := by
 refine .inr ⟨⟨w.heap.size, 0, none⟩, 1, rfl, fun j y hj => ?_⟩
 rw [Dk.addr_add, Nat.zero_add]
 have e1 : ([x].flatMap enc) = enc x := by simp
 rw [e1] at hj
 have hn := heap_alloc_new w (.cells cs t)
 simp only [World.cell?, hn]
 subst hcs
 simpa using hj
theorem Dk.src_cell {w : World} {b : Nat} {x : α} (h : ∀ j y, (enc x)[j]? = some y → w.cell? ⟨b, j, none⟩ = some y) : Dk.Src enc w (.slice (some ⟨b, 0, none⟩) 1 1) [x] := by
 refine .inr ⟨⟨b, 0, none⟩, 1, rfl, fun j y hj => ?_⟩
 rw [Dk.addr_add, Nat.zero_add]
 have e1 : ([x].flatMap enc) = enc x := by simp
 rw [e1] at hj
 exact h j y hj
theorem Dk.cell_new {w : World} {cs : Array Value} {t : TypeId} {x : α} (hcs : cs = (enc x).toArray) : ∀ j y, (enc x)[j]? = some y → (w.alloc (.cells cs t)).cell? ⟨w.heap.size, j, none⟩ = some y := by
 intro j y hj
 have hn := heap_alloc_new w (.cells cs t)
 simp only [World.cell?, hn]
 subst hcs
 simpa using hj
theorem Dk.wpList_append1 {Pr : Program} (T : TypeId) (z : Value) (by_ : Nat) (hT : Pr.underlying T = some (.slice e)) (hinfo : (Pr.info? e).map (fun i => (i.zero, i.size, i.bytes)) = some (some z, k, by_)) (hz : z.cells.size = k) (hk : 0 < k)
 (he : ∀ x, (enc x).length = k) (hone : ∀ x, ∀ u ∈ enc x, u.oneCell' = true) {base : Nat} {w0 : World} {v : Value} {M : List α} (x : α) (hown : Dk.Own e k enc base w0 v M) (hb : base ≤ w0.heap.size)
 (hl : (M.length + 1) * by_ ≤ 140737488355328) (hl2 : M.length + 1 ≤ 140737488355328) (q : Nat) (hq : q = w0.heap.size) (cs : Array Value) (hcs : cs = (enc x).toArray)
 {ops : Array Oper} {rest : List Oper} {o : Oper} {a : Act} {Q : Exit → Act → World → Prop} (s y : Operand) (hgd : Region.wanted o (yielded ops a.tmps) = true)
 (ho : o.op = .call { callee := .builtin .append, args := #[s, y], argTypes := #[T, T] })
 (hs : a.eval s = v) (hx : a.eval y = .slice (some ⟨q, 0, none⟩) 1 1)
 (h : ∀ v' w', Dk.Own e k enc base w' v' (M ++ [x]) → Ty.Grew w0 w' v v' → wpList Pr ops Q rest (a.put o.dst v') w') :
 wpList Pr ops Q (o :: rest) a (w0.alloc (.cells cs e)) := by
 subst hq
 exact Dk.wpList_append T z by_ hT hinfo hz hk he hone [x] (World.ownsRow.alloc hown _) (by rw [World.size_alloc]; omega) hl hl2 (Dk.src_one w0 x cs hcs e) s y hgd ho hs hx fun v' w' h1 h2 => h v' w' h1 (h2.behind _)
theorem Dk.Own.set (he : ∀ x, (enc x).length = k) {base : Nat} {w : World} {v : Value} {L : List α} (h : Dk.Own e k enc base w v L) {g : Nat} (hv : v.ownBlock = some g) {i j : Nat} {x : α} (hi : L[i]? = some x) (hj : j < k) (u : Value) (y : α) (hy : enc y = (enc x).set j u) :
 Dk.Own e k enc base (w.setCell ⟨g, i * k + j, none⟩ u) v (L.set i y) := by
 rcases h.form with ⟨rfl, rfl⟩ | ⟨g', c, rfl, hc, _, hb, hg⟩
 ·cases hi
 ·have : g' = g := by simpa [Value.ownBlock] using hv
  subst this
  have := (World.ownsRow.stored h (i * k + j) u).1
  rw [Dk.flat_set he L i x y hi j hj u hy] at this
  unfold Dk.Own
  rw [List.length_set]
  exact this
end
end Go.Proofs.YtbelkhkllneifaaGreatDoor
namespace Go.Proofs.YtbelkhkllneifaaGreatDoor
open Go.RowKit
def Bk.sv (x : Option Addr × Nat × Nat) : Value := .slice x.1 x.2.1 x.2.2
def Bk.e1 (x : Option Addr × Nat × Nat) : List Value := [Bk.sv x]
theorem Bk.e1_len (x : Option Addr × Nat × Nat) : (Bk.e1 x).length = 1 := rfl
theorem Bk.e1_one (x : Option Addr × Nat × Nat) : ∀ u ∈ Bk.e1 x, u.oneCell' = true := fun u hu => by
 simp only [Bk.e1, List.mem_cons, List.not_mem_nil, or_false] at hu
 subst hu
 rfl
theorem Bk.infoR : (Tryz.prog.info? 39).map (fun i => (i.zero, i.size, i.bytes)) = some (some (.slice none 0 0), 1, 24) := by kernel_rfl
structure Bk.Dr (w : World) (v : Value) (L : List Dd.D) (R : Nat → Option Addr × Nat × Nat) : Prop where
 is : ∃ a c, v = .slice a L.length c ∧ (L = [] ∨ ∃ b o, a = some ⟨b, o, none⟩ ∧ b < w.heap.size ∧
  ∀ i x, L[i]? = some x → w.cell? ⟨b, o + i * 2, none⟩ = some (.bool x.gone) ∧ w.cell? ⟨b, o + i * 2 + 1, none⟩ = some (Bk.sv (R i)))
theorem Bk.Dr.later {w w' : World} {v : Value} {L : List Dd.D} {R : Nat → Option Addr × Nat × Nat} (h : Bk.Dr w v L R) (g : Below w.heap.size w w') : Bk.Dr w' v L R := by
 obtain ⟨a, c, hv, h⟩ := h
 refine ⟨a, c, hv, ?_⟩
 rcases h with h | ⟨b, o, ha, hb, h⟩
 ·exact .inl h
 ·refine .inr ⟨b, o, ha, Nat.lt_of_lt_of_le hb g.size, fun i x hx => ?_⟩
  obtain ⟨c0, c1⟩ := h i x hx
  exact ⟨(g.cell (p := ⟨b, o + i * 2, none⟩) hb).trans c0, (g.cell (p := ⟨b, o + i * 2 + 1, none⟩) hb).trans c1⟩
def Bk.partsOf : Option Value → Option Addr × Nat × Nat
 | some (.slice a n c) => (a, n, c)
 | _ => (none, 0, 0)
theorem Bk.Ds.dr {w : World} {v : Value} {L : List Dd.D} (h : Bk.Ds w v L) : ∃ R, Bk.Dr w v L R ∧ ∀ i x, L[i]? = some x → Kn.Vals w (Bk.sv (R i)) x.row := by
 obtain ⟨a, c, hv, _, _, h⟩ := h
 rcases h with rfl | ⟨b, o, ha, hb, h⟩
 ·exact ⟨fun _ => (none, 0, 0), ⟨a, c, hv, .inl rfl⟩, fun i x hx => by simp at hx⟩
 ·have key : ∀ i x, L[i]? = some x → w.cell? ⟨b, o + i * 2 + 1, none⟩ = some (Bk.sv (Bk.partsOf (w.cell? ⟨b, o + i * 2 + 1, none⟩))) ∧ Kn.Vals w (Bk.sv (Bk.partsOf (w.cell? ⟨b, o + i * 2 + 1, none⟩))) x.row := fun i x hx => by
   obtain ⟨u, _, c1, hu⟩ := h i x hx
   rw [c1]
   obtain ⟨a', c', rfl, hu'⟩ := hu
   exact ⟨rfl, a', c', rfl, hu'⟩
  exact ⟨fun i => Bk.partsOf (w.cell? ⟨b, o + i * 2 + 1, none⟩), ⟨a, c, hv, .inr ⟨b, o, ha, hb, fun i x hx => ⟨(h i x hx).choose_spec.1, (key i x hx).1⟩⟩⟩, fun i x hx => (key i x hx).2⟩
def Bk.hl (i : Nat) (R : Nat → Option Addr × Nat × Nat) : Nat → List Dd.D → List (Option Addr × Nat × Nat)
 | _, [] => []
 | k, d :: r => if Bk.has i d = true then R k :: Bk.hl i R (k + 1) r else Bk.hl i R (k + 1) r
theorem Bk.hl_snoc (i : Nat) (R : Nat → Option Addr × Nat × Nat) (d : Dd.D) : ∀ (k : Nat) (A : List Dd.D), Bk.hl i R k (A ++ [d]) = Bk.hl i R k A ++ if Bk.has i d = true then [R (k + A.length)] else []
 | k, [] => by
   simp only [List.nil_append, Bk.hl, List.length_nil, Nat.add_zero]
 | k, x :: A => by
   have ih := Bk.hl_snoc i R d (k + 1) A
   simp only [List.cons_append, Bk.hl, List.length_cons]
   rw [ih, show k + 1 + A.length = k + (A.length + 1) by omega]
   split <;> simp
theorem Bk.hl_take {i : Nat} {R : Nat → Option Addr × Nat × Nat} {L : List Dd.D} {k : Nat} {d : Dd.D} (h : L[k]? = some d) : Bk.hl i R 0 (L.take (k + 1)) = Bk.hl i R 0 (L.take k) ++ if Bk.has i d = true then [R k] else [] := by
 obtain ⟨hk, rfl⟩ := List.getElem?_eq_some_iff.1 h
 rw [List.take_succ_eq_append_getElem hk, Bk.hl_snoc, List.length_take, Nat.min_eq_left (by omega), Nat.zero_add]
theorem Bk.hl_len (i : Nat) (R : Nat → Option Addr × Nat × Nat) : ∀ (k : Nat) (L : List Dd.D), (Bk.hl i R k L).length = (L.filter (Bk.has i)).length
 | _, [] => rfl
 | k, d :: L => by
   have ih := Bk.hl_len i R (k + 1) L
   unfold Bk.hl
   rw [List.filter_cons]
   split
   ·rw [List.length_cons, List.length_cons, ih]
   ·exact ih
theorem Bk.hl_at (i : Nat) (R : Nat → Option Addr × Nat × Nat) : ∀ (o : Nat) (L : List Dd.D) (k : Nat) (u : Option Addr × Nat × Nat), (Bk.hl i R o L)[k]? = some u →
 ∃ j d, L[j]? = some d ∧ Bk.has i d = true ∧ u = R (o + j) ∧ (Bk.col L i)[k]? = some (d.row.getD i Cl.nul)
 | _, [], k, u, h => by simp [Bk.hl] at h
 | o, d :: L, k, u, h => by
   unfold Bk.hl at h
   unfold Bk.col
   rw [List.filter_cons]
   by_cases hh : Bk.has i d = true
   ·rw [if_pos hh] at h
    rw [if_pos hh, List.map_cons]
    cases k with
    | zero =>
      obtain rfl : R o = u := by simpa using h
      exact ⟨0, d, rfl, hh, rfl, rfl⟩
    | succ k =>
      obtain ⟨j, d', h1, h2, h3, h4⟩ := Bk.hl_at i R (o + 1) L k u (by simpa using h)
      exact ⟨j + 1, d', by simpa using h1, h2, by rw [h3]; congr 1; omega, by simpa [Bk.col] using h4⟩
   ·rw [if_neg hh] at h ⊢
    obtain ⟨j, d', h1, h2, h3, h4⟩ := Bk.hl_at i R (o + 1) L k u h
    exact ⟨j + 1, d', by simpa using h1, h2, by rw [h3]; congr 1; omega, h4⟩
def Bk.wd (s : List Kn.C) (g : Bool) : Nat := if g = true then 1 else s.length
set_option maxRecDepth 100000 in
theorem Bk.width_c (v : Value) (s : List Kn.C) (g : Bool) (w : World) (hs : Kn.Cols w v s) :
 Calls Tryz.prog 139 #[v, .bool g] w fun e w' => e = .returned (.int .i64 (Bk.wd s g : Nat)) ∧ w' = w := by
 obtain ⟨a, c, rfl, -⟩ := hs
 cases g
 ·rw [show Bk.wd s false = s.length from rfl]
  go_enter Tryz.func139, Tryz.ntmps139
  go_wp2
  go_ret
  exact ⟨rfl, rfl⟩
 ·rw [show Bk.wd s true = 1 from rfl]
  go_enter Tryz.func139, Tryz.ntmps139
  go_wp2
  go_ret
  exact ⟨rfl, rfl⟩
def Bk.fv (p : Nat) : Value := .func (.func 145) #[] #[.pointer (some ⟨p, 0, none⟩)]
set_option maxHeartbeats 1000000 in
set_option maxRecDepth 100000 in
theorem Bk.having_c (i : Nat) (w : World) :
 Calls Tryz.prog 129 #[.int .i64 (i : Int)] w fun e w' => ∃ p, e = .returned (Bk.fv p) ∧ w.heap.size ≤ p ∧ p < w'.heap.size ∧ w'.cell? ⟨p, 0, none⟩ = some (.int .i64 (i : Int)) ∧ Below w.heap.size w w' := by
 have hx := Kn.cell_new w #[.int .i64 (i : Int)] 3 0 _ rfl
 simp only [List.getElem_toArray, List.getElem_cons_zero] at hx
 have HX := Lib.hid hx
 have HB : Hid (Below w.heap.size w (w.alloc (.cells #[.int .i64 (i : Int)] 3))) := Lib.hid ((Below.refl _ _).alloc (Nat.le_refl _) _)
 have HZ : Hid (w.heap.size < (w.alloc (.cells #[.int .i64 (i : Int)] 3)).heap.size) := Lib.hid (by simp)
 clear hx
 go_enter Tryz.func129, Tryz.ntmps129
 go_wp2
 go_ret
 exact ⟨_, rfl, Nat.le_refl _, HZ.out, HX.out, HB.out⟩
set_option maxHeartbeats 1000000 in
set_option maxRecDepth 100000 in
theorem Bk.has_c (i p : Nat) (d : Dd.D) (a : Option Addr) (n c : Nat) (w : World) (hp : w.cell? ⟨p, 0, none⟩ = some (.int .i64 (i : Int))) (hpl : p < w.heap.size) :
 Calls Tryz.prog 145 #[.agg #[.bool d.gone, .slice a n c], .pointer (some ⟨p, 0, none⟩)] w fun e w' => e = .returned (.bool (Bk.has i d)) ∧ Below w.heap.size w w' := by
 have HB : Hid (Below w.heap.size w (w.alloc (.cells #[.bool d.gone, .slice a n c] 41))) := Lib.hid ((Below.refl _ _).alloc (Nat.le_refl _) _)
 have x0 := Kn.cell_new w #[.bool d.gone, .slice a n c] 41 0 _ rfl
 simp only [List.getElem_toArray, List.getElem_cons_zero] at x0
 have y0 := (HB.out.cell (p := ⟨p, 0, none⟩) hpl).trans hp
 unfold Bk.has
 generalize d.gone = g at *
 by_cases h0 : i = 0
 ·subst h0
  rw [show ((0 == 0) || !g) = true from by simp]
  clear x0
  go_enter Tryz.func145, Tryz.ntmps145
  go_wp2
  go_ret
  exact ⟨rfl, HB.out⟩
 ·have h1 : ((i : Int) == 0) = false := by rw [beq_eq_false_iff_ne]; omega
  have h2 : (i == 0) = false := by rw [beq_eq_false_iff_ne]; exact h0
  rw [h2, Bool.false_or]
  clear h2 h0
  cases g
  all_goals
   go_enter Tryz.func145, Tryz.ntmps145
   go_wp2
   go_ret
   exact ⟨rfl, HB.out⟩
end Go.Proofs.YtbelkhkllneifaaGreatDoor
namespace Go.Proofs.YtbelkhkllneifaaGreatDoor
open Go.RowKit
theorem Rn.infoB : (Tryz.prog.info? 23).map (fun i => (i.zero, i.size, i.bytes)) = some (some (.slice none 0 0), 1, 24) := by kernel_rfl
def Rn.part (b o n c i : Nat) : Option Addr × Nat × Nat := (some ⟨b, o + 8 * i * 2, none⟩, min 8 (n - 8 * i), c - 8 * i)
def Rn.parts (b o n c k : Nat) : List (Option Addr × Nat × Nat) := (List.range k).map (Rn.part b o n c)
theorem Rn.parts_len (b o n c k : Nat) : (Rn.parts b o n c k).length = k := by unfold Rn.parts; simp
theorem Rn.parts_at {b o n c k i : Nat} (h : i < k) : (Rn.parts b o n c k)[i]? = some (Rn.part b o n c i) := by
 unfold Rn.parts
 rw [List.getElem?_map, List.getElem?_range h]
 rfl
theorem Rn.parts_next (b o n c k : Nat) : Rn.parts b o n c (k + 1) = Rn.parts b o n c k ++ [Rn.part b o n c k] := by
 unfold Rn.parts
 rw [List.range_succ, List.map_append]
 rfl
theorem Rn.ds_part {w : World} {b o c : Nat} {L : List Dd.D} (h : Bk.Ds w (.slice (some ⟨b, o, none⟩) L.length c) L) {i : Nat} (hi : i < Rn.nb L.length) : Bk.Ds w (Bk.sv (Rn.part b o L.length c i)) (Rn.bk L i) := by
 obtain ⟨a', c', e, h1, h2, h⟩ := h
 simp only [Value.slice.injEq] at e
 obtain ⟨rfl, _, rfl⟩ := e
 have hn := Rn.nb_le hi
 rcases h with h | ⟨b', o', e, hb, h⟩
 ·rw [h] at hn; simp at hn
 ·cases e
  refine ⟨_, c - 8 * i, by unfold Bk.sv Rn.part; rw [Rn.bk_len], by rw [Rn.bk_len]; omega, by omega, .inr ⟨b, o + 8 * i * 2, rfl, hb, fun j x hx => ?_⟩⟩
  rw [Rn.bk_at] at hx
  by_cases hj : j < 8
  ·rw [if_pos hj] at hx
   obtain ⟨u, c0, c1, hu⟩ := h (8 * i + j) x hx
   refine ⟨u, ?_, ?_, hu⟩
   ·rw [← c0]; congr 2; omega
   ·rw [← c1]; congr 2; omega
  ·rw [if_neg hj] at hx; cases hx
set_option maxHeartbeats 2000000 in
set_option maxRecDepth 100000 in
theorem Rn.rblocks_c (b o n c : Nat) (w : World) (hn : 0 < n) (hc : n ≤ c) (hn2 : n ≤ 1048576) :
 Calls Tryz.prog 39 #[.slice (some ⟨b, o, none⟩) n c] w fun e w' => ∃ u, e = .returned u ∧ Dk.Own 23 1 Bk.e1 w.heap.size w' u (Rn.parts b o n c (Rn.nb n)) ∧ Below w.heap.size w w' := by
 have HC := Lib.hid hc
 have HN := Lib.hid (And.intro hn hn2)
 have h0 : (0 : Int) ≤ (n : Int) := by omega
 clear hn2
 go_enter Tryz.func39, Tryz.ntmps39
 go_wp2_with fail
 go_loopw [3, 4] (fun out i wr => ∃ k p : Nat, k ≤ Rn.nb n ∧ p = 8 * k ∧ i = .int .i64 p ∧ Dk.Own 23 1 Bk.e1 w.heap.size wr out (Rn.parts b o n c k) ∧ Below w.heap.size w wr) (fun _ i _ => n - (intOf i).toNat)
 case atStart => exact ⟨0, 0, Nat.zero_le _, rfl, rfl, Dk.Own.nil _ _, Below.refl _ _⟩
 case round =>
  obtain ⟨k, p, hk, hp, rfl, hO, hB⟩ := hrel
  have HP := Lib.hid hp
  have HK := Lib.hid hk
  have HB := Lib.hid hB
  have HO := Lib.hid hO
  have hml : (Rn.parts b o n c k).length = k := Rn.parts_len ..
  have hnx := Rn.parts_next b o n c k
  have HNX := Lib.hid hnx
  have HML : Hid ((Rn.parts b o n c k).length ≤ 131073) := Lib.hid (by rw [hml]; have := HN.out; unfold Rn.nb at hk; omega)
  have hp0 : (0 : Int) ≤ (p : Int) := by omega
  by_cases hl : p < n
  ·have hpn : (p : Int) < (n : Int) := by omega
   have hpc : p ≤ c := by have := HC.out; omega
   have hpm : (p : Int) ≤ 1048576 := by have := HN.out; omega
   have HPL := Lib.hid hl
   have hbs := hB.size
   have hml2 := HML.out
   clear hp hk hml hnx hB
   by_cases h8n : p + 8 ≤ n
   ·have e8 : (p : Int) + 8 ≤ (n : Int) := by omega
    have HE : Hid (Rn.part b o n c k = (some ⟨b, o + p * 2, none⟩, 8, c - p)) := Lib.hid (by unfold Rn.part; rw [HP.out, Nat.min_eq_left (by have := HP.out; omega)])
    go_wp2_with (at_builtin; refine Dk.wpList_append1 85 _ 24 Tryz.underlying85 Rn.infoB rfl (by decide) Bk.e1_len Bk.e1_one (some ⟨b, o + p * 2, none⟩, 8, c - p) hO hbs (by omega) (by omega) _ rfl _ rfl (.tmp 11) (.tmp 20) (by rfl) (by rfl) (by rfl) (by rfl) ?_; intro v5 w5 h5 g5)
    have H5 := Lib.hid h5
    have HB5 := Lib.hid (Dk.own_below HB.out hO g5)
    clear h5 g5 hO hbs hml2
    go_roundw
    case rel => exact ⟨k + 1, p + 8, by have := HP.out; have := HPL.out; unfold Rn.nb; omega, by have := HP.out; omega, by simp, by rw [HNX.out, HE.out]; exact H5.out, HB5.out⟩
    case measure => (have := HPL.out; simp [intOf]; omega)
   ·have e8 : ¬ (p : Int) + 8 ≤ (n : Int) := by omega
    have e9 : (n : Int) < (p : Int) + 8 := by omega
    have HE : Hid (Rn.part b o n c k = (some ⟨b, o + p * 2, none⟩, n - p, c - p)) := Lib.hid (by unfold Rn.part; rw [HP.out, Nat.min_eq_right (by have := HP.out; omega)])
    clear h8n
    go_wp2_with (at_builtin; refine Dk.wpList_append1 85 _ 24 Tryz.underlying85 Rn.infoB rfl (by decide) Bk.e1_len Bk.e1_one (some ⟨b, o + p * 2, none⟩, n - p, c - p) hO hbs (by omega) (by omega) _ rfl _ rfl (.tmp 11) (.tmp 20) (by rfl) (by rfl) (by rfl) (by rfl) ?_; intro v5 w5 h5 g5)
    have H5 := Lib.hid h5
    have HB5 := Lib.hid (Dk.own_below HB.out hO g5)
    clear h5 g5 hO hbs hml2
    go_roundw
    case rel => exact ⟨k + 1, p + 8, by have := HP.out; have := HPL.out; unfold Rn.nb; omega, by have := HP.out; omega, by simp, by rw [HNX.out, HE.out]; exact H5.out, HB5.out⟩
    case measure => (have := HPL.out; simp [intOf]; omega)
  ·have hpn : ¬ (p : Int) < (n : Int) := by omega
   obtain rfl : k = Rn.nb n := by have := HN.out; unfold Rn.nb at hk ⊢; omega
   clear hl hk hp hml hnx hB
   go_wp2
   go_ret
   exact ⟨_, rfl, HO.out, HB.out⟩
end Go.Proofs.YtbelkhkllneifaaGreatDoor
namespace Go.Proofs.YtbelkhkllneifaaGreatDoor
open Go.RowKit
end Go.Proofs.YtbelkhkllneifaaGreatDoor
namespace Go.Proofs.YtbelkhkllneifaaGreatDoor
open Go.RowKit
open Ty (encU num txt)
open Tx (restT)
open Ig (rest sg)
theorem Tx.grew_by {w w' : World} {v v' : Value} (h : Ty.Grew w w' v v') {w0 : World} {b : Nat} (g : w0.grownBy w (some b)) (hv : ∀ k, v.ownBlock = some k → w0.heap.size ≤ k) : w0.grownBy w' (some b) :=
 ⟨h.by_.os.trans g.os, h.by_.tape.trans g.tape, h.by_.output.trans g.output, Nat.le_trans g.size h.by_.size, fun k hk hn => (h.by_.block k (Nat.lt_of_lt_of_le hk g.size) (fun e => by have := hv k e.symm; omega)).trans (g.block k hk hn)⟩
theorem Tx.below_by {w w' w0 : World} (h : Below w.heap.size w w') {b : Nat} (g : w0.grownBy w (some b)) : w0.grownBy w' (some b) :=
 ⟨h.os.trans g.os, h.tape.trans g.tape, h.output.trans g.output, Nat.le_trans g.size h.size, fun k hk hn => (h.block k (Nat.lt_of_lt_of_le hk g.size)).trans (g.block k hk hn)⟩
end Go.Proofs.YtbelkhkllneifaaGreatDoor
namespace Go.Proofs.YtbelkhkllneifaaGreatDoor
open Go.RowKit
def Dd.same (a b : Dd.D) : Bool := (a.gone == b.gone) && Kn.sameR a.row b.row
end Go.Proofs.YtbelkhkllneifaaGreatDoor
