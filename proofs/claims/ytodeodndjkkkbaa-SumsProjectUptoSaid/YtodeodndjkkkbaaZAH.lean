import Derived.Test.YtodeodndjkkkbaaZAA
import Derived.Test.YtodeodndjkkkbaaZAD
import Derived.Laws.AppendOwnNone
import Derived.OneCell
import Derived.Laws.OwnMore
import Derived.Deep.Onto
import Derived.Test.YtodeodndjkkkbaaZAG
import Derived.Test.YtodeodndjkkkbaaZAE
import Derived.Test.YtodeodndjkkkbaaZAB
import Derived.Lib.QuietBelow
import Derived.BigQuiet
namespace Go.Proofs.Ytodeodndjkkkbaa.Dk
open Go
abbrev Str := List UInt8
abbrev Dir := List (Str × Nat)
structure Ch where
 a : Str
 b : Str
 f : Int
structure D where
 files : List (Str × Nat)
 dir : Dir
 sure : Dir
 chg : List Ch
 room : Int
 halt : Int
 deny : Int
 calls : Nat
def okc (b : UInt8) : Bool := (97 ≤ b.toNat && b.toNat ≤ 122) || (48 ≤ b.toNat && b.toNat ≤ 57) || b.toNat == 46
def right (s : Str) : Bool := s.all okc && (1 ≤ s.length && s.length ≤ 12)
def lt (a b : Str) : Bool := Op.bytesLess a b
theorem lt_trans {a b c : Str} : lt a b = true → lt b c = true → lt a c = true := Kn.bl_trans a b c
theorem lt_ne {a b : Str} (h : lt a b = true) : a ≠ b := (Kn.bl_ne h).2
theorem lt_total {a b : Str} (h : lt a b = false) (n : a ≠ b) : lt b a = true := by
 rcases Kn.bl_total a b with g | g | g
 ·rw [lt, g] at h; cases h
 ·exact absurd g n
 ·exact g
def look (l : Dir) (s : Str) : Option Nat := (l.find? fun y => y.1 == s).map (·.2)
def wo (l : Dir) (s : Str) : Dir := l.filter fun y => y.1 != s
def wi (l : Dir) (x : Str × Nat) : Dir := (wo l x.1).takeWhile (fun y => lt y.1 x.1) ++ x :: (wo l x.1).dropWhile (fun y => lt y.1 x.1)
def Asc (l : Dir) : Prop := l.Pairwise fun x y => lt x.1 y.1 = true
theorem mem_wo {l : Dir} {s : Str} {y : Str × Nat} : y ∈ wo l s ↔ y ∈ l ∧ y.1 ≠ s := by
 unfold wo
 rw [List.mem_filter]
 simp
theorem mem_split (p : (Str × Nat) → Bool) (l : Dir) (y : Str × Nat) : y ∈ l ↔ y ∈ l.takeWhile p ∨ y ∈ l.dropWhile p := by
 conv => lhs; rw [← List.takeWhile_append_dropWhile (p := p) (l := l)]
 rw [List.mem_append]
theorem mem_wi {l : Dir} {x y : Str × Nat} : y ∈ wi l x ↔ y = x ∨ (y ∈ l ∧ y.1 ≠ x.1) := by
 unfold wi
 rw [List.mem_append, List.mem_cons, ← mem_wo, mem_split (fun y => lt y.1 x.1) (wo l x.1) y]
 constructor
 ·rintro (h | h | h)
  ·exact .inr (.inl h)
  ·exact .inl h
  ·exact .inr (.inr h)
 ·rintro (h | h | h)
  ·exact .inr (.inl h)
  ·exact .inl h
  ·exact .inr (.inr h)
theorem asc_wo {l : Dir} (h : Asc l) (s : Str) : Asc (wo l s) := List.Pairwise.filter _ h
theorem asc_drop {l : Dir} (h : Asc l) (x : Str) (hx : ∀ y ∈ l, y.1 ≠ x) : ∀ y ∈ l.dropWhile (fun y => lt y.1 x), lt x y.1 = true := by
 induction l with
 | nil => simp
 | cons a l ih =>
   rw [Asc, List.pairwise_cons] at h
   by_cases hl : lt a.1 x = true
   ·rw [List.dropWhile_cons_of_pos (p := fun y : Str × Nat => lt y.1 x) hl]
    exact ih h.2 fun y hy => hx y (List.mem_cons_of_mem _ hy)
   ·rw [List.dropWhile_cons_of_neg (p := fun y : Str × Nat => lt y.1 x) hl]
    have ha := lt_total (by simpa using hl) (hx a List.mem_cons_self)
    intro y hy
    rcases List.mem_cons.1 hy with rfl | hy
    ·exact ha
    ·exact lt_trans ha (h.1 y hy)
theorem take_lt (p : (Str × Nat) → Bool) (l : Dir) : ∀ y ∈ l.takeWhile p, p y = true := by
 induction l with
 | nil => simp
 | cons a l ih =>
   by_cases ha : p a = true
   ·rw [List.takeWhile_cons_of_pos ha]
    intro y hy
    rcases List.mem_cons.1 hy with rfl | hy
    ·exact ha
    ·exact ih y hy
   ·rw [List.takeWhile_cons_of_neg ha]
    simp
theorem asc_wi {l : Dir} (h : Asc l) (x : Str × Nat) : Asc (wi l x) := by
 have hw := asc_wo h x.1
 have hd := asc_drop hw x.1 fun y hy => (mem_wo.1 hy).2
 have ht := take_lt (fun y => lt y.1 x.1) (wo l x.1)
 unfold wi Asc
 rw [List.pairwise_append]
 refine ⟨hw.sublist (List.takeWhile_sublist _), ?_, ?_⟩
 ·rw [List.pairwise_cons]
  exact ⟨hd, hw.sublist (List.dropWhile_sublist _)⟩
 ·intro a ha b hb
  have h1 := ht a ha
  rcases List.mem_cons.1 hb with rfl | hb
  ·exact h1
  ·exact lt_trans h1 (hd b hb)
theorem asc_inj {l : Dir} (h : Asc l) {x y : Str × Nat} (hx : x ∈ l) (hy : y ∈ l) (e : x.1 = y.1) : x = y := by
 induction l with
 | nil => cases hx
 | cons a l ih =>
   rw [Asc, List.pairwise_cons] at h
   rcases List.mem_cons.1 hx with gx | gx <;> rcases List.mem_cons.1 hy with gy | gy
   ·rw [gx, gy]
   ·exact absurd e (by rw [gx]; exact lt_ne (h.1 y gy))
   ·exact absurd e.symm (by rw [gy]; exact lt_ne (h.1 x gx))
   ·exact ih h.2 gx gy
theorem look_some {l : Dir} (h : Asc l) {s : Str} {f : Nat} : look l s = some f ↔ (s, f) ∈ l := by
 unfold look
 constructor
 ·intro e
  cases hf : l.find? fun y => y.1 == s with
  | none => rw [hf] at e; cases e
  | some y =>
    rw [hf] at e
    have h1 := List.mem_of_find?_eq_some hf
    have h2 := List.find?_some hf
    simp only [beq_iff_eq] at h2
    simp only [Option.map_some, Option.some.injEq] at e
    rw [← h2, ← e]
    exact h1
 ·intro hm
  cases hf : l.find? fun y => y.1 == s with
  | none =>
    have := List.find?_eq_none.1 hf _ hm
    simp at this
  | some y =>
    have h1 := List.mem_of_find?_eq_some hf
    have h2 := List.find?_some hf
    simp only [beq_iff_eq] at h2
    rw [asc_inj h h1 hm h2]
    rfl
theorem len_wo (l : Dir) (s : Str) : (wo l s).length ≤ l.length := List.length_filter_le _ _
theorem len_wi (l : Dir) (x : Str × Nat) : (wi l x).length ≤ l.length + 1 := by
 have := len_wo l x.1
 have e : ((wo l x.1).takeWhile (fun y => lt y.1 x.1)).length + ((wo l x.1).dropWhile (fun y => lt y.1 x.1)).length = (wo l x.1).length := by
  rw [← List.length_append, List.takeWhile_append_dropWhile]
 unfold wi
 rw [List.length_append, List.length_cons]
 omega
def apply (l : Dir) (c : Ch) : Dir :=
 if c.b ≠ [] then (match look l c.a with | none => l | some f => wi (wo l c.a) (c.b, f))
 else if c.f < 0 then wo l c.a else wi l (c.a, c.f.toNat)
def Ok (n : Nat) (l : Dir) (c : Ch) : Prop :=
 if c.b ≠ [] then ∃ f, look l c.a = some f ∧ c.a ≠ c.b
 else if c.f < 0 then ∃ f, look l c.a = some f else look l c.a = none ∧ c.f.toNat < n ∧ ∀ y ∈ l, y.2 ≠ c.f.toNat
structure Well (n : Nat) (l : Dir) : Prop where
 asc : Asc l
 one : (l.map (·.2)).Nodup
 lim : ∀ y ∈ l, y.2 < n
theorem Well.mono {n m : Nat} {l : Dir} (h : Well n l) (hm : n ≤ m) : Well m l := ⟨h.asc, h.one, fun y hy => Nat.lt_of_lt_of_le (h.lim y hy) hm⟩
theorem Well.nil (n : Nat) : Well n [] := ⟨List.Pairwise.nil, List.nodup_nil, by simp⟩
theorem Well.wo {n : Nat} {l : Dir} (h : Well n l) (s : Str) : Well n (wo l s) :=
 ⟨asc_wo h.asc s, h.one.sublist ((List.filter_sublist (p := fun y : Str × Nat => y.1 != s) (l := l)).map _), fun y hy => h.lim y (mem_wo.1 hy).1⟩
theorem perm_wi (l : Dir) (x : Str × Nat) : (wi l x).Perm (x :: Dk.wo l x.1) := by
 have h : (wi l x).Perm (x :: ((Dk.wo l x.1).takeWhile (fun y => lt y.1 x.1) ++ (Dk.wo l x.1).dropWhile (fun y => lt y.1 x.1))) := List.perm_middle
 rwa [List.takeWhile_append_dropWhile] at h
theorem Well.wi {n : Nat} {l : Dir} (h : Well n l) (x : Str × Nat) (hx : x.2 < n) (hf : ∀ y ∈ Dk.wo l x.1, y.2 ≠ x.2) : Well n (wi l x) := by
 refine ⟨asc_wi h.asc x, ?_, fun y hy => ?_⟩
 ·have hp := (perm_wi l x).map (fun y : Str × Nat => y.2)
  rw [hp.nodup_iff, List.map_cons, List.nodup_cons]
  refine ⟨fun hm => ?_, (h.wo x.1).one⟩
  obtain ⟨y, hy, e⟩ := List.mem_map.1 hm
  exact hf y hy e
 ·rcases mem_wi.1 hy with rfl | ⟨hy, _⟩
  ·exact hx
  ·exact h.lim y hy
theorem Well.inj {n : Nat} {l : Dir} (h : Well n l) {x y : Str × Nat} (hx : x ∈ l) (hy : y ∈ l) (e : x.2 = y.2) : x = y := by
 have h1 := h.one
 induction l with
 | nil => cases hx
 | cons a l ih =>
   rw [List.map_cons, List.nodup_cons] at h1
   have ha := h.asc
   rw [Asc, List.pairwise_cons] at ha
   rcases List.mem_cons.1 hx with gx | gx <;> rcases List.mem_cons.1 hy with gy | gy
   ·rw [gx, gy]
   ·exact absurd (List.mem_map.2 ⟨y, gy, by rw [← gx]; exact e.symm⟩) h1.1
   ·exact absurd (List.mem_map.2 ⟨x, gx, by rw [← gy]; exact e⟩) h1.1
   ·exact ih ⟨ha.2, h1.2, fun y hy => h.lim y (List.mem_cons_of_mem _ hy)⟩ gx gy h1.2
theorem Well.apply {n : Nat} {l : Dir} (h : Well n l) {c : Ch} (hc : Ok n l c) : Well n (apply l c) := by
 unfold Ok at hc
 unfold Dk.apply
 by_cases hb : c.b ≠ []
 ·rw [if_pos hb] at hc ⊢
  obtain ⟨f, hf, hne⟩ := hc
  rw [hf]
  have hm := (look_some h.asc).1 hf
  refine (h.wo c.a).wi (c.b, f) (h.lim (c.a, f) hm) fun y hy e => ?_
  have h1 := mem_wo.1 hy
  have h2 := mem_wo.1 h1.1
  exact h2.2 (congrArg Prod.fst (h.inj h2.1 hm e))
 ·rw [if_neg hb] at hc ⊢
  by_cases hf : c.f < 0
  ·rw [if_pos hf]; exact h.wo _
  ·rw [if_neg hf] at hc ⊢
   exact h.wi _ hc.2.1 fun y hy => hc.2.2 y (mem_wo.1 hy).1
theorem len_apply (l : Dir) (c : Ch) : (apply l c).length ≤ l.length + 1 := by
 unfold apply
 split
 ·split
  ·omega
  ·next f _ =>
   have := len_wo l c.a
   have := len_wi (wo l c.a) (c.b, f)
   omega
 ·split
  ·have := len_wo l c.a; omega
  ·exact len_wi _ _
def Chain (n : Nat) : Dir → List Ch → Dir → Prop
 | l, [], d => l = d
 | l, c :: cs, d => Ok n l c ∧ Chain n (apply l c) cs d
def fold (l : Dir) (cs : List Ch) : Dir := cs.foldl apply l
theorem Chain.fold {n : Nat} : ∀ {l : Dir} {cs : List Ch} {d : Dir}, Chain n l cs d → d = Dk.fold l cs
 | _, [], _, h => h.symm
 | _, _ :: _, _, h => by
   have := Chain.fold h.2
   exact this
theorem Ok.mono {n m : Nat} {l : Dir} {c : Ch} (h : Ok n l c) (hm : n ≤ m) : Ok m l c := by
 unfold Ok at h ⊢
 split
 ·next hb => rwa [if_pos hb] at h
 ·next hb =>
  rw [if_neg hb] at h
  split
  ·next hf => rwa [if_pos hf] at h
  ·next hf => rw [if_neg hf] at h; exact ⟨h.1, by omega, h.2.2⟩
theorem Chain.mono {n m : Nat} (hm : n ≤ m) : ∀ {l : Dir} {cs : List Ch} {d : Dir}, Chain n l cs d → Chain m l cs d
 | _, [], _, h => h
 | _, _ :: _, _, h => ⟨h.1.mono hm, Chain.mono hm h.2⟩
theorem Chain.snoc {n : Nat} {c : Ch} : ∀ {l : Dir} {cs : List Ch} {d : Dir}, Chain n l cs d → Ok n d c → Chain n l (cs ++ [c]) (apply d c)
 | _, [], _, h, hc => by
   cases h
   exact ⟨hc, rfl⟩
 | _, _ :: _, _, h, hc => ⟨h.1, Chain.snoc h.2 hc⟩
theorem Chain.take {n : Nat} : ∀ {l : Dir} {cs : List Ch} {d : Dir} (k : Nat), Chain n l cs d → Chain n l (cs.take k) (Dk.fold l (cs.take k))
 | _, [], _, k, h => by rw [List.take_nil]; rfl
 | _, _ :: _, _, 0, h => rfl
 | _, c :: cs, _, k + 1, h => ⟨h.1, Chain.take k h.2⟩
theorem Chain.well {n : Nat} : ∀ {l : Dir} {cs : List Ch} {d : Dir}, Well n l → Chain n l cs d → Well n d
 | _, [], _, hw, h => by cases h; exact hw
 | _, _ :: _, _, hw, h => Chain.well (hw.apply h.1) h.2
theorem len_fold : ∀ (cs : List Ch) (l : Dir), (fold l cs).length ≤ l.length + cs.length
 | [], l => by simp [fold]
 | c :: cs, l => by
   have h1 := len_fold cs (apply l c)
   have h2 := len_apply l c
   rw [List.length_cons]
   have : fold l (c :: cs) = fold (apply l c) cs := rfl
   rw [this]
   omega
structure Inv (d : D) : Prop where
 chain : Chain d.files.length d.sure d.chg d.dir
 well : Well d.files.length d.sure
 part : ∀ x ∈ d.files, x.2 ≤ x.1.length
theorem Inv.dir {d : D} (h : Inv d) : Well d.files.length d.dir := h.chain.well h.well
def size (fs : List (Str × Nat)) : Nat := (fs.map fun x => x.1.length).sum
structure Sz (n : Nat) (d : D) : Prop where
 files : d.files.length ≤ n
 dirs : d.sure.length + d.chg.length ≤ n
 bytes : size d.files ≤ n * 1048576
 calls : d.calls ≤ n
theorem Sz.dir {n : Nat} {d : D} (h : Sz n d) (hi : Inv d) : d.dir.length ≤ n := by
 have := len_fold d.chg d.sure
 rw [← hi.chain.fold] at this
 have := h.dirs
 omega
theorem Sz.mono {n m : Nat} {d : D} (h : Sz n d) (hm : n ≤ m) : Sz m d :=
 ⟨Nat.le_trans h.files hm, Nat.le_trans h.dirs hm, Nat.le_trans h.bytes (Nat.mul_le_mul_right _ hm), Nat.le_trans h.calls hm⟩
end Go.Proofs.Ytodeodndjkkkbaa.Dk
namespace Go.Proofs.Ytodeodndjkkkbaa.Dk
open Go
def file (fs : List (Str × Nat)) (f : Nat) : Str × Nat := fs.getD f ([], 0)
def heldL (fs : List (Str × Nat)) (l : Dir) : Nat := (l.map fun y => (file fs y.2).1.length).sum
def held (d : D) : Nat := heldL d.files d.dir
def callE (d : D) : Nat := if 0 ≤ d.halt ∧ d.halt ≤ (d.calls : Int) then 11 else if (d.calls : Int) = d.deny then 9 else 0
def tick (d : D) : D := { d with calls := d.calls + 1 }
def change (d : D) (c : Ch) : D := { d with dir := apply d.dir c, chg := d.chg ++ [c] }
def grow (d : D) : D := { d with files := d.files ++ [([], 0)] }
def put (d : D) (f : Nat) (x : Str × Nat) : D := { d with files := d.files.set f x }
def create (d : D) (n : Str) : D × Nat :=
 if callE d ≠ 0 then (tick d, callE d) else if right n = false ∨ look d.dir n ≠ none then (tick d, 12)
 else (change (grow (tick d)) ⟨n, [], (d.files.length : Int)⟩, 0)
def append (d : D) (n s : Str) : D × Nat :=
 if callE d ≠ 0 then (tick d, callE d) else match look d.dir n with
 | none => (tick d, 12)
 | some f => if d.room - (held d : Int) < (s.length : Int) then (tick d, 10) else (put (tick d) f ((file d.files f).1 ++ s, (file d.files f).2), 0)
def sync (d : D) (n : Str) : D × Nat :=
 if callE d ≠ 0 then (tick d, callE d) else match look d.dir n with
 | none => (tick d, 12)
 | some f => (put (tick d) f ((file d.files f).1, (file d.files f).1.length), 0)
def rename (d : D) (a b : Str) : D × Nat :=
 if callE d ≠ 0 then (tick d, callE d) else if look d.dir a = none ∨ right b = false ∨ a = b then (tick d, 12) else (change (tick d) ⟨a, b, 0⟩, 0)
def remove (d : D) (n : Str) : D × Nat :=
 if callE d ≠ 0 then (tick d, callE d) else if look d.dir n = none then (tick d, 12) else (change (tick d) ⟨n, [], -1⟩, 0)
def syncDir (d : D) : D × Nat :=
 if callE d ≠ 0 then (tick d, callE d) else ({ tick d with sure := d.dir, chg := [] }, 0)
def space (d : D) (n : Int) : D := { d with room := max n 0 }
def later (d : D) (n : Int) : Int := if n < 0 ∨ 1099511627776 < n then -1 else (d.calls : Int) + n
def stop (d : D) (n : Int) : D := { d with halt := later d n }
def refuse (d : D) (n : Int) : D := { d with deny := later d n }
def keepAt (keep : List Int) (i : Nat) : Int := if keep = [] then 0 else max (keep.getD (i % keep.length) 0) 0
def cutN (x : Str × Nat) (k : Int) : Nat := x.2 + min k.toNat (x.1.length - x.2)
def cut (fs : List (Str × Nat)) (f : Nat) (k : Int) : List (Str × Nat) := fs.set f ((file fs f).1.take (cutN (file fs f) k), cutN (file fs f) k)
def cuts (keep : List Int) : Nat → List (Str × Nat) → Dir → List (Str × Nat)
 | _, fs, [] => fs
 | i, fs, y :: l => cuts keep (i + 1) (cut fs y.2 (keepAt keep i)) l
def crashDir (d : D) (n : Int) : Dir := fold d.sure (d.chg.take n.toNat)
def crash (d : D) (n : Int) (keep : List Int) : D :=
 { d with files := cuts keep 0 d.files (crashDir d n), dir := crashDir d n, sure := crashDir d n, chg := [], halt := -1, deny := -1 }
def read (d : D) (n : Str) : Str × Nat := match look d.dir n with | none => ([], 12) | some f => ((file d.files f).1, 0)
def names (d : D) : List Str := d.dir.map (·.1)
structure Op where
 kind : Nat
 a : Str
 b : Str
 n : Int
 keep : List Int
def step (d : D) (o : Op) : D × Nat :=
 if o.kind = 0 then create d o.a else if o.kind = 1 then append d o.a o.b else if o.kind = 2 then sync d o.a else if o.kind = 3 then rename d o.a o.b
 else if o.kind = 4 then remove d o.a else if o.kind = 5 then syncDir d else if o.kind = 6 then (space d o.n, 0) else if o.kind = 7 then (stop d o.n, 0)
 else if o.kind = 8 then (refuse d o.n, 0) else (crash d o.n o.keep, 0)
theorem file_set (fs : List (Str × Nat)) (f g : Nat) (x : Str × Nat) (hf : f < fs.length) : file (fs.set f x) g = if f = g then x else file fs g := by
 unfold file
 rw [List.getD, List.getD, List.getElem?_set]
 by_cases h : f = g
 ·rw [if_pos h, if_pos h, if_pos hf]; rfl
 ·rw [if_neg h, if_neg h]
theorem getD_lt {fs : List (Str × Nat)} {f : Nat} (h : f < fs.length) : fs.getD f ([], 0) = fs[f] := by
 rw [List.getD, List.getElem?_eq_getElem h]
 rfl
theorem file_mem {fs : List (Str × Nat)} {f : Nat} (h : f < fs.length) : file fs f ∈ fs := by
 unfold file
 rw [getD_lt h]
 exact List.getElem_mem h
theorem mem_set {fs : List (Str × Nat)} {f : Nat} {x y : Str × Nat} (h : y ∈ fs.set f x) : y = x ∨ y ∈ fs := by
 rcases List.mem_or_eq_of_mem_set h with h | h
 ·exact .inr h
 ·exact .inl h
theorem size_set (fs : List (Str × Nat)) : ∀ (f : Nat) (x : Str × Nat), f < fs.length → size (fs.set f x) + (file fs f).1.length = size fs + x.1.length := by
 induction fs with
 | nil => intro f x h; simp at h
 | cons a fs ih =>
   intro f x h
   cases f with
   | zero =>
     have : file (a :: fs) 0 = a := rfl
     rw [this, List.set_cons_zero]
     simp only [size, List.map_cons, List.sum_cons]
     omega
   | succ f =>
     have e : file (a :: fs) (f + 1) = file fs f := rfl
     have := ih f x (by simpa using h)
     rw [e, List.set_cons_succ]
     simp only [size, List.map_cons, List.sum_cons] at this ⊢
     omega
theorem size_snoc (fs : List (Str × Nat)) (x : Str × Nat) : size (fs ++ [x]) = size fs + x.1.length := by
 simp [size]
theorem Inv.tick {d : D} (h : Inv d) : Inv (tick d) := ⟨h.chain, h.well, h.part⟩
theorem Sz.tick {n : Nat} {d : D} (h : Sz n d) : Sz (n + 1) (tick d) :=
 ⟨Nat.le_succ_of_le h.files, Nat.le_succ_of_le h.dirs, Nat.le_trans h.bytes (Nat.mul_le_mul_right _ (Nat.le_succ _)), Nat.succ_le_succ h.calls⟩
theorem Inv.change {d : D} (h : Inv d) {c : Ch} (hc : Ok d.files.length d.dir c) : Inv (change d c) := ⟨h.chain.snoc hc, h.well, h.part⟩
theorem Inv.grow {d : D} (h : Inv d) : Inv (grow d) := by
 have hl : d.files.length ≤ (d.files ++ [(([] : Str), 0)]).length := by simp
 refine ⟨h.chain.mono hl, h.well.mono hl, fun x hx => ?_⟩
 rcases List.mem_append.1 hx with hx | hx
 ·exact h.part x hx
 ·rw [List.mem_singleton.1 hx]; exact Nat.le_refl _
theorem Inv.put {d : D} (h : Inv d) (f : Nat) {x : Str × Nat} (hx : x.2 ≤ x.1.length) : Inv (put d f x) := by
 have hl : (d.files.set f x).length = d.files.length := List.length_set
 refine ⟨?_, ?_, fun y hy => ?_⟩
 ·show Chain (d.files.set f x).length _ _ _
  rw [hl]; exact h.chain
 ·show Well (d.files.set f x).length _
  rw [hl]; exact h.well
 ·rcases mem_set hy with rfl | hy
  ·exact hx
  ·exact h.part y hy
theorem Inv.dirlt {d : D} (h : Inv d) {n : Str} {f : Nat} (hf : look d.dir n = some f) : f < d.files.length := h.dir.lim _ ((look_some h.dir.asc).1 hf)
theorem Inv.file {d : D} (h : Inv d) (f : Nat) : (file d.files f).2 ≤ (file d.files f).1.length := by
 by_cases hf : f < d.files.length
 ·exact h.part _ (file_mem hf)
 ·unfold Dk.file
  rw [List.getD, List.getElem?_eq_none (by omega)]
  exact Nat.le_refl _
theorem right_ne {b : Str} (h : right b ≠ false) : b ≠ [] := fun e => by rw [e] at h; exact h rfl
theorem Inv.create {d : D} (h : Inv d) (n : Str) : Inv (create d n).1 := by
 unfold Dk.create
 split
 ·exact h.tick
 ·split
  ·exact h.tick
  ·next hn =>
   refine Inv.change h.tick.grow ?_
   have h2 : look d.dir n = none := by
    cases hl : look d.dir n with
    | none => rfl
    | some f => exact absurd (Or.inr (by rw [hl]; simp)) hn
   unfold Ok
   rw [if_neg (by simp), if_neg (by simp)]
   refine ⟨h2, ?_, fun y hy e => ?_⟩
   ·show (Int.toNat (d.files.length : Int)) < (d.files ++ [(([] : Str), 0)]).length
    simp
   ·have h3 := h.dir.lim y hy
    simp only [Int.toNat_natCast] at e
    omega
set_option maxRecDepth 100000 in
theorem Sz.create {k : Nat} {d : D} (h : Sz k d) (n : Str) : Sz (k + 1) (create d n).1 := by
 unfold Dk.create
 split
 ·exact h.tick
 ·split
  ·exact h.tick
  ·have := h.files
   have := h.dirs
   have := h.bytes
   have := h.calls
   refine ⟨?_, ?_, ?_, ?_⟩
   ·show (d.files ++ [(([] : Str), 0)]).length ≤ _
    simp; omega
   ·show d.sure.length + (d.chg ++ [_]).length ≤ _
    simp; omega
   ·exact Nat.le_trans (Nat.le_of_eq (size_snoc d.files ([], 0))) (Nat.le_trans h.bytes (Nat.mul_le_mul_right _ (Nat.le_succ k)))
   ·show d.calls + 1 ≤ _
    omega
theorem Inv.append {d : D} (h : Inv d) (n s : Str) : Inv (append d n s).1 := by
 unfold Dk.append
 split
 ·exact h.tick
 ·split
  ·exact h.tick
  ·next f hf =>
   split
   ·exact h.tick
   ·refine Inv.put h.tick f ?_
    have := h.file f
    rw [List.length_append]
    omega
set_option maxRecDepth 100000 in
theorem Sz.put {k : Nat} {d : D} (h : Sz k d) {f : Nat} {x : Str × Nat} (hf : f < d.files.length) (hx : x.1.length ≤ (file d.files f).1.length + 1048576) : Sz (k + 1) (Dk.put (Dk.tick d) f x) := by
 have := h.files
 have := h.dirs
 have := h.bytes
 have := h.calls
 refine ⟨?_, ?_, ?_, ?_⟩
 ·show (d.files.set f x).length ≤ _
  rw [List.length_set]; omega
 ·show d.sure.length + d.chg.length ≤ _
  omega
 ·show size (d.files.set f x) ≤ _
  have := size_set d.files f x hf
  omega
 ·show d.calls + 1 ≤ _
  omega
theorem Sz.append {k : Nat} {d : D} (h : Sz k d) (hi : Inv d) (n s : Str) (hs : s.length ≤ 1048576) : Sz (k + 1) (append d n s).1 := by
 unfold Dk.append
 split
 ·exact h.tick
 ·split
  ·exact h.tick
  ·next f hf =>
   split
   ·exact h.tick
   ·exact h.put (hi.dirlt hf) (by rw [List.length_append]; omega)
theorem Inv.sync {d : D} (h : Inv d) (n : Str) : Inv (sync d n).1 := by
 unfold Dk.sync
 split
 ·exact h.tick
 ·split
  ·exact h.tick
  ·next f hf => exact Inv.put h.tick f (Nat.le_refl _)
theorem Sz.sync {k : Nat} {d : D} (h : Sz k d) (hi : Inv d) (n : Str) : Sz (k + 1) (sync d n).1 := by
 unfold Dk.sync
 split
 ·exact h.tick
 ·split
  ·exact h.tick
  ·next f hf => exact h.put (hi.dirlt hf) (Nat.le_add_right _ _)
theorem Inv.rename {d : D} (h : Inv d) (a b : Str) : Inv (rename d a b).1 := by
 unfold Dk.rename
 split
 ·exact h.tick
 ·split
  ·exact h.tick
  ·next hn =>
   refine Inv.change h.tick ?_
   unfold Ok
   rw [if_pos (right_ne fun e => hn (.inr (.inl e)))]
   cases hl : look d.dir a with
   | none => exact absurd (Or.inl hl) hn
   | some f => exact ⟨f, hl, fun e => hn (.inr (.inr e))⟩
set_option maxRecDepth 100000 in
theorem Sz.change {k : Nat} {d : D} (h : Sz k d) (c : Ch) : Sz (k + 1) (Dk.change (Dk.tick d) c) := by
 have := h.files
 have := h.dirs
 have := h.bytes
 have := h.calls
 refine ⟨?_, ?_, ?_, ?_⟩
 ·show d.files.length ≤ _
  omega
 ·show d.sure.length + (d.chg ++ [c]).length ≤ _
  simp; omega
 ·exact Nat.le_trans h.bytes (Nat.mul_le_mul_right _ (Nat.le_succ k))
 ·show d.calls + 1 ≤ _
  omega
theorem Sz.rename {k : Nat} {d : D} (h : Sz k d) (a b : Str) : Sz (k + 1) (rename d a b).1 := by
 unfold Dk.rename
 split
 ·exact h.tick
 ·split
  ·exact h.tick
  ·exact h.change _
theorem Inv.remove {d : D} (h : Inv d) (n : Str) : Inv (remove d n).1 := by
 unfold Dk.remove
 split
 ·exact h.tick
 ·split
  ·exact h.tick
  ·next hn =>
   refine Inv.change h.tick ?_
   unfold Ok
   rw [if_neg (by simp), if_pos (by simp)]
   cases hl : look d.dir n with
   | none => exact absurd hl hn
   | some f => exact ⟨f, hl⟩
theorem Sz.remove {k : Nat} {d : D} (h : Sz k d) (n : Str) : Sz (k + 1) (remove d n).1 := by
 unfold Dk.remove
 split
 ·exact h.tick
 ·split
  ·exact h.tick
  ·exact h.change _
theorem Inv.syncDir {d : D} (h : Inv d) : Inv (syncDir d).1 := by
 unfold Dk.syncDir
 split
 ·exact h.tick
 ·exact ⟨rfl, h.dir, h.part⟩
theorem Sz.syncDir {k : Nat} {d : D} (h : Sz k d) (hi : Inv d) : Sz (k + 1) (syncDir d).1 := by
 unfold Dk.syncDir
 split
 ·exact h.tick
 ·have := h.dir hi
  have := h.tick
  exact ⟨this.files, by show d.dir.length + 0 ≤ _; omega, this.bytes, this.calls⟩
theorem length_cuts (keep : List Int) : ∀ (l : Dir) (i : Nat) (fs : List (Str × Nat)), (cuts keep i fs l).length = fs.length
 | [], _, _ => rfl
 | y :: l, i, fs => by
   have := length_cuts keep l (i + 1) (cut fs y.2 (keepAt keep i))
   rw [show cuts keep i fs (y :: l) = cuts keep (i + 1) (cut fs y.2 (keepAt keep i)) l from rfl, this]
   exact List.length_set
structure Left (x y : Str × Nat) : Prop where
 take : y.1 = x.1.take y.1.length
 le : y.1.length ≤ x.1.length
 least : x.2 ≤ y.1.length
 sure : x.2 ≤ y.2
 part : y.2 ≤ y.1.length
theorem Left.refl {x : Str × Nat} (h : x.2 ≤ x.1.length) : Left x x := ⟨by rw [List.take_length], Nat.le_refl _, h, Nat.le_refl _, h⟩
theorem Left.trans {x y z : Str × Nat} (h : Left x y) (g : Left y z) : Left x z :=
 ⟨by
  have h1 := g.take
  rw [h.take, List.take_take, Nat.min_eq_left g.le] at h1
  exact h1, Nat.le_trans g.le h.le, by have := g.least; have := h.sure; omega, Nat.le_trans h.sure g.sure, g.part⟩
theorem cut_left {x : Str × Nat} (h : x.2 ≤ x.1.length) (k : Int) : Left x (x.1.take (cutN x k), cutN x k) := by
 have hn : cutN x k ≤ x.1.length ∧ x.2 ≤ cutN x k := by unfold cutN; omega
 have hl : (x.1.take (cutN x k)).length = cutN x k := by rw [List.length_take]; omega
 exact ⟨by show _ = _; rw [hl], by show (x.1.take (cutN x k)).length ≤ _; omega, by show _ ≤ (x.1.take (cutN x k)).length; omega, hn.2, by show _ ≤ (x.1.take (cutN x k)).length; omega⟩
theorem cuts_left (keep : List Int) : ∀ (l : Dir) (i : Nat) (fs : List (Str × Nat)), (∀ f, (file fs f).2 ≤ (file fs f).1.length) → (∀ y ∈ l, y.2 < fs.length) →
 (∀ f, Left (file fs f) (file (cuts keep i fs l) f)) ∧ ∀ y ∈ l, (file (cuts keep i fs l) y.2).2 = (file (cuts keep i fs l) y.2).1.length := by
 intro l
 induction l with
 | nil => exact fun i fs h _ => ⟨fun f => Left.refl (h f), by simp⟩
 | cons a l ih =>
   intro i fs h hl
   have hc : ∀ f, Left (file fs f) (file (cut fs a.2 (keepAt keep i)) f) := fun f => by
    unfold cut
    rw [file_set _ _ _ _ (hl a List.mem_cons_self)]
    by_cases e : a.2 = f
    ·rw [if_pos e, e]; exact cut_left (h f) _
    ·rw [if_neg e]; exact Left.refl (h f)
   obtain ⟨h1, h2⟩ := ih (i + 1) (cut fs a.2 (keepAt keep i)) (fun f => (hc f).part) (fun y hy => by unfold cut; rw [List.length_set]; exact hl y (List.mem_cons_of_mem _ hy))
   refine ⟨fun f => (hc f).trans (h1 f), fun y hy => ?_⟩
   rcases List.mem_cons.1 hy with rfl | hy
   ·have h3 := h1 y.2
    have h4 : (file (cut fs y.2 (keepAt keep i)) y.2).2 = (file (cut fs y.2 (keepAt keep i)) y.2).1.length := by
     unfold cut
     rw [file_set _ _ _ _ (hl y List.mem_cons_self), if_pos rfl]
     rw [List.length_take]
     have := h y.2
     unfold cutN
     omega
    have := h3.sure
    have := h3.part
    have := h3.le
    show (file (cuts keep (i + 1) (cut fs y.2 (keepAt keep i)) l) y.2).2 = (file (cuts keep (i + 1) (cut fs y.2 (keepAt keep i)) l) y.2).1.length
    omega
   ·exact h2 y hy
theorem size_le {fs gs : List (Str × Nat)} (hl : fs.length = gs.length) (h : ∀ f, (file fs f).1.length ≤ (file gs f).1.length) : size fs ≤ size gs := by
 induction fs generalizing gs with
 | nil => exact Nat.zero_le _
 | cons a fs ih =>
   cases gs with
   | nil => simp at hl
   | cons b gs =>
     have h0 : a.1.length ≤ b.1.length := h 0
     have := ih (gs := gs) (by simpa using hl) fun f => h (f + 1)
     simp only [size, List.map_cons, List.sum_cons] at this ⊢
     omega
theorem Inv.crashDir {d : D} (h : Inv d) (n : Int) : Well d.files.length (Dk.crashDir d n) := (h.chain.take n.toNat).well h.well
theorem Inv.crash {d : D} (h : Inv d) (n : Int) (keep : List Int) : Inv (Dk.crash d n keep) := by
 have hw := h.crashDir n
 obtain ⟨h1, _⟩ := cuts_left keep (Dk.crashDir d n) 0 d.files h.file hw.lim
 have hl := length_cuts keep (Dk.crashDir d n) 0 d.files
 refine ⟨rfl, ?_, fun x hx => ?_⟩
 ·show Well (cuts keep 0 d.files (Dk.crashDir d n)).length (Dk.crashDir d n)
  rw [hl]; exact hw
 ·obtain ⟨f, hf, e⟩ := List.getElem_of_mem hx
  have := (h1 f).part
  have e2 : Dk.file (cuts keep 0 d.files (Dk.crashDir d n)) f = x := by
   exact (getD_lt (fs := cuts keep 0 d.files (Dk.crashDir d n)) hf).trans e
  rwa [e2] at this
set_option maxRecDepth 100000 in
theorem Sz.crash {k : Nat} {d : D} (h : Sz k d) (hi : Inv d) (n : Int) (keep : List Int) : Sz k (Dk.crash d n keep) := by
 have hl := length_cuts keep (Dk.crashDir d n) 0 d.files
 obtain ⟨h1, _⟩ := cuts_left keep (Dk.crashDir d n) 0 d.files hi.file (hi.crashDir n).lim
 have hlen := len_fold (d.chg.take n.toNat) d.sure
 have := h.dirs
 have := h.bytes
 have hs := size_le hl fun f => (h1 f).le
 refine ⟨?_, ?_, ?_, h.calls⟩
 ·show (cuts keep 0 d.files (Dk.crashDir d n)).length ≤ k
  rw [hl]; exact h.files
 ·show (Dk.crashDir d n).length + 0 ≤ k
  rw [List.length_take] at hlen
  unfold Dk.crashDir
  omega
 ·show size (cuts keep 0 d.files (Dk.crashDir d n)) ≤ _
  omega
theorem Inv.step {d : D} (h : Inv d) (o : Op) : Inv (step d o).1 := by
 unfold Dk.step
 repeat' split
 ·exact h.create _
 ·exact h.append _ _
 ·exact h.sync _
 ·exact h.rename _ _
 ·exact h.remove _
 ·exact h.syncDir
 ·exact ⟨h.chain, h.well, h.part⟩
 ·exact ⟨h.chain, h.well, h.part⟩
 ·exact ⟨h.chain, h.well, h.part⟩
 ·exact h.crash _ _
theorem Sz.step {k : Nat} {d : D} (h : Sz k d) (hi : Inv d) (o : Op) (hb : o.b.length ≤ 1048576) : Sz (k + 1) (step d o).1 := by
 have hm := h.mono (Nat.le_succ k)
 unfold Dk.step
 repeat' split
 ·exact h.create _
 ·exact h.append hi _ _ hb
 ·exact h.sync hi _
 ·exact h.rename _ _
 ·exact h.remove _
 ·exact h.syncDir hi
 ·exact ⟨hm.files, hm.dirs, hm.bytes, hm.calls⟩
 ·exact ⟨hm.files, hm.dirs, hm.bytes, hm.calls⟩
 ·exact ⟨hm.files, hm.dirs, hm.bytes, hm.calls⟩
 ·exact hm.crash hi _ _
def new (n : Int) : D := ⟨[], [], [], [], max n 0, -1, -1, 0⟩
theorem Inv.new (n : Int) : Inv (new n) := ⟨rfl, Well.nil _, by simp [Dk.new]⟩
theorem Sz.new (n : Int) : Sz 0 (new n) := ⟨Nat.le_refl _, Nat.le_refl _, Nat.le_refl _, Nat.le_refl _⟩
end Go.Proofs.Ytodeodndjkkkbaa.Dk
namespace Go.Proofs.Ytodeodndjkkkbaa
open Go.RowKit
section
variable {α : Type}
theorem Dk.flat_len {k : Nat} {enc : α → List Value} (he : ∀ x, (enc x).length = k) : ∀ L : List α, (L.flatMap enc).length = L.length * k
 | [] => by simp
 | x :: L => by
   have := Dk.flat_len he L
   rw [List.flatMap_cons, List.length_append, this, he, List.length_cons, Nat.succ_mul]
   omega
theorem Dk.flat_get {k : Nat} {enc : α → List Value} (he : ∀ x, (enc x).length = k) : ∀ (L : List α) (i j : Nat) (x : α), L[i]? = some x → j < k → (L.flatMap enc)[i * k + j]? = (enc x)[j]?
 | [], _, _, _, h, _ => by cases h
 | y :: L, 0, j, x, h, hj => by
   obtain rfl : y = x := by simpa using h
   rw [List.flatMap_cons, Nat.zero_mul, Nat.zero_add, List.getElem?_append_left (by rw [he]; exact hj)]
 | y :: L, i + 1, j, x, h, hj => by
   have ih := Dk.flat_get he L i j x (by simpa using h) hj
   have e : (i + 1) * k + j = (enc y).length + (i * k + j) := by rw [he, Nat.succ_mul]; omega
   rw [List.flatMap_cons, e, List.getElem?_append_right (Nat.le_add_right _ _), Nat.add_sub_cancel_left]
   exact ih
theorem Dk.flat_set {k : Nat} {enc : α → List Value} (he : ∀ x, (enc x).length = k) (L : List α) (i : Nat) (x y : α) (hi : L[i]? = some x) (j : Nat) (hj : j < k) (u : Value) (hy : enc y = (enc x).set j u) :
 (L.flatMap enc).set (i * k + j) u = (L.set i y).flatMap enc := by
 have hil : i < L.length := by
  rcases Nat.lt_or_ge i L.length with h | h
  ·exact h
  ·rw [List.getElem?_eq_none h] at hi; cases hi
 have hlen : (L.flatMap enc).length = L.length * k := Dk.flat_len he L
 have hm : i * k + j < L.length * k := by
  have := Nat.mul_le_mul_right k hil
  rw [Nat.succ_mul] at this
  omega
 refine List.ext_getElem? fun q => ?_
 by_cases hq : q < L.length * k
 ·have hk : 0 < k := by omega
  obtain ⟨a, b, hb, e⟩ : ∃ a b, b < k ∧ q = a * k + b := ⟨q / k, q % k, Nat.mod_lt _ hk, by rw [Nat.mul_comm]; exact (Nat.div_add_mod q k).symm⟩
  have ha : a < L.length := by
   rcases Nat.lt_or_ge a L.length with h | h
   ·exact h
   ·have := Nat.mul_le_mul_right k h; omega
  rw [e, Dk.flat_get he (L.set i y) a b (if i = a then y else L[a]) (by
   rw [List.getElem?_set]
   by_cases h : i = a
   ·rw [if_pos h, if_pos h, if_pos (by omega)]
   ·rw [if_neg h, if_neg h, List.getElem?_eq_getElem ha]) hb, List.getElem?_set]
  have hx : L[a]? = some L[a] := List.getElem?_eq_getElem ha
  by_cases h : i = a
  ·subst h
   rw [if_pos rfl, hy, List.getElem?_set]
   rw [hi] at hx
   have hxe := Option.some.inj hx
   by_cases hjb : j = b
   ·subst hjb
    rw [if_pos rfl, if_pos rfl, if_pos (by rw [hlen]; exact hm), if_pos (by rw [he]; exact hj)]
   ·rw [if_neg (by omega), if_neg hjb]
    exact Dk.flat_get he L i b x hi hb
  ·rw [if_neg h, if_neg (fun e2 => by
    have h1 : i * k + j = a * k + b := e2
    rcases Nat.lt_or_gt_of_ne h with h2 | h2
    ·have := Nat.mul_le_mul_right k h2; rw [Nat.succ_mul] at this; omega
    ·have := Nat.mul_le_mul_right k h2; rw [Nat.succ_mul] at this; omega)]
   exact Dk.flat_get he L a b _ hx hb
 ·rw [List.getElem?_eq_none (by rw [List.length_set, hlen]; omega), List.getElem?_eq_none (by rw [Dk.flat_len he, List.length_set]; omega)]
def Dk.Own (e : TypeId) (k : Nat) (enc : α → List Value) (base : Nat) (w : World) (v : Value) (L : List α) : Prop := w.ownsRow base e k v L.length (L.flatMap enc)
def Dk.At (P : Nat → Prop) (e : TypeId) (k : Nat) (enc : α → List Value) (w : World) (v : Value) (L : List α) : Prop :=
 ∃ a c, v = .slice a L.length c ∧ L.length ≤ c ∧ ((L = [] ∧ (a = none → c = 0)) ∨ ∃ b o cs fr, a = some ⟨b, o, none⟩ ∧ P b ∧ w.heap[b]? = some (.cells cs e fr) ∧ ∀ i j x, L[i]? = some x → j < k → w.cell? ⟨b, o + i * k + j, none⟩ = (enc x)[j]?)
theorem Dk.addr_add (b o i : Nat) : (⟨b, o, none⟩ : Addr).add i = ⟨b, o + i, none⟩ := by unfold Addr.add; split <;> simp_all
variable {P P' : Nat → Prop} {e : TypeId} {k : Nat} {enc : α → List Value}
theorem Dk.Own.nil (base : Nat) (w : World) : Dk.Own e k enc base w (.slice none 0 0) ([] : List α) := World.ownsRow_nil w base _ k
theorem Dk.Own.base_le {base : Nat} {w : World} {v : Value} {L : List α} (h : Dk.Own e k enc base w v L) : ∀ b, v.ownBlock = some b → base ≤ b := fun b hb => (World.ownsRow.lt h b hb).1
theorem Dk.Own.lt {base : Nat} {w : World} {v : Value} {L : List α} (h : Dk.Own e k enc base w v L) : ∀ b, v.ownBlock = some b → b < w.heap.size := fun b hb => (World.ownsRow.lt h b hb).2
theorem Dk.Own.typed {base : Nat} {w : World} {v : Value} {L : List α} (h : Dk.Own e k enc base w v L) : ∀ b, v.ownBlock = some b → ∃ cs, w.heap[b]? = some (.cells cs e (0, 0)) := by
 intro b hb
 rcases h.2 with ⟨rfl, _⟩ | ⟨g, cap, cur, rfl, _, hg, _⟩
 ·cases hb
 ·have : g = b := by simpa [Value.ownBlock] using hb
  subst this
  exact ⟨cur, hg⟩
theorem Dk.Own.same {base : Nat} {w w' : World} {v : Value} {L : List α} (h : Dk.Own e k enc base w v L) (g : ∀ b, v.ownBlock = some b → w'.heap[b]? = w.heap[b]?) : Dk.Own e k enc base w' v L := by
 refine ⟨h.1, ?_⟩
 rcases h.2 with hn | ⟨b, cap, cur, rfl, hbb, hgg, rest⟩
 ·exact .inl hn
 ·exact .inr ⟨b, cap, cur, rfl, hbb, by rw [g b rfl]; exact hgg, rest⟩
theorem Dk.Own.kept {base : Nat} {w w' : World} {v : Value} {L : List α} (h : Dk.Own e k enc base w v L) (g : Below w.heap.size w w') : Dk.Own e k enc base w' v L :=
 h.same fun b hb => g.block b (h.lt b hb)
theorem Dk.own_below {wo w w' : World} {v v' : Value} {L : List α} (hb : Below wo.heap.size wo w) (ho : Dk.Own e k enc wo.heap.size w v L) (g : Ty.Grew w w' v v') : Below wo.heap.size wo w' :=
 hb.trans (g.below hb.size ho.base_le)
theorem Dk.Own.form {base : Nat} {w : World} {v : Value} {L : List α} (h : Dk.Own e k enc base w v L) : (v = .slice none 0 0 ∧ L = []) ∨ ∃ g c, v = .slice (some ⟨g, 0, none⟩) L.length c ∧ L.length ≤ c ∧ c ≤ maxLen ∧ base ≤ g ∧ g < w.heap.size := by
 rcases h.2 with ⟨e1, e0⟩ | ⟨g, cap, cur, e1, hbg, hgg, hcap, hm, _⟩
 ·exact .inl ⟨e1, List.eq_nil_of_length_eq_zero e0⟩
 ·exact .inr ⟨g, cap, e1, hcap, hm, hbg, (Array.getElem?_eq_some_iff.1 hgg).1⟩
theorem Dk.Own.cell (he : ∀ x, (enc x).length = k) {base : Nat} {w : World} {v : Value} {L : List α} (h : Dk.Own e k enc base w v L) {g : Nat} (hv : v.ownBlock = some g) {i j : Nat} {x : α} (hi : L[i]? = some x) (hj : j < k) : w.cell? ⟨g, i * k + j, none⟩ = (enc x)[j]? := by
 have hx : (enc x)[j]? = some ((enc x)[j]'(by rw [he]; exact hj)) := List.getElem?_eq_getElem _
 have := World.ownsRow.cells h hv (i * k + j) _ ((Dk.flat_get he L i j x hi hj).trans hx)
 rw [Dk.addr_add, Nat.zero_add] at this
 rw [this, hx]
theorem Dk.Own.at (he : ∀ x, (enc x).length = k) {base : Nat} {w : World} {v : Value} {L : List α} (h : Dk.Own e k enc base w v L) : Dk.At (fun b => base ≤ b ∧ b < w.heap.size) e k enc w v L := by
 rcases h.form with ⟨rfl, rfl⟩ | ⟨g, c, rfl, hc, _, hb, hg⟩
 ·exact ⟨none, 0, rfl, Nat.le_refl _, .inl ⟨rfl, fun _ => rfl⟩⟩
 ·obtain ⟨cs, hcs⟩ := h.typed g rfl
  refine ⟨_, c, rfl, hc, .inr ⟨g, 0, cs, (0, 0), rfl, ⟨hb, hg⟩, hcs, fun i j x hi hj => ?_⟩⟩
  rw [Nat.zero_add]
  exact h.cell he rfl hi hj
theorem Dk.At.same {w w' : World} {v : Value} {L : List α} (h : Dk.At P e k enc w v L) (g : ∀ b, P b → w'.heap[b]? = w.heap[b]?) : Dk.At P e k enc w' v L := by
 obtain ⟨a, c, hv, hc, h⟩ := h
 refine ⟨a, c, hv, hc, ?_⟩
 rcases h with h | ⟨b, o, cs, fr, ha, hP, hb, h⟩
 ·exact .inl h
 ·refine .inr ⟨b, o, cs, fr, ha, hP, (g b hP).trans hb, fun i j x hi hj => ?_⟩
  rw [← h i j x hi hj]
  exact World.cell?_of_block (g b hP)
theorem Dk.At.imp {w : World} {v : Value} {L : List α} (h : Dk.At P e k enc w v L) (g : ∀ b, P b → P' b) : Dk.At P' e k enc w v L := by
 obtain ⟨a, c, hv, hc, h⟩ := h
 refine ⟨a, c, hv, hc, ?_⟩
 rcases h with h | ⟨b, o, cs, fr, ha, hP, hb, h⟩
 ·exact .inl h
 ·exact .inr ⟨b, o, cs, fr, ha, g b hP, hb, h⟩
theorem Dk.At.alive {w : World} {v : Value} {L : List α} (h : Dk.At P e k enc w v L) : Dk.At (fun b => P b ∧ b < w.heap.size) e k enc w v L := by
 obtain ⟨a, c, hv, hc, h⟩ := h
 refine ⟨a, c, hv, hc, ?_⟩
 rcases h with h | ⟨b, o, cs, fr, ha, hP, hb, h⟩
 ·exact .inl h
 ·exact .inr ⟨b, o, cs, fr, ha, ⟨hP, lt_of_block hb⟩, hb, h⟩
theorem Dk.At.kept {w w' : World} {v : Value} {L : List α} (h : Dk.At P e k enc w v L) (g : Below w.heap.size w w') : Dk.At P e k enc w' v L :=
 ((h.alive).same fun b hb => g.block b hb.2).imp fun _ hb => hb.1
theorem Dk.At.nil (w : World) : Dk.At P e k enc w (.slice none 0 0) ([] : List α) := ⟨none, 0, rfl, Nat.le_refl _, .inl ⟨rfl, fun _ => rfl⟩⟩
def Dk.Src (enc : α → List Value) (w : World) (u : Value) (K : List α) : Prop :=
 (u = .slice none 0 0 ∧ K = []) ∨ ∃ ad c, u = .slice (some ad) K.length c ∧ ∀ j y, (K.flatMap enc)[j]? = some y → w.cell? (ad.add j) = some y
theorem Dk.src_cells {w : World} {b o : Nat} {K : List α} (he : ∀ x, (enc x).length = k) (hk : 0 < k) (h : ∀ i j x, K[i]? = some x → j < k → w.cell? ⟨b, o + i * k + j, none⟩ = (enc x)[j]?) :
 ∀ j y, (K.flatMap enc)[j]? = some y → w.cell? ((⟨b, o, none⟩ : Addr).add j) = some y := by
 intro q y hq
 have hql : q < K.length * k := by
  rw [← Dk.flat_len he K]
  exact (List.getElem?_eq_some_iff.1 hq).1
 obtain ⟨i, j, hj, e1⟩ : ∃ i j, j < k ∧ q = i * k + j := ⟨q / k, q % k, Nat.mod_lt _ hk, by rw [Nat.mul_comm]; exact (Nat.div_add_mod q k).symm⟩
 have hi : i < K.length := by
  rcases Nat.lt_or_ge i K.length with h | h
  ·exact h
  ·have := Nat.mul_le_mul_right k h; omega
 have hx : K[i]? = some K[i] := List.getElem?_eq_getElem hi
 rw [Dk.addr_add, e1, ← Nat.add_assoc, h i j _ hx hj, ← Dk.flat_get he K i j _ hx hj, ← e1, hq]
theorem Dk.append_many {Pr : Program} (T : TypeId) (z : Value) (by_ : Nat) (hT : Pr.underlying T = some (.slice e)) (hinfo : (Pr.info? e).map (fun i => (i.zero, i.size, i.bytes)) = some (some z, k, by_)) (hz : z.cells.size = k) (hk : 0 < k)
 (he : ∀ x, (enc x).length = k) (hone : ∀ x, ∀ u ∈ enc x, u.oneCell' = true) {base : Nat} {w0 : World} {v : Value} {M K : List α} (hown : Dk.Own e k enc base w0 v M) (hb : base ≤ w0.heap.size)
 (hl : (M.length + K.length) * by_ ≤ 140737488355328) (hl2 : M.length + K.length ≤ 140737488355328) {u : Value} (hu : Dk.Src enc w0 u K) (ty : TypeId) :
 ∃ v' w', (Builtin.append_ #[T, T] ty #[v, u]).run Pr w0 = .ok v' w' ∧ Dk.Own e k enc base w' v' (M ++ K) ∧ Ty.Grew w0 w' v v' := by
 obtain ⟨i0, hi, hz0, hz1, hz2⟩ := info_parts hinfo
 rcases hu with ⟨rfl, rfl⟩ | ⟨ad, c, rfl, hK⟩
 ·exact ⟨v, w0, run_append_owned_none (P := Pr) w0 base T ty e i0 k hT hi v _ _ hown, by rw [List.append_nil]; exact hown, Ty.Grew.refl _ _⟩
 ·obtain ⟨v', w', hr, h1, h2⟩ := Ty.append_tight (P := Pr) w0 base T ty e i0 _ k by_ hT hi hz0 hz1 hz2 hz hk v M.length (M.flatMap enc) hown ad K.length c (K.flatMap enc) (Dk.flat_len he K) hK (fun y hy => by
   obtain ⟨x, _, hx⟩ := List.mem_flatMap.1 hy
   exact hone x y hx) (by unfold maxLen; omega) hl hb
  refine ⟨v', w', hr, ?_, h2⟩
  unfold Dk.Own
  rw [List.length_append, List.flatMap_append]
  exact h1
theorem Dk.wpList_append {Pr : Program} (T : TypeId) (z : Value) (by_ : Nat) (hT : Pr.underlying T = some (.slice e)) (hinfo : (Pr.info? e).map (fun i => (i.zero, i.size, i.bytes)) = some (some z, k, by_)) (hz : z.cells.size = k) (hk : 0 < k)
 (he : ∀ x, (enc x).length = k) (hone : ∀ x, ∀ u ∈ enc x, u.oneCell' = true) {base : Nat} {w0 : World} {v : Value} {M : List α} (K : List α) (hown : Dk.Own e k enc base w0 v M) (hb : base ≤ w0.heap.size)
 (hl : (M.length + K.length) * by_ ≤ 140737488355328) (hl2 : M.length + K.length ≤ 140737488355328) {u : Value} (hu : Dk.Src enc w0 u K)
 {ops : Array Oper} {rest : List Oper} {o : Oper} {a : Act} {Q : Exit → Act → World → Prop} (s x : Operand) (hgd : Region.wanted o (yielded ops a.tmps) = true)
 (ho : o.op = .call { callee := .builtin .append, args := #[s, x], argTypes := #[T, T] })
 (hs : a.eval s = v) (hx : a.eval x = u)
 (h : ∀ v' w', Dk.Own e k enc base w' v' (M ++ K) → Ty.Grew w0 w' v v' → wpList Pr ops Q rest (a.put o.dst v') w') :
 wpList Pr ops Q (o :: rest) a w0 := by
 refine wpList_step fun Kx hKx => ?_
 rw [if_pos hgd]
 obtain ⟨v', w', hr, h2, h3⟩ := Dk.append_many (Pr := Pr) T z by_ hT hinfo hz hk he hone hown hb hl hl2 hu o.type
 unfold Oper.wp execOp
 simp only [ho, resolve, invoke, builtin, Sem.run_bind, Sem.run_pure, Result.andThen_ok, List.map_toArray, List.map_cons, List.map_nil, hs, hx, hr]
 exact hKx _ _ (h v' w' h2 h3)
theorem Dk.step_appendB {Pr : Program} (T : TypeId) (z : Value) (by_ : Nat) (hT : Pr.underlying T = some (.slice e)) (hinfo : (Pr.info? e).map (fun i => (i.zero, i.size, i.bytes)) = some (some z, k, by_)) (hz : z.cells.size = k) (hk : 0 < k)
 (he : ∀ x, (enc x).length = k) (hone : ∀ x, ∀ u ∈ enc x, u.oneCell' = true) {base : Nat} {w0 : World} {v : Value} {M : List α} (K : List α) (hb : base ≤ w0.heap.size) (hown : Dk.Own e k enc base w0 v M)
 (hl : (M.length + K.length) * by_ ≤ 140737488355328) (hl2 : M.length + K.length ≤ 140737488355328)
 {ops : Array Oper} {o : Oper} {a : Act} {Kx : Act → World → Prop} {Q : Exit → Act → World → Prop} {E : Prop} (s x : Operand) (u : Value) (hgd : o.guard = none)
 (ho : o.op = .call { callee := .builtin .append, args := #[s, x], argTypes := #[T, T] })
 (hs : a.eval s = v) (hx : a.eval x = u) (hu : Dk.Src enc w0 u K)
 (h : ∀ v' w', Dk.Own e k enc base w' v' (M ++ K) → Ty.Grew w0 w' v v' → Kx (a.put o.dst v') w') :
 if Region.wanted o (yielded ops a.tmps) = true then Oper.wp Pr o a w0 Kx Q else E := by
 have hw : Region.wanted o (yielded ops a.tmps) = true := by simp [Region.wanted, hgd]
 rw [if_pos hw]
 obtain ⟨v', w', hr, h2, h3⟩ := Dk.append_many (Pr := Pr) T z by_ hT hinfo hz hk he hone hown hb hl hl2 hu o.type
 unfold Oper.wp execOp
 simp only [ho, resolve, invoke, builtin, Sem.run_bind, Sem.run_pure, Result.andThen_ok, List.map_toArray, List.map_cons, List.map_nil, hs, hx, hr]
 exact h v' w' h2 h3
theorem Dk.src_one (w : World) (x : α) (cs : Array Value) (hcs : cs = (enc x).toArray) (t : TypeId) : Dk.Src enc (w.alloc (.cells cs t)) (.slice (some ⟨w.heap.size, 0, none⟩) 1 1) [x] := by
 refine .inr ⟨⟨w.heap.size, 0, none⟩, 1, rfl, fun j y hj => ?_⟩
 rw [Dk.addr_add, Nat.zero_add]
 have e1 : ([x].flatMap enc) = enc x := by simp
 rw [e1] at hj
 have hn := heap_alloc_new w (.cells cs t)
 simp only [World.cell?, hn]
 subst hcs
 simpa using hj
theorem Dk.src_cell {w : World} {b : Nat} {x : α} (h : ∀ j y, (enc x)[j]? = some y → w.cell? ⟨b, j, none⟩ = some y) : Dk.Src enc w (.slice (some ⟨b, 0, none⟩) 1 1) [x] := by
 refine .inr ⟨⟨b, 0, none⟩, 1, rfl, fun j y hj => ?_⟩
 rw [Dk.addr_add, Nat.zero_add]
 have e1 : ([x].flatMap enc) = enc x := by simp
 rw [e1] at hj
 exact h j y hj
theorem Dk.cell_new {w : World} {cs : Array Value} {t : TypeId} {x : α} (hcs : cs = (enc x).toArray) : ∀ j y, (enc x)[j]? = some y → (w.alloc (.cells cs t)).cell? ⟨w.heap.size, j, none⟩ = some y := by
 intro j y hj
 have hn := heap_alloc_new w (.cells cs t)
 simp only [World.cell?, hn]
 subst hcs
 simpa using hj
theorem Dk.wpList_append1 {Pr : Program} (T : TypeId) (z : Value) (by_ : Nat) (hT : Pr.underlying T = some (.slice e)) (hinfo : (Pr.info? e).map (fun i => (i.zero, i.size, i.bytes)) = some (some z, k, by_)) (hz : z.cells.size = k) (hk : 0 < k)
 (he : ∀ x, (enc x).length = k) (hone : ∀ x, ∀ u ∈ enc x, u.oneCell' = true) {base : Nat} {w0 : World} {v : Value} {M : List α} (x : α) (hown : Dk.Own e k enc base w0 v M) (hb : base ≤ w0.heap.size)
 (hl : (M.length + 1) * by_ ≤ 140737488355328) (hl2 : M.length + 1 ≤ 140737488355328) (q : Nat) (hq : q = w0.heap.size) (cs : Array Value) (hcs : cs = (enc x).toArray)
 {ops : Array Oper} {rest : List Oper} {o : Oper} {a : Act} {Q : Exit → Act → World → Prop} (s y : Operand) (hgd : Region.wanted o (yielded ops a.tmps) = true)
 (ho : o.op = .call { callee := .builtin .append, args := #[s, y], argTypes := #[T, T] })
 (hs : a.eval s = v) (hx : a.eval y = .slice (some ⟨q, 0, none⟩) 1 1)
 (h : ∀ v' w', Dk.Own e k enc base w' v' (M ++ [x]) → Ty.Grew w0 w' v v' → wpList Pr ops Q rest (a.put o.dst v') w') :
 wpList Pr ops Q (o :: rest) a (w0.alloc (.cells cs e)) := by
 subst hq
 exact Dk.wpList_append T z by_ hT hinfo hz hk he hone [x] (World.ownsRow.alloc hown _) (by rw [World.size_alloc]; omega) hl hl2 (Dk.src_one w0 x cs hcs e) s y hgd ho hs hx fun v' w' h1 h2 => h v' w' h1 (h2.behind _)
theorem Dk.Own.set (he : ∀ x, (enc x).length = k) {base : Nat} {w : World} {v : Value} {L : List α} (h : Dk.Own e k enc base w v L) {g : Nat} (hv : v.ownBlock = some g) {i j : Nat} {x : α} (hi : L[i]? = some x) (hj : j < k) (u : Value) (y : α) (hy : enc y = (enc x).set j u) :
 Dk.Own e k enc base (w.setCell ⟨g, i * k + j, none⟩ u) v (L.set i y) := by
 rcases h.form with ⟨rfl, rfl⟩ | ⟨g', c, rfl, hc, _, hb, hg⟩
 ·cases hi
 ·have : g' = g := by simpa [Value.ownBlock] using hv
  subst this
  have := (World.ownsRow.stored h (i * k + j) u).1
  rw [Dk.flat_set he L i x y hi j hj u hy] at this
  unfold Dk.Own
  rw [List.length_set]
  exact this
end
end Go.Proofs.Ytodeodndjkkkbaa
namespace Go.Proofs.Ytodeodndjkkkbaa
open Go.RowKit
def Bk.sv (x : Option Addr × Nat × Nat) : Value := .slice x.1 x.2.1 x.2.2
def Bk.e1 (x : Option Addr × Nat × Nat) : List Value := [Bk.sv x]
theorem Bk.e1_len (x : Option Addr × Nat × Nat) : (Bk.e1 x).length = 1 := rfl
theorem Bk.e1_one (x : Option Addr × Nat × Nat) : ∀ u ∈ Bk.e1 x, u.oneCell' = true := fun u hu => by
 simp only [Bk.e1, List.mem_cons, List.not_mem_nil, or_false] at hu
 subst hu
 rfl
structure Bk.Dr (w : World) (v : Value) (L : List Dd.D) (R : Nat → Option Addr × Nat × Nat) : Prop where
 is : ∃ a c, v = .slice a L.length c ∧ (L = [] ∨ ∃ b o, a = some ⟨b, o, none⟩ ∧ b < w.heap.size ∧
  ∀ i x, L[i]? = some x → w.cell? ⟨b, o + i * 2, none⟩ = some (.bool x.gone) ∧ w.cell? ⟨b, o + i * 2 + 1, none⟩ = some (Bk.sv (R i)))
theorem Bk.Dr.later {w w' : World} {v : Value} {L : List Dd.D} {R : Nat → Option Addr × Nat × Nat} (h : Bk.Dr w v L R) (g : Below w.heap.size w w') : Bk.Dr w' v L R := by
 obtain ⟨a, c, hv, h⟩ := h
 refine ⟨a, c, hv, ?_⟩
 rcases h with h | ⟨b, o, ha, hb, h⟩
 ·exact .inl h
 ·refine .inr ⟨b, o, ha, Nat.lt_of_lt_of_le hb g.size, fun i x hx => ?_⟩
  obtain ⟨c0, c1⟩ := h i x hx
  exact ⟨(g.cell (p := ⟨b, o + i * 2, none⟩) hb).trans c0, (g.cell (p := ⟨b, o + i * 2 + 1, none⟩) hb).trans c1⟩
def Bk.partsOf : Option Value → Option Addr × Nat × Nat
 | some (.slice a n c) => (a, n, c)
 | _ => (none, 0, 0)
def Bk.hl (i : Nat) (R : Nat → Option Addr × Nat × Nat) : Nat → List Dd.D → List (Option Addr × Nat × Nat)
 | _, [] => []
 | k, d :: r => if Bk.has i d = true then R k :: Bk.hl i R (k + 1) r else Bk.hl i R (k + 1) r
def Bk.wd (s : List Kn.C) (g : Bool) : Nat := if g = true then 1 else s.length
end Go.Proofs.Ytodeodndjkkkbaa
namespace Go.Proofs.Ytodeodndjkkkbaa
open Go.RowKit
def Rn.part (b o n c i : Nat) : Option Addr × Nat × Nat := (some ⟨b, o + 8 * i * 2, none⟩, min 8 (n - 8 * i), c - 8 * i)
def Rn.parts (b o n c k : Nat) : List (Option Addr × Nat × Nat) := (List.range k).map (Rn.part b o n c)
end Go.Proofs.Ytodeodndjkkkbaa
namespace Go.Proofs.Ytodeodndjkkkbaa
open Go.RowKit
def Rn.il {α : Type} (p : Dd.D → Bool) (f : Nat → Dd.D → α) : Nat → List Dd.D → List α
 | _, [] => []
 | k, d :: r => if p d = true then f k d :: Rn.il p f (k + 1) r else Rn.il p f (k + 1) r
def Rn.e2 (x : Bool × (Option Addr × Nat × Nat)) : List Value := [.bool x.1, Bk.sv x.2]
def Rn.fd (R : Nat → Option Addr × Nat × Nat) (k : Nat) (d : Dd.D) : Bool × (Option Addr × Nat × Nat) := (d.gone, R k)
end Go.Proofs.Ytodeodndjkkkbaa
namespace Go.Proofs.Ytodeodndjkkkbaa
open Go.RowKit
end Go.Proofs.Ytodeodndjkkkbaa
namespace Go.Proofs.Ytodeodndjkkkbaa
open Go.RowKit
end Go.Proofs.Ytodeodndjkkkbaa
