import Derived.Sort.Statements
import Derived.Shelf.SlSortCmp.Insertion
import Derived.Test.YtodeodndjkkkbaaRows
import GoSem.Op.String
import Derived.WalkKit
import Derived.WalkSpells
import Derived.WalkLawsBesides
import Derived.Laws.StructEq
import Derived.Lib.QuietBelow
import Derived.Deep.RegionWith
import Derived.Deep.DeepCutAuto
import Derived.BigQuiet
import Derived.StillTailTactics
import Derived.Lib.Hide
import Derived.Deep.QuietTactic
import Derived.IntWalk
import Derived.Lib.AppendStr
import Derived.Laws.AppendOwnNone
namespace Go.Proofs.Ytodeodndjkkkbaa
open Go Go.Sort
variable {α : Type}
def Lv.ins (lt : α → α → Bool) (x : α) : List α → List α
 | [] => [x]
 | y :: l => if lt x y then x :: y :: l else y :: Lv.ins lt x l
def Lv.st (lt : α → α → Bool) (L : List α) : List α := L.foldl (fun out x => Lv.ins lt x out) []
def Lv.mg (lt : α → α → Bool) : List α → List α → List α
 | [], B => B
 | a :: A, [] => a :: A
 | a :: A, b :: B => if lt b a then b :: Lv.mg lt (a :: A) B else a :: Lv.mg lt A (b :: B)
termination_by A B => A.length + B.length
def Lv.Sd (lt : α → α → Bool) (L : List α) : Prop := L.Pairwise (fun x y => lt y x = false)
theorem Lv.mg_nil (lt : α → α → Bool) (B : List α) : Lv.mg lt [] B = B := by rw [Lv.mg]
theorem Lv.mg_nil' (lt : α → α → Bool) (A : List α) : Lv.mg lt A [] = A := by cases A <;> rw [Lv.mg]
theorem Lv.mg_cons (lt : α → α → Bool) (a b : α) (A B : List α) : Lv.mg lt (a :: A) (b :: B) = if lt b a then b :: Lv.mg lt (a :: A) B else a :: Lv.mg lt A (b :: B) := by rw [Lv.mg]
theorem Lv.mg_len (lt : α → α → Bool) : ∀ (n : Nat) (A B : List α), A.length + B.length = n → (Lv.mg lt A B).length = n := by
 intro n
 induction n with
 | zero =>
   intro A B h
   obtain rfl : A = [] := List.length_eq_zero_iff.1 (by omega)
   obtain rfl : B = [] := List.length_eq_zero_iff.1 (by omega)
   rw [Lv.mg_nil]; rfl
 | succ n ih =>
   intro A B h
   cases A with
   | nil => rw [Lv.mg_nil]; simpa using h
   | cons a A =>
     cases B with
     | nil => rw [Lv.mg_nil']; simpa using h
     | cons b B =>
       rw [Lv.mg_cons]
       simp only [List.length_cons] at h
       split
       ·rw [List.length_cons, ih (a :: A) B (by simp only [List.length_cons]; omega)]
       ·rw [List.length_cons, ih A (b :: B) (by simp only [List.length_cons]; omega)]
theorem Lv.mg_split (lt : α → α → Bool) : ∀ (n : Nat) (A1 A2 B1 B2 : List α), A1.length + B1.length = n →
 (∀ a ∈ A1, ∀ b ∈ B2, lt b a = false) → (∀ b ∈ B1, ∀ a ∈ A2, lt b a = true) → Lv.mg lt (A1 ++ A2) (B1 ++ B2) = Lv.mg lt A1 B1 ++ Lv.mg lt A2 B2 := by
 intro n
 induction n with
 | zero =>
   intro A1 A2 B1 B2 h _ _
   obtain rfl : A1 = [] := List.length_eq_zero_iff.1 (by omega)
   obtain rfl : B1 = [] := List.length_eq_zero_iff.1 (by omega)
   rw [Lv.mg_nil]; rfl
 | succ n ih =>
   intro A1 A2 B1 B2 h h1 h2
   cases A1 with
   | nil =>
     cases B1 with
     | nil => simp at h
     | cons b B1 =>
       cases A2 with
       | nil => simp only [List.nil_append, Lv.mg_nil]
       | cons a A2 =>
         have hb := h2 b (by simp) a (by simp)
         have hi := ih [] (a :: A2) B1 B2 (by simpa using h) (fun _ h => nomatch h) (fun x hx => h2 x (by simp [hx]))
         simp only [List.nil_append, List.cons_append, Lv.mg_nil] at hi ⊢
         rw [Lv.mg_cons, if_pos hb, hi]
   | cons a A1 =>
     cases B1 with
     | nil =>
       cases B2 with
       | nil => simp only [List.append_nil, Lv.mg_nil']
       | cons b B2 =>
         have hb := h1 a (by simp) b (by simp)
         have hi := ih A1 A2 [] (b :: B2) (by simpa using h) (fun x hx => h1 x (by simp [hx])) (fun _ h => nomatch h)
         simp only [List.nil_append, List.cons_append, Lv.mg_nil'] at hi ⊢
         rw [Lv.mg_cons, if_neg (by rw [hb]; decide), hi]
     | cons b B1 =>
       simp only [List.cons_append, List.length_cons] at h ⊢
       rw [Lv.mg_cons, Lv.mg_cons]
       split
       ·have hi := ih (a :: A1) A2 B1 B2 (by simp only [List.length_cons]; omega) h1 (fun x hx => h2 x (by simp [hx]))
        rw [List.cons_append] at hi
        rw [hi, List.cons_append]
       ·have hi := ih A1 A2 (b :: B1) B2 (by simp only [List.length_cons]; omega) (fun x hx => h1 x (by simp [hx])) h2
        rw [List.cons_append] at hi
        rw [hi, List.cons_append]
theorem Lv.mg_one (lt : α → α → Bool) (x : α) (A : List α) : Lv.mg lt A [x] = Lv.ins lt x A := by
 induction A with
 | nil => rw [Lv.mg_nil]; rfl
 | cons a A ih =>
   rw [Lv.mg_cons, Lv.mg_nil', ih]
   rfl
theorem Lv.ins_mg {lt : α → α → Bool} (h : SWO lt) (x : α) : ∀ (n : Nat) (A B : List α), A.length + B.length = n → Lv.ins lt x (Lv.mg lt A B) = Lv.mg lt A (Lv.ins lt x B) := by
 intro n
 induction n with
 | zero =>
   intro A B hn
   obtain rfl : A = [] := List.length_eq_zero_iff.1 (by omega)
   rw [Lv.mg_nil, Lv.mg_nil]
 | succ n ih =>
   intro A B hn
   cases A with
   | nil => rw [Lv.mg_nil, Lv.mg_nil]
   | cons a A =>
     cases B with
     | nil => rw [Lv.mg_nil']; exact (Lv.mg_one lt x (a :: A)).symm
     | cons b B =>
       simp only [List.length_cons] at hn
       rw [Lv.mg_cons]
       by_cases hba : lt b a = true
       ·rw [if_pos hba]
        by_cases hxb : lt x b = true
        ·have hxa := h.trans _ _ _ hxb hba
         rw [Lv.ins, if_pos hxb, Lv.ins, if_pos hxb, Lv.mg_cons, if_pos hxa, Lv.mg_cons, if_pos hba]
        ·have e1 : Lv.ins lt x (b :: Lv.mg lt (a :: A) B) = b :: Lv.ins lt x (Lv.mg lt (a :: A) B) := by rw [Lv.ins, if_neg hxb]
         have e2 : Lv.ins lt x (b :: B) = b :: Lv.ins lt x B := by rw [Lv.ins, if_neg hxb]
         rw [e1, e2, Lv.mg_cons, if_pos hba, ih (a :: A) B (by simp only [List.length_cons]; omega)]
       ·rw [if_neg hba]
        by_cases hxa : lt x a = true
        ·have hxb : lt x b = true := by
          cases hc : lt x b
          ·have := h.ntrans _ _ _ hc (by simpa using hba)
           rw [hxa] at this; cases this
          ·rfl
         have e2 : Lv.ins lt x (b :: B) = x :: b :: B := by rw [Lv.ins, if_pos hxb]
         rw [e2, Lv.ins, if_pos hxa, Lv.mg_cons, if_pos hxa, Lv.mg_cons, if_neg hba]
        ·have e1 : Lv.ins lt x (a :: Lv.mg lt A (b :: B)) = a :: Lv.ins lt x (Lv.mg lt A (b :: B)) := by rw [Lv.ins, if_neg hxa]
         rw [e1, ih A (b :: B) (by simp only [List.length_cons]; omega)]
         by_cases hxb : lt x b = true
         ·have e2 : Lv.ins lt x (b :: B) = x :: b :: B := by rw [Lv.ins, if_pos hxb]
          rw [e2, Lv.mg_cons, if_neg hxa]
         ·have e2 : Lv.ins lt x (b :: B) = b :: Lv.ins lt x B := by rw [Lv.ins, if_neg hxb]
          rw [e2, Lv.mg_cons, if_neg hba]
theorem Lv.rec' {P : List α → Prop} (h0 : P []) (h1 : ∀ l x, P l → P (l ++ [x])) (L : List α) : P L := by
 have : ∀ (n : Nat) (L : List α), L.length = n → P L := by
  intro n
  induction n with
  | zero => intro L h; rw [List.length_eq_zero_iff.1 h]; exact h0
  | succ n ih =>
    intro L h
    have hne : L ≠ [] := by intro e; rw [e] at h; cases h
    rw [← List.dropLast_concat_getLast hne]
    exact h1 _ _ (ih _ (by rw [List.length_dropLast]; omega))
 exact this _ L rfl
theorem Lv.st_snoc (lt : α → α → Bool) (L : List α) (x : α) : Lv.st lt (L ++ [x]) = Lv.ins lt x (Lv.st lt L) := by
 unfold Lv.st
 rw [List.foldl_append]
 rfl
theorem Lv.st_append {lt : α → α → Bool} (h : SWO lt) (A B : List α) : Lv.st lt (A ++ B) = Lv.mg lt (Lv.st lt A) (Lv.st lt B) := by
 refine Lv.rec' (P := fun B => Lv.st lt (A ++ B) = Lv.mg lt (Lv.st lt A) (Lv.st lt B)) ?_ (fun B x ih => ?_) B
 ·rw [List.append_nil, show Lv.st lt ([] : List α) = [] from rfl, Lv.mg_nil']
 ·rw [← List.append_assoc, Lv.st_snoc, ih, Lv.st_snoc, Lv.ins_mg h x _ _ _ rfl]
theorem Lv.ins_perm (lt : α → α → Bool) (x : α) (l : List α) : (Lv.ins lt x l).Perm (x :: l) := by
 induction l with
 | nil => exact List.Perm.refl _
 | cons y l ih =>
   rw [Lv.ins]
   split
   ·exact List.Perm.refl _
   ·exact (ih.cons y).trans (List.Perm.swap x y l)
theorem Lv.ins_len (lt : α → α → Bool) (x : α) (l : List α) : (Lv.ins lt x l).length = l.length + 1 := (Lv.ins_perm lt x l).length_eq
theorem Lv.ins_sd {lt : α → α → Bool} (h : SWO lt) (x : α) (l : List α) (hs : Lv.Sd lt l) : Lv.Sd lt (Lv.ins lt x l) := by
 induction l with
 | nil => exact List.pairwise_singleton _ _
 | cons y l ih =>
   rw [Lv.ins]
   have hs' := List.pairwise_cons.1 hs
   split
   ·rename_i hxy
    refine List.pairwise_cons.2 ⟨fun z hz => ?_, hs⟩
    cases hzx : lt z x
    ·rfl
    ·exfalso
     rcases List.mem_cons.1 hz with rfl | hz
     ·have := h.trans _ _ _ hxy hzx; rw [h.irrefl] at this; cases this
     ·have := h.trans _ _ _ hzx hxy; rw [hs'.1 z hz] at this; cases this
   ·rename_i hxy
    refine List.pairwise_cons.2 ⟨fun z hz => ?_, ih hs'.2⟩
    rcases List.mem_cons.1 ((Lv.ins_perm lt x l).mem_iff.1 hz) with rfl | hz
    ·simpa using hxy
    ·exact hs'.1 z hz
theorem Lv.st_sd {lt : α → α → Bool} (h : SWO lt) (L : List α) : Lv.Sd lt (Lv.st lt L) := by
 refine Lv.rec' (P := fun L => Lv.Sd lt (Lv.st lt L)) List.Pairwise.nil (fun l x hl => ?_) L
 rw [Lv.st_snoc]
 exact Lv.ins_sd h x _ hl
theorem Lv.st_perm (lt : α → α → Bool) (L : List α) : (Lv.st lt L).Perm L := by
 refine Lv.rec' (P := fun L => (Lv.st lt L).Perm L) (List.Perm.refl _) (fun l x hl => ?_) L
 rw [Lv.st_snoc]
 exact ((Lv.ins_perm lt x _).trans (hl.cons x)).trans (List.perm_append_singleton x l).symm
theorem Lv.st_len (lt : α → α → Bool) (L : List α) : (Lv.st lt L).length = L.length := (Lv.st_perm lt L).length_eq
theorem Lv.ins_back_yes (lt : α → α → Bool) (x y : α) (l : List α) (h : lt x y = true) : Lv.ins lt x (l ++ [y]) = Lv.ins lt x l ++ [y] := by
 induction l with
 | nil => show (if lt x y then x :: y :: [] else _) = _; rw [if_pos h]; rfl
 | cons z l ih =>
   rw [List.cons_append, Lv.ins, Lv.ins, ih]
   split <;> rfl
theorem Lv.ins_back_no {lt : α → α → Bool} (hS : SWO lt) (x y : α) (l : List α) (h : lt x y = false) (hs : Lv.Sd lt (l ++ [y])) : Lv.ins lt x (l ++ [y]) = l ++ [y, x] := by
 induction l with
 | nil => show (if lt x y then x :: y :: [] else _) = _; rw [if_neg (by rw [h]; decide)]; rfl
 | cons z l ih =>
   rw [List.cons_append] at hs
   have hs' := List.pairwise_cons.1 hs
   have hz : lt x z = false := hS.ntrans _ _ _ h (hs'.1 y (by simp))
   rw [List.cons_append, Lv.ins, if_neg (by rw [hz]; decide), ih hs'.2]
   rfl
theorem Lv.ins_at {lt : α → α → Bool} (x : α) (L1 L2 : List α) (h1 : ∀ y ∈ L1, lt x y = false) (h2 : ∀ y ∈ L2, lt x y = true) : Lv.ins lt x (L1 ++ L2) = L1 ++ x :: L2 := by
 induction L1 with
 | nil =>
   cases L2 with
   | nil => rfl
   | cons y l => show (if lt x y then _ else _) = _; rw [if_pos (h2 y (by simp))]; rfl
 | cons y l ih => rw [List.cons_append, Lv.ins, if_neg (by rw [h1 y (by simp)]; decide), ih (fun z hz => h1 z (by simp [hz]))]; rfl
theorem Lv.swp_list [Inhabited α] (d : Array α) (L1 L2 L3 : List α) (u v : α) (h : d.toList = L1 ++ u :: (L2 ++ v :: L3)) :
 (swp d L1.length (L1.length + (L2.length + 1))).toList = L1 ++ v :: (L2 ++ u :: L3) ∧ (swp d (L1.length + (L2.length + 1)) L1.length).toList = L1 ++ v :: (L2 ++ u :: L3) := by
 obtain rfl : d = (L1 ++ u :: (L2 ++ v :: L3)).toArray := by rw [← h]
 have hi : ((L1 ++ u :: (L2 ++ v :: L3)).toArray)[L1.length]! = u := by simp
 have hj : ((L1 ++ u :: (L2 ++ v :: L3)).toArray)[L1.length + (L2.length + 1)]! = v := by simp
 unfold swp
 rw [hi, hj]
 refine ⟨?_, ?_⟩
 ·rw [Array.toList_setIfInBounds, Array.toList_setIfInBounds]
  simp
 ·rw [Array.toList_setIfInBounds, Array.toList_setIfInBounds]
  simp
end Go.Proofs.Ytodeodndjkkkbaa
namespace Go.Proofs.Ytodeodndjkkkbaa
open Go Go.Sort
variable {α : Type} [Inhabited α]
theorem Lv.get_at {d : Array α} {L1 L2 : List α} {x : α} (h : d.toList = L1 ++ x :: L2) : d[L1.length]! = x := by
 obtain rfl : d = (L1 ++ x :: L2).toArray := by rw [← h]
 simp
theorem Lv.getI {d : Array α} {L A T : List α} (h : d.toList = L ++ (A ++ T)) {k : Nat} (hk : k < A.length) : d[L.length + k]! = A[k]! := by
 have e : A = A.take k ++ A[k]! :: A.drop (k + 1) := by
  rw [getElem!_pos A k hk]
  exact (List.take_append_drop k A).symm.trans (by rw [List.drop_eq_getElem_cons hk])
 have he : L ++ (A ++ T) = (L ++ A.take k) ++ A[k]! :: (A.drop (k + 1) ++ T) := by
  conv => lhs; rw [e]
  simp only [List.append_assoc, List.cons_append]
 have := Lv.get_at (d := d) (L1 := L ++ A.take k) (L2 := A.drop (k + 1) ++ T) (x := A[k]!) (h.trans he)
 rwa [List.length_append, List.length_take, Nat.min_eq_left (by omega)] at this
theorem Lv.sd_at {lt : α → α → Bool} (hO : SWO lt) {A : List α} (h : Lv.Sd lt A) {i j : Nat} (hij : i ≤ j) (hj : j < A.length) : lt A[j]! A[i]! = false := by
 rcases Nat.lt_or_ge i j with h1 | h1
 ·rw [getElem!_pos A j hj, getElem!_pos A i (by omega)]
  exact List.pairwise_iff_getElem.1 h i j (by omega) hj h1
 ·obtain rfl : i = j := by omega
  exact hO.irrefl _
theorem Lv.take_all {p : α → Prop} {A : List α} {t : Nat} (h : ∀ k, k < t → k < A.length → p A[k]!) : ∀ y ∈ A.take t, p y := by
 intro y hy
 obtain ⟨k, hk, rfl⟩ := List.getElem_of_mem hy
 rw [List.length_take] at hk
 rw [List.getElem_take]
 have := h k (by omega) (by omega)
 rwa [getElem!_pos A k (by omega)] at this
theorem Lv.drop_all {p : α → Prop} {A : List α} {t : Nat} (h : ∀ k, t ≤ k → k < A.length → p A[k]!) : ∀ y ∈ A.drop t, p y := by
 intro y hy
 obtain ⟨k, hk, rfl⟩ := List.getElem_of_mem hy
 rw [List.length_drop] at hk
 rw [List.getElem_drop]
 have := h (t + k) (by omega) (by omega)
 rwa [getElem!_pos A (t + k) (by omega)] at this
theorem Lv.down {lt : α → α → Bool} (hO : SWO lt) {A : List α} (hs : Lv.Sd lt A) {x : α} {h : Nat} (hh : h < A.length) (hx : lt A[h]! x = true) {k : Nat} (hk : k ≤ h) : lt A[k]! x = true := by
 cases hc : lt A[k]! x
 ·have := hO.ntrans _ _ _ (Lv.sd_at hO hs hk hh) hc
  rw [hx] at this; cases this
 ·rfl
theorem Lv.up {lt : α → α → Bool} (hO : SWO lt) {A : List α} (hs : Lv.Sd lt A) {x : α} {h : Nat} (hx : lt A[h]! x = false) {k : Nat} (hk : h ≤ k) (hh : k < A.length) : lt A[k]! x = false := hO.ntrans _ _ _ (Lv.sd_at hO hs hk hh) hx
theorem Lv.down' {lt : α → α → Bool} (hO : SWO lt) {A : List α} (hs : Lv.Sd lt A) {x : α} {h : Nat} (hh : h < A.length) (hx : lt x A[h]! = false) {k : Nat} (hk : k ≤ h) : lt x A[k]! = false := hO.ntrans _ _ _ hx (Lv.sd_at hO hs hk hh)
theorem Lv.up' {lt : α → α → Bool} (hO : SWO lt) {A : List α} (hs : Lv.Sd lt A) {x : α} {h : Nat} (hx : lt x A[h]! = true) {k : Nat} (hk : h ≤ k) (hh : k < A.length) : lt x A[k]! = true := by
 cases hc : lt x A[k]!
 ·have := hO.ntrans _ _ _ hc (Lv.sd_at hO hs hk hh)
  rw [hx] at this; cases this
 ·rfl
omit [Inhabited α] in
theorem Lv.mg_first {lt : α → α → Bool} (x : α) (B1 B2 : List α) (h1 : ∀ b ∈ B1, lt b x = true) (h2 : ∀ b ∈ B2, lt b x = false) : Lv.mg lt [x] (B1 ++ B2) = B1 ++ x :: B2 := by
 have e1 := Lv.mg_split lt _ [] [x] B1 B2 rfl (fun _ h => nomatch h) (fun b hb a ha => by rw [List.mem_singleton.1 ha]; exact h1 b hb)
 have e2 := Lv.mg_split lt _ [x] [] [] B2 rfl (fun a ha b hb => by rw [List.mem_singleton.1 ha]; exact h2 b hb) (fun _ h => nomatch h)
 simp only [List.nil_append, List.append_nil, Lv.mg_nil, Lv.mg_nil'] at e1 e2
 rw [e1, e2]
 rfl
omit [Inhabited α] in
theorem Lv.mg_last {lt : α → α → Bool} (x : α) (A1 A2 : List α) (h1 : ∀ a ∈ A1, lt x a = false) (h2 : ∀ a ∈ A2, lt x a = true) : Lv.mg lt (A1 ++ A2) [x] = A1 ++ x :: A2 := by
 rw [Lv.mg_one, Lv.ins_at x A1 A2 h1 h2]
theorem Lv.inner {lt : α → α → Bool} (hO : SWO lt) (L : List α) (x : α) : ∀ (S T : List α) (d : Array α), d.toList = L ++ (S ++ x :: T) → Lv.Sd lt S → (insInner lt L.length (L.length + S.length) d).toList = L ++ (Lv.ins lt x S ++ T) := by
 intro S
 refine Lv.rec' (P := fun S => ∀ (T : List α) (d : Array α), d.toList = L ++ (S ++ x :: T) → Lv.Sd lt S → (insInner lt L.length (L.length + S.length) d).toList = L ++ (Lv.ins lt x S ++ T)) ?_ (fun S y ih => ?_) S
 ·intro T d h _
  rw [List.length_nil, Nat.add_zero]
  have : insInner lt L.length L.length d = d := by
   cases hL : L.length with
   | zero => rfl
   | succ n =>
     rw [insInner, if_neg]
     simp
  rw [this, h]
  rfl
 ·intro T d h hs
  have hl : L.length + (S ++ [y]).length = (L.length + S.length) + 1 := by simp; omega
  have h1 : d[L.length + S.length]! = y := by
   have := Lv.get_at (d := d) (L1 := L ++ S) (L2 := x :: T) (x := y) (by rw [h]; simp)
   rwa [List.length_append] at this
  have h2 : d[L.length + S.length + 1]! = x := by
   have := Lv.get_at (d := d) (L1 := L ++ (S ++ [y])) (L2 := T) (x := x) (by rw [h]; simp)
   rwa [List.length_append, hl] at this
  rw [hl, insInner, h1, h2]
  cases hxy : lt x y
  ·rw [if_neg (by simp), Lv.ins_back_no hO x y S hxy hs, h]
   simp
  ·rw [if_pos (by simp; omega), Lv.ins_back_yes lt x y S hxy]
   have hw := (Lv.swp_list d (L ++ S) [] T y x (by rw [h]; simp)).2
   simp only [List.length_nil, List.nil_append, Nat.zero_add, List.length_append] at hw
   rw [ih (y :: T) _ (by rw [hw]; simp) (List.pairwise_append.1 hs).1]
   simp
theorem Lv.outer {lt : α → α → Bool} (hO : SWO lt) (L : List α) : ∀ (Q S T : List α) (d : Array α), d.toList = L ++ (S ++ (Q ++ T)) → Lv.Sd lt S → (insOuter lt L.length (L.length + S.length + Q.length) (L.length + S.length) d).toList = L ++ (Q.foldl (fun out x => Lv.ins lt x out) S ++ T) := by
 intro Q
 induction Q with
 | nil =>
   intro S T d h _
   rw [insOuter, if_neg (by simp), h]
   rfl
 | cons x Q ih =>
   intro S T d h hs
   rw [insOuter, if_pos (by simp)]
   have h1 := Lv.inner hO L x S (Q ++ T) d (by rw [h]; rfl) hs
   have h2 := ih (Lv.ins lt x S) T _ h1 (Lv.ins_sd hO x S hs)
   rw [Lv.ins_len] at h2
   rw [List.foldl_cons, ← h2, List.length_cons]
   congr 2 <;> omega
theorem Lv.isort {lt : α → α → Bool} (hO : SWO lt) (L Q T : List α) (d : Array α) (h : d.toList = L ++ (Q ++ T)) : (insertionSort lt d L.length (L.length + Q.length)).toList = L ++ (Lv.st lt Q ++ T) := by
 unfold insertionSort
 cases Q with
 | nil =>
   rw [insOuter, if_neg (by simp), h]
   rfl
 | cons x Q =>
   have := Lv.outer hO L Q [x] T d (by rw [h]; rfl) (List.pairwise_singleton _ _)
   rw [List.length_singleton] at this
   rw [List.length_cons, show L.length + (Q.length + 1) = L.length + 1 + Q.length by omega, this]
   rfl
end Go.Proofs.Ytodeodndjkkkbaa
namespace Go.Proofs.Ytodeodndjkkkbaa.Kn
open Go
theorem bl_irrefl : ∀ l : List UInt8, Op.bytesLess l l = false
 | [] => rfl
 | a :: l => by simp [Op.bytesLess, bl_irrefl l]
theorem bl_total : ∀ a b : List UInt8, Op.bytesLess a b = true ∨ a = b ∨ Op.bytesLess b a = true
 | [], [] => .inr (.inl rfl)
 | [], _ :: _ => .inl rfl
 | _ :: _, [] => .inr (.inr rfl)
 | a :: x, b :: y => by
   rcases Nat.lt_trichotomy a.toNat b.toNat with h | h | h
   ·left; simp [Op.bytesLess, UInt8.lt_iff_toNat_lt, h]
   ·have e : a = b := UInt8.toNat_inj.1 h
    subst e
    rcases bl_total x y with g | g | g
    ·left; simp [Op.bytesLess, g]
    ·right; left; rw [g]
    ·right; right; simp [Op.bytesLess, g]
   ·right; right; simp [Op.bytesLess, UInt8.lt_iff_toNat_lt, h]
theorem bl_trans : ∀ a b c : List UInt8, Op.bytesLess a b = true → Op.bytesLess b c = true → Op.bytesLess a c = true
 | _, [], _, h, _ => by simp [Op.bytesLess] at h
 | _, _ :: _, [], _, h => by simp [Op.bytesLess] at h
 | [], _ :: _, _ :: _, _, _ => rfl
 | a :: x, b :: y, c :: z, h, k => by
   simp only [Op.bytesLess, Bool.or_eq_true, decide_eq_true_eq, Bool.and_eq_true, beq_iff_eq, UInt8.lt_iff_toNat_lt] at h k ⊢
   rcases h with h | ⟨rfl, h⟩ <;> rcases k with k | ⟨rfl, k⟩
   ·left; omega
   ·left; exact h
   ·left; exact k
   ·right; exact ⟨rfl, bl_trans x y z h k⟩
theorem bl_asymm (a b : List UInt8) (h : Op.bytesLess a b = true) : Op.bytesLess b a = false := by
 cases hb : Op.bytesLess b a with
 | false => rfl
 | true => have := bl_trans a b a h hb; rw [bl_irrefl] at this; cases this
structure V where
 null : Bool
 n : Int
 s : ByteArray
abbrev V.val (v : V) : Value := .agg #[.bool v.null, .int .i64 v.n, .string v.s]
def ncmp (a b : Int) : Int := if a < b then -1 else if b < a then 1 else 0
def lcmp (a b : List UInt8) : Int := if Op.bytesLess a b = true then -1 else if Op.bytesLess b a = true then 1 else 0
def scmp (a b : ByteArray) : Int := lcmp a.toList b.toList
def or2 (x y : Int) : Int := if x = 0 then y else x
def cmp (a b : V) : Int := if a.null = true then (if b.null = true then 0 else -1) else if b.null = true then 1 else or2 (ncmp a.n b.n) (scmp a.s b.s)
structure Fair (x y z x' y' z' : Int) : Prop where
 xr : -1 ≤ x ∧ x ≤ 1
 yr : -1 ≤ y ∧ y ≤ 1
 zr : -1 ≤ z ∧ z ≤ 1
 xa : x' = -x
 ya : y' = -y
 za : z' = -z
 le : x ≤ 0 → y ≤ 0 → z ≤ 0
 lt : x ≤ 0 → y ≤ 0 → z = 0 → x = 0 ∧ y = 0
 ge : x ≥ 0 → y ≥ 0 → z ≥ 0
 gt : x ≥ 0 → y ≥ 0 → z = 0 → x = 0 ∧ y = 0
theorem ncmp_fair (a b c : Int) : Fair (ncmp a b) (ncmp b c) (ncmp a c) (ncmp b a) (ncmp c b) (ncmp c a) := by
 unfold ncmp
 constructor <;> (repeat' split) <;> omega
theorem bl_ne {a b : List UInt8} (h : Op.bytesLess a b = true) : Op.bytesLess b a = false ∧ a ≠ b := ⟨bl_asymm a b h, fun e => by rw [e, bl_irrefl] at h; cases h⟩
theorem lcmp_lt {a b : List UInt8} (h : Op.bytesLess a b = true) : lcmp a b = -1 ∧ lcmp b a = 1 := by simp [lcmp, h, bl_asymm a b h]
theorem lcmp_self (a : List UInt8) : lcmp a a = 0 := by simp [lcmp, bl_irrefl]
theorem lcmp_anti (a b : List UInt8) : lcmp b a = -lcmp a b ∧ -1 ≤ lcmp a b ∧ lcmp a b ≤ 1 := by
 rcases bl_total a b with h | rfl | h
 ·rw [(lcmp_lt h).1, (lcmp_lt h).2]; omega
 ·rw [lcmp_self]; omega
 ·rw [(lcmp_lt h).1, (lcmp_lt h).2]; omega
theorem lcmp_chain (a b c : List UInt8) (h1 : lcmp a b ≤ 0) (h2 : lcmp b c ≤ 0) : lcmp a c ≤ 0 ∧ (lcmp a c = 0 → lcmp a b = 0 ∧ lcmp b c = 0) := by
 rcases bl_total a b with h | rfl | h
 ·rcases bl_total b c with k | rfl | k
  ·have := (lcmp_lt (bl_trans a b c h k)).1
   omega
  ·rw [lcmp_self]; omega
  ·have := (lcmp_lt k).2; omega
 ·rw [lcmp_self]; omega
 ·have := (lcmp_lt h).2; omega
theorem lcmp_fair (a b c : List UInt8) : Fair (lcmp a b) (lcmp b c) (lcmp a c) (lcmp b a) (lcmp c b) (lcmp c a) := by
 have h1 := lcmp_anti a b
 have h2 := lcmp_anti b c
 have h3 := lcmp_anti a c
 have h4 := lcmp_chain a b c
 have h5 := lcmp_chain c b a
 constructor <;> omega
theorem lex_fair {x y z x' y' z' p q r p' q' r' : Int} (h : Fair x y z x' y' z') (k : Fair p q r p' q' r') : Fair (or2 x p) (or2 y q) (or2 z r) (or2 x' p') (or2 y' q') (or2 z' r') := by
 obtain ⟨⟨h1, h2⟩, ⟨h3, h4⟩, ⟨h5, h6⟩, rfl, rfl, rfl, h10, h11, h12, h13⟩ := h
 obtain ⟨⟨k1, k2⟩, ⟨k3, k4⟩, ⟨k5, k6⟩, rfl, rfl, rfl, k10, k11, k12, k13⟩ := k
 unfold or2
 constructor <;> (repeat' split) <;> omega
theorem cmp_fair (a b c : V) : Fair (cmp a b) (cmp b c) (cmp a c) (cmp b a) (cmp c b) (cmp c a) := by
 have h := lex_fair (ncmp_fair a.n b.n c.n) (show Fair (scmp a.s b.s) (scmp b.s c.s) (scmp a.s c.s) (scmp b.s a.s) (scmp c.s b.s) (scmp c.s a.s) from lcmp_fair a.s.toList b.s.toList c.s.toList)
 unfold cmp
 cases a.null <;> cases b.null <;> cases c.null <;> simp only [Bool.false_eq_true, if_false, if_true]
 ·exact h
 all_goals
  obtain ⟨⟨h1, h2⟩, ⟨h3, h4⟩, ⟨h5, h6⟩, h7, h8, h9, h10, h11, h12, h13⟩ := h
  constructor <;> omega
theorem lcmp_zero (a b : List UInt8) : lcmp a b = 0 ↔ a = b := by
 rcases bl_total a b with h | rfl | h
 ·rw [(lcmp_lt h).1]; exact ⟨fun e => by omega, fun e => absurd e (bl_ne h).2⟩
 ·simp [lcmp_self]
 ·rw [(lcmp_lt h).2]; exact ⟨fun e => by omega, fun e => absurd e.symm (bl_ne h).2⟩
theorem ncmp_zero (a b : Int) : ncmp a b = 0 ↔ a = b := by unfold ncmp; repeat' split <;> omega
theorem or2_zero (x y : Int) : or2 x y = 0 ↔ x = 0 ∧ y = 0 := by unfold or2; split <;> omega
def same (a b : V) : Bool := (a.null && b.null) || ((!a.null && !b.null) && a.n == b.n && a.s.toList == b.s.toList)
theorem cmp_zero (a b : V) : (cmp a b == 0) = same a b := by
 rw [Bool.eq_iff_iff, beq_iff_eq]
 unfold cmp same
 cases a.null <;> cases b.null <;> simp [or2_zero, ncmp_zero, scmp, lcmp_zero]
end Go.Proofs.Ytodeodndjkkkbaa.Kn
namespace Go.Proofs.Ytodeodndjkkkbaa
open Go
structure Mf.P where
 id : Int
 lv : Int
 lo : Kn.V
 hi : Kn.V
structure Mf.E where
 drop : List Int
 add : List Mf.P
 floor : Int
 next : Int
structure Mf.S where
 parts : List Mf.P
 floor : Int
 next : Int
def Mf.nm (n : Int) : Bool := decide (0 ≤ n) && decide (n ≤ 999999999)
def Mf.key (v : Kn.V) : Bool := !v.null && decide (v.s.size ≤ 64)
def Mf.part (p : Mf.P) : Bool := Mf.nm p.id && (decide (0 ≤ p.lv) && decide (p.lv ≤ 3)) && Mf.key p.lo && Mf.key p.hi && decide (Kn.cmp p.lo p.hi ≤ 0)
def Mf.right (e : Mf.E) : Bool := decide (e.drop.length ≤ 1000) && decide (e.add.length ≤ 1000) && e.drop.all Mf.nm && e.add.all Mf.part && Mf.nm e.floor && Mf.nm e.next
theorem Mf.right_iff (e : Mf.E) : Mf.right e = true ↔ e.drop.length ≤ 1000 ∧ e.add.length ≤ 1000 ∧ (∀ d ∈ e.drop, Mf.nm d = true) ∧ (∀ p ∈ e.add, Mf.part p = true) ∧ Mf.nm e.floor = true ∧ Mf.nm e.next = true := by
 unfold Mf.right
 simp only [Bool.and_eq_true, decide_eq_true_iff, List.all_eq_true, and_assoc]
def Mf.has (L : List Mf.P) (d : Int) : Bool := L.any fun p => p.id == d
def Mf.wo (L : List Mf.P) (d : Int) : List Mf.P := L.filter fun p => !(p.id == d)
def Mf.dr : List Mf.P → List Int → Option (List Mf.P)
 | L, [] => some L
 | L, d :: ds => if Mf.has L d = true then Mf.dr (Mf.wo L d) ds else none
def Mf.ad (n : Int) : List Mf.P → List Mf.P → Option (List Mf.P)
 | L, [] => some L
 | L, p :: ps => if n ≤ p.id ∨ Mf.has L p.id = true then none else Mf.ad n (L ++ [p]) ps
def Mf.ap (s : Mf.S) (e : Mf.E) : Option Mf.S :=
 if Mf.right e = true ∧ s.floor ≤ e.floor ∧ s.next ≤ e.next then
  match Mf.dr s.parts e.drop with
  | none => none
  | some L => match Mf.ad e.next L e.add with
    | none => none
    | some M => some ⟨M, e.floor, e.next⟩
 else none
def Mf.at_ : List Mf.P → Int → Option Nat
 | [], _ => none
 | p :: L, d => if (p.id == d) = true then some 0 else (Mf.at_ L d).map (· + 1)
theorem Mf.has_not {L : List Mf.P} {d : Int} : Mf.has L d = false ↔ ∀ p ∈ L, p.id ≠ d := by
 unfold Mf.has
 rw [List.any_eq_false]
 simp
theorem Mf.ap_some {s t : Mf.S} {e : Mf.E} (h : Mf.ap s e = some t) : Mf.right e = true ∧ s.floor ≤ e.floor ∧ s.next ≤ e.next ∧ t.floor = e.floor ∧ t.next = e.next ∧ ∃ L, Mf.dr s.parts e.drop = some L ∧ Mf.ad e.next L e.add = some t.parts := by
 unfold Mf.ap at h
 split at h
 ·rename_i h0
  obtain ⟨h1, h2, h3⟩ := h0
  cases hd : Mf.dr s.parts e.drop with
  | none => rw [hd] at h; cases h
  | some L =>
    rw [hd] at h
    simp only at h
    cases ha : Mf.ad e.next L e.add with
    | none => rw [ha] at h; cases h
    | some M =>
      rw [ha] at h
      simp only [Option.some.injEq] at h
      subst h
      exact ⟨h1, h2, h3, rfl, rfl, L, rfl, ha⟩
 ·cases h
structure Mf.Ok (s : Mf.S) : Prop where
 uniq : (s.parts.map (·.id)).Nodup
 below : ∀ p ∈ s.parts, p.id < s.next
 part : ∀ p ∈ s.parts, Mf.part p = true
theorem Mf.Ok.none : Mf.Ok ⟨[], 0, 0⟩ := ⟨List.nodup_nil, (fun _ h => nomatch h), (fun _ h => nomatch h)⟩
theorem Mf.dr_sub : ∀ {ds : List Int} {L M : List Mf.P}, Mf.dr L ds = some M → M.Sublist L
 | [], L, M, h => by obtain rfl : L = M := by simpa [Mf.dr] using h
                     exact List.Sublist.refl _
 | d :: ds, L, M, h => by
   unfold Mf.dr at h
   split at h
   ·exact (Mf.dr_sub h).trans List.filter_sublist
   ·cases h
theorem Mf.ad_ok : ∀ {n : Int} {ps L M : List Mf.P}, Mf.ad n L ps = some M → (L.map (·.id)).Nodup → (∀ p ∈ L, p.id < n) → (∀ p ∈ L, Mf.part p = true) → (∀ p ∈ ps, Mf.part p = true) →
 (M.map (·.id)).Nodup ∧ (∀ p ∈ M, p.id < n) ∧ (∀ p ∈ M, Mf.part p = true)
 | n, [], L, M, h, h1, h2, h3, _ => by
   obtain rfl : L = M := by simpa [Mf.ad] using h
   exact ⟨h1, h2, h3⟩
 | n, p :: ps, L, M, h, h1, h2, h3, h4 => by
   unfold Mf.ad at h
   split at h
   ·cases h
   ·rename_i hn
    have hn1 : p.id < n := by
     by_cases h : p.id < n
     ·exact h
     ·exact absurd (Or.inl (by omega)) hn
    have hn2 : Mf.has L p.id = false := by
     cases hh : Mf.has L p.id with
     | false => rfl
     | true => exact absurd (Or.inr hh) hn
    refine Mf.ad_ok h ?_ ?_ ?_ fun q hq => h4 q (by simp [hq])
    ·rw [List.map_append, List.nodup_append]
     refine ⟨h1, by simp, fun a ha b hb => ?_⟩
     obtain ⟨q, hq, rfl⟩ := List.mem_map.1 ha
     have hb : b = p.id := by simpa using hb
     rw [hb]
     exact Mf.has_not.1 hn2 q hq
    ·intro q hq
     rcases List.mem_append.1 hq with hq | hq
     ·exact h2 q hq
     ·obtain rfl : q = p := by simpa using hq
      exact hn1
    ·intro q hq
     rcases List.mem_append.1 hq with hq | hq
     ·exact h3 q hq
     ·obtain rfl : q = p := by simpa using hq
      exact h4 q (by simp)
theorem Mf.Ok.step {s t : Mf.S} {e : Mf.E} (hs : Mf.Ok s) (h : Mf.ap s e = some t) : Mf.Ok t := by
 obtain ⟨hr, _, hn, _, ht, L, h1, h2⟩ := Mf.ap_some h
 have hsub := Mf.dr_sub h1
 have hr := (Mf.right_iff e).1 hr
 obtain ⟨a, b, c⟩ := Mf.ad_ok h2 (List.Nodup.sublist (hsub.map _) hs.uniq) (fun p hp => by have := hs.below p (hsub.subset hp); omega) (fun p hp => hs.part p (hsub.subset hp)) hr.2.2.2.1
 exact ⟨a, by rw [ht]; exact b, c⟩
def Mf.snap (s : Mf.S) : Mf.E := ⟨[], s.parts, s.floor, s.next⟩
end Go.Proofs.Ytodeodndjkkkbaa
namespace Go.Proofs.Ytodeodndjkkkbaa
open Go.RowKit
set_option maxRecDepth 100000 in
theorem Kn.isNaNi_c (a : Int) (w : World) : Calls Try.prog 88 #[.int .i64 a] w fun e w' => e = .returned (.bool false) ∧ w' = w := by
 go_enter Try.func88, Try.ntmps88
 go_wp2
 go_ret
 exact ⟨rfl, rfl⟩
set_option maxRecDepth 100000 in
theorem Kn.isNaNs_c (a : ByteArray) (w : World) : Calls Try.prog 89 #[.string a] w fun e w' => e = .returned (.bool false) ∧ w' = w := by
 go_enter Try.func89, Try.ntmps89
 go_wp2
 go_ret
 exact ⟨rfl, rfl⟩
set_option maxRecDepth 100000 in
theorem Kn.cmpi_c (a b : Int) (w : World) : Calls Try.prog 74 #[.int .i64 a, .int .i64 b] w fun e w' => e = .returned (.int .i64 (Kn.ncmp a b)) ∧ w' = w := by
 have hc : (a < b ∧ Kn.ncmp a b = -1) ∨ (¬ a < b ∧ b < a ∧ Kn.ncmp a b = 1) ∨ (¬ a < b ∧ ¬ b < a ∧ Kn.ncmp a b = 0) := by unfold Kn.ncmp; repeat' split <;> omega
 rcases hc with ⟨h1, h⟩ | ⟨h1, h2, h⟩ | ⟨h1, h2, h⟩
 all_goals
  rw [h]
  go_enter Try.func74, Try.ntmps74
  go_wp2_with fail
  refine (Kn.isNaNi_c _ _).mono ?_
  rintro e w1 ⟨rfl, rfl⟩
  go_wp2_with fail
  refine (Kn.isNaNi_c _ _).mono ?_
  rintro e w1 ⟨rfl, rfl⟩
  go_wp2
  go_ret
  exact ⟨rfl, rfl⟩
set_option maxRecDepth 100000 in
theorem Kn.cmps_c (a b : ByteArray) (w : World) : Calls Try.prog 75 #[.string a, .string b] w fun e w' => e = .returned (.int .i64 (Kn.scmp a b)) ∧ w' = w := by
 have hc : (Op.bytesLess a.toList b.toList = true ∧ Kn.scmp a b = -1) ∨ (Op.bytesLess a.toList b.toList = false ∧ (a.toList == b.toList) = false ∧ Kn.scmp a b = 1) ∨ (Op.bytesLess a.toList b.toList = false ∧ (a.toList == b.toList) = true ∧ Kn.scmp a b = 0) := by
  unfold Kn.scmp Kn.lcmp
  rcases Kn.bl_total a.toList b.toList with h | h | h
  ·left; rw [h]; exact ⟨rfl, rfl⟩
  ·right; right; rw [h, Kn.bl_irrefl]; exact ⟨rfl, by simp, rfl⟩
  ·right; left; rw [h, (Kn.bl_ne h).1]; exact ⟨rfl, by rw [beq_eq_false_iff_ne]; exact fun e => (Kn.bl_ne h).2 e.symm, rfl⟩
 rcases hc with ⟨h1, h⟩ | ⟨h1, h2, h⟩ | ⟨h1, h2, h⟩
 all_goals
  rw [h]
  go_enter Try.func75, Try.ntmps75
  go_wp2_with fail
  refine (Kn.isNaNs_c _ _).mono ?_
  rintro e w1 ⟨rfl, rfl⟩
  go_wp2_with fail
  refine (Kn.isNaNs_c _ _).mono ?_
  rintro e w1 ⟨rfl, rfl⟩
  go_wp2
  go_ret
  exact ⟨rfl, rfl⟩
set_option maxRecDepth 100000 in
theorem Kn.or_c (b : Nat) (x y : Int) (w : World) (h0 : w.cell? ⟨b, 0, none⟩ = some (.int .i64 x)) (h1 : w.cell? ⟨b, 1, none⟩ = some (.int .i64 y)) :
 Calls Try.prog 54 #[.slice (some ⟨b, 0, none⟩) 2 2] w fun e w' => e = .returned (.int .i64 (Kn.or2 x y)) ∧ w' = w := by
 have hc : ((x != 0) = true ∧ Kn.or2 x y = x) ∨ ((x != 0) = false ∧ (y != 0) = true ∧ Kn.or2 x y = y) ∨ ((x != 0) = false ∧ (y != 0) = false ∧ Kn.or2 x y = 0) := by
  unfold Kn.or2
  by_cases hx : x = 0 <;> by_cases hy : y = 0 <;> simp [hx, hy]
 rcases hc with ⟨h2, h⟩ | ⟨h2, h3, h⟩ | ⟨h2, h3, h⟩
 ·rw [h]
  go_enter Try.func54, Try.ntmps54
  go_wp2_with fail
  refine wp_loop_rounds 3 ?_; rw [rounds_succ]
  go_wp2
  go_ret
  exact ⟨rfl, rfl⟩
 ·rw [h]
  go_enter Try.func54, Try.ntmps54
  go_wp2_with fail
  refine wp_loop_rounds 3 ?_; rw [rounds_succ]
  go_wp2
  rw [rounds_succ]
  go_wp2
  go_ret
  exact ⟨rfl, rfl⟩
 ·rw [h]
  go_enter Try.func54, Try.ntmps54
  go_wp2_with fail
  refine wp_loop_rounds 3 ?_; rw [rounds_succ]
  go_wp2
  rw [rounds_succ]
  go_wp2
  rw [rounds_succ]
  go_wp2
  go_ret
  exact ⟨rfl, rfl⟩
set_option maxRecDepth 100000 in
theorem Kn.new2 (w : World) (x y : Value) (t : TypeId) (b : Nat) (hb : b = w.heap.size) : (w.alloc (.cells #[x, y] t)).drew.cell? ⟨b, 0, none⟩ = some x ∧ (w.alloc (.cells #[x, y] t)).drew.cell? ⟨b, 1, none⟩ = some y := by
 subst hb
 have h := heap_alloc_new w (.cells #[x, y] t)
 show (w.alloc (.cells #[x, y] t)).cell? ⟨w.heap.size, 0, none⟩ = some x ∧ (w.alloc (.cells #[x, y] t)).cell? ⟨w.heap.size, 1, none⟩ = some y
 unfold World.cell?
 simp only [h]
 exact ⟨rfl, rfl⟩
set_option maxRecDepth 100000 in
set_option maxHeartbeats 400000 in
theorem Kn.compare_c (a b : Kn.V) (w : World) : Calls Try.prog 56 #[a.val, b.val] w fun e w' => e = .returned (.int .i64 (Kn.cmp a b)) ∧ Below w.heap.size w w' := by
 obtain ⟨an, ai, sa⟩ := a
 obtain ⟨bn, bi, sb⟩ := b
 unfold Kn.V.val
 cases an <;> cases bn
 ·have h : Kn.cmp ⟨false, ai, sa⟩ ⟨false, bi, sb⟩ = Kn.or2 (Kn.ncmp ai bi) (Kn.scmp sa sb) := rfl
  rw [h]
  go_enter Try.func56, Try.ntmps56
  go_wp2_with fail
  refine wp_region_still_tail 10 (by kernel_rfl) (by kernel_rfl) ?_
  simp only [List.take_succ_cons, List.take_zero, List.drop_succ_cons, List.drop_zero]
  change wpStill _ _ (World.drew _) (fun a' => wpList _ _ _ _ a' (World.drew _)) _ _
  still_step
  still_step
  still_step
  still_step
  still_call (Kn.cmpi_c ai bi _)
  still_step
  still_step
  still_step
  still_step
  still_call (Kn.cmps_c sa sb _)
  refine wpStill_nil ?_
  go_wp2_with fail
  refine (Kn.or_c _ (Kn.ncmp ai bi) (Kn.scmp sa sb) _ (Kn.new2 _ _ _ _ _ (by simp)).1 (Kn.new2 _ _ _ _ _ (by simp)).2).mono ?_
  rintro e wc ⟨rfl, rfl⟩
  go_wp2
  go_ret
  exact ⟨rfl, ((((Below.refl _ w).alloc (Nat.le_refl _) _).alloc (by simp) _).alloc (by simp; omega) _).drew⟩
 all_goals
  go_enter Try.func56, Try.ntmps56
  go_wp2
  go_ret
  exact ⟨rfl, ((Below.refl _ w).alloc (Nat.le_refl _) _).alloc (by simp) _⟩
end Go.Proofs.Ytodeodndjkkkbaa
namespace Go.Proofs.Ytodeodndjkkkbaa
open Go.RowKit
theorem Kn.below_drewN {B : Nat} {w w' : World} (h : Below B w w') (n : Nat) : Below B w (w'.drewN n) := ⟨h.os, h.tape, h.output, h.size, h.block⟩
structure Kn.At (w : World) (b o : Nat) (v : Kn.V) : Prop where
 c0 : w.cell? ⟨b, o, none⟩ = some (.bool v.null)
 c1 : w.cell? ⟨b, o + 1, none⟩ = some (.int .i64 v.n)
 c2 : w.cell? ⟨b, o + 2, none⟩ = some (.string v.s)
theorem Kn.At.lt {w : World} {b o : Nat} {v : Kn.V} (h : Kn.At w b o v) : b < w.heap.size := World.block_lt_of_cell? w _ h.c0
theorem Kn.At.later {w w' : World} {b o : Nat} {v : Kn.V} (h : Kn.At w b o v) (g : Below w.heap.size w w') : Kn.At w' b o v :=
 ⟨(g.cell (p := ⟨b, o, none⟩) h.lt).trans h.c0, (g.cell (p := ⟨b, o + 1, none⟩) h.lt).trans h.c1, (g.cell (p := ⟨b, o + 2, none⟩) h.lt).trans h.c2⟩
theorem Kn.cell_new (w : World) (cs : Array Value) (t : TypeId) (i : Nat) (v : Value) (h : cs[i]? = some v) : (w.alloc (.cells cs t)).cell? ⟨w.heap.size, i, none⟩ = some v := by
 have e := heap_alloc_new w (.cells cs t)
 unfold World.cell?
 simp only [e]
 exact h
theorem Kn.At.new (w : World) (v : Kn.V) (t : TypeId) : Kn.At (w.alloc (.cells #[.bool v.null, .int .i64 v.n, .string v.s] t)) w.heap.size 0 v :=
 ⟨Kn.cell_new w _ t 0 _ rfl, Kn.cell_new w _ t 1 _ rfl, Kn.cell_new w _ t 2 _ rfl⟩
theorem Kn.At.alloc {w : World} {b o : Nat} {v : Kn.V} (h : Kn.At w b o v) (x : Obj) : Kn.At (w.alloc x) b o v := h.later ((Below.refl _ w).alloc (Nat.le_refl _) x)
def Kn.Z (a : Kn.V) : Prop := a.s.size ≤ 140737488351232
theorem Kn.len_toList (s : ByteArray) : s.toList.length = s.size := by
 rw [ByteArray.toList_eq]
 exact Array.length_toList
theorem Kn.at_toList (s : ByteArray) (k : Nat) (h : k < s.size) : s.toList.drop k = s[k] :: s.toList.drop (k + 1) := by
 have hl : k < s.toList.length := by rw [Kn.len_toList]; exact h
 rw [List.drop_eq_getElem_cons hl]
 congr 1
 rw [List.getElem_of_eq (ByteArray.toList_eq s)]
 rfl
theorem Kn.bl_step (x y : UInt8) (l m : List UInt8) : ((((x.toNat : Int) != (y.toNat : Int)) = true ∧ Op.bytesLess (x :: l) (y :: m) = decide (x.toNat < y.toNat)) ∨ (((x.toNat : Int) != (y.toNat : Int)) = false ∧ Op.bytesLess (x :: l) (y :: m) = Op.bytesLess l m)) := by
 by_cases h : x = y
 ·subst h
  right
  simp [Op.bytesLess]
 ·left
  have hn : x.toNat ≠ y.toNat := fun e => h (UInt8.toNat_inj.1 e)
  refine ⟨by rw [bne_iff_ne]; omega, ?_⟩
  simp [Op.bytesLess, h, UInt8.lt_iff_toNat_lt]
theorem Kn.bl_end (a b : ByteArray) (k : Nat) (ha : k ≤ a.size) (hb : k ≤ b.size) (h : ¬ k < a.size ∨ ¬ k < b.size) : Op.bytesLess (a.toList.drop k) (b.toList.drop k) = decide (a.size < b.size) := by
 by_cases h1 : k < b.size
 ·have e : a.toList.drop k = [] := List.drop_eq_nil_of_le (by rw [Kn.len_toList]; omega)
  rw [e, Kn.at_toList b k h1]
  rw [decide_eq_true (by omega)]
  rfl
 ·have e : b.toList.drop k = [] := List.drop_eq_nil_of_le (by rw [Kn.len_toList]; omega)
  rw [e, decide_eq_false (by omega)]
  cases List.drop k a.toList <;> rfl
set_option maxRecDepth 100000 in
set_option maxHeartbeats 1000000 in
theorem Kn.rahead_c (a b : ByteArray) (ha : a.size ≤ 140737488351232) (hb : b.size ≤ 140737488351232) (w : World) :
 Calls Try.prog 62 #[.string a, .string b] w fun e w' => e = .returned (.bool (Op.bytesLess a.toList b.toList)) ∧ ∃ n, w' = w.drewN n := by
 go_enter Try.func62, Try.ntmps62
 go_wp2
 go_loopw [5] (fun i wr => ∃ k : Nat, k ≤ a.size ∧ k ≤ b.size ∧ i = .int .i64 k ∧ Op.bytesLess a.toList b.toList = Op.bytesLess (a.toList.drop k) (b.toList.drop k) ∧ ∃ n, wr = w.drewN n) (fun i _ => a.size - (intOf i).toNat)
 case atStart => exact ⟨0, by omega, by omega, rfl, rfl, 0, rfl⟩
 case round =>
  obtain ⟨k, hka, hkb, rfl, hl, n, rfl⟩ := hrel
  by_cases h1 : k < a.size
  ·by_cases h2 : k < b.size
   ·have d1 : (k : Int) < (a.size : Int) := by omega
    have d2 : (k : Int) < (b.size : Int) := by omega
    have d0 : 0 ≤ (k : Int) := by omega
    rw [Kn.at_toList a k h1, Kn.at_toList b k h2] at hl
    have HL := Lib.hid hl
    clear hl
    rcases Kn.bl_step a[k] b[k] (a.toList.drop (k + 1)) (b.toList.drop (k + 1)) with ⟨h3, h4⟩ | ⟨h3, h4⟩
    ·have H4 := Lib.hid h4
     clear h4
     go_wp2_with fail
     go_quiet (fail)
     go_wp2_with fail
     go_quiet (fail)
     go_wp2
     go_ret
     exact ⟨congrArg (fun x => Ending.returned (.bool x)) (HL.out.trans H4.out).symm, _, by rw [World.drewN_drewN, World.drewN_drewN]⟩
    ·have H4 := Lib.hid h4
     clear h4
     go_wp2_with fail
     go_quiet (fail)
     go_wp2
     go_roundw
     case rel => exact ⟨k + 1, by omega, by omega, by simp, by rw [HL.out, H4.out], _, rfl⟩
     case measure => simp [intOf]; omega
   ·have d1 : (k : Int) < (a.size : Int) := by omega
    have d2 : ¬ (k : Int) < (b.size : Int) := by omega
    go_wp2
    go_ret
    exact ⟨congrArg (fun x => Ending.returned (.bool x)) (Kn.bl_end a b k hka hkb (.inr h2)).symm, _, rfl⟩
  ·have d1 : ¬ (k : Int) < (a.size : Int) := by omega
   go_wp2
   go_ret
   exact ⟨congrArg (fun x => Ending.returned (.bool x)) (Kn.bl_end a b k hka hkb (.inl h1)).symm, _, rfl⟩
theorem Kn.ahead_is (a b : Kn.V) : (decide (Kn.cmp a b < 0)) = (if a.null = true then !b.null else if b.null = true then false else if (a.n != b.n) = true then decide (a.n < b.n) else Op.bytesLess a.s.toList b.s.toList) := by
 unfold Kn.cmp
 cases a.null <;> cases b.null <;> simp only [Bool.false_eq_true, if_false, if_true]
 ·by_cases h : a.n = b.n
  ·rw [h]
   have e : Kn.ncmp b.n b.n = 0 := (Kn.ncmp_zero _ _).2 rfl
   rw [e]
   have e2 : (b.n != b.n) = false := by simp
   rw [e2, if_neg (by simp)]
   show decide (Kn.lcmp a.s.toList b.s.toList < 0) = _
   unfold Kn.lcmp
   cases Op.bytesLess a.s.toList b.s.toList
   ·cases Op.bytesLess b.s.toList a.s.toList <;> rfl
   ·rfl
  ·have e : Kn.ncmp a.n b.n ≠ 0 := fun e => h ((Kn.ncmp_zero _ _).1 e)
   have e2 : (a.n != b.n) = true := by rw [bne_iff_ne]; exact h
   rw [if_pos e2]
   unfold Kn.or2
   rw [if_neg e, Bool.eq_iff_iff, decide_eq_true_iff, decide_eq_true_iff]
   unfold Kn.ncmp
   repeat' split <;> omega
 all_goals rfl
set_option maxRecDepth 100000 in
set_option maxHeartbeats 1000000 in
theorem Kn.rAhead_c (a b : Kn.V) (ha : Kn.Z a) (hb : Kn.Z b) (w : World) :
 Calls Try.prog 35 #[a.val, b.val] w fun e w' => e = .returned (.bool (decide (Kn.cmp a b < 0))) ∧ Below w.heap.size w w' := by
 rw [Kn.ahead_is]
 obtain ⟨an, ai, sa⟩ := a
 obtain ⟨bn, bi, sb⟩ := b
 unfold Kn.V.val
 cases an <;> cases bn
 ·rcases Bool.eq_false_or_eq_true (ai != bi) with h | h
  ·show Calls _ _ _ _ fun e w' => e = .returned (.bool (if (ai != bi) = true then decide (ai < bi) else Op.bytesLess sa.toList sb.toList)) ∧ _
   rw [if_pos h]
   go_enter Try.func35, Try.ntmps35
   go_wp2
   go_ret
   exact ⟨rfl, ((Below.refl _ w).alloc (Nat.le_refl _) _).alloc (by simp) _⟩
  ·show Calls _ _ _ _ fun e w' => e = .returned (.bool (if (ai != bi) = true then decide (ai < bi) else Op.bytesLess sa.toList sb.toList)) ∧ _
   rw [if_neg (by rw [h]; simp)]
   go_enter Try.func35, Try.ntmps35
   go_wp2_with fail
   refine (Kn.rahead_c sa sb ha hb _).mono ?_
   rintro e w1 ⟨rfl, n, rfl⟩
   go_wp2
   go_ret
   exact ⟨rfl, Kn.below_drewN (((Below.refl _ w).alloc (Nat.le_refl _) _).alloc (by simp) _) n⟩
 all_goals
  go_enter Try.func35, Try.ntmps35
  go_wp2
  go_ret
  exact ⟨rfl, ((Below.refl _ w).alloc (Nat.le_refl _) _).alloc (by simp) _⟩
end Go.Proofs.Ytodeodndjkkkbaa
namespace Go.Proofs.Ytodeodndjkkkbaa.Ty
open Go Go.RowKit
structure Grew (w w' : World) (v v' : Value) : Prop where
 by_ : w.grownBy w' v.ownBlock
 own : v'.ownBlock = v.ownBlock ∨ ∃ k, v'.ownBlock = some k ∧ w.heap.size ≤ k
theorem Grew.refl (w : World) (v : Value) : Grew w w v v := ⟨⟨rfl, rfl, rfl, Nat.le_refl _, fun _ _ _ => rfl⟩, .inl rfl⟩
theorem Grew.trans {w w1 w2 : World} {v v1 v2 : Value} (h : Grew w w1 v v1) (k : Grew w1 w2 v1 v2) : Grew w w2 v v2 := by
 refine ⟨⟨k.by_.os.trans h.by_.os, k.by_.tape.trans h.by_.tape, k.by_.output.trans h.by_.output, Nat.le_trans h.by_.size k.by_.size, fun i hi hne => ?_⟩, ?_⟩
 ·refine (k.by_.block i (Nat.lt_of_lt_of_le hi h.by_.size) ?_).trans (h.by_.block i hi hne)
  rcases h.own with e | ⟨j, e, hj⟩
  ·rw [e]; exact hne
  ·rw [e]; intro e2; have := Option.some.inj e2; omega
 ·rcases k.own with e | ⟨j, e, hj⟩
  ·rcases h.own with e' | ⟨i, e', hi⟩
   ·exact .inl (e.trans e')
   ·exact .inr ⟨i, e.trans e', hi⟩
  ·exact .inr ⟨j, e, Nat.le_trans h.by_.size hj⟩
theorem Grew.below {w w' : World} {v v' : Value} (h : Grew w w' v v') {B : Nat} (hB : B ≤ w.heap.size) (hv : ∀ k, v.ownBlock = some k → B ≤ k) : Below B w w' :=
 ⟨h.by_.os, h.by_.tape, h.by_.output, h.by_.size, fun k hk => h.by_.block k (by omega) (fun e => by have := hv k e.symm; omega)⟩
section
variable {P : Program} (w : World)
theorem append_tight (base : Nat) (t ty e : TypeId) (i : TypeInfo) (z : Value) (size bytes : Nat) (ht : P.underlying t = some (.slice e)) (hi : P.info? e = some i) (hz : i.zero = some z)
 (hsize : i.size = size) (hby : i.bytes = bytes) (hzs : z.cells.size = size) (hsz : 0 < size)
 (v : Value) (n : Nat) (xs : List Value) (hown : w.ownsRow base e size v n xs)
 (a : Addr) (m c : Nat) (news : List Value) (hl : news.length = m * size) (hnews : ∀ j u, news[j]? = some u → w.cell? (a.add j) = some u) (h1 : ∀ u ∈ news, u.oneCell' = true)
 (h63 : n + m ≤ maxLen) (hbytes : (n + m) * bytes ≤ 140737488355328) (hbase : base ≤ w.heap.size) :
 ∃ v' w', (Builtin.append_ #[t, t] ty #[v, .slice (some a) m c]).run P w = .ok v' w' ∧ w'.ownsRow base e size v' (n + m) (xs ++ news) ∧ Grew w w' v v' := by
 obtain ⟨v', w', hr, ho, hg, hn⟩ := run_append_own (P := P) w base t ty e i z size bytes ht hi hz hsize hby hzs hsz v n xs hown a m c news hl hnews h1 h63 hbytes hbase
 refine ⟨v', w', hr, ho, hg, ?_⟩
 subst hsize; subst hby
 have hsmall : n + m ≤ 9223372036854775807 := by simp only [maxLen] at h63; omega
 rcases hown.2 with ⟨rfl, rfl⟩ | ⟨g, cap, cur, rfl, hbg, hgg, hnc, hcm, hcs, htake⟩
 ·by_cases hm : m = 0
  ·obtain rfl := hn.2 ⟨rfl, hm⟩
   exact .inl rfl
  ·have hr2 := run_append_nil (P := P) w t ty e i z ht hi hz a m c news hl hnews (by omega) (by omega) (by have hb := hbytes; simp only [Nat.zero_add] at hb; omega)
   rw [hr] at hr2
   injection hr2 with e1 _
   subst e1
   exact .inr ⟨_, rfl, Nat.le_refl _⟩
 ·by_cases hroom : n + m ≤ cap
  ·have hr2 := run_append_room (P := P) w t ty e i ht hi g n cap cur hgg a m c news hl hnews h1 hroom (by rw [hl, hcs, ← Nat.add_mul]; exact Nat.mul_le_mul_right _ hroom)
   rw [hr] at hr2
   injection hr2 with e1 _
   subst e1
   exact .inl rfl
  ·have hr2 := run_append_grow (P := P) w t ty e i z ht hi hz ⟨g, 0, none⟩ n cap xs hown.1 (hown.cells (g := g) rfl) a m c news hl hnews (by omega) (by omega) (growslice_fits (by omega) hbytes)
   rw [hr] at hr2
   injection hr2 with e1 _
   subst e1
   exact .inr ⟨_, rfl, Nat.le_refl _⟩
end
def B (u : UInt8) : Value := .int .u8 u.toNat
def Buf (base : Nat) (w : World) (v : Value) (bs : List UInt8) : Prop := w.ownsRow base 5 1 v bs.length (bs.map B)
theorem Buf.nil (base : Nat) (w : World) : Buf base w (.slice none 0 0) [] := World.ownsRow_nil w base _ 1
theorem Buf.len {base : Nat} {w : World} {v : Value} {bs : List UInt8} (h : Buf base w v bs) : v = .slice none 0 0 ∨ ∃ g c, v = .slice (some ⟨g, 0, none⟩) bs.length c ∧ base ≤ g ∧ g < w.heap.size := by
 rcases h.2 with ⟨rfl, _⟩ | ⟨g, cap, cur, rfl, hb, hg, _⟩
 ·exact .inl rfl
 ·exact .inr ⟨g, cap, rfl, hb, (Array.getElem?_eq_some_iff.1 hg).1⟩
theorem Buf.kept {base : Nat} {w w' : World} {v : Value} {bs : List UInt8} (h : Buf base w v bs) (hb : ∀ k, v.ownBlock = some k → w'.heap[k]? = w.heap[k]?) : Buf base w' v bs := by
 refine ⟨h.1, ?_⟩
 rcases h.2 with hn | ⟨g, cap, cur, rfl, hbb, hgg, rest⟩
 ·exact .inl hn
 ·exact .inr ⟨g, cap, cur, rfl, hbb, by rw [hb g rfl]; exact hgg, rest⟩
theorem Buf.string {P : Program} {base : Nat} {w : World} {v : Value} {bs : List UInt8} (h : Buf base w v bs) (src dst : TypeId) (hs : P.underlying src = some (.slice 5)) (he : P.underlying 5 = some (.int .u8)) (hd : P.underlying dst = some .string) :
 (convert src dst v).run P w = .ok (.string ⟨bs.toArray⟩) w := by
 rcases h.2 with ⟨rfl, hn⟩ | ⟨g, cap, cur, rfl, hbb, hgg, hnc, hcm, hcs, htake⟩
 ·rw [List.eq_nil_of_length_eq_zero hn]
  exact run_convert_bytes_nil w src _ hs he 0 0 dst hd
 ·have hc := h.cells (g := g) rfl
  have := run_convert_bytes_arg (P := P) w src _ hs he g 0 bs.length cap (bs.map fun u => (u.toNat : Int)) (by simp) (fun i hi => by
   have := hc i (B bs[i]) (by simp [hi])
   have ea : (⟨g, 0, none⟩ : Addr).add i = ⟨g, 0 + i, none⟩ := by unfold Addr.add; split <;> simp_all
   rw [ea] at this
   rw [this]
   simp [B, hi]) dst hd
  rw [this]
  have e : strOfNums (bs.map fun u => (u.toNat : Int)) = ⟨bs.toArray⟩ := by
   unfold strOfNums
   congr 1
   rw [List.map_map]
   congr 1
   conv => rhs; rw [← List.map_id bs]
   apply List.map_congr_left
   intro u _
   simp
  rw [e]
end Go.Proofs.Ytodeodndjkkkbaa.Ty
