/-
  The developers' disk: Load, its map of texts; one file more; the disk that it makes.
  The developers' disk: Load.
-/
import Derived.Test.YtfkdkdkdpenblaaVY
import Derived.Lib.ConvBytes
import Derived.Laws.IdiomRangeMap
namespace Go.Proofs.Ytfkdkdkdpenblaa
open Go.RowKit Go.Maps Go.Shelf
/-- How a text reads. -/
def Dk.strR : Value → Option (DataW Unit × List MemPlace)
  | .string s => some (.lit (.string s.data.toList), [])
  | _ => none
def Dk.mkS (t : Dk.Str) : Value := .string (Ty.S t)
theorem Dk.mkS_inv (v : Value) (y : DataW Unit × List MemPlace) (h : Dk.strR v = some y) : ∃ t, v = Dk.mkS t := by
  unfold Dk.strR at h
  split at h
  · next s => exact ⟨s.data.toList, rfl⟩
  · cases h
theorem Dk.strR_mk (t : Dk.Str) : Dk.strR (Dk.mkS t) = some (.lit (.string t), []) := rfl
/-- The map D holds the texts T. -/
def Dk.Txs (D : DataW Unit) (T : Dk.Str → Option Dk.Str) : Prop := ∀ (s : Dk.Str) (z : DataW Unit), D.atKey (.string s) z = match T s with | none => z | some t => .lit (.string t)
theorem Dk.Txs.nil : Dk.Txs (.map []) fun _ => none := fun _ _ => rfl
theorem Dk.Txs.put {D : DataW Unit} {T : Dk.Str → Option Dk.Str} (h : Dk.Txs D T) (hD : IsMap D) (s t : Dk.Str) : Dk.Txs (D.put (.string s) (.lit (.string t))) (fun u => if u = s then some t else T u) := fun u z => by
  by_cases e : u = s
  · simp only [e, if_true]
    rw [atKey_put_same hD (Dk.isKey s)]
  · simp only [if_neg e]
    rw [atKey_put_other (Dk.str_ne e), h u z]
theorem Dk.Txs.has {D : DataW Unit} {T : Dk.Str → Option Dk.Str} (h : Dk.Txs D T) (s : Dk.Str) : Maps.has D (.string s) = (T s).isSome := by
  cases hl : T s with
  | none => exact has_false_of_atKey fun z => by rw [h s z, hl]
  | some f => exact has_true_of_atKey (y := .lit (.string f)) fun z => by rw [h s z, hl]
section
variable {m : Bool} {S S' : Nat → Prop} {w w' : World} {q : Nat → Nat} {vb : Nat → Value} {fs : List (Dk.Str × Nat)}
theorem Dk.file_more (x : Dk.Str × Nat) : Dk.file (fs ++ [x]) fs.length = x := by
  unfold Dk.file
  rw [List.getD, List.getElem?_append_right (Nat.le_refl _), Nat.sub_self]
  rfl
/-- One file more, in a new block. -/
theorem Dk.PF.more (h : Dk.PF m S w q vb fs) (hS : ∀ b, S b → S' b) (hal : ∀ b, S b → b < w.heap.size) (ho : ∀ b, S b → w'.heap[b]? = w.heap[b]?) {qn : Nat} {v : Value} (x : Dk.Str × Nat) (hq : w.heap.size ≤ qn)
    (hc : w'.heap[qn]? = some (.cells #[v, .int .i64 (x.2 : Int)] 75 (0, 0))) (hn : S' qn) (hb : Dk.PB m w' v x.1) (hv : ∀ b, v.ownBlock = some b → w.heap.size ≤ b ∧ S' b) :
    Dk.PF m S' w' (fun f => if f = fs.length then qn else q f) (fun f => if f = fs.length then v else vb f) (fs ++ [x]) := by
  have hl : (fs ++ [x]).length = fs.length + 1 := by simp
  have hfo : ∀ g, g < fs.length → Dk.file (fs ++ [x]) g = Dk.file fs g := fun g hg => Dk.file_snoc fs x hg
  have hfn : Dk.file (fs ++ [x]) fs.length = x := Dk.file_more x
  have part : ∀ g, g < (fs ++ [x]).length → (g = fs.length ∨ (g ≠ fs.length ∧ g < fs.length)) := fun g hg => by rw [hl] at hg; omega
  refine ⟨fun g hg => ?_, fun g hg => ?_, fun g k hg hk => ?_, fun g hg => ?_, fun g b hg => ?_, fun g k b hg hk => ?_⟩
  · rcases part g hg with e | ⟨e, hg⟩
    · simp only [e, if_true]
      rw [hfn]
      exact hc
    · simp only [if_neg e]
      rw [hfo g hg, ho _ (h.mine g hg)]
      exact h.cell g hg
  · rcases part g hg with e | ⟨e, hg⟩
    · simp only [e, if_true]; exact hn
    · simp only [if_neg e]; exact hS _ (h.mine g hg)
  · rcases part g hg with e | ⟨e, hg⟩ <;> rcases part k hk with e' | ⟨e', hk⟩
    · intro _; rw [e, e']
    · simp only [e, if_true, if_neg e']
      intro e2; have := hal _ (h.mine k hk); omega
    · simp only [e', if_true, if_neg e]
      intro e2; have := hal _ (h.mine g hg); omega
    · simp only [if_neg e, if_neg e']
      exact h.inj g k hg hk
  · rcases part g hg with e | ⟨e, hg⟩
    · simp only [e, if_true]
      rw [hfn]
      exact hb
    · simp only [if_neg e]
      rw [hfo g hg]
      exact (h.bytes g hg).same fun b hb => ho b (h.bmine g b hg hb)
  · rcases part g hg with e | ⟨e, hg⟩
    · simp only [e, if_true]
      exact fun e2 => (hv b e2).2
    · simp only [if_neg e]
      exact fun e2 => hS _ (h.bmine g b hg e2)
  · rcases part g hg with e | ⟨e, hg⟩ <;> rcases part k hk with e' | ⟨e', hk⟩
    · intro _ _; rw [e, e']
    · simp only [e, if_true, if_neg e']
      intro e1 e2; have := (hv b e1).1; have := hal _ (h.bmine k b hk e2); omega
    · simp only [e', if_true, if_neg e]
      intro e1 e2; have := (hv b e2).1; have := hal _ (h.bmine g b hg e1); omega
    · simp only [if_neg e, if_neg e']
      exact h.binj g k b hg hk
theorem Dk.size_bound {M : Nat} : ∀ fs : List (Dk.Str × Nat), (∀ x ∈ fs, x.1.length ≤ M) → Dk.size fs ≤ fs.length * M
  | [], _ => Nat.zero_le _
  | a :: fs, h => by
    have e : Dk.size (a :: fs) = a.1.length + Dk.size fs := by simp [Dk.size]
    have := Dk.size_bound fs fun x hx => h x (List.mem_cons_of_mem _ hx)
    have := h a List.mem_cons_self
    rw [e, List.length_cons, Nat.add_mul]
    omega
/-- '[]byte(s)'. -/
theorem Dk.run_bytes (s : ByteArray) (w : World) : (convert 9 73 (.string s)).run Try.prog w = .ok (.slice (some ⟨w.heap.size, 0, none⟩) s.size (grownCap w s.size 0 5)) (Lib.bytesWorld w 5 s) :=
  Lib.run_convert_string_bytes w 9 73 5 s Try.underlying9 Try.underlying73 Try.underlying5
theorem Dk.PB.loaded (w w' : World) (t : Dk.Str) (ht : t.length ≤ 140737488351232) (g : w'.heap[w.heap.size]? = (Lib.bytesWorld w 5 (Ty.S t)).heap[w.heap.size]?) :
    Dk.PB true w' (.slice (some ⟨w.heap.size, 0, none⟩) (Ty.S t).size (grownCap w (Ty.S t).size 0 5)) t := by
  have hsz : (Ty.S t).size = t.length := Tx.S_size t
  have hcs : (Lib.bytesCells w 5 (Ty.S t)).toList = t.map Ty.B ++ List.replicate (grownCap w (Ty.S t).size 0 5 - (Ty.S t).size) (.int .u8 0) := by
    unfold Lib.bytesCells
    rw [Array.toList_append, Array.toList_replicate]
    congr 1
    simp [Ty.S, Ty.B]
  refine .inr ⟨w.heap.size, _, Lib.bytesCells w 5 (Ty.S t), _, by rw [hsz], g.trans (Lib.bytesWorld_at_new w _ _), ?_, ?_, ?_, ?_, .inl rfl⟩
  · exact grownCap_ge w t.length 0 _
  · exact grownCap_le_maxLen w t.length 0 _ (by unfold maxLen; omega)
  · rw [← Array.length_toList, hcs, List.length_append, List.length_map]; omega
  · rw [hcs]
    have : t.length = (t.map Ty.B).length := (List.length_map _).symm
    rw [this]
    exact List.take_left
end
/-- In the midst of Load: the world w is the one ahead of it; b the map of texts. -/
structure Dk.Lo (w : World) (b n : Nat) (D : DataW Unit) (T : Dk.Str → Option Dk.Str) (wr : World) (left : Lit → Bool) (cnt : Nat) (q : Nat → Nat) (vb : Nat → Value) (fs : List (Dk.Str × Nat)) (l : Dk.Dir) : Prop where
  rg : wr.ranges Try.prog 9 Dk.strR b (w.heap.size + 1) n D left cnt
  old : b < w.heap.size
  files : Dk.PF true (fun k => w.heap.size ≤ k ∧ k < wr.heap.size) wr q vb fs
  map : Dk.PM wr q w.heap.size l
  well : Dk.Well fs.length l
  len : l.length ≤ fs.length
  num : fs.length + cnt ≤ 7
  sure : ∀ x ∈ fs, x.2 = x.1.length ∧ x.1.length ≤ 140737488351232
  nms : ∀ y ∈ l, y.1.length ≤ 140737488351232
  got : ∀ s, left (.string s) = false → Dk.look l s = none → T s = none
  was : ∀ s f, Dk.look l s = some f → left (.string s) = false ∧ T s = some (Dk.file fs f).1
  below : Below w.heap.size w wr
section
variable {w wr : World} {b n : Nat} {D : DataW Unit} {T : Dk.Str → Option Dk.Str} {left : Lit → Bool} {cnt : Nat} {q : Nat → Nat} {vb : Nat → Value} {fs : List (Dk.Str × Nat)} {l : Dk.Dir}
/-- Load begins. -/
theorem Dk.Lo.start {w0 : World} (hD : Dk.Txs D T) (hb : b < w.heap.size) (hn : Maps.size D ≤ 7) (hr : w0.ranges Try.prog 9 Dk.strR b (w.alloc (.map #[] 0)).heap.size n D (Maps.has D) (Maps.size D)) (g : (w.alloc (.map #[] 0)).grownBy w0 none) :
    Dk.Lo w b n D T w0 (Maps.has D) (Maps.size D) (fun _ => 0) (fun _ => .slice none 0 0) [] [] := by
  have hs : (w.alloc (.map #[] 0)).heap.size = w.heap.size + 1 := World.size_alloc _ _
  rw [hs] at hr
  have hg : Below w.heap.size w w0 := ((Below.refl _ w).alloc (Nat.le_refl _) _).grown g (by omega) (fun j hj => by cases hj)
  refine ⟨hr, hb, Dk.PF.nil, ?_, Dk.Well.nil _, Nat.le_refl _, by simpa using hn, by simp, by simp, fun s h _ => ?_, fun s f h => (by cases h), hg⟩
  · exact (Dk.PM.made w _).same (g.block _ (by rw [hs]; omega) (by simp))
  · rw [hD.has] at h
    cases e : T s with
    | none => rfl
    | some t => rw [e] at h; cases h
/-- A round. -/
theorem Dk.Lo.round (h : Dk.Lo w b n D T wr left cnt q vb fs l) (hD : Dk.Txs D T) (hT : ∀ s t, T s = some t → s.length ≤ 140737488351232 ∧ t.length ≤ 140737488351232) {x t : Dk.Str} {w1 w2 : World} {cnt1 : Nat} (hl : left (.string x) = true) (hat : ∀ z, D.atKey (.string x) z = .lit (.string t))
    (r1 : w1.ranges Try.prog 9 Dk.strR b (w.heap.size + 1) n D (fun z => left z && !z.sameKey (.string x)) cnt1) (hlt : cnt1 < cnt) (g1 : wr.grownBy w1 (some (w.heap.size + 1))) (s1 : w1.heap.size = wr.heap.size) (g2 : Below w1.heap.size w1 w2) :
    ∃ w3 gc w5, (convert 9 73 (.string (Ty.S t))).run Try.prog w2 = .ok (.slice (some ⟨w2.heap.size, 0, none⟩) (Ty.S t).size gc) w3 ∧
      (Instr.mapUpdate 57 (.map (some w.heap.size)) (.string (Ty.S x)) (.pointer (some ⟨w3.heap.size, 0, none⟩))).run Try.prog (w3.alloc (.cells #[.slice (some ⟨w2.heap.size, 0, none⟩) (Ty.S t).size gc, .int .i64 ((Ty.S t).size : Int)] 75)) = .ok () w5 ∧
      ∃ q' vb' fs' l', Dk.Lo w b n D T w5 (fun z => left z && !z.sameKey (.string x)) cnt1 q' vb' fs' l' := by
  have hTx : T x = some t := by
    have e := hD x
    cases hx : T x with
    | none =>
      rw [hx] at e
      have e1 := (e (.lit (.bool false))).symm.trans (hat _)
      cases e1
    | some u =>
      rw [hx] at e
      have e1 := (e (.lit (.bool false))).symm.trans (hat _)
      simp only [DataW.lit.injEq, Lit.string.injEq] at e1
      rw [e1]
  obtain ⟨hxl, htl⟩ := hT x t hTx
  have hnone : Dk.look l x = none := by
    cases hx : Dk.look l x with
    | none => rfl
    | some f =>
      have := (h.was x f hx).1
      rw [hl] at this
      cases this
  have hmlt := h.map.lt
  obtain ⟨es, ck, hmb⟩ := h.map.isMap
  have hitr := h.rg.lt
  have old1 : ∀ k, k < wr.heap.size → k ≠ w.heap.size + 1 → w2.heap[k]? = wr.heap[k]? := fun k hk hne => (g2.block k (by omega)).trans (g1.block k hk (fun e => hne (by simpa using e)))
  have hs2 : wr.heap.size ≤ w2.heap.size := by have := g2.size; omega
  obtain ⟨w3, hw3⟩ : ∃ w3, w3 = Lib.bytesWorld w2 5 (Ty.S t) := ⟨_, rfl⟩
  obtain ⟨w4, hw4⟩ : ∃ w4, w4 = w3.alloc (.cells #[.slice (some ⟨w2.heap.size, 0, none⟩) (Ty.S t).size (grownCap w2 (Ty.S t).size 0 5), .int .i64 ((Ty.S t).size : Int)] 75) := ⟨_, rfl⟩
  have hs3 : w3.heap.size = w2.heap.size + 1 := by rw [hw3]; exact Lib.bytesWorld_size _ _ _
  have hs4 : w4.heap.size = w3.heap.size + 1 := by rw [hw4]; exact World.size_alloc _ _
  have old3 : ∀ k, k < w2.heap.size → w3.heap[k]? = w2.heap[k]? := fun k hk => by rw [hw3]; exact Lib.bytesWorld_at_old _ _ _ _ hk
  have old4 : ∀ k, k < w3.heap.size → w4.heap[k]? = w3.heap[k]? := fun k hk => by rw [hw4]; exact Below.heap_alloc w3 _ k hk
  have g3 : Below w2.heap.size w2 w3 := by rw [hw3]; exact ⟨rfl, rfl, rfl, by rw [Lib.bytesWorld_size]; omega, fun j hj => Lib.bytesWorld_at_old _ _ _ j hj⟩
  have g4 : Below w3.heap.size w3 w4 := by rw [hw4]; exact (Below.refl _ w3).alloc (Nat.le_refl _) _
  have g24 : Below w1.heap.size w1 w4 := (g2.trans (g3.mono g2.size)).trans (g4.mono (by have := g2.size; omega))
  have old : ∀ k, k < wr.heap.size → k ≠ w.heap.size + 1 → w4.heap[k]? = wr.heap[k]? := fun k hk hne => (g24.block k (by omega)).trans (g1.block k hk (fun e => hne (by simpa using e)))
  -- the files
  have hfile : w4.heap[w3.heap.size]? = some (.cells #[.slice (some ⟨w2.heap.size, 0, none⟩) (Ty.S t).size (grownCap w2 (Ty.S t).size 0 5), .int .i64 (((t, t.length) : Dk.Str × Nat).2 : Int)] 75 (0, 0)) := by
    rw [hw4]
    exact heap_alloc_new w3 _
  have hpb : Dk.PB true w4 (.slice (some ⟨w2.heap.size, 0, none⟩) (Ty.S t).size (grownCap w2 (Ty.S t).size 0 5)) ((t, t.length) : Dk.Str × Nat).1 := Dk.PB.loaded w2 w4 t htl (by rw [old4 _ (by omega), hw3])
  -- the iterator's block holds no cells: the files don't lie there
  have hF1 : Dk.PF true (fun k => (w.heap.size ≤ k ∧ k < wr.heap.size) ∧ k ≠ w.heap.size + 1) wr q vb fs := by
    obtain ⟨_, _, _, _, _, _, _, _, _, hir, _⟩ := h.rg
    have hno : ∀ k cs T fr, wr.heap[k]? = some (.cells cs T fr) → k ≠ w.heap.size + 1 := fun k cs T fr hk e => by
      rw [e, hir] at hk
      cases hk
    refine ⟨h.files.cell, fun f hf => ⟨h.files.mine f hf, hno _ _ _ _ (h.files.cell f hf)⟩, h.files.inj, h.files.bytes, fun f k hf hk => ⟨h.files.bmine f k hf hk, ?_⟩, h.files.binj⟩
    obtain ⟨cs, fr, hcs⟩ := (h.files.bytes f hf).typed k hk
    exact hno _ _ _ _ hcs
  have hF := hF1.more (S' := fun k => w.heap.size ≤ k ∧ k < w4.heap.size) (w' := w4) (fun k hk => ⟨hk.1.1, by have := hk.1.2; omega⟩) (fun k hk => hk.1.2) (fun k hk => old k hk.1.2 hk.2) (qn := w3.heap.size) ((t, t.length) : Dk.Str × Nat) (by omega) hfile ⟨by have := h.below.size; omega, by omega⟩ hpb (fun k e => by
    simp only [Value.ownBlock, Option.some.injEq] at e
    subst e
    exact ⟨hs2, by have := h.below.size; omega, by omega⟩)
  -- the map
  have hM : Dk.PM w4 (fun f => if f = fs.length then w3.heap.size else q f) w.heap.size l := (h.map.turn h.well.asc (q' := fun f => if f = fs.length then w3.heap.size else q f) (fun y hy => by
    have := h.well.lim y hy
    exact if_neg (by omega))).same (old _ hmlt (by omega))
  obtain ⟨w5, hrun, hM5, ht5⟩ := hM.store h.well.asc (by have := h.len; have := h.num; omega) x hxl fs.length
  try simp only [if_true] at hrun
  refine ⟨w3, _, w5, by rw [hw3]; exact Dk.run_bytes (Ty.S t) w2, by rw [hw4] at hrun; exact hrun, fun f => if f = fs.length then w3.heap.size else q f, fun f => if f = fs.length then .slice (some ⟨w2.heap.size, 0, none⟩) (Ty.S t).size (grownCap w2 (Ty.S t).size 0 5) else vb f, fs ++ [(t, t.length)], Dk.wi l (x, fs.length), ?_⟩
  have gt := ht5.grown
  have hs5 : w5.heap.size = w4.heap.size := by
    have := ht5.grown
    obtain ⟨_, _, es', ck', _, e5⟩ := ht5
    rw [e5]
    exact Array.size_setIfInBounds
  have hlook : ∀ s, Dk.look (Dk.wi l (x, fs.length)) s = if s = x then some fs.length else Dk.look l s := fun s => Dk.look_wi h.well.asc (x, fs.length) s
  have hkey : ∀ s, (left (.string s) && !(Lit.string s).sameKey (.string x)) = if s = x then false else left (.string s) := fun s => by
    by_cases e : s = x
    · rw [if_pos e, e]; simp [Lit.sameKey]
    · rw [if_neg e, Maps.sameKey_ne (Dk.str_ne e)]; simp
  refine ⟨?_, h.old, ?_, hM5, ?_, ?_, ?_, ?_, ?_, ?_, ?_, ?_⟩
  · have r4 : w4.ranges Try.prog 9 Dk.strR b (w.heap.size + 1) n D (fun z => left z && !z.sameKey (.string x)) cnt1 := r1.kept (row := none) ⟨g24.os, g24.tape, g24.output, g24.size, fun k hk _ => g24.block k hk⟩ (by simp) (by simp)
    exact r4.kept gt (by have := h.old; simp; omega) (by simp)
  · refine Dk.PF.mono (S := fun k => w.heap.size ≤ k ∧ k < w4.heap.size) (hF.other fun k cs T fr hk hc _ => gt.block k hk.2 fun e => ?_) fun k hk => ⟨hk.1, by rw [hs5]; exact hk.2⟩
    simp only [Option.some.injEq] at e
    rw [e, old _ hmlt (by omega), hmb] at hc
    cases hc
  · have := (h.well.mono (m := (fs ++ [(t, t.length)]).length) (by simp)).wi (x, fs.length) (by simp) (fun y hy => by
      have := h.well.lim y (Dk.mem_wo.1 hy).1
      simp only
      omega)
    exact this
  · have := Dk.len_wi l (x, fs.length)
    have := h.len
    rw [List.length_append, List.length_singleton]
    omega
  · have := h.num
    rw [List.length_append, List.length_singleton]
    omega
  · intro y hy
    rcases List.mem_append.1 hy with hy | hy
    · exact h.sure y hy
    · rw [List.mem_singleton] at hy
      subst hy
      exact ⟨rfl, htl⟩
  · intro y hy
    rcases Dk.mem_wi.1 hy with e | ⟨hy, _⟩
    · rw [e]; exact hxl
    · exact h.nms y hy
  · intro s hs hlk
    rw [hkey] at hs
    rw [hlook] at hlk
    by_cases e : s = x
    · rw [if_pos e] at hlk; cases hlk
    · rw [if_neg e] at hs hlk
      exact h.got s hs hlk
  · intro s f hlk
    rw [hlook] at hlk
    rw [hkey]
    by_cases e : s = x
    · rw [if_pos e] at hlk ⊢
      simp only [Option.some.injEq] at hlk
      subst hlk
      rw [Dk.file_more, e, hTx]
      exact ⟨rfl, rfl⟩
    · rw [if_neg e] at hlk ⊢
      have hlt2 := h.well.lim _ ((Dk.look_some h.well.asc).1 hlk)
      rw [Dk.file_snoc fs _ hlt2]
      exact h.was s f hlk
  · have b1 : Below w.heap.size w w1 := h.below.grown g1 h.below.size (fun j hj => by cases hj; omega)
    have b4 : Below w.heap.size w w4 := b1.trans (g24.mono b1.size)
    exact b4.grown gt b4.size (fun j hj => by cases hj; omega)
end
/-- A disk that was loaded with the texts T. -/
structure Dk.Loaded (T : Dk.Str → Option Dk.Str) (d : Dk.D) : Prop where
  fit : Dk.FitL d
  chg : d.chg = []
  dirs : d.dir = d.sure
  sure : ∀ y ∈ d.dir, (Dk.file d.files y.2).2 = (Dk.file d.files y.2).1.length
  none : ∀ s, Dk.look d.dir s = none → T s = none
  some : ∀ s f, Dk.look d.dir s = some f → T s = some (Dk.file d.files f).1
theorem Dk.Loaded.read {T : Dk.Str → Option Dk.Str} {d : Dk.D} (h : Dk.Loaded T d) {s t : Dk.Str} (ht : T s = .some t) : Dk.read d s = (t, 0) := by
  unfold Dk.read
  cases hl : Dk.look d.dir s with
  | none => rw [h.none s hl] at ht; cases ht
  | some f =>
    rw [h.some s f hl] at ht
    simp only [Option.some.injEq] at ht
    simp only [ht]
/-- A crash takes nothing of it. -/
theorem Dk.Loaded.crash {T : Dk.Str → Option Dk.Str} {d : Dk.D} (h : Dk.Loaded T d) (n : Int) (keep : List Int) : Dk.Loaded T (Dk.crash d n keep) := by
  have hd : Dk.crashDir d n = d.dir := by
    unfold Dk.crashDir
    rw [h.chg, List.take_nil, h.dirs]
    rfl
  have hf : (Dk.crash d n keep).files = d.files := by
    show Dk.cuts keep 0 d.files (Dk.crashDir d n) = d.files
    rw [hd]
    exact Dk.cuts_full keep d.dir 0 d.files h.fit.inv.dir.lim h.sure
  have hdir : (Dk.crash d n keep).dir = d.dir := hd
  have hs : (Dk.crash d n keep).sure = d.sure := hd.trans h.dirs
  have hc : (Dk.crash d n keep).chg = [] := rfl
  refine ⟨⟨h.fit.inv.crash n keep, ?_, ?_, ?_, ?_⟩, hc, hdir.trans (h.dirs.trans hs.symm), ?_, ?_, ?_⟩
  · rw [hs, hc]; have := h.fit.dirs; simp only [List.length_nil]; omega
  · rw [hf]; exact h.fit.bytes
  · rw [hs]; exact h.fit.sure
  · rw [hc]; intro c hc; cases hc
  · rw [hdir, hf]; exact h.sure
  · rw [hdir]; exact h.none
  · rw [hdir, hf]; exact h.some
end Go.Proofs.Ytfkdkdkdpenblaa

namespace Go.Proofs.Ytfkdkdkdpenblaa
open Go.RowKit Go.Maps Go.Shelf
section
variable {w wr : World} {b n : Nat} {D : DataW Unit} {T : Dk.Str → Option Dk.Str} {left : Lit → Bool} {cnt : Nat} {q : Nat → Nat} {vb : Nat → Value} {fs : List (Dk.Str × Nat)} {l : Dk.Dir}
/-- Load's end. -/
theorem Dk.Lo.done (h : Dk.Lo w b n D T wr left cnt q vb fs l) (hl : ∀ kl, left kl = false) :
    ∃ d : Dk.D, Dk.Loaded T d ∧ Calls Try.prog 51 #[.map (some w.heap.size)] wr fun e w1 => ∃ bN, e = .returned (.map (some bN)) ∧
      Calls Try.prog 54 #[.map (some w.heap.size)] w1 fun e w2 => e = .returned (.int .i64 ((Dk.held d : Nat) : Int)) ∧
        ∀ w3, w3 = w2.alloc (.cells (Dk.pcells (.map (some bN)) (.map (some w.heap.size)) (.slice none 0 0) 1099511627776 ((Dk.held d : Nat) : Int) false 0 false 0) 62) →
          Dk.PAtM true (fun k => w.heap.size ≤ k ∧ k < w3.heap.size) w3 w2.heap.size d ∧ Below w.heap.size w w3 := by
  have hsz : Dk.size fs ≤ 1000000000000000 := by
    have h1 := Dk.size_bound (M := 140737488351232) fs fun x hx => (h.sure x hx).2
    have h2 : fs.length ≤ 7 := by have := h.num; omega
    have h3 : fs.length * 140737488351232 ≤ 7 * 140737488351232 := Nat.mul_le_mul_right _ h2
    omega
  have hhl : Dk.heldL fs l ≤ 1000000000000000 := Nat.le_trans (Dk.heldL_le l fs h.well.one h.well.lim) hsz
  have hinv : Dk.Inv { files := fs, dir := l, sure := l, chg := [], room := 1099511627776, halt := -1, deny := -1, calls := 0 } := ⟨rfl, h.well, fun x hx => Nat.le_of_eq (h.sure x hx).1⟩
  refine ⟨{ files := fs, dir := l, sure := l, chg := [], room := 1099511627776, halt := -1, deny := -1, calls := 0 }, ⟨⟨hinv, ?_, hsz, h.nms, by intro c hc; cases hc⟩, rfl, rfl, fun y hy => ?_, fun s hs => h.got s (hl _) hs, fun s f hs => (h.was s f hs).2⟩, ?_⟩
  · have := h.len
    have := h.num
    show l.length + 0 ≤ _
    omega
  · exact (h.sure _ (Dk.file_mem (h.well.lim y hy))).1
  · refine (Dk.pclone_c h.map).mono ?_
    rintro e w1 ⟨he, hm, g1⟩
    refine ⟨_, he, ?_⟩
    have hF1 := h.files.same (w' := w1) fun k hk => g1.block k hk.2
    have hM1 := h.map.same (w' := w1) (g1.block _ h.map.lt)
    refine (Dk.pused_c hF1 (fun k hk => Nat.lt_of_lt_of_le hk.2 g1.size) (.inr ⟨_, rfl, hM1⟩) h.well hhl).mono ?_
    rintro e w2 ⟨he2, g2⟩
    refine ⟨he2, fun w3 hw3 => ?_⟩
    have hs3 : w3.heap.size = w2.heap.size + 1 := by rw [hw3]; exact World.size_alloc _ _
    have g3 : Below w2.heap.size w2 w3 := by rw [hw3]; exact (Below.refl _ w2).alloc (Nat.le_refl _) _
    have g13 : Below w1.heap.size w1 w3 := g2.trans (g3.mono g2.size)
    have gr3 : Below wr.heap.size wr w3 := g1.trans (g13.mono g1.size)
    have hbs := h.below.size
    have hml := h.map.lt
    have hg1 := g1.size
    have hg2 := g2.size
    have hbl := hm.lt
    refine ⟨⟨q, vb, [], .map (some wr.heap.size), .map (some w.heap.size), .slice none 0 0, false, 0, false, 0, ?_, ?_, ?_, Dk.Own.nil _ _, by simp [Value.ownBlock], Dk.PCs.nil, ⟨by decide, by decide, .inl ⟨rfl, by decide, (show (-1 : Int) < 0 by decide)⟩⟩, ⟨by decide, by decide, .inl ⟨rfl, by decide, (show (-1 : Int) < 0 by decide)⟩⟩, ⟨by omega, by omega⟩, fun k hk => hk.2, fun e => by cases e⟩, ?_⟩
    · rw [hw3]
      exact heap_alloc_new w2 _
    · exact (h.files.same (w' := w3) fun k hk => gr3.block k hk.2).mono fun k hk => ⟨hk.1, by omega⟩
    · exact .inr ⟨wr.heap.size, w.heap.size, rfl, rfl, by omega, ⟨by omega, by omega⟩, ⟨by omega, by omega⟩, hm.same (g13.block _ hbl), h.map.same (gr3.block _ hml)⟩
    · exact h.below.trans (gr3.mono hbs)
end
set_option maxHeartbeats 4000000 in
set_option maxRecDepth 100000 in
theorem Dk.pload_c {w : World} {b n : Nat} {D : DataW Unit} {T : Dk.Str → Option Dk.Str} (h : w.ownsMap Try.prog 9 Dk.strR b n D) (hD : Dk.Txs D T) (hn : n ≤ 7) (hT : ∀ s t, T s = some t → s.length ≤ 140737488351232 ∧ t.length ≤ 140737488351232) :
    Calls Try.prog 32 #[.map (some b)] w fun e w' => ∃ p, e = .returned (.pointer (some ⟨p, 0, none⟩)) ∧ (∃ d, Dk.Loaded T d ∧ Dk.PAtM true (fun k => w.heap.size ≤ k ∧ k < w'.heap.size) w' p d) ∧ Below w.heap.size w w' := by
  have hblt := h.lt
  have hsn : Maps.size D ≤ 7 := Nat.le_trans h.size_le hn
  have hown := h.alloc (.map #[] 0)
  have HST : Hid (∀ w0, w0.ranges Try.prog 9 Dk.strR b (w.alloc (.map #[] 0)).heap.size n D (Maps.has D) (Maps.size D) → (w.alloc (.map #[] 0)).grownBy w0 none → Dk.Lo w b n D T w0 (Maps.has D) (Maps.size D) (fun _ => 0) (fun _ => .slice none 0 0) [] []) := Lib.hid fun w0 hr g => Dk.Lo.start hD hblt hsn hr g
  have hmm := @run_makeMap Try.prog
  have HD := Lib.hid hD
  have HT := Lib.hid hT
  clear h hD hT hsn hblt
  go_enter Try.func32, Try.ntmps32
  go_wp2_with (first
    | (at_range; refine wpList_range_own _ rfl _ 52 rfl 9 9 Dk.keyed Try.underlying52 _ b n _ rfl hown ?_; intro w0 hrg0 hg0 hs0)
    | go_in)
  have HLO := Lib.hid (HST.out w0 hrg0 hg0)
  clear hrg0 hg0 hs0 HST hmm hown
  have hs : (w.alloc (.map #[] 0)).heap.size = w.heap.size + 1 := World.size_alloc _ _
  rw [hs]
  clear hs
  go_frame
  go_loopw [4, 5] (fun _ _ wr => ∃ (left : Lit → Bool) (cnt : Nat) (q : Nat → Nat) (vb : Nat → Value) (fs : List (Dk.Str × Nat)) (l : Dk.Dir), Dk.Lo w b n D T wr left cnt q vb fs l) (fun _ _ wr => wr.rangeLeft b (w.heap.size + 1))
  case atStart => exact ⟨_, _, _, _, _, _, HLO.out⟩
  case round =>
    obtain ⟨left, cnt, q, vb, fs, l, hlo⟩ := hrel
    have HL := Lib.hid hlo
    have hrg := hlo.rg
    clear hlo
    go_wp2_with (first
      | (at_next; refine wpList_next_ranges _ rfl _ rfl 9 Dk.keyed Dk.strR Dk.mkS Dk.mkS (fun key kl hk => by obtain ⟨x, hx, _⟩ := Maps.keyOf_str Try.underlying9 hk; exact ⟨x, hx⟩) Dk.mkS_inv b (w.heap.size + 1) n _ _ _ rfl hrg ?_ ?_)
      | go_in)
    · intro hc0 hl0
      obtain ⟨d, hd, hcl⟩ := HL.out.done hl0
      have HDD := Lib.hid hd
      clear hd hc0 hl0 hrg HL
      generalize ((Dk.held d : Nat) : Int) = hz at hcl
      go_wp2_with fail
      with_reducible refine hcl.mono ?_
      rintro e w1 ⟨bN, rfl, cu⟩
      clear hcl
      go_wp2_with fail
      with_reducible refine cu.mono ?_
      rintro e w2 ⟨rfl, hK⟩
      have HK := Lib.hid hK
      clear cu hK
      go_wp2
      go_ret
      obtain ⟨h1, h2⟩ := HK.out _ rfl
      exact ⟨_, rfl, ⟨d, HDD.out, h1⟩, h2⟩
    · intro x t kl yd yp w1 cnt1 hkey hlk hv hat hrg1 hlt hg1 hs1 hen
      obtain ⟨x', ex, rfl, _⟩ := Maps.keyOf_str Try.underlying9 hkey
      obtain rfl : x = x' := encStr_inj ex
      have hat' : ∀ z, D.atKey (.string x) z = .lit (.string t) := fun z => by
        rw [Dk.strR_mk] at hv
        simp only [Option.some.injEq, Prod.mk.injEq] at hv
        rw [hat z, ← hv.1]
      have hxl : x.length ≤ 140737488351232 := by
        have e := HD.out x (.lit (.bool false))
        rw [hat'] at e
        cases hTx : T x with
        | none => rw [hTx] at e; cases e
        | some u => exact (HT.out x u hTx).1
      have cc := Tx.clone_c (Ty.S x) w1 (by rw [Tx.S_size]; omega)
      have HR : Hid (∀ w2, Below w1.heap.size w1 w2 → ∃ w3 gc w5, (convert 9 73 (.string (Ty.S t))).run Try.prog w2 = .ok (.slice (some ⟨w2.heap.size, 0, none⟩) (Ty.S t).size gc) w3 ∧
          (Instr.mapUpdate 57 (.map (some w.heap.size)) (.string (Ty.S x)) (.pointer (some ⟨w3.heap.size, 0, none⟩))).run Try.prog (w3.alloc (.cells #[.slice (some ⟨w2.heap.size, 0, none⟩) (Ty.S t).size gc, .int .i64 ((Ty.S t).size : Int)] 75)) = .ok () w5 ∧
          ∃ q' vb' fs' l', Dk.Lo w b n D T w5 (fun z => left z && !z.sameKey (.string x)) cnt1 q' vb' fs' l') := Lib.hid fun w2 g2 => HL.out.round HD.out HT.out hlk hat' hrg1 hlt hg1 hs1 g2
      have HLT := Lib.hid hlt
      have HRG := Lib.hid hrg
      have hen' : (Instr.entry (.pointer (some ⟨w.heap.size + 1, 0, none⟩))).run Try.prog w1 = .ok (.tuple #[.string (Ty.S x), .string (Ty.S t)]) w1 := hen
      change wpList _ _ _ _ (_ : Act) w1
      clear hkey hlk hv hat hrg1 hlt hg1 hs1 ex hat' hxl hrg hen
      unfold Dk.mkS
      generalize Ty.S x = sx at cc HR hen' ⊢
      generalize Ty.S t = st at HR hen' ⊢
      go_wp2_with fail
      with_reducible refine cc.mono ?_
      rintro e w2 ⟨rfl, g2⟩
      obtain ⟨w3, gc, w5, hcv, hmu, q', vb', fs', l', hlo⟩ := HR.out w2 g2
      have HLO2 := Lib.hid hlo
      clear cc HR g2 hlo
      go_wp2
      go_roundw
      case rel => exact ⟨_, _, _, _, _, _, HLO2.out⟩
      case measure => rw [HLO2.out.rg.left_eq, HRG.out.left_eq]; exact HLT.out
end Go.Proofs.Ytfkdkdkdpenblaa
