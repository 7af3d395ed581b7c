import Derived.Test.YtikdcmplihgdcaaZAP
import Derived.Test.YtikdcmplihgdcaaZAM
import Derived.Test.YtikdcmplihgdcaaZAI
import Derived.Test.YtikdcmplihgdcaaRows
import Derived.Below
import Derived.ChangeSame
import Derived.Carry
namespace Go.Proofs.Ytikdcmplihgdcaa
open Go.RowKit Go.ChangeShapes Go.WideShapes Go.ChangeAt Go.Deep
theorem Mg.got_z {w : World} {v : Value} {l : List Kn.V} (h : Sk.Got w v l) : ∀ y ∈ l, Kn.Z y := fun y hy => by
 obtain ⟨a, c, _, h⟩ := h
 obtain ⟨_, _, _, hz, _⟩ := h fun e => by rw [e] at hy; cases hy
 exact hz y hy
theorem Mg.got_len {w : World} {v : Value} {l : List Kn.V} (h : Sk.Got w v l) : l.length ≤ 4398046511104 := by
 obtain ⟨a, c, _, h⟩ := h
 by_cases hne : l = []
 ·rw [hne]; exact Nat.zero_le _
 ·obtain ⟨_, _, _, _, hl, _⟩ := h hne
  exact hl
section
variable {H : Type} {enc : TypeId × Value → H} {W : World}
set_option maxRecDepth 100000 in
theorem Mg.open_list {fuel : Nat} {c1 : Value} {z : DataW H × List MemPlace} (h : DataW.trod enc Try.prog W 0 (fun _ => true) true fuel 25 [c1] = some z)
 (hs : ∀ n ∈ z.1.weights Try.prog 25, n ≤ reachBytes) : ∃ L : List Dd.D, Bk.Ds W c1 L ∧ Bk.Zs L ∧ L.length ≤ 4398046511104 ∧ Mg.Rl L := by
 have hC : Try.prog.cellsOf 41 = 2 := by kernel_rfl
 have hBy : Try.prog.bytesOf 41 = 32 := by kernel_rfl
 rcases open_slice Try.underlying25 h with ⟨hcs, hx⟩ | ⟨a, len, cap, m, n, D, Pl, hcs, _, hl, hm, hmm, hx, hi⟩
 ·obtain rfl : c1 = .slice none 0 0 := by simpa using hcs
  exact ⟨[], ⟨none, 0, rfl, Nat.le_refl _, by decide, .inl rfl⟩, (fun x hx => by cases hx), by decide, fun x hx => by cases hx⟩
 ·obtain rfl : c1 = .slice (some a) len cap := by simpa using hcs
  simp only [if_true] at hmm
  have hm' : cap ≤ 9223372036854775807 := by unfold maxLen at hm; omega
  by_cases hz : len = 0
  ·subst hz
   exact ⟨[], ⟨some a, cap, rfl, Nat.zero_le _, hm', .inl rfl⟩, (fun x hx => by cases hx), by decide, fun x hx => by cases hx⟩
  ·have hz1 : z.1 = .slice ((List.range len).map D) ((List.range (m - len)).map fun j => D (len + j)) := by rw [hx]
   rw [hz1] at hs
   simp only [DataW.weights, Try.underlying25, List.mem_cons, List.mem_append] at hs
   have hcap := hs _ (.inl rfl)
   simp only [List.length_map, List.length_range, hBy, reachBytes] at hcap
   have hstr : ∀ i, i < len → ∀ q, q ∈ (D i).weights Try.prog 41 → q ≤ reachBytes := fun i hil q hq =>
    hs q (.inr (.inl (Bk.wa (List.mem_map.2 ⟨i, List.mem_range.2 hil, rfl⟩) hq)))
   rw [hC] at hi
   have hone : ∀ i, i < len → ∃ (x : Dd.D) (u : Value), (W.cell? (a.add (i * 2)) = some (.bool x.gone) ∧ W.cell? (a.add (i * 2 + 1)) = some u) ∧ Kn.Vals W u x.row ∧ (∀ y ∈ x.row, Kn.Z y) ∧ x.row.length ≤ 4398046511104 := fun i hil => by
    obtain ⟨cs', hc, ht⟩ := hi i (by omega)
    obtain ⟨x, rfl, hg⟩ := Sk.open_deed_cells ht (hstr i hil)
    obtain ⟨_, _, hat⟩ := World.cells?_some hc
    have a0 := hat 0 (by omega)
    have a1 := hat 1 (by omega)
    rw [add_add] at a0 a1
    exact ⟨⟨x.gone, x.row⟩, x.rv, ⟨a0, a1⟩, hg.vals, Mg.got_z hg, Mg.got_len hg⟩
   obtain ⟨b, off, spot⟩ := a
   have hspot : spot = none := by
    obtain ⟨x, u, ⟨h0, _⟩, _⟩ := hone 0 (by omega)
    simpa [Addr.add] using World.cell?_spot h0
   subst hspot
   have hlt : b < W.heap.size := by
    obtain ⟨x, u, ⟨h0, _⟩, _⟩ := hone 0 (by omega)
    have := World.block_lt_of_cell? W _ h0
    simpa [Addr.add] using this
   have hch : ∃ f : Nat → Dd.D, ∀ i, i < len → ∃ u, (W.cell? ⟨b, off + i * 2, none⟩ = some (.bool (f i).gone) ∧ W.cell? ⟨b, off + i * 2 + 1, none⟩ = some u) ∧ Kn.Vals W u (f i).row ∧ (∀ y ∈ (f i).row, Kn.Z y) ∧ (f i).row.length ≤ 4398046511104 := by
    have hone' : ∀ i, i < len → ∃ x : Dd.D, ∃ u, (W.cell? ⟨b, off + i * 2, none⟩ = some (.bool x.gone) ∧ W.cell? ⟨b, off + i * 2 + 1, none⟩ = some u) ∧ Kn.Vals W u x.row ∧ (∀ y ∈ x.row, Kn.Z y) ∧ x.row.length ≤ 4398046511104 := fun i hil => by
     obtain ⟨x, u, ⟨h0, h1⟩, h3⟩ := hone i hil
     rw [add_plain] at h0 h1
     rw [← Nat.add_assoc] at h1
     exact ⟨x, u, ⟨h0, h1⟩, h3⟩
    refine ⟨fun i => if hil : i < len then (hone' i hil).choose else ⟨false, []⟩, fun i hil => ?_⟩
    have hs := (hone' i hil).choose_spec
    simp only [dif_pos hil]
    exact hs
   obtain ⟨f, hf'⟩ := hch
   have hlen : ((List.range len).map f).length = len := by simp
   have hall : ∀ d ∈ (List.range len).map f, (∀ y ∈ d.row, Kn.Z y) ∧ d.row.length ≤ 4398046511104 := fun d hd => by
    obtain ⟨i, hi, rfl⟩ := List.mem_map.1 hd
    obtain ⟨_, _, _, h⟩ := hf' i (List.mem_range.1 hi)
    exact h
   refine ⟨(List.range len).map f, ⟨some ⟨b, off, none⟩, cap, by rw [hlen], by rw [hlen]; exact hl, hm', .inr ⟨b, off, rfl, hlt, fun i x hix => ?_⟩⟩, fun d hd y hy => (hall d hd).1 y hy, by rw [hlen]; omega, fun d hd => (hall d hd).2⟩
   rw [List.getElem?_map, Option.map_eq_some_iff] at hix
   obtain ⟨i', hi', rfl⟩ := hix
   obtain ⟨hil, rfl⟩ := List.getElem?_eq_some_iff.1 hi'
   rw [List.getElem_range]
   rw [List.length_range] at hil
   obtain ⟨u, ⟨h0, h1⟩, h2, _⟩ := hf' i hil
   exact ⟨u, h0, h1, h2⟩
theorem Mg.open_deeds {ts : List TypeId} {ds : List (DataW H)} (hsz : (DataW.weightsEach Try.prog ts ds).all (· ≤ reachBytes) = true) {j : Nat} {v : Value} {d : DataW H} {ps : List MemPlace} {r : Reach} {b0 : Nat}
 (ht : ts[j]? = some 25) (hd : ds[j]? = some d) (hv : Value.okWide Try.prog W r b0 25 v) (h : DataW.Trod enc Try.prog W 0 (fun _ => true) true 25 v d ps) :
 ∃ L : List Dd.D, Bk.Ds W v L ∧ Bk.Zs L ∧ L.length ≤ 4398046511104 ∧ Mg.Rl L := by
 obtain ⟨a0, len0, cap0, rfl⟩ := okWide_slice Try.underlying25 hv
 obtain ⟨fuel, hf⟩ := h
 exact Mg.open_list hf (Bk.fits hsz ht hd)
set_option maxRecDepth 100000 in
theorem Mg.open_lists {ts : List TypeId} {ds : List (DataW H)} (hsz : (DataW.weightsEach Try.prog ts ds).all (· ≤ reachBytes) = true) {j : Nat} {v : Value} {d : DataW H} {ps : List MemPlace} {r : Reach} {b0 : Nat}
 (ht : ts[j]? = some 22) (hd : ds[j]? = some d) (hv : Value.okWide Try.prog W r b0 22 v) (h : DataW.Trod enc Try.prog W 0 (fun _ => true) true 22 v d ps) :
 ∃ LL : List (List Dd.D), Mg.Ls W v LL ∧ (∀ L ∈ LL, Bk.Zs L) ∧ ∀ L ∈ LL, Mg.Rl L := by
 obtain ⟨a0, len0, cap0, rfl⟩ := okWide_slice Try.underlying22 hv
 obtain ⟨fuel, hf⟩ := h
 have hs := Bk.fits hsz ht hd
 have hC : Try.prog.cellsOf 25 = 1 := by kernel_rfl
 rcases open_slice Try.underlying22 hf with ⟨hcs, hx⟩ | ⟨a, len, cap, m, n, D, Pl, hcs, _, hl, hm, hmm, hx, hi⟩
 ·have hv : Value.slice a0 len0 cap0 = .slice none 0 0 := by simpa [Value.cells] using hcs
  exact ⟨[], ⟨none, 0, hv, Nat.le_refl _, by decide, .inl rfl⟩, (fun x hx => by cases hx), fun x hx => by cases hx⟩
 ·have hv : Value.slice a0 len0 cap0 = .slice (some a) len cap := by simpa [Value.cells] using hcs
  rw [hv]
  simp only [if_true] at hmm
  have hm' : cap ≤ 9223372036854775807 := by unfold maxLen at hm; omega
  by_cases hz : len = 0
  ·subst hz
   exact ⟨[], ⟨some a, cap, rfl, Nat.zero_le _, hm', .inl rfl⟩, (fun x hx => by cases hx), fun x hx => by cases hx⟩
  ·have hz1 : d = .slice ((List.range len).map D) ((List.range (m - len)).map fun j => D (len + j)) := by
    have := congrArg Prod.fst hx
    exact this
   rw [hz1] at hs
   simp only [DataW.weights, Try.underlying22, List.mem_cons, List.mem_append] at hs
   have hstr : ∀ i, i < len → ∀ q, q ∈ (D i).weights Try.prog 25 → q ≤ reachBytes := fun i hil q hq =>
    hs q (.inr (.inl (Bk.wa (List.mem_map.2 ⟨i, List.mem_range.2 hil, rfl⟩) hq)))
   rw [hC] at hi
   have hone : ∀ i, i < len → ∃ (L : List Dd.D) (u : Value), W.cell? (a.add (i * 1)) = some u ∧ Bk.Ds W u L ∧ Bk.Zs L ∧ Mg.Rl L := fun i hil => by
    obtain ⟨cs', hc, ht⟩ := hi i (by omega)
    obtain ⟨hcl, _, hat⟩ := World.cells?_some hc
    match cs', hcl with
    | [c1], _ =>
      obtain ⟨L, h1, h2, _, h4⟩ := Mg.open_list ht (hstr i hil)
      have a0 := hat 0 (by decide)
      rw [add_add] at a0
      exact ⟨L, c1, a0, h1, h2, h4⟩
   obtain ⟨b, off, spot⟩ := a
   have hspot : spot = none := by
    obtain ⟨x, u, h0, _⟩ := hone 0 (by omega)
    simpa [Addr.add] using World.cell?_spot h0
   subst hspot
   have hlt : b < W.heap.size := by
    obtain ⟨x, u, h0, _⟩ := hone 0 (by omega)
    have := World.block_lt_of_cell? W _ h0
    simpa [Addr.add] using this
   have hone' : ∀ i, i < len → ∃ L : List Dd.D, (∃ u, W.cell? ⟨b, off + i, none⟩ = some u ∧ Bk.Ds W u L) ∧ Bk.Zs L ∧ Mg.Rl L := fun i hil => by
    obtain ⟨L, u, h0, h1, h2⟩ := hone i hil
    rw [add_plain, Nat.mul_one] at h0
    exact ⟨L, ⟨u, h0, h1⟩, h2.1, h2.2⟩
   have hch : ∃ f : Nat → List Dd.D, ∀ i, i < len → (∃ u, W.cell? ⟨b, off + i, none⟩ = some u ∧ Bk.Ds W u (f i)) ∧ Bk.Zs (f i) ∧ Mg.Rl (f i) := by
    refine ⟨fun i => if hil : i < len then (hone' i hil).choose else [], fun i hil => ?_⟩
    have hs := (hone' i hil).choose_spec
    simp only [dif_pos hil]
    exact hs
   obtain ⟨f, hf'⟩ := hch
   have hlen : ((List.range len).map f).length = len := by simp
   refine ⟨(List.range len).map f, ⟨some ⟨b, off, none⟩, cap, by rw [hlen], by rw [hlen]; exact hl, hm', .inr ⟨b, off, rfl, hlt, fun i x hix => ?_⟩⟩, (fun L hL => ?_), fun L hL => ?_⟩
   ·rw [List.getElem?_map, Option.map_eq_some_iff] at hix
    obtain ⟨i', hi', rfl⟩ := hix
    obtain ⟨hil, rfl⟩ := List.getElem?_eq_some_iff.1 hi'
    rw [List.getElem_range]
    rw [List.length_range] at hil
    exact (hf' i hil).1
   ·obtain ⟨i, hi, rfl⟩ := List.mem_map.1 hL
    exact (hf' i (List.mem_range.1 hi)).2.1
   ·obtain ⟨i, hi, rfl⟩ := List.mem_map.1 hL
    exact (hf' i (List.mem_range.1 hi)).2.2
end
end Go.Proofs.Ytikdcmplihgdcaa
namespace Go.Proofs.Ytikdcmplihgdcaa.Ty
open Go.RowKit Go.WideShapes Go.ChangeShapes
theorem post_below {H : Type} {enc : TypeId × Value → H} {P : Program} {f : Func} {s : ChangeSpec} {apart fresh handsOn again : Bool} {W W' : World} {args : Array Value} {v : Value} {ds gs : List (DataW H)} {before pa pv : List MemPlace}
 (hW : DataW.Whole enc P f.params.toList s.vars apart W args.toList ds gs before)
 (hr : ∀ (b : Nat) (sp : Nat → Bool) (hd : Bool), DataW.TrodAll enc P W' b sp hd f.resultTypes.toList (v.resultList f.resultTypes.size) (s.fn H (ds ++ gs)).results [])
 (ha : ∀ sp : Nat → Bool, (∀ p ∈ before, sp p.block = true) → DataW.TrodAll enc P W' 0 sp true f.params.toList args.toList (s.fn H (ds ++ gs)).args pa)
 (hv : ∀ sp : Nat → Bool, (∀ p ∈ before, sp p.block = true) → DataW.TrodVars enc P W' sp s.vars (s.fn H (ds ++ gs)).vars pv)
 (hp : before = pa ++ pv) (hb : Below W.heap.size W W')
 (hok : ∀ (j : Nat) (t : TypeId) (r : Value), f.resultTypes[j]? = some t → (v.resultList f.resultTypes.size)[j]? = some r → Value.okWide P W' .any 0 t r) :
 s.post enc P f apart fresh handsOn again W args v W' := by
 have hl : ∀ p ∈ before, p.block < W.heap.size := fun p h => hW.lt p h
 have hs : ∀ p ∈ before, (fun b => decide (b < W.heap.size)) p.block = true := fun p h => by simpa using hl p h
 have hW0 := hW
 obtain ⟨_, _, _, _, _, hz, hn⟩ := hW0
 refine ⟨ds, gs, before, [], pa, pv, hW, hr _ _ _, ha _ hs, hv _ hs, World.keptBut_mono (fun p h => ⟨h, by rw [hp] at h; exact .inr (List.mem_append.1 h)⟩) (hb.frame (· ∈ before)), fun _ => ⟨hok, _, _, ([] ++ pa) ++ pv, ⟨[] ++ pa, pv, trodAll_append (ha _ (fun _ _ => rfl)) (hr _ _ _), hv _ (fun _ _ => rfl), rfl, ?_, ?_⟩, ?_⟩⟩
 ·intro b off h
  have hin : MemPlace.cell b off ∈ before := by rw [hp]; simpa using h
  rw [hb.frozen (hl _ hin)]
  exact hz b off hin
 ·intro hap
  have := hn hap
  rw [hp] at this
  simpa using this
 ·intro p h _
  rw [hp]
  simpa using h
end Go.Proofs.Ytikdcmplihgdcaa.Ty
namespace Go.Proofs.Ytikdcmplihgdcaa.Ty
open Go.RowKit Go.WideShapes Go.ChangeShapes
theorem all_stay {H : Type} {enc : TypeId × Value → H} {P : Program} (hl : laidOutB P = true) {W W' : World} {sp : Nat → Bool} : ∀ (ts : List TypeId) (vs : List Value) (ds : List (DataW H)) (ps : List MemPlace),
 (ts.all fun t => P.readableRec t && decide (t < P.types.size)) = true → DataW.TrodAll enc P W 0 (fun _ => true) true ts vs ds ps → (∀ p ∈ ps, W.sameAt W' p) → (∀ p ∈ ps, sp p.block = true) → DataW.TrodAll enc P W' 0 sp true ts vs ds ps
 | [], [], [], _, _, h, _, _ => h
 | [], [], _ :: _, _, _, h, _, _ => h.elim
 | [], _ :: _, [], _, _, h, _, _ => h.elim
 | [], _ :: _, _ :: _, _, _, h, _, _ => h.elim
 | _ :: _, [], [], _, _, h, _, _ => h.elim
 | _ :: _, [], _ :: _, _, _, h, _, _ => h.elim
 | _ :: _, _ :: _, [], _, _, h, _, _ => h.elim
 | t :: ts, v :: vs, d :: ds, ps, ht, h, hs, hsp => by
   obtain ⟨p, q, h1, h2, rfl⟩ := h
   simp only [List.all_cons, Bool.and_eq_true, decide_eq_true_eq] at ht
   exact ⟨p, q, WideElems.Trod_stays hl ht.1.1 ht.1.2 h1 (fun x hx => hs x (List.mem_append_left _ hx)) (fun x hx => hsp x (List.mem_append_left _ hx)),
    all_stay hl ts vs ds q ht.2 h2 (fun x hx => hs x (List.mem_append_right _ hx)) (fun x hx => hsp x (List.mem_append_right _ hx)), rfl⟩
end Go.Proofs.Ytikdcmplihgdcaa.Ty
