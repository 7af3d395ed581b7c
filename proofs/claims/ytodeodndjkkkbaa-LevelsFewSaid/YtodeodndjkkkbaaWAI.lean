import Derived.Test.YtodeodndjkkkbaaWAF
import Derived.Test.YtodeodndjkkkbaaWAH
import Derived.Test.YtodeodndjkkkbaaRows
import Derived.Below
import Derived.ChangeSame
import Derived.Carry
namespace Go.Proofs.Ytodeodndjkkkbaa
open Go.RowKit Go.ChangeShapes Go.WideShapes Go.ChangeAt Go.Deep
def Lv.Zp (p : Mf.P) : Prop := Kn.Z p.lo ∧ Kn.Z p.hi
section
variable {H : Type} {enc : TypeId × Value → H} {W : World}
theorem Lv.wa {P : Program} {e : TypeId} {d : DataW H} {n : Nat} : ∀ {l : List (DataW H)}, d ∈ l → n ∈ d.weights P e → n ∈ DataW.weightsAll P e l
 | x :: l, hd, hn => by
   rw [DataW.weightsAll, List.mem_append]
   rcases List.mem_cons.1 hd with rfl | hd
   ·exact .inl hn
   ·exact .inr (Lv.wa hd hn)
theorem Lv.fits {ts : List TypeId} {ds : List (DataW H)} (h : (DataW.weightsEach Try.prog ts ds).all (· ≤ reachBytes) = true) {j : Nat} {t : TypeId} {d : DataW H} (ht : ts[j]? = some t) (hd : ds[j]? = some d) : ∀ n ∈ d.weights Try.prog t, n ≤ reachBytes :=
 fun n hn => of_decide_eq_true (List.all_eq_true.1 h n (DataW.weights_mem_each ht hd _ hn))
set_option maxRecDepth 100000 in
theorem Lv.open_slw {α : Type} {T e : TypeId} {k : Nat} {en : α → List Value} {Q : α → Prop} (hT : Try.prog.underlying T = some (.slice e)) (hC : Try.prog.cellsOf e = k) (hk : 0 < k) (hlen : ∀ x, (en x).length = k) (d0 : α)
 (hop : ∀ {fuel : Nat} {cs : List Value} {z : DataW H × List MemPlace}, DataW.trod enc Try.prog W 0 (fun _ => true) true fuel e cs = some z → (∀ n ∈ z.1.weights Try.prog e, n ≤ reachBytes) → ∃ x, cs = en x ∧ Q x)
 {fuel : Nat} {c1 : Value} {z : DataW H × List MemPlace} (h : DataW.trod enc Try.prog W 0 (fun _ => true) true fuel T [c1] = some z) (hs : ∀ n ∈ z.1.weights Try.prog T, n ≤ reachBytes) :
 ∃ L : List α, Mf.At k en W c1 L ∧ (∀ x ∈ L, Q x) ∧ L.length + 1 ≤ Rows.uptoBulk z.1 ∧ L.length ≤ 9223372036854775807 := by
 rcases open_slice hT h with ⟨hcs, hx⟩ | ⟨a, len, cap, m, n, D, Pl, hcs, _, hl, hm, hmm, hx, hi⟩
 ·obtain rfl : c1 = .slice none 0 0 := by simpa using hcs
  exact ⟨[], Mf.At.nil _, (fun x hx => nomatch hx), Mf.bulk_pos _, Nat.zero_le _⟩
 ·obtain rfl : c1 = .slice (some a) len cap := by simpa using hcs
  simp only [if_true] at hmm
  have hz1 : z.1 = .slice ((List.range len).map D) ((List.range (m - len)).map fun j => D (len + j)) := by rw [hx]
  have hbk : len + 1 ≤ Rows.uptoBulk z.1 := by
   rw [hz1]
   have := Mf.bulk_all ((List.range len).map D)
   simp only [List.length_map, List.length_range] at this
   simp only [Rows.uptoBulk]
   omega
  have hlm : len ≤ 9223372036854775807 := by unfold maxLen at hm; omega
  rw [hz1] at hs
  simp only [DataW.weights, hT, List.mem_cons, List.mem_append] at hs
  have hstr : ∀ i, i < len → ∀ q, q ∈ (D i).weights Try.prog e → q ≤ reachBytes := fun i hil q hq =>
   hs q (.inr (.inl (Lv.wa (List.mem_map.2 ⟨i, List.mem_range.2 hil, rfl⟩) hq)))
  by_cases hz : len = 0
  ·subst hz
   exact ⟨[], ⟨some a, cap, rfl, Nat.zero_le _, .inl ⟨rfl, fun e => nomatch e⟩⟩, (fun x hx => nomatch hx), hbk, Nat.zero_le _⟩
  ·rw [hC] at hi
   have hone : ∀ i, i < len → ∃ x, (∀ j, j < k → W.cell? (a.add (i * k + j)) = (en x)[j]?) ∧ Q x := fun i hil => by
    obtain ⟨cs', hc, ht⟩ := hi i (by omega)
    obtain ⟨x, rfl, hq⟩ := hop ht (hstr i hil)
    obtain ⟨hcl, _, hat⟩ := World.cells?_some hc
    refine ⟨x, fun j hj => ?_, hq⟩
    have aj := hat j hj
    rw [add_add] at aj
    exact aj
   have hsome : ∃ v, W.cell? (a.add 0) = some v := by
    obtain ⟨x, h0, _⟩ := hone 0 (by omega)
    have := h0 0 hk
    rw [List.getElem?_eq_getElem (by rw [hlen]; exact hk)] at this
    rw [Nat.zero_mul, Nat.zero_add] at this
    exact ⟨_, this⟩
   obtain ⟨v0, hv0⟩ := hsome
   obtain ⟨b, off, spot⟩ := a
   have hspot : spot = none := by simpa [Addr.add] using World.cell?_spot hv0
   subst hspot
   rw [add_plain] at hv0
   obtain ⟨hcs0, hfr, hheap⟩ := Mf.heap_of_cell hv0
   have hch : ∃ f : Nat → α, ∀ i, i < len → (∀ j, j < k → W.cell? ⟨b, off + i * k + j, none⟩ = (en (f i))[j]?) ∧ Q (f i) := by
    have hone' : ∀ i, i < len → ∃ x, (∀ j, j < k → W.cell? ⟨b, off + i * k + j, none⟩ = (en x)[j]?) ∧ Q x := fun i hil => by
     obtain ⟨x, h1, h2⟩ := hone i hil
     refine ⟨x, fun j hj => ?_, h2⟩
     have := h1 j hj
     rw [add_plain, ← Nat.add_assoc] at this
     exact this
    refine ⟨fun i => if hil : i < len then (hone' i hil).choose else d0, fun i hil => ?_⟩
    have hs := (hone' i hil).choose_spec
    simp only [dif_pos hil]
    exact hs
   obtain ⟨f, hf'⟩ := hch
   have hlen2 : ((List.range len).map f).length = len := by simp
   refine ⟨(List.range len).map f, ⟨some ⟨b, off, none⟩, cap, by rw [hlen2], by rw [hlen2]; exact hl, .inr ⟨b, off, hcs0, hfr, rfl, trivial, hheap, fun i j x hix hj => ?_⟩⟩, fun x hx => ?_, by rw [hlen2]; exact hbk, by rw [hlen2]; exact hlm⟩
   ·rw [List.getElem?_map, Option.map_eq_some_iff] at hix
    obtain ⟨i', hi', rfl⟩ := hix
    obtain ⟨hil, rfl⟩ := List.getElem?_eq_some_iff.1 hi'
    rw [List.getElem_range]
    rw [List.length_range] at hil
    exact (hf' i hil).1 j hj
   ·obtain ⟨i, hi, rfl⟩ := List.mem_map.1 hx
    exact (hf' i (List.mem_range.1 hi)).2
theorem Lv.open_value {fuel : Nat} {cs : List Value} {z : DataW H × List MemPlace} (ht : DataW.trod enc Try.prog W 0 (fun _ => true) true fuel 36 cs = some z) (hs : ∀ n ∈ z.1.weights Try.prog 36, n ≤ reachBytes) :
 ∃ x : Kn.V, cs = [.bool x.null, .int .i64 x.n, .string x.s] ∧ Kn.Z x := by
 obtain ⟨x, rfl, hd⟩ := Kn.open_cells ht
 refine ⟨x, rfl, ?_⟩
 have h1 := hs x.s.size (by
  rw [show z.1 = Kn.rd x from hd]
  unfold Kn.rd
  simp only [DataW.weights, Try.underlying36]
  show x.s.size ∈ DataW.weightsEach Try.prog [4, 2, 9] [.lit (.bool x.null), .lit (.int .i64 x.n), .lit (.string x.s.data.toList)]
  simp [DataW.weightsEach, DataW.weights])
 unfold reachBytes at h1
 unfold Kn.Z
 omega
set_option maxRecDepth 100000 in
theorem Lv.open_part {fuel : Nat} {cs : List Value} {z : DataW H × List MemPlace} (h : DataW.trod enc Try.prog W 0 (fun _ => true) true fuel 38 cs = some z) (hs : ∀ n ∈ z.1.weights Try.prog 38, n ≤ reachBytes) :
 ∃ p : Mf.P, cs = Mf.pc p ∧ Lv.Zp p := by
 obtain ⟨xs, f', _, hx, hcl, hxl, hg⟩ := DataW.trod_struct Try.underlying38 h
 have hC : Try.prog.cellsOf 38 = 8 := by kernel_rfl
 have i2 : Try.prog.cellsOf 3 = 1 := by kernel_rfl
 have i9 : Try.prog.cellsOf 36 = 3 := by kernel_rfl
 rw [hC] at hcl
 match cs, hcl, xs, hxl with
 | [c0, c1, c2, c3, c4, c5, c6, c7], _, [y0, y1, y2, y3], _ =>
   have g0 : DataW.trod enc Try.prog W 0 (fun _ => true) true f' 3 ((List.drop 0 [c0, c1, c2, c3, c4, c5, c6, c7]).take (Try.prog.cellsOf 3)) = some y0 := hg 0 _ rfl
   have g1 : DataW.trod enc Try.prog W 0 (fun _ => true) true f' 3 ((List.drop 1 [c0, c1, c2, c3, c4, c5, c6, c7]).take (Try.prog.cellsOf 3)) = some y1 := hg 1 _ rfl
   have g2 : DataW.trod enc Try.prog W 0 (fun _ => true) true f' 36 ((List.drop 2 [c0, c1, c2, c3, c4, c5, c6, c7]).take (Try.prog.cellsOf 36)) = some y2 := hg 2 _ rfl
   have g3 : DataW.trod enc Try.prog W 0 (fun _ => true) true f' 36 ((List.drop 5 [c0, c1, c2, c3, c4, c5, c6, c7]).take (Try.prog.cellsOf 36)) = some y3 := hg 3 _ rfl
   rw [i2] at g0 g1
   rw [i9] at g2 g3
   have hz : z.1 = .agg [y0.1, y1.1, y2.1, y3.1] := by rw [hx]; rfl
   rw [hz] at hs
   simp only [DataW.weights, Try.underlying38] at hs
   have hs : ∀ n ∈ DataW.weightsEach Try.prog [3, 3, 36, 36] [y0.1, y1.1, y2.1, y3.1], n ≤ reachBytes := hs
   simp only [DataW.weightsEach, List.mem_append] at hs
   obtain ⟨x0, e0, w0⟩ := Mf.open_int (show DataW.trod enc Try.prog W 0 (fun _ => true) true f' 3 [c0] = some y0 from g0)
   obtain ⟨x1, e1, w1⟩ := Mf.open_int (show DataW.trod enc Try.prog W 0 (fun _ => true) true f' 3 [c1] = some y1 from g1)
   obtain ⟨x2, e2, w2⟩ := Lv.open_value (show DataW.trod enc Try.prog W 0 (fun _ => true) true f' 36 [c2, c3, c4] = some y2 from g2) (fun n hn => hs n (.inr (.inr (.inl hn))))
   obtain ⟨x3, e3, w3⟩ := Lv.open_value (show DataW.trod enc Try.prog W 0 (fun _ => true) true f' 36 [c5, c6, c7] = some y3 from g3) (fun n hn => hs n (.inr (.inr (.inr (by first | exact .inl hn | exact hn)))))
   unfold Mf.ic at e0 e1
   simp only [List.cons.injEq, and_true] at e0 e1 e2 e3
   obtain ⟨rfl, rfl, rfl⟩ := e2
   obtain ⟨rfl, rfl, rfl⟩ := e3
   subst e0 e1
   exact ⟨⟨x0, x1, x2, x3⟩, rfl, w2, w3⟩
set_option maxRecDepth 100000 in
theorem Lv.open_parts {ts : List TypeId} {ds : List (DataW H)} (hsz : (DataW.weightsEach Try.prog ts ds).all (· ≤ reachBytes) = true) {j : Nat} {v : Value} {d : DataW H} {ps : List MemPlace} {r : Reach} {b0 : Nat}
 (ht : ts[j]? = some 22) (hd : ds[j]? = some d) (hv : Value.okWide Try.prog W r b0 22 v) (h : DataW.Trod enc Try.prog W 0 (fun _ => true) true 22 v d ps) :
 ∃ L : List Mf.P, Mf.Ps W v L ∧ (∀ p ∈ L, Lv.Zp p) ∧ L.length ≤ 9223372036854775807 := by
 obtain ⟨a0, len0, cap0, rfl⟩ := okWide_slice Try.underlying22 hv
 obtain ⟨fuel, hf⟩ := h
 obtain ⟨L, h1, h2, _, h4⟩ := Lv.open_slw (Q := Lv.Zp) Try.underlying22 (by kernel_rfl) (by decide) Mf.pc_len ⟨0, 0, ⟨false, 0, ⟨#[]⟩⟩, ⟨false, 0, ⟨#[]⟩⟩⟩ (fun h hs => Lv.open_part h hs) hf (Lv.fits hsz ht hd)
 exact ⟨L, h1, h2, h4⟩
end
end Go.Proofs.Ytodeodndjkkkbaa
namespace Go.Proofs.Ytodeodndjkkkbaa.Ty
open Go.RowKit Go.WideShapes Go.ChangeShapes
theorem post_below {H : Type} {enc : TypeId × Value → H} {P : Program} {f : Func} {s : ChangeSpec} {apart fresh handsOn again : Bool} {W W' : World} {args : Array Value} {v : Value} {ds gs : List (DataW H)} {before pa pv : List MemPlace}
 (hW : DataW.Whole enc P f.params.toList s.vars apart W args.toList ds gs before)
 (hr : ∀ (b : Nat) (sp : Nat → Bool) (hd : Bool), DataW.TrodAll enc P W' b sp hd f.resultTypes.toList (v.resultList f.resultTypes.size) (s.fn H (ds ++ gs)).results [])
 (ha : ∀ sp : Nat → Bool, (∀ p ∈ before, sp p.block = true) → DataW.TrodAll enc P W' 0 sp true f.params.toList args.toList (s.fn H (ds ++ gs)).args pa)
 (hv : ∀ sp : Nat → Bool, (∀ p ∈ before, sp p.block = true) → DataW.TrodVars enc P W' sp s.vars (s.fn H (ds ++ gs)).vars pv)
 (hp : before = pa ++ pv) (hb : Below W.heap.size W W')
 (hok : ∀ (j : Nat) (t : TypeId) (r : Value), f.resultTypes[j]? = some t → (v.resultList f.resultTypes.size)[j]? = some r → Value.okWide P W' .any 0 t r) :
 s.post enc P f apart fresh handsOn again W args v W' := by
 have hl : ∀ p ∈ before, p.block < W.heap.size := fun p h => hW.lt p h
 have hs : ∀ p ∈ before, (fun b => decide (b < W.heap.size)) p.block = true := fun p h => by simpa using hl p h
 have hW0 := hW
 obtain ⟨_, _, _, _, _, hz, hn⟩ := hW0
 refine ⟨ds, gs, before, [], pa, pv, hW, hr _ _ _, ha _ hs, hv _ hs, World.keptBut_mono (fun p h => ⟨h, by rw [hp] at h; exact .inr (List.mem_append.1 h)⟩) (hb.frame (· ∈ before)), fun _ => ⟨hok, _, _, ([] ++ pa) ++ pv, ⟨[] ++ pa, pv, trodAll_append (ha _ (fun _ _ => rfl)) (hr _ _ _), hv _ (fun _ _ => rfl), rfl, ?_, ?_⟩, ?_⟩⟩
 ·intro b off h
  have hin : MemPlace.cell b off ∈ before := by rw [hp]; simpa using h
  rw [hb.frozen (hl _ hin)]
  exact hz b off hin
 ·intro hap
  have := hn hap
  rw [hp] at this
  simpa using this
 ·intro p h _
  rw [hp]
  simpa using h
end Go.Proofs.Ytodeodndjkkkbaa.Ty
namespace Go.Proofs.Ytodeodndjkkkbaa.Ty
open Go.RowKit Go.WideShapes Go.ChangeShapes
theorem all_stay {H : Type} {enc : TypeId × Value → H} {P : Program} (hl : laidOutB P = true) {W W' : World} {sp : Nat → Bool} : ∀ (ts : List TypeId) (vs : List Value) (ds : List (DataW H)) (ps : List MemPlace),
 (ts.all fun t => P.readableRec t && decide (t < P.types.size)) = true → DataW.TrodAll enc P W 0 (fun _ => true) true ts vs ds ps → (∀ p ∈ ps, W.sameAt W' p) → (∀ p ∈ ps, sp p.block = true) → DataW.TrodAll enc P W' 0 sp true ts vs ds ps
 | [], [], [], _, _, h, _, _ => h
 | [], [], _ :: _, _, _, h, _, _ => h.elim
 | [], _ :: _, [], _, _, h, _, _ => h.elim
 | [], _ :: _, _ :: _, _, _, h, _, _ => h.elim
 | _ :: _, [], [], _, _, h, _, _ => h.elim
 | _ :: _, [], _ :: _, _, _, h, _, _ => h.elim
 | _ :: _, _ :: _, [], _, _, h, _, _ => h.elim
 | t :: ts, v :: vs, d :: ds, ps, ht, h, hs, hsp => by
   obtain ⟨p, q, h1, h2, rfl⟩ := h
   simp only [List.all_cons, Bool.and_eq_true, decide_eq_true_eq] at ht
   exact ⟨p, q, WideElems.Trod_stays hl ht.1.1 ht.1.2 h1 (fun x hx => hs x (List.mem_append_left _ hx)) (fun x hx => hsp x (List.mem_append_left _ hx)),
    all_stay hl ts vs ds q ht.2 h2 (fun x hx => hs x (List.mem_append_right _ hx)) (fun x hx => hsp x (List.mem_append_right _ hx)), rfl⟩
end Go.Proofs.Ytodeodndjkkkbaa.Ty
