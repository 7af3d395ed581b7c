import Derived.Test.YthfgcilaikjhpaaZBAE
import Derived.Test.YthfgcilaikjhpaaRows
import Derived.Below
import Derived.ChangeSame
import Derived.Carry
namespace Go.Proofs.Ythfgcilaikjhpaa
open Go.RowKit Go.ChangeShapes Go.WideShapes Go.ChangeAt Go.Deep
section
variable {H : Type} {enc : TypeId × Value → H} {W : World}
def Mf.e4 (x : Mf.E × Value × Value) : List Value := [x.2.1, x.2.2, .int .i64 x.1.floor, .int .i64 x.1.next]
set_option maxRecDepth 100000 in
theorem Mf.open_edits {v : Value} {d : DataW H} {ps : List MemPlace} {r : Reach} {b0 : Nat} (hv : Value.okWide Try.prog W r b0 22 v) (h : DataW.Trod enc Try.prog W 0 (fun _ => true) true 22 v d ps) :
 ∃ L : List Mf.E, Mf.Es W v L ∧ ∀ e ∈ L, ∀ p ∈ e.add, Mf.ok9 p := by
 obtain ⟨a0, len0, cap0, rfl⟩ := okWide_slice Try.underlying22 hv
 obtain ⟨fuel, hf⟩ := h
 obtain ⟨L, h1, h2, _⟩ := Mf.open_sl (α := Mf.E × Value × Value) (en := Mf.e4) (k := 4) (Q := fun x => Mf.Is W x.2.1 x.1.drop ∧ Mf.Ps W x.2.2 x.1.add ∧ ∀ p ∈ x.1.add, Mf.ok9 p) Try.underlying22 (by kernel_rfl) (by decide) (fun _ => rfl) (⟨[], [], 0, 0⟩, .bool false, .bool false)
  (fun h => by
   obtain ⟨e, vd, va, hc, hd, ha, h9⟩ := Mf.open_edit_cells h
   exact ⟨(e, vd, va), hc, hd, ha, h9⟩) (show DataW.trod enc Try.prog W 0 (fun _ => true) true fuel 22 [.slice a0 len0 cap0] = some (d, ps) from hf)
 refine ⟨L.map (·.1), ?_, fun e he => ?_⟩
 ·obtain ⟨a, c, e, _, h⟩ := h1
  refine ⟨a, c, by rw [e, List.length_map], ?_⟩
  rcases h with ⟨rfl, _⟩ | ⟨b, o, cs, fr, ha, _, _, h⟩
  ·exact .inl rfl
  ·refine .inr ⟨b, o, ha, fun i x hi => ?_⟩
   rw [List.getElem?_map, Option.map_eq_some_iff] at hi
   obtain ⟨y, hy, rfl⟩ := hi
   obtain ⟨q1, q2, _⟩ := h2 y (List.mem_of_getElem? hy)
   exact ⟨y.2.1, y.2.2, ⟨h i 0 y hy (by decide), h i 1 y hy (by decide), h i 2 y hy (by decide), h i 3 y hy (by decide)⟩, q1, q2⟩
 ·obtain ⟨y, hy, rfl⟩ := List.mem_map.1 he
  exact (h2 y hy).2.2
end
end Go.Proofs.Ythfgcilaikjhpaa
namespace Go.Proofs.Ythfgcilaikjhpaa.Ty
open Go.RowKit Go.WideShapes Go.ChangeShapes
theorem post_below {H : Type} {enc : TypeId × Value → H} {P : Program} {f : Func} {s : ChangeSpec} {apart fresh handsOn again : Bool} {W W' : World} {args : Array Value} {v : Value} {ds gs : List (DataW H)} {before pa pv : List MemPlace}
 (hW : DataW.Whole enc P f.params.toList s.vars apart W args.toList ds gs before)
 (hr : ∀ (b : Nat) (sp : Nat → Bool) (hd : Bool), DataW.TrodAll enc P W' b sp hd f.resultTypes.toList (v.resultList f.resultTypes.size) (s.fn H (ds ++ gs)).results [])
 (ha : ∀ sp : Nat → Bool, (∀ p ∈ before, sp p.block = true) → DataW.TrodAll enc P W' 0 sp true f.params.toList args.toList (s.fn H (ds ++ gs)).args pa)
 (hv : ∀ sp : Nat → Bool, (∀ p ∈ before, sp p.block = true) → DataW.TrodVars enc P W' sp s.vars (s.fn H (ds ++ gs)).vars pv)
 (hp : before = pa ++ pv) (hb : Below W.heap.size W W')
 (hok : ∀ (j : Nat) (t : TypeId) (r : Value), f.resultTypes[j]? = some t → (v.resultList f.resultTypes.size)[j]? = some r → Value.okWide P W' .any 0 t r) :
 s.post enc P f apart fresh handsOn again W args v W' := by
 have hl : ∀ p ∈ before, p.block < W.heap.size := fun p h => hW.lt p h
 have hs : ∀ p ∈ before, (fun b => decide (b < W.heap.size)) p.block = true := fun p h => by simpa using hl p h
 have hW0 := hW
 obtain ⟨_, _, _, _, _, hz, hn⟩ := hW0
 refine ⟨ds, gs, before, [], pa, pv, hW, hr _ _ _, ha _ hs, hv _ hs, World.keptBut_mono (fun p h => ⟨h, by rw [hp] at h; exact .inr (List.mem_append.1 h)⟩) (hb.frame (· ∈ before)), fun _ => ⟨hok, _, _, ([] ++ pa) ++ pv, ⟨[] ++ pa, pv, trodAll_append (ha _ (fun _ _ => rfl)) (hr _ _ _), hv _ (fun _ _ => rfl), rfl, ?_, ?_⟩, ?_⟩⟩
 ·intro b off h
  have hin : MemPlace.cell b off ∈ before := by rw [hp]; simpa using h
  rw [hb.frozen (hl _ hin)]
  exact hz b off hin
 ·intro hap
  have := hn hap
  rw [hp] at this
  simpa using this
 ·intro p h _
  rw [hp]
  simpa using h
end Go.Proofs.Ythfgcilaikjhpaa.Ty
namespace Go.Proofs.Ythfgcilaikjhpaa.Ty
open Go.RowKit Go.WideShapes Go.ChangeShapes
theorem all_stay {H : Type} {enc : TypeId × Value → H} {P : Program} (hl : laidOutB P = true) {W W' : World} {sp : Nat → Bool} : ∀ (ts : List TypeId) (vs : List Value) (ds : List (DataW H)) (ps : List MemPlace),
 (ts.all fun t => P.readableRec t && decide (t < P.types.size)) = true → DataW.TrodAll enc P W 0 (fun _ => true) true ts vs ds ps → (∀ p ∈ ps, W.sameAt W' p) → (∀ p ∈ ps, sp p.block = true) → DataW.TrodAll enc P W' 0 sp true ts vs ds ps
 | [], [], [], _, _, h, _, _ => h
 | [], [], _ :: _, _, _, h, _, _ => h.elim
 | [], _ :: _, [], _, _, h, _, _ => h.elim
 | [], _ :: _, _ :: _, _, _, h, _, _ => h.elim
 | _ :: _, [], [], _, _, h, _, _ => h.elim
 | _ :: _, [], _ :: _, _, _, h, _, _ => h.elim
 | _ :: _, _ :: _, [], _, _, h, _, _ => h.elim
 | t :: ts, v :: vs, d :: ds, ps, ht, h, hs, hsp => by
   obtain ⟨p, q, h1, h2, rfl⟩ := h
   simp only [List.all_cons, Bool.and_eq_true, decide_eq_true_eq] at ht
   exact ⟨p, q, WideElems.Trod_stays hl ht.1.1 ht.1.2 h1 (fun x hx => hs x (List.mem_append_left _ hx)) (fun x hx => hsp x (List.mem_append_left _ hx)),
    all_stay hl ts vs ds q ht.2 h2 (fun x hx => hs x (List.mem_append_right _ hx)) (fun x hx => hsp x (List.mem_append_right _ hx)), rfl⟩
end Go.Proofs.Ythfgcilaikjhpaa.Ty
