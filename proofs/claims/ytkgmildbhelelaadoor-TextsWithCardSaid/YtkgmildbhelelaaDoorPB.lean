/-
  Arguments of the laws of bits opened: a slice of numbers, a slice of truths; how long they may be.
  An argument of the laws of texts opened: a slice of strings that came in.
  The row's last step where the call leaves a world that is, below its first new block, as it was.
  What was given to a call that wrote nothing that was there reads behind the call as it read before, whatever its types.
-/
import Derived.Test.YtkgmildbhelelaaDoorB4
import Derived.Deep.Slices
import Derived.Deep.Grids
import Derived.Deep.Fields
import Derived.ChangeSame
import Derived.ProofKit
import Derived.OpenShut
import Derived.SizedLaws
import Derived.Test.YtkgmildbhelelaaDoorQ1
import Derived.Test.YtkgmildbhelelaaDoorRows
import Derived.Below
import Derived.Carry
namespace Go.Proofs.YtkgmildbhelelaaDoor
open Go.RowKit Go.ChangeShapes Go.WideShapes Go.ChangeAt Go.Deep
section
variable {H : Type} {enc : TypeId × Value → H} {W : World}
theorem Bt.bulk_len (l : List (DataW H)) : l.length ≤ Rows.uptoBulkAll l := by
  induction l with
  | nil => simp [Rows.uptoBulkAll]
  | cons x r ih =>
    have h1 : 1 ≤ Rows.uptoBulk x := by
      cases x with
      | lit l => cases l <;> simp [Rows.uptoBulk]
      | nil => simp [Rows.uptoBulk]
      | ptr d => simp [Rows.uptoBulk]
      | slice elems spare => simp [Rows.uptoBulk]
      | agg parts => simp [Rows.uptoBulk]
      | iface t d => simp [Rows.uptoBulk]
      | map entries => simp [Rows.uptoBulk]
      | held h => simp [Rows.uptoBulk]
    simp only [Rows.uptoBulkAll, List.length_cons]
    omega
/-- What a slice of so many elements is. -/
def Bt.Long (d : DataW H) (n : Nat) : Prop := d = .nil ∧ n = 0 ∨ ∃ es sp, d = .slice es sp ∧ n ≤ es.length
theorem Bt.Long.bulk {d : DataW H} {n : Nat} (h : Bt.Long d n) : n ≤ Rows.uptoBulk d := by
  rcases h with ⟨rfl, rfl⟩ | ⟨es, sp, rfl, h⟩
  · omega
  · have := Bt.bulk_len es
    simp only [Rows.uptoBulk]
    omega
/-- The cells of a slice of one cell each. -/
theorem Bt.sl_of {a : Addr} {len cap : Nat} {f : Nat → Value} (hf : ∀ i, i < len → W.cell? (a.add i) = some (f i)) : Bt.Sl W (.slice (some a) len cap) len f := by
  by_cases hz : len = 0
  · exact ⟨_, cap, rfl, .inl hz⟩
  · obtain ⟨b, off, spot⟩ := a
    have h0 := hf 0 (by omega)
    have hspot : spot = none := by simpa [Addr.add] using World.cell?_spot h0
    subst hspot
    have hlt : b < W.heap.size := by
      have := World.block_lt_of_cell? W _ h0
      simpa [Addr.add] using this
    refine ⟨_, cap, rfl, .inr ⟨b, off, rfl, hlt, fun i hi => ?_⟩⟩
    have := hf i hi
    rwa [add_plain] at this
/-- A slice of numbers. -/
theorem Bt.open_nums {a0 : Option Addr} {len cap : Nat} {d : DataW H} {ps : List MemPlace} (h : DataW.Trod enc Tryd.prog W 0 (fun _ => true) true 70 (.slice a0 len cap) d ps) :
    ∃ X : Nat → Nat, (∀ i, X i < 2 ^ 64) ∧ Bt.Sl W (.slice a0 len cap) len (Bt.nv X) ∧ Bt.Long d len := by
  obtain ⟨fuel, hf⟩ := h
  rcases open_ints Tryd.underlying70 Tryd.underlying49 (by kernel_rfl) hf with ⟨hcs, hx⟩ | ⟨a, len', cap', zs, hcs, _, hl, hm, hz, hx, hcell, hwz⟩
  · have hv : Value.slice a0 len cap = .slice none 0 0 := by simpa [Value.cells] using hcs
    simp only [Value.slice.injEq] at hv
    obtain ⟨rfl, rfl, rfl⟩ := hv
    simp only [Prod.mk.injEq] at hx
    exact ⟨fun _ => 0, fun _ => Nat.two_pow_pos 64, ⟨none, 0, rfl, .inl rfl⟩, .inl ⟨hx.1, rfl⟩⟩
  · have hv : Value.slice a0 len cap = .slice (some a) len' cap' := by simpa [Value.cells] using hcs
    simp only [Value.slice.injEq] at hv
    obtain ⟨rfl, rfl, rfl⟩ := hv
    simp only [if_true] at hz
    simp only [Prod.mk.injEq] at hx
    have hw : ∀ i, 0 ≤ zs.getD i 0 ∧ zs.getD i 0 < 2 ^ 64 := fun i => by
      rw [List.getD]
      cases hg : zs[i]? with
      | none => exact ⟨by decide, by decide⟩
      | some n =>
        have := bounds_u64 (hwz n (List.mem_of_getElem? hg))
        simp only [Option.getD_some]
        omega
    refine ⟨fun i => (zs.getD i 0).toNat, fun i => by have := hw i; show (zs.getD i 0).toNat < 2 ^ 64; omega, Bt.sl_of fun i hi => ?_, .inr ⟨_, _, hx.1, ?_⟩⟩
    · rw [hcell i (by omega)]
      unfold Bt.nv
      have := hw i
      have e : (((zs.getD i 0).toNat : Nat) : Int) = zs.getD i 0 := by omega
      rw [e]
    · simp only [lits, List.length_map, List.length_take]
      omega
/-- A slice of truths. -/
theorem Bt.open_truths {a0 : Option Addr} {len cap : Nat} {d : DataW H} {ps : List MemPlace} (h : DataW.Trod enc Tryd.prog W 0 (fun _ => true) true 108 (.slice a0 len cap) d ps) :
    ∃ T : Nat → Bool, Bt.Sl W (.slice a0 len cap) len (Bt.bv T) ∧ Bt.Long d len := by
  obtain ⟨fuel, hf⟩ := h
  rcases open_bools Tryd.underlying108 Tryd.underlying4 (by kernel_rfl) hf with ⟨hcs, hx⟩ | ⟨a, len', cap', B, hcs, _, hl, hm, hx, hcell⟩
  · have hv : Value.slice a0 len cap = .slice none 0 0 := by simpa [Value.cells] using hcs
    simp only [Value.slice.injEq] at hv
    obtain ⟨rfl, rfl, rfl⟩ := hv
    simp only [Prod.mk.injEq] at hx
    exact ⟨fun _ => false, ⟨none, 0, rfl, .inl rfl⟩, .inl ⟨hx.1, rfl⟩⟩
  · have hv : Value.slice a0 len cap = .slice (some a) len' cap' := by simpa [Value.cells] using hcs
    simp only [Value.slice.injEq] at hv
    obtain ⟨rfl, rfl, rfl⟩ := hv
    simp only [Prod.mk.injEq] at hx
    exact ⟨B, Bt.sl_of fun i hi => hcell i (by omega), .inr ⟨_, _, hx.1, by simp⟩⟩
theorem Bt.sized {ts : List TypeId} {ds : List (DataW H)} (h : (DataW.weightsEach Tryd.prog ts ds).all (· ≤ reachBytes) = true) {j n : Nat} {t e : TypeId} {d : DataW H} (ht : ts[j]? = some t) (hd : ds[j]? = some d) (hu : Tryd.prog.underlying t = some (.slice e)) (hl : Bt.Long d n) : n * Tryd.prog.bytesOf e ≤ 140737488351232 := by
  rcases hl with ⟨rfl, rfl⟩ | ⟨es, sp, rfl, hn⟩
  · omega
  · have := sized_slice h ht hd hu
    unfold reachBytes at this
    have h2 : n * Tryd.prog.bytesOf e ≤ (es.length + sp.length) * Tryd.prog.bytesOf e := Nat.mul_le_mul_right _ (by omega)
    omega
end
end Go.Proofs.YtkgmildbhelelaaDoor

namespace Go.Proofs.YtkgmildbhelelaaDoor
open Go.RowKit Go.ChangeShapes Go.WideShapes Go.ChangeAt Go.Deep
section
variable {H : Type} {enc : TypeId × Value → H} {W : World}
/-- A slice of strings. -/
theorem Tx.opened {a0 : Option Addr} {len cap : Nat} {d : DataW H} {ps : List MemPlace} (h : DataW.Trod enc Tryd.prog W 0 (fun _ => true) true 36 (.slice a0 len cap) d ps) :
    ∃ L : List Tx.Str, L.length = len ∧ Tx.At W.heap.size W (.slice a0 len cap) L ∧ Bt.Long d len := by
  obtain ⟨fuel, hf⟩ := h
  have hC : Tryd.prog.cellsOf 9 = 1 := by kernel_rfl
  rcases open_slice Tryd.underlying36 hf with ⟨hcs, hx⟩ | ⟨a, len', cap', m, n, D, Pl, hcs, _, hl, hm, hmm, hx, hi⟩
  · have hv : Value.slice a0 len cap = .slice none 0 0 := by simpa [Value.cells] using hcs
    simp only [Value.slice.injEq] at hv
    obtain ⟨rfl, rfl, rfl⟩ := hv
    simp only [Prod.mk.injEq] at hx
    exact ⟨[], rfl, Tx.At.nil W, .inl ⟨hx.1, rfl⟩⟩
  · have hv : Value.slice a0 len cap = .slice (some a) len' cap' := by simpa [Value.cells] using hcs
    simp only [Value.slice.injEq] at hv
    obtain ⟨rfl, rfl, rfl⟩ := hv
    simp only [if_true] at hmm
    have hlong : Bt.Long d len := by
      simp only [Prod.mk.injEq] at hx
      refine .inr ⟨_, _, hx.1, ?_⟩
      simp
    rw [hC] at hi
    have hone : ∀ i, i < len → ∃ x : Tx.Str, W.cell? (a.add i) = some (.string (Ty.S x)) := fun i hil => by
      obtain ⟨cs', hc, ht⟩ := hi i (by omega)
      obtain ⟨hcl, _, hat⟩ := World.cells?_some hc
      match cs', hcl with
      | [c0], _ =>
        obtain ⟨s, e2, _, _⟩ := DataW.trod_string Tryd.underlying9 ht
        simp only [List.cons.injEq, and_true] at e2
        subst e2
        have a0 := hat 0 (by omega)
        rw [add_add] at a0
        simp only [Nat.mul_one, Nat.add_zero] at a0
        exact ⟨s.data.toList, a0⟩
    have hch : ∃ L : List Tx.Str, L.length = len ∧ ∀ i, i < len → W.cell? (a.add i) = some (Tx.sv L i) := by
      refine ⟨(List.range len).map fun i => if hil : i < len then (hone i hil).choose else [], by simp, fun i hil => ?_⟩
      have hs := (hone i hil).choose_spec
      unfold Tx.sv
      rw [List.getD, List.getElem?_map, List.getElem?_range hil]
      simp only [Option.map_some, Option.getD_some, dif_pos hil]
      exact hs
    obtain ⟨L, hLl, hL⟩ := hch
    have hsl := Bt.sl_of (W := W) (a := a) (len := len) (cap := cap) (f := Tx.sv L) hL
    refine ⟨L, hLl, ?_, hlong⟩
    obtain ⟨a2, c2, e, h2⟩ := hsl
    simp only [Value.slice.injEq] at e
    obtain ⟨rfl, _, rfl⟩ := e
    refine ⟨_, cap, by rw [hLl], by omega, Nat.le_refl _, ?_⟩
    rcases h2 with h2 | ⟨b, o, e2, hlt, h2⟩
    · exact .inl ⟨List.eq_nil_of_length_eq_zero (by omega), fun e => by cases e⟩
    · exact .inr ⟨b, o, e2, hlt, fun i hi => h2 i (by omega)⟩
end
end Go.Proofs.YtkgmildbhelelaaDoor

namespace Go.Proofs.YtkgmildbhelelaaDoor.Ty
open Go.RowKit Go.WideShapes Go.ChangeShapes
/-- The row's post, of a call that wrote nothing that was there. -/
theorem post_below {H : Type} {enc : TypeId × Value → H} {P : Program} {f : Func} {s : ChangeSpec} {apart fresh handsOn again : Bool} {W W' : World} {args : Array Value} {v : Value} {ds gs : List (DataW H)} {before pa pv : List MemPlace}
    (hW : DataW.Whole enc P f.params.toList s.vars apart W args.toList ds gs before)
    (hr : ∀ (b : Nat) (sp : Nat → Bool) (hd : Bool), DataW.TrodAll enc P W' b sp hd f.resultTypes.toList (v.resultList f.resultTypes.size) (s.fn H (ds ++ gs)).results [])
    (ha : ∀ sp : Nat → Bool, (∀ p ∈ before, sp p.block = true) → DataW.TrodAll enc P W' 0 sp true f.params.toList args.toList (s.fn H (ds ++ gs)).args pa)
    (hv : ∀ sp : Nat → Bool, (∀ p ∈ before, sp p.block = true) → DataW.TrodVars enc P W' sp s.vars (s.fn H (ds ++ gs)).vars pv)
    (hp : before = pa ++ pv) (hb : Below W.heap.size W W')
    (hok : ∀ (j : Nat) (t : TypeId) (r : Value), f.resultTypes[j]? = some t → (v.resultList f.resultTypes.size)[j]? = some r → Value.okWide P W' .any 0 t r) :
    s.post enc P f apart fresh handsOn again W args v W' := by
  have hl : ∀ p ∈ before, p.block < W.heap.size := fun p h => hW.lt p h
  have hs : ∀ p ∈ before, (fun b => decide (b < W.heap.size)) p.block = true := fun p h => by simpa using hl p h
  have hW0 := hW
  obtain ⟨_, _, _, _, _, hz, hn⟩ := hW0
  refine ⟨ds, gs, before, [], pa, pv, hW, hr _ _ _, ha _ hs, hv _ hs, World.keptBut_mono (fun p h => ⟨h, by rw [hp] at h; exact .inr (List.mem_append.1 h)⟩) (hb.frame (· ∈ before)), fun _ => ⟨hok, _, _, ([] ++ pa) ++ pv, ⟨[] ++ pa, pv, trodAll_append (ha _ (fun _ _ => rfl)) (hr _ _ _), hv _ (fun _ _ => rfl), rfl, ?_, ?_⟩, ?_⟩⟩
  · intro b off h
    have hin : MemPlace.cell b off ∈ before := by rw [hp]; simpa using h
    rw [hb.frozen (hl _ hin)]
    exact hz b off hin
  · intro hap
    have := hn hap
    rw [hp] at this
    simpa using this
  · intro p h _
    rw [hp]
    simpa using h
end Go.Proofs.YtkgmildbhelelaaDoor.Ty

namespace Go.Proofs.YtkgmildbhelelaaDoor.Ty
open Go.RowKit Go.WideShapes Go.ChangeShapes
/-- All arguments at once. -/
theorem all_stay {H : Type} {enc : TypeId × Value → H} {P : Program} (hl : laidOutB P = true) {W W' : World} {sp : Nat → Bool} : ∀ (ts : List TypeId) (vs : List Value) (ds : List (DataW H)) (ps : List MemPlace),
    (ts.all fun t => P.readableRec t && decide (t < P.types.size)) = true → DataW.TrodAll enc P W 0 (fun _ => true) true ts vs ds ps → (∀ p ∈ ps, W.sameAt W' p) → (∀ p ∈ ps, sp p.block = true) → DataW.TrodAll enc P W' 0 sp true ts vs ds ps
  | [], [], [], _, _, h, _, _ => h
  | [], [], _ :: _, _, _, h, _, _ => h.elim
  | [], _ :: _, [], _, _, h, _, _ => h.elim
  | [], _ :: _, _ :: _, _, _, h, _, _ => h.elim
  | _ :: _, [], [], _, _, h, _, _ => h.elim
  | _ :: _, [], _ :: _, _, _, h, _, _ => h.elim
  | _ :: _, _ :: _, [], _, _, h, _, _ => h.elim
  | t :: ts, v :: vs, d :: ds, ps, ht, h, hs, hsp => by
    obtain ⟨p, q, h1, h2, rfl⟩ := h
    simp only [List.all_cons, Bool.and_eq_true, decide_eq_true_eq] at ht
    exact ⟨p, q, WideElems.Trod_stays hl ht.1.1 ht.1.2 h1 (fun x hx => hs x (List.mem_append_left _ hx)) (fun x hx => hsp x (List.mem_append_left _ hx)),
      all_stay hl ts vs ds q ht.2 h2 (fun x hx => hs x (List.mem_append_right _ hx)) (fun x hx => hsp x (List.mem_append_right _ hx)), rfl⟩
end Go.Proofs.YtkgmildbhelelaaDoor.Ty
