import Derived.Test.YtodeodndjkkkbaaZAL
import Derived.Test.YtodeodndjkkkbaaZAJ
import Derived.BigQuiet
import Derived.Deep.QuietTactic
import Derived.Deep.Slices
import Derived.Deep.Fields
import Derived.ChangeSame
import Derived.ProofKit
import Derived.OpenShut
import Derived.SizedLaws
import Derived.Test.YtodeodndjkkkbaaRows
import Derived.Test.YtodeodndjkkkbaaZAB
import Derived.Below
import Derived.Carry
namespace Go.Proofs.Ytodeodndjkkkbaa
open Go Go.RowKit
theorem Su.fold_all {c : Int} {Q : List (List Kn.V)} (h : Q.all (Su.hasC c) = true) : Su.fold c Q = (Su.of Q.length (Su.col c Q), 0) := by unfold Su.fold; rw [if_pos h]
theorem Su.fold_none {c : Int} {Q : List (List Kn.V)} (h : Q.all (Su.hasC c) = false) : Su.fold c Q = (Su.zero, 7) := by unfold Su.fold; rw [if_neg (by rw [h]; decide)]
theorem Su.col_app (c : Int) (a b : List (List Kn.V)) : Su.col c (a ++ b) = Su.col c a ++ Su.col c b := by unfold Su.col; rw [List.map_append]
theorem Su.col_len (c : Int) (a : List (List Kn.V)) : (Su.col c a).length = a.length := by unfold Su.col; rw [List.length_map]
theorem Su.fold_join {c : Int} {a b : List (List Kn.V)} (ha : a.all (Su.hasC c) = true) (hb : b.all (Su.hasC c) = true) (hl : a.length + b.length ≤ 4611686018427387904) : Su.fold c (a ++ b) = (Su.join (Su.fold c a).1 (Su.fold c b).1, 0) := by
 rw [Su.fold_all ha, Su.fold_all hb, Su.fold_all (by rw [List.all_append, ha, hb]; rfl), Su.join_of _ _ _ _ hl (by rw [Su.col_len, Su.col_len]; exact hl), Su.col_app, List.length_append]
theorem Su.fold_bad {c : Int} {a b : List (List Kn.V)} (h : ¬ (a.all (Su.hasC c) = true ∧ b.all (Su.hasC c) = true)) : Su.fold c (a ++ b) = (Su.zero, 7) := by
 apply Su.fold_none
 rw [List.all_append]
 cases h1 : a.all (Su.hasC c)
 ·rfl
 ·cases h2 : b.all (Su.hasC c)
  ·rfl
  ·exact absurd ⟨h1, h2⟩ h
theorem Su.fold_rev (c : Int) (Q : List (List Kn.V)) : Su.fold c Q.reverse = Su.fold c Q := by
 have e : Q.reverse.all (Su.hasC c) = Q.all (Su.hasC c) := List.all_reverse
 cases h : Q.all (Su.hasC c)
 ·rw [Su.fold_none h, Su.fold_none (e.trans h)]
 ·rw [Su.fold_all h, Su.fold_all (e.trans h)]
  have : Su.col c Q.reverse = (Su.col c Q).reverse := by unfold Su.col; rw [List.map_reverse]
  rw [this, Su.of_back, List.length_reverse]
theorem Su.fold_proj {cs : List Int} {Q : List (List Kn.V)} (h : Su.okP cs Q = true) {k : Nat} {c : Int} (hc : cs[k]? = some c) : Su.fold (k : Int) (Su.proj cs Q) = Su.fold c Q ∧ Su.fold c Q = (Su.of Q.length (Su.col c Q), 0) := by
 obtain ⟨hk, e⟩ := List.getElem?_eq_some_iff.1 hc
 have h1 : Q.all (Su.hasC c) = true := by
  unfold Su.okP at h
  rw [List.all_eq_true] at h ⊢
  exact fun r hr => List.all_eq_true.1 (h r hr) c (List.mem_of_getElem? hc)
 have h2 : (Su.proj cs Q).all (Su.hasC (k : Int)) = true := by
  rw [List.all_eq_true]
  intro r hr
  unfold Su.proj at hr
  obtain ⟨q, _, rfl⟩ := List.mem_map.1 hr
  unfold Su.hasC
  rw [List.length_map]
  simp only [Bool.and_eq_true, decide_eq_true_eq]
  omega
 rw [Su.fold_all h1, Su.fold_all h2]
 refine ⟨?_, rfl⟩
 have : Su.col (k : Int) (Su.proj cs Q) = Su.col c Q := by
  unfold Su.col Su.proj
  rw [List.map_map]
  apply List.map_congr_left
  intro r _
  show Su.cell (k : Int) (cs.map fun c => Su.cell c r) = Su.cell c r
  conv => lhs; unfold Su.cell
  rw [Int.toNat_natCast, List.getD_eq_getElem?_getD, List.getElem?_map, hc]
  rfl
 rw [this, Su.proj_len]
theorem Su.fold_z {c : Int} {Q : List (List Kn.V)} (h : ∀ r ∈ Q, ∀ x ∈ r, Kn.Z x) : Kn.Z (Su.fold c Q).1.lo ∧ Kn.Z (Su.fold c Q).1.hi := by
 cases hq : Q.all (Su.hasC c)
 ·rw [Su.fold_none hq]
  unfold Kn.Z Su.zero Zn.zv
  decide
 ·rw [Su.fold_all hq]
  exact Su.z_of (Su.z_col h) _
def Su.Rd (w : World) (K : List (Option Addr × Nat × Nat)) (Q : List (List Kn.V)) : Prop := K.length = Q.length ∧ ∀ (i : Nat) (x : List Kn.V), Q[i]? = some x → ∃ y, K[i]? = some y ∧ Kn.Vals w (Bk.sv y) x
theorem Su.Rd.later {w w' : World} {K : List (Option Addr × Nat × Nat)} {Q : List (List Kn.V)} (h : Su.Rd w K Q) (g : Below w.heap.size w w') : Su.Rd w' K Q :=
 ⟨h.1, fun i x hx => by obtain ⟨y, e1, e2⟩ := h.2 i x hx; exact ⟨y, e1, e2.later g⟩⟩
theorem Su.Rd.app {w : World} {K M : List (Option Addr × Nat × Nat)} {Q P : List (List Kn.V)} (h : Su.Rd w K Q) (k : Su.Rd w M P) : Su.Rd w (K ++ M) (Q ++ P) := by
 refine ⟨by rw [List.length_append, List.length_append, h.1, k.1], fun i x hx => ?_⟩
 rcases Nat.lt_or_ge i Q.length with hi | hi
 ·rw [List.getElem?_append_left hi] at hx
  obtain ⟨z, e1, e2⟩ := h.2 i x hx
  exact ⟨z, by rw [List.getElem?_append_left (by rw [h.1]; exact hi)]; exact e1, e2⟩
 ·rw [List.getElem?_append_right hi] at hx
  obtain ⟨z, e1, e2⟩ := k.2 _ x hx
  exact ⟨z, by rw [List.getElem?_append_right (by rw [h.1]; exact hi), h.1]; exact e1, e2⟩
theorem Su.Rd.one {w : World} {y : Option Addr × Nat × Nat} {r : List Kn.V} (h : Kn.Vals w (Bk.sv y) r) : Su.Rd w [y] [r] :=
 ⟨rfl, fun i x hx => by
  have h0 : i = 0 := by
   have := (List.getElem?_eq_some_iff.1 hx).1
   simp at this
   omega
  subst h0
  obtain rfl : r = x := by simpa using hx
  exact ⟨y, rfl, h⟩⟩
structure Su.Rv (w : World) (v : Value) (Q : List (List Kn.V)) : Prop where
 is : ∃ K, Mf.At 1 Bk.e1 w v K ∧ Su.Rd w K Q
theorem Su.Rv.rws {w : World} {v : Value} {Q : List (List Kn.V)} (h : Su.Rv w v Q) : Rn.Rws w v Q := by
 obtain ⟨K, ⟨a, c, rfl, _, h⟩, hl, hr⟩ := h
 refine ⟨a, c, by rw [hl], ?_⟩
 rcases h with ⟨rfl, _⟩ | ⟨b, o, cs, fr, rfl, _, hb, h⟩
 ·exact .inl (List.eq_nil_of_length_eq_zero hl.symm)
 ·refine .inr ⟨b, o, rfl, lt_of_block hb, fun i x hx => ?_⟩
  obtain ⟨y, e1, e2⟩ := hr i x hx
  have := h i 0 y e1 (by decide)
  rw [Nat.mul_one, Nat.add_zero] at this
  exact ⟨Bk.sv y, this, e2⟩
theorem Su.Rv.src {w : World} {v : Value} {Q : List (List Kn.V)} (h : Su.Rv w v Q) : ∃ K, Su.Rd w K Q ∧ ∀ w', Below w.heap.size w w' → Dk.Src Bk.e1 w' v K := by
 obtain ⟨K, hat, hr⟩ := h
 refine ⟨K, hr, fun w' g => ?_⟩
 obtain ⟨a, c, rfl, _, h⟩ := hat.kept g
 rcases h with ⟨rfl, h⟩ | ⟨b, o, cs, fr, rfl, _, hb, h⟩
 ·cases a with
  | none => rw [h rfl]; exact .inl ⟨rfl, rfl⟩
  | some ad => exact .inr ⟨ad, c, rfl, fun j y hj => by simp at hj⟩
 ·exact .inr ⟨_, c, rfl, Dk.src_cells Bk.e1_len (by decide) h⟩
theorem Su.own_rws {base : Nat} {w : World} {v : Value} {K : List (Option Addr × Nat × Nat)} {Q : List (List Kn.V)} (o : Dk.Own 58 1 Bk.e1 base w v K) (h : Su.Rd w K Q) : Rn.Rws w v Q := by
 have hl := h.1
 rcases o.form with ⟨rfl, h0⟩ | ⟨g, c, rfl, h1, h2, _, h4⟩
 ·rw [h0] at hl
  obtain rfl : Q = [] := List.eq_nil_of_length_eq_zero hl.symm
  exact ⟨none, 0, rfl, .inl rfl⟩
 ·refine ⟨_, c, by rw [hl], .inr ⟨g, 0, rfl, h4, fun i x hx => ?_⟩⟩
  obtain ⟨y, e1, e2⟩ := h.2 i x hx
  have c0 := o.cell Bk.e1_len rfl e1 (j := 0) (by decide)
  rw [Nat.mul_one, Nat.add_zero] at c0
  rw [Nat.zero_add]
  exact ⟨Bk.sv y, c0, e2⟩
theorem Su.wpList_rows {base : Nat} {w0 : World} {v : Value} {M : List (Option Addr × Nat × Nat)} (K : List (Option Addr × Nat × Nat)) (hown : Dk.Own 58 1 Bk.e1 base w0 v M) (hb : base ≤ w0.heap.size) (hl : M.length + K.length ≤ 4194304) {u : Value} (hu : Dk.Src Bk.e1 w0 u K)
 {ops : Array Oper} {rest : List Oper} {o : Oper} {a : Act} {Q : Exit → Act → World → Prop} (s x : Operand) (hgd : Region.wanted o (yielded ops a.tmps) = true)
 (ho : o.op = .call { callee := .builtin .append, args := #[s, x], argTypes := #[45, 45] })
 (hs : a.eval s = v) (hx : a.eval x = u)
 (h : ∀ v' w', Dk.Own 58 1 Bk.e1 base w' v' (M ++ K) → Ty.Grew w0 w' v v' → wpList Try.prog ops Q rest (a.put o.dst v') w') :
 wpList Try.prog ops Q (o :: rest) a w0 :=
 Dk.wpList_append 45 _ 24 Try.underlying45 Su.infoR rfl (by decide) Bk.e1_len Bk.e1_one K hown hb (by omega) (by omega) hu s x hgd ho hs hx h
end Go.Proofs.Ytodeodndjkkkbaa
namespace Go.Proofs.Ytodeodndjkkkbaa
open Go.RowKit
abbrev Mf.sv (v : Value) (s : Mf.S) : Value := .agg #[v, .int .i64 s.floor, .int .i64 s.next]
structure Mf.SA (w : World) (b : Nat) (v : Value) (f n : Int) : Prop where
 c0 : w.cell? ⟨b, 0, none⟩ = some v
 c1 : w.cell? ⟨b, 1, none⟩ = some (.int .i64 f)
 c2 : w.cell? ⟨b, 2, none⟩ = some (.int .i64 n)
theorem Mf.SA.lt {w : World} {b : Nat} {v : Value} {f n : Int} (h : Mf.SA w b v f n) : b < w.heap.size := World.block_lt_of_cell? w _ h.c0
theorem Mf.SA.kept {w w' : World} {b : Nat} {v : Value} {f n : Int} (h : Mf.SA w b v f n) (g : Below w.heap.size w w') : Mf.SA w' b v f n :=
 ⟨(g.cell (p := ⟨b, 0, none⟩) h.lt).trans h.c0, (g.cell (p := ⟨b, 1, none⟩) h.lt).trans h.c1, (g.cell (p := ⟨b, 2, none⟩) h.lt).trans h.c2⟩
theorem Mf.SA.new (w : World) (v : Value) (f n : Int) (t : TypeId) : Mf.SA (w.alloc (.cells #[v, .int .i64 f, .int .i64 n] t)) w.heap.size v f n :=
 ⟨Kn.cell_new w _ t 0 _ rfl, Kn.cell_new w _ t 1 _ rfl, Kn.cell_new w _ t 2 _ rfl⟩
theorem Mf.Ps.at_ {w : World} {a : Option Addr} {L : List Mf.P} {c : Nat} (h : Mf.Ps w (.slice a L.length c) L) {i : Nat} {p : Mf.P} (hp : L[i]? = some p) : ∃ b o, a = some ⟨b, o, none⟩ ∧ Mf.PA w b (o + i * 8) p := by
 obtain ⟨a', c', e, -, h⟩ := h
 simp only [Value.slice.injEq, true_and] at e
 obtain ⟨rfl, rfl⟩ := e
 rcases h with ⟨h0, -⟩ | ⟨b, o, cs, fr, rfl, -, _, h⟩
 ·rw [h0] at hp; cases hp
 ·exact ⟨b, o, rfl, Mf.Ps.part h hp⟩
theorem Mf.Ps.form {w : World} {v : Value} {L : List Mf.P} (h : Mf.Ps w v L) : ∃ a c, v = .slice a L.length c ∧ L.length ≤ c := by
 obtain ⟨a, c, rfl, hc, -⟩ := h
 exact ⟨a, c, rfl, hc⟩
def Mf.atV (L : List Mf.P) (d : Int) : Int := match Mf.at_ L d with | none => -1 | some k => (k : Int)
end Go.Proofs.Ytodeodndjkkkbaa
namespace Go.Proofs.Ytodeodndjkkkbaa
open Go.RowKit Go.ChangeShapes Go.WideShapes Go.ChangeAt Go.Deep
section
variable {H : Type} {enc : TypeId × Value → H} {W : World}
theorem Mf.bulk_pos (d : DataW H) : 1 ≤ Rows.uptoBulk d := by
 unfold Rows.uptoBulk
 split <;> omega
theorem Mf.bulk_all : ∀ ds : List (DataW H), ds.length ≤ Rows.uptoBulkAll ds
 | [] => by simp [Rows.uptoBulkAll]
 | d :: ds => by
   have h1 := Mf.bulk_pos d
   have h2 := Mf.bulk_all ds
   simp only [Rows.uptoBulkAll, List.length_cons]
   omega
theorem Mf.heap_of_cell {w : World} {b o : Nat} {v : Value} (h : w.cell? ⟨b, o, none⟩ = some v) : ∃ (cs : Array Value) (fr : TypeId × (Nat × Nat)), w.heap[b]? = some (.cells cs fr.1 fr.2) := by
 unfold World.cell? at h
 cases hb : w.heap[b]? with
 | none => simp [hb] at h
 | some x =>
   cases x with
   | cells cs t f => exact ⟨cs, (t, f), rfl⟩
   | _ => simp [hb] at h
set_option maxRecDepth 100000 in
theorem Mf.open_sl {α : Type} {T e : TypeId} {k : Nat} {en : α → List Value} {Q : α → Prop} (hT : Try.prog.underlying T = some (.slice e)) (hC : Try.prog.cellsOf e = k) (hk : 0 < k) (hlen : ∀ x, (en x).length = k) (d0 : α)
 (hop : ∀ {fuel : Nat} {cs : List Value} {z : DataW H × List MemPlace}, DataW.trod enc Try.prog W 0 (fun _ => true) true fuel e cs = some z → ∃ x, cs = en x ∧ Q x)
 {fuel : Nat} {c1 : Value} {z : DataW H × List MemPlace} (h : DataW.trod enc Try.prog W 0 (fun _ => true) true fuel T [c1] = some z) :
 ∃ L : List α, Mf.At k en W c1 L ∧ (∀ x ∈ L, Q x) ∧ L.length + 1 ≤ Rows.uptoBulk z.1 := by
 rcases open_slice hT h with ⟨hcs, hx⟩ | ⟨a, len, cap, m, n, D, Pl, hcs, _, hl, hm, hmm, hx, hi⟩
 ·obtain rfl : c1 = .slice none 0 0 := by simpa using hcs
  exact ⟨[], Mf.At.nil _, (fun x hx => nomatch hx), Mf.bulk_pos _⟩
 ·obtain rfl : c1 = .slice (some a) len cap := by simpa using hcs
  simp only [if_true] at hmm
  have hz1 : z.1 = .slice ((List.range len).map D) ((List.range (m - len)).map fun j => D (len + j)) := by rw [hx]
  have hbk : len + 1 ≤ Rows.uptoBulk z.1 := by
   rw [hz1]
   have := Mf.bulk_all ((List.range len).map D)
   simp only [List.length_map, List.length_range] at this
   simp only [Rows.uptoBulk]
   omega
  by_cases hz : len = 0
  ·subst hz
   exact ⟨[], ⟨some a, cap, rfl, Nat.zero_le _, .inl ⟨rfl, fun e => nomatch e⟩⟩, (fun x hx => nomatch hx), hbk⟩
  ·rw [hC] at hi
   have hone : ∀ i, i < len → ∃ x, (∀ j, j < k → W.cell? (a.add (i * k + j)) = (en x)[j]?) ∧ Q x := fun i hil => by
    obtain ⟨cs', hc, ht⟩ := hi i (by omega)
    obtain ⟨x, rfl, hq⟩ := hop ht
    obtain ⟨hcl, _, hat⟩ := World.cells?_some hc
    refine ⟨x, fun j hj => ?_, hq⟩
    have aj := hat j hj
    rw [add_add] at aj
    exact aj
   have hsome : ∃ v, W.cell? (a.add 0) = some v := by
    obtain ⟨x, h0, _⟩ := hone 0 (by omega)
    have := h0 0 hk
    rw [List.getElem?_eq_getElem (by rw [hlen]; exact hk)] at this
    rw [Nat.zero_mul, Nat.zero_add] at this
    exact ⟨_, this⟩
   obtain ⟨v0, hv0⟩ := hsome
   obtain ⟨b, off, spot⟩ := a
   have hspot : spot = none := by simpa [Addr.add] using World.cell?_spot hv0
   subst hspot
   rw [add_plain] at hv0
   obtain ⟨hcs0, hfr, hheap⟩ := Mf.heap_of_cell hv0
   have hch : ∃ f : Nat → α, ∀ i, i < len → (∀ j, j < k → W.cell? ⟨b, off + i * k + j, none⟩ = (en (f i))[j]?) ∧ Q (f i) := by
    have hone' : ∀ i, i < len → ∃ x, (∀ j, j < k → W.cell? ⟨b, off + i * k + j, none⟩ = (en x)[j]?) ∧ Q x := fun i hil => by
     obtain ⟨x, h1, h2⟩ := hone i hil
     refine ⟨x, fun j hj => ?_, h2⟩
     have := h1 j hj
     rw [add_plain, ← Nat.add_assoc] at this
     exact this
    refine ⟨fun i => if hil : i < len then (hone' i hil).choose else d0, fun i hil => ?_⟩
    have hs := (hone' i hil).choose_spec
    simp only [dif_pos hil]
    exact hs
   obtain ⟨f, hf'⟩ := hch
   have hlen2 : ((List.range len).map f).length = len := by simp
   refine ⟨(List.range len).map f, ⟨some ⟨b, off, none⟩, cap, by rw [hlen2], by rw [hlen2]; exact hl, .inr ⟨b, off, hcs0, hfr, rfl, trivial, hheap, fun i j x hix hj => ?_⟩⟩, fun x hx => ?_, by rw [hlen2]; exact hbk⟩
   ·rw [List.getElem?_map, Option.map_eq_some_iff] at hix
    obtain ⟨i', hi', rfl⟩ := hix
    obtain ⟨hil, rfl⟩ := List.getElem?_eq_some_iff.1 hi'
    rw [List.getElem_range]
    rw [List.length_range] at hil
    exact (hf' i hil).1 j hj
   ·obtain ⟨i, hi, rfl⟩ := List.mem_map.1 hx
    exact (hf' i (List.mem_range.1 hi)).2
theorem Mf.open_int {fuel : Nat} {cs : List Value} {z : DataW H × List MemPlace} (h : DataW.trod enc Try.prog W 0 (fun _ => true) true fuel 3 cs = some z) : ∃ x : Int, cs = Mf.ic x ∧ Ty.I64 x := by
 obtain ⟨n, e1, r1, w1⟩ := DataW.trod_int Try.underlying3 h
 exact ⟨n, e1, bounds_i64 w1⟩
def Mf.ok9 (p : Mf.P) : Prop := (Ty.I64 p.lo.n ∧ Ty.I64 p.hi.n) ∧ Ty.I64 p.id
end
end Go.Proofs.Ytodeodndjkkkbaa
namespace Go.Proofs.Ytodeodndjkkkbaa
open Go.RowKit Go.ChangeShapes Go.WideShapes Go.ChangeAt Go.Deep
section
variable {H : Type} {enc : TypeId × Value → H} {W : World}
def Kn.rd (x : Kn.V) : DataW H := .agg [.lit (.bool x.null), .lit (.int .i64 x.n), .lit (.string x.s.data.toList)]
set_option maxRecDepth 100000 in
theorem Kn.open_cells {fuel : Nat} {cs : List Value} {z : DataW H × List MemPlace} (h : DataW.trod enc Try.prog W 0 (fun _ => true) true fuel 36 cs = some z) :
 ∃ x : Kn.V, cs = [.bool x.null, .int .i64 x.n, .string x.s] ∧ z.1 = Kn.rd x := by
 obtain ⟨xs, f', _, hx, hcl, hxl, hg⟩ := DataW.trod_struct Try.underlying36 h
 have hC : Try.prog.cellsOf 36 = 3 := by kernel_rfl
 have i3 : Try.prog.cellsOf 4 = 1 := by kernel_rfl
 have i2 : Try.prog.cellsOf 2 = 1 := by kernel_rfl
 have i9 : Try.prog.cellsOf 9 = 1 := by kernel_rfl
 rw [hC] at hcl
 match cs, hcl, xs, hxl with
 | [c0, c1, c2], _, [y0, y1, y2], _ =>
   have g0 : DataW.trod enc Try.prog W 0 (fun _ => true) true f' 4 ((List.drop 0 [c0, c1, c2]).take (Try.prog.cellsOf 4)) = some y0 := hg 0 _ rfl
   have g1 : DataW.trod enc Try.prog W 0 (fun _ => true) true f' 2 ((List.drop 1 [c0, c1, c2]).take (Try.prog.cellsOf 2)) = some y1 := hg 1 _ rfl
   have g2 : DataW.trod enc Try.prog W 0 (fun _ => true) true f' 9 ((List.drop 2 [c0, c1, c2]).take (Try.prog.cellsOf 9)) = some y2 := hg 2 _ rfl
   rw [i3] at g0
   rw [i2] at g1
   rw [i9] at g2
   obtain ⟨k, e0, r0⟩ := DataW.trod_bool Try.underlying4 (show DataW.trod enc Try.prog W 0 (fun _ => true) true f' 4 [c0] = some y0 from g0)
   obtain ⟨n, e1, r1, w1⟩ := DataW.trod_int Try.underlying2 (show DataW.trod enc Try.prog W 0 (fun _ => true) true f' 2 [c1] = some y1 from g1)
   obtain ⟨s, e2, r2, _⟩ := DataW.trod_string Try.underlying9 (show DataW.trod enc Try.prog W 0 (fun _ => true) true f' 9 [c2] = some y2 from g2)
   simp only [List.cons.injEq, and_true] at e0 e1 e2
   subst e0 e1 e2 r0 r1 r2
   exact ⟨⟨k, n, s⟩, rfl, by rw [hx]; rfl⟩
end
end Go.Proofs.Ytodeodndjkkkbaa
namespace Go.Proofs.Ytodeodndjkkkbaa
open Go.RowKit Go.ChangeShapes Go.WideShapes Go.ChangeAt Go.Deep
section
variable {H : Type} {enc : TypeId × Value → H} {W : World}
theorem Su.wa {P : Program} {e : TypeId} {d : DataW H} {n : Nat} : ∀ {l : List (DataW H)}, d ∈ l → n ∈ d.weights P e → n ∈ DataW.weightsAll P e l
 | x :: l, hd, hn => by
   rw [DataW.weightsAll, List.mem_append]
   rcases List.mem_cons.1 hd with rfl | hd
   ·exact .inl hn
   ·exact .inr (Su.wa hd hn)
theorem Su.fits {ts : List TypeId} {ds : List (DataW H)} (h : (DataW.weightsEach Try.prog ts ds).all (· ≤ reachBytes) = true) {j : Nat} {t : TypeId} {d : DataW H} (ht : ts[j]? = some t) (hd : ds[j]? = some d) : ∀ n ∈ d.weights Try.prog t, n ≤ reachBytes :=
 fun n hn => of_decide_eq_true (List.all_eq_true.1 h n (DataW.weights_mem_each ht hd _ hn))
set_option maxRecDepth 100000 in
theorem Su.open_slw {α : Type} {T e : TypeId} {k : Nat} {en : α → List Value} {Q : α → Prop} (hT : Try.prog.underlying T = some (.slice e)) (hC : Try.prog.cellsOf e = k) (hk : 0 < k) (hlen : ∀ x, (en x).length = k) (d0 : α)
 (hop : ∀ {fuel : Nat} {cs : List Value} {z : DataW H × List MemPlace}, DataW.trod enc Try.prog W 0 (fun _ => true) true fuel e cs = some z → (∀ n ∈ z.1.weights Try.prog e, n ≤ reachBytes) → ∃ x, cs = en x ∧ Q x)
 {fuel : Nat} {c1 : Value} {z : DataW H × List MemPlace} (h : DataW.trod enc Try.prog W 0 (fun _ => true) true fuel T [c1] = some z) (hs : ∀ n ∈ z.1.weights Try.prog T, n ≤ reachBytes) :
 ∃ L : List α, Mf.At k en W c1 L ∧ (∀ x ∈ L, Q x) ∧ L.length + 1 ≤ Rows.uptoBulk z.1 ∧ L.length ≤ 9223372036854775807 := by
 rcases open_slice hT h with ⟨hcs, hx⟩ | ⟨a, len, cap, m, n, D, Pl, hcs, _, hl, hm, hmm, hx, hi⟩
 ·obtain rfl : c1 = .slice none 0 0 := by simpa using hcs
  exact ⟨[], Mf.At.nil _, (fun x hx => nomatch hx), Mf.bulk_pos _, Nat.zero_le _⟩
 ·obtain rfl : c1 = .slice (some a) len cap := by simpa using hcs
  simp only [if_true] at hmm
  have hz1 : z.1 = .slice ((List.range len).map D) ((List.range (m - len)).map fun j => D (len + j)) := by rw [hx]
  have hbk : len + 1 ≤ Rows.uptoBulk z.1 := by
   rw [hz1]
   have := Mf.bulk_all ((List.range len).map D)
   simp only [List.length_map, List.length_range] at this
   simp only [Rows.uptoBulk]
   omega
  have hlm : len ≤ 9223372036854775807 := by unfold maxLen at hm; omega
  rw [hz1] at hs
  simp only [DataW.weights, hT, List.mem_cons, List.mem_append] at hs
  have hstr : ∀ i, i < len → ∀ q, q ∈ (D i).weights Try.prog e → q ≤ reachBytes := fun i hil q hq =>
   hs q (.inr (.inl (Su.wa (List.mem_map.2 ⟨i, List.mem_range.2 hil, rfl⟩) hq)))
  by_cases hz : len = 0
  ·subst hz
   exact ⟨[], ⟨some a, cap, rfl, Nat.zero_le _, .inl ⟨rfl, fun e => nomatch e⟩⟩, (fun x hx => nomatch hx), hbk, Nat.zero_le _⟩
  ·rw [hC] at hi
   have hone : ∀ i, i < len → ∃ x, (∀ j, j < k → W.cell? (a.add (i * k + j)) = (en x)[j]?) ∧ Q x := fun i hil => by
    obtain ⟨cs', hc, ht⟩ := hi i (by omega)
    obtain ⟨x, rfl, hq⟩ := hop ht (hstr i hil)
    obtain ⟨hcl, _, hat⟩ := World.cells?_some hc
    refine ⟨x, fun j hj => ?_, hq⟩
    have aj := hat j hj
    rw [add_add] at aj
    exact aj
   have hsome : ∃ v, W.cell? (a.add 0) = some v := by
    obtain ⟨x, h0, _⟩ := hone 0 (by omega)
    have := h0 0 hk
    rw [List.getElem?_eq_getElem (by rw [hlen]; exact hk)] at this
    rw [Nat.zero_mul, Nat.zero_add] at this
    exact ⟨_, this⟩
   obtain ⟨v0, hv0⟩ := hsome
   obtain ⟨b, off, spot⟩ := a
   have hspot : spot = none := by simpa [Addr.add] using World.cell?_spot hv0
   subst hspot
   rw [add_plain] at hv0
   obtain ⟨hcs0, hfr, hheap⟩ := Mf.heap_of_cell hv0
   have hch : ∃ f : Nat → α, ∀ i, i < len → (∀ j, j < k → W.cell? ⟨b, off + i * k + j, none⟩ = (en (f i))[j]?) ∧ Q (f i) := by
    have hone' : ∀ i, i < len → ∃ x, (∀ j, j < k → W.cell? ⟨b, off + i * k + j, none⟩ = (en x)[j]?) ∧ Q x := fun i hil => by
     obtain ⟨x, h1, h2⟩ := hone i hil
     refine ⟨x, fun j hj => ?_, h2⟩
     have := h1 j hj
     rw [add_plain, ← Nat.add_assoc] at this
     exact this
    refine ⟨fun i => if hil : i < len then (hone' i hil).choose else d0, fun i hil => ?_⟩
    have hs := (hone' i hil).choose_spec
    simp only [dif_pos hil]
    exact hs
   obtain ⟨f, hf'⟩ := hch
   have hlen2 : ((List.range len).map f).length = len := by simp
   refine ⟨(List.range len).map f, ⟨some ⟨b, off, none⟩, cap, by rw [hlen2], by rw [hlen2]; exact hl, .inr ⟨b, off, hcs0, hfr, rfl, trivial, hheap, fun i j x hix hj => ?_⟩⟩, fun x hx => ?_, by rw [hlen2]; exact hbk, by rw [hlen2]; exact hlm⟩
   ·rw [List.getElem?_map, Option.map_eq_some_iff] at hix
    obtain ⟨i', hi', rfl⟩ := hix
    obtain ⟨hil, rfl⟩ := List.getElem?_eq_some_iff.1 hi'
    rw [List.getElem_range]
    rw [List.length_range] at hil
    exact (hf' i hil).1 j hj
   ·obtain ⟨i, hi, rfl⟩ := List.mem_map.1 hx
    exact (hf' i (List.mem_range.1 hi)).2
theorem Su.open_value {fuel : Nat} {cs : List Value} {z : DataW H × List MemPlace} (ht : DataW.trod enc Try.prog W 0 (fun _ => true) true fuel 36 cs = some z) (hs : ∀ n ∈ z.1.weights Try.prog 36, n ≤ reachBytes) :
 ∃ x : Kn.V, cs = Sk.ve x ∧ Kn.Z x := by
 obtain ⟨x, rfl, hd⟩ := Kn.open_cells ht
 refine ⟨x, rfl, ?_⟩
 have h1 := hs x.s.size (by
  rw [show z.1 = Kn.rd x from hd]
  unfold Kn.rd
  simp only [DataW.weights, Try.underlying36]
  show x.s.size ∈ DataW.weightsEach Try.prog [4, 2, 9] [.lit (.bool x.null), .lit (.int .i64 x.n), .lit (.string x.s.data.toList)]
  simp [DataW.weightsEach, DataW.weights])
 unfold reachBytes at h1
 unfold Kn.Z
 omega
theorem Su.vals_at {v : Value} {l : List Kn.V} (h : Mf.At 3 Sk.ve W v l) (hm : l.length ≤ 9223372036854775807) : Kn.Vals W v l := by
 obtain ⟨a, c, rfl, _, h⟩ := h
 refine ⟨a, c, rfl, ?_⟩
 rcases h with ⟨h, _⟩ | ⟨b, o, cs, fr, rfl, _, hb, h⟩
 ·exact .inl h
 ·exact .inr ⟨b, o, rfl, lt_of_block hb, hm, fun i x hx => ⟨by have := h i 0 x hx (by decide); rwa [Nat.add_zero] at this, h i 1 x hx (by decide), h i 2 x hx (by decide)⟩⟩
def Su.Or (W : World) (y : Option Addr × Nat × Nat) : Prop := ∃ l : List Kn.V, Kn.Vals W (Bk.sv y) l ∧ ∀ x ∈ l, Kn.Z x
theorem Su.open_row {fuel : Nat} {cs : List Value} {z : DataW H × List MemPlace} (h : DataW.trod enc Try.prog W 0 (fun _ => true) true fuel 58 cs = some z) (hs : ∀ n ∈ z.1.weights Try.prog 58, n ≤ reachBytes) :
 ∃ y, cs = Bk.e1 y ∧ Su.Or W y := by
 obtain ⟨c1, rfl⟩ : ∃ c1, cs = [c1] := by
  rcases open_slice Try.underlying58 h with ⟨hcs, _⟩ | ⟨a, len, cap, m, n, D, Pl, hcs, _⟩ <;> exact ⟨_, hcs⟩
 ·obtain ⟨l, h1, h2, _, h4⟩ := Su.open_slw (Q := Kn.Z) Try.underlying58 (by kernel_rfl) (by decide) Sk.ve_len ⟨false, 0, ⟨#[]⟩⟩ (fun h hs => Su.open_value h hs) h hs
  have hv := Su.vals_at h1 h4
  obtain ⟨a, c, rfl, _⟩ := h1
  exact ⟨(a, l.length, c), rfl, l, hv, h2⟩
set_option maxRecDepth 100000 in
theorem Su.open_rows {ts : List TypeId} {ds : List (DataW H)} (hsz : (DataW.weightsEach Try.prog ts ds).all (· ≤ reachBytes) = true) {j : Nat} {v : Value} {d : DataW H} {ps : List MemPlace} {r : Reach} {b0 : Nat}
 (ht : ts[j]? = some 45) (hd : ds[j]? = some d) (hv : Value.okWide Try.prog W r b0 45 v) (h : DataW.Trod enc Try.prog W 0 (fun _ => true) true 45 v d ps) :
 ∃ Q : List (List Kn.V), Su.Rv W v Q ∧ (∀ r ∈ Q, ∀ x ∈ r, Kn.Z x) ∧ Q.length ≤ Rows.uptoBulk d := by
 obtain ⟨a0, len0, cap0, rfl⟩ := okWide_slice Try.underlying45 hv
 obtain ⟨fuel, hf⟩ := h
 obtain ⟨K, h1, h2, h3, _⟩ := Su.open_slw (Q := Su.Or W) Try.underlying45 (by kernel_rfl) (by decide) Bk.e1_len (none, 0, 0) (fun h hs => Su.open_row h hs) hf (Su.fits hsz ht hd)
 have h3 : K.length + 1 ≤ Rows.uptoBulk d := h3
 have hch : ∃ g : (Option Addr × Nat × Nat) → List Kn.V, ∀ y ∈ K, Kn.Vals W (Bk.sv y) (g y) ∧ ∀ x ∈ g y, Kn.Z x := by
  classical
  refine ⟨fun y => if hy : Su.Or W y then hy.choose else [], fun y hy => ?_⟩
  have hs := (h2 y hy).choose_spec
  simp only [dif_pos (h2 y hy)]
  exact hs
 obtain ⟨g, hg⟩ := hch
 refine ⟨K.map g, ⟨K, h1, by rw [List.length_map], fun i x hx => ?_⟩, fun r hr => ?_, by rw [List.length_map]; omega⟩
 ·rw [List.getElem?_map, Option.map_eq_some_iff] at hx
  obtain ⟨y, hy, rfl⟩ := hx
  exact ⟨y, hy, (hg y (List.mem_of_getElem? hy)).1⟩
 ·obtain ⟨y, hy, rfl⟩ := List.mem_map.1 hr
  exact (hg y hy).2
set_option maxRecDepth 100000 in
theorem Su.open_is {T e : TypeId} {v : Value} {d : DataW H} {ps : List MemPlace} {r : Reach} {b0 : Nat} (hT : Try.prog.underlying T = some (.slice e)) (hC : Try.prog.cellsOf e = 1)
 (hop : ∀ {fuel : Nat} {cs : List Value} {z : DataW H × List MemPlace}, DataW.trod enc Try.prog W 0 (fun _ => true) true fuel e cs = some z → ∃ x : Int, cs = Mf.ic x ∧ Ty.I64 x) (hv : Value.okWide Try.prog W r b0 T v) (h : DataW.Trod enc Try.prog W 0 (fun _ => true) true T v d ps) :
 ∃ L : List Int, Mf.Is W v L ∧ L.length ≤ Rows.uptoBulk d := by
 obtain ⟨a0, len0, cap0, rfl⟩ := okWide_slice hT hv
 obtain ⟨fuel, hf⟩ := h
 obtain ⟨L, h1, _, h3⟩ := Mf.open_sl (Q := Ty.I64) hT hC (by decide) Mf.ic_len (0 : Int) (fun h => hop h) hf
 have h3 : L.length + 1 ≤ Rows.uptoBulk d := h3
 exact ⟨L, h1, by omega⟩
theorem Su.open_int64 {fuel : Nat} {cs : List Value} {z : DataW H × List MemPlace} (h : DataW.trod enc Try.prog W 0 (fun _ => true) true fuel 2 cs = some z) : ∃ x : Int, cs = Mf.ic x ∧ Ty.I64 x := by
 obtain ⟨n, e1, r1, w1⟩ := DataW.trod_int Try.underlying2 h
 exact ⟨n, e1, bounds_i64 w1⟩
set_option maxRecDepth 100000 in
theorem Su.open_ints {v : Value} {d : DataW H} {ps : List MemPlace} {r : Reach} {b0 : Nat} (hv : Value.okWide Try.prog W r b0 25 v) (h : DataW.Trod enc Try.prog W 0 (fun _ => true) true 25 v d ps) : ∃ L : List Int, Mf.Is W v L ∧ L.length ≤ Rows.uptoBulk d :=
 Su.open_is Try.underlying25 (by kernel_rfl) (fun h => Mf.open_int h) hv h
set_option maxRecDepth 100000 in
theorem Su.open_int64s {v : Value} {d : DataW H} {ps : List MemPlace} {r : Reach} {b0 : Nat} (hv : Value.okWide Try.prog W r b0 62 v) (h : DataW.Trod enc Try.prog W 0 (fun _ => true) true 62 v d ps) : ∃ L : List Int, Mf.Is W v L ∧ L.length ≤ Rows.uptoBulk d :=
 Su.open_is Try.underlying62 (by kernel_rfl) (fun h => Su.open_int64 h) hv h
end
end Go.Proofs.Ytodeodndjkkkbaa
namespace Go.Proofs.Ytodeodndjkkkbaa.Ty
open Go.RowKit Go.WideShapes Go.ChangeShapes
theorem post_below {H : Type} {enc : TypeId × Value → H} {P : Program} {f : Func} {s : ChangeSpec} {apart fresh handsOn again : Bool} {W W' : World} {args : Array Value} {v : Value} {ds gs : List (DataW H)} {before pa pv : List MemPlace}
 (hW : DataW.Whole enc P f.params.toList s.vars apart W args.toList ds gs before)
 (hr : ∀ (b : Nat) (sp : Nat → Bool) (hd : Bool), DataW.TrodAll enc P W' b sp hd f.resultTypes.toList (v.resultList f.resultTypes.size) (s.fn H (ds ++ gs)).results [])
 (ha : ∀ sp : Nat → Bool, (∀ p ∈ before, sp p.block = true) → DataW.TrodAll enc P W' 0 sp true f.params.toList args.toList (s.fn H (ds ++ gs)).args pa)
 (hv : ∀ sp : Nat → Bool, (∀ p ∈ before, sp p.block = true) → DataW.TrodVars enc P W' sp s.vars (s.fn H (ds ++ gs)).vars pv)
 (hp : before = pa ++ pv) (hb : Below W.heap.size W W')
 (hok : ∀ (j : Nat) (t : TypeId) (r : Value), f.resultTypes[j]? = some t → (v.resultList f.resultTypes.size)[j]? = some r → Value.okWide P W' .any 0 t r) :
 s.post enc P f apart fresh handsOn again W args v W' := by
 have hl : ∀ p ∈ before, p.block < W.heap.size := fun p h => hW.lt p h
 have hs : ∀ p ∈ before, (fun b => decide (b < W.heap.size)) p.block = true := fun p h => by simpa using hl p h
 have hW0 := hW
 obtain ⟨_, _, _, _, _, hz, hn⟩ := hW0
 refine ⟨ds, gs, before, [], pa, pv, hW, hr _ _ _, ha _ hs, hv _ hs, World.keptBut_mono (fun p h => ⟨h, by rw [hp] at h; exact .inr (List.mem_append.1 h)⟩) (hb.frame (· ∈ before)), fun _ => ⟨hok, _, _, ([] ++ pa) ++ pv, ⟨[] ++ pa, pv, trodAll_append (ha _ (fun _ _ => rfl)) (hr _ _ _), hv _ (fun _ _ => rfl), rfl, ?_, ?_⟩, ?_⟩⟩
 ·intro b off h
  have hin : MemPlace.cell b off ∈ before := by rw [hp]; simpa using h
  rw [hb.frozen (hl _ hin)]
  exact hz b off hin
 ·intro hap
  have := hn hap
  rw [hp] at this
  simpa using this
 ·intro p h _
  rw [hp]
  simpa using h
end Go.Proofs.Ytodeodndjkkkbaa.Ty
namespace Go.Proofs.Ytodeodndjkkkbaa.Ty
open Go.RowKit Go.WideShapes Go.ChangeShapes
theorem all_stay {H : Type} {enc : TypeId × Value → H} {P : Program} (hl : laidOutB P = true) {W W' : World} {sp : Nat → Bool} : ∀ (ts : List TypeId) (vs : List Value) (ds : List (DataW H)) (ps : List MemPlace),
 (ts.all fun t => P.readableRec t && decide (t < P.types.size)) = true → DataW.TrodAll enc P W 0 (fun _ => true) true ts vs ds ps → (∀ p ∈ ps, W.sameAt W' p) → (∀ p ∈ ps, sp p.block = true) → DataW.TrodAll enc P W' 0 sp true ts vs ds ps
 | [], [], [], _, _, h, _, _ => h
 | [], [], _ :: _, _, _, h, _, _ => h.elim
 | [], _ :: _, [], _, _, h, _, _ => h.elim
 | [], _ :: _, _ :: _, _, _, h, _, _ => h.elim
 | _ :: _, [], [], _, _, h, _, _ => h.elim
 | _ :: _, [], _ :: _, _, _, h, _, _ => h.elim
 | _ :: _, _ :: _, [], _, _, h, _, _ => h.elim
 | t :: ts, v :: vs, d :: ds, ps, ht, h, hs, hsp => by
   obtain ⟨p, q, h1, h2, rfl⟩ := h
   simp only [List.all_cons, Bool.and_eq_true, decide_eq_true_eq] at ht
   exact ⟨p, q, WideElems.Trod_stays hl ht.1.1 ht.1.2 h1 (fun x hx => hs x (List.mem_append_left _ hx)) (fun x hx => hsp x (List.mem_append_left _ hx)),
    all_stay hl ts vs ds q ht.2 h2 (fun x hx => hs x (List.mem_append_right _ hx)) (fun x hx => hsp x (List.mem_append_right _ hx)), rfl⟩
end Go.Proofs.Ytodeodndjkkkbaa.Ty
