import Derived.Test.YteaglaijkafphaaDoorWAI
import Derived.Test.YteaglaijkafphaaDoorWAA
import Derived.Test.YteaglaijkafphaaDoorWAG
import Derived.Lib.QuietBelow
import Derived.Deep.RegionHeld3
import Derived.Test.YteaglaijkafphaaDoorWAH
import Derived.Test.YteaglaijkafphaaDoorRows
import Derived.Test.YteaglaijkafphaaDoorLay
import Derived.WalkKit
import Derived.WalkSpells
import Derived.WalkLawsBesides
import Derived.Test.YteaglaijkafphaaDoorWAD
import Derived.Test.YteaglaijkafphaaDoorWAF
namespace Go.Proofs.YteaglaijkafphaaDoor
section
open Go.RowKit
def Bt.flat (X : Nat → Nat) (q x : Nat) : Bool := (X (x / q)).testBit (x % q)
end
section
open Go.RowKit
def Tx.sv (L : List Tx.Str) (i : Nat) : Value := .string (Ty.S (L.getD i []))
structure Tx.At (B : Nat) (w : World) (v : Value) (L : List Tx.Str) : Prop where
 is : ∃ a c, v = .slice a L.length c ∧ L.length ≤ c ∧ B ≤ w.heap.size ∧ ((L = [] ∧ (a = none → c = 0)) ∨ ∃ b o, a = some ⟨b, o, none⟩ ∧ b < B ∧ ∀ i, i < L.length → w.cell? ⟨b, o + i, none⟩ = some (Tx.sv L i))
theorem Tx.At.below {B : Nat} {w w' : World} {v : Value} {L : List Tx.Str} (h : Tx.At B w v L) (g : Below B w w') : Tx.At B w' v L := by
 obtain ⟨a, c, rfl, hc, hB, h⟩ := h
 refine ⟨a, c, rfl, hc, Nat.le_trans hB g.size, ?_⟩
 rcases h with h | ⟨b, o, rfl, hlt, h⟩
 ·exact .inl h
 ·exact .inr ⟨b, o, rfl, hlt, fun i hi => (g.cell (p := ⟨b, o + i, none⟩) hlt).trans (h i hi)⟩
theorem Tx.At.mono {B B' : Nat} {w : World} {v : Value} {L : List Tx.Str} (h : Tx.At B w v L) (h1 : B ≤ B') (h2 : B' ≤ w.heap.size) : Tx.At B' w v L := by
 obtain ⟨a, c, rfl, hc, hB, h⟩ := h
 refine ⟨a, c, rfl, hc, h2, ?_⟩
 rcases h with h | ⟨b, o, rfl, hlt, h⟩
 ·exact .inl h
 ·exact .inr ⟨b, o, rfl, by omega, h⟩
theorem Tx.At.nil (w : World) : Tx.At w.heap.size w (.slice none 0 0) [] := ⟨_, _, rfl, Nat.le_refl _, Nat.le_refl _, .inl ⟨rfl, fun _ => rfl⟩⟩
def Tx.posI (L : List Tx.Str) (t : Tx.Str) : Int := if t ∈ L then ((Tx.pos L t : Nat) : Int) else -1
end
section
open Go.RowKit
theorem Tx.infoS : (Tryd.prog.info? 9).map (fun i => (i.zero, i.size, i.bytes)) = some (some (.string ⟨#[]⟩), 1, 16) := by kernel_rfl
def Tx.Own (base : Nat) (w : World) (v : Value) (L : List Tx.Str) : Prop := Bt.Buf 9 base w v L.length (Tx.sv L)
theorem Tx.Own.nil (base : Nat) (w : World) : Tx.Own base w (.slice none 0 0) [] := Bt.Buf.nil _ _ _ _
theorem Tx.sv_left (M R : List Tx.Str) {i : Nat} (h : i < M.length) : Tx.sv (M ++ R) i = Tx.sv M i := by
 unfold Tx.sv
 rw [List.getD, List.getD, List.getElem?_append_left h]
theorem Tx.sv_right (M R : List Tx.Str) (i : Nat) : Tx.sv (M ++ R) (M.length + i) = Tx.sv R i := by
 unfold Tx.sv
 have e : M.length + i - M.length = i := by omega
 rw [List.getD, List.getD, List.getElem?_append_right (by omega), e]
theorem Tx.Own.pre {base : Nat} {w : World} {v : Value} {M : List Tx.Str} (h : Tx.Own base w v M) (x : Tx.Str) : Bt.Buf 9 base w v M.length (Tx.sv (M ++ [x])) :=
 Bt.Buf.congr h fun i hi => by rw [Tx.sv_left M [x] hi]
theorem Tx.Own.post {base : Nat} {w : World} {v : Value} {M : List Tx.Str} {x : Tx.Str} (h : Bt.Buf 9 base w v (M.length + 1) (Tx.sv (M ++ [x]))) : Tx.Own base w v (M ++ [x]) := by
 unfold Tx.Own
 rw [List.length_append, List.length_singleton]
 exact h
theorem Tx.sv_snoc (M : List Tx.Str) (x : Tx.Str) : Value.string (Ty.S x) = Tx.sv (M ++ [x]) M.length := by
 have := Tx.sv_right M [x] 0
 rw [Nat.add_zero] at this
 rw [this]
 rfl
theorem Tx.Own.at {base : Nat} {w : World} {v : Value} {L : List Tx.Str} (h : Tx.Own base w v L) : Tx.At w.heap.size w v L := by
 have hs := Bt.Buf.sl h
 obtain ⟨a, c, rfl, h1⟩ := hs
 have hc : L.length ≤ c ∧ (a = none → c = 0) := by
  rcases h.2 with ⟨e, e0⟩ | ⟨g, cap, cur, e, _, _, hcap, _⟩
  ·simp only [Value.slice.injEq] at e
   exact ⟨by omega, fun _ => by omega⟩
  ·simp only [Value.slice.injEq] at e
   exact ⟨by omega, fun e2 => by rw [e2] at e; exact absurd e.1 (by simp)⟩
 refine ⟨a, c, rfl, hc.1, Nat.le_refl _, ?_⟩
 rcases h1 with h1 | h1
 ·exact .inl ⟨List.eq_nil_of_length_eq_zero h1, hc.2⟩
 ·exact .inr h1
def Tx.Src (w : World) (u : Value) (K : List Tx.Str) : Prop := (u = .slice none 0 0 ∧ K = []) ∨ ∃ ad c, u = .slice (some ad) K.length c ∧ ∀ i, i < K.length → w.cell? (ad.add i) = some (Tx.sv K i)
theorem Tx.addr_add (b o i : Nat) : (⟨b, o, none⟩ : Addr).add i = ⟨b, o + i, none⟩ := by unfold Addr.add; split <;> simp_all
theorem Tx.Own.form {base : Nat} {w : World} {v : Value} {L : List Tx.Str} (h : Tx.Own base w v L) : (v = .slice none 0 0 ∧ L = []) ∨ ∃ g c, v = .slice (some ⟨g, 0, none⟩) L.length c ∧ L.length ≤ c ∧ g < w.heap.size ∧ ∀ i, i < L.length → w.cell? ⟨g, i, none⟩ = some (Tx.sv L i) := by
 rcases h.2 with ⟨e, e0⟩ | ⟨g, cap, cur, e, _, hgg, hcap, _⟩
 ·exact .inl ⟨e, List.eq_nil_of_length_eq_zero e0⟩
 ·refine .inr ⟨g, cap, e, hcap, (Array.getElem?_eq_some_iff.1 hgg).1, fun i hi => ?_⟩
  have := h.cells (g := g) (by rw [e]; rfl) i (Tx.sv L i) (by simp [hi])
  rwa [Tx.addr_add, Nat.zero_add] at this
theorem Tx.grew_below {wo w w' : World} {v v' : Value} {L : List Tx.Str} (hb : Below wo.heap.size wo w) (ho : Tx.Own wo.heap.size w v L) (g : Ty.Grew w w' v v') : Below wo.heap.size wo w' :=
 hb.trans (g.below hb.size (Bt.Buf.base_le ho))
theorem Tx.Own.mono {B B' : Nat} {w : World} {v : Value} {L : List Tx.Str} (h : Tx.Own B w v L) (hB : B' ≤ B) : Tx.Own B' w v L := by
 refine ⟨h.1, ?_⟩
 rcases h.2 with hn | ⟨b, cap, cur, rfl, hbb, rest⟩
 ·exact .inl hn
 ·exact .inr ⟨b, cap, cur, rfl, by omega, rest⟩
end
section
open Go.RowKit
def Fr.Mid (l : List UInt8) (a : Nat) (L : List Fr.Str) : Prop :=
 a ≤ l.length ∧ 8 * L.length ≤ a ∧ Fr.scan l = if (Fr.scan (l.drop a)).1 ≠ 0 then (8, [], 0) else (0, L ++ (Fr.scan (l.drop a)).2.1, a + (Fr.scan (l.drop a)).2.2)
theorem Fr.Mid.start (l : List UInt8) : Fr.Mid l 0 [] := by
 refine ⟨Nat.zero_le _, by simp, ?_⟩
 rw [List.drop_zero]
 rcases Fr.scan_err l with e | e
 ·rw [if_neg (by rw [e]; simp)]
  exact Prod.ext e (Prod.ext (by simp) (by simp))
 ·rw [e]; rfl
theorem Fr.Mid.short {l : List UInt8} {a : Nat} {L : List Fr.Str} (h : Fr.Mid l a L) (h4 : (l.drop a).length < 4) : Fr.scan l = (0, L, a) := by
 rw [h.2.2, Fr.scan_is (l.drop a), if_pos h4]
 simp
theorem Fr.Mid.big {l : List UInt8} {a : Nat} {L : List Fr.Str} (h : Fr.Mid l a L) (h4 : ¬ (l.drop a).length < 4) (hb : 1048576 < Fr.val ((l.drop a).take 4)) : Fr.scan l = (8, [], 0) := by
 rw [h.2.2, Fr.scan_is (l.drop a), if_neg h4, if_pos hb]
 rfl
theorem Fr.Mid.torn {l : List UInt8} {a : Nat} {L : List Fr.Str} (h : Fr.Mid l a L) (h4 : ¬ (l.drop a).length < 4) (hb : ¬ 1048576 < Fr.val ((l.drop a).take 4)) (ht : (l.drop a).length < Fr.val ((l.drop a).take 4) + 8) : Fr.scan l = (0, L, a) := by
 rw [h.2.2, Fr.scan_is (l.drop a), if_neg h4, if_neg hb, if_pos ht]
 simp
theorem Fr.Mid.wrong {l : List UInt8} {a : Nat} {L : List Fr.Str} (h : Fr.Mid l a L) (h4 : ¬ (l.drop a).length < 4) (hb : ¬ 1048576 < Fr.val ((l.drop a).take 4)) (ht : ¬ (l.drop a).length < Fr.val ((l.drop a).take 4) + 8)
 (hs : Fr.val (((l.drop a).drop (4 + Fr.val ((l.drop a).take 4))).take 4) ≠ Fr.sum (((l.drop a).drop 4).take (Fr.val ((l.drop a).take 4)))) : Fr.scan l = (8, [], 0) := by
 rw [h.2.2, Fr.scan_is (l.drop a), if_neg h4, if_neg hb, if_neg ht, if_pos hs]
 rfl
theorem Fr.Mid.next {l : List UInt8} {a : Nat} {L : List Fr.Str} (h : Fr.Mid l a L) (h4 : ¬ (l.drop a).length < 4) (hb : ¬ 1048576 < Fr.val ((l.drop a).take 4)) (ht : ¬ (l.drop a).length < Fr.val ((l.drop a).take 4) + 8)
 (hs : Fr.val (((l.drop a).drop (4 + Fr.val ((l.drop a).take 4))).take 4) = Fr.sum (((l.drop a).drop 4).take (Fr.val ((l.drop a).take 4)))) : Fr.Mid l (a + (Fr.val ((l.drop a).take 4) + 8)) (L ++ [((l.drop a).drop 4).take (Fr.val ((l.drop a).take 4))]) := by
 have hlen : (l.drop a).length = l.length - a := List.length_drop
 refine ⟨by omega, by rw [List.length_append, List.length_singleton]; have := h.2.1; omega, ?_⟩
 have e := Fr.scan_is (l.drop a)
 rw [if_neg h4, if_neg hb, if_neg ht, if_neg (fun h => h hs), show (l.drop a).drop (Fr.val ((l.drop a).take 4) + 8) = l.drop (a + (Fr.val ((l.drop a).take 4) + 8)) from List.drop_drop] at e
 rw [h.2.2, e]
 generalize Fr.scan (l.drop (a + (Fr.val ((l.drop a).take 4) + 8))) = q
 generalize Fr.val ((l.drop a).take 4) = N
 by_cases h5 : q.1 ≠ 0
 ·simp [h5]
 ·have h6 : q.1 = 0 := by simpa using h5
  simp [h6, Nat.add_assoc]
def Fr.Got (w : World) (r : Nat × List Fr.Str × Nat) (e : Ending) (w' : World) : Prop :=
 ∃ v, e = .returned (.tuple #[v, .int .i64 ((r.2.2 : Nat) : Int), .int .i64 ((r.1 : Nat) : Int)]) ∧ Tx.At w'.heap.size w' v r.2.1 ∧ Below w.heap.size w w'
theorem Fr.Got.bad {w w' : World} {r : Nat × List Fr.Str × Nat} (hr : r = (8, [], 0)) (g : Below w.heap.size w w') : Fr.Got w r (.returned (.tuple #[.slice none 0 0, .int .i64 0, .int .i64 8])) w' :=
 ⟨_, by rw [hr]; rfl, by rw [hr]; exact Tx.At.nil _, g⟩
theorem Fr.Got.good {w w' : World} {r : Nat × List Fr.Str × Nat} {v : Value} {L : List Fr.Str} {a : Nat} (hr : r = (0, L, a)) (h : Tx.At w'.heap.size w' v L) (g : Below w.heap.size w w') : Fr.Got w r (.returned (.tuple #[v, .int .i64 (a : Int), .int .i64 0])) w' :=
 ⟨_, by rw [hr]; rfl, by rw [hr]; exact h, g⟩
theorem Fr.ext_at (s : ByteArray) (a b : Nat) : s.extract a b = Ty.S ((s.data.toList.drop a).take (b - a)) := Ty.extract_S s a b
end
section
open Go.RowKit
end
section
open Go
open Ty (encU U64 I64)
open Ig (rest sg)
open Tx (encT restT)
theorem Mf.sX_sim : Mf.Sim Mf.em Mf.St.ok (fun _ => True) Mf.sX Mf.rdX :=
 (Mf.sC_sim _ (fun _ => True)).bind (fun _ => (Mf.Sim.loop (Mf.sC_sim _ (fun _ => True)) _).bind (fun _ => (Mf.sC_sim _ (fun _ => True)).bind (fun _ => (Mf.Sim.loop Mf.sP_sim _).bind (fun _ =>
  (Mf.sC_sim _ (fun _ => True)).bind (fun _ => (Mf.sC_sim _ (fun _ => True)).bind (fun _ => .pure _) fun _ _ _ _ => trivial) fun _ _ _ _ => trivial) fun _ _ _ _ _ _ => trivial) fun _ _ _ _ => trivial) fun _ _ _ _ _ _ => trivial) fun _ _ _ _ => trivial
theorem Mf.fin_0 {l : List UInt8} {e : Nat} (h : Ty.fin l e = 0) : e = 0 ∧ l = [] := by
 unfold Ty.fin at h
 split at h
 ·cases h
 ·rename_i hn
  refine ⟨h, ?_⟩
  by_cases hl : l = []
  ·exact hl
  ·exact absurd ⟨h, hl⟩ hn
theorem Mf.rd_of {l : List UInt8} {x : Int × Int × Mf.E} {r : List UInt8} (h : Mf.rdX l = some (x, r)) : Mf.rd l = if r = [] then some x.2.2 else none := by
 obtain ⟨n, m, e⟩ := x
 unfold Mf.rd
 rw [h]
 cases r with
 | nil => rfl
 | cons b r => rw [if_neg (by simp)]
theorem Mf.sX_rd (l : List UInt8) : Mf.rd l = if (Mf.sX (Mf.em l)).2.wr = false ∧ Ty.fin (Mf.sX (Mf.em l)).2.l (Mf.sX (Mf.em l)).2.e = 0 then some (Mf.sX (Mf.em l)).1.2.2 else none := by
 cases hx : Mf.rdX l with
 | none =>
   rw [if_neg ?_]
   ·unfold Mf.rd; rw [hx]
   ·rintro ⟨h1, h2⟩
    exact Mf.sX_sim.back l ⟨(Mf.fin_0 h2).1, h1⟩ trivial hx
 | some p =>
   obtain ⟨x, r⟩ := p
   rw [Mf.rd_of hx, Mf.sX_sim.good l x r hx]
   show _ = if false = false ∧ Ty.fin r 0 = 0 then some x.2.2 else none
   unfold Ty.fin
   by_cases hr : r = []
   ·simp [hr]
   ·simp [hr]
theorem Mf.rdC_back {most : Nat} {n : Int} (h0 : 0 ≤ n) (h1 : n ≤ most) (hm : most ≤ 999999999) (r : List UInt8) : Mf.rdC most (Mf.encN n ++ r) = some (n, r) := by
 obtain ⟨a1, a2, a3⟩ := Ig.read_encU n.toNat (show U64 n.toNat by unfold U64; omega) r
 unfold Mf.rdC Mf.encN
 rw [a1, a2, a3, if_pos ⟨rfl, by omega⟩, Int.toNat_of_nonneg h0]
theorem Mf.rdV_back {v : Kn.V} (hk : Mf.key v = true) (hi : I64 v.n) (r : List UInt8) : Mf.rdV (Mf.encV v ++ r) = some (v, r) := by
 unfold Mf.key at hk
 simp only [Bool.and_eq_true, Bool.not_eq_true', decide_eq_true_iff] at hk
 have hl : v.s.data.toList.length ≤ 64 := by rw [Ty.length_data]; exact hk.2
 obtain ⟨a1, a2, a3⟩ := Ig.read_encI v.n hi (encT v.s.data.toList ++ r)
 obtain ⟨b1, b2, b3⟩ := Tx.read_encT v.s.data.toList hl r
 unfold Mf.rdV Mf.encV
 rw [List.append_assoc, a1, a2, a3, b1, b2, b3, if_pos ⟨rfl, rfl⟩]
 obtain ⟨vn, vi, vs⟩ := v
 obtain rfl : vn = false := hk.1
 rfl
theorem Mf.bd_of {α β : Type} {f : List UInt8 → Option (α × List UInt8)} {g : α → List UInt8 → Option (β × List UInt8)} {l : List UInt8} {x : α} {r : List UInt8} (h : f l = some (x, r)) : Mf.bd f g l = g x r := by
 unfold Mf.bd
 rw [h]
def Mf.P.i64 (p : Mf.P) : Prop := I64 p.lo.n ∧ I64 p.hi.n
theorem Mf.part_is {p : Mf.P} (h : Mf.part p = true) : (0 ≤ p.id ∧ p.id ≤ 999999999) ∧ (0 ≤ p.lv ∧ p.lv ≤ 3) ∧ Mf.key p.lo = true ∧ Mf.key p.hi = true ∧ Kn.cmp p.lo p.hi ≤ 0 := by
 unfold Mf.part at h
 simp only [Bool.and_eq_true, decide_eq_true_iff] at h
 exact ⟨(Mf.nm_iff _).1 h.1.1.1.1, h.1.1.1.2, h.1.1.2, h.1.2, h.2⟩
theorem Mf.rdP_back {p : Mf.P} (h : Mf.part p = true) (hi : p.i64) (r : List UInt8) : Mf.rdP (Mf.encP p ++ r) = some (p, r) := by
 obtain ⟨h1, h2, h3, h4, _⟩ := Mf.part_is h
 unfold Mf.rdP Mf.encP
 rw [List.append_assoc, List.append_assoc, List.append_assoc]
 rw [Mf.bd_of (Mf.rdC_back h1.1 (by omega) (by decide) _), Mf.bd_of (Mf.rdC_back h2.1 (by omega) (by decide) _), Mf.bd_of (Mf.rdV_back h3 hi.1 _), Mf.bd_of (Mf.rdV_back h4 hi.2 _)]
 rfl
theorem Mf.rdL_back {α : Type} {f : List UInt8 → Option (α × List UInt8)} {enc : α → List UInt8} : ∀ (L : List α) (_ : ∀ x ∈ L, ∀ r, f (enc x ++ r) = some (x, r)) (r : List UInt8), Mf.rdL f L.length (L.flatMap enc ++ r) = some (L, r)
 | [], _, r => rfl
 | x :: L, h, r => by
   rw [List.flatMap_cons, List.append_assoc, List.length_cons]
   show Mf.bd f _ _ = _
   rw [Mf.bd_of (h x (by simp) _), Mf.bd_of (Mf.rdL_back L (fun y hy => h y (by simp [hy])) r)]
   rfl
theorem Mf.rd_enc {e : Mf.E} (h : Mf.right e = true) (hi : ∀ p ∈ e.add, p.i64) : Mf.rd (Mf.enc e) = some e := by
 obtain ⟨h1, h2, h3, h4, h5, h6⟩ := (Mf.right_iff e).1 h
 have h5 := (Mf.nm_iff _).1 h5
 have h6 := (Mf.nm_iff _).1 h6
 have hd := Mf.rdL_back (f := Mf.rdC 999999999) (enc := Mf.encN) e.drop (fun x hx r => by have := (Mf.nm_iff _).1 (h3 x hx); exact Mf.rdC_back this.1 (by omega) (by decide) r)
 have hp := Mf.rdL_back (f := Mf.rdP) (enc := Mf.encP) e.add (fun x hx r => Mf.rdP_back (h4 x hx) (hi x hx) r)
 have hx : Mf.rdX (Mf.enc e) = some (((e.drop.length : Int), (e.add.length : Int), e), []) := by
  unfold Mf.rdX Mf.enc
  simp only [List.append_assoc]
  rw [Mf.bd_of (Mf.rdC_back (by omega) (by omega) (by decide) _), Int.toNat_natCast, Mf.bd_of (hd _), Mf.bd_of (Mf.rdC_back (by omega) (by omega) (by decide) _), Int.toNat_natCast, Mf.bd_of (hp _),
   Mf.bd_of (Mf.rdC_back h5.1 (by omega) (by decide) _)]
  have := Mf.rdC_back (most := 999999999) h6.1 (by omega) (by decide) []
  rw [List.append_nil] at this
  rw [Mf.bd_of this]
  rfl
 rw [Mf.rd_of hx, if_pos rfl]
theorem Mf.encN_len (n : Int) : (Mf.encN n).length ≤ 9 := Ty.encU_len9 _
theorem Mf.encV_len {v : Kn.V} (h : Mf.key v = true) : (Mf.encV v).length ≤ 82 := by
 unfold Mf.key at h
 simp only [Bool.and_eq_true, Bool.not_eq_true', decide_eq_true_iff] at h
 have h1 : (Ig.encI v.n).length ≤ 9 := Ty.encU_len9 _
 have h2 : (encU v.s.data.toList.length).length ≤ 9 := Ty.encU_len9 _
 have h3 : v.s.data.toList.length ≤ 64 := by rw [Ty.length_data]; exact h.2
 unfold Mf.encV encT
 simp only [List.length_append]
 omega
theorem Mf.encP_len {p : Mf.P} (h : Mf.part p = true) : (Mf.encP p).length ≤ 182 := by
 obtain ⟨_, _, h3, h4, _⟩ := Mf.part_is h
 have := Mf.encV_len h3
 have := Mf.encV_len h4
 have := Mf.encN_len p.id
 have := Mf.encN_len p.lv
 unfold Mf.encP
 simp only [List.length_append]
 omega
theorem Mf.flat_len {α : Type} {enc : α → List UInt8} {m : Nat} : ∀ (L : List α) (_ : ∀ x ∈ L, (enc x).length ≤ m), (L.flatMap enc).length ≤ L.length * m
 | [], _ => by simp
 | x :: L, h => by
   have := Mf.flat_len L fun y hy => h y (by simp [hy])
   have := h x (by simp)
   rw [List.flatMap_cons, List.length_append, List.length_cons, Nat.add_mul]
   omega
theorem Mf.enc_len {e : Mf.E} (h : Mf.right e = true) : (Mf.enc e).length ≤ 200000 := by
 obtain ⟨h1, h2, _, h4, _, _⟩ := (Mf.right_iff e).1 h
 have a1 := Mf.flat_len e.drop (enc := Mf.encN) (m := 9) fun x _ => Mf.encN_len x
 have a2 := Mf.flat_len e.add (enc := Mf.encP) (m := 182) fun x hx => Mf.encP_len (h4 x hx)
 have := Mf.encN_len e.drop.length
 have := Mf.encN_len e.add.length
 have := Mf.encN_len e.floor
 have := Mf.encN_len e.next
 have := Nat.mul_le_mul_right 9 h1
 have := Nat.mul_le_mul_right 182 h2
 unfold Mf.enc
 simp only [List.length_append]
 omega
def Mf.rp : Mf.S → List (List UInt8) → Option Mf.S
 | s, [] => some s
 | s, t :: ts => match Mf.rd t with
   | none => none
   | some e => match Mf.ap s e with
     | none => none
     | some u => Mf.rp u ts
theorem Mf.rp_step {s : Mf.S} {ts : List (List UInt8)} {k : Nat} {t : List UInt8} (h : ts[k]? = some t) : Mf.rp s (ts.drop k) = match Mf.rd t with
 | none => none
 | some e => match Mf.ap s e with
   | none => none
   | some u => Mf.rp u (ts.drop (k + 1)) := by
 obtain ⟨hk, rfl⟩ := List.getElem?_eq_some_iff.1 h
 rw [List.drop_eq_getElem_cons hk]
 rfl
theorem Mf.rp_end {s : Mf.S} {ts : List (List UInt8)} {k : Nat} (h : ¬ k < ts.length) : Mf.rp s (ts.drop k) = some s := by
 rw [List.drop_eq_nil_of_le (by omega)]
 rfl
def Mf.rr (l : List UInt8) : Option Mf.S := if (Fr.scan l).1 = 0 then Mf.rp ⟨[], 0, 0⟩ (Fr.scan l).2.1 else none
end
section
open Go
def Mf.aps : Mf.S → List Mf.E → Option Mf.S
 | s, [] => some s
 | s, e :: es => match Mf.ap s e with
   | none => none
   | some t => Mf.aps t es
theorem Mf.aps_append : ∀ (a b : List Mf.E) (s : Mf.S), Mf.aps s (a ++ b) = match Mf.aps s a with | none => none | some t => Mf.aps t b
 | [], _, _ => rfl
 | e :: a, b, s => by
   show (match Mf.ap s e with | none => none | some t => Mf.aps t (a ++ b)) = match (match Mf.ap s e with | none => none | some t => Mf.aps t a) with | none => none | some t => Mf.aps t b
   cases Mf.ap s e with
   | none => rfl
   | some t => exact Mf.aps_append a b t
theorem Mf.aps_snoc {s t u : Mf.S} {es : List Mf.E} {e : Mf.E} (h : Mf.aps s es = some t) (he : Mf.ap t e = some u) : Mf.aps s (es ++ [e]) = some u := by
 rw [Mf.aps_append, h]
 show (match Mf.ap t e with | none => none | some t => Mf.aps t []) = some u
 rw [he]
 rfl
def Mf.Vs (es : List Mf.E) : Prop := ∀ e ∈ es, Mf.right e = true ∧ ∀ p ∈ e.add, p.i64
theorem Mf.rp_enc : ∀ (es : List Mf.E) (s : Mf.S), Mf.Vs es → Mf.rp s (es.map Mf.enc) = Mf.aps s es
 | [], _, _ => rfl
 | e :: es, s, h => by
   have he := h e (by simp)
   have ih := fun t => Mf.rp_enc es t fun x hx => h x (by simp [hx])
   show (match Mf.rd (Mf.enc e) with | none => none | some e => match Mf.ap s e with | none => none | some u => Mf.rp u (es.map Mf.enc)) = match Mf.ap s e with | none => none | some t => Mf.aps t es
   rw [Mf.rd_enc he.1 he.2]
   simp only [ih]
theorem Mf.vs_take {es : List Mf.E} (h : Mf.Vs es) (k : Nat) : Mf.Vs (es.take k) := fun e he => h e (List.mem_of_mem_take he)
def Mf.tx (es : List Mf.E) : List UInt8 := (es.map Mf.enc).flatMap Fr.frm
theorem Mf.tx_snoc (es : List Mf.E) (e : Mf.E) : Mf.tx (es ++ [e]) = Mf.tx es ++ Fr.frm (Mf.enc e) := by
 unfold Mf.tx
 rw [List.map_append, List.flatMap_append]
 simp
theorem Mf.enc_short {es : List Mf.E} (h : Mf.Vs es) : ∀ t ∈ es.map Mf.enc, t.length ≤ 1048576 := fun t ht => by
 obtain ⟨e, he, rfl⟩ := List.mem_map.1 ht
 have := Mf.enc_len (h e he).1
 omega
theorem Mf.tx_len : ∀ {es : List Mf.E}, Mf.Vs es → (Mf.tx es).length ≤ es.length * 200008
 | [], _ => Nat.le_refl _
 | e :: es, h => by
   have ih := Mf.tx_len (es := es) fun x hx => h x (by simp [hx])
   have h1 := Mf.enc_len (h e (by simp)).1
   unfold Mf.tx at ih ⊢
   rw [List.map_cons, List.flatMap_cons, List.length_append, Fr.frm_len, List.length_cons]
   omega
theorem Mf.rr_take {es : List Mf.E} (h : Mf.Vs es) (k : Nat) : Mf.rr ((Mf.tx es).take k) = Mf.aps ⟨[], 0, 0⟩ (es.take (Fr.whole (es.map Mf.enc) k)) := by
 unfold Mf.rr Mf.tx
 rw [Fr.scan_torn _ k (Mf.enc_short h), if_pos rfl]
 simp only
 rw [← List.map_take, Mf.rp_enc _ _ (Mf.vs_take h _)]
theorem Mf.size_cons (t : Fr.Str) (L : List Fr.Str) : Fr.size (t :: L) = t.length + 8 + Fr.size L := by simp [Fr.size]
theorem Mf.whole_is : ∀ (L : List Fr.Str) (k m : Nat), m ≤ L.length → (∀ j, j < m → Fr.size (L.take (j + 1)) ≤ k) → (m = L.length ∨ k < Fr.size (L.take (m + 1))) → Fr.whole L k = m
 | [], _, m, h, _, _ => by
   obtain rfl : m = 0 := by simpa using h
   rfl
 | t :: L, k, 0, _, _, h => by
   rcases h with h | h
   ·simp at h
   ·rw [List.take_succ_cons, List.take_zero, Mf.size_cons] at h
    have : Fr.size ([] : List Fr.Str) = 0 := rfl
    unfold Fr.whole
    rw [if_neg (by omega)]
 | t :: L, k, m + 1, h1, h2, h3 => by
   have h0 := h2 0 (by omega)
   rw [List.take_succ_cons, List.take_zero, Mf.size_cons] at h0
   have hz : Fr.size ([] : List Fr.Str) = 0 := rfl
   have ih := Mf.whole_is L (k - (t.length + 8)) m (by simpa using h1) (fun j hj => by
    have := h2 (j + 1) (by omega)
    rw [List.take_succ_cons, Mf.size_cons] at this
    omega) (by
    rcases h3 with h3 | h3
    ·exact .inl (by simpa using h3)
    ·rw [List.take_succ_cons, Mf.size_cons] at h3
     exact .inr (by omega))
   unfold Fr.whole
   rw [if_pos (by omega), ih]
def Mf.en (es : List Mf.E) (i : Nat) : Nat := (Mf.tx (es.take (i + 1))).length
theorem Mf.whole_en {es : List Mf.E} {k m : Nat} (h1 : m ≤ es.length) (h2 : ∀ j, j < m → Mf.en es j ≤ k) (h3 : m = es.length ∨ k < Mf.en es m) : Fr.whole (es.map Mf.enc) k = m := by
 have he : ∀ j, Mf.en es j = Fr.size ((es.map Mf.enc).take (j + 1)) := fun j => by unfold Mf.en Mf.tx; rw [Fr.size_is, List.map_take]
 refine Mf.whole_is _ k m (by rw [List.length_map]; exact h1) (fun j hj => by rw [← he]; exact h2 j hj) ?_
 rw [List.length_map, ← he]
 exact h3
theorem Mf.en_mono {es : List Mf.E} {i j : Nat} (h : i ≤ j) : Mf.en es i ≤ Mf.en es j := by
 unfold Mf.en
 have e : es.take (i + 1) = (es.take (j + 1)).take (i + 1) := by rw [List.take_take, Nat.min_eq_left (by omega)]
 have e2 : Mf.tx (es.take (j + 1)) = Mf.tx (es.take (i + 1)) ++ Mf.tx ((es.take (j + 1)).drop (i + 1)) := by
  rw [e]
  unfold Mf.tx
  rw [← List.flatMap_append, ← List.map_append, List.take_append_drop]
 rw [e2, List.length_append]
 omega
end
section
open Go.RowKit Go.Shelf
set_option maxRecDepth 100000 in
theorem Tx.clone_c (s : ByteArray) (w : World) (hs : s.size ≤ 140737488355328) : Calls Tryd.prog 26 #[.string s] w fun e w' => e = .returned (.string s) ∧ Below w.heap.size w w' := by
 have cc := Any.stringslite_Clone Tryd.cloneL s w (by omega)
 go_enter Tryd.func26, Tryd.ntmps26
 go_wp2_with fail
 refine Calls.mono cc ?_
 rintro e w1 ⟨rfl, hb⟩
 go_wp2
 go_ret
 exact ⟨rfl, hb⟩
end
section
open Go Go.RowKit
structure Mf.By2 (r b : Nat) (w w' : World) : Prop where
 os : w'.os = w.os
 tape : w'.tape = w.tape
 output : w'.output = w.output
 size : w.heap.size ≤ w'.heap.size
 block : ∀ k, k < w.heap.size → k ≠ r → k ≠ b → w'.heap[k]? = w.heap[k]?
theorem Mf.By2.refl (r b : Nat) (w : World) : Mf.By2 r b w w := ⟨rfl, rfl, rfl, Nat.le_refl _, fun _ _ _ _ => rfl⟩
theorem Mf.By2.trans {r b : Nat} {u v w : World} (h : Mf.By2 r b u v) (k : Mf.By2 r b v w) : Mf.By2 r b u w :=
 ⟨k.os.trans h.os, k.tape.trans h.tape, k.output.trans h.output, Nat.le_trans h.size k.size, fun i hi h1 h2 => (k.block i (Nat.lt_of_lt_of_le hi h.size) h1 h2).trans (h.block i hi h1 h2)⟩
theorem Mf.By2.ofB {r b : Nat} {w w' : World} (h : w.grownBy w' (some b)) : Mf.By2 r b w w' :=
 ⟨h.os, h.tape, h.output, h.size, fun k hk _ h2 => h.block k hk (fun e => h2 (Option.some.inj e))⟩
theorem Mf.By2.ofBelow {r b : Nat} {w w' : World} (h : Below w.heap.size w w') : Mf.By2 r b w w' :=
 ⟨h.os, h.tape, h.output, h.size, fun k hk _ _ => h.block k hk⟩
theorem Mf.By2.set {r b : Nat} (w : World) (i : Nat) (u : Value) : Mf.By2 r b w (w.setCell ⟨r, i, none⟩ u) :=
 ⟨rfl, rfl, rfl, by simp [World.setCell], fun k _ h1 _ => Below.heap_setCell _ _ _ _ (by show k ≠ r; exact h1)⟩
theorem Mf.By2.below {r b B : Nat} {w w' : World} (h : Mf.By2 r b w w') (hr : B ≤ r) (hb : B ≤ b) (hB : B ≤ w.heap.size) : Below B w w' :=
 ⟨h.os, h.tape, h.output, h.size, fun k hk => h.block k (by omega) (by omega) (by omega)⟩
theorem Mf.By2.new {r b q i : Nat} {w w1 : World} (g : Mf.By2 r b w w1) (hq : w.heap.size ≤ q) (u : Value) : Mf.By2 r b w (w1.setCell ⟨q, i, none⟩ u) :=
 ⟨g.os, g.tape, g.output, by have := g.size; simpa [World.setCell] using this, fun k hk h1 h2 => (Below.heap_setCell _ _ _ _ (by show k ≠ q; omega)).trans (g.block k hk h1 h2)⟩
structure Mf.Rdr (r b : Nat) (w : World) (s : Mf.St) : Prop where
 cur : Ty.Cur b w s.l s.e
 box : w.heap[r]? = some (.cells #[.pointer (some ⟨b, 0, none⟩), .bool s.wr] 68 (0, 0))
 ne : b ≠ r
 tabs : Ty.Tabs w
 gb : Ty.G ≤ b
 gr : Ty.G ≤ r
 short : s.l.length ≤ 140737488351232
theorem Mf.Rdr.lt {r b : Nat} {w : World} {s : Mf.St} (h : Mf.Rdr r b w s) : r < w.heap.size ∧ b < w.heap.size := ⟨lt_of_block h.box, h.cur.lt⟩
theorem Mf.Rdr.kept {r b : Nat} {w w' : World} {s : Mf.St} (h : Mf.Rdr r b w s) (g : Below w.heap.size w w') : Mf.Rdr r b w' s :=
 ⟨(g.block b h.lt.2).trans h.cur, (g.block r h.lt.1).trans h.box, h.ne, Ty.Tabs.below h.tabs g (Ty.Tabs.two h.tabs), h.gb, h.gr, h.short⟩
theorem Mf.Rdr.other {r b g i : Nat} {w : World} {s : Mf.St} (h : Mf.Rdr r b w s) (h1 : g ≠ r) (h2 : g ≠ b) (h3 : Ty.G ≤ g) (u : Value) : Mf.Rdr r b (w.setCell ⟨g, i, none⟩ u) s :=
 ⟨(Below.heap_setCell _ _ _ _ (by show b ≠ g; omega)).trans h.cur, (Below.heap_setCell _ _ _ _ (by show r ≠ g; omega)).trans h.box, h.ne, Ty.Tabs.by h.tabs (Ty.by_set w g i u) (fun k hk => by have := Option.some.inj hk; omega), h.gb, h.gr, h.short⟩
theorem Mf.Rdr.moved {r b : Nat} {w w' : World} {s : Mf.St} {l : List UInt8} {e : Nat} (h : Mf.Rdr r b w s) (hc : Ty.Cur b w' l e) (hg : w.grownBy w' (some b)) (hl : l.length ≤ s.l.length) : Mf.Rdr r b w' ⟨l, e, s.wr⟩ :=
 ⟨hc, (hg.block r h.lt.1 (fun e => h.ne (Option.some.inj e).symm)).trans h.box, h.ne, Ty.Tabs.by h.tabs hg (fun k hk => by have := Option.some.inj hk; have := h.gb; omega), h.gb, h.gr, Nat.le_trans hl h.short⟩
theorem Mf.Rdr.marked {r b : Nat} {w : World} {l : List UInt8} {e : Nat} {x : Bool} (h : Mf.Rdr r b w ⟨l, e, x⟩) (y : Bool) : Mf.Rdr r b (w.setCell ⟨r, 1, none⟩ (.bool y)) ⟨l, e, y⟩ :=
 ⟨(Below.heap_setCell _ _ _ _ (by show b ≠ r; exact h.ne)).trans h.cur, Ty.two_set1 h.box, h.ne, Ty.Tabs.by h.tabs (Ty.by_set w r 1 _) (fun k hk => by have := Option.some.inj hk; have := h.gr; omega), h.gb, h.gr, h.short⟩
def Mf.Went (r b : Nat) (w : World) (v : Value) (s : Mf.St) (e : Ending) (w' : World) : Prop := e = .returned v ∧ Mf.Rdr r b w' s ∧ Mf.By2 r b w w'
theorem Mf.pair {w : World} {q : Nat} {x y : Value} {t : TypeId} (h : w.heap[q]? = some (.cells #[x, y] t (0, 0))) : w.cell? ⟨q, 0, none⟩ = some x ∧ w.cell? ⟨q, 1, none⟩ = some y ∧ w.frozen? ⟨q, 0, none⟩ = false ∧ w.frozen? ⟨q, 1, none⟩ = false := by
 refine ⟨?_, ?_, ?_, ?_⟩ <;> simp [World.cell?, World.frozen?, h]
theorem Mf.rdU_le (l : List UInt8) (e : Nat) : (Ty.rdU l e).2.1.length ≤ l.length := by
 unfold Ty.rdU
 split
 ·exact Nat.le_refl _
 ·simp only [List.length_drop]; omega
theorem Mf.rdT_le (l : List UInt8) (e : Nat) : (Ty.rdT 64 l e).2.1.length ≤ l.length ∧ (Ty.rdT 64 l e).1.length ≤ l.length := by
 have h := Ty.txt_len l 64
 unfold Ty.rdT
 split
 ·exact ⟨Nat.le_refl _, Nat.zero_le _⟩
 ·exact ⟨by simp only [List.length_drop]; omega, h⟩
set_option maxHeartbeats 2000000 in
set_option maxRecDepth 100000 in
theorem Mf.number_c (r b : Nat) (s : Mf.St) (most : Nat) (w : World) (h : Mf.Rdr r b w s) (hm : most ≤ 999999999) :
 Calls Tryd.prog 51 #[.pointer (some ⟨r, 0, none⟩), .int .i64 (most : Int)] w (Mf.Went r b w (.int .i64 (Mf.sC most s).1) (Mf.sC most s).2) := by
 have HR := Lib.hid h
 obtain ⟨b0, b1, z0, z1⟩ := Mf.pair h.box
 have cu := Ty.cuint_c b s.l s.e w h.tabs h.cur (by have := h.short; omega)
 have hU := Ty.rdU_u64 s.l s.e
 have hle := Mf.rdU_le s.l s.e
 unfold Mf.sC
 generalize Ty.rdU s.l s.e = U at cu hU hle ⊢
 obtain ⟨n, l1, e1⟩ := U
 unfold Ty.U64 at hU
 simp only at cu hU hle ⊢
 have hwm : IntKind.u64.wrap (most : Int) = (most : Int) := by rw [IntKind.wrap_u64]; omega
 obtain ⟨l, e, wr⟩ := s
 simp only at b0 b1 hle HR ⊢
 clear h
 by_cases hn : most < n
 ·rw [if_pos hn]
  have hgt : (most : Int) < (n : Int) := by omega
  go_enter Tryd.func51, Tryd.ntmps51
  go_wp2_with fail
  with_reducible refine cu.mono ?_
  rintro e9 w1 ⟨rfl, hc, hg⟩
  have HR1 := Lib.hid (HR.out.moved hc hg hle)
  have HG := Lib.hid hg
  obtain ⟨c0, c1, f0, f1⟩ := Mf.pair HR1.out.box
  clear b0 b1 z0 z1 hc hg cu
  go_wp2
  go_ret
  exact ⟨rfl, HR1.out.marked true, (Mf.By2.ofB HG.out).trans (Mf.By2.set _ _ _)⟩
 ·rw [if_neg hn]
  have hgt : ¬ (most : Int) < (n : Int) := by omega
  have hwn : IntKind.i64.wrap (n : Int) = (n : Int) := by rw [IntKind.wrap_i64]; omega
  go_enter Tryd.func51, Tryd.ntmps51
  go_wp2_with fail
  with_reducible refine cu.mono ?_
  rintro e9 w1 ⟨rfl, hc, hg⟩
  have HR1 := Lib.hid (HR.out.moved hc hg hle)
  have HG := Lib.hid hg
  clear b0 b1 z0 z1 hc hg cu
  go_wp2
  go_ret
  exact ⟨rfl, HR1.out, Mf.By2.ofB HG.out⟩
def Mf.sets (q : Nat) (w : World) : List (Nat × Value) → World
 | [] => w
 | x :: L => Mf.sets q (w.setCell ⟨q, x.1, none⟩ x.2) L
theorem Mf.By2.sets {r b q : Nat} {w : World} (hq : w.heap.size ≤ q) : ∀ (L : List (Nat × Value)) {w1 : World}, Mf.By2 r b w w1 → Mf.By2 r b w (Mf.sets q w1 L)
 | [], _, g => g
 | x :: L, _, g => Mf.By2.sets hq L (g.new hq x.2)
theorem Mf.Rdr.sets {r b q : Nat} {s : Mf.St} (hr : r < q) (hb : b < q) : ∀ (L : List (Nat × Value)) {w1 : World}, Mf.Rdr r b w1 s → Mf.Rdr r b (Mf.sets q w1 L) s
 | [], _, h => h
 | x :: L, _, h => Mf.Rdr.sets hr hb L (h.other (by omega) (by omega) (by have := h.gr; omega) x.2)
set_option maxHeartbeats 2000000 in
set_option maxRecDepth 100000 in
theorem Mf.bound_c (r b : Nat) (s : Mf.St) (w : World) (h : Mf.Rdr r b w s) :
 Calls Tryd.prog 71 #[.pointer (some ⟨r, 0, none⟩)] w (Mf.Went r b w (Mf.sV s).1.val (Mf.sV s).2) := by
 have hgr : Below w.heap.size w (w.alloc (.cells #[.bool false, .int .i64 0, .string ⟨#[]⟩] 42)) := (Below.refl _ w).alloc (Nat.le_refl _) _
 have HR := Lib.hid (h.kept hgr)
 have HG := Lib.hid (Mf.By2.ofBelow (r := r) (b := b) hgr)
 have hlt := h.lt
 have HY := Lib.hid (heap_alloc_new w (.cells #[.bool false, .int .i64 0, .string ⟨#[]⟩] 42))
 obtain ⟨b0, b1, -, -⟩ := Mf.pair HR.out.box
 unfold Mf.sV Mf.sb Mf.sI Mf.sT Mf.sp Kn.V.val
 have ci := Ty.cint_c b s.l s.e _ HR.out.tabs HR.out.cur (by have := HR.out.short; omega)
 have hle := Mf.rdU_le s.l s.e
 generalize Ty.rdU s.l s.e = U at ci hle ⊢
 obtain ⟨n, l1, e1⟩ := U
 simp only at ci hle ⊢
 have hle2 := Mf.rdT_le l1 e1
 have CT := Lib.hid fun (W : World) (hw : Ty.Tabs W) (hc : Ty.Cur b W l1 e1) => Ty.ctext_c b l1 e1 64 (by omega) W hw hc (by have := h.short; omega)
 generalize Ty.rdT 64 l1 e1 = T at CT hle2 ⊢
 obtain ⟨t, l2, e2⟩ := T
 simp only at CT hle2 ⊢
 have hsh := h.short
 have hts : (Ty.S t).size ≤ 140737488355328 := by rw [Ty.size_S]; omega
 have HL2 := Lib.hid hle2.1
 clear h hgr hsh hle2
 go_enter Tryd.func71, Tryd.ntmps71
 go_wp2_with fail
 generalize hwo : World.alloc _ _ = wo at HR HG HY b0 b1 ci ⊢
 clear hwo
 with_reducible refine ci.mono ?_
 rintro e9 w1 ⟨rfl, hc, hg⟩
 have HR1 := Lib.hid (HR.out.moved hc hg hle)
 have HG1 := Lib.hid (HG.out.trans (Mf.By2.ofB hg))
 have HY1 := Lib.hid ((hg.block _ (lt_of_block HY.out) (fun e => by have := Option.some.inj e; omega)).trans HY.out)
 obtain ⟨c0, c1, -, -⟩ := Mf.pair HR1.out.box
 have ct := CT.out w1 HR1.out.tabs HR1.out.cur
 clear b0 b1 hc hg ci CT HY HG
 go_wp2_with fail
 with_reducible refine ct.mono ?_
 rintro e9 w2 ⟨rfl, hc, hg⟩
 have HR2 := Lib.hid (HR1.out.moved hc hg HL2.out)
 have HG2 := Lib.hid (HG1.out.trans (Mf.By2.ofB hg))
 have HY2 := Lib.hid ((hg.block _ (lt_of_block HY1.out) (fun e => by have := Option.some.inj e; omega)).trans HY1.out)
 clear c0 c1 hc hg ct HY1 HG1
 go_wp2_with fail
 with_reducible refine (Tx.clone_c _ w2 hts).mono ?_
 rintro e3 w3 ⟨rfl, hg3⟩
 have HR9 := Lib.hid (HR2.out.kept hg3)
 have hy3 := (hg3.block _ (lt_of_block HY2.out)).trans HY2.out
 have HG9 := Lib.hid (HG2.out.trans (Mf.By2.ofBelow hg3))
 obtain ⟨⟨q0, q1, q2⟩, f0, f1, f2⟩ := Mf.three hy3
 have HP := Lib.hid (Mf.By2.sets (q := w.heap.size) (Nat.le_refl _) [(0, .bool false), (1, .int .i64 (Ty.zag (n : Int))), (2, .string (Ty.S t))] HG9.out)
 have HQ := Lib.hid (Mf.Rdr.sets (q := w.heap.size) hlt.1 hlt.2 [(0, .bool false), (1, .int .i64 (Ty.zag (n : Int))), (2, .string (Ty.S t))] HR9.out)
 clear hg3 hy3 hts
 go_wp2
 (try simp only [Exit.inBlock, Exit.then])
 refine bodyPost_ret (v := .agg #[.bool false, .int .i64 (Ty.zag (n : Int)), .string (Ty.S t)]) ?_ rfl ⟨rfl, HQ.out, HP.out⟩
 rw [Mf.results_cell rfl]
 go_simp
end
end Go.Proofs.YteaglaijkafphaaDoor
