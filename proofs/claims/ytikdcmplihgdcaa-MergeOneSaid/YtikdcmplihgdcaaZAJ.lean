import Derived.Test.YtikdcmplihgdcaaZAD
import Derived.Test.YtikdcmplihgdcaaZAI
import Derived.Test.YtikdcmplihgdcaaZAG
import Derived.BigQuiet
import Derived.Deep.OwnRows
import Derived.Test.YtikdcmplihgdcaaZAC
import Derived.Deep.RegionLaw
import Derived.Deep.RegionLawGrows
import Derived.StillTailTactics
import Derived.Deep.RegionHeld3
import Derived.Test.YtikdcmplihgdcaaZAF
import Derived.BigRegion
namespace Go.Proofs.Ytikdcmplihgdcaa
section
open Go.RowKit
structure Sk.Off (S : Nat → Prop) (w w' : World) : Prop where
 os : w'.os = w.os
 tape : w'.tape = w.tape
 output : w'.output = w.output
 size : w.heap.size ≤ w'.heap.size
 block : ∀ k, k < w.heap.size → ¬ S k → w'.heap[k]? = w.heap[k]?
def Sk.More (S : Nat → Prop) (w w' : World) (b : Nat) : Prop := S b ∨ (w.heap.size ≤ b ∧ b < w'.heap.size)
theorem Sk.Off.refl (S : Nat → Prop) (w : World) : Sk.Off S w w := ⟨rfl, rfl, rfl, Nat.le_refl _, fun _ _ _ => rfl⟩
theorem Sk.Off.below {S : Nat → Prop} {w w' : World} (h : Sk.Off S w w') {B : Nat} (hB : B ≤ w.heap.size) (hS : ∀ b, S b → B ≤ b) : Below B w w' :=
 ⟨h.os, h.tape, h.output, h.size, fun k hk => h.block k (by omega) (fun hs => by have := hS k hs; omega)⟩
theorem Sk.Off.same {S : Nat → Prop} {w w1 w2 : World} (h : Sk.Off S w w1) (g : Sk.Off S w1 w2) : Sk.Off S w w2 :=
 ⟨g.os.trans h.os, g.tape.trans h.tape, g.output.trans h.output, Nat.le_trans h.size g.size, fun k hk hn => (g.block k (Nat.lt_of_lt_of_le hk h.size) hn).trans (h.block k hk hn)⟩
def Sk.Row (B : Nat) (w : World) (v : Value) (l : List Kn.V) : Prop := ∃ a c, v = .slice a l.length c ∧ l.length ≤ 9223372036854775807 ∧ (∀ x ∈ l, Kn.Z x) ∧ (l = [] ∨ ∃ b o, a = some ⟨b, o, none⟩ ∧ b < B ∧ b < w.heap.size ∧ ∀ i x, l[i]? = some x → Kn.At w b (o + i * 3) x)
theorem Sk.At_below {B : Nat} {w w' : World} {b o : Nat} {v : Kn.V} (h : Kn.At w b o v) (hb : b < B) (g : Below B w w') : Kn.At w' b o v :=
 ⟨(g.cell (p := ⟨b, o, none⟩) hb).trans h.c0, (g.cell (p := ⟨b, o + 1, none⟩) hb).trans h.c1, (g.cell (p := ⟨b, o + 2, none⟩) hb).trans h.c2⟩
theorem Sk.Row.below {B : Nat} {w w' : World} {v : Value} {l : List Kn.V} (h : Sk.Row B w v l) (g : Below B w w') : Sk.Row B w' v l := by
 obtain ⟨a, c, hv, hm, hz, h⟩ := h
 refine ⟨a, c, hv, hm, hz, ?_⟩
 rcases h with h | ⟨b, o, ha, hb, hl, h⟩
 ·exact .inl h
 ·exact .inr ⟨b, o, ha, hb, Nat.lt_of_lt_of_le hl g.size, fun i x hx => Sk.At_below (h i x hx) hb g⟩
theorem Sk.Row.vals {B : Nat} {w : World} {v : Value} {l : List Kn.V} (h : Sk.Row B w v l) : Kn.Vals w v l := by
 obtain ⟨a, c, hv, hm, _, h⟩ := h
 refine ⟨a, c, hv, ?_⟩
 rcases h with h | ⟨b, o, ha, _, hl, h⟩
 ·exact .inl h
 ·exact .inr ⟨b, o, ha, hl, hm, h⟩
structure Sk.E where
 gone : Bool
 rv : Value
 row : List Kn.V
def Sk.E.enc (x : Sk.E) : List Value := [.bool x.gone, x.rv]
def Sk.E.d (x : Sk.E) : Dd.D := ⟨x.gone, x.row⟩
def Sk.kd (d : Dd.D) : Kn.V := d.row.headD ⟨true, 0, ⟨#[]⟩⟩
def Sk.ke (x : Sk.E) : Kn.V := Sk.kd x.d
theorem Sk.enc_len (x : Sk.E) : x.enc.length = 2 := rfl
structure Sk.RL (S : Nat → Prop) (B : Nat) (w : World) (p : Nat) (v : Value) (L : List Sk.E) : Prop where
 blk : w.heap[p]? = some (.cells #[v] 52 (0, 0))
 own : Dk.Own 41 2 Sk.E.enc 0 w v L
 ownS : ∀ b, v.ownBlock = some b → S b
 mine : S p
 alive : ∀ b, S b → b < w.heap.size
 from_ : ∀ b, S b → B ≤ b
 rows : ∀ x ∈ L, Sk.Row B w x.rv x.row ∧ x.row ≠ []
theorem Sk.RL.same {S : Nat → Prop} {B : Nat} {w w' : World} {p : Nat} {v : Value} {L : List Sk.E} (h : Sk.RL S B w p v L) (hs : w.heap.size ≤ w'.heap.size) (g : ∀ b, S b → w'.heap[b]? = w.heap[b]?) (gb : Below B w w') : Sk.RL S B w' p v L :=
 ⟨(g p h.mine).trans h.blk, h.own.same fun b hb => g b (h.ownS b hb), h.ownS, h.mine, fun b hb => Nat.lt_of_lt_of_le (h.alive b hb) hs, h.from_, fun x hx => ⟨(h.rows x hx).1.below gb, (h.rows x hx).2⟩⟩
theorem Sk.RL.le {S : Nat → Prop} {B : Nat} {w : World} {p : Nat} {v : Value} {L : List Sk.E} (h : Sk.RL S B w p v L) : B ≤ w.heap.size := by
 have := h.from_ p h.mine
 have := h.alive p h.mine
 omega
theorem Sk.RL.kept {S : Nat → Prop} {B : Nat} {w w' : World} {p : Nat} {v : Value} {L : List Sk.E} (h : Sk.RL S B w p v L) (g : Below w.heap.size w w') : Sk.RL S B w' p v L :=
 h.same g.size (fun b hb => g.block b (h.alive b hb)) (g.mono h.le)
structure Sk.Cell (w : World) (g i : Nat) (x : Sk.E) (rb ro rn rc : Nat) : Prop where
 c : w.cell? ⟨g, i * 2 + 1, none⟩ = some (.slice (some ⟨rb, ro, none⟩) rn rc)
 c0 : w.cell? ⟨g, i * 2, none⟩ = some (.bool x.gone)
 k : Kn.At w rb ro (Sk.ke x)
 pos : 0 < rn
 rv : x.rv = .slice (some ⟨rb, ro, none⟩) rn rc
theorem Sk.RL.cell {S : Nat → Prop} {B : Nat} {w : World} {p : Nat} {v : Value} {L : List Sk.E} (h : Sk.RL S B w p v L) {i : Nat} {x : Sk.E} (hx : L[i]? = some x) :
 ∃ g c rb ro rn rc, v = .slice (some ⟨g, 0, none⟩) L.length c ∧ Sk.Cell w g i x rb ro rn rc ∧ Kn.Z (Sk.ke x) := by
 obtain ⟨⟨ra, rc, hrv, hrm, hrz, hr⟩, hne⟩ := h.rows x (List.mem_of_getElem? hx)
 rcases hr with hr | ⟨rb, ro, rfl, _, _, hr⟩
 ·exact absurd hr hne
 ·rcases h.own.form with ⟨_, rfl⟩ | ⟨g, c, rfl, _⟩
  ·cases hx
  ·have h0 := h.own.cell Sk.enc_len (g := g) rfl hx (j := 0) (by decide)
   have h1 := h.own.cell Sk.enc_len (g := g) rfl hx (j := 1) (by decide)
   obtain ⟨k, r, hk⟩ : ∃ k r, x.row = k :: r := List.exists_cons_of_ne_nil hne
   have hke : Sk.ke x = k := by unfold Sk.ke Sk.kd Sk.E.d; rw [hk]; rfl
   refine ⟨g, c, rb, ro, x.row.length, rc, rfl, ⟨?_, ?_, ?_, List.length_pos_iff.2 hne, hrv⟩, ?_⟩
   ·rw [← hrv]; exact h1
   ·exact h0
   ·rw [hke]
    have := hr 0 k (by rw [hk]; rfl)
    simpa using this
   ·rw [hke]
    exact hrz k (by rw [hk]; exact List.mem_cons_self)
theorem Sk.RL.slice {S : Nat → Prop} {B : Nat} {w : World} {p : Nat} {v : Value} {L : List Sk.E} (h : Sk.RL S B w p v L) : ∃ a c, v = .slice a L.length c := by
 rcases h.own.form with ⟨rfl, rfl⟩ | ⟨g, c, rfl, _⟩
 ·exact ⟨none, 0, rfl⟩
 ·exact ⟨_, c, rfl⟩
set_option maxHeartbeats 4000000 in
set_option maxRecDepth 100000 in
theorem Sk.place_c {S : Nat → Prop} {B : Nat} {w : World} {p : Nat} {v : Value} {L : List Sk.E} (h : Sk.RL S B w p v L) (k : Kn.V) (hk : Kn.Z k) (hl : L.length ≤ 1000000) :
 Calls Try.prog 38 #[.pointer (some ⟨p, 0, none⟩), k.val] w fun e w' => e = .returned (.tuple #[.int .i64 ((Sk.at_ Sk.ke L k : Nat) : Int), .bool (Sk.there Sk.ke L k)]) ∧ Below w.heap.size w w' := by
 obtain ⟨wb, hwb⟩ : ∃ wb, wb = w.alloc (.cells #[.bool k.null, .int .i64 k.n, .string k.s] 37) := ⟨_, rfl⟩
 have hb0 : Below w.heap.size w wb := by rw [hwb]; exact (Below.refl _ w).alloc (Nat.le_refl _) _
 have hkk : Kn.At wb w.heap.size 0 k := by rw [hwb]; exact Kn.At.new w k _
 have hsb : w.heap.size < wb.heap.size := by rw [hwb, World.size_alloc]; omega
 have hR := h.kept hb0
 obtain ⟨a, c, hv⟩ := h.slice
 have HK : Hid (∀ W, Below wb.heap.size wb W → W.cell? ⟨p, 0, none⟩ = some (.slice a L.length c) ∧ Kn.At W w.heap.size 0 k) := Lib.hid fun W g => by
  have h2 := hR.kept g
  refine ⟨?_, hkk.later g⟩
  rw [cell_of_row W p _ _ _ _ h2.blk, hv]
  rfl
 have HX : Hid (∀ W i x, Below wb.heap.size wb W → L[i]? = some x → ∃ g rb ro rn rc, a = some ⟨g, 0, none⟩ ∧ Sk.Cell W g i x rb ro rn rc ∧ Kn.Z (Sk.ke x)) := Lib.hid fun W i x g hx => by
  obtain ⟨g', c', rb, ro, rn, rc, e, hc, hz⟩ := (hR.kept g).cell hx
  rw [hv] at e
  simp only [Value.slice.injEq, true_and] at e
  exact ⟨g', rb, ro, rn, rc, e.1, hc, hz⟩
 have HLT : Hid (∀ i x, i ≤ Sk.at_ Sk.ke L k → L[i]? = some x → Kn.cmp (Sk.ke x) k < 0 → i + 1 ≤ Sk.at_ Sk.ke L k) := Lib.hid fun i x hi hx hc => by
  rcases Nat.lt_or_ge i (Sk.at_ Sk.ke L k) with h1 | h1
  ·exact h1
  ·obtain rfl : i = Sk.at_ Sk.ke L k := by omega
   exact absurd hc (Sk.at_ge hx)
 have HGE : Hid (∀ i x, i ≤ Sk.at_ Sk.ke L k → L[i]? = some x → 0 ≤ Kn.cmp (Sk.ke x) k → Sk.at_ Sk.ke L k = i ∧ Sk.there Sk.ke L k = !decide (Kn.cmp k (Sk.ke x) < 0)) := Lib.hid fun i x hi hx hc => by
  have e : Sk.at_ Sk.ke L k = i := by
   rcases Nat.lt_or_ge i (Sk.at_ Sk.ke L k) with h1 | h1
   ·exact absurd (Sk.at_lt h1 hx) (by omega)
   ·omega
  refine ⟨e, ?_⟩
  unfold Sk.there
  rw [e, hx]
 have HEND : Hid (∀ i, i ≤ Sk.at_ Sk.ke L k → i = L.length → Sk.at_ Sk.ke L k = i ∧ Sk.there Sk.ke L k = false) := Lib.hid fun i hi hil => by
  have := Sk.at_le (key := Sk.ke) L k
  have e : Sk.at_ Sk.ke L k = i := by omega
  refine ⟨e, ?_⟩
  unfold Sk.there
  rw [e, List.getElem?_eq_none (by omega)]
 have HB0 := Lib.hid hb0
 have HKZ := Lib.hid hk
 have HSB := Lib.hid hsb
 have hli : (L.length : Int) ≤ 1000000 := by omega
 generalize Sk.at_ Sk.ke L k = A at HLT HGE HEND ⊢
 generalize Sk.there Sk.ke L k = TH at HGE HEND ⊢
 obtain ⟨bk, hbk⟩ : ∃ bk, bk = w.heap.size := ⟨_, rfl⟩
 clear h hR hv hb0 hkk hsb hk hl
 go_enter Try.func38, Try.ntmps38
 go_wp2_with fail
 rw [← hwb]
 clear hwb
 go_loopw [6] (fun iv wr => ∃ i : Nat, i ≤ A ∧ i ≤ L.length ∧ iv = .int .i64 i ∧ Below wb.heap.size wb wr) (fun iv _ => L.length - (intOf iv).toNat)
 case atStart => exact ⟨0, Nat.zero_le _, Nat.zero_le _, rfl, Below.refl _ _⟩
 case round =>
  obtain ⟨i, hi, hil, rfl, hB⟩ := hrel
  have HB := Lib.hid hB
  have hi0 : (0 : Int) ≤ (i : Int) := by omega
  obtain ⟨c0, ⟨k0, k1, k2⟩⟩ := HK.out wr hB
  by_cases hlt : i < L.length
  ·obtain ⟨x, hx⟩ : ∃ x, L[i]? = some x := ⟨_, List.getElem?_eq_getElem hlt⟩
   obtain ⟨g, rb, ro, rn, rc, rfl, ⟨hc, _, ⟨x0, x1, x2⟩, hpos, _⟩, hz⟩ := HX.out wr i x hB hx
   have hii : (i : Int) < (L.length : Int) := by omega
   have hrp : (0 : Int) < (rn : Int) := by omega
   have ca := Kn.rAhead_c (Sk.ke x) k hz HKZ.out
   have cb := Kn.rAhead_c k (Sk.ke x) HKZ.out hz
   have HLT' : Hid (Kn.cmp (Sk.ke x) k < 0 → i + 1 ≤ A) := Lib.hid fun hc => HLT.out i x hi hx hc
   have HGE' : Hid (0 ≤ Kn.cmp (Sk.ke x) k → A = i ∧ TH = !decide (Kn.cmp k (Sk.ke x) < 0)) := Lib.hid fun hc => HGE.out i x hi hx hc
   have HX' : Hid (∀ W, Below wb.heap.size wb W → ∃ rb ro rn rc, Sk.Cell W g i x rb ro rn rc) := Lib.hid fun W gW => by
    obtain ⟨g', rb', ro', rn', rc', e, hc', _⟩ := HX.out W i x gW hx
    simp only [Option.some.injEq, Addr.mk.injEq, and_true] at e
    subst e
    exact ⟨rb', ro', rn', rc', hc'⟩
   unfold Kn.V.val at ca cb
   by_cases hcmp : Kn.cmp (Sk.ke x) k < 0
   ·rw [decide_eq_true hcmp] at ca
    have hnext := HLT'.out hcmp
    have E1 := fun d os => cell_regrown c0 d os
    have E2 := fun d os => cell_regrown hc d os
    have E3 := fun d os => cell_regrown x0 d os
    have E4 := fun d os => cell_regrown x1 d os
    have E5 := fun d os => cell_regrown x2 d os
    have E6 := fun d os => cell_regrown k0 d os
    have E7 := fun d os => cell_regrown k1 d os
    have E8 := fun d os => cell_regrown k2 d os
    have CA : Hid (∀ p : Regrown, _) := Lib.hid fun p : Regrown => Calls.regrown_of (d := p.d) (os := p.os) (w := wr) (ca _)
    clear ca cb hcmp hB HLT' HGE' HLT HGE HEND hz hx HX
    go_wp2_with fail
    refine wp_region_quiet_below (by kernel_rfl) (by kernel_rfl) ?_
    repeat (go_big_quiet_step (exact CA.out _))
    refine wpQuiet_nil ?_
    intro wq hw'
    have hbq : Below wr.heap.size wr wq := by
     obtain ⟨q, rfl⟩ := hw'
     exact below_regrown wr q.d q.os
    have HBQ := Lib.hid (HB.out.trans (hbq.mono HB.out.size))
    clear hw' hbq E1 E2 E3 E4 E5 E6 E7 E8 CA
    go_wp2
    go_roundw
    case rel => exact ⟨i + 1, hnext, by omega, by simp, HBQ.out⟩
    case measure => simp [intOf]; omega
   ·rw [decide_eq_false hcmp] at ca
    obtain ⟨hA, hTH⟩ := HGE'.out (by omega)
    have E1 := fun d os => cell_regrown c0 d os
    have E2 := fun d os => cell_regrown hc d os
    have E3 := fun d os => cell_regrown x0 d os
    have E4 := fun d os => cell_regrown x1 d os
    have E5 := fun d os => cell_regrown x2 d os
    have E6 := fun d os => cell_regrown k0 d os
    have E7 := fun d os => cell_regrown k1 d os
    have E8 := fun d os => cell_regrown k2 d os
    have CA : Hid (∀ p : Regrown, _) := Lib.hid fun p : Regrown => Calls.regrown_of (d := p.d) (os := p.os) (w := wr) (ca _)
    have CB := Lib.hid cb
    have HAT := Lib.hid (And.intro hA hTH)
    clear ca cb hcmp hB HLT' HGE' HLT HGE HEND hz hx HX hA hTH
    go_wp2_with fail
    refine wp_region_quiet_below (by kernel_rfl) (by kernel_rfl) ?_
    repeat (go_big_quiet_step (exact CA.out _))
    refine wpQuiet_nil ?_
    intro wq hw'
    have hbq : Below wr.heap.size wr wq := by
     obtain ⟨q, rfl⟩ := hw'
     exact below_regrown wr q.d q.os
    have HBQ := Lib.hid (HB.out.trans (hbq.mono HB.out.size))
    clear hw' hbq E1 E2 E3 E4 E5 E6 E7 E8 CA c0 hc x0 x1 x2 k0 k1 k2
    obtain ⟨c0, ⟨k0, k1, k2⟩⟩ := HK.out wq HBQ.out
    obtain ⟨rb, ro, rn, rc, ⟨hc, _, ⟨x0, x1, x2⟩, hpos, _⟩⟩ := HX'.out wq HBQ.out
    have hrp : (0 : Int) < (rn : Int) := by omega
    have E1 := fun d os => cell_regrown c0 d os
    have E2 := fun d os => cell_regrown hc d os
    have E3 := fun d os => cell_regrown x0 d os
    have E4 := fun d os => cell_regrown x1 d os
    have E5 := fun d os => cell_regrown x2 d os
    have E6 := fun d os => cell_regrown k0 d os
    have E7 := fun d os => cell_regrown k1 d os
    have E8 := fun d os => cell_regrown k2 d os
    have CA : Hid (∀ p : Regrown, _) := Lib.hid fun p : Regrown => Calls.regrown_of (d := p.d) (os := p.os) (w := wq) (CB.out _)
    clear HX' CB
    go_wp2_with fail
    refine wp_region_quiet_below (by kernel_rfl) (by kernel_rfl) ?_
    repeat (go_big_quiet_step (exact CA.out _))
    refine wpQuiet_nil ?_
    intro wz hw'
    have hbq : Below wq.heap.size wq wz := by
     obtain ⟨q, rfl⟩ := hw'
     exact below_regrown wq q.d q.os
    have HBZ := Lib.hid (HBQ.out.trans (hbq.mono HBQ.out.size))
    clear hw' hbq E1 E2 E3 E4 E5 E6 E7 E8 CA c0 hc x0 x1 x2 k0 k1 k2
    go_wp2
    go_ret2
    exact ⟨by rw [HAT.out.1, HAT.out.2]; rfl, HB0.out.trans (HBZ.out.mono (Nat.le_of_lt HSB.out))⟩
  ·obtain rfl : i = L.length := by omega
   have hii : ¬ (L.length : Int) < (L.length : Int) := by omega
   obtain ⟨hA, hTH⟩ := HEND.out _ hi rfl
   have HAT := Lib.hid (And.intro hA hTH)
   have E1 := fun d os => cell_regrown c0 d os
   clear hA hTH HLT HGE HEND HX hlt hB
   go_wp2_with fail
   refine wp_region_quiet_below (by kernel_rfl) (by kernel_rfl) ?_
   repeat (go_big_quiet_step (fail))
   refine wpQuiet_nil ?_
   intro wq hw'
   have hbq : Below wr.heap.size wr wq := by
    obtain ⟨q, rfl⟩ := hw'
    exact below_regrown wr q.d q.os
   have HBQ := Lib.hid (HB.out.trans (hbq.mono HB.out.size))
   clear hw' hbq E1 c0 k0 k1 k2
   obtain ⟨c0, _⟩ := HK.out wq HBQ.out
   have E1 := fun d os => cell_regrown c0 d os
   go_wp2_with fail
   refine wp_region_quiet_below (by kernel_rfl) (by kernel_rfl) ?_
   repeat (go_big_quiet_step (fail))
   refine wpQuiet_nil ?_
   intro wz hw'
   have hbq : Below wq.heap.size wq wz := by
    obtain ⟨q, rfl⟩ := hw'
    exact below_regrown wq q.d q.os
   have HBZ := Lib.hid (HBQ.out.trans (hbq.mono HBQ.out.size))
   clear hw' hbq E1 c0
   go_wp2
   go_ret2
   exact ⟨by rw [HAT.out.1, HAT.out.2]; rfl, HB0.out.trans (HBZ.out.mono (Nat.le_of_lt HSB.out))⟩
end
section
open Go Go.RowKit
structure Sk.Nd where
 b : Nat
 gone : Bool
 rv : Value
 row : List Kn.V
 num : Nat
 h : Nat
def Sk.Nd.d (x : Sk.Nd) : Dd.D := ⟨x.gone, x.row⟩
def Sk.kn (x : Sk.Nd) : Kn.V := Sk.kd x.d
def Sk.Nd.up (x : Sk.Nd) (i : Nat) : Sk.Nd := { x with h := i }
def Sk.pt (o : Option Nat) : Value := .pointer (o.map fun b => ⟨b, 0, none⟩)
def Sk.lnk (i : Nat) : List Sk.Nd → Option Nat
 | [] => none
 | x :: r => if i < x.h then some x.b else Sk.lnk i r
def Sk.Nd.f (x : Sk.Nd) (r : List Sk.Nd) (j : Nat) : Value :=
 if j = 0 then .bool x.gone else if j = 1 then x.rv else if j = 2 then .int .i64 (x.num : Int) else if j - 3 < x.h then Sk.pt (Sk.lnk (j - 3) r) else .pointer none
def Sk.hf (st c b : Value) (N : List Sk.Nd) (j : Nat) : Value := if j < 12 then Sk.pt (Sk.lnk j N) else if j = 12 then st else if j = 13 then c else b
def Sk.lst (i : Nat) : Nat × Nat → List Sk.Nd → Nat × Nat
 | q, [] => q
 | q, x :: r => Sk.lst i (if i < x.h then (x.b, 3) else q) r
theorem Sk.first (i : Nat) (L : List Sk.Nd) : (Sk.lnk i L = none ∧ ∀ c ∈ L, c.h ≤ i) ∨ ∃ A x B, L = A ++ x :: B ∧ (∀ c ∈ A, c.h ≤ i) ∧ i < x.h ∧ Sk.lnk i L = some x.b := by
 induction L with
 | nil => exact .inl ⟨rfl, fun c hc => (by cases hc)⟩
 | cons y L ih =>
   by_cases hy : i < y.h
   ·exact .inr ⟨[], y, L, rfl, fun c hc => (by cases hc), hy, by rw [Sk.lnk, if_pos hy]⟩
   ·rcases ih with ⟨h1, h2⟩ | ⟨A, x, B, rfl, h2, h3, h4⟩
    ·refine .inl ⟨by rw [Sk.lnk, if_neg hy, h1], fun c hc => ?_⟩
     rcases List.mem_cons.1 hc with rfl | hc
     ·omega
     ·exact h2 c hc
    ·refine .inr ⟨y :: A, x, B, rfl, fun c hc => ?_, h3, by rw [Sk.lnk, if_neg hy, h4]⟩
     rcases List.mem_cons.1 hc with rfl | hc
     ·omega
     ·exact h2 c hc
section
variable {w : World}
end
def Sk.rest (p : Nat) (N : List Sk.Nd) (v : Value) : Nat := match v with
 | .pointer (some a) => if a.block = p then N.length else go a.block N
 | _ => 0
where go (b : Nat) : List Sk.Nd → Nat
 | [] => 0
 | x :: r => if x.b = b then r.length else go b r
end
section
open Go Go.RowKit
def Sk.ve (v : Kn.V) : List Value := [.bool v.null, .int .i64 v.n, .string v.s]
theorem Sk.ve_len (v : Kn.V) : (Sk.ve v).length = 3 := rfl
theorem Sk.ve_one (v : Kn.V) : ∀ u ∈ Sk.ve v, u.oneCell' = true := fun u hu => by
 simp only [Sk.ve, List.mem_cons, List.not_mem_nil, or_false] at hu
 rcases hu with rfl | rfl | rfl <;> rfl
def Sk.In (w : World) (v : Value) (l : List Kn.V) : Prop := ∃ a c, v = .slice a l.length c ∧ (∀ x ∈ l, Kn.Z x) ∧ l.length ≤ 4398046511104 ∧ ((a = none ∧ c = 0 ∧ l = []) ∨ ∃ b o, a = some ⟨b, o, none⟩ ∧ b < w.heap.size ∧ ∀ i x, l[i]? = some x → Kn.At w b (o + i * 3) x)
theorem Sk.In.later {w w' : World} {v : Value} {l : List Kn.V} (h : Sk.In w v l) (g : Below w.heap.size w w') : Sk.In w' v l := by
 obtain ⟨a, c, hv, hz, hl, h⟩ := h
 refine ⟨a, c, hv, hz, hl, ?_⟩
 rcases h with h | ⟨b, o, ha, hb, h⟩
 ·exact .inl h
 ·exact .inr ⟨b, o, ha, Nat.lt_of_lt_of_le hb g.size, fun i x hx => (h i x hx).later g⟩
abbrev Sk.Rw (base : Nat) (w : World) (v : Value) (l : List Kn.V) : Prop := Dk.Own 37 3 Sk.ve base w v l
theorem Sk.results_cell {fn : Func} {p : Tmp} {ty : TypeId} (h : fn.results = #[.cell p ty]) (tmps : Array Value) (P : Program) (w : World) :
 (results fn tmps).run P w = ((asAddr (tmps.getD p undef)).run P w).andThen fun a w1 => (loadVar ty a).run P w1 := by
 simp only [results, h]
 simp [Sem.run_bind, Result.andThen]
theorem Sk.Rw.put {base q i : Nat} {w : World} {v u : Value} {l : List Kn.V} (h : Sk.Rw base w v l) (hq : q < base) : Sk.Rw base (w.setCell ⟨q, i, none⟩ u) v l :=
 h.same fun b hb => Below.heap_setCell _ _ _ _ (by have := h.base_le b hb; show b ≠ q; omega)
theorem Sk.Rw.mono {base base' : Nat} {w : World} {v : Value} {l : List Kn.V} (h : Sk.Rw base w v l) (hb : base' ≤ base) : Sk.Rw base' w v l := by
 refine ⟨h.1, ?_⟩
 rcases h.2 with hn | ⟨g, cap, cur, e1, hbg, rest⟩
 ·exact .inl hn
 ·exact .inr ⟨g, cap, cur, e1, Nat.le_trans hb hbg, rest⟩
end
section
open Go Go.RowKit
def Mg.ep (x : Mg.It) : List Value := [.pointer (some ⟨x.b, 0, none⟩)]
theorem Mg.ep_len (x : Mg.It) : (Mg.ep x).length = 1 := rfl
theorem Mg.ep_one (x : Mg.It) : ∀ u ∈ Mg.ep x, u.oneCell' = true := fun u hu => by
 obtain rfl : u = .pointer (some ⟨x.b, 0, none⟩) := by simpa [Mg.ep] using hu
 rfl
theorem Mg.infoP : (Try.prog.info? 62).map (fun i => (i.zero, i.size, i.bytes)) = some (some (.pointer none), 1, 8) := by kernel_rfl
structure Mg.Ok (w0 : World) (x : Mg.It) : Prop where
 ds : Bk.Ds w0 (Bk.sv x.r) x.L
 ne : x.L ≠ []
 rows : ∀ d ∈ x.L, d.row ≠ []
def Mg.sc (x : Mg.It) : Array Value := #[Bk.sv x.r, .int .i64 (x.age : Int)]
structure Mg.Hq (w0 w : World) (q : Nat) (v : Value) (H : List Mg.It) : Prop where
 c : w.heap[q]? = some (.cells #[v] 61)
 own : Dk.Own 62 1 Mg.ep w0.heap.size w v H
 src : ∀ x ∈ H, w.heap[x.b]? = some (.cells (Mg.sc x) 64) ∧ w0.heap.size ≤ x.b
 ok : ∀ x ∈ H, Mg.Ok w0 x
 nb : (H.map Mg.It.b).Nodup
 lo : w0.heap.size ≤ q
 bw : Below w0.heap.size w0 w
structure Mg.Tf (w w' : World) : Prop where
 os : w'.os = w.os
 tape : w'.tape = w.tape
 output : w'.output = w.output
 size : w.heap.size ≤ w'.heap.size
 same : ∀ (b : Nat) (cs : Array Value) (t : TypeId) (f : Nat × Nat), w.heap[b]? = some (.cells cs t f) → t ≠ 62 → t ≠ 61 → t ≠ 64 → w'.heap[b]? = some (.cells cs t f)
theorem Mg.Tf.refl (w : World) : Mg.Tf w w := ⟨rfl, rfl, rfl, Nat.le_refl _, fun _ _ _ _ h _ _ _ => h⟩
theorem Mg.Tf.trans {w w1 w2 : World} (h : Mg.Tf w w1) (g : Mg.Tf w1 w2) : Mg.Tf w w2 :=
 ⟨g.os.trans h.os, g.tape.trans h.tape, g.output.trans h.output, Nat.le_trans h.size g.size, fun b cs t f hb h1 h2 h3 => g.same b cs t f (h.same b cs t f hb h1 h2 h3) h1 h2 h3⟩
theorem Mg.Tf.below {w w' : World} (h : Below w.heap.size w w') : Mg.Tf w w' :=
 ⟨h.os, h.tape, h.output, h.size, fun b _ _ _ hb _ _ _ => (h.block b (Array.getElem?_eq_some_iff.1 hb).1).trans hb⟩
theorem Mg.Tf.set {w : World} {g : Nat} {cs : Array Value} {t : TypeId} {f : Nat × Nat} (hg : w.heap[g]? = some (.cells cs t f)) (ht : t = 62 ∨ t = 61 ∨ t = 64) (i : Nat) (u : Value) : Mg.Tf w (w.setCell ⟨g, i, none⟩ u) :=
 ⟨rfl, rfl, rfl, by simp [World.setCell], fun b cs2 t2 f2 hb h1 h2 h3 => by
  have hne : g ≠ b := fun e => by
   subst e
   rw [hg] at hb
   simp only [Option.some.injEq, Obj.cells.injEq] at hb
   obtain ⟨_, rfl, _⟩ := hb
   rcases ht with ht | ht | ht
   ·exact h1 ht
   ·exact h2 ht
   ·exact h3 ht
  exact (Below.heap_setCell _ _ _ _ (Ne.symm hne)).trans hb⟩
theorem Mg.Tf.own {α : Type} {e : TypeId} {k : Nat} {enc : α → List Value} {base : Nat} {w w' : World} {v : Value} {L : List α} (h : Dk.Own e k enc base w v L) (g : Mg.Tf w w') (h1 : e ≠ 62) (h2 : e ≠ 61) (h3 : e ≠ 64) : Dk.Own e k enc base w' v L :=
 h.same fun b hb => by
  obtain ⟨cs, hc⟩ := h.typed b hb
  rw [g.same b cs e _ hc h1 h2 h3, hc]
theorem Mg.Hq.kept {w0 w w' : World} {q : Nat} {v : Value} {H : List Mg.It} (h : Mg.Hq w0 w q v H) (g : Below w.heap.size w w') : Mg.Hq w0 w' q v H :=
 ⟨(g.block q (Array.getElem?_eq_some_iff.1 h.c).1).trans h.c, h.own.kept g, fun x hx => ⟨(g.block x.b (Array.getElem?_eq_some_iff.1 (h.src x hx).1).1).trans (h.src x hx).1, (h.src x hx).2⟩, h.ok, h.nb, h.lo, h.bw.trans (g.mono h.bw.size)⟩
theorem Mg.Hq.grew {w0 w w' : World} {q : Nat} {v u u' : Value} {H : List Mg.It} (h : Mg.Hq w0 w q v H) (g : Ty.Grew w w' u u') {e : TypeId} (ht : ∀ b, u.ownBlock = some b → w0.heap.size ≤ b ∧ ∃ cs : Array Value, w.heap[b]? = some (.cells cs e (0, 0))) (h1 : e ≠ 62) (h2 : e ≠ 61) (h3 : e ≠ 64) : Mg.Hq w0 w' q v H := by
 have key : ∀ (b : Nat) (cs : Array Value) (t : TypeId), w.heap[b]? = some (.cells cs t (0, 0)) → t ≠ e → w'.heap[b]? = some (.cells cs t (0, 0)) := fun b cs t hb hne =>
  (g.by_.block b (Array.getElem?_eq_some_iff.1 hb).1 fun e' => by
   obtain ⟨_, cs2, h2⟩ := ht b e'.symm
   rw [hb] at h2
   simp only [Option.some.injEq, Obj.cells.injEq] at h2
   exact hne h2.2.1).trans hb
 exact ⟨key q _ _ h.c (Ne.symm h2), h.own.same fun b hb => by
  obtain ⟨cs, hc⟩ := h.own.typed b hb
  rw [key b cs _ hc (Ne.symm h1), hc], fun x hx => ⟨key x.b _ _ (h.src x hx).1 (Ne.symm h3), (h.src x hx).2⟩, h.ok, h.nb, h.lo, h.bw.trans (g.below h.bw.size fun b hb => (ht b hb).1)⟩
theorem Mg.m_len {w : World} {q : Nat} {v : Value} (h : w.cell? ⟨q, 0, none⟩ = some v) (n : Nat) : (method (n + 1) 45 (.pointer (some ⟨q, 0, none⟩)) "Len").run Try.prog w = .ok (23, v) w := by
 have e : (method (n + 1) 45 (.pointer (some ⟨q, 0, none⟩)) "Len").run Try.prog w = (Sem.load .plain ⟨q, 0, none⟩ fun v => Sem.pure (23, v)).run Try.prog w := by kernel_rfl
 rw [e]
 simp only [Sem.run, h]
theorem Mg.m_less {w : World} {q : Nat} {v : Value} (h : w.cell? ⟨q, 0, none⟩ = some v) (n : Nat) : (method (n + 1) 45 (.pointer (some ⟨q, 0, none⟩)) "Less").run Try.prog w = .ok (62, v) w := by
 have e : (method (n + 1) 45 (.pointer (some ⟨q, 0, none⟩)) "Less").run Try.prog w = (Sem.load .plain ⟨q, 0, none⟩ fun v => Sem.pure (62, v)).run Try.prog w := by kernel_rfl
 rw [e]
 simp only [Sem.run, h]
theorem Mg.m_swap {w : World} {q : Nat} {v : Value} (h : w.cell? ⟨q, 0, none⟩ = some v) (n : Nat) : (method (n + 1) 45 (.pointer (some ⟨q, 0, none⟩)) "Swap").run Try.prog w = .ok (65, v) w := by
 have e : (method (n + 1) 45 (.pointer (some ⟨q, 0, none⟩)) "Swap").run Try.prog w = (Sem.load .plain ⟨q, 0, none⟩ fun v => Sem.pure (65, v)).run Try.prog w := by kernel_rfl
 rw [e]
 simp only [Sem.run, h]
theorem Mg.m_push (w : World) (q n : Nat) : (method (n + 1) 45 (.pointer (some ⟨q, 0, none⟩)) "Push").run Try.prog w = .ok (64, .pointer (some ⟨q, 0, none⟩)) w := rfl
theorem Mg.m_pop (w : World) (q n : Nat) : (method (n + 1) 45 (.pointer (some ⟨q, 0, none⟩)) "Pop").run Try.prog w = .ok (63, .pointer (some ⟨q, 0, none⟩)) w := rfl
set_option maxRecDepth 100000 in
theorem Mg.len_c (a : Option Addr) (n c : Nat) (w : World) : Calls Try.prog 23 #[.slice a n c] w fun e w' => e = .returned (.int .i64 n) ∧ w' = w := by
 go_enter Try.func23, Try.ntmps23
 go_wp2
 go_ret
 exact ⟨rfl, rfl⟩
set_option maxRecDepth 100000 in
theorem Mg.isNaN_c (a : Int) (w : World) : Calls Try.prog 68 #[.int .i64 a] w fun e w' => e = .returned (.bool false) ∧ w' = w := by
 go_enter Try.func68, Try.ntmps68
 go_wp2
 go_ret
 exact ⟨rfl, rfl⟩
set_option maxRecDepth 100000 in
theorem Mg.cmpn_c (a b : Int) (w : World) : Calls Try.prog 67 #[.int .i64 a, .int .i64 b] w fun e w' => e = .returned (.int .i64 (Kn.ncmp a b)) ∧ w' = w := by
 have hc : (a < b ∧ Kn.ncmp a b = -1) ∨ (¬ a < b ∧ b < a ∧ Kn.ncmp a b = 1) ∨ (¬ a < b ∧ ¬ b < a ∧ Kn.ncmp a b = 0) := by unfold Kn.ncmp; repeat' split <;> omega
 rcases hc with ⟨h1, h⟩ | ⟨h1, h2, h⟩ | ⟨h1, h2, h⟩
 all_goals
  rw [h]
  go_enter Try.func67, Try.ntmps67
  go_wp2_with fail
  refine (Mg.isNaN_c _ _).mono ?_
  rintro e w1 ⟨rfl, rfl⟩
  go_wp2_with fail
  refine (Mg.isNaN_c _ _).mono ?_
  rintro e w1 ⟨rfl, rfl⟩
  go_wp2
  go_ret
  exact ⟨rfl, rfl⟩
end
section
open Go Go.RowKit
theorem Mg.Hq.head {w0 w : World} {x : Mg.It} (ok : Mg.Ok w0 x) (hb : Below w0.heap.size w0 w) : ∃ d t b1 o1 c1 b2 o2 n2 c2, x.L = d :: t ∧ x.r = (some ⟨b1, o1, none⟩, x.L.length, c1) ∧ w.cell? ⟨b1, o1, none⟩ = some (.bool d.gone) ∧ w.cell? ⟨b1, o1 + 1, none⟩ = some (.slice (some ⟨b2, o2, none⟩) n2 c2) ∧ 0 < n2 ∧ Kn.At w b2 o2 (Mg.hk x) ∧ Kn.Vals w0 (.slice (some ⟨b2, o2, none⟩) n2 c2) d.row ∧ x.L.length ≤ c1 ∧ c1 ≤ 9223372036854775807 := by
 obtain ⟨⟨a, c, e, h1, h2, h⟩, hne, hrows⟩ := ok
 obtain ⟨d, t, hL⟩ := List.exists_cons_of_ne_nil hne
 rcases h with h | ⟨b, o, rfl, hlt, hc⟩
 ·exact absurd h hne
 obtain ⟨u, c0, c1, hu⟩ := hc 0 d (by rw [hL]; rfl)
 rw [Nat.zero_mul, Nat.add_zero] at c0 c1
 have hrow := hrows d (by rw [hL]; exact List.mem_cons_self)
 have hk := Rn.key_at hrow
 have hu2 := hu
 obtain ⟨a2, n2, hv, _⟩ := hu
 subst hv
 obtain ⟨_, b2, o2, ha, hb2, hat⟩ := Rn.row_at hu2 hk
 subst ha
 rw [Nat.zero_mul, Nat.add_zero] at hat
 generalize x.r = r at e ⊢
 obtain ⟨ra, rn, rc⟩ := r
 simp only [Bk.sv, Value.slice.injEq] at e
 obtain ⟨rfl, rfl, rfl⟩ := e
 refine ⟨d, t, b, o, rc, b2, o2, _, _, hL, rfl, (hb.cell (p := ⟨b, o, none⟩) hlt).trans c0, (hb.cell (p := ⟨b, o + 1, none⟩) hlt).trans c1, List.length_pos_iff.2 hrow, ?_, hu2, h1, h2⟩
 have e : Mg.hk x = Bk.key d := by unfold Mg.hk; rw [hL]; rfl
 rw [e]
 exact hat.later hb
theorem Mg.src_cells {w : World} {x : Mg.It} (hs : w.heap[x.b]? = some (.cells (Mg.sc x) 64)) : w.cell? ⟨x.b, 0, none⟩ = some (Bk.sv x.r) ∧ w.cell? ⟨x.b, 1, none⟩ = some (.int .i64 (x.age : Int)) := by
 unfold World.cell?
 simp only [hs]
 exact ⟨rfl, rfl⟩
set_option maxHeartbeats 1000000 in
set_option maxRecDepth 100000 in
theorem Mg.key_c {w0 w : World} {x : Mg.It} (hs : w.heap[x.b]? = some (.cells (Mg.sc x) 64)) (ok : Mg.Ok w0 x) (hb : Below w0.heap.size w0 w) :
 Calls Try.prog 66 #[.pointer (some ⟨x.b, 0, none⟩)] w fun e w' => e = .returned (Mg.hk x).val ∧ Below w.heap.size w w' := by
 obtain ⟨d, t, b1, o1, c1, b2, o2, n2, c2, hL, hr, e0, e1, hn, hat, hv, hlc, hcm⟩ := Mg.Hq.head ok hb
 obtain ⟨f0, f1⟩ := Mg.src_cells hs
 have g0 : Below w.heap.size w (w.alloc (.cells #[.bool false, .int .i64 0, .string ⟨#[]⟩] 37)) := (Below.refl _ w).alloc (Nat.le_refl _) _
 have hl1 : (0 : Int) < (x.L.length : Int) := by rw [hL]; simp only [List.length_cons]; omega
 have hn1 : (0 : Int) < (n2 : Int) := by omega
 generalize x.L.length = n1 at hr hl1
 obtain ⟨a0, a1, a2⟩ := hat
 rw [hr] at f0
 simp only [Bk.sv] at f0
 have lt : ∀ {p : Addr} {v : Value}, w.cell? p = some v → (w.alloc (.cells #[.bool false, .int .i64 0, .string ⟨#[]⟩] 37)).cell? p = some v := fun {p v} h => (g0.cell (World.block_lt_of_cell? w _ h)).trans h
 have f0 := lt f0
 have e1 := lt e1
 have a0 := lt a0
 have a1 := lt a1
 have a2 := lt a2
 generalize Mg.hk x = y at a0 a1 a2 ⊢
 obtain ⟨yn, yi, ys⟩ := y
 simp only at a0 a1 a2
 unfold Kn.V.val
 clear hs ok hb hL hr e0 hn hv hlc hcm f1 lt
 go_enter Try.func66, Try.ntmps66
 go_wp2
 (try simp only [Exit.inBlock, Exit.then])
 refine bodyPost_ret (v := .agg #[.bool yn, .int .i64 yi, .string ys]) ?_ rfl ⟨rfl, (Below.refl _ w).alloc (Nat.le_refl _) _⟩
 rw [Sk.results_cell rfl]
 go_simp
theorem Mg.swap_own {base g i j n c : Nat} {w : World} {H : List Mg.It} {x y : Mg.It} (h : Dk.Own 62 1 Mg.ep base w (.slice (some ⟨g, 0, none⟩) n c) H) (hi : H[i]? = some x) (hj : H[j]? = some y) :
 Dk.Own 62 1 Mg.ep base ((w.setCell ⟨g, i, none⟩ (.pointer (some ⟨y.b, 0, none⟩))).setCell ⟨g, j, none⟩ (.pointer (some ⟨x.b, 0, none⟩))) (.slice (some ⟨g, 0, none⟩) n c) (Mh.sw H i j x y) := by
 have h1 := h.set Mg.ep_len (g := g) rfl (j := 0) hi (by decide) (.pointer (some ⟨y.b, 0, none⟩)) y rfl
 have h2 := h1.set Mg.ep_len (g := g) rfl (i := j) (j := 0) (x := if i = j then y else y) (by
  rw [List.getElem?_set]
  by_cases e : i = j
  ·rw [if_pos e, if_pos e, if_pos (List.getElem?_eq_some_iff.1 hi).1]
  ·rw [if_neg e, if_neg e]; exact hj) (by decide) (.pointer (some ⟨x.b, 0, none⟩)) x rfl
 rw [Nat.mul_one, Nat.add_zero, Nat.mul_one, Nat.add_zero] at h2
 exact h2
theorem Mg.cell_set (w : World) (g i j : Nat) (u : Value) {v : Value} (h : w.cell? ⟨g, j, none⟩ = some v) (e : i = j → u = v) : (w.setCell ⟨g, i, none⟩ u).cell? ⟨g, j, none⟩ = some v := by
 by_cases hij : i = j
 ·subst hij
  obtain rfl := e rfl
  exact World.cell?_setCell_same w _ _ h
 ·rw [World.cell?_setCell_other w _ _ _ (fun e2 => hij (congrArg Addr.off e2))]; exact h
set_option maxHeartbeats 1000000 in
set_option maxRecDepth 100000 in
theorem Mg.swap_c {base i j : Nat} {w : World} {v : Value} {H : List Mg.It} {x y : Mg.It} (h : Dk.Own 62 1 Mg.ep base w v H) (hi : H[i]? = some x) (hj : H[j]? = some y) (hm : H.length ≤ 17592186044416) :
 Calls Try.prog 65 #[v, .int .i64 i, .int .i64 j] w fun e w' => (∃ r, e = .returned r) ∧ Dk.Own 62 1 Mg.ep base w' v (Mh.sw H i j x y) ∧ ∃ g u1 u2, v.ownBlock = some g ∧ w' = ((w.setCell ⟨g, i, none⟩ u1).setCell ⟨g, j, none⟩ u2).drew := by
 have hil := (List.getElem?_eq_some_iff.1 hi).1
 have hjl := (List.getElem?_eq_some_iff.1 hj).1
 rcases h.form with ⟨_, rfl⟩ | ⟨g, c, rfl, hlc, hcm, _, _⟩
 ·simp at hil
 have e0 : w.cell? ⟨g, i, none⟩ = some (.pointer (some ⟨x.b, 0, none⟩)) := by have := h.cell Mg.ep_len (g := g) rfl hi (j := 0) (by decide); rwa [Nat.mul_one, Nat.add_zero] at this
 have e1 : w.cell? ⟨g, j, none⟩ = some (.pointer (some ⟨y.b, 0, none⟩)) := by have := h.cell Mg.ep_len (g := g) rfl hj (j := 0) (by decide); rwa [Nat.mul_one, Nat.add_zero] at this
 have f0 : w.frozen? ⟨g, i, none⟩ = false := World.ownsRow.frozenAt h i
 have f1 : w.frozen? ⟨g, j, none⟩ = false := World.ownsRow.frozenAt h j
 have exy : i = j → x = y := fun e => by subst e; rw [hi] at hj; simpa using hj
 have e2 := Mg.cell_set w g i j (.pointer (some ⟨y.b, 0, none⟩)) e1 fun _ => rfl
 have e3 := Mg.cell_set w g j i (.pointer (some ⟨x.b, 0, none⟩)) e0 fun _ => rfl
 have f2 : (w.setCell ⟨g, i, none⟩ (.pointer (some ⟨y.b, 0, none⟩))).frozen? ⟨g, j, none⟩ = false := World.ownsRow.frozenAt (World.ownsRow.stored h i _).1 j
 have f3 : (w.setCell ⟨g, j, none⟩ (.pointer (some ⟨x.b, 0, none⟩))).frozen? ⟨g, i, none⟩ = false := World.ownsRow.frozenAt (World.ownsRow.stored h j _).1 i
 have HS := Lib.hid (Mg.swap_own h hi hj)
 have di : (i : Int) < (H.length : Int) := by omega
 have dj : (j : Int) < (H.length : Int) := by omega
 have di0 : (0 : Int) ≤ (i : Int) := by omega
 have dj0 : (0 : Int) ≤ (j : Int) := by omega
 have dm : (H.length : Int) ≤ 17592186044416 := by omega
 clear h hi hj hm hil hjl hlc hcm exy
 go_enter Try.func65, Try.ntmps65
 go_wp2_with fail
 go_region
 all_goals go_wp2
 all_goals (try simp only [Exit.inBlock, Exit.then])
 all_goals first | refine bodyPost_ret (results_none rfl _ _ _) rfl ?_ | refine bodyPost_end (results_none rfl _ _ _) rfl ?_
 all_goals exact ⟨⟨_, rfl⟩, World.ownsRow.drew HS.out, g, _, _, rfl, rfl⟩
theorem Mg.new2 (w : World) (x y : Value) (t : TypeId) : (w.alloc (.cells #[x, y] t)).cell? ⟨w.heap.size, 0, none⟩ = some x ∧ (w.alloc (.cells #[x, y] t)).cell? ⟨w.heap.size, 1, none⟩ = some y := by
 have h := heap_alloc_new w (.cells #[x, y] t)
 unfold World.cell?
 simp only [h]
 exact ⟨rfl, rfl⟩
theorem Mg.lt_or (x y : Mg.It) : decide (Kn.or2 (Kn.cmp (Mg.hk x) (Mg.hk y)) (Kn.ncmp (x.age : Int) (y.age : Int)) < 0) = Mg.lt x y := by
 unfold Mg.lt Mg.od Kn.or2 Kn.ncmp
 congr 1
 by_cases h : Kn.cmp (Mg.hk x) (Mg.hk y) = 0
 ·simp only [h, if_true, eq_iff_iff]
  repeat' split
  all_goals omega
 ·simp only [h, if_false]
set_option maxHeartbeats 4000000 in
set_option maxRecDepth 100000 in
theorem Mg.less_c {w0 w : World} {q : Nat} {v : Value} {H : List Mg.It} {i j : Nat} {x y : Mg.It} (h : Mg.Hq w0 w q v H) (hi : H[i]? = some x) (hj : H[j]? = some y) (hm : H.length ≤ 17592186044416) :
 Calls Try.prog 62 #[v, .int .i64 i, .int .i64 j] w fun e w' => e = .returned (.bool (Mg.lt x y)) ∧ Below w.heap.size w w' := by
 have hx := List.mem_of_getElem? hi
 have hy := List.mem_of_getElem? hj
 have CX := Lib.hid fun (W : World) (g : Below w.heap.size w W) => Mg.key_c ((g.block x.b (Array.getElem?_eq_some_iff.1 (h.src x hx).1).1).trans (h.src x hx).1) (h.ok x hx) (h.bw.trans (g.mono h.bw.size))
 have CY := Lib.hid fun (W : World) (g : Below w.heap.size w W) => Mg.key_c ((g.block y.b (Array.getElem?_eq_some_iff.1 (h.src y hy).1).1).trans (h.src y hy).1) (h.ok y hy) (h.bw.trans (g.mono h.bw.size))
 have ax := (Mg.src_cells (h.src x hx).1).2
 have ay := (Mg.src_cells (h.src y hy).1).2
 have hil := (List.getElem?_eq_some_iff.1 hi).1
 have hjl := (List.getElem?_eq_some_iff.1 hj).1
 have ho := h.own
 rcases ho.form with ⟨_, rfl⟩ | ⟨g, c, rfl, hlc, hcm, _, _⟩
 ·simp at hil
 have e0 : w.cell? ⟨g, i, none⟩ = some (.pointer (some ⟨x.b, 0, none⟩)) := by have := ho.cell Mg.ep_len (g := g) rfl hi (j := 0) (by decide); rwa [Nat.mul_one, Nat.add_zero] at this
 have e1 : w.cell? ⟨g, j, none⟩ = some (.pointer (some ⟨y.b, 0, none⟩)) := by have := ho.cell Mg.ep_len (g := g) rfl hj (j := 0) (by decide); rwa [Nat.mul_one, Nat.add_zero] at this
 have HLT := Lib.hid (Mg.lt_or x y)
 have di : (i : Int) < (H.length : Int) := by omega
 have dj : (j : Int) < (H.length : Int) := by omega
 have di0 : (0 : Int) ≤ (i : Int) := by omega
 have dj0 : (0 : Int) ≤ (j : Int) := by omega
 have dm : (H.length : Int) ≤ 17592186044416 := by omega
 clear h hi hj hm hil hjl hlc hcm ho hx hy
 go_enter Try.func62, Try.ntmps62
 go_wp2_with fail
 go_quiet (fail)
 have HG3 : Hid (Below w.heap.size w (w.drewN nq)) := Lib.hid (Bt.drewN_below _ _)
 generalize w.drewN nq = w3 at HG3 ⊢
 have LT : Hid (∀ W, Below w3.heap.size w3 W → W.cell? ⟨x.b, 1, none⟩ = some (.int .i64 (x.age : Int)) ∧ W.cell? ⟨y.b, 1, none⟩ = some (.int .i64 (y.age : Int))) := Lib.hid fun W g => by
  have g2 := HG3.out.trans (g.mono HG3.out.size)
  exact ⟨(g2.cell (p := ⟨x.b, 1, none⟩) (World.block_lt_of_cell? w _ ax)).trans ax, (g2.cell (p := ⟨y.b, 1, none⟩) (World.block_lt_of_cell? w _ ay)).trans ay⟩
 have KX := Lib.hid fun (W : World) (g : Below w3.heap.size w3 W) => CX.out W (HG3.out.trans (g.mono HG3.out.size))
 have KY := Lib.hid fun (W : World) (g : Below w3.heap.size w3 W) => CY.out W (HG3.out.trans (g.mono HG3.out.size))
 have HD : Hid (Below w3.heap.size w3 w3.drew) := Lib.hid (Below.refl _ w3).drew
 clear e0 e1 ax ay CX CY di dj di0 dj0 dm
 go_upto_region 2 with (fail)
 generalize Mg.hk x = kx at KX HLT
 generalize Mg.hk y = ky at KY HLT
 have HOR := Lib.hid fun (W : World) (b : Nat) (h0 : W.cell? ⟨b, 0, none⟩ = some (.int .i64 (Kn.cmp kx ky))) (h1 : W.cell? ⟨b, 1, none⟩ = some (.int .i64 (Kn.ncmp (x.age : Int) (y.age : Int)))) => Kn.or_c b _ _ W h0 h1
 go_region_held3 (fun W => W.cell? ⟨x.b, 1, none⟩ = some (.int .i64 (x.age : Int)) ∧ W.cell? ⟨y.b, 1, none⟩ = some (.int .i64 (y.age : Int)))
  (first
  | exact LT.out _ HD.out
  | exact LT.out _ HB1.out
  | exact LT.out _ HB2.out
  | exact LT.out _ HB3.out
  | exact LT.out _ (HB3.out.alloc HB3.out.size _))
  (first
  | (go_at_call 25; (with_reducible refine (Kn.compare_c kx ky _).mono ?_); rintro e w7 ⟨rfl, g7⟩; have HB3 := Lib.hid (HB2.out.trans (g7.mono HB2.out.size)); clear g7)
  | (go_at_call 67; (with_reducible refine (Mg.cmpn_c _ _ _).mono ?_); rintro e w9 ⟨rfl, rfl⟩)
  | (go_at_call 66; (with_reducible refine (KX.out _ HD.out).mono ?_); rintro e w7 ⟨rfl, g7⟩; have HB1 := Lib.hid (HD.out.trans (g7.mono HD.out.size)); clear g7)
  | (go_at_call 66; (with_reducible refine (KY.out _ HB1.out).mono ?_); rintro e w7 ⟨rfl, g7⟩; have HB2 := Lib.hid (HB1.out.trans (g7.mono HB1.out.size)); clear g7)
  | (go_at_call 35; (with_reducible refine (HOR.out _ _ (Mg.new2 _ _ _ _).1 (Mg.new2 _ _ _ _).2).mono ?_); rintro e w9 ⟨rfl, rfl⟩))
 rw [HLT.out]
 go_wp2
 go_ret
 exact ⟨rfl, (HG3.out.trans (HB3.out.mono HG3.out.size)).alloc (Nat.le_trans HG3.out.size HB3.out.size) _⟩
end
section
open Go Go.RowKit
theorem Mg.Hq.cell {w0 w : World} {q : Nat} {v : Value} {H : List Mg.It} (h : Mg.Hq w0 w q v H) : w.cell? ⟨q, 0, none⟩ = some v := by
 unfold World.cell?
 simp only [h.c]
 rfl
theorem Mg.Hq.perm {w0 w : World} {q : Nat} {v : Value} {H H' : List Mg.It} (h : Mg.Hq w0 w q v H) (p : H'.Perm H) (ho : Dk.Own 62 1 Mg.ep w0.heap.size w v H') : Mg.Hq w0 w q v H' :=
 ⟨h.c, ho, fun x hx => h.src x (p.mem_iff.1 hx), fun x hx => h.ok x (p.mem_iff.1 hx), (p.map Mg.It.b).nodup_iff.2 h.nb, h.lo, h.bw⟩
theorem Mg.Hq.swap {w0 w w' : World} {q g i j : Nat} {v u1 u2 : Value} {H : List Mg.It} {x y : Mg.It} (h : Mg.Hq w0 w q v H) (hi : H[i]? = some x) (hj : H[j]? = some y) (ho : Dk.Own 62 1 Mg.ep w0.heap.size w' v (Mh.sw H i j x y)) (hg : v.ownBlock = some g) (hw : w' = ((w.setCell ⟨g, i, none⟩ u1).setCell ⟨g, j, none⟩ u2).drew) : Mg.Hq w0 w' q v (Mh.sw H i j x y) ∧ Mg.Tf w w' := by
 obtain ⟨cs, hc⟩ := h.own.typed g hg
 have key : ∀ (b : Nat) (cs2 : Array Value) (t : TypeId), w.heap[b]? = some (.cells cs2 t) → t ≠ 62 → w'.heap[b]? = some (.cells cs2 t) := fun b cs2 t hb ht => by
  have hne : b ≠ g := fun e => by
   subst e
   rw [hc] at hb
   simp only [Option.some.injEq, Obj.cells.injEq] at hb
   exact ht hb.2.1.symm
  rw [hw]
  show ((w.setCell ⟨g, i, none⟩ u1).setCell ⟨g, j, none⟩ u2).heap[b]? = _
  rw [Below.heap_setCell _ _ _ _ hne, Below.heap_setCell _ _ _ _ hne, hb]
 have p : (Mh.sw H i j x y).Perm H := Mh.sw_perm hi hj
 have hge := h.own.base_le g hg
 refine ⟨⟨key q _ _ h.c (by decide), ho, fun z hz => ⟨key z.b _ _ (h.src z (p.mem_iff.1 hz)).1 (by decide), (h.src z (p.mem_iff.1 hz)).2⟩, fun z hz => h.ok z (p.mem_iff.1 hz), (p.map Mg.It.b).nodup_iff.2 h.nb, h.lo, ?_⟩, ?_⟩
 ·rw [hw]
  exact ((h.bw.setCell hge _).setCell hge _).drew
 ·have t1 := Mg.Tf.set hc (.inl rfl) i u1
  have hc2 : ∃ cs2, (w.setCell ⟨g, i, none⟩ u1).heap[g]? = some (.cells cs2 62) := ⟨_, heap_setCell_same w g i _ _ u1 hc⟩
  obtain ⟨cs2, hc2⟩ := hc2
  rw [hw]
  exact (t1.trans (Mg.Tf.set hc2 (.inl rfl) j u2)).trans ⟨rfl, rfl, rfl, Nat.le_refl _, fun _ _ _ _ h _ _ _ => h⟩
theorem Mg.swp_c {w0 w : World} {q i j : Nat} {v : Value} {H : List Mg.It} {x y : Mg.It} (h : Mg.Hq w0 w q v H) (hi : H[i]? = some x) (hj : H[j]? = some y) (hm : H.length ≤ 17592186044416) :
 Calls Try.prog 65 #[v, .int .i64 i, .int .i64 j] w fun e w' => (∃ r, e = .returned r) ∧ Mg.Hq w0 w' q v (Mh.sw H i j x y) ∧ Mg.Tf w w' :=
 (Mg.swap_c h.own hi hj hm).mono fun _ _ ⟨h1, h2, _, _, _, h3, h4⟩ => ⟨h1, h.swap hi hj h2 h3 h4⟩
set_option maxHeartbeats 4000000 in
set_option maxRecDepth 100000 in
theorem Mg.down_c {w0 w : World} {q n i0 : Nat} {v : Value} {H : List Mg.It} (h : Mg.Hq w0 w q v H) (hd : Mh.Dn Mg.lt n i0 i0 H) (hn : n ≤ H.length) (hi0 : i0 ≤ 17592186044416) (hm : H.length ≤ 17592186044416) :
 Calls Try.prog 42 #[.iface 45 (.pointer (some ⟨q, 0, none⟩)), .int .i64 i0, .int .i64 n] w fun e w' => (∃ r, e = .returned r) ∧ ∃ H', H'.Perm H ∧ Mh.Hp Mg.lt n i0 H' ∧ (∀ k, n ≤ k → H'[k]? = H[k]?) ∧ Mg.Hq w0 w' q v H' ∧ Mg.Tf w w' := by
 have HST := Lib.hid (And.intro h hd)
 have HN := Lib.hid (And.intro hn (And.intro hi0 hm))
 clear h hd hn hi0 hm
 go_enter Try.func42, Try.ntmps42
 go_wp2_with fail
 go_loopw [7] (fun iv wr => ∃ (i : Nat) (G : List Mg.It), iv = .int .i64 i ∧ i0 ≤ i ∧ (i = i0 ∨ i < n) ∧ G.Perm H ∧ Mh.Dn Mg.lt n i0 i G ∧ (∀ k, n ≤ k → G[k]? = H[k]?) ∧ Mg.Hq w0 wr q v G ∧ Mg.Tf w wr) (fun iv _ => n - (intOf iv).toNat)
 case atStart => exact ⟨i0, H, rfl, Nat.le_refl _, .inl rfl, List.Perm.refl _, HST.out.2, fun _ _ => rfl, HST.out.1, Mg.Tf.refl _⟩
 case round =>
  obtain ⟨i, G, rfl, hlo, hhi, hp, hdn, hbe, hq, htf⟩ := hrel
  have HQ := Lib.hid hq
  have HD := Lib.hid hdn
  have HR := Lib.hid (And.intro hlo (And.intro hhi (And.intro hp (And.intro hbe htf))))
  have hgl : G.length = H.length := hp.length_eq
  have hc := hq.cell
  have hi0 : (0 : Int) ≤ (i : Int) := by omega
  have him : (i : Int) ≤ 17592186044416 := by have := HN.out; omega
  have hnm : (n : Int) ≤ 17592186044416 := by have := HN.out; omega
  obtain ⟨J, hJ⟩ : ∃ J : Nat, J = 2 * i + 1 := ⟨_, rfl⟩
  have hJi : 2 * (i : Int) + 1 = (J : Int) := by omega
  have hJm : (J : Int) ≤ 35184372088833 := by omega
  have HG := Lib.hid hgl
  clear HST hdn hlo hhi hp hbe htf hq hgl
  by_cases hl : ¬ J < n
  ·have hl1 : (n : Int) ≤ (J : Int) := by omega
   have HE : Hid (Mh.Hp Mg.lt n i0 G) := Lib.hid (HD.out.leaf (by omega))
   clear hJ hl
   go_wp2
   go_ret
   exact ⟨⟨_, rfl⟩, G, HR.out.2.2.1, HE.out, HR.out.2.2.2.1, HQ.out, HR.out.2.2.2.2⟩
  have hl := Decidable.not_not.1 hl
  have hl1 : ¬ (n : Int) ≤ (J : Int) := by omega
  have hl0 : ¬ (J : Int) < 0 := by omega
  have HJ := Lib.hid (And.intro hJ hl)
  have HGM : Hid (G.length ≤ 17592186044416) := Lib.hid (by have := HG.out; have := HN.out; omega)
  have hxx : ∃ x, G[i]? = some x := ⟨_, List.getElem?_eq_getElem (by have := HN.out; have := HG.out; omega)⟩
  obtain ⟨x, hx⟩ := hxx
  have haa : ∃ a, G[J]? = some a := ⟨_, List.getElem?_eq_getElem (by have := HN.out; have := HG.out; omega)⟩
  obtain ⟨a, ha⟩ := haa
  have HX := Lib.hid hx
  have HA := Lib.hid ha
  clear hJ hl hx ha
  by_cases hl2 : J + 1 < n
  ·obtain ⟨c2, hc2⟩ : ∃ c2 : Nat, c2 = J + 1 := ⟨_, rfl⟩
   have hc2i : (J : Int) + 1 = (c2 : Int) := by omega
   have hl3 : (c2 : Int) < (n : Int) := by omega
   have hbb : ∃ b, G[c2]? = some b := ⟨_, List.getElem?_eq_getElem (by have := HN.out; have := HG.out; omega)⟩
   obtain ⟨b, hb⟩ := hbb
   have HB := Lib.hid hb
   have HC2 := Lib.hid (And.intro hc2 hl2)
   have ml := Mg.m_less hc
   clear hb hl2 hc2
   go_wp2_with fail
   refine (Mg.less_c HQ.out HB.out HA.out HGM.out).mono ?_
   rintro e w1 ⟨rfl, g1⟩
   have HQ1 := Lib.hid (HQ.out.kept g1)
   have HT1 := Lib.hid (HR.out.2.2.2.2.trans (Mg.Tf.below g1))
   clear g1 ml hc
   cases hba : Mg.lt b a
   ·have HK : Hid (Mh.Kid Mg.lt n i J G) := Lib.hid (by
     have h1 := HC2.out
     have h2 := HJ.out
     obtain ⟨rfl, h3⟩ := h1
     obtain ⟨rfl, h4⟩ := h2
     exact Mh.kid_left Mg.ord h3 HA.out HB.out hba)
    clear hba
    have HLT : Hid (J < n ∧ i < J) := Lib.hid ⟨HK.out.1, by have := HK.out.2.1; omega⟩
    have ml2 := Mg.m_less HQ1.out.cell
    go_wp2_with fail
    refine (Mg.less_c HQ1.out HA.out HX.out HGM.out).mono ?_
    rintro e w2 ⟨rfl, g2⟩
    have HQ2 := Lib.hid (HQ1.out.kept g2)
    have HT2 := Lib.hid (HT1.out.trans (Mg.Tf.below g2))
    clear g2 ml2
    cases hyx : Mg.lt a x
    ·have HE := Lib.hid (HD.out.stop Mg.ord HK.out HX.out HA.out hyx)
     clear hyx
     go_wp2
     go_ret
     exact ⟨⟨_, rfl⟩, G, HR.out.2.2.1, HE.out, HR.out.2.2.2.1, HQ2.out, HT2.out⟩
    ·have HE := Lib.hid (HD.out.next Mg.ord HK.out HX.out HA.out hyx HR.out.1)
     have ms := Mg.m_swap HQ2.out.cell
     clear hyx
     go_wp2_with fail
     refine (Mg.swp_c HQ2.out HX.out HA.out HGM.out).mono ?_
     rintro e w3 ⟨⟨r, rfl⟩, hq3, t3⟩
     have HQ3 := Lib.hid hq3
     have HT3 := Lib.hid (HT2.out.trans t3)
     have HBE : Hid (∀ k, n ≤ k → (Mh.sw G i J x a)[k]? = H[k]?) := Lib.hid fun k hk => by
      rw [Mh.sw_at HX.out HA.out, if_neg (by have := HLT.out; omega), if_neg (by have := HLT.out; omega)]
      exact HR.out.2.2.2.1 k hk
     clear hq3 t3 ms
     go_wp2
     go_roundw
     case rel => exact ⟨J, Mh.sw G i J x a, rfl, by have := HR.out.1; have := HLT.out; omega, .inr HLT.out.1, (Mh.sw_perm HX.out HA.out).trans HR.out.2.2.1, HE.out, HBE.out, HQ3.out, HT3.out⟩
     case measure => (have := HLT.out; simp [intOf]; omega)
   ·have HK : Hid (Mh.Kid Mg.lt n i c2 G) := Lib.hid (by
     have h1 := HC2.out
     have h2 := HJ.out
     obtain ⟨rfl, h3⟩ := h1
     obtain ⟨rfl, h4⟩ := h2
     exact Mh.kid_right Mg.ord h3 HA.out HB.out hba)
    clear hba
    have HLT : Hid (c2 < n ∧ i < c2) := Lib.hid ⟨HK.out.1, by have := HK.out.2.1; omega⟩
    have ml2 := Mg.m_less HQ1.out.cell
    go_wp2_with fail
    refine (Mg.less_c HQ1.out HB.out HX.out HGM.out).mono ?_
    rintro e w2 ⟨rfl, g2⟩
    have HQ2 := Lib.hid (HQ1.out.kept g2)
    have HT2 := Lib.hid (HT1.out.trans (Mg.Tf.below g2))
    clear g2 ml2
    cases hyx : Mg.lt b x
    ·have HE := Lib.hid (HD.out.stop Mg.ord HK.out HX.out HB.out hyx)
     clear hyx
     go_wp2
     go_ret
     exact ⟨⟨_, rfl⟩, G, HR.out.2.2.1, HE.out, HR.out.2.2.2.1, HQ2.out, HT2.out⟩
    ·have HE := Lib.hid (HD.out.next Mg.ord HK.out HX.out HB.out hyx HR.out.1)
     have ms := Mg.m_swap HQ2.out.cell
     clear hyx
     go_wp2_with fail
     refine (Mg.swp_c HQ2.out HX.out HB.out HGM.out).mono ?_
     rintro e w3 ⟨⟨r, rfl⟩, hq3, t3⟩
     have HQ3 := Lib.hid hq3
     have HT3 := Lib.hid (HT2.out.trans t3)
     have HBE : Hid (∀ k, n ≤ k → (Mh.sw G i c2 x b)[k]? = H[k]?) := Lib.hid fun k hk => by
      rw [Mh.sw_at HX.out HB.out, if_neg (by have := HLT.out; omega), if_neg (by have := HLT.out; omega)]
      exact HR.out.2.2.2.1 k hk
     clear hq3 t3 ms
     go_wp2
     go_roundw
     case rel => exact ⟨c2, Mh.sw G i c2 x b, rfl, by have := HR.out.1; have := HLT.out; omega, .inr HLT.out.1, (Mh.sw_perm HX.out HB.out).trans HR.out.2.2.1, HE.out, HBE.out, HQ3.out, HT3.out⟩
     case measure => (have := HLT.out; simp [intOf]; omega)
  ·have HK : Hid (Mh.Kid Mg.lt n i J G) := Lib.hid (by
    obtain ⟨rfl, h4⟩ := HJ.out
    exact Mh.kid_one Mg.ord h4 hl2)
   have HQ1 := HQ
   have HT1 := Lib.hid HR.out.2.2.2.2
   have hl3 : ¬ (J : Int) + 1 < (n : Int) := by omega
   clear hl2 hc
   have HLT : Hid (J < n ∧ i < J) := Lib.hid ⟨HK.out.1, by have := HK.out.2.1; omega⟩
   have ml2 := Mg.m_less HQ1.out.cell
   go_wp2_with fail
   refine (Mg.less_c HQ1.out HA.out HX.out HGM.out).mono ?_
   rintro e w2 ⟨rfl, g2⟩
   have HQ2 := Lib.hid (HQ1.out.kept g2)
   have HT2 := Lib.hid (HT1.out.trans (Mg.Tf.below g2))
   clear g2 ml2
   cases hyx : Mg.lt a x
   ·have HE := Lib.hid (HD.out.stop Mg.ord HK.out HX.out HA.out hyx)
    clear hyx
    go_wp2
    go_ret
    exact ⟨⟨_, rfl⟩, G, HR.out.2.2.1, HE.out, HR.out.2.2.2.1, HQ2.out, HT2.out⟩
   ·have HE := Lib.hid (HD.out.next Mg.ord HK.out HX.out HA.out hyx HR.out.1)
    have ms := Mg.m_swap HQ2.out.cell
    clear hyx
    go_wp2_with fail
    refine (Mg.swp_c HQ2.out HX.out HA.out HGM.out).mono ?_
    rintro e w3 ⟨⟨r, rfl⟩, hq3, t3⟩
    have HQ3 := Lib.hid hq3
    have HT3 := Lib.hid (HT2.out.trans t3)
    have HBE : Hid (∀ k, n ≤ k → (Mh.sw G i J x a)[k]? = H[k]?) := Lib.hid fun k hk => by
     rw [Mh.sw_at HX.out HA.out, if_neg (by have := HLT.out; omega), if_neg (by have := HLT.out; omega)]
     exact HR.out.2.2.2.1 k hk
    clear hq3 t3 ms
    go_wp2
    go_roundw
    case rel => exact ⟨J, Mh.sw G i J x a, rfl, by have := HR.out.1; have := HLT.out; omega, .inr HLT.out.1, (Mh.sw_perm HX.out HA.out).trans HR.out.2.2.1, HE.out, HBE.out, HQ3.out, HT3.out⟩
    case measure => (have := HLT.out; simp [intOf]; omega)
end
end Go.Proofs.Ytikdcmplihgdcaa
