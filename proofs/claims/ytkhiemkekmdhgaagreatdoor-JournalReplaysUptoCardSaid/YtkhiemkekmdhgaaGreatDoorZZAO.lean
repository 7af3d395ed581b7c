import Derived.Test.YtkhiemkekmdhgaaGreatDoorZZAM
namespace Go.Proofs.YtkhiemkekmdhgaaGreatDoor
open Go.RowKit
def Jn.Row (P : Nat → Prop) (w : World) (v : Value) (l : List Kn.V) : Prop := ∃ a c, v = .slice a l.length c ∧ l.length ≤ 9223372036854775807 ∧ (∀ x ∈ l, Kn.Z x) ∧ (l = [] ∨ ∃ b o, a = some ⟨b, o, none⟩ ∧ P b ∧ b < w.heap.size ∧ ∀ i x, l[i]? = some x → Kn.At w b (o + i * 3) x)
theorem Jn.Row.same {P : Nat → Prop} {w w' : World} {v : Value} {l : List Kn.V} (h : Jn.Row P w v l) (hs : w.heap.size ≤ w'.heap.size) (g : ∀ b, P b → b < w.heap.size → w'.heap[b]? = w.heap[b]?) : Jn.Row P w' v l := by
 obtain ⟨a, c, hv, hm, hz, h⟩ := h
 refine ⟨a, c, hv, hm, hz, ?_⟩
 rcases h with h | ⟨b, o, ha, hb, hl, h⟩
 ·exact .inl h
 ·have e := g b hb hl
  exact .inr ⟨b, o, ha, hb, Nat.lt_of_lt_of_le hl hs, fun i x hx => ⟨(World.cell?_of_block e).trans (h i x hx).c0, (World.cell?_of_block e).trans (h i x hx).c1, (World.cell?_of_block e).trans (h i x hx).c2⟩⟩
theorem Jn.Row.imp {P P' : Nat → Prop} {w : World} {v : Value} {l : List Kn.V} (h : Jn.Row P w v l) (g : ∀ b, P b → P' b) : Jn.Row P' w v l := by
 obtain ⟨a, c, hv, hm, hz, h⟩ := h
 refine ⟨a, c, hv, hm, hz, ?_⟩
 rcases h with h | ⟨b, o, ha, hb, hl, h⟩
 ·exact .inl h
 ·exact .inr ⟨b, o, ha, g b hb, hl, h⟩
theorem Jn.Row.vals {P : Nat → Prop} {w : World} {v : Value} {l : List Kn.V} (h : Jn.Row P w v l) : Kn.Vals w v l := by
 obtain ⟨a, c, hv, hm, _, h⟩ := h
 refine ⟨a, c, hv, ?_⟩
 rcases h with h | ⟨b, o, ha, _, hl, h⟩
 ·exact .inl h
 ·exact .inr ⟨b, o, ha, hl, hm, h⟩
structure Jn.RL (S : Nat → Prop) (P : Nat → Prop) (w : World) (p : Nat) (v : Value) (L : List Sk.E) : Prop where
 blk : w.heap[p]? = some (.cells #[v] 68 (0, 0))
 own : Dk.Own 26 2 Sk.E.enc 0 w v L
 ownS : ∀ b, v.ownBlock = some b → S b
 mine : S p
 alive : ∀ b, S b → b < w.heap.size
 from_ : ∀ b, S b → ¬ P b
 rows : ∀ x ∈ L, Jn.Row P w x.rv x.row ∧ x.row ≠ []
theorem Jn.RL.same {S : Nat → Prop} {P : Nat → Prop} {w w' : World} {p : Nat} {v : Value} {L : List Sk.E} (h : Jn.RL S P w p v L) (hs : w.heap.size ≤ w'.heap.size) (g : ∀ b, S b → w'.heap[b]? = w.heap[b]?) (gb : ∀ b, P b → b < w.heap.size → w'.heap[b]? = w.heap[b]?) : Jn.RL S P w' p v L :=
 ⟨(g p h.mine).trans h.blk, h.own.same fun b hb => g b (h.ownS b hb), h.ownS, h.mine, fun b hb => Nat.lt_of_lt_of_le (h.alive b hb) hs, h.from_, fun x hx => ⟨(h.rows x hx).1.same hs gb, (h.rows x hx).2⟩⟩
theorem Jn.RL.kept {S : Nat → Prop} {P : Nat → Prop} {w w' : World} {p : Nat} {v : Value} {L : List Sk.E} (h : Jn.RL S P w p v L) (g : Below w.heap.size w w') : Jn.RL S P w' p v L :=
 h.same g.size (fun b hb => g.block b (h.alive b hb)) (fun b _ hb => g.block b hb)
structure Jn.Cell (w : World) (g i : Nat) (x : Sk.E) (rb ro rn rc : Nat) : Prop where
 c : w.cell? ⟨g, i * 2 + 1, none⟩ = some (.slice (some ⟨rb, ro, none⟩) rn rc)
 c0 : w.cell? ⟨g, i * 2, none⟩ = some (.bool x.gone)
 k : Kn.At w rb ro (Sk.ke x)
 pos : 0 < rn
 rv : x.rv = .slice (some ⟨rb, ro, none⟩) rn rc
theorem Jn.RL.cell {S : Nat → Prop} {P : Nat → Prop} {w : World} {p : Nat} {v : Value} {L : List Sk.E} (h : Jn.RL S P w p v L) {i : Nat} {x : Sk.E} (hx : L[i]? = some x) :
 ∃ g c rb ro rn rc, v = .slice (some ⟨g, 0, none⟩) L.length c ∧ Jn.Cell w g i x rb ro rn rc ∧ Kn.Z (Sk.ke x) := by
 obtain ⟨⟨ra, rc, hrv, hrm, hrz, hr⟩, hne⟩ := h.rows x (List.mem_of_getElem? hx)
 rcases hr with hr | ⟨rb, ro, rfl, _, _, hr⟩
 ·exact absurd hr hne
 ·rcases h.own.form with ⟨_, rfl⟩ | ⟨g, c, rfl, _⟩
  ·cases hx
  ·have h0 := h.own.cell Sk.enc_len (g := g) rfl hx (j := 0) (by decide)
   have h1 := h.own.cell Sk.enc_len (g := g) rfl hx (j := 1) (by decide)
   obtain ⟨k, r, hk⟩ : ∃ k r, x.row = k :: r := List.exists_cons_of_ne_nil hne
   have hke : Sk.ke x = k := by unfold Sk.ke Sk.kd Sk.E.d; rw [hk]; rfl
   refine ⟨g, c, rb, ro, x.row.length, rc, rfl, ⟨?_, ?_, ?_, List.length_pos_iff.2 hne, hrv⟩, ?_⟩
   ·rw [← hrv]; exact h1
   ·exact h0
   ·rw [hke]
    have := hr 0 k (by rw [hk]; rfl)
    simpa using this
   ·rw [hke]
    exact hrz k (by rw [hk]; exact List.mem_cons_self)
theorem Jn.RL.slice {S : Nat → Prop} {P : Nat → Prop} {w : World} {p : Nat} {v : Value} {L : List Sk.E} (h : Jn.RL S P w p v L) : ∃ a c, v = .slice a L.length c := by
 rcases h.own.form with ⟨rfl, rfl⟩ | ⟨g, c, rfl, _⟩
 ·exact ⟨none, 0, rfl⟩
 ·exact ⟨_, c, rfl⟩
set_option maxHeartbeats 4000000 in
set_option maxRecDepth 100000 in
theorem Jn.place_c {S : Nat → Prop} {P : Nat → Prop} {w : World} {p : Nat} {v : Value} {L : List Sk.E} (h : Jn.RL S P w p v L) (k : Kn.V) (hk : Kn.Z k) (hl : L.length ≤ 1000000) :
 Calls Tryz.prog 68 #[.pointer (some ⟨p, 0, none⟩), k.val] w fun e w' => e = .returned (.tuple #[.int .i64 ((Sk.at_ Sk.ke L k : Nat) : Int), .bool (Sk.there Sk.ke L k)]) ∧ Below w.heap.size w w' := by
 obtain ⟨wb, hwb⟩ : ∃ wb, wb = w.alloc (.cells #[.bool k.null, .int .i64 k.n, .string k.s] 43) := ⟨_, rfl⟩
 have hb0 : Below w.heap.size w wb := by rw [hwb]; exact (Below.refl _ w).alloc (Nat.le_refl _) _
 have hkk : Kn.At wb w.heap.size 0 k := by rw [hwb]; exact Kn.At.new w k _
 have hsb : w.heap.size < wb.heap.size := by rw [hwb, World.size_alloc]; omega
 have hR := h.kept hb0
 obtain ⟨a, c, hv⟩ := h.slice
 have HK : Hid (∀ W, Below wb.heap.size wb W → W.cell? ⟨p, 0, none⟩ = some (.slice a L.length c) ∧ Kn.At W w.heap.size 0 k) := Lib.hid fun W g => by
  have h2 := hR.kept g
  refine ⟨?_, hkk.later g⟩
  rw [cell_of_row W p _ _ _ _ h2.blk, hv]
  rfl
 have HX : Hid (∀ W i x, Below wb.heap.size wb W → L[i]? = some x → ∃ g rb ro rn rc, a = some ⟨g, 0, none⟩ ∧ Jn.Cell W g i x rb ro rn rc ∧ Kn.Z (Sk.ke x)) := Lib.hid fun W i x g hx => by
  obtain ⟨g', c', rb, ro, rn, rc, e, hc, hz⟩ := (hR.kept g).cell hx
  rw [hv] at e
  simp only [Value.slice.injEq, true_and] at e
  exact ⟨g', rb, ro, rn, rc, e.1, hc, hz⟩
 have HLT : Hid (∀ i x, i ≤ Sk.at_ Sk.ke L k → L[i]? = some x → Kn.cmp (Sk.ke x) k < 0 → i + 1 ≤ Sk.at_ Sk.ke L k) := Lib.hid fun i x hi hx hc => by
  rcases Nat.lt_or_ge i (Sk.at_ Sk.ke L k) with h1 | h1
  ·exact h1
  ·obtain rfl : i = Sk.at_ Sk.ke L k := by omega
   exact absurd hc (Sk.at_ge hx)
 have HGE : Hid (∀ i x, i ≤ Sk.at_ Sk.ke L k → L[i]? = some x → 0 ≤ Kn.cmp (Sk.ke x) k → Sk.at_ Sk.ke L k = i ∧ Sk.there Sk.ke L k = !decide (Kn.cmp k (Sk.ke x) < 0)) := Lib.hid fun i x hi hx hc => by
  have e : Sk.at_ Sk.ke L k = i := by
   rcases Nat.lt_or_ge i (Sk.at_ Sk.ke L k) with h1 | h1
   ·exact absurd (Sk.at_lt h1 hx) (by omega)
   ·omega
  refine ⟨e, ?_⟩
  unfold Sk.there
  rw [e, hx]
 have HEND : Hid (∀ i, i ≤ Sk.at_ Sk.ke L k → i = L.length → Sk.at_ Sk.ke L k = i ∧ Sk.there Sk.ke L k = false) := Lib.hid fun i hi hil => by
  have := Sk.at_le (key := Sk.ke) L k
  have e : Sk.at_ Sk.ke L k = i := by omega
  refine ⟨e, ?_⟩
  unfold Sk.there
  rw [e, List.getElem?_eq_none (by omega)]
 have HB0 := Lib.hid hb0
 have HKZ := Lib.hid hk
 have HSB := Lib.hid hsb
 have hli : (L.length : Int) ≤ 1000000 := by omega
 generalize Sk.at_ Sk.ke L k = A at HLT HGE HEND ⊢
 generalize Sk.there Sk.ke L k = TH at HGE HEND ⊢
 obtain ⟨bk, hbk⟩ : ∃ bk, bk = w.heap.size := ⟨_, rfl⟩
 clear h hR hv hb0 hkk hsb hk hl
 go_enter Tryz.func68, Tryz.ntmps68
 go_wp2_with fail
 rw [← hwb]
 clear hwb
 go_loopw [6] (fun iv wr => ∃ i : Nat, i ≤ A ∧ i ≤ L.length ∧ iv = .int .i64 i ∧ Below wb.heap.size wb wr) (fun iv _ => L.length - (intOf iv).toNat)
 case atStart => exact ⟨0, Nat.zero_le _, Nat.zero_le _, rfl, Below.refl _ _⟩
 case round =>
  obtain ⟨i, hi, hil, rfl, hB⟩ := hrel
  have HB := Lib.hid hB
  have hi0 : (0 : Int) ≤ (i : Int) := by omega
  obtain ⟨c0, ⟨k0, k1, k2⟩⟩ := HK.out wr hB
  by_cases hlt : i < L.length
  ·obtain ⟨x, hx⟩ : ∃ x, L[i]? = some x := ⟨_, List.getElem?_eq_getElem hlt⟩
   obtain ⟨g, rb, ro, rn, rc, rfl, ⟨hc, _, ⟨x0, x1, x2⟩, hpos, _⟩, hz⟩ := HX.out wr i x hB hx
   have hii : (i : Int) < (L.length : Int) := by omega
   have hrp : (0 : Int) < (rn : Int) := by omega
   have ca := Kn.rAhead_c (Sk.ke x) k hz HKZ.out
   have cb := Kn.rAhead_c k (Sk.ke x) HKZ.out hz
   have HLT' : Hid (Kn.cmp (Sk.ke x) k < 0 → i + 1 ≤ A) := Lib.hid fun hc => HLT.out i x hi hx hc
   have HGE' : Hid (0 ≤ Kn.cmp (Sk.ke x) k → A = i ∧ TH = !decide (Kn.cmp k (Sk.ke x) < 0)) := Lib.hid fun hc => HGE.out i x hi hx hc
   have HX' : Hid (∀ W, Below wb.heap.size wb W → ∃ rb ro rn rc, Jn.Cell W g i x rb ro rn rc) := Lib.hid fun W gW => by
    obtain ⟨g', rb', ro', rn', rc', e, hc', _⟩ := HX.out W i x gW hx
    simp only [Option.some.injEq, Addr.mk.injEq, and_true] at e
    subst e
    exact ⟨rb', ro', rn', rc', hc'⟩
   unfold Kn.V.val at ca cb
   by_cases hcmp : Kn.cmp (Sk.ke x) k < 0
   ·rw [decide_eq_true hcmp] at ca
    have hnext := HLT'.out hcmp
    have E1 := fun d os => cell_regrown c0 d os
    have E2 := fun d os => cell_regrown hc d os
    have E3 := fun d os => cell_regrown x0 d os
    have E4 := fun d os => cell_regrown x1 d os
    have E5 := fun d os => cell_regrown x2 d os
    have E6 := fun d os => cell_regrown k0 d os
    have E7 := fun d os => cell_regrown k1 d os
    have E8 := fun d os => cell_regrown k2 d os
    have CA : Hid (∀ p : Regrown, _) := Lib.hid fun p : Regrown => Calls.regrown_of (d := p.d) (os := p.os) (w := wr) (ca _)
    clear ca cb hcmp hB HLT' HGE' HLT HGE HEND hz hx HX
    go_wp2_with fail
    refine wp_region_quiet_below (by kernel_rfl) (by kernel_rfl) ?_
    repeat (go_big_quiet_step (exact CA.out _))
    refine wpQuiet_nil ?_
    intro wq hw'
    have hbq : Below wr.heap.size wr wq := by
     obtain ⟨q, rfl⟩ := hw'
     exact below_regrown wr q.d q.os
    have HBQ := Lib.hid (HB.out.trans (hbq.mono HB.out.size))
    clear hw' hbq E1 E2 E3 E4 E5 E6 E7 E8 CA
    go_wp2
    go_roundw
    case rel => exact ⟨i + 1, hnext, by omega, by simp, HBQ.out⟩
    case measure => simp [intOf]; omega
   ·rw [decide_eq_false hcmp] at ca
    obtain ⟨hA, hTH⟩ := HGE'.out (by omega)
    have E1 := fun d os => cell_regrown c0 d os
    have E2 := fun d os => cell_regrown hc d os
    have E3 := fun d os => cell_regrown x0 d os
    have E4 := fun d os => cell_regrown x1 d os
    have E5 := fun d os => cell_regrown x2 d os
    have E6 := fun d os => cell_regrown k0 d os
    have E7 := fun d os => cell_regrown k1 d os
    have E8 := fun d os => cell_regrown k2 d os
    have CA : Hid (∀ p : Regrown, _) := Lib.hid fun p : Regrown => Calls.regrown_of (d := p.d) (os := p.os) (w := wr) (ca _)
    have CB := Lib.hid cb
    have HAT := Lib.hid (And.intro hA hTH)
    clear ca cb hcmp hB HLT' HGE' HLT HGE HEND hz hx HX hA hTH
    go_wp2_with fail
    refine wp_region_quiet_below (by kernel_rfl) (by kernel_rfl) ?_
    repeat (go_big_quiet_step (exact CA.out _))
    refine wpQuiet_nil ?_
    intro wq hw'
    have hbq : Below wr.heap.size wr wq := by
     obtain ⟨q, rfl⟩ := hw'
     exact below_regrown wr q.d q.os
    have HBQ := Lib.hid (HB.out.trans (hbq.mono HB.out.size))
    clear hw' hbq E1 E2 E3 E4 E5 E6 E7 E8 CA c0 hc x0 x1 x2 k0 k1 k2
    obtain ⟨c0, ⟨k0, k1, k2⟩⟩ := HK.out wq HBQ.out
    obtain ⟨rb, ro, rn, rc, ⟨hc, _, ⟨x0, x1, x2⟩, hpos, _⟩⟩ := HX'.out wq HBQ.out
    have hrp : (0 : Int) < (rn : Int) := by omega
    have E1 := fun d os => cell_regrown c0 d os
    have E2 := fun d os => cell_regrown hc d os
    have E3 := fun d os => cell_regrown x0 d os
    have E4 := fun d os => cell_regrown x1 d os
    have E5 := fun d os => cell_regrown x2 d os
    have E6 := fun d os => cell_regrown k0 d os
    have E7 := fun d os => cell_regrown k1 d os
    have E8 := fun d os => cell_regrown k2 d os
    have CA : Hid (∀ p : Regrown, _) := Lib.hid fun p : Regrown => Calls.regrown_of (d := p.d) (os := p.os) (w := wq) (CB.out _)
    clear HX' CB
    go_wp2_with fail
    refine wp_region_quiet_below (by kernel_rfl) (by kernel_rfl) ?_
    repeat (go_big_quiet_step (exact CA.out _))
    refine wpQuiet_nil ?_
    intro wz hw'
    have hbq : Below wq.heap.size wq wz := by
     obtain ⟨q, rfl⟩ := hw'
     exact below_regrown wq q.d q.os
    have HBZ := Lib.hid (HBQ.out.trans (hbq.mono HBQ.out.size))
    clear hw' hbq E1 E2 E3 E4 E5 E6 E7 E8 CA c0 hc x0 x1 x2 k0 k1 k2
    go_wp2
    go_ret2
    exact ⟨by rw [HAT.out.1, HAT.out.2]; rfl, HB0.out.trans (HBZ.out.mono (Nat.le_of_lt HSB.out))⟩
  ·obtain rfl : i = L.length := by omega
   have hii : ¬ (L.length : Int) < (L.length : Int) := by omega
   obtain ⟨hA, hTH⟩ := HEND.out _ hi rfl
   have HAT := Lib.hid (And.intro hA hTH)
   have E1 := fun d os => cell_regrown c0 d os
   clear hA hTH HLT HGE HEND HX hlt hB
   go_wp2_with fail
   refine wp_region_quiet_below (by kernel_rfl) (by kernel_rfl) ?_
   repeat (go_big_quiet_step (fail))
   refine wpQuiet_nil ?_
   intro wq hw'
   have hbq : Below wr.heap.size wr wq := by
    obtain ⟨q, rfl⟩ := hw'
    exact below_regrown wr q.d q.os
   have HBQ := Lib.hid (HB.out.trans (hbq.mono HB.out.size))
   clear hw' hbq E1 c0 k0 k1 k2
   obtain ⟨c0, _⟩ := HK.out wq HBQ.out
   have E1 := fun d os => cell_regrown c0 d os
   go_wp2_with fail
   refine wp_region_quiet_below (by kernel_rfl) (by kernel_rfl) ?_
   repeat (go_big_quiet_step (fail))
   refine wpQuiet_nil ?_
   intro wz hw'
   have hbq : Below wq.heap.size wq wz := by
    obtain ⟨q, rfl⟩ := hw'
    exact below_regrown wq q.d q.os
   have HBZ := Lib.hid (HBQ.out.trans (hbq.mono HBQ.out.size))
   clear hw' hbq E1 c0
   go_wp2
   go_ret2
   exact ⟨by rw [HAT.out.1, HAT.out.2]; rfl, HB0.out.trans (HBZ.out.mono (Nat.le_of_lt HSB.out))⟩
end Go.Proofs.YtkhiemkekmdhgaaGreatDoor
