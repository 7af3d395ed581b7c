/-
  The document's disk: a crash.
-/
import Derived.Test.YtfkdkdkdpenblaaZO
import Derived.Test.YtfkdkdkdpenblaaZG
namespace Go.Proofs.Ytfkdkdkdpenblaa
open Go.RowKit
theorem Dk.apply_names {l : Dk.Dir} {c : Dk.Ch} {B : Nat} (h : ∀ y ∈ l, y.1.length ≤ B) (ha : c.a.length ≤ B) (hb : c.b.length ≤ B) : ∀ y ∈ Dk.apply l c, y.1.length ≤ B := by
  intro y hy
  unfold Dk.apply at hy
  split at hy
  · split at hy
    · exact h y hy
    · rcases Dk.mem_wi.1 hy with rfl | ⟨hy, _⟩
      · exact hb
      · exact h y (Dk.mem_wo.1 hy).1
  · split at hy
    · exact h y (Dk.mem_wo.1 hy).1
    · rcases Dk.mem_wi.1 hy with rfl | ⟨hy, _⟩
      · exact ha
      · exact h y hy
theorem Dk.fold_names {B : Nat} : ∀ (cs : List Dk.Ch) (l : Dk.Dir), (∀ y ∈ l, y.1.length ≤ B) → (∀ c ∈ cs, c.a.length ≤ B ∧ c.b.length ≤ B) → ∀ y ∈ Dk.fold l cs, y.1.length ≤ B
  | [], _, h, _ => h
  | c :: cs, l, h, hc => Dk.fold_names cs (Dk.apply l c) (Dk.apply_names h (hc c List.mem_cons_self).1 (hc c List.mem_cons_self).2) fun x hx => hc x (List.mem_cons_of_mem _ hx)
theorem Dk.fold_snoc (l : Dk.Dir) (cs : List Dk.Ch) (c : Dk.Ch) : Dk.fold l (cs ++ [c]) = Dk.apply (Dk.fold l cs) c := by
  unfold Dk.fold
  rw [List.foldl_append]
  rfl
theorem Dk.fold_next {l : Dk.Dir} {cs : List Dk.Ch} {k : Nat} {c : Dk.Ch} (h : cs[k]? = some c) : Dk.fold l (cs.take (k + 1)) = Dk.apply (Dk.fold l (cs.take k)) c := by
  have hk : k < cs.length := (List.getElem?_eq_some_iff.1 h).1
  rw [List.take_succ_eq_append_getElem hk, Dk.fold_snoc]
  rw [List.getElem?_eq_getElem hk] at h
  rw [Option.some.inj h]
theorem Dk.Fit.foldShort {d : Dk.D} (h : Dk.Fit d) (k : Nat) : Dk.Short (Dk.fold d.sure (d.chg.take k)) := by
  have h1 := Dk.len_fold (d.chg.take k) d.sure
  have h2 := h.sz.dirs
  rw [List.length_take] at h1
  exact ⟨by omega, Dk.fold_names _ _ h.sure fun c hc => h.chg c (List.mem_of_mem_take hc)⟩
theorem Dk.crash_at {d : Dk.D} {n : Int} {k : Nat} (hk : (k : Int) ≤ max n 0) (h : ¬ (k : Int) < n ∨ d.chg.length ≤ k) : Dk.fold d.sure (d.chg.take k) = Dk.crashDir d n := by
  unfold Dk.crashDir
  rcases h with h | h
  · rw [show n.toNat = k by omega]
  · rw [List.take_of_length_le h, List.take_of_length_le (by omega)]
theorem Dk.RA.chgAt {S : Nat → Prop} {p : Nat} {d : Dk.D} {vF vD vS vC : Value} {w : World} (h : Dk.RA S w p d vF vD vS vC) {k : Nat} {c : Dk.Ch} (hk : d.chg[k]? = some c) :
    ∃ g cp, vC = .slice (some ⟨g, 0, none⟩) d.chg.length cp ∧ w.cell? ⟨g, k * 3, none⟩ = some (.string (Ty.S c.a)) ∧ w.cell? ⟨g, k * 3 + 1, none⟩ = some (.string (Ty.S c.b)) ∧ w.cell? ⟨g, k * 3 + 2, none⟩ = some (.int .i64 c.f) := by
  rcases h.chg.form with ⟨_, h0⟩ | ⟨g, cp, rfl, _, _, _, _⟩
  · rw [h0] at hk; cases hk
  · exact ⟨g, cp, rfl, h.chg.cell Dk.encC_len rfl hk (by omega : 0 < 3), h.chg.cell Dk.encC_len rfl hk (by omega : 1 < 3), h.chg.cell Dk.encC_len rfl hk (by omega : 2 < 3)⟩
theorem Dk.cuts_next {keep : List Int} {fs : List (Dk.Str × Nat)} {l : Dk.Dir} {k : Nat} (h : k < l.length) : Dk.cuts keep 0 fs (l.take (k + 1)) = Dk.cut (Dk.cuts keep 0 fs (l.take k)) (l.getD k ([], 0)).2 (Dk.keepAt keep k) := by
  have e : l.take (k + 1) = l.take k ++ [l.getD k ([], 0)] := by
    rw [List.take_succ_eq_append_getElem h, List.getD, List.getElem?_eq_getElem h]
    rfl
  rw [e, Dk.cuts_snoc, Nat.zero_add, List.length_take, Nat.min_eq_left (Nat.le_of_lt h)]
theorem Dk.cut_done {S : Nat → Prop} {w wr wA : World} {p : Nat} {d : Dk.D} {keep : List Int} {L : Dk.Dir} {q f g : Nat} {fs : List (Dk.Str × Nat)} {xs : Dk.Str} {xd N : Nat} {sx : ByteArray} {kk : Int} {vF vD vS vC v : Value}
    (hR : Dk.RA S wr p { d with files := fs } vF vD vS vC) (gA : Below wr.heap.size wr wA) (hgv : vF.ownBlock = some g) (hf : f < fs.length) (hX : (xs, xd) = Dk.file fs f) (hsx : sx = Ty.S xs) (hN : N = Dk.cutN (xs, xd) kk)
    (hnx : Dk.cuts keep 0 d.files (L.take (q + 1)) = Dk.cut fs f kk) (hD : Dk.Dat (Dk.More S w wr) wr v L) (hO : Dk.Off S w wr) :
    Dk.RA S ((wA.setCell ⟨g, f * 2, none⟩ (.string (sx.extract 0 N))).setCell ⟨g, f * 2 + 1, none⟩ (.int .i64 (N : Int))).drew p { d with files := Dk.cuts keep 0 d.files (L.take (q + 1)) } vF vD vS vC ∧
    Dk.Dat (Dk.More S w ((wA.setCell ⟨g, f * 2, none⟩ (.string (sx.extract 0 N))).setCell ⟨g, f * 2 + 1, none⟩ (.int .i64 (N : Int))).drew) ((wA.setCell ⟨g, f * 2, none⟩ (.string (sx.extract 0 N))).setCell ⟨g, f * 2 + 1, none⟩ (.int .i64 (N : Int))).drew v L ∧
    Dk.Off S w ((wA.setCell ⟨g, f * 2, none⟩ (.string (sx.extract 0 N))).setCell ⟨g, f * 2 + 1, none⟩ (.int .i64 (N : Int))).drew := by
  have hRA := hR.kept gA
  have hext : sx.extract 0 N = Ty.S (xs.take N) := by
    rw [hsx, Ty.extract_S, Ty.data_S]
    rfl
  have h1 := Dk.RA.fileSet hRA hgv hf (j := 0) (by omega) (.string (sx.extract 0 N)) (xs.take N, xd) (by
    show Dk.encN (xs.take N, xd) = (Dk.encN (Dk.file fs f)).set 0 _
    rw [← hX, hext]
    rfl)
  have hfk3 : f < (Dk.put { d with files := fs } f (xs.take N, xd)).files.length := by
    show f < (fs.set f (xs.take N, xd)).length
    rw [List.length_set]; exact hf
  have h2 := Dk.RA.fileSet h1 hgv hfk3 (j := 1) (by omega) (.int .i64 (N : Int)) (xs.take N, N) (by
    show Dk.encN (xs.take N, N) = (Dk.encN (Dk.file (fs.set f (xs.take N, xd)) f)).set 1 _
    rw [Dk.file_set _ _ _ _ hf, if_pos rfl]
    rfl)
  have hcc : Dk.put (Dk.put { d with files := fs } f (xs.take N, xd)) f (xs.take N, N) = { d with files := Dk.cuts keep 0 d.files (L.take (q + 1)) } := by
    rw [hnx]
    unfold Dk.put Dk.cut
    rw [← hX, ← hN]
    simp
  rw [hcc] at h2
  have hgS := hR.filesS g hgv
  have ho := (hO.trans (Dk.Off.of_below gA))
  have ho2 := (ho.trans (Dk.Off.set (i := f * 2) (.inl hgS) (.string (sx.extract 0 N)))).trans (Dk.Off.set (i := f * 2 + 1) (.inl hgS) (.int .i64 (N : Int)))
  have hne : ∀ {b2 : Nat} {cs : Array Value} {fr : Nat × Nat}, wA.heap[b2]? = some (.cells cs 71 fr) → b2 ≠ g := fun hb e => by
    obtain ⟨gc, hg⟩ := hRA.files.typed g hgv
    rw [e, hg] at hb
    simp only [Option.some.injEq, Obj.cells.injEq] at hb
    exact absurd hb.2.1 (by decide)
  have hdat := (hD.kept gA).other (w' := (wA.setCell ⟨g, f * 2, none⟩ (.string (sx.extract 0 N))).setCell ⟨g, f * 2 + 1, none⟩ (.int .i64 (N : Int))) fun b2 cs fr _ hb2 => by
    rw [Below.heap_setCell _ _ _ _ (hne hb2), Below.heap_setCell _ _ _ _ (hne hb2)]
  have hsz2 : wr.heap.size ≤ wA.heap.size := gA.size
  have hsz3 : ((wA.setCell ⟨g, f * 2, none⟩ (.string (sx.extract 0 N))).setCell ⟨g, f * 2 + 1, none⟩ (.int .i64 (N : Int))).heap.size = wA.heap.size := by simp
  have hdd := hdat.imp (P' := Dk.More S w ((wA.setCell ⟨g, f * 2, none⟩ (.string (sx.extract 0 N))).setCell ⟨g, f * 2 + 1, none⟩ (.int .i64 (N : Int)))) fun b2 hb2 => by
    rcases hb2 with hb2 | hb2
    · exact .inl hb2
    · exact .inr ⟨hb2.1, by rw [hsz3]; exact Nat.lt_of_lt_of_le hb2.2 hsz2⟩
  exact ⟨⟨h2.blk, h2.files, h2.filesS, h2.dir, h2.sure, h2.chg, h2.chgS, h2.mine, h2.alive⟩, hdd, ⟨ho2.os, ho2.tape, ho2.output, ho2.size, ho2.block⟩⟩
theorem Dk.crash_done {S : Nat → Prop} {w wr : World} {p : Nat} {d : Dk.D} {fs : List (Dk.Str × Nat)} {L : Dk.Dir} {vF vD vS vC u : Value} (hR : Dk.RA S wr p { d with files := fs } vF vD vS vC) (hD : Dk.Dat (Dk.More S w wr) wr u L) (hO : Dk.Off S w wr) (hal : ∀ b, S b → b < w.heap.size) :
    Dk.Did S w p { d with files := fs, dir := L, sure := L, chg := [], halt := -1, deny := -1 } (((((wr.setCell ⟨p, 1, none⟩ u).setCell ⟨p, 2, none⟩ u).setCell ⟨p, 3, none⟩ (.slice none 0 0)).setCell ⟨p, 5, none⟩ (.int .i64 (-1))).setCell ⟨p, 6, none⟩ (.int .i64 (-1))) := by
  have h0 := hR.mono (S' := Dk.More S w wr) (fun b hb => .inl hb) (Dk.more_alive hal hO.size)
  have h1 := h0.put (d' := { d with files := fs, dir := L }) 1 u (vF' := vF) (vD' := u) (vS' := vS) (vC' := vC) (room := d.room) (halt := d.halt) (deny := d.deny) (calls := d.calls) rfl rfl hD h0.sure h0.chg h0.chgS rfl rfl rfl rfl rfl
  have h2 := h1.put (d' := { d with files := fs, dir := L, sure := L }) 2 u (vF' := vF) (vD' := u) (vS' := u) (vC' := vC) (room := d.room) (halt := d.halt) (deny := d.deny) (calls := d.calls) rfl rfl h1.dir h1.dir h1.chg h1.chgS rfl rfl rfl rfl rfl
  have h3 := h2.put (d' := { d with files := fs, dir := L, sure := L, chg := [] }) 3 (.slice none 0 0) (vF' := vF) (vD' := u) (vS' := u) (vC' := .slice none 0 0) (room := d.room) (halt := d.halt) (deny := d.deny) (calls := d.calls) rfl rfl h2.dir h2.sure (Dk.Own.nil _ _) (by simp [Value.ownBlock]) rfl rfl rfl rfl rfl
  have h4 := h3.put (d' := { d with files := fs, dir := L, sure := L, chg := [], halt := -1 }) 5 (.int .i64 (-1)) (vF' := vF) (vD' := u) (vS' := u) (vC' := .slice none 0 0) (room := d.room) (halt := -1) (deny := d.deny) (calls := d.calls) rfl rfl h3.dir h3.sure h3.chg h3.chgS rfl rfl rfl rfl rfl
  have h5 := h4.put (d' := { d with files := fs, dir := L, sure := L, chg := [], halt := -1, deny := -1 }) 6 (.int .i64 (-1)) (vF' := vF) (vD' := u) (vS' := u) (vC' := .slice none 0 0) (room := d.room) (halt := -1) (deny := -1) (calls := d.calls) rfl rfl h4.dir h4.sure h4.chg h4.chgS rfl rfl rfl rfl rfl
  have hm : Dk.More S w wr p := .inl hR.mine
  have o5 := ((((hO.trans (Dk.Off.set (i := 1) hm u)).trans (Dk.Off.set (i := 2) (.inl hR.mine) u)).trans (Dk.Off.set (i := 3) (.inl hR.mine) (.slice none 0 0))).trans (Dk.Off.set (i := 5) (.inl hR.mine) (.int .i64 (-1)))).trans (Dk.Off.set (i := 6) (.inl hR.mine) (.int .i64 (-1)))
  have hs : (((((wr.setCell ⟨p, 1, none⟩ u).setCell ⟨p, 2, none⟩ u).setCell ⟨p, 3, none⟩ (.slice none 0 0)).setCell ⟨p, 5, none⟩ (.int .i64 (-1))).setCell ⟨p, 6, none⟩ (.int .i64 (-1))).heap.size = wr.heap.size := by simp
  refine ⟨⟨_, _, _, _, h5.mono (fun b hb => ?_) (fun b hb => ?_)⟩, o5⟩
  · rcases hb with hb | hb
    · exact .inl hb
    · exact .inr ⟨hb.1, by rw [hs]; exact hb.2⟩
  · rcases hb with hb | hb
    · rw [hs]; exact Nat.lt_of_lt_of_le (hal b hb) hO.size
    · exact hb.2
set_option maxHeartbeats 8000000 in
set_option maxRecDepth 100000 in
theorem Dk.rcrash_nil {S : Nat → Prop} {p : Nat} {d : Dk.D} {w : World} (h : Dk.RAt S w p d) (hf : Dk.Fit d) (n : Int) (keep : List Int) (hke : keep = []) (aK : Option Addr) (cK : Nat) :
    Calls Try.prog 47 #[.pointer (some ⟨p, 0, none⟩), .int .i64 n, .slice aK 0 cK] w fun e w' => e = .returned (.tuple #[]) ∧ Dk.Did S w p (Dk.crash d n keep) w' := by
  obtain ⟨vF, vD, vS, vC, h⟩ := h
  have HH := Lib.hid h
  have HF := Lib.hid hf
  have HAL := Lib.hid h.alive
  have HKE := Lib.hid hke
  clear hke
  obtain ⟨aS, cS, hvS, _⟩ := h.sure
  obtain ⟨_, _, c2, _⟩ := h.c
  have hcl : d.chg.length ≤ 100000 := by have := hf.sz.dirs; omega
  rw [hvS] at c2
  have HDS : Hid (Dk.Dat S w (.slice aS d.sure.length cS) d.sure) := Lib.hid (by rw [← hvS]; exact h.sure)
  clear h hf hvS
  go_enter Try.func47, Try.ntmps47
  go_wp2
  go_loopw [6, 7] (fun ov i wr => ∃ k : Nat, k ≤ d.chg.length ∧ (k : Int) ≤ max n 0 ∧ i = .int .i64 k ∧ Dk.Dat (Dk.More S w wr) wr ov (Dk.fold d.sure (d.chg.take k)) ∧ Below w.heap.size w wr) (fun _ i _ => d.chg.length - (intOf i).toNat)
  case atStart => exact ⟨0, by omega, by omega, rfl, HDS.out.imp fun b hb => .inl hb, Below.refl _ _⟩
  case round =>
    obtain ⟨k, hk, hkn, rfl, hD, hb⟩ := hrel
    have hR := HH.out.kept hb
    have HB := Lib.hid hb
    have HD := Lib.hid hD
    have hws := hb.size
    have hk0 : (0 : Int) ≤ (k : Int) := by omega
    have hvC := hR.chg.form
    obtain ⟨_, _, _, c3, _⟩ := hR.c
    by_cases h12 : (k : Int) < n ∧ k < d.chg.length
    · obtain ⟨h1, h2⟩ := h12
      obtain ⟨c, hc⟩ : ∃ c, d.chg[k]? = some c := ⟨_, List.getElem?_eq_getElem h2⟩
      obtain ⟨g, cp, hvC2, e0, e1, e2⟩ := hR.chgAt hc
      have hcc := HF.out.chg c (List.mem_of_getElem? hc)
      have ca := Dk.rapply_c u6 (Dk.fold d.sure (d.chg.take k)) c wr HD.out (HF.out.foldShort k) hcc.1 hcc.2
      rw [← Dk.fold_next hc] at ca
      generalize Ty.S c.a = sa at e0 ca
      generalize Ty.S c.b = sb at e1 ca
      have hki : (k : Int) < (d.chg.length : Int) := by omega
      rw [hvC2] at c3
      clear hvC hvC2 hR hb hD hc hcc
      go_wp2_with fail
      with_reducible refine ca.mono ?_
      rintro e w1 ⟨u, rfl, hD1, g1⟩
      have HB1 := Lib.hid (HB.out.trans (g1.mono HB.out.size))
      have HD1 : Hid (Dk.Dat (Dk.More S w w1) w1 u (Dk.fold d.sure (d.chg.take (k + 1)))) := Lib.hid (hD1.alive.imp fun b hb => by
        rcases hb with ⟨(hb | hb) | hb, hlt⟩
        · exact .inl hb
        · exact .inr ⟨hb.1, hlt⟩
        · exact .inr ⟨by omega, hlt⟩)
      clear ca hD1 g1
      go_wp2
      go_roundw
      case rel => exact ⟨k + 1, by omega, by omega, by simp, HD1.out, HB1.out⟩
      case measure => simp [intOf]; omega
    · have HL := Lib.hid (Dk.crash_at (d := d) hkn (by omega))
      rw [HL.out] at HD
      have HWL := Lib.hid (HF.out.inv.crashDir n)
      have hsh := HF.out.foldShort k
      rw [HL.out] at hsh
      have hll := hsh.len
      obtain ⟨aL, cL, hvL, _⟩ := HD.out
      obtain ⟨aC, cC, hvC⟩ : ∃ a c, vC = .slice a d.chg.length c := by
        rcases hvC with ⟨e, e0⟩ | ⟨g, c, e, _⟩
        · exact ⟨_, _, by rw [e, e0]; rfl⟩
        · exact ⟨_, _, e⟩
      have HCR : Hid (Dk.crash d n keep = { d with files := Dk.cuts keep 0 d.files (Dk.crashDir d n), dir := Dk.crashDir d n, sure := Dk.crashDir d n, chg := [], halt := -1, deny := -1 }) := Lib.hid rfl
      generalize Dk.crashDir d n = L at HD HWL hsh hll hvL HCR
      rw [hvC] at c3
      have HR1 := Lib.hid hR
      have HOFF1 := Lib.hid (Dk.Off.of_below (S := S) hb)
      rcases (by omega : ¬ (k : Int) < n ∨ ((k : Int) < n ∧ k = d.chg.length)) with hA | ⟨hB1, hB2⟩
      · clear h12 HL hsh hvC hR hb hD
        have hAb : decide ((k : Int) < n) = false := by simpa using hA
        go_wp2_with fail
        rw [hvL] at HD
        go_loopw [8, 9, 10, 11] (fun i _ _ _ wr => ∃ q : Nat, q ≤ L.length ∧ i = .int .i64 q ∧ Dk.RA S wr p { d with files := Dk.cuts keep 0 d.files (L.take q) } vF vD vS vC ∧ Dk.Dat (Dk.More S w wr) wr (.slice aL L.length cL) L ∧ Dk.Off S w wr) (fun i _ _ _ _ => L.length - (intOf i).toNat)
        case atStart => exact ⟨0, by omega, rfl, HR1.out, HD.out, HOFF1.out⟩
        case round =>
          obtain ⟨q, hq, rfl, hR, hD, hO⟩ := hrel
          have HR := Lib.hid hR
          have HDD := Lib.hid hD
          have HO := Lib.hid hO
          have hq0 : (0 : Int) ≤ (q : Int) := by omega
          by_cases hql : q < L.length
          · have hgx := Dk.getD_at hql
            have hfk : (L.getD q ([], 0)).2 < (Dk.cuts keep 0 d.files (L.take q)).length := by rw [Dk.length_cuts]; exact HWL.out.lim _ (List.mem_of_getElem? hgx)
            have HNX := Lib.hid (Dk.cuts_next (keep := keep) (fs := d.files) hql)
            obtain ⟨b, o, e1, hvL2⟩ : ∃ b o, wr.cell? ⟨b, o + q * 2 + 1, none⟩ = some (.int .i64 ((L.getD q ([], 0)).2 : Int)) ∧ aL = some ⟨b, o, none⟩ := by
              obtain ⟨a', c', he, _, hh⟩ := hD
              simp only [Value.slice.injEq, true_and] at he
              obtain ⟨rfl, rfl⟩ := he
              rcases hh with ⟨h0, _⟩ | ⟨b, o, cs, fr, rfl, _, _, hh⟩
              · rw [h0] at hql; simp at hql
              · exact ⟨b, o, hh q 1 _ hgx (by omega), rfl⟩
            have hlen : (Dk.cuts keep 0 d.files (L.take q)).length = d.files.length := Dk.length_cuts _ _ _ _
            obtain ⟨g, c5, hvF, f0, f1⟩ := hR.fileAt (f := (L.getD q ([], 0)).2) hfk
            change wr.cell? _ = some (.string (Ty.S (Dk.file (Dk.cuts keep 0 d.files (L.take q)) (L.getD q ([], 0)).2).1)) at f0
            change wr.cell? _ = some (.int .i64 ((Dk.file (Dk.cuts keep 0 d.files (L.take q)) (L.getD q ([], 0)).2).2 : Int)) at f1
            change vF = .slice (some ⟨g, 0, none⟩) (Dk.cuts keep 0 d.files (L.take q)).length c5 at hvF
            have hpart : (Dk.file (Dk.cuts keep 0 d.files (L.take q)) (L.getD q ([], 0)).2).2 ≤ (Dk.file (Dk.cuts keep 0 d.files (L.take q)) (L.getD q ([], 0)).2).1.length := by
              have hl2 : ∀ y ∈ L.take q, y.2 < d.files.length := fun y hy => HWL.out.lim y (List.mem_of_mem_take hy)
              exact ((Dk.cuts_left keep (L.take q) 0 d.files HF.out.inv.file hl2).1 _).part
            have hsz : (Dk.file (Dk.cuts keep 0 d.files (L.take q)) (L.getD q ([], 0)).2).1.length ≤ 1099511627776 := by
              have hl2 : ∀ y ∈ L.take q, y.2 < d.files.length := fun y hy => HWL.out.lim y (List.mem_of_mem_take hy)
              have h1 := ((Dk.cuts_left keep (L.take q) 0 d.files HF.out.inv.file hl2).1 (L.getD q ([], 0)).2).le
              have h2 := Nat.le_trans (Dk.file_le (fs := d.files) (f := (L.getD q ([], 0)).2) (by rw [← hlen]; exact hfk)) HF.out.size
              omega
            have hfl := HF.out.sz.files
            obtain ⟨c0, _⟩ := hR.c
            rw [hvF, hlen] at c0
            rw [hlen] at hfk hvF
            have hfzg := fun i => hR.ffz (g := g) (by rw [hvF]; rfl) i
            generalize hfs : Dk.cuts keep 0 d.files (L.take q) = fs at HR HNX f0 f1 hpart hsz hlen
            generalize (L.getD q ([], 0)).2 = f at HNX hfk e1 f0 f1 hpart hsz
            have HFX : Hid (Dk.file fs f = Dk.file fs f) := Lib.hid rfl
            obtain ⟨X, hX⟩ : ∃ X, X = Dk.file fs f := ⟨_, rfl⟩
            rw [← hX] at f0 f1 hpart hsz
            have HX := Lib.hid hX
            have HFZ := Lib.hid hfzg
            have HVF := Lib.hid hvF
            have HLEN := Lib.hid hlen
            obtain ⟨xs, xd⟩ := X
            simp only at f0 f1 hpart hsz
            have hxl : (Ty.S xs).size = xs.length := Ty.size_S xs
            obtain ⟨sx, hsx⟩ : ∃ sx, sx = Ty.S xs := ⟨_, rfl⟩
            rw [← hsx] at f0 hxl
            have HSX := Lib.hid hsx
            have hqi : (q : Int) < (L.length : Int) := by omega
            have hfi : (f : Int) < (d.files.length : Int) := by omega
            have hf0 : (0 : Int) ≤ (f : Int) := by omega
            have hwf : IntKind.i64.wrap (f : Int) = (f : Int) := by rw [IntKind.wrap_i64]; omega
            have hwq : IntKind.i64.wrap (q : Int) = (q : Int) := by rw [IntKind.wrap_i64]; omega
            subst hvL2
            have HXL := Lib.hid hxl
            have HPT := Lib.hid hpart
            have HE1 := Lib.hid (And.intro c0 (And.intro e1 (And.intro f0 f1)))
            have hcn : ∀ (a : Addr) (x : Value), wr.cell? a = some x → (wr.alloc (.cells #[.string ⟨#[]⟩, .int .i64 0] 69)).cell? a = some x := fun a x hx => (((Below.refl _ wr).alloc (Nat.le_refl _) _).cell (World.block_lt_of_cell? wr _ hx)).trans hx
            have c0n := hcn _ _ c0
            have e1n := hcn _ _ e1
            have f0n := hcn _ _ f0
            have f1n := hcn _ _ f1
            clear hX hsx hgx hR hD hO hfs hvF hlen hfzg hxl hpart hcn
            go_wp2_with fail
            go_region
            obtain ⟨wA, hwA⟩ : ∃ wA, wA = (wr.alloc (.cells #[.string sx, .int .i64 (xd : Int)] 69)).drew := ⟨_, rfl⟩
            have gA : Below wr.heap.size wr wA := by rw [hwA]; exact Below.drew ((Below.refl _ wr).alloc (Nat.le_refl _) _)
            have a0 : wA.cell? ⟨wr.heap.size, 0, none⟩ = some (.string sx) := by rw [hwA]; exact Kn.cell_new wr _ _ 0 _ rfl
            have a1 : wA.cell? ⟨wr.heap.size, 1, none⟩ = some (.int .i64 (xd : Int)) := by rw [hwA]; exact Kn.cell_new wr _ _ 1 _ rfl
            rw [← hwA]
            obtain ⟨B0, hB0⟩ : ∃ B0, B0 = wr.heap.size := ⟨_, rfl⟩
            rw [← hB0] at a0 a1 ⊢
            have hcA : ∀ (a : Addr) (x : Value), wr.cell? a = some x → wA.cell? a = some x := fun a x hx => (gA.cell (World.block_lt_of_cell? wr _ hx)).trans hx
            have c0A := hcA _ _ HE1.out.1
            have e1A := hcA _ _ HE1.out.2.1
            have f0A := hcA _ _ HE1.out.2.2.1
            have f1A := hcA _ _ HE1.out.2.2.2
            have HGA := Lib.hid gA
            have HB0 := Lib.hid hB0
            have hqs : (q : Int) < 1048576 := by omega
            have HSZ := Lib.hid hsz
            have HLL := Lib.hid hll
            have HFL := Lib.hid hfl
            clear hwA gA hcA c0 e1 f0 f1 c0n e1n f0n f1n hB0 hsz hll hfl hcl HFX hkn hk hws c3 c2 hwf hfi hf0
            try clear hA hAb
            try clear hB1 hB3
            obtain ⟨z, hz⟩ : ∃ z, sx.size = z := ⟨_, rfl⟩
            have hzl : (z : Int) ≤ 1099511627776 := by have := HXL.out; have := HSZ.out; omega
            have hxz : (xd : Int) ≤ (z : Int) := by have := HXL.out; have := HPT.out; omega
            have hxd0 : (0 : Int) ≤ (xd : Int) := by omega
            have hps : (0 : Int) ≤ (z : Int) - (xd : Int) := by omega
            go_upto_region 12 with (fail)
            go_wp2_with fail
            obtain ⟨N, hN⟩ : ∃ N, N = xd := ⟨_, rfl⟩
            have hcut : N = Dk.cutN (xs, xd) (Dk.keepAt keep q) := by
              unfold Dk.keepAt Dk.cutN
              rw [if_pos HKE.out, hN]
              simp
            have hNx : N ≤ z := by omega
            rw [← hN]
            clear hN
            have HCN : Hid (N = Dk.cutN (xs, xd) (Dk.keepAt keep q)) := Lib.hid hcut
            have hNi : (N : Int) ≤ (z : Int) := by omega
            have hN0 : (0 : Int) ≤ (N : Int) := by omega
            have htN : (N : Int).toNat = N := by omega
            have hfk2 : f < fs.length := by rw [HLEN.out]; omega
            have hgv : vF.ownBlock = some g := by rw [HVF.out]; rfl
            have fz0 := (HR.out.kept HGA.out).ffz hgv (f * 2)
            have fz1 := (HR.out.kept HGA.out).ffz hgv (f * 2 + 1)
            have HFIN := Lib.hid (Dk.cut_done HR.out HGA.out hgv hfk2 HX.out HSX.out HCN.out HNX.out HDD.out HO.out)
            have HHQ := Lib.hid (And.intro hql hq0)
            have hwf : IntKind.i64.wrap (f : Int) = (f : Int) := by have := HFL.out; rw [IntKind.wrap_i64]; omega
            have hfi : (f : Int) < (d.files.length : Int) := by omega
            have hf0 : (0 : Int) ≤ (f : Int) := by omega
            clear hgv hfk2 hcut hNx hql hxz hxd0
            refine wp_region_still_tail 16 (by kernel_rfl) (by kernel_rfl) ?_
            simp only [List.take_succ_cons, List.take_zero, List.drop_succ_cons, List.drop_zero]
            change wpStill _ _ (World.drew _) (fun a' => wpList _ _ _ _ a' (World.drew _)) _ _
            repeat still_step
            refine wpStill_nil ?_
            go_wp2
            go_roundw
            case rel => exact ⟨q + 1, by have := HHQ.out.1; omega, by simp, HFIN.out.1, HFIN.out.2.1, HFIN.out.2.2⟩
            case measure => have := HHQ.out.1; simp [intOf]; omega
          · obtain rfl : q = L.length := by omega
            obtain ⟨_, c1, c2, c3, _, c5, c6, _⟩ := hR.c
            have f1 := hR.fz 1
            have f2 := hR.fz 2
            have f3 := hR.fz 3
            have f5 := hR.fz 5
            have f6 := hR.fz 6
            have hql2 : ¬ (L.length : Int) < (L.length : Int) := by omega
            have HDN := Lib.hid (Dk.crash_done hR hD hO HAL.out)
            rw [List.take_length, ← HCR.out] at HDN
            clear hR hD hO
            go_wp2
            go_end0
            exact ⟨rfl, HDN.out⟩
      · have hB3 : ¬ (k : Int) < (d.chg.length : Int) := by omega
        clear h12 HL hsh hvC hR hb hD hB2
        go_wp2_with fail
        rw [hvL] at HD
        go_loopw [8, 9, 10, 11] (fun i _ _ _ wr => ∃ q : Nat, q ≤ L.length ∧ i = .int .i64 q ∧ Dk.RA S wr p { d with files := Dk.cuts keep 0 d.files (L.take q) } vF vD vS vC ∧ Dk.Dat (Dk.More S w wr) wr (.slice aL L.length cL) L ∧ Dk.Off S w wr) (fun i _ _ _ _ => L.length - (intOf i).toNat)
        case atStart => exact ⟨0, by omega, rfl, HR1.out, HD.out, HOFF1.out⟩
        case round =>
          obtain ⟨q, hq, rfl, hR, hD, hO⟩ := hrel
          have HR := Lib.hid hR
          have HDD := Lib.hid hD
          have HO := Lib.hid hO
          have hq0 : (0 : Int) ≤ (q : Int) := by omega
          by_cases hql : q < L.length
          · have hgx := Dk.getD_at hql
            have hfk : (L.getD q ([], 0)).2 < (Dk.cuts keep 0 d.files (L.take q)).length := by rw [Dk.length_cuts]; exact HWL.out.lim _ (List.mem_of_getElem? hgx)
            have HNX := Lib.hid (Dk.cuts_next (keep := keep) (fs := d.files) hql)
            obtain ⟨b, o, e1, hvL2⟩ : ∃ b o, wr.cell? ⟨b, o + q * 2 + 1, none⟩ = some (.int .i64 ((L.getD q ([], 0)).2 : Int)) ∧ aL = some ⟨b, o, none⟩ := by
              obtain ⟨a', c', he, _, hh⟩ := hD
              simp only [Value.slice.injEq, true_and] at he
              obtain ⟨rfl, rfl⟩ := he
              rcases hh with ⟨h0, _⟩ | ⟨b, o, cs, fr, rfl, _, _, hh⟩
              · rw [h0] at hql; simp at hql
              · exact ⟨b, o, hh q 1 _ hgx (by omega), rfl⟩
            have hlen : (Dk.cuts keep 0 d.files (L.take q)).length = d.files.length := Dk.length_cuts _ _ _ _
            obtain ⟨g, c5, hvF, f0, f1⟩ := hR.fileAt (f := (L.getD q ([], 0)).2) hfk
            change wr.cell? _ = some (.string (Ty.S (Dk.file (Dk.cuts keep 0 d.files (L.take q)) (L.getD q ([], 0)).2).1)) at f0
            change wr.cell? _ = some (.int .i64 ((Dk.file (Dk.cuts keep 0 d.files (L.take q)) (L.getD q ([], 0)).2).2 : Int)) at f1
            change vF = .slice (some ⟨g, 0, none⟩) (Dk.cuts keep 0 d.files (L.take q)).length c5 at hvF
            have hpart : (Dk.file (Dk.cuts keep 0 d.files (L.take q)) (L.getD q ([], 0)).2).2 ≤ (Dk.file (Dk.cuts keep 0 d.files (L.take q)) (L.getD q ([], 0)).2).1.length := by
              have hl2 : ∀ y ∈ L.take q, y.2 < d.files.length := fun y hy => HWL.out.lim y (List.mem_of_mem_take hy)
              exact ((Dk.cuts_left keep (L.take q) 0 d.files HF.out.inv.file hl2).1 _).part
            have hsz : (Dk.file (Dk.cuts keep 0 d.files (L.take q)) (L.getD q ([], 0)).2).1.length ≤ 1099511627776 := by
              have hl2 : ∀ y ∈ L.take q, y.2 < d.files.length := fun y hy => HWL.out.lim y (List.mem_of_mem_take hy)
              have h1 := ((Dk.cuts_left keep (L.take q) 0 d.files HF.out.inv.file hl2).1 (L.getD q ([], 0)).2).le
              have h2 := Nat.le_trans (Dk.file_le (fs := d.files) (f := (L.getD q ([], 0)).2) (by rw [← hlen]; exact hfk)) HF.out.size
              omega
            have hfl := HF.out.sz.files
            obtain ⟨c0, _⟩ := hR.c
            rw [hvF, hlen] at c0
            rw [hlen] at hfk hvF
            have hfzg := fun i => hR.ffz (g := g) (by rw [hvF]; rfl) i
            generalize hfs : Dk.cuts keep 0 d.files (L.take q) = fs at HR HNX f0 f1 hpart hsz hlen
            generalize (L.getD q ([], 0)).2 = f at HNX hfk e1 f0 f1 hpart hsz
            have HFX : Hid (Dk.file fs f = Dk.file fs f) := Lib.hid rfl
            obtain ⟨X, hX⟩ : ∃ X, X = Dk.file fs f := ⟨_, rfl⟩
            rw [← hX] at f0 f1 hpart hsz
            have HX := Lib.hid hX
            have HFZ := Lib.hid hfzg
            have HVF := Lib.hid hvF
            have HLEN := Lib.hid hlen
            obtain ⟨xs, xd⟩ := X
            simp only at f0 f1 hpart hsz
            have hxl : (Ty.S xs).size = xs.length := Ty.size_S xs
            obtain ⟨sx, hsx⟩ : ∃ sx, sx = Ty.S xs := ⟨_, rfl⟩
            rw [← hsx] at f0 hxl
            have HSX := Lib.hid hsx
            have hqi : (q : Int) < (L.length : Int) := by omega
            have hfi : (f : Int) < (d.files.length : Int) := by omega
            have hf0 : (0 : Int) ≤ (f : Int) := by omega
            have hwf : IntKind.i64.wrap (f : Int) = (f : Int) := by rw [IntKind.wrap_i64]; omega
            have hwq : IntKind.i64.wrap (q : Int) = (q : Int) := by rw [IntKind.wrap_i64]; omega
            subst hvL2
            have HXL := Lib.hid hxl
            have HPT := Lib.hid hpart
            have HE1 := Lib.hid (And.intro c0 (And.intro e1 (And.intro f0 f1)))
            have hcn : ∀ (a : Addr) (x : Value), wr.cell? a = some x → (wr.alloc (.cells #[.string ⟨#[]⟩, .int .i64 0] 69)).cell? a = some x := fun a x hx => (((Below.refl _ wr).alloc (Nat.le_refl _) _).cell (World.block_lt_of_cell? wr _ hx)).trans hx
            have c0n := hcn _ _ c0
            have e1n := hcn _ _ e1
            have f0n := hcn _ _ f0
            have f1n := hcn _ _ f1
            clear hX hsx hgx hR hD hO hfs hvF hlen hfzg hxl hpart hcn
            go_wp2_with fail
            go_region
            obtain ⟨wA, hwA⟩ : ∃ wA, wA = (wr.alloc (.cells #[.string sx, .int .i64 (xd : Int)] 69)).drew := ⟨_, rfl⟩
            have gA : Below wr.heap.size wr wA := by rw [hwA]; exact Below.drew ((Below.refl _ wr).alloc (Nat.le_refl _) _)
            have a0 : wA.cell? ⟨wr.heap.size, 0, none⟩ = some (.string sx) := by rw [hwA]; exact Kn.cell_new wr _ _ 0 _ rfl
            have a1 : wA.cell? ⟨wr.heap.size, 1, none⟩ = some (.int .i64 (xd : Int)) := by rw [hwA]; exact Kn.cell_new wr _ _ 1 _ rfl
            rw [← hwA]
            obtain ⟨B0, hB0⟩ : ∃ B0, B0 = wr.heap.size := ⟨_, rfl⟩
            rw [← hB0] at a0 a1 ⊢
            have hcA : ∀ (a : Addr) (x : Value), wr.cell? a = some x → wA.cell? a = some x := fun a x hx => (gA.cell (World.block_lt_of_cell? wr _ hx)).trans hx
            have c0A := hcA _ _ HE1.out.1
            have e1A := hcA _ _ HE1.out.2.1
            have f0A := hcA _ _ HE1.out.2.2.1
            have f1A := hcA _ _ HE1.out.2.2.2
            have HGA := Lib.hid gA
            have HB0 := Lib.hid hB0
            have hqs : (q : Int) < 1048576 := by omega
            have HSZ := Lib.hid hsz
            have HLL := Lib.hid hll
            have HFL := Lib.hid hfl
            clear hwA gA hcA c0 e1 f0 f1 c0n e1n f0n f1n hB0 hsz hll hfl hcl HFX hkn hk hws c3 c2 hwf hfi hf0
            try clear hA hAb
            try clear hB1 hB3
            obtain ⟨z, hz⟩ : ∃ z, sx.size = z := ⟨_, rfl⟩
            have hzl : (z : Int) ≤ 1099511627776 := by have := HXL.out; have := HSZ.out; omega
            have hxz : (xd : Int) ≤ (z : Int) := by have := HXL.out; have := HPT.out; omega
            have hxd0 : (0 : Int) ≤ (xd : Int) := by omega
            have hps : (0 : Int) ≤ (z : Int) - (xd : Int) := by omega
            go_upto_region 12 with (fail)
            go_wp2_with fail
            obtain ⟨N, hN⟩ : ∃ N, N = xd := ⟨_, rfl⟩
            have hcut : N = Dk.cutN (xs, xd) (Dk.keepAt keep q) := by
              unfold Dk.keepAt Dk.cutN
              rw [if_pos HKE.out, hN]
              simp
            have hNx : N ≤ z := by omega
            rw [← hN]
            clear hN
            have HCN : Hid (N = Dk.cutN (xs, xd) (Dk.keepAt keep q)) := Lib.hid hcut
            have hNi : (N : Int) ≤ (z : Int) := by omega
            have hN0 : (0 : Int) ≤ (N : Int) := by omega
            have htN : (N : Int).toNat = N := by omega
            have hfk2 : f < fs.length := by rw [HLEN.out]; omega
            have hgv : vF.ownBlock = some g := by rw [HVF.out]; rfl
            have fz0 := (HR.out.kept HGA.out).ffz hgv (f * 2)
            have fz1 := (HR.out.kept HGA.out).ffz hgv (f * 2 + 1)
            have HFIN := Lib.hid (Dk.cut_done HR.out HGA.out hgv hfk2 HX.out HSX.out HCN.out HNX.out HDD.out HO.out)
            have HHQ := Lib.hid (And.intro hql hq0)
            have hwf : IntKind.i64.wrap (f : Int) = (f : Int) := by have := HFL.out; rw [IntKind.wrap_i64]; omega
            have hfi : (f : Int) < (d.files.length : Int) := by omega
            have hf0 : (0 : Int) ≤ (f : Int) := by omega
            clear hgv hfk2 hcut hNx hql hxz hxd0
            refine wp_region_still_tail 16 (by kernel_rfl) (by kernel_rfl) ?_
            simp only [List.take_succ_cons, List.take_zero, List.drop_succ_cons, List.drop_zero]
            change wpStill _ _ (World.drew _) (fun a' => wpList _ _ _ _ a' (World.drew _)) _ _
            repeat still_step
            refine wpStill_nil ?_
            go_wp2
            go_roundw
            case rel => exact ⟨q + 1, by have := HHQ.out.1; omega, by simp, HFIN.out.1, HFIN.out.2.1, HFIN.out.2.2⟩
            case measure => have := HHQ.out.1; simp [intOf]; omega
          · obtain rfl : q = L.length := by omega
            obtain ⟨_, c1, c2, c3, _, c5, c6, _⟩ := hR.c
            have f1 := hR.fz 1
            have f2 := hR.fz 2
            have f3 := hR.fz 3
            have f5 := hR.fz 5
            have f6 := hR.fz 6
            have hql2 : ¬ (L.length : Int) < (L.length : Int) := by omega
            have HDN := Lib.hid (Dk.crash_done hR hD hO HAL.out)
            rw [List.take_length, ← HCR.out] at HDN
            clear hR hD hO
            go_wp2
            go_end0
            exact ⟨rfl, HDN.out⟩
set_option maxHeartbeats 8000000 in
set_option maxRecDepth 100000 in
theorem Dk.rcrash_cons {S : Nat → Prop} {p : Nat} {d : Dk.D} {w : World} (h : Dk.RAt S w p d) (hf : Dk.Fit d) (n : Int) (keep : List Int) (kl : Nat) (hkl : keep.length = kl) (bK oK cK : Nat) (hbS : ¬ S bK) (hbK : bK < w.heap.size) (hKc : ∀ i, i < keep.length → w.cell? ⟨bK, oK + i, none⟩ = some (.int .i64 (Ig.nth keep i))) (hkp : 0 < kl) (hkx : kl ≤ 1048576) :
    Calls Try.prog 47 #[.pointer (some ⟨p, 0, none⟩), .int .i64 n, .slice (some ⟨bK, oK, none⟩) kl cK] w fun e w' => e = .returned (.tuple #[]) ∧ Dk.Did S w p (Dk.crash d n keep) w' := by
  obtain ⟨vF, vD, vS, vC, h⟩ := h
  have HH := Lib.hid h
  have HF := Lib.hid hf
  have HAL := Lib.hid h.alive
  have HKL := Lib.hid hkl
  have HKC := Lib.hid hKc
  have HKP0 := Lib.hid (And.intro hkp (And.intro hkx (And.intro hbK hbS)))
  clear hkl hKc hkp hkx hbK hbS
  obtain ⟨aS, cS, hvS, _⟩ := h.sure
  obtain ⟨_, _, c2, _⟩ := h.c
  have hcl : d.chg.length ≤ 100000 := by have := hf.sz.dirs; omega
  rw [hvS] at c2
  have HDS : Hid (Dk.Dat S w (.slice aS d.sure.length cS) d.sure) := Lib.hid (by rw [← hvS]; exact h.sure)
  clear h hf hvS
  go_enter Try.func47, Try.ntmps47
  go_wp2
  go_loopw [6, 7] (fun ov i wr => ∃ k : Nat, k ≤ d.chg.length ∧ (k : Int) ≤ max n 0 ∧ i = .int .i64 k ∧ Dk.Dat (Dk.More S w wr) wr ov (Dk.fold d.sure (d.chg.take k)) ∧ Below w.heap.size w wr) (fun _ i _ => d.chg.length - (intOf i).toNat)
  case atStart => exact ⟨0, by omega, by omega, rfl, HDS.out.imp fun b hb => .inl hb, Below.refl _ _⟩
  case round =>
    obtain ⟨k, hk, hkn, rfl, hD, hb⟩ := hrel
    have hR := HH.out.kept hb
    have HB := Lib.hid hb
    have HD := Lib.hid hD
    have hws := hb.size
    have hk0 : (0 : Int) ≤ (k : Int) := by omega
    have hvC := hR.chg.form
    obtain ⟨_, _, _, c3, _⟩ := hR.c
    by_cases h12 : (k : Int) < n ∧ k < d.chg.length
    · obtain ⟨h1, h2⟩ := h12
      obtain ⟨c, hc⟩ : ∃ c, d.chg[k]? = some c := ⟨_, List.getElem?_eq_getElem h2⟩
      obtain ⟨g, cp, hvC2, e0, e1, e2⟩ := hR.chgAt hc
      have hcc := HF.out.chg c (List.mem_of_getElem? hc)
      have ca := Dk.rapply_c u6 (Dk.fold d.sure (d.chg.take k)) c wr HD.out (HF.out.foldShort k) hcc.1 hcc.2
      rw [← Dk.fold_next hc] at ca
      generalize Ty.S c.a = sa at e0 ca
      generalize Ty.S c.b = sb at e1 ca
      have hki : (k : Int) < (d.chg.length : Int) := by omega
      rw [hvC2] at c3
      clear hvC hvC2 hR hb hD hc hcc
      go_wp2_with fail
      with_reducible refine ca.mono ?_
      rintro e w1 ⟨u, rfl, hD1, g1⟩
      have HB1 := Lib.hid (HB.out.trans (g1.mono HB.out.size))
      have HD1 : Hid (Dk.Dat (Dk.More S w w1) w1 u (Dk.fold d.sure (d.chg.take (k + 1)))) := Lib.hid (hD1.alive.imp fun b hb => by
        rcases hb with ⟨(hb | hb) | hb, hlt⟩
        · exact .inl hb
        · exact .inr ⟨hb.1, hlt⟩
        · exact .inr ⟨by omega, hlt⟩)
      clear ca hD1 g1
      go_wp2
      go_roundw
      case rel => exact ⟨k + 1, by omega, by omega, by simp, HD1.out, HB1.out⟩
      case measure => simp [intOf]; omega
    · have HL := Lib.hid (Dk.crash_at (d := d) hkn (by omega))
      rw [HL.out] at HD
      have HWL := Lib.hid (HF.out.inv.crashDir n)
      have hsh := HF.out.foldShort k
      rw [HL.out] at hsh
      have hll := hsh.len
      obtain ⟨aL, cL, hvL, _⟩ := HD.out
      obtain ⟨aC, cC, hvC⟩ : ∃ a c, vC = .slice a d.chg.length c := by
        rcases hvC with ⟨e, e0⟩ | ⟨g, c, e, _⟩
        · exact ⟨_, _, by rw [e, e0]; rfl⟩
        · exact ⟨_, _, e⟩
      have HCR : Hid (Dk.crash d n keep = { d with files := Dk.cuts keep 0 d.files (Dk.crashDir d n), dir := Dk.crashDir d n, sure := Dk.crashDir d n, chg := [], halt := -1, deny := -1 }) := Lib.hid rfl
      generalize Dk.crashDir d n = L at HD HWL hsh hll hvL HCR
      rw [hvC] at c3
      have HR1 := Lib.hid hR
      have HOFF1 := Lib.hid (Dk.Off.of_below (S := S) hb)
      rcases (by omega : ¬ (k : Int) < n ∨ ((k : Int) < n ∧ k = d.chg.length)) with hA | ⟨hB1, hB2⟩
      · clear h12 HL hsh hvC hR hb hD
        have hAb : decide ((k : Int) < n) = false := by simpa using hA
        go_wp2_with fail
        rw [hvL] at HD
        go_loopw [8, 9, 10, 11] (fun i _ _ _ wr => ∃ q : Nat, q ≤ L.length ∧ i = .int .i64 q ∧ Dk.RA S wr p { d with files := Dk.cuts keep 0 d.files (L.take q) } vF vD vS vC ∧ Dk.Dat (Dk.More S w wr) wr (.slice aL L.length cL) L ∧ Dk.Off S w wr) (fun i _ _ _ _ => L.length - (intOf i).toNat)
        case atStart => exact ⟨0, by omega, rfl, HR1.out, HD.out, HOFF1.out⟩
        case round =>
          obtain ⟨q, hq, rfl, hR, hD, hO⟩ := hrel
          have HR := Lib.hid hR
          have HDD := Lib.hid hD
          have HO := Lib.hid hO
          have hq0 : (0 : Int) ≤ (q : Int) := by omega
          by_cases hql : q < L.length
          · have hgx := Dk.getD_at hql
            have hfk : (L.getD q ([], 0)).2 < (Dk.cuts keep 0 d.files (L.take q)).length := by rw [Dk.length_cuts]; exact HWL.out.lim _ (List.mem_of_getElem? hgx)
            have HNX := Lib.hid (Dk.cuts_next (keep := keep) (fs := d.files) hql)
            obtain ⟨b, o, e1, hvL2⟩ : ∃ b o, wr.cell? ⟨b, o + q * 2 + 1, none⟩ = some (.int .i64 ((L.getD q ([], 0)).2 : Int)) ∧ aL = some ⟨b, o, none⟩ := by
              obtain ⟨a', c', he, _, hh⟩ := hD
              simp only [Value.slice.injEq, true_and] at he
              obtain ⟨rfl, rfl⟩ := he
              rcases hh with ⟨h0, _⟩ | ⟨b, o, cs, fr, rfl, _, _, hh⟩
              · rw [h0] at hql; simp at hql
              · exact ⟨b, o, hh q 1 _ hgx (by omega), rfl⟩
            have hlen : (Dk.cuts keep 0 d.files (L.take q)).length = d.files.length := Dk.length_cuts _ _ _ _
            obtain ⟨g, c5, hvF, f0, f1⟩ := hR.fileAt (f := (L.getD q ([], 0)).2) hfk
            change wr.cell? _ = some (.string (Ty.S (Dk.file (Dk.cuts keep 0 d.files (L.take q)) (L.getD q ([], 0)).2).1)) at f0
            change wr.cell? _ = some (.int .i64 ((Dk.file (Dk.cuts keep 0 d.files (L.take q)) (L.getD q ([], 0)).2).2 : Int)) at f1
            change vF = .slice (some ⟨g, 0, none⟩) (Dk.cuts keep 0 d.files (L.take q)).length c5 at hvF
            have hpart : (Dk.file (Dk.cuts keep 0 d.files (L.take q)) (L.getD q ([], 0)).2).2 ≤ (Dk.file (Dk.cuts keep 0 d.files (L.take q)) (L.getD q ([], 0)).2).1.length := by
              have hl2 : ∀ y ∈ L.take q, y.2 < d.files.length := fun y hy => HWL.out.lim y (List.mem_of_mem_take hy)
              exact ((Dk.cuts_left keep (L.take q) 0 d.files HF.out.inv.file hl2).1 _).part
            have hsz : (Dk.file (Dk.cuts keep 0 d.files (L.take q)) (L.getD q ([], 0)).2).1.length ≤ 1099511627776 := by
              have hl2 : ∀ y ∈ L.take q, y.2 < d.files.length := fun y hy => HWL.out.lim y (List.mem_of_mem_take hy)
              have h1 := ((Dk.cuts_left keep (L.take q) 0 d.files HF.out.inv.file hl2).1 (L.getD q ([], 0)).2).le
              have h2 := Nat.le_trans (Dk.file_le (fs := d.files) (f := (L.getD q ([], 0)).2) (by rw [← hlen]; exact hfk)) HF.out.size
              omega
            have hfl := HF.out.sz.files
            obtain ⟨c0, _⟩ := hR.c
            rw [hvF, hlen] at c0
            rw [hlen] at hfk hvF
            have hfzg := fun i => hR.ffz (g := g) (by rw [hvF]; rfl) i
            generalize hfs : Dk.cuts keep 0 d.files (L.take q) = fs at HR HNX f0 f1 hpart hsz hlen
            generalize (L.getD q ([], 0)).2 = f at HNX hfk e1 f0 f1 hpart hsz
            have HFX : Hid (Dk.file fs f = Dk.file fs f) := Lib.hid rfl
            obtain ⟨X, hX⟩ : ∃ X, X = Dk.file fs f := ⟨_, rfl⟩
            rw [← hX] at f0 f1 hpart hsz
            have HX := Lib.hid hX
            have HFZ := Lib.hid hfzg
            have HVF := Lib.hid hvF
            have HLEN := Lib.hid hlen
            obtain ⟨xs, xd⟩ := X
            simp only at f0 f1 hpart hsz
            have hxl : (Ty.S xs).size = xs.length := Ty.size_S xs
            obtain ⟨sx, hsx⟩ : ∃ sx, sx = Ty.S xs := ⟨_, rfl⟩
            rw [← hsx] at f0 hxl
            have HSX := Lib.hid hsx
            have hqi : (q : Int) < (L.length : Int) := by omega
            have hfi : (f : Int) < (d.files.length : Int) := by omega
            have hf0 : (0 : Int) ≤ (f : Int) := by omega
            have hwf : IntKind.i64.wrap (f : Int) = (f : Int) := by rw [IntKind.wrap_i64]; omega
            have hwq : IntKind.i64.wrap (q : Int) = (q : Int) := by rw [IntKind.wrap_i64]; omega
            subst hvL2
            have HXL := Lib.hid hxl
            have HPT := Lib.hid hpart
            have HE1 := Lib.hid (And.intro c0 (And.intro e1 (And.intro f0 f1)))
            have hcn : ∀ (a : Addr) (x : Value), wr.cell? a = some x → (wr.alloc (.cells #[.string ⟨#[]⟩, .int .i64 0] 69)).cell? a = some x := fun a x hx => (((Below.refl _ wr).alloc (Nat.le_refl _) _).cell (World.block_lt_of_cell? wr _ hx)).trans hx
            have c0n := hcn _ _ c0
            have e1n := hcn _ _ e1
            have f0n := hcn _ _ f0
            have f1n := hcn _ _ f1
            clear hX hsx hgx hR hD hO hfs hvF hlen hfzg hxl hpart hcn
            go_wp2_with fail
            go_region
            obtain ⟨wA, hwA⟩ : ∃ wA, wA = (wr.alloc (.cells #[.string sx, .int .i64 (xd : Int)] 69)).drew := ⟨_, rfl⟩
            have gA : Below wr.heap.size wr wA := by rw [hwA]; exact Below.drew ((Below.refl _ wr).alloc (Nat.le_refl _) _)
            have a0 : wA.cell? ⟨wr.heap.size, 0, none⟩ = some (.string sx) := by rw [hwA]; exact Kn.cell_new wr _ _ 0 _ rfl
            have a1 : wA.cell? ⟨wr.heap.size, 1, none⟩ = some (.int .i64 (xd : Int)) := by rw [hwA]; exact Kn.cell_new wr _ _ 1 _ rfl
            rw [← hwA]
            obtain ⟨B0, hB0⟩ : ∃ B0, B0 = wr.heap.size := ⟨_, rfl⟩
            rw [← hB0] at a0 a1 ⊢
            have hcA : ∀ (a : Addr) (x : Value), wr.cell? a = some x → wA.cell? a = some x := fun a x hx => (gA.cell (World.block_lt_of_cell? wr _ hx)).trans hx
            have c0A := hcA _ _ HE1.out.1
            have e1A := hcA _ _ HE1.out.2.1
            have f0A := hcA _ _ HE1.out.2.2.1
            have f1A := hcA _ _ HE1.out.2.2.2
            have HGA := Lib.hid gA
            have HB0 := Lib.hid hB0
            have hqs : (q : Int) < 1048576 := by omega
            have HSZ := Lib.hid hsz
            have HLL := Lib.hid hll
            have HFL := Lib.hid hfl
            clear hwA gA hcA c0 e1 f0 f1 c0n e1n f0n f1n hB0 hsz hll hfl hcl HFX hkn hk hws c3 c2 hwf hfi hf0
            try clear hA hAb
            try clear hB1 hB3
            obtain ⟨z, hz⟩ : ∃ z, sx.size = z := ⟨_, rfl⟩
            have hzl : (z : Int) ≤ 1099511627776 := by have := HXL.out; have := HSZ.out; omega
            have hxz : (xd : Int) ≤ (z : Int) := by have := HXL.out; have := HPT.out; omega
            have hxd0 : (0 : Int) ≤ (xd : Int) := by omega
            obtain ⟨m, hm⟩ : ∃ m, m = q % kl := ⟨_, rfl⟩
            have hkp := HKP0.out.1
            have hmk : m < kl := by rw [hm]; exact Nat.mod_lt _ hkp
            have hcm := (HGA.out.cell (p := ⟨bK, oK + m, none⟩) (by show bK < wr.heap.size; have := HO.out.size; have := HKP0.out.2.2.1; omega)).trans ((World.cell?_of_block (a := ⟨bK, oK + m, none⟩) (HO.out.block bK HKP0.out.2.2.1 HKP0.out.2.2.2)).trans (HKC.out m (by rw [HKL.out]; exact hmk)))
            have hti : (q : Int).tmod (kl : Int) = (m : Int) := by rw [hm, Int.tmod_eq_emod_of_nonneg (by omega)]; rfl
            have hei : (q : Int) % (kl : Int) = (m : Int) := by rw [hm]; rfl
            have hkpi : (kl : Int) > 0 := by omega
            have hmi : (m : Int) < (kl : Int) := by omega
            have hm0 : (0 : Int) ≤ (m : Int) := by omega
            have hkne : ¬ (kl : Int) = 0 := by omega
            have HMM := Lib.hid hm
            have hkl2 : (kl : Int) ≤ 1048576 := by have := HKP0.out.2.1; omega
            clear hm
            generalize hkv : Ig.nth keep m = kv at hcm
            have HKV := Lib.hid hkv
            clear hkv
            go_upto_region 12 with (fail)
            generalize hkk : (if kv < 0 then 0 else kv) = kk
            have hkk0 : 0 ≤ kk := by rw [← hkk]; split <;> omega
            have HKP : Hid (Dk.keepAt keep q = kk) := Lib.hid (by
              unfold Dk.keepAt
              rw [if_neg (by intro e; have := HKL.out; rw [e] at this; simp at this; omega), HKL.out, ← HMM.out]
              have h1 : keep.getD m 0 = kv := HKV.out
              rw [h1, ← hkk]
              split <;> omega)
            clear hkk hti hei hkpi hmi hm0 hkne hkl2 hcm hmk hkp
            rcases (by omega : kk ≤ (z : Int) - (xd : Int) ∨ (z : Int) - (xd : Int) < kk) with hmn | hmn
            · obtain ⟨N, hN⟩ : ∃ N : Nat, (xd : Int) + kk = (N : Int) := ⟨((xd : Int) + kk).toNat, by omega⟩
              have hnm : ¬ (z : Int) - (xd : Int) < kk := by omega
              have hwN : IntKind.i64.wrap ((xd : Int) + kk) = (N : Int) := by rw [hN, IntKind.wrap_i64]; omega
              have HCUT : Hid (N = Dk.cutN (xs, xd) (Dk.keepAt keep q)) := Lib.hid (by
                rw [HKP.out]
                unfold Dk.cutN
                show N = xd + min kk.toNat (xs.length - xd)
                have := HXL.out
                omega)
              have hNx : N ≤ z := by omega
              go_wp2_with fail
              have hcut := HCUT.out
              have HCN : Hid (N = Dk.cutN (xs, xd) (Dk.keepAt keep q)) := Lib.hid hcut
              have hNi : (N : Int) ≤ (z : Int) := by omega
              have hN0 : (0 : Int) ≤ (N : Int) := by omega
              have htN : (N : Int).toNat = N := by omega
              have hfk2 : f < fs.length := by rw [HLEN.out]; omega
              have hgv : vF.ownBlock = some g := by rw [HVF.out]; rfl
              have fz0 := (HR.out.kept HGA.out).ffz hgv (f * 2)
              have fz1 := (HR.out.kept HGA.out).ffz hgv (f * 2 + 1)
              have HFIN := Lib.hid (Dk.cut_done HR.out HGA.out hgv hfk2 HX.out HSX.out HCN.out HNX.out HDD.out HO.out)
              have HHQ := Lib.hid (And.intro hql hq0)
              have hwf : IntKind.i64.wrap (f : Int) = (f : Int) := by have := HFL.out; rw [IntKind.wrap_i64]; omega
              have hfi : (f : Int) < (d.files.length : Int) := by omega
              have hf0 : (0 : Int) ≤ (f : Int) := by omega
              clear hgv hfk2 hcut hNx hql hxz hxd0
              refine wp_region_still_tail 16 (by kernel_rfl) (by kernel_rfl) ?_
              simp only [List.take_succ_cons, List.take_zero, List.drop_succ_cons, List.drop_zero]
              change wpStill _ _ (World.drew _) (fun a' => wpList _ _ _ _ a' (World.drew _)) _ _
              repeat still_step
              refine wpStill_nil ?_
              go_wp2
              go_roundw
              case rel => exact ⟨q + 1, by have := HHQ.out.1; omega, by simp, HFIN.out.1, HFIN.out.2.1, HFIN.out.2.2⟩
              case measure => have := HHQ.out.1; simp [intOf]; omega
            · obtain ⟨N, hN⟩ : ∃ N : Nat, N = z := ⟨_, rfl⟩
              have hwN : IntKind.i64.wrap ((xd : Int) + ((z : Int) - (xd : Int))) = (N : Int) := by rw [hN, IntKind.wrap_i64]; omega
              have hN' : (xd : Int) + ((z : Int) - (xd : Int)) = (N : Int) := by omega
              have HCUT : Hid (N = Dk.cutN (xs, xd) (Dk.keepAt keep q)) := Lib.hid (by
                rw [HKP.out]
                unfold Dk.cutN
                show N = xd + min kk.toNat (xs.length - xd)
                have := HXL.out
                omega)
              have hNx : N ≤ z := by omega
              have HNZ := Lib.hid hN
              clear hN
              go_wp2_with fail
              have hcut := HCUT.out
              have HCN : Hid (N = Dk.cutN (xs, xd) (Dk.keepAt keep q)) := Lib.hid hcut
              have hNi : (N : Int) ≤ (z : Int) := by omega
              have hN0 : (0 : Int) ≤ (N : Int) := by omega
              have htN : (N : Int).toNat = N := by omega
              have hfk2 : f < fs.length := by rw [HLEN.out]; omega
              have hgv : vF.ownBlock = some g := by rw [HVF.out]; rfl
              have fz0 := (HR.out.kept HGA.out).ffz hgv (f * 2)
              have fz1 := (HR.out.kept HGA.out).ffz hgv (f * 2 + 1)
              have HFIN := Lib.hid (Dk.cut_done HR.out HGA.out hgv hfk2 HX.out HSX.out HCN.out HNX.out HDD.out HO.out)
              have HHQ := Lib.hid (And.intro hql hq0)
              have hwf : IntKind.i64.wrap (f : Int) = (f : Int) := by have := HFL.out; rw [IntKind.wrap_i64]; omega
              have hfi : (f : Int) < (d.files.length : Int) := by omega
              have hf0 : (0 : Int) ≤ (f : Int) := by omega
              clear hgv hfk2 hcut hNx hql hxz hxd0
              refine wp_region_still_tail 16 (by kernel_rfl) (by kernel_rfl) ?_
              simp only [List.take_succ_cons, List.take_zero, List.drop_succ_cons, List.drop_zero]
              change wpStill _ _ (World.drew _) (fun a' => wpList _ _ _ _ a' (World.drew _)) _ _
              repeat still_step
              refine wpStill_nil ?_
              go_wp2
              go_roundw
              case rel => exact ⟨q + 1, by have := HHQ.out.1; omega, by simp, HFIN.out.1, HFIN.out.2.1, HFIN.out.2.2⟩
              case measure => have := HHQ.out.1; simp [intOf]; omega
          · obtain rfl : q = L.length := by omega
            obtain ⟨_, c1, c2, c3, _, c5, c6, _⟩ := hR.c
            have f1 := hR.fz 1
            have f2 := hR.fz 2
            have f3 := hR.fz 3
            have f5 := hR.fz 5
            have f6 := hR.fz 6
            have hql2 : ¬ (L.length : Int) < (L.length : Int) := by omega
            have HDN := Lib.hid (Dk.crash_done hR hD hO HAL.out)
            rw [List.take_length, ← HCR.out] at HDN
            clear hR hD hO
            go_wp2
            go_end0
            exact ⟨rfl, HDN.out⟩
      · have hB3 : ¬ (k : Int) < (d.chg.length : Int) := by omega
        clear h12 HL hsh hvC hR hb hD hB2
        go_wp2_with fail
        rw [hvL] at HD
        go_loopw [8, 9, 10, 11] (fun i _ _ _ wr => ∃ q : Nat, q ≤ L.length ∧ i = .int .i64 q ∧ Dk.RA S wr p { d with files := Dk.cuts keep 0 d.files (L.take q) } vF vD vS vC ∧ Dk.Dat (Dk.More S w wr) wr (.slice aL L.length cL) L ∧ Dk.Off S w wr) (fun i _ _ _ _ => L.length - (intOf i).toNat)
        case atStart => exact ⟨0, by omega, rfl, HR1.out, HD.out, HOFF1.out⟩
        case round =>
          obtain ⟨q, hq, rfl, hR, hD, hO⟩ := hrel
          have HR := Lib.hid hR
          have HDD := Lib.hid hD
          have HO := Lib.hid hO
          have hq0 : (0 : Int) ≤ (q : Int) := by omega
          by_cases hql : q < L.length
          · have hgx := Dk.getD_at hql
            have hfk : (L.getD q ([], 0)).2 < (Dk.cuts keep 0 d.files (L.take q)).length := by rw [Dk.length_cuts]; exact HWL.out.lim _ (List.mem_of_getElem? hgx)
            have HNX := Lib.hid (Dk.cuts_next (keep := keep) (fs := d.files) hql)
            obtain ⟨b, o, e1, hvL2⟩ : ∃ b o, wr.cell? ⟨b, o + q * 2 + 1, none⟩ = some (.int .i64 ((L.getD q ([], 0)).2 : Int)) ∧ aL = some ⟨b, o, none⟩ := by
              obtain ⟨a', c', he, _, hh⟩ := hD
              simp only [Value.slice.injEq, true_and] at he
              obtain ⟨rfl, rfl⟩ := he
              rcases hh with ⟨h0, _⟩ | ⟨b, o, cs, fr, rfl, _, _, hh⟩
              · rw [h0] at hql; simp at hql
              · exact ⟨b, o, hh q 1 _ hgx (by omega), rfl⟩
            have hlen : (Dk.cuts keep 0 d.files (L.take q)).length = d.files.length := Dk.length_cuts _ _ _ _
            obtain ⟨g, c5, hvF, f0, f1⟩ := hR.fileAt (f := (L.getD q ([], 0)).2) hfk
            change wr.cell? _ = some (.string (Ty.S (Dk.file (Dk.cuts keep 0 d.files (L.take q)) (L.getD q ([], 0)).2).1)) at f0
            change wr.cell? _ = some (.int .i64 ((Dk.file (Dk.cuts keep 0 d.files (L.take q)) (L.getD q ([], 0)).2).2 : Int)) at f1
            change vF = .slice (some ⟨g, 0, none⟩) (Dk.cuts keep 0 d.files (L.take q)).length c5 at hvF
            have hpart : (Dk.file (Dk.cuts keep 0 d.files (L.take q)) (L.getD q ([], 0)).2).2 ≤ (Dk.file (Dk.cuts keep 0 d.files (L.take q)) (L.getD q ([], 0)).2).1.length := by
              have hl2 : ∀ y ∈ L.take q, y.2 < d.files.length := fun y hy => HWL.out.lim y (List.mem_of_mem_take hy)
              exact ((Dk.cuts_left keep (L.take q) 0 d.files HF.out.inv.file hl2).1 _).part
            have hsz : (Dk.file (Dk.cuts keep 0 d.files (L.take q)) (L.getD q ([], 0)).2).1.length ≤ 1099511627776 := by
              have hl2 : ∀ y ∈ L.take q, y.2 < d.files.length := fun y hy => HWL.out.lim y (List.mem_of_mem_take hy)
              have h1 := ((Dk.cuts_left keep (L.take q) 0 d.files HF.out.inv.file hl2).1 (L.getD q ([], 0)).2).le
              have h2 := Nat.le_trans (Dk.file_le (fs := d.files) (f := (L.getD q ([], 0)).2) (by rw [← hlen]; exact hfk)) HF.out.size
              omega
            have hfl := HF.out.sz.files
            obtain ⟨c0, _⟩ := hR.c
            rw [hvF, hlen] at c0
            rw [hlen] at hfk hvF
            have hfzg := fun i => hR.ffz (g := g) (by rw [hvF]; rfl) i
            generalize hfs : Dk.cuts keep 0 d.files (L.take q) = fs at HR HNX f0 f1 hpart hsz hlen
            generalize (L.getD q ([], 0)).2 = f at HNX hfk e1 f0 f1 hpart hsz
            have HFX : Hid (Dk.file fs f = Dk.file fs f) := Lib.hid rfl
            obtain ⟨X, hX⟩ : ∃ X, X = Dk.file fs f := ⟨_, rfl⟩
            rw [← hX] at f0 f1 hpart hsz
            have HX := Lib.hid hX
            have HFZ := Lib.hid hfzg
            have HVF := Lib.hid hvF
            have HLEN := Lib.hid hlen
            obtain ⟨xs, xd⟩ := X
            simp only at f0 f1 hpart hsz
            have hxl : (Ty.S xs).size = xs.length := Ty.size_S xs
            obtain ⟨sx, hsx⟩ : ∃ sx, sx = Ty.S xs := ⟨_, rfl⟩
            rw [← hsx] at f0 hxl
            have HSX := Lib.hid hsx
            have hqi : (q : Int) < (L.length : Int) := by omega
            have hfi : (f : Int) < (d.files.length : Int) := by omega
            have hf0 : (0 : Int) ≤ (f : Int) := by omega
            have hwf : IntKind.i64.wrap (f : Int) = (f : Int) := by rw [IntKind.wrap_i64]; omega
            have hwq : IntKind.i64.wrap (q : Int) = (q : Int) := by rw [IntKind.wrap_i64]; omega
            subst hvL2
            have HXL := Lib.hid hxl
            have HPT := Lib.hid hpart
            have HE1 := Lib.hid (And.intro c0 (And.intro e1 (And.intro f0 f1)))
            have hcn : ∀ (a : Addr) (x : Value), wr.cell? a = some x → (wr.alloc (.cells #[.string ⟨#[]⟩, .int .i64 0] 69)).cell? a = some x := fun a x hx => (((Below.refl _ wr).alloc (Nat.le_refl _) _).cell (World.block_lt_of_cell? wr _ hx)).trans hx
            have c0n := hcn _ _ c0
            have e1n := hcn _ _ e1
            have f0n := hcn _ _ f0
            have f1n := hcn _ _ f1
            clear hX hsx hgx hR hD hO hfs hvF hlen hfzg hxl hpart hcn
            go_wp2_with fail
            go_region
            obtain ⟨wA, hwA⟩ : ∃ wA, wA = (wr.alloc (.cells #[.string sx, .int .i64 (xd : Int)] 69)).drew := ⟨_, rfl⟩
            have gA : Below wr.heap.size wr wA := by rw [hwA]; exact Below.drew ((Below.refl _ wr).alloc (Nat.le_refl _) _)
            have a0 : wA.cell? ⟨wr.heap.size, 0, none⟩ = some (.string sx) := by rw [hwA]; exact Kn.cell_new wr _ _ 0 _ rfl
            have a1 : wA.cell? ⟨wr.heap.size, 1, none⟩ = some (.int .i64 (xd : Int)) := by rw [hwA]; exact Kn.cell_new wr _ _ 1 _ rfl
            rw [← hwA]
            obtain ⟨B0, hB0⟩ : ∃ B0, B0 = wr.heap.size := ⟨_, rfl⟩
            rw [← hB0] at a0 a1 ⊢
            have hcA : ∀ (a : Addr) (x : Value), wr.cell? a = some x → wA.cell? a = some x := fun a x hx => (gA.cell (World.block_lt_of_cell? wr _ hx)).trans hx
            have c0A := hcA _ _ HE1.out.1
            have e1A := hcA _ _ HE1.out.2.1
            have f0A := hcA _ _ HE1.out.2.2.1
            have f1A := hcA _ _ HE1.out.2.2.2
            have HGA := Lib.hid gA
            have HB0 := Lib.hid hB0
            have hqs : (q : Int) < 1048576 := by omega
            have HSZ := Lib.hid hsz
            have HLL := Lib.hid hll
            have HFL := Lib.hid hfl
            clear hwA gA hcA c0 e1 f0 f1 c0n e1n f0n f1n hB0 hsz hll hfl hcl HFX hkn hk hws c3 c2 hwf hfi hf0
            try clear hA hAb
            try clear hB1 hB3
            obtain ⟨z, hz⟩ : ∃ z, sx.size = z := ⟨_, rfl⟩
            have hzl : (z : Int) ≤ 1099511627776 := by have := HXL.out; have := HSZ.out; omega
            have hxz : (xd : Int) ≤ (z : Int) := by have := HXL.out; have := HPT.out; omega
            have hxd0 : (0 : Int) ≤ (xd : Int) := by omega
            obtain ⟨m, hm⟩ : ∃ m, m = q % kl := ⟨_, rfl⟩
            have hkp := HKP0.out.1
            have hmk : m < kl := by rw [hm]; exact Nat.mod_lt _ hkp
            have hcm := (HGA.out.cell (p := ⟨bK, oK + m, none⟩) (by show bK < wr.heap.size; have := HO.out.size; have := HKP0.out.2.2.1; omega)).trans ((World.cell?_of_block (a := ⟨bK, oK + m, none⟩) (HO.out.block bK HKP0.out.2.2.1 HKP0.out.2.2.2)).trans (HKC.out m (by rw [HKL.out]; exact hmk)))
            have hti : (q : Int).tmod (kl : Int) = (m : Int) := by rw [hm, Int.tmod_eq_emod_of_nonneg (by omega)]; rfl
            have hei : (q : Int) % (kl : Int) = (m : Int) := by rw [hm]; rfl
            have hkpi : (kl : Int) > 0 := by omega
            have hmi : (m : Int) < (kl : Int) := by omega
            have hm0 : (0 : Int) ≤ (m : Int) := by omega
            have hkne : ¬ (kl : Int) = 0 := by omega
            have HMM := Lib.hid hm
            have hkl2 : (kl : Int) ≤ 1048576 := by have := HKP0.out.2.1; omega
            clear hm
            generalize hkv : Ig.nth keep m = kv at hcm
            have HKV := Lib.hid hkv
            clear hkv
            go_upto_region 12 with (fail)
            generalize hkk : (if kv < 0 then 0 else kv) = kk
            have hkk0 : 0 ≤ kk := by rw [← hkk]; split <;> omega
            have HKP : Hid (Dk.keepAt keep q = kk) := Lib.hid (by
              unfold Dk.keepAt
              rw [if_neg (by intro e; have := HKL.out; rw [e] at this; simp at this; omega), HKL.out, ← HMM.out]
              have h1 : keep.getD m 0 = kv := HKV.out
              rw [h1, ← hkk]
              split <;> omega)
            clear hkk hti hei hkpi hmi hm0 hkne hkl2 hcm hmk hkp
            rcases (by omega : kk ≤ (z : Int) - (xd : Int) ∨ (z : Int) - (xd : Int) < kk) with hmn | hmn
            · obtain ⟨N, hN⟩ : ∃ N : Nat, (xd : Int) + kk = (N : Int) := ⟨((xd : Int) + kk).toNat, by omega⟩
              have hnm : ¬ (z : Int) - (xd : Int) < kk := by omega
              have hwN : IntKind.i64.wrap ((xd : Int) + kk) = (N : Int) := by rw [hN, IntKind.wrap_i64]; omega
              have HCUT : Hid (N = Dk.cutN (xs, xd) (Dk.keepAt keep q)) := Lib.hid (by
                rw [HKP.out]
                unfold Dk.cutN
                show N = xd + min kk.toNat (xs.length - xd)
                have := HXL.out
                omega)
              have hNx : N ≤ z := by omega
              go_wp2_with fail
              have hcut := HCUT.out
              have HCN : Hid (N = Dk.cutN (xs, xd) (Dk.keepAt keep q)) := Lib.hid hcut
              have hNi : (N : Int) ≤ (z : Int) := by omega
              have hN0 : (0 : Int) ≤ (N : Int) := by omega
              have htN : (N : Int).toNat = N := by omega
              have hfk2 : f < fs.length := by rw [HLEN.out]; omega
              have hgv : vF.ownBlock = some g := by rw [HVF.out]; rfl
              have fz0 := (HR.out.kept HGA.out).ffz hgv (f * 2)
              have fz1 := (HR.out.kept HGA.out).ffz hgv (f * 2 + 1)
              have HFIN := Lib.hid (Dk.cut_done HR.out HGA.out hgv hfk2 HX.out HSX.out HCN.out HNX.out HDD.out HO.out)
              have HHQ := Lib.hid (And.intro hql hq0)
              have hwf : IntKind.i64.wrap (f : Int) = (f : Int) := by have := HFL.out; rw [IntKind.wrap_i64]; omega
              have hfi : (f : Int) < (d.files.length : Int) := by omega
              have hf0 : (0 : Int) ≤ (f : Int) := by omega
              clear hgv hfk2 hcut hNx hql hxz hxd0
              refine wp_region_still_tail 16 (by kernel_rfl) (by kernel_rfl) ?_
              simp only [List.take_succ_cons, List.take_zero, List.drop_succ_cons, List.drop_zero]
              change wpStill _ _ (World.drew _) (fun a' => wpList _ _ _ _ a' (World.drew _)) _ _
              repeat still_step
              refine wpStill_nil ?_
              go_wp2
              go_roundw
              case rel => exact ⟨q + 1, by have := HHQ.out.1; omega, by simp, HFIN.out.1, HFIN.out.2.1, HFIN.out.2.2⟩
              case measure => have := HHQ.out.1; simp [intOf]; omega
            · obtain ⟨N, hN⟩ : ∃ N : Nat, N = z := ⟨_, rfl⟩
              have hwN : IntKind.i64.wrap ((xd : Int) + ((z : Int) - (xd : Int))) = (N : Int) := by rw [hN, IntKind.wrap_i64]; omega
              have hN' : (xd : Int) + ((z : Int) - (xd : Int)) = (N : Int) := by omega
              have HCUT : Hid (N = Dk.cutN (xs, xd) (Dk.keepAt keep q)) := Lib.hid (by
                rw [HKP.out]
                unfold Dk.cutN
                show N = xd + min kk.toNat (xs.length - xd)
                have := HXL.out
                omega)
              have hNx : N ≤ z := by omega
              have HNZ := Lib.hid hN
              clear hN
              go_wp2_with fail
              have hcut := HCUT.out
              have HCN : Hid (N = Dk.cutN (xs, xd) (Dk.keepAt keep q)) := Lib.hid hcut
              have hNi : (N : Int) ≤ (z : Int) := by omega
              have hN0 : (0 : Int) ≤ (N : Int) := by omega
              have htN : (N : Int).toNat = N := by omega
              have hfk2 : f < fs.length := by rw [HLEN.out]; omega
              have hgv : vF.ownBlock = some g := by rw [HVF.out]; rfl
              have fz0 := (HR.out.kept HGA.out).ffz hgv (f * 2)
              have fz1 := (HR.out.kept HGA.out).ffz hgv (f * 2 + 1)
              have HFIN := Lib.hid (Dk.cut_done HR.out HGA.out hgv hfk2 HX.out HSX.out HCN.out HNX.out HDD.out HO.out)
              have HHQ := Lib.hid (And.intro hql hq0)
              have hwf : IntKind.i64.wrap (f : Int) = (f : Int) := by have := HFL.out; rw [IntKind.wrap_i64]; omega
              have hfi : (f : Int) < (d.files.length : Int) := by omega
              have hf0 : (0 : Int) ≤ (f : Int) := by omega
              clear hgv hfk2 hcut hNx hql hxz hxd0
              refine wp_region_still_tail 16 (by kernel_rfl) (by kernel_rfl) ?_
              simp only [List.take_succ_cons, List.take_zero, List.drop_succ_cons, List.drop_zero]
              change wpStill _ _ (World.drew _) (fun a' => wpList _ _ _ _ a' (World.drew _)) _ _
              repeat still_step
              refine wpStill_nil ?_
              go_wp2
              go_roundw
              case rel => exact ⟨q + 1, by have := HHQ.out.1; omega, by simp, HFIN.out.1, HFIN.out.2.1, HFIN.out.2.2⟩
              case measure => have := HHQ.out.1; simp [intOf]; omega
          · obtain rfl : q = L.length := by omega
            obtain ⟨_, c1, c2, c3, _, c5, c6, _⟩ := hR.c
            have f1 := hR.fz 1
            have f2 := hR.fz 2
            have f3 := hR.fz 3
            have f5 := hR.fz 5
            have f6 := hR.fz 6
            have hql2 : ¬ (L.length : Int) < (L.length : Int) := by omega
            have HDN := Lib.hid (Dk.crash_done hR hD hO HAL.out)
            rw [List.take_length, ← HCR.out] at HDN
            clear hR hD hO
            go_wp2
            go_end0
            exact ⟨rfl, HDN.out⟩
/-- What a crash is to keep, in hand: not the disk's own. -/
def Dk.Keep (S : Nat → Prop) (w : World) (vK : Value) (keep : List Int) : Prop :=
  ∃ a c, vK = .slice a keep.length c ∧ keep.length ≤ 1048576 ∧ (keep = [] ∨ ∃ b o, a = some ⟨b, o, none⟩ ∧ ¬ S b ∧ b < w.heap.size ∧ ∀ i, i < keep.length → w.cell? ⟨b, o + i, none⟩ = some (.int .i64 (Ig.nth keep i)))
theorem Dk.Keep.of {S : Nat → Prop} {w : World} {vK : Value} {keep : List Int} {base : Nat} (h : Ig.At base w vK keep) (hS : ∀ b, S b → base ≤ b) (hl : keep.length ≤ 1048576) : Dk.Keep S w vK keep := by
  obtain ⟨aK, cK, rfl, _, hB, hc⟩ := h
  refine ⟨aK, cK, rfl, hl, ?_⟩
  rcases hc with hc | ⟨b, o, rfl, hb, hc⟩
  · exact .inl hc
  · exact .inr ⟨b, o, rfl, fun hs => by have := hS b hs; omega, by omega, hc⟩
theorem Dk.rcrash_c {S : Nat → Prop} {p : Nat} {d : Dk.D} {w : World} (h : Dk.RAt S w p d) (hf : Dk.Fit d) (n : Int) (keep : List Int) (vK : Value) (hK : Dk.Keep S w vK keep) :
    Calls Try.prog 47 #[.pointer (some ⟨p, 0, none⟩), .int .i64 n, vK] w fun e w' => e = .returned (.tuple #[]) ∧ Dk.Did S w p (Dk.crash d n keep) w' := by
  obtain ⟨aK, cK, rfl, hkl, hc⟩ := hK
  by_cases hke : keep = []
  · have h0 : keep.length = 0 := by rw [hke]; rfl
    rw [h0]
    exact Dk.rcrash_nil h hf n keep hke aK cK
  · rcases hc with hc | ⟨b, o, rfl, hbS, hb, hc⟩
    · exact absurd hc hke
    · exact Dk.rcrash_cons h hf n keep keep.length rfl b o cK hbS hb hc (by
        rcases Nat.eq_zero_or_pos keep.length with h | h
        · exact absurd (List.eq_nil_of_length_eq_zero h) hke
        · exact h) hkl
end Go.Proofs.Ytfkdkdkdpenblaa
