/-
  The document's disk: what is held, what a file has, the names.
  The document's disk: a file more, a file turned; Create, Append, Sync.
  The document's disk: Append.
-/
import Derived.Test.YtfkdkdkdpenblaaZM
import Derived.Deep.QuietTactic
import Derived.StillTailTactics
namespace Go.Proofs.Ytfkdkdkdpenblaa
open Go.RowKit
theorem Dk.held_snoc {fs : List (Dk.Str × Nat)} {l : Dk.Dir} {k : Nat} (h : k < l.length) : Dk.heldL fs (l.take (k + 1)) = Dk.heldL fs (l.take k) + (Dk.file fs (l.getD k ([], 0)).2).1.length := by
  have e : l.take (k + 1) = l.take k ++ [l.getD k ([], 0)] := by
    rw [List.take_succ_eq_append_getElem h, List.getD, List.getElem?_eq_getElem h]
    rfl
  rw [e]
  unfold Dk.heldL
  rw [List.map_append, List.sum_append]
  simp
theorem Dk.held_take (fs : List (Dk.Str × Nat)) : ∀ (l : Dk.Dir) (k : Nat), Dk.heldL fs (l.take k) ≤ Dk.heldL fs l
  | [], k => by rw [List.take_nil]; exact Nat.le_refl _
  | a :: l, 0 => Nat.zero_le _
  | a :: l, k + 1 => by
    have := Dk.held_take fs l k
    rw [List.take_succ_cons, Dk.heldL_cons, Dk.heldL_cons]
    omega
theorem Dk.file_at {fs : List (Dk.Str × Nat)} {f : Nat} (h : f < fs.length) : fs[f]? = some (Dk.file fs f) := by
  unfold Dk.file
  rw [Dk.getD_lt h, List.getElem?_eq_getElem h]
/-- A file's cells. -/
theorem Dk.RA.fileAt {S : Nat → Prop} {p : Nat} {d : Dk.D} {vF vD vS vC : Value} {w : World} (h : Dk.RA S w p d vF vD vS vC) {f : Nat} (hf : f < d.files.length) :
    ∃ g c, vF = .slice (some ⟨g, 0, none⟩) d.files.length c ∧ w.cell? ⟨g, f * 2, none⟩ = some (.string (Ty.S (Dk.file d.files f).1)) ∧ w.cell? ⟨g, f * 2 + 1, none⟩ = some (.int .i64 ((Dk.file d.files f).2 : Int)) := by
  rcases h.files.form with ⟨_, h0⟩ | ⟨g, c, rfl, _, _, _, _⟩
  · rw [h0] at hf; simp at hf
  · exact ⟨g, c, rfl, h.files.cell Dk.encN_len rfl (Dk.file_at hf) (by omega : 0 < 2), h.files.cell Dk.encN_len rfl (Dk.file_at hf) (by omega : 1 < 2)⟩
theorem Dk.RA.dirAt {S : Nat → Prop} {p : Nat} {d : Dk.D} {vF vD vS vC : Value} {w : World} (h : Dk.RA S w p d vF vD vS vC) {k : Nat} (hk : k < d.dir.length) :
    ∃ b o c, vD = .slice (some ⟨b, o, none⟩) d.dir.length c ∧ w.cell? ⟨b, o + k * 2, none⟩ = some (.string (Ty.S (d.dir.getD k ([], 0)).1)) ∧ w.cell? ⟨b, o + k * 2 + 1, none⟩ = some (.int .i64 ((d.dir.getD k ([], 0)).2 : Int)) := by
  obtain ⟨a, c, rfl, _, h⟩ := h.dir
  rcases h with ⟨h0, _⟩ | ⟨b, o, cs, fr, rfl, _, _, h⟩
  · rw [h0] at hk; simp at hk
  · exact ⟨b, o, c, rfl, h k 0 _ (Dk.getD_at hk) (by omega), h k 1 _ (Dk.getD_at hk) (by omega)⟩
set_option maxHeartbeats 2000000 in
set_option maxRecDepth 100000 in
theorem Dk.rheld_c {S : Nat → Prop} {p : Nat} {d : Dk.D} {vF vD vS vC : Value} {w : World} (h : Dk.RA S w p d vF vD vS vC) (hi : Dk.Inv d) (hz : Dk.size d.files ≤ 1099511627776) (hl : d.dir.length ≤ 1048576) :
    Calls Try.prog 18 #[.pointer (some ⟨p, 0, none⟩)] w fun e w' => e = .returned (.int .i64 ((Dk.held d : Nat) : Int)) ∧ ∃ m, w' = w.drewN m := by
  have HH := Lib.hid h
  have HI := Lib.hid hi.dir.lim
  have HBD : Hid (∀ k, Dk.heldL d.files (d.dir.take k) ≤ 1099511627776) := Lib.hid fun k => Nat.le_trans (Dk.held_take _ _ _) (Nat.le_trans hi.held hz)
  obtain ⟨ad, cd, hvD, _⟩ := h.dir
  clear h hi hz
  go_enter Try.func18, Try.ntmps18
  go_wp2
  go_loopw [3, 4] (fun n i wr => ∃ k m : Nat, k ≤ d.dir.length ∧ i = .int .i64 k ∧ n = .int .i64 (Dk.heldL d.files (d.dir.take k) : Nat) ∧ wr = w.drewN m) (fun _ i _ => d.dir.length - (intOf i).toNat)
  case atStart => exact ⟨0, 0, by omega, rfl, rfl, rfl⟩
  case round =>
    obtain ⟨k, m, hk, rfl, rfl, hwr⟩ := hrel
    have hR := HH.out.kept (w' := wr) (by rw [hwr]; exact Bt.drewN_below _ _)
    have HWR := Lib.hid hwr
    obtain ⟨c0, c1, _⟩ := hR.c
    have hk0 : (0 : Int) ≤ (k : Int) := by omega
    clear hwr
    by_cases hlk : k < d.dir.length
    · obtain ⟨b, o, c2, hv2, e0, e1⟩ := hR.dirAt hlk
      have hfk := HI.out _ (List.mem_of_getElem? (Dk.getD_at hlk))
      have HN := Lib.hid (Dk.held_snoc (fs := d.files) hlk)
      have hb1 := HBD.out k
      have hb2 := HBD.out (k + 1)
      rw [HN.out] at hb2
      obtain ⟨g, c3, hv3, f0, _⟩ := hR.fileAt hfk
      generalize Dk.heldL d.files (d.dir.take k) = A at HN hb1 hb2 ⊢
      generalize (d.dir.getD k ([], 0)).2 = f at e1 hfk f0 HN hb2
      generalize hfx : (Dk.file d.files f).1 = X at f0 HN hb2
      have hsx : (Ty.S X).size = X.length := Ty.size_S X
      generalize Ty.S X = sx at f0 hsx
      have hki : (k : Int) < (d.dir.length : Int) := by omega
      have hfi : (f : Int) < (d.files.length : Int) := by omega
      have hf0 : (0 : Int) ≤ (f : Int) := by omega
      have hA0 : (0 : Int) ≤ (A : Int) + (sx.size : Int) := by omega
      have hwrap : IntKind.i64.wrap ((A : Int) + (sx.size : Int)) = (A : Int) + (sx.size : Int) := IntWalk.i64_in _ (by omega)
      rw [hv2] at c1
      rw [hv3] at c0
      clear hR hvD e0 hv2 hv3 hfx hfk
      go_wp2_with fail
      go_quiet (fail)
      go_wp2
      go_roundw
      case rel => exact ⟨k + 1, m + nq, by omega, by simp, by rw [HN.out]; simp, by rw [HWR.out]; exact World.drewN_drewN _ _ _⟩
      case measure => simp [intOf]; omega
    · obtain rfl : k = d.dir.length := by omega
      have hki : ¬ (d.dir.length : Int) < (d.dir.length : Int) := by omega
      rw [hvD] at c1
      clear hR hvD
      go_wp2
      go_ret
      exact ⟨rfl, m, HWR.out⟩
set_option maxHeartbeats 2000000 in
set_option maxRecDepth 100000 in
theorem Dk.rread_c {S : Nat → Prop} {p : Nat} {d : Dk.D} {vF vD vS vC : Value} {w : World} (h : Dk.RA S w p d vF vD vS vC) (hi : Dk.Inv d) (hl : d.dir.length ≤ 1048576) (s : Dk.Str) :
    Calls Try.prog 20 #[.pointer (some ⟨p, 0, none⟩), .string (Ty.S s)] w fun e w' => e = .returned (.tuple #[.string (Ty.S (Dk.read d s).1), .int .i64 (((Dk.read d s).2 : Nat) : Int)]) ∧ ∃ m, w' = w.drewN m := by
  have ca := Dk.rat_c vD d.dir s w h.dir hl
  obtain ⟨c0, c1, _⟩ := h.c
  cases hlk : Dk.look d.dir s with
  | none =>
    have HE : Hid (Dk.read d s = ([], 12)) := Lib.hid (by unfold Dk.read; rw [hlk])
    have HW : Hid (∀ e, Dk.Where d.dir s e → e = .returned (.int .i64 (-1))) := Lib.hid fun e h => by
      rcases h with ⟨i, g, _, _, h, _⟩ | ⟨_, h⟩
      · rw [hlk] at h; cases h
      · exact h
    generalize Ty.S s = sa at ca ⊢
    clear h hi hl hlk
    go_enter Try.func20, Try.ntmps20
    go_wp2_with fail
    with_reducible refine ca.mono ?_
    rintro e w1 ⟨hW, h1⟩
    subst w1
    obtain rfl := HW.out e hW
    clear ca hW
    go_wp2
    go_ret2
    exact ⟨by rw [HE.out]; rfl, 0, rfl⟩
  | some f =>
    have HE : Hid (Dk.read d s = ((Dk.file d.files f).1, 0)) := Lib.hid (by unfold Dk.read; rw [hlk])
    have HW : Hid (∀ e, Dk.Where d.dir s e → ∃ i : Nat, i < d.dir.length ∧ d.dir[i]? = some (s, f) ∧ e = .returned (.int .i64 (i : Int))) := Lib.hid fun e h => by
      rcases h with ⟨i, g', hi, hl', h, he⟩ | ⟨h, _⟩
      · rw [hlk] at h
        cases h
        exact ⟨i, hi, hl', he⟩
      · rw [hlk] at h; cases h
    have hfk := hi.dirlt hlk
    obtain ⟨g, c3, hv3, f0, _⟩ := h.fileAt hfk
    have HH := Lib.hid h
    generalize hsa : Ty.S s = sa at ca ⊢
    clear h hi hl hlk hsa
    go_enter Try.func20, Try.ntmps20
    go_wp2_with fail
    with_reducible refine ca.mono ?_
    rintro e w1 ⟨hW, h1⟩
    subst w1
    obtain ⟨i, hi, hig, rfl⟩ := HW.out e hW
    obtain ⟨b, o, c2, hv2, _, e1⟩ := HH.out.dirAt hi
    have hgd : d.dir.getD i ([], 0) = (s, f) := by rw [List.getD, hig]; rfl
    rw [hgd] at e1
    have hi0 : (0 : Int) ≤ (i : Int) := by omega
    have hi1 : ¬ (i : Int) < 0 := by omega
    have hi2 : (i : Int) < (d.dir.length : Int) := by omega
    have hfi : (f : Int) < (d.files.length : Int) := by omega
    have hf0 : (0 : Int) ≤ (f : Int) := by omega
    rw [hv2] at c1
    rw [hv3] at c0
    simp only at e1
    generalize hfx : (Dk.file d.files f).1 = X at f0 HE
    generalize hsx : Ty.S X = sx at f0
    have HSX := Lib.hid hsx
    clear ca hW hv2 hv3 hig hgd hfk hfx hsx
    go_wp2_with fail
    go_quiet (fail)
    go_wp2
    go_ret2
    exact ⟨by rw [HE.out, HSX.out]; rfl, nq, rfl⟩
set_option maxHeartbeats 2000000 in
set_option maxRecDepth 100000 in
theorem Dk.rnames_c {S : Nat → Prop} {p : Nat} {d : Dk.D} {vF vD vS vC : Value} {w : World} (h : Dk.RA S w p d vF vD vS vC) (hl : d.dir.length ≤ 1048576) :
    Calls Try.prog 23 #[.pointer (some ⟨p, 0, none⟩)] w fun e w' => ∃ v, e = .returned v ∧ Tx.Own w.heap.size w' v (Dk.names d) ∧ Below w.heap.size w w' := by
  have HH := Lib.hid h
  obtain ⟨ad, cd, hvD, _⟩ := h.dir
  clear h
  go_enter Try.func23, Try.ntmps23
  go_wp2
  go_loopw [3, 4] (fun ov i wr => ∃ k : Nat, k ≤ d.dir.length ∧ i = .int .i64 k ∧ Tx.Own w.heap.size wr ov ((d.dir.take k).map (·.1)) ∧ Below w.heap.size w wr) (fun _ i _ => d.dir.length - (intOf i).toNat)
  case atStart => exact ⟨0, by omega, rfl, Tx.Own.nil _ _, Below.refl _ _⟩
  case round =>
    obtain ⟨k, hk, rfl, hO, hb⟩ := hrel
    have hR := HH.out.kept hb
    have HB := Lib.hid hb
    have hws := hb.size
    obtain ⟨_, c1, _⟩ := hR.c
    have hk0 : (0 : Int) ≤ (k : Int) := by omega
    by_cases hlk : k < d.dir.length
    · obtain ⟨b, o, c2, hv2, e0, _⟩ := hR.dirAt hlk
      have HN : Hid ((d.dir.take (k + 1)).map (·.1) = (d.dir.take k).map (·.1) ++ [(d.dir.getD k ([], 0)).1]) := Lib.hid (by
        rw [List.take_succ_eq_append_getElem hlk, List.map_append, List.getD, List.getElem?_eq_getElem hlk]
        rfl)
      have hml : ((d.dir.take k).map (·.1)).length ≤ k := by rw [List.length_map]; exact List.length_take_le _ _
      generalize (d.dir.take k).map (·.1) = M at HN hO hml
      generalize (d.dir.getD k ([], 0)).1 = K at HN e0
      generalize hsx : Ty.S K = sx at e0
      have HSX := Lib.hid hsx
      have hki : (k : Int) < (d.dir.length : Int) := by omega
      have hO2 := hO
      rw [hv2] at c1
      clear hR hvD hv2 hsx hb hO
      go_wp2_with (at_builtin; refine Bt.wpList_append_one 9 39 (.string ⟨#[]⟩) 16 Try.underlying39 Tx.infoS rfl (hO2.pre K) hws (by omega) (by omega) (.tmp 14) (.tmp 23) _ rfl rfl rfl rfl rfl ?_; intro v3 w3 h3 g3)
      have HO3 := Lib.hid (Tx.Own.post (h3 (by rw [← Tx.sv_snoc, ← HSX.out])))
      have HB3 := Lib.hid (Tx.grew_below HB.out hO2 g3)
      clear h3 g3 hO2 hml
      go_wp2
      go_roundw
      case rel => exact ⟨k + 1, by omega, by simp, by rw [HN.out]; exact HO3.out, HB3.out⟩
      case measure => simp [intOf]; omega
    · obtain rfl : k = d.dir.length := by omega
      have HO : Hid (Tx.Own w.heap.size wr u3 (Dk.names d)) := Lib.hid (by rw [List.take_length] at hO; exact hO)
      have hki : ¬ (d.dir.length : Int) < (d.dir.length : Int) := by omega
      rw [hvD] at c1
      clear hR hvD hO hb
      go_wp2
      go_ret
      exact ⟨_, rfl, HO.out, HB.out⟩
end Go.Proofs.Ytfkdkdkdpenblaa

namespace Go.Proofs.Ytfkdkdkdpenblaa
open Go.RowKit
/-- A file appended and stored. -/
theorem Dk.RA.filesPut {S S' : Nat → Prop} {w w4 : World} {p : Nat} {d : Dk.D} {vF vD vS vC v4 : Value} (h : Dk.RA S w p d vF vD vS vC) (g : Ty.Grew w w4 vF v4) {fs : List (Dk.Str × Nat)} (o4 : Dk.Fown w4 v4 fs)
    (hs : ∀ b, S b → S' b) (ha : ∀ b, S' b → b < w4.heap.size) (h4 : ∀ b, v4.ownBlock = some b → S' b) :
    Dk.RA S' (w4.setCell ⟨p, 0, none⟩ v4) p { d with files := fs } v4 vD vS vC := by
  have hk : ∀ {b : Nat} {T : TypeId} {cs : Array Value} {fr : Nat × Nat}, w.heap[b]? = some (.cells cs T fr) → T ≠ 69 → w4.heap[b]? = w.heap[b]? := fun hb hT => Dk.kept_by_type g h.files.typed hb hT
  have hb4 := (hk h.blk (by decide)).trans h.blk
  have ho : ∀ b, b ≠ p → (w4.setCell ⟨p, 0, none⟩ v4).heap[b]? = w4.heap[b]? := fun b hb => Below.heap_setCell _ _ _ _ hb
  have hne : ∀ {b : Nat} {T : TypeId} {cs : Array Value} {fr : Nat × Nat}, w4.heap[b]? = some (.cells cs T fr) → T ≠ 67 → b ≠ p := fun hb hT e => by
    rw [e, hb4] at hb
    simp only [Option.some.injEq, Obj.cells.injEq] at hb
    exact hT hb.2.1.symm
  have hkk : ∀ {b : Nat} {T : TypeId} {cs : Array Value} {fr : Nat × Nat}, w.heap[b]? = some (.cells cs T fr) → T ≠ 69 → T ≠ 67 → (w4.setCell ⟨p, 0, none⟩ v4).heap[b]? = w.heap[b]? := fun hb hT hT2 =>
    (ho _ (hne ((hk hb hT).trans hb) hT2)).trans (hk hb hT)
  refine ⟨?_, ?_, h4, ?_, ?_, ?_, fun b hb => hs b (h.chgS b hb), hs p h.mine, fun b hb => by simpa using ha b hb⟩
  · rw [heap_setCell_same w4 p 0 _ _ v4 hb4]; rfl
  · exact o4.other fun b cs _ hb => ho b (hne hb (by decide))
  · exact (h.dir.other fun b cs fr _ hb => hkk hb (by decide) (by decide)).imp hs
  · exact (h.sure.other fun b cs fr _ hb => hkk hb (by decide) (by decide)).imp hs
  · exact h.chg.other fun b cs _ hb => hkk hb (by decide) (by decide)
/-- A file's cell stored. -/
theorem Dk.RA.fileSet {S : Nat → Prop} {w : World} {p : Nat} {d : Dk.D} {vF vD vS vC : Value} (h : Dk.RA S w p d vF vD vS vC) {g : Nat} (hv : vF.ownBlock = some g) {f j : Nat} (hf : f < d.files.length) (hj : j < 2) (u : Value) (y : Dk.Str × Nat) (hy : Dk.encN y = (Dk.encN (Dk.file d.files f)).set j u) :
    Dk.RA S (w.setCell ⟨g, f * 2 + j, none⟩ u) p (Dk.put d f y) vF vD vS vC := by
  have ho : ∀ b, b ≠ g → (w.setCell ⟨g, f * 2 + j, none⟩ u).heap[b]? = w.heap[b]? := fun b hb => Below.heap_setCell _ _ _ _ hb
  obtain ⟨gc, hg⟩ := h.files.typed g hv
  have hne : ∀ {b : Nat} {T : TypeId} {cs : Array Value} {fr : Nat × Nat}, w.heap[b]? = some (.cells cs T fr) → T ≠ 69 → b ≠ g := fun hb hT e => by
    rw [e, hg] at hb
    simp only [Option.some.injEq, Obj.cells.injEq] at hb
    exact hT hb.2.1.symm
  refine ⟨(ho p (hne h.blk (by decide))).trans h.blk, h.files.set Dk.encN_len hv (Dk.file_at hf) hj u y hy, h.filesS, ?_, ?_, ?_, h.chgS, h.mine, fun b hb => by simpa using h.alive b hb⟩
  · exact h.dir.other fun b cs fr _ hb => ho b (hne hb (by decide))
  · exact h.sure.other fun b cs fr _ hb => ho b (hne hb (by decide))
  · exact h.chg.other fun b cs _ hb => ho b (hne hb (by decide))
theorem Dk.RA.ffz {S : Nat → Prop} {w : World} {p : Nat} {d : Dk.D} {vF vD vS vC : Value} (h : Dk.RA S w p d vF vD vS vC) {g : Nat} (hv : vF.ownBlock = some g) (i : Nat) : w.frozen? ⟨g, i, none⟩ = false := by
  obtain ⟨gc, hg⟩ := h.files.typed g hv
  exact frozen_of_row w g i _ _ hg
theorem Dk.Fit.short {d : Dk.D} (h : Dk.Fit d) : Dk.Short d.dir := ⟨by have := h.sz.dir h.inv; omega, h.dir⟩
theorem Dk.Fit.size {d : Dk.D} (h : Dk.Fit d) : Dk.size d.files ≤ 1099511627776 := by have := h.sz.bytes; omega
set_option maxHeartbeats 4000000 in
set_option maxRecDepth 100000 in
theorem Dk.rsync_c {S : Nat → Prop} {p : Nat} {d : Dk.D} {w : World} (h : Dk.RAt S w p d) (hf : Dk.Fit d) (s : Dk.Str) :
    Calls Try.prog 40 #[.pointer (some ⟨p, 0, none⟩), .string (Ty.S s)] w fun e w' => e = .returned (.int .i64 (((Dk.sync d s).2 : Nat) : Int)) ∧ Dk.Did S w p (Dk.sync d s).1 w' := by
  obtain ⟨vF, vD, vS, vC, h⟩ := h
  have hcc := hf.sz.calls
  have cl := Dk.rcall_c h (by omega)
  have hsl := hf.short.len
  have CA : Hid (∀ W, Dk.Dat S W vD d.dir → Calls Try.prog 48 #[vD, .string (Ty.S s)] W fun e w' => Dk.Where d.dir s e ∧ w' = W) := Lib.hid fun W hW => Dk.rat_c vD d.dir s W hW hsl
  by_cases he : Dk.callE d = 0
  · rw [he] at cl
    cases hlk : Dk.look d.dir s with
    | none =>
      have HE : Hid (Dk.sync d s = (Dk.tick d, 12)) := Lib.hid (by unfold Dk.sync; rw [if_neg (by simpa using he), hlk])
      have HW : Hid (∀ e, Dk.Where d.dir s e → e = .returned (.int .i64 (-1))) := Lib.hid fun e h => by
        rcases h with ⟨i, g, _, _, h, _⟩ | ⟨_, h⟩
        · rw [hlk] at h; cases h
        · exact h
      generalize Ty.S s = sa at CA ⊢
      clear h hf hlk he
      go_enter Try.func40, Try.ntmps40
      go_wp2_with fail
      with_reducible refine cl.mono ?_
      rintro e w1 ⟨rfl, hR, hO⟩
      obtain ⟨_, c1, _⟩ := hR.c
      have ca := CA.out w1 hR.dir
      have HD : Hid (Dk.Did S w p (Dk.tick d) w1) := Lib.hid (Dk.Did.of ⟨_, _, _, _, hR⟩ hO)
      clear cl hR hO
      go_wp2_with fail
      with_reducible refine ca.mono ?_
      rintro e w2 ⟨hW, h2⟩
      subst w2
      obtain rfl := HW.out e hW
      clear ca hW
      go_wp2
      go_ret
      exact ⟨by rw [HE.out]; rfl, by rw [HE.out]; exact HD.out⟩
    | some f =>
      have HE : Hid (Dk.sync d s = (Dk.put (Dk.tick d) f ((Dk.file d.files f).1, (Dk.file d.files f).1.length), 0)) := Lib.hid (by unfold Dk.sync; rw [if_neg (by simpa using he), hlk])
      have HW : Hid (∀ e, Dk.Where d.dir s e → ∃ i : Nat, i < d.dir.length ∧ d.dir[i]? = some (s, f) ∧ e = .returned (.int .i64 (i : Int))) := Lib.hid fun e h => by
        rcases h with ⟨i, g', hi, hl', h, he⟩ | ⟨h, _⟩
        · rw [hlk] at h
          cases h
          exact ⟨i, hi, hl', he⟩
        · rw [hlk] at h; cases h
      have hfk := hf.inv.dirlt hlk
      have hfl := hf.sz.files
      generalize hsa : Ty.S s = sa at CA ⊢
      clear h hf hlk he hsa
      go_enter Try.func40, Try.ntmps40
      go_wp2_with fail
      with_reducible refine cl.mono ?_
      rintro e w1 ⟨rfl, hR, hO⟩
      obtain ⟨c0, c1, _⟩ := hR.c
      have ca := CA.out w1 hR.dir
      have HR := Lib.hid hR
      have HO := Lib.hid hO
      clear cl hR hO
      go_wp2_with fail
      with_reducible refine ca.mono ?_
      rintro e w2 ⟨hW, h2⟩
      subst w2
      obtain ⟨i, hi, hig, rfl⟩ := HW.out e hW
      have hi' : i < (Dk.tick d).dir.length := hi
      obtain ⟨b, o, c2, hv2, _, e1⟩ := HR.out.dirAt hi'
      have hgd : (Dk.tick d).dir.getD i ([], 0) = (s, f) := by show d.dir.getD i ([], 0) = _; rw [List.getD, hig]; rfl
      rw [hgd] at e1
      obtain ⟨g, c3, hv3, f0, f1⟩ := HR.out.fileAt (f := f) hfk
      have hfz := HR.out.ffz (g := g) (by rw [hv3]; rfl) (f * 2 + 1)
      have hi0 : (0 : Int) ≤ (i : Int) := by omega
      have hi1 : ¬ (i : Int) < 0 := by omega
      have hi2 : (i : Int) < (d.dir.length : Int) := by omega
      have hfi : (f : Int) < (d.files.length : Int) := by omega
      have hf0 : (0 : Int) ≤ (f : Int) := by omega
      have hwf : IntKind.i64.wrap (f : Int) = (f : Int) := by rw [IntKind.wrap_i64]; omega
      have htf : (f : Int).toNat = f := by omega
      rw [hv2] at c1
      rw [hv3] at c0
      simp only at e1
      change w1.cell? ⟨g, f * 2, none⟩ = some (.string (Ty.S (Dk.file d.files f).1)) at f0
      change w1.cell? ⟨p, 1, none⟩ = some (.slice (some ⟨b, o, none⟩) d.dir.length c2) at c1
      change w1.cell? ⟨p, 0, none⟩ = some (.slice (some ⟨g, 0, none⟩) d.files.length c3) at c0
      generalize hX : (Dk.file d.files f).1 = X at HE f0
      have HD : Hid (Dk.Did S w p (Dk.put (Dk.tick d) f (X, X.length)) (w1.setCell ⟨g, f * 2 + 1, none⟩ (.int .i64 ((Ty.S X).size : Int))).drew) := Lib.hid (by
        have hgS := HR.out.filesS g (by rw [hv3]; rfl)
        have hset := Dk.RA.fileSet (S := S) (w := w1.drew) (p := p) (d := Dk.tick d) (vF := vF) (vD := vD) (vS := vS) (vC := vC) ⟨HR.out.blk, HR.out.files, HR.out.filesS, HR.out.dir, HR.out.sure, HR.out.chg, HR.out.chgS, HR.out.mine, HR.out.alive⟩ (g := g) (by rw [hv3]; rfl) (f := f) (j := 1) hfk (by omega) (.int .i64 ((Ty.S X).size : Int)) (X, X.length) (by
          unfold Dk.encN
          rw [show (Dk.tick d).files = d.files from rfl, hX]
          rfl)
        have hdo : Dk.Did S w p (Dk.put (Dk.tick d) f (X, X.length)) (w1.drew.setCell ⟨g, f * 2 + 1, none⟩ (.int .i64 ((Ty.S X).size : Int))) := by
          refine Dk.Did.of ⟨_, _, _, _, hset⟩ (HO.out.trans ?_)
          exact (Dk.Off.of_below (Bt.drewN_below w1 1)).trans (Dk.Off.set (.inl (.inl hgS)) _)
        exact hdo)
      generalize Ty.S X = sx at f0 HD
      have f1' : ∃ x, w1.cell? ⟨g, f * 2 + 1, none⟩ = some x := ⟨_, f1⟩
      obtain ⟨x1, f1'⟩ := f1'
      clear ca hW hv2 hv3 hig hgd hX f1 hi'
      go_wp2_with fail
      refine wp_region_still_tail 16 (by kernel_rfl) (by kernel_rfl) ?_
      simp only [List.take_succ_cons, List.take_zero, List.drop_succ_cons, List.drop_zero]
      change wpStill _ _ (World.drew _) (fun a' => wpList _ _ _ _ a' (World.drew _)) _ _
      repeat still_step
      refine wpStill_nil ?_
      go_wp2
      go_ret
      exact ⟨by rw [HE.out]; rfl, by rw [HE.out]; exact HD.out⟩
  · have HE : Hid (Dk.sync d s = (Dk.tick d, Dk.callE d)) := Lib.hid (by unfold Dk.sync; rw [if_pos he])
    have hne : ((Dk.callE d : Nat) : Int) ≠ 0 := by omega
    have hnb : (((Dk.callE d : Nat) : Int) != 0) = true := by rw [bne_iff_ne]; exact hne
    generalize Dk.callE d = E at cl HE hnb hne
    generalize Ty.S s = sa
    clear h hf he hne
    go_enter Try.func40, Try.ntmps40
    go_wp2_with fail
    with_reducible refine cl.mono ?_
    rintro e w1 ⟨rfl, hR, hO⟩
    have HD : Hid (Dk.Did S w p (Dk.tick d) w1) := Lib.hid (Dk.Did.of ⟨_, _, _, _, hR⟩ hO)
    clear cl hR hO
    go_wp2
    go_ret
    exact ⟨by rw [HE.out]; rfl, by rw [HE.out]; exact HD.out⟩
end Go.Proofs.Ytfkdkdkdpenblaa

namespace Go.Proofs.Ytfkdkdkdpenblaa
open Go.RowKit
theorem Dk.S_add (a b : List UInt8) : Ty.S a ++ Ty.S b = Ty.S (a ++ b) := by
  apply ByteArray.ext
  apply Array.toList_inj.1
  rw [ByteArray.data_append, Array.toList_append]
  simp [Ty.S]
theorem Dk.file_le {fs : List (Dk.Str × Nat)} {f : Nat} (h : f < fs.length) : (Dk.file fs f).1.length ≤ Dk.size fs := by
  have := Dk.size_set fs f ([], 0) h
  have h0 : ((([] : Dk.Str), 0) : Dk.Str × Nat).1.length = 0 := rfl
  omega
set_option maxHeartbeats 4000000 in
set_option maxRecDepth 100000 in
theorem Dk.rappend_c {S : Nat → Prop} {p : Nat} {d : Dk.D} {w : World} (h : Dk.RAt S w p d) (hf : Dk.Fit d) (s t : Dk.Str) (ht : t.length ≤ 140737488351232) :
    Calls Try.prog 39 #[.pointer (some ⟨p, 0, none⟩), .string (Ty.S s), .string (Ty.S t)] w fun e w' => e = .returned (.int .i64 (((Dk.append d s t).2 : Nat) : Int)) ∧ Dk.Did S w p (Dk.append d s t).1 w' := by
  obtain ⟨vF, vD, vS, vC, h⟩ := h
  have hcc := hf.sz.calls
  have cl := Dk.rcall_c h (by omega)
  have hsl := hf.short.len
  have CA : Hid (∀ W, Dk.Dat S W vD d.dir → Calls Try.prog 48 #[vD, .string (Ty.S s)] W fun e w' => Dk.Where d.dir s e ∧ w' = W) := Lib.hid fun W hW => Dk.rat_c vD d.dir s W hW hsl
  by_cases he : Dk.callE d = 0
  · rw [he] at cl
    cases hlk : Dk.look d.dir s with
    | none =>
      have HE : Hid (Dk.append d s t = (Dk.tick d, 12)) := Lib.hid (by unfold Dk.append; rw [if_neg (by simpa using he), hlk])
      have HW : Hid (∀ e, Dk.Where d.dir s e → e = .returned (.int .i64 (-1))) := Lib.hid fun e h => by
        rcases h with ⟨i, g, _, _, h, _⟩ | ⟨_, h⟩
        · rw [hlk] at h; cases h
        · exact h
      generalize Ty.S s = sa at CA ⊢
      generalize Ty.S t = st
      clear h hf hlk he ht
      go_enter Try.func39, Try.ntmps39
      go_wp2_with fail
      with_reducible refine cl.mono ?_
      rintro e w1 ⟨rfl, hR, hO⟩
      obtain ⟨_, c1, _⟩ := hR.c
      have ca := CA.out w1 hR.dir
      have HD : Hid (Dk.Did S w p (Dk.tick d) w1) := Lib.hid (Dk.Did.of ⟨_, _, _, _, hR⟩ hO)
      clear cl hR hO
      go_wp2_with fail
      with_reducible refine ca.mono ?_
      rintro e w2 ⟨hW, h2⟩
      subst w2
      obtain rfl := HW.out e hW
      clear ca hW
      go_wp2
      go_ret
      exact ⟨by rw [HE.out]; rfl, by rw [HE.out]; exact HD.out⟩
    | some f =>
      have HW : Hid (∀ e, Dk.Where d.dir s e → ∃ i : Nat, i < d.dir.length ∧ d.dir[i]? = some (s, f) ∧ e = .returned (.int .i64 (i : Int))) := Lib.hid fun e h => by
        rcases h with ⟨i, g', hi, hl', h, he⟩ | ⟨h, _⟩
        · rw [hlk] at h
          cases h
          exact ⟨i, hi, hl', he⟩
        · rw [hlk] at h; cases h
      have hfk := hf.inv.dirlt hlk
      have hfl := hf.sz.files
      have hhd := Nat.le_trans hf.inv.held hf.size
      have hr0 := hf.room0
      have hr1 := hf.room
      have hXl := Nat.le_trans (Dk.file_le hfk) hf.size
      have CH : Hid (∀ W, Dk.RA S W p (Dk.tick d) vF vD vS vC → Calls Try.prog 18 #[.pointer (some ⟨p, 0, none⟩)] W fun e w' => e = .returned (.int .i64 ((Dk.held d : Nat) : Int)) ∧ ∃ m, w' = W.drewN m) := Lib.hid fun W hW => Dk.rheld_c (d := Dk.tick d) hW hf.inv.tick hf.size hsl
      have hts : (Ty.S t).size = t.length := Ty.size_S t
      by_cases hsp : d.room - (Dk.held d : Int) < (t.length : Int)
      · have HE : Hid (Dk.append d s t = (Dk.tick d, 10)) := Lib.hid (by unfold Dk.append; rw [if_neg (by simpa using he), hlk]; simp only; rw [if_pos hsp])
        have hgt : ((Ty.S t).size : Int) > d.room - ((Dk.held d : Nat) : Int) := by omega
        generalize hsa : Ty.S s = sa at CA ⊢
        generalize Ty.S t = st at hts hgt ⊢
        clear h hf hlk he hsa hsp ht
        generalize Dk.held d = hd at CH hgt hhd
        have hwr : IntKind.i64.wrap (d.room - (hd : Int)) = d.room - (hd : Int) := by rw [IntKind.wrap_i64]; omega
        go_enter Try.func39, Try.ntmps39
        go_wp2_with fail
        with_reducible refine cl.mono ?_
        rintro e w1 ⟨rfl, hR, hO⟩
        obtain ⟨_, c1, _, _, c4, _⟩ := hR.c
        change w1.cell? ⟨p, 4, none⟩ = some (.int .i64 d.room) at c4
        have ca := CA.out w1 hR.dir
        have HR := Lib.hid hR
        have HO := Lib.hid hO
        clear cl hR hO
        go_wp2_with fail
        with_reducible refine ca.mono ?_
        rintro e w2 ⟨hW, h2⟩
        subst w2
        obtain ⟨i, hi, hig, rfl⟩ := HW.out e hW
        have hi1 : ¬ (i : Int) < 0 := by omega
        have C2 : Hid (∀ m, Calls Try.prog 18 #[.pointer (some ⟨p, 0, none⟩)] (w1.drewN m) fun e w' => e = .returned (.int .i64 (hd : Int)) ∧ ∃ n, w' = (w1.drewN m).drewN n) := Lib.hid fun m => CH.out _ (HR.out.kept (Bt.drewN_below _ _))
        clear ca hW hig hts
        go_wp2_with fail
        go_quiet (first | (go_at_call 18; exact Calls.quiet_of (C2.out _)))
        have HD : Hid (Dk.Did S w p (Dk.tick d) (w1.drewN nq)) := Lib.hid (Dk.Did.of ⟨_, _, _, _, HR.out.kept (Bt.drewN_below _ _)⟩ (HO.out.trans (Dk.Off.of_below (Bt.drewN_below _ _))))
        go_wp2
        go_ret
        exact ⟨by rw [HE.out]; rfl, by rw [HE.out]; exact HD.out⟩
      · have HE : Hid (Dk.append d s t = (Dk.put (Dk.tick d) f ((Dk.file d.files f).1 ++ t, (Dk.file d.files f).2), 0)) := Lib.hid (by unfold Dk.append; rw [if_neg (by simpa using he), hlk]; simp only; rw [if_neg hsp])
        have hgt : ¬ ((Ty.S t).size : Int) > d.room - ((Dk.held d : Nat) : Int) := by omega
        generalize hsa : Ty.S s = sa at CA ⊢
        generalize hst : Ty.S t = st at hts hgt ⊢
        have HST := Lib.hid hst
        have HTL := Lib.hid ht
        have HTS := Lib.hid hts
        clear h hf hlk he hsa hsp ht hst hts
        generalize Dk.held d = hd at CH hgt hhd
        have hwr : IntKind.i64.wrap (d.room - (hd : Int)) = d.room - (hd : Int) := by rw [IntKind.wrap_i64]; omega
        go_enter Try.func39, Try.ntmps39
        go_wp2_with fail
        with_reducible refine cl.mono ?_
        rintro e w1 ⟨rfl, hR, hO⟩
        obtain ⟨_, c1, _, _, c4, _⟩ := hR.c
        change w1.cell? ⟨p, 4, none⟩ = some (.int .i64 d.room) at c4
        have ca := CA.out w1 hR.dir
        have HR := Lib.hid hR
        have HO := Lib.hid hO
        clear cl hR hO
        go_wp2_with fail
        with_reducible refine ca.mono ?_
        rintro e w2 ⟨hW, h2⟩
        subst w2
        obtain ⟨i, hi, hig, rfl⟩ := HW.out e hW
        have hi1 : ¬ (i : Int) < 0 := by omega
        have C2 : Hid (∀ m, Calls Try.prog 18 #[.pointer (some ⟨p, 0, none⟩)] (w1.drewN m) fun e w' => e = .returned (.int .i64 (hd : Int)) ∧ ∃ n, w' = (w1.drewN m).drewN n) := Lib.hid fun m => CH.out _ (HR.out.kept (Bt.drewN_below _ _))
        clear ca hW
        go_wp2_with fail
        go_quiet (first | (go_at_call 18; exact Calls.quiet_of (C2.out _)))
        have HOQ : Hid (Dk.Off S w (w1.drewN nq)) := Lib.hid (HO.out.trans (Dk.Off.of_below (Bt.drewN_below _ _)))
        have HRQ : Hid (Dk.RA S (w1.drewN nq) p (Dk.tick d) vF vD vS vC) := Lib.hid (HR.out.kept (Bt.drewN_below _ _))
        clear C2 c1 c4 CA CH
        generalize w1.drewN nq = w3 at HOQ HRQ ⊢
        obtain ⟨c0, c1, _⟩ := HRQ.out.c
        have hi' : i < (Dk.tick d).dir.length := hi
        obtain ⟨b, o, c2, hv2, _, e1⟩ := HRQ.out.dirAt hi'
        have hgd : (Dk.tick d).dir.getD i ([], 0) = (s, f) := by show d.dir.getD i ([], 0) = _; rw [List.getD, hig]; rfl
        rw [hgd] at e1
        obtain ⟨g, c3, hv3, f0, _⟩ := HRQ.out.fileAt (f := f) hfk
        have hfz := HRQ.out.ffz (g := g) (by rw [hv3]; rfl) (f * 2)
        have hi0 : (0 : Int) ≤ (i : Int) := by omega
        have hi2 : (i : Int) < (d.dir.length : Int) := by omega
        have hfi : (f : Int) < (d.files.length : Int) := by omega
        have hf0 : (0 : Int) ≤ (f : Int) := by omega
        have hwf : IntKind.i64.wrap (f : Int) = (f : Int) := by rw [IntKind.wrap_i64]; omega
        have htf : (f : Int).toNat = f := by omega
        have hwi : IntKind.i64.wrap (i : Int) = (i : Int) := by rw [IntKind.wrap_i64]; omega
        rw [hv2] at c1
        rw [hv3] at c0
        simp only at e1
        change w3.cell? ⟨g, f * 2, none⟩ = some (.string (Ty.S (Dk.file d.files f).1)) at f0
        change w3.cell? ⟨p, 1, none⟩ = some (.slice (some ⟨b, o, none⟩) d.dir.length c2) at c1
        change w3.cell? ⟨p, 0, none⟩ = some (.slice (some ⟨g, 0, none⟩) d.files.length c3) at c0
        have HD : Hid (Dk.Did S w p (Dk.put (Dk.tick d) f ((Dk.file d.files f).1 ++ t, (Dk.file d.files f).2)) (w3.setCell ⟨g, f * 2, none⟩ (.string (Ty.S (Dk.file d.files f).1 ++ st))).drew) := Lib.hid (by
          have hgS := HRQ.out.filesS g (by rw [hv3]; rfl)
          have hset := Dk.RA.fileSet (S := S) (w := w3.drew) (p := p) (d := Dk.tick d) (vF := vF) (vD := vD) (vS := vS) (vC := vC) ⟨HRQ.out.blk, HRQ.out.files, HRQ.out.filesS, HRQ.out.dir, HRQ.out.sure, HRQ.out.chg, HRQ.out.chgS, HRQ.out.mine, HRQ.out.alive⟩ (g := g) (by rw [hv3]; rfl) (f := f) (j := 0) hfk (by omega) (.string (Ty.S (Dk.file d.files f).1 ++ st)) ((Dk.file d.files f).1 ++ t, (Dk.file d.files f).2) (by
            unfold Dk.encN
            rw [← HST.out, Dk.S_add]
            rfl)
          have hdo : Dk.Did S w p (Dk.put (Dk.tick d) f ((Dk.file d.files f).1 ++ t, (Dk.file d.files f).2)) (w3.drew.setCell ⟨g, f * 2, none⟩ (.string (Ty.S (Dk.file d.files f).1 ++ st))) := by
            refine Dk.Did.of ⟨_, _, _, _, hset⟩ (HOQ.out.trans ?_)
            exact (Dk.Off.of_below (Bt.drewN_below w3 1)).trans (Dk.Off.set (.inl (.inl hgS)) _)
          exact hdo)
        have hsx : (Ty.S (Dk.file d.files f).1).size = (Dk.file d.files f).1.length := Ty.size_S _
        generalize Ty.S (Dk.file d.files f).1 = sx at f0 HD hsx
        have hcat : ¬ 9223372036854775807 < sx.size + st.size := by have := HTL.out; have := HTS.out; omega
        clear hv2 hv3 hig hgd hi' hsx hXl
        go_wp2_with fail
        refine wp_region_still_tail 19 (by kernel_rfl) (by kernel_rfl) ?_
        simp only [List.take_succ_cons, List.take_zero, List.drop_succ_cons, List.drop_zero]
        change wpStill _ _ (World.drew _) (fun a' => wpList _ _ _ _ a' (World.drew _)) _ _
        repeat still_step
        refine wpStill_nil ?_
        go_wp2
        go_ret
        exact ⟨by rw [HE.out]; rfl, by rw [HE.out]; exact HD.out⟩
  · have HE : Hid (Dk.append d s t = (Dk.tick d, Dk.callE d)) := Lib.hid (by unfold Dk.append; rw [if_pos he])
    have hne : ((Dk.callE d : Nat) : Int) ≠ 0 := by omega
    have hnb : (((Dk.callE d : Nat) : Int) != 0) = true := by rw [bne_iff_ne]; exact hne
    generalize Dk.callE d = E at cl HE hnb hne
    generalize Ty.S s = sa
    generalize Ty.S t = st
    clear h hf he hne ht
    go_enter Try.func39, Try.ntmps39
    go_wp2_with fail
    with_reducible refine cl.mono ?_
    rintro e w1 ⟨rfl, hR, hO⟩
    have HD : Hid (Dk.Did S w p (Dk.tick d) w1) := Lib.hid (Dk.Did.of ⟨_, _, _, _, hR⟩ hO)
    clear cl hR hO
    go_wp2
    go_ret
    exact ⟨by rw [HE.out]; rfl, by rw [HE.out]; exact HD.out⟩
end Go.Proofs.Ytfkdkdkdpenblaa
