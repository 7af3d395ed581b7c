/-
  The document's disk: Create, Rename, Remove, SyncDir.
  The document's disk: Rename, Create.
-/
import Derived.Test.YtfkdkdkdpenblaaZN
namespace Go.Proofs.Ytfkdkdkdpenblaa
open Go.RowKit
theorem Dk.infoF1 : Dk.encN (([] : Dk.Str), 0) = [.string ⟨#[]⟩, .int .i64 0] := rfl
theorem Dk.Did.more {S : Nat → Prop} {w w1 : World} {p : Nat} {d : Dk.D} (h : Dk.Did S w p d w1) : ∃ vF vD vS vC, Dk.RA (Dk.More S w w1) w1 p d vF vD vS vC := h.1
theorem Dk.Did.then' {S : Nat → Prop} {w w1 w2 : World} {p : Nat} {d1 d2 : Dk.D} (h : Dk.Did S w p d1 w1) (g : Dk.Did S w1 p d2 w2) : Dk.Did S w p d2 w2 := by
  have hs := Nat.le_trans h.2.size g.2.size
  have h2 : Dk.Off (Dk.More S w w1) w1 w2 := ⟨g.2.os, g.2.tape, g.2.output, g.2.size, fun k hk hn => g.2.block k hk fun hb => hn (.inl hb)⟩
  refine ⟨g.1.mono (fun b hb => ?_) (fun b hb => ?_), h.2.trans h2⟩
  · rcases hb with hb | hb
    · exact .inl hb
    · exact .inr ⟨by have := h.2.size; omega, hb.2⟩
  · rcases hb with hb | hb
    · exact Nat.lt_of_lt_of_le (h.1.alive b (.inl hb)) g.2.size
    · exact hb.2
set_option maxHeartbeats 4000000 in
set_option maxRecDepth 100000 in
theorem Dk.rremove_c {S : Nat → Prop} {p : Nat} {d : Dk.D} {w : World} (h : Dk.RAt S w p d) (hf : Dk.Fit d) (s : Dk.Str) (hs : s.length ≤ 1048576) :
    Calls Try.prog 42 #[.pointer (some ⟨p, 0, none⟩), .string (Ty.S s)] w fun e w' => e = .returned (.int .i64 (((Dk.remove d s).2 : Nat) : Int)) ∧ Dk.Did S w p (Dk.remove d s).1 w' := by
  obtain ⟨vF, vD, vS, vC, h⟩ := h
  have hcc := hf.sz.calls
  have cl := Dk.rcall_c h (by omega)
  have hsl := hf.short.len
  have CA : Hid (∀ W, Dk.Dat S W vD d.dir → Calls Try.prog 48 #[vD, .string (Ty.S s)] W fun e w' => Dk.Where d.dir s e ∧ w' = W) := Lib.hid fun W hW => Dk.rat_c vD d.dir s W hW hsl
  by_cases he : Dk.callE d = 0
  · rw [he] at cl
    cases hlk : Dk.look d.dir s with
    | none =>
      have HE : Hid (Dk.remove d s = (Dk.tick d, 12)) := Lib.hid (by unfold Dk.remove; rw [if_neg (by simpa using he), if_pos hlk])
      have HW : Hid (∀ e, Dk.Where d.dir s e → e = .returned (.int .i64 (-1))) := Lib.hid fun e h => by
        rcases h with ⟨i, g, _, _, h, _⟩ | ⟨_, h⟩
        · rw [hlk] at h; cases h
        · exact h
      generalize Ty.S s = sa at CA ⊢
      clear h hf hlk he
      go_enter Try.func42, Try.ntmps42
      go_wp2_with fail
      with_reducible refine cl.mono ?_
      rintro e w1 ⟨rfl, hR, hO⟩
      obtain ⟨_, c1, _⟩ := hR.c
      have ca := CA.out w1 hR.dir
      have HD : Hid (Dk.Did S w p (Dk.tick d) w1) := Lib.hid (Dk.Did.of ⟨_, _, _, _, hR⟩ hO)
      clear cl hR hO
      go_wp2_with fail
      with_reducible refine ca.mono ?_
      rintro e w2 ⟨hW, h2⟩
      subst w2
      obtain rfl := HW.out e hW
      clear ca hW
      go_wp2
      go_ret
      exact ⟨by rw [HE.out]; rfl, by rw [HE.out]; exact HD.out⟩
    | some f =>
      have HE : Hid (Dk.remove d s = (Dk.change (Dk.tick d) ⟨s, [], -1⟩, 0)) := Lib.hid (by unfold Dk.remove; rw [if_neg (by simpa using he), if_neg (by rw [hlk]; simp)])
      have HW : Hid (∀ e, Dk.Where d.dir s e → ∃ i : Nat, i < d.dir.length ∧ d.dir[i]? = some (s, f) ∧ e = .returned (.int .i64 (i : Int))) := Lib.hid fun e h => by
        rcases h with ⟨i, g', hi, hl', h, he⟩ | ⟨h, _⟩
        · rw [hlk] at h
          cases h
          exact ⟨i, hi, hl', he⟩
        · rw [hlk] at h; cases h
      have CC : Hid (∀ W, Dk.RA S W p (Dk.tick d) vF vD vS vC → Calls Try.prog 65 #[.pointer (some ⟨p, 0, none⟩), .agg #[.string (Ty.S s), .string ⟨#[]⟩, .int .i64 (-1)]] W fun e w' => e = .returned (.tuple #[]) ∧ Dk.Did S W p (Dk.change (Dk.tick d) ⟨s, [], -1⟩) w') := Lib.hid fun W hW => Dk.rchange_c (c := ⟨s, [], -1⟩) hW hf.short hs (Nat.zero_le _) (by have := hf.sz.dirs; show d.chg.length ≤ _; omega)
      have HAL := Lib.hid h.alive
      generalize hsa : Ty.S s = sa at CA CC ⊢
      clear h hf hlk he hsa hs
      go_enter Try.func42, Try.ntmps42
      go_wp2_with fail
      with_reducible refine cl.mono ?_
      rintro e w1 ⟨rfl, hR, hO⟩
      obtain ⟨_, c1, _⟩ := hR.c
      have ca := CA.out w1 hR.dir
      have cc := CC.out w1 hR
      have HO := Lib.hid (Dk.Did.of ⟨_, _, _, _, hR⟩ hO)
      clear cl hR hO
      go_wp2_with fail
      with_reducible refine ca.mono ?_
      rintro e w2 ⟨hW, h2⟩
      subst w2
      obtain ⟨i, hi, hig, rfl⟩ := HW.out e hW
      have hi1 : ¬ (i : Int) < 0 := by omega
      clear ca hW hig
      go_wp2_with fail
      with_reducible refine cc.mono ?_
      rintro e w3 ⟨rfl, hD3⟩
      have HD := Lib.hid (HO.out.then' hD3)
      clear cc hD3
      go_wp2
      go_ret
      exact ⟨by rw [HE.out]; rfl, by rw [HE.out]; exact HD.out⟩
  · have HE : Hid (Dk.remove d s = (Dk.tick d, Dk.callE d)) := Lib.hid (by unfold Dk.remove; rw [if_pos he])
    have hne : ((Dk.callE d : Nat) : Int) ≠ 0 := by omega
    have hnb : (((Dk.callE d : Nat) : Int) != 0) = true := by rw [bne_iff_ne]; exact hne
    generalize Dk.callE d = E at cl HE hnb hne
    generalize Ty.S s = ss
    clear h hf he hne
    go_enter Try.func42, Try.ntmps42
    go_wp2_with fail
    with_reducible refine cl.mono ?_
    rintro e w1 ⟨rfl, hR, hO⟩
    have HD : Hid (Dk.Did S w p (Dk.tick d) w1) := Lib.hid (Dk.Did.of ⟨_, _, _, _, hR⟩ hO)
    clear cl hR hO
    go_wp2
    go_ret
    exact ⟨by rw [HE.out]; rfl, by rw [HE.out]; exact HD.out⟩
set_option maxHeartbeats 4000000 in
set_option maxRecDepth 100000 in
theorem Dk.rsyncdir_c {S : Nat → Prop} {p : Nat} {d : Dk.D} {w : World} (h : Dk.RAt S w p d) (hf : Dk.Fit d) :
    Calls Try.prog 43 #[.pointer (some ⟨p, 0, none⟩)] w fun e w' => e = .returned (.int .i64 (((Dk.syncDir d).2 : Nat) : Int)) ∧ Dk.Did S w p (Dk.syncDir d).1 w' := by
  obtain ⟨vF, vD, vS, vC, h⟩ := h
  have hcc := hf.sz.calls
  have cl := Dk.rcall_c h (by omega)
  by_cases he : Dk.callE d = 0
  · rw [he] at cl
    have HE : Hid (Dk.syncDir d = ({ Dk.tick d with sure := d.dir, chg := [] }, 0)) := Lib.hid (by unfold Dk.syncDir; rw [if_neg (by simpa using he)])
    clear h hf he
    go_enter Try.func43, Try.ntmps43
    go_wp2_with fail
    with_reducible refine cl.mono ?_
    rintro e w1 ⟨rfl, hR, hO⟩
    obtain ⟨_, c1, c2, c3, _⟩ := hR.c
    have f2 := hR.fz 2
    have f3 := hR.fz 3
    have h2 := hR.put (d' := { Dk.tick d with sure := d.dir }) 2 vD (vF' := vF) (vD' := vD) (vS' := vD) (vC' := vC) (room := d.room) (halt := d.halt) (deny := d.deny) (calls := d.calls + 1) rfl rfl hR.dir hR.dir hR.chg hR.chgS rfl rfl rfl rfl rfl
    have h3 := h2.put (d' := { Dk.tick d with sure := d.dir, chg := [] }) 3 (.slice none 0 0) (vF' := vF) (vD' := vD) (vS' := vD) (vC' := .slice none 0 0) (room := d.room) (halt := d.halt) (deny := d.deny) (calls := d.calls + 1) rfl rfl h2.dir h2.sure (Dk.Own.nil _ _) (by simp [Value.ownBlock]) rfl rfl rfl rfl rfl
    have HD : Hid (Dk.Did S w p { Dk.tick d with sure := d.dir, chg := [] } ((w1.setCell ⟨p, 2, none⟩ vD).setCell ⟨p, 3, none⟩ (.slice none 0 0))) := Lib.hid (Dk.Did.of ⟨_, _, _, _, h3⟩ ((hO.trans (Dk.Off.set (.inl hR.mine) vD)).trans (Dk.Off.set (.inl hR.mine) _)))
    obtain ⟨ad, cp, hv, _⟩ := hR.dir
    rw [hv] at c1 HD
    clear cl hR hO h2 h3 hv
    go_wp2
    go_ret
    exact ⟨by rw [HE.out]; rfl, by rw [HE.out]; exact HD.out⟩
  · have HE : Hid (Dk.syncDir d = (Dk.tick d, Dk.callE d)) := Lib.hid (by unfold Dk.syncDir; rw [if_pos he])
    have hne : ((Dk.callE d : Nat) : Int) ≠ 0 := by omega
    have hnb : (((Dk.callE d : Nat) : Int) != 0) = true := by rw [bne_iff_ne]; exact hne
    generalize Dk.callE d = E at cl HE hnb hne
    clear h hf he hne
    go_enter Try.func43, Try.ntmps43
    go_wp2_with fail
    with_reducible refine cl.mono ?_
    rintro e w1 ⟨rfl, hR, hO⟩
    have HD : Hid (Dk.Did S w p (Dk.tick d) w1) := Lib.hid (Dk.Did.of ⟨_, _, _, _, hR⟩ hO)
    clear cl hR hO
    go_wp2
    go_ret
    exact ⟨by rw [HE.out]; rfl, by rw [HE.out]; exact HD.out⟩
end Go.Proofs.Ytfkdkdkdpenblaa

namespace Go.Proofs.Ytfkdkdkdpenblaa
open Go.RowKit
theorem Dk.Did.then2 {S T : Nat → Prop} {w w1 w2 : World} {p : Nat} {d1 d2 : Dk.D} (h : Dk.Did S w p d1 w1) (g : Dk.Did T w1 p d2 w2) (ht : ∀ b, T b → Dk.More S w w1 b) (ha : ∀ b, S b → b < w.heap.size) : Dk.Did S w p d2 w2 := by
  have hs := Nat.le_trans h.2.size g.2.size
  have h2 : Dk.Off (Dk.More S w w1) w1 w2 := ⟨g.2.os, g.2.tape, g.2.output, g.2.size, fun k hk hn => g.2.block k hk fun hb => hn (ht k hb)⟩
  refine ⟨g.1.mono (fun b hb => ?_) (fun b hb => ?_), h.2.trans h2⟩
  · rcases hb with hb | hb
    · rcases ht b hb with hb | hb
      · exact .inl hb
      · exact .inr ⟨hb.1, Nat.lt_of_lt_of_le hb.2 g.2.size⟩
    · exact .inr ⟨by have := h.2.size; omega, hb.2⟩
  · rcases hb with hb | hb
    · exact Nat.lt_of_lt_of_le (ha b hb) hs
    · exact hb.2
set_option maxHeartbeats 4000000 in
set_option maxRecDepth 100000 in
theorem Dk.rrename_c {S : Nat → Prop} {p : Nat} {d : Dk.D} {w : World} (h : Dk.RAt S w p d) (hf : Dk.Fit d) (a b : Dk.Str) (ha : a.length ≤ 1048576) (hb : b.length ≤ 1048576) :
    Calls Try.prog 41 #[.pointer (some ⟨p, 0, none⟩), .string (Ty.S a), .string (Ty.S b)] w fun e w' => e = .returned (.int .i64 (((Dk.rename d a b).2 : Nat) : Int)) ∧ Dk.Did S w p (Dk.rename d a b).1 w' := by
  obtain ⟨vF, vD, vS, vC, h⟩ := h
  have hcc := hf.sz.calls
  have cl := Dk.rcall_c h (by omega)
  have hsl := hf.short.len
  have CA : Hid (∀ W, Dk.Dat S W vD d.dir → Calls Try.prog 48 #[vD, .string (Ty.S a)] W fun e w' => Dk.Where d.dir a e ∧ w' = W) := Lib.hid fun W hW => Dk.rat_c vD d.dir a W hW hsl
  have CR : Hid (∀ W, Calls Try.prog 33 #[.string (Ty.S b)] W fun e w' => e = .returned (.bool (Dk.right b)) ∧ w' = W) := Lib.hid fun W => by
    have := Dk.rright_c (Ty.S b) (by rw [Ty.size_S]; omega) W
    rwa [Ty.data_S] at this
  by_cases he : Dk.callE d = 0
  · rw [he] at cl
    cases hlk : Dk.look d.dir a with
    | none =>
      have HE : Hid (Dk.rename d a b = (Dk.tick d, 12)) := Lib.hid (by unfold Dk.rename; rw [if_neg (by simpa using he), if_pos (.inl hlk)])
      have HW : Hid (∀ e, Dk.Where d.dir a e → e = .returned (.int .i64 (-1))) := Lib.hid fun e h => by
        rcases h with ⟨i, g, _, _, h, _⟩ | ⟨_, h⟩
        · rw [hlk] at h; cases h
        · exact h
      generalize Ty.S a = sa at CA ⊢
      generalize Ty.S b = sb
      clear h hf hlk he
      go_enter Try.func41, Try.ntmps41
      go_wp2_with fail
      with_reducible refine cl.mono ?_
      rintro e w1 ⟨rfl, hR, hO⟩
      obtain ⟨_, c1, _⟩ := hR.c
      have ca := CA.out w1 hR.dir
      have HR := Lib.hid hR
      have HD : Hid (Dk.Did S w p (Dk.tick d) w1) := Lib.hid (Dk.Did.of ⟨_, _, _, _, hR⟩ hO)
      clear cl hR hO
      go_wp2_with fail
      with_reducible refine ca.mono ?_
      rintro e w2 ⟨hW, h2⟩
      subst w2
      obtain rfl := HW.out e hW
      clear ca hW
      go_wp2
      go_ret
      exact ⟨by rw [HE.out]; rfl, by rw [HE.out]; exact HD.out⟩
    | some f =>
      have HW : Hid (∀ e, Dk.Where d.dir a e → ∃ i : Nat, i < d.dir.length ∧ d.dir[i]? = some (a, f) ∧ e = .returned (.int .i64 (i : Int))) := Lib.hid fun e h => by
        rcases h with ⟨i, g', hi, hl', h, he⟩ | ⟨h, _⟩
        · rw [hlk] at h
          cases h
          exact ⟨i, hi, hl', he⟩
        · rw [hlk] at h; cases h
      cases hrb : Dk.right b with
      | false =>
        have HE : Hid (Dk.rename d a b = (Dk.tick d, 12)) := Lib.hid (by unfold Dk.rename; rw [if_neg (by simpa using he), if_pos (.inr (.inl hrb))])
        rw [hrb] at CR
        have cr := fun W => CR.out W
        generalize Ty.S a = sa at CA ⊢
        generalize Ty.S b = sb at CR cr ⊢
        clear h hf hlk he hrb CR
        go_enter Try.func41, Try.ntmps41
        go_wp2_with fail
        with_reducible refine cl.mono ?_
        rintro e w1 ⟨rfl, hR, hO⟩
        obtain ⟨_, c1, _⟩ := hR.c
        have ca := CA.out w1 hR.dir
        have HR := Lib.hid hR
        have HD : Hid (Dk.Did S w p (Dk.tick d) w1) := Lib.hid (Dk.Did.of ⟨_, _, _, _, hR⟩ hO)
        clear cl hR hO
        go_wp2_with fail
        with_reducible refine ca.mono ?_
        rintro e w2 ⟨hW, h2⟩
        subst w2
        obtain ⟨i, hi, hig, rfl⟩ := HW.out e hW
        have hi1 : ¬ (i : Int) < 0 := by omega
        have hi3 : (i : Int) ≥ 0 := by omega
        clear ca hW hig
        go_wp2_with fail
        with_reducible refine (cr _).mono ?_
        rintro e w2 ⟨rfl, h2⟩
        subst w2
        clear cr
        go_wp2
        go_ret
        exact ⟨by rw [HE.out]; rfl, by rw [HE.out]; exact HD.out⟩
      | true =>
        rw [hrb] at CR
        have cr := fun W => CR.out W
        by_cases hab : a = b
        · have HE : Hid (Dk.rename d a b = (Dk.tick d, 12)) := Lib.hid (by unfold Dk.rename; rw [if_neg (by simpa using he), if_pos (.inr (.inr hab))])
          have hx := Tx.S_yes a
          have hsb : Ty.S b = Ty.S a := by rw [hab]
          rw [hsb] at cr ⊢
          generalize Ty.S a = sa at CA cr hx ⊢
          clear h hf hlk he hrb CR hab hsb
          go_enter Try.func41, Try.ntmps41
          go_wp2_with fail
          with_reducible refine cl.mono ?_
          rintro e w1 ⟨rfl, hR, hO⟩
          obtain ⟨_, c1, _⟩ := hR.c
          have ca := CA.out w1 hR.dir
          have HR := Lib.hid hR
          have HD : Hid (Dk.Did S w p (Dk.tick d) w1) := Lib.hid (Dk.Did.of ⟨_, _, _, _, hR⟩ hO)
          clear cl hR hO
          go_wp2_with fail
          with_reducible refine ca.mono ?_
          rintro e w2 ⟨hW, h2⟩
          subst w2
          obtain ⟨i, hi, hig, rfl⟩ := HW.out e hW
          have hi1 : ¬ (i : Int) < 0 := by omega
          have hi3 : (i : Int) ≥ 0 := by omega
          clear ca hW hig
          go_wp2_with fail
          with_reducible refine (cr _).mono ?_
          rintro e w2 ⟨rfl, h2⟩
          subst w2
          clear cr
          go_wp2
          go_ret
          exact ⟨by rw [HE.out]; rfl, by rw [HE.out]; exact HD.out⟩
        · have HE : Hid (Dk.rename d a b = (Dk.change (Dk.tick d) ⟨a, b, 0⟩, 0)) := Lib.hid (by
            unfold Dk.rename
            rw [if_neg (by simpa using he), if_neg]
            rintro (h | h | h)
            · rw [hlk] at h; cases h
            · rw [hrb] at h; cases h
            · exact hab h)
          have hx := Tx.S_no hab
          have CC : Hid (∀ W, Dk.RA S W p (Dk.tick d) vF vD vS vC → Calls Try.prog 65 #[.pointer (some ⟨p, 0, none⟩), .agg #[.string (Ty.S a), .string (Ty.S b), .int .i64 0]] W fun e w' => e = .returned (.tuple #[]) ∧ Dk.Did S W p (Dk.change (Dk.tick d) ⟨a, b, 0⟩) w') := Lib.hid fun W hW => Dk.rchange_c (c := ⟨a, b, 0⟩) hW hf.short ha hb (by have := hf.sz.dirs; show d.chg.length ≤ _; omega)
          generalize hsa : Ty.S a = sa at CA CC hx ⊢
          generalize hsb : Ty.S b = sb at CC cr hx ⊢
          clear h hf hlk he hsa hsb ha hb hab CR hrb
          go_enter Try.func41, Try.ntmps41
          go_wp2_with fail
          with_reducible refine cl.mono ?_
          rintro e w1 ⟨rfl, hR, hO⟩
          obtain ⟨_, c1, _⟩ := hR.c
          have ca := CA.out w1 hR.dir
          have HR := Lib.hid hR
          have HD : Hid (Dk.Did S w p (Dk.tick d) w1) := Lib.hid (Dk.Did.of ⟨_, _, _, _, hR⟩ hO)
          have cc := CC.out w1 hR
          clear cl hR hO
          go_wp2_with fail
          with_reducible refine ca.mono ?_
          rintro e w2 ⟨hW, h2⟩
          subst w2
          obtain ⟨i, hi, hig, rfl⟩ := HW.out e hW
          have hi1 : ¬ (i : Int) < 0 := by omega
          have hi3 : (i : Int) ≥ 0 := by omega
          clear ca hW hig
          go_wp2_with fail
          with_reducible refine (cr _).mono ?_
          rintro e w2 ⟨rfl, h2⟩
          subst w2
          clear cr
          go_wp2_with fail
          with_reducible refine cc.mono ?_
          rintro e w3 ⟨rfl, hD3⟩
          have HD := Lib.hid (HD.out.then' hD3)
          clear cc hD3
          go_wp2
          go_ret
          exact ⟨by rw [HE.out]; rfl, by rw [HE.out]; exact HD.out⟩
  · have HE : Hid (Dk.rename d a b = (Dk.tick d, Dk.callE d)) := Lib.hid (by unfold Dk.rename; rw [if_pos he])
    have hne : ((Dk.callE d : Nat) : Int) ≠ 0 := by omega
    have hnb : (((Dk.callE d : Nat) : Int) != 0) = true := by rw [bne_iff_ne]; exact hne
    generalize Dk.callE d = E at cl HE hnb hne
    generalize Ty.S a = sa
    generalize Ty.S b = sb
    clear h hf he hne
    go_enter Try.func41, Try.ntmps41
    go_wp2_with fail
    with_reducible refine cl.mono ?_
    rintro e w1 ⟨rfl, hR, hO⟩
    have HD : Hid (Dk.Did S w p (Dk.tick d) w1) := Lib.hid (Dk.Did.of ⟨_, _, _, _, hR⟩ hO)
    clear cl hR hO
    go_wp2
    go_ret
    exact ⟨by rw [HE.out]; rfl, by rw [HE.out]; exact HD.out⟩
set_option maxHeartbeats 4000000 in
set_option maxRecDepth 100000 in
theorem Dk.rcreate_c {S : Nat → Prop} {p : Nat} {d : Dk.D} {w : World} (h : Dk.RAt S w p d) (hf : Dk.Fit d) (s : Dk.Str) (hs : s.length ≤ 1048576) :
    Calls Try.prog 38 #[.pointer (some ⟨p, 0, none⟩), .string (Ty.S s)] w fun e w' => e = .returned (.int .i64 (((Dk.create d s).2 : Nat) : Int)) ∧ Dk.Did S w p (Dk.create d s).1 w' := by
  obtain ⟨vF, vD, vS, vC, h⟩ := h
  have hcc := hf.sz.calls
  have cl := Dk.rcall_c h (by omega)
  have hsl := hf.short.len
  have CA : Hid (∀ W, Dk.Dat S W vD d.dir → Calls Try.prog 48 #[vD, .string (Ty.S s)] W fun e w' => Dk.Where d.dir s e ∧ w' = W) := Lib.hid fun W hW => Dk.rat_c vD d.dir s W hW hsl
  have CR : Hid (∀ W, Calls Try.prog 33 #[.string (Ty.S s)] W fun e w' => e = .returned (.bool (Dk.right s)) ∧ w' = W) := Lib.hid fun W => by
    have := Dk.rright_c (Ty.S s) (by rw [Ty.size_S]; omega) W
    rwa [Ty.data_S] at this
  by_cases he : Dk.callE d = 0
  · rw [he] at cl
    cases hrb : Dk.right s with
    | false =>
      have HE : Hid (Dk.create d s = (Dk.tick d, 12)) := Lib.hid (by unfold Dk.create; rw [if_neg (by simpa using he), if_pos (.inl hrb)])
      rw [hrb] at CR
      have cr := fun W => CR.out W
      generalize Ty.S s = sa at CA cr ⊢
      clear h hf he CR
      go_enter Try.func38, Try.ntmps38
      go_wp2_with fail
      with_reducible refine cl.mono ?_
      rintro e w1 ⟨rfl, hR, hO⟩
      obtain ⟨_, c1, _⟩ := hR.c
      have ca := CA.out w1 hR.dir
      have HR := Lib.hid hR
      have HD : Hid (Dk.Did S w p (Dk.tick d) w1) := Lib.hid (Dk.Did.of ⟨_, _, _, _, hR⟩ hO)
      clear ca cl hR hO
      go_wp2_with fail
      with_reducible refine (cr _).mono ?_
      rintro e w2 ⟨rfl, h2⟩
      subst w2
      clear cr
      go_wp2
      go_ret
      exact ⟨by rw [HE.out]; rfl, by rw [HE.out]; exact HD.out⟩
    | true =>
      rw [hrb] at CR
      have cr := fun W => CR.out W
      cases hlk : Dk.look d.dir s with
      | some f =>
        have HE : Hid (Dk.create d s = (Dk.tick d, 12)) := Lib.hid (by unfold Dk.create; rw [if_neg (by simpa using he), if_pos (.inr (by rw [hlk]; simp))])
        have HW : Hid (∀ e, Dk.Where d.dir s e → ∃ i : Nat, i < d.dir.length ∧ d.dir[i]? = some (s, f) ∧ e = .returned (.int .i64 (i : Int))) := Lib.hid fun e h => by
          rcases h with ⟨i, g', hi, hl', h, he⟩ | ⟨h, _⟩
          · rw [hlk] at h
            cases h
            exact ⟨i, hi, hl', he⟩
          · rw [hlk] at h; cases h
        generalize Ty.S s = sa at CA cr ⊢
        clear h hf he hlk CR
        go_enter Try.func38, Try.ntmps38
        go_wp2_with fail
        with_reducible refine cl.mono ?_
        rintro e w1 ⟨rfl, hR, hO⟩
        obtain ⟨_, c1, _⟩ := hR.c
        have ca := CA.out w1 hR.dir
        have HR := Lib.hid hR
        have HD : Hid (Dk.Did S w p (Dk.tick d) w1) := Lib.hid (Dk.Did.of ⟨_, _, _, _, hR⟩ hO)
        go_wp2_with fail
        with_reducible refine (cr _).mono ?_
        rintro e w2 ⟨rfl, h2⟩
        subst w2
        clear cr
        clear cl hR hO
        go_wp2_with fail
        with_reducible refine ca.mono ?_
        rintro e w2 ⟨hW, h2⟩
        subst w2
        obtain ⟨i, hi, hig, rfl⟩ := HW.out e hW
        have hi1 : ¬ (i : Int) < 0 := by omega
        have hi3 : (i : Int) ≥ 0 := by omega
        clear ca hW hig
        go_wp2
        go_ret
        exact ⟨by rw [HE.out]; rfl, by rw [HE.out]; exact HD.out⟩
      | none =>
        have HE : Hid (Dk.create d s = (Dk.change (Dk.grow (Dk.tick d)) ⟨s, [], (d.files.length : Int)⟩, 0)) := Lib.hid (by unfold Dk.create; rw [if_neg (by simpa using he), if_neg (by rw [hrb, hlk]; simp)])
        have HW : Hid (∀ e, Dk.Where d.dir s e → e = .returned (.int .i64 (-1))) := Lib.hid fun e h => by
          rcases h with ⟨i, g, _, _, h, _⟩ | ⟨_, h⟩
          · rw [hlk] at h; cases h
          · exact h
        have CC : Hid (∀ (T : Nat → Prop) W vF' vD' vS' vC', Dk.RA T W p (Dk.grow (Dk.tick d)) vF' vD' vS' vC' → Calls Try.prog 65 #[.pointer (some ⟨p, 0, none⟩), .agg #[.string (Ty.S s), .string ⟨#[]⟩, .int .i64 (d.files.length : Int)]] W fun e w' => e = .returned (.tuple #[]) ∧ Dk.Did T W p (Dk.change (Dk.grow (Dk.tick d)) ⟨s, [], (d.files.length : Int)⟩) w') := Lib.hid fun T W _ _ _ _ hW => Dk.rchange_c (c := ⟨s, [], (d.files.length : Int)⟩) hW hf.short hs (Nat.zero_le _) (by have := hf.sz.dirs; show d.chg.length ≤ _; omega)
        have hfl := hf.sz.files
        have HAL := Lib.hid h.alive
        generalize hsa : Ty.S s = sa at CA CC cr ⊢
        clear h hf hlk he hsa hs CR
        go_enter Try.func38, Try.ntmps38
        go_wp2_with fail
        with_reducible refine cl.mono ?_
        rintro e w1 ⟨rfl, hR, hO⟩
        obtain ⟨_, c1, _⟩ := hR.c
        have ca := CA.out w1 hR.dir
        have c0 := hR.c.1
        have fz0 := hR.fz 0
        have HR := Lib.hid hR
        have HD : Hid (Dk.Did S w p (Dk.tick d) w1) := Lib.hid (Dk.Did.of ⟨_, _, _, _, hR⟩ hO)
        go_wp2_with fail
        with_reducible refine (cr _).mono ?_
        rintro e w2 ⟨rfl, h2⟩
        subst w2
        clear cr
        clear cl hR hO
        go_wp2_with fail
        with_reducible refine ca.mono ?_
        rintro e w2 ⟨hW, h2⟩
        subst w2
        obtain rfl := HW.out e hW
        clear ca hW
        have HFO : Dk.Fown w1 vF d.files := HR.out.files
        go_wp2_with (at_builtin; refine Dk.wpList_append1 63 _ 24 Try.underlying63 Dk.infoF rfl (by decide) Dk.encN_len Dk.encN_one (([] : Dk.Str), 0) HFO (Nat.zero_le _) (by omega) (by omega) _ rfl _ rfl (.tmp 27) (.tmp 29) (by rfl) (by rfl) (by rfl) (by rfl) ?_; intro v4 w4 o4 g4; have hb4 := (Dk.kept_by_type g4 HR.out.files.typed HR.out.blk (by decide)).trans HR.out.blk; have f4 : w4.frozen? ⟨p, 0, none⟩ = false := frozen_of_row w4 p 0 _ _ hb4; have c4 : w4.cell? ⟨p, 0, none⟩ = some vF := (cell_of_row w4 p 0 _ _ _ hb4).trans rfl; have H4 := Lib.hid (And.intro o4 g4); obtain ⟨gg, cc, rfl, _, _⟩ := o4.form1)
        have hsz4 : w1.heap.size ≤ w4.heap.size := H4.out.2.by_.size
        have hw1 := HD.out.2.size
        have hal : ∀ b, Dk.More S w w4 b → b < w4.heap.size := Dk.more_alive HAL.out (by omega)
        have hra := Dk.RA.filesPut (S' := Dk.More S w w4) HR.out H4.out.2 H4.out.1 (fun b hb => .inl hb) hal (fun b hb => by
          have hlt := H4.out.1.lt b hb
          rcases H4.out.2.own with e | ⟨k, e, hk⟩
          · exact .inl (HR.out.filesS b (e ▸ hb))
          · rw [hb] at e
            have : w1.heap.size ≤ b := by have := Option.some.inj e; rw [this]; exact hk
            exact .inr ⟨by omega, hlt⟩)
        have hoff : Dk.Off S w (w4.setCell ⟨p, 0, none⟩ (.slice (some ⟨gg, 0, none⟩) (d.files.length + 1) cc)) :=
          (HD.out.2.trans (Dk.Off.grew H4.out.2 fun b hb => .inl (HR.out.filesS b hb))).trans (Dk.Off.set (.inl HR.out.mine) _)
        have hs5 : (w4.setCell ⟨p, 0, none⟩ (.slice (some ⟨gg, 0, none⟩) (d.files.length + 1) cc)).heap.size = w4.heap.size := by simp
        have hdid : Dk.Did S w p (Dk.grow (Dk.tick d)) (w4.setCell ⟨p, 0, none⟩ (.slice (some ⟨gg, 0, none⟩) (d.files.length + 1) cc)) :=
          ⟨⟨_, _, _, _, hra.mono (fun b hb => by
            rcases hb with hb | hb
            · exact .inl hb
            · exact .inr ⟨hb.1, by rw [hs5]; exact hb.2⟩) (fun b hb => by
            rcases hb with hb | hb
            · rw [hs5]; exact hal b (.inl hb)
            · exact hb.2)⟩, hoff⟩
        have HDD := Lib.hid hdid
        have HTT : Hid (∀ b, Dk.More S w w4 b → Dk.More S w (w4.setCell ⟨p, 0, none⟩ (.slice (some ⟨gg, 0, none⟩) (d.files.length + 1) cc)) b) := Lib.hid fun b hb => by
          rcases hb with hb | hb
          · exact .inl hb
          · exact .inr ⟨hb.1, by rw [hs5]; exact hb.2⟩
        have cc5 := CC.out _ _ _ _ _ _ hra
        have c5 : (w4.setCell ⟨p, 0, none⟩ (.slice (some ⟨gg, 0, none⟩) (d.files.length + 1) cc)).cell? ⟨p, 0, none⟩ = some (.slice (some ⟨gg, 0, none⟩) (d.files.length + 1) cc) := hra.c.1
        have h1 : ((d.files.length + 1 : Nat) : Int) - 1 = (d.files.length : Int) := by omega
        have h2 : (d.files.length : Int) + 1 - 1 = (d.files.length : Int) := by omega
        have hl0 : (d.files.length : Int) ≤ 100000 := by omega
        generalize w4.setCell ⟨p, 0, none⟩ (.slice (some ⟨gg, 0, none⟩) (d.files.length + 1) cc) = w5 at hra hdid HDD HTT cc5 c5 ⊢
        clear hra hdid hoff hs5 hal H4 c4 f4 hb4 HFO c0 c1 fz0 CC hsz4 hw1
        go_wp2_with fail
        with_reducible refine cc5.mono ?_
        rintro e w6 ⟨rfl, hD6⟩
        have HD6 := Lib.hid (Dk.Did.then2 HDD.out hD6 HTT.out HAL.out)
        clear cc5 hD6
        go_wp2
        go_ret
        exact ⟨by rw [HE.out]; rfl, by rw [HE.out]; exact HD6.out⟩
  · have HE : Hid (Dk.create d s = (Dk.tick d, Dk.callE d)) := Lib.hid (by unfold Dk.create; rw [if_pos he])
    have hne : ((Dk.callE d : Nat) : Int) ≠ 0 := by omega
    have hnb : (((Dk.callE d : Nat) : Int) != 0) = true := by rw [bne_iff_ne]; exact hne
    generalize Dk.callE d = E at cl HE hnb hne
    generalize Ty.S s = ss
    clear h hf he hne
    go_enter Try.func38, Try.ntmps38
    go_wp2_with fail
    with_reducible refine cl.mono ?_
    rintro e w1 ⟨rfl, hR, hO⟩
    have HD : Hid (Dk.Did S w p (Dk.tick d) w1) := Lib.hid (Dk.Did.of ⟨_, _, _, _, hR⟩ hO)
    clear cl hR hO
    go_wp2
    go_ret
    exact ⟨by rw [HE.out]; rfl, by rw [HE.out]; exact HD.out⟩
end Go.Proofs.Ytfkdkdkdpenblaa
