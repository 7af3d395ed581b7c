/-
  The developers' disk: Crash.
  The program's disk (the developers' code): its contracts, in the words that the laws' walks want; the disk that isn't there. Written by gen_h0t.py.
-/
import Derived.Test.YtfkdkdkdpenblaaVX
import Derived.Test.YtfkdkdkdpenblaaZQ
namespace Go.Proofs.Ytfkdkdkdpenblaa
open Go.RowKit Go.Maps Go.Shelf
set_option maxHeartbeats 8000000 in
set_option maxRecDepth 100000 in
theorem Dk.pcrashM_c {m : Bool} {S : Nat → Prop} {p : Nat} {d : Dk.D} {w : World} (h : Dk.PAtM m S w p d) (hf : Dk.FitL d) (n : Int) (keep : List Int) (vK : Value) (hK : Dk.KeepL S w vK keep) :
    Calls Try.prog 24 #[.pointer (some ⟨p, 0, none⟩), .int .i64 n, vK] w fun e w' => e = .returned (.tuple #[]) ∧ Dk.PDidM m S w p (Dk.crash d n keep) w' := by
  obtain ⟨q, vb, vs, vN, vD, vP, ss, sa, rs, ra, h⟩ := h
  obtain ⟨aK, cK, rfl, hkl, hKc⟩ := hK
  obtain ⟨_, _, c2, _⟩ := h.c
  obtain ⟨L, hL⟩ : ∃ L, L = d.chg.length := ⟨_, rfl⟩
  have hLb : L ≤ 100000 := by have := hf.dirs; omega
  obtain ⟨aP, cP, hvP⟩ : ∃ a c, vP = .slice a L c := by
    have hvl := h.chg.1
    rcases h.own.form with ⟨e1, e2⟩ | ⟨g, c, e1, _⟩
    · exact ⟨none, 0, by rw [e1, hL, ← hvl, e2]; rfl⟩
    · exact ⟨_, c, by rw [e1, hL, ← hvl]⟩
  rw [hvP] at c2
  obtain ⟨k, hk⟩ : ∃ k : Nat, k = (min (max n 0) (L : Int)).toNat := ⟨_, rfl⟩
  have hkL : k ≤ L := by omega
  have CS : Hid (∀ X : Int, X = (k : Int) → Calls Try.prog 50 #[.pointer (some ⟨p, 0, none⟩), .int .i64 X] w fun e w' => e = .returned (.tuple #[]) ∧ Dk.Settled m S w p d k q vb vN vD w') := Lib.hid fun X hX => by
    rw [hX]
    exact Dk.psettle_c h hf.inv (by have := hf.dirs; omega) hf.chg k (by omega)
  have HTK : Hid (Dk.fold d.sure (d.chg.take k) = Dk.crashDir d n) := Lib.hid (by
    unfold Dk.crashDir
    congr 1
    by_cases hc : n.toNat ≤ L
    · rw [show k = n.toNat by omega]
    · rw [List.take_of_length_le (by omega), List.take_of_length_le (by omega)])
  have hdl := hf.inv.crashDir n
  have hll : (Dk.crashDir d n).length ≤ 200000 := by
    have := Dk.len_fold (d.chg.take n.toNat) d.sure
    rw [List.length_take] at this
    have := hf.dirs
    unfold Dk.crashDir
    omega
  have hnm : ∀ y ∈ Dk.crashDir d n, y.1.length ≤ 140737488351232 := Dk.fold_names (B := 140737488351232) (d.chg.take n.toNat) d.sure hf.sure fun c hc => by have := hf.chg c (List.mem_of_mem_take hc); omega
  have hcr : Dk.heldL (Dk.cuts keep 0 d.files (Dk.crashDir d n)) (Dk.crashDir d n) ≤ 1000000000000000 := by
    have h1 := (hf.inv.crash n keep).held
    have h2 : Dk.size (Dk.crash d n keep).files ≤ Dk.size d.files := Dk.size_le (Dk.length_cuts keep (Dk.crashDir d n) 0 d.files) fun f => ((Dk.cuts_left keep (Dk.crashDir d n) 0 d.files hf.inv.file hdl.lim).1 f).le
    have h3 := hf.bytes
    have e : Dk.held (Dk.crash d n keep) = Dk.heldL (Dk.cuts keep 0 d.files (Dk.crashDir d n)) (Dk.crashDir d n) := rfl
    omega
  -- behind settle: the copy
  have HCL : Hid (∀ w1, Dk.Settled m S w p d k q vb vN vD w1 → w1.cell? ⟨p, 1, none⟩ = some vD ∧ Calls Try.prog 51 #[vD] w1 fun e w2 => ∃ mb, e = .returned (.map mb) ∧ (w2.cell? ⟨p, 0, none⟩ = some vN ∧ w2.frozen? ⟨p, 0, none⟩ = false) ∧
      ∀ w3, w3 = w2.setCell ⟨p, 0, none⟩ (.map mb) → ∃ S3 ss sa rs ra, Dk.PX m S3 w3 p (Dk.mid d (Dk.crashDir d n) d.files) (Dk.held d : Int) q vb [] (.map mb) vD (.slice none 0 0) ss sa rs ra ∧ Dk.Off S w w3 ∧ (∀ b, S3 b → S b ∨ (w.heap.size ≤ b ∧ b < w3.heap.size)) ∧ ∀ b, S b → S3 b) := Lib.hid fun w1 hs => by
    obtain ⟨ss1, sa1, rs1, ra1, hx, o1, hs1⟩ := hs
    refine ⟨hx.c.2.1, ?_⟩
    have fin : ∀ (mb : Option Nat) (w2 : World), Below w1.heap.size w1 w2 → (((Value.map mb) = .map none ∧ vD = .map none) ∨ (∃ bN, (Value.map mb) = .map (some bN) ∧ w1.heap.size ≤ bN ∧ Dk.PM w2 q bN (Dk.fold d.sure (d.chg.take k)) ∧ ∃ bD, vD = .map (some bD))) →
        (w2.cell? ⟨p, 0, none⟩ = some vN ∧ w2.frozen? ⟨p, 0, none⟩ = false) ∧
      ∀ w3, w3 = w2.setCell ⟨p, 0, none⟩ (.map mb) → ∃ S3 ss sa rs ra, Dk.PX m S3 w3 p (Dk.mid d (Dk.crashDir d n) d.files) (Dk.held d : Int) q vb [] (.map mb) vD (.slice none 0 0) ss sa rs ra ∧ Dk.Off S w w3 ∧ (∀ b, S3 b → S b ∨ (w.heap.size ≤ b ∧ b < w3.heap.size)) ∧ ∀ b, S b → S3 b := fun mb w2 g hv => by
      have h2 := hx.same g.size fun b hb => g.block b (hx.alive b hb)
      refine ⟨⟨h2.c.1, h2.fz 0⟩, fun w3 hw3 => ?_⟩
      obtain ⟨h3, o3, hs3⟩ := hx.named rfl g hv hw3
      rw [← HTK.out]
      refine ⟨_, ss1, sa1, rs1, ra1, h3, o1.same o3, fun b hb => ?_, fun b hb => .inl hb⟩
      rcases hb with hb | hb
      · exact .inl hb
      · exact .inr (by rw [← hs1]; exact hb)
    rcases hx.dirs with ⟨_, e, _, _⟩ | ⟨b1, b2, _, e, _, _, _, _, h4⟩
    · subst e
      refine (Dk.pclone_nil w1).mono ?_
      rintro e w2 ⟨he, rfl⟩
      exact ⟨none, he, fin none w2 (Below.refl _ _) (.inl ⟨rfl, rfl⟩)⟩
    · subst e
      refine (Dk.pclone_c h4).mono ?_
      rintro e w2 ⟨he, hm, hb⟩
      exact ⟨_, he, fin _ w2 hb (.inr ⟨_, rfl, Nat.le_refl _, hm, _, rfl⟩)⟩
  have hfit := Lib.hid hf
  have HAL := Lib.hid h.alive
  have HKC := Lib.hid hKc
  have HKL := Lib.hid hkl
  have HFC : Hid (Dk.Well d.files.length (Dk.crashDir d n) ∧ (Dk.crashDir d n).length ≤ 200000 ∧ (∀ y ∈ Dk.crashDir d n, y.1.length ≤ 140737488351232) ∧ Dk.heldL (Dk.cuts keep 0 d.files (Dk.crashDir d n)) (Dk.crashDir d n) ≤ 1000000000000000) := Lib.hid ⟨hdl, hll, hnm, hcr⟩
  have HCR : Hid (Dk.crash d n keep = { Dk.mid d (Dk.crashDir d n) (Dk.cuts keep 0 d.files (Dk.crashDir d n)) with halt := -1, deny := -1 }) := Lib.hid rfl
  have hX : min (max n 0) (L : Int) = (k : Int) := by omega
  have cs := CS.out _ hX
  generalize Dk.crashDir d n = l at HCL HFC HCR HTK
  generalize Dk.crash d n keep = dd at HCR ⊢
  clear h hf hKc hL hvP hkl hdl hll hnm hcr CS hk hkL hLb HTK hX
  go_enter Try.func24, Try.ntmps24
  go_wp2_with fail
  with_reducible refine cs.mono ?_
  rintro e w1 ⟨rfl, hs⟩
  obtain ⟨c1, ccl⟩ := HCL.out w1 hs
  clear cs hs HCL c2
  go_wp2_with fail
  with_reducible refine ccl.mono ?_
  rintro e w2 ⟨mb, rfl, ⟨c0, f0⟩, hK3⟩
  have HK3 := Lib.hid hK3
  clear ccl hK3 c1
  go_upto_region 3 with (fail)
  generalize hw3 : World.setCell w2 _ _ = w3
  obtain ⟨S3, ss3, sa3, rs3, ra3, h3, o3, hsub, hsup⟩ := HK3.out w3 hw3.symm
  clear hw3 HK3 c0 f0
  have HS3 := Lib.hid (And.intro o3 (And.intro hsub hsup))
  have H3 := Lib.hid h3
  obtain ⟨c0, _⟩ := h3.c
  have cso := Dk.psorted_c h3.dirs.names HFC.out.1.asc (by have := HFC.out.2.1; show l.length ≤ _; omega)
  change Calls _ _ _ _ (fun e w' => ∃ u, e = .returned u ∧ Tx.Own w3.heap.size w' u (l.map (·.1)) ∧ Below w3.heap.size w3 w') at cso
  clear h3 o3 hsub hsup
  go_wp2_with fail
  with_reducible refine cso.mono ?_
  rintro e w4 ⟨u, rfl, hu, g4⟩
  obtain ⟨aU, cU, rfl, hUc, hU⟩ := Dk.ownForm hu
  have hml : (l.map (·.1)).length = l.length := List.length_map _
  have HU : Hid (0 < (l.map (·.1)).length → ∃ g, aU = some ⟨g, 0, none⟩ ∧ ¬ S3 g ∧ g < w4.heap.size ∧ ∀ i, i < (l.map (·.1)).length → w4.cell? ⟨g, i, none⟩ = some (Tx.sv (l.map (·.1)) i)) := Lib.hid fun hp => by
    obtain ⟨g, e, h1, h2, h3⟩ := hU hp
    exact ⟨g, e, fun hs => by have := H3.out.alive g hs; omega, h2, h3⟩
  have hB4 := Lib.hid g4
  have H4 := Lib.hid (H3.out.same g4.size fun b hb => g4.block b (H3.out.alive b hb))
  have HO4 : Hid (Dk.Off S w w4) := Lib.hid (HS3.out.1.same (Dk.Off.of_below g4))
  have HK4 : Hid (keep = [] ∨ ∃ b o, aK = some ⟨b, o, none⟩ ∧ ¬ S3 b ∧ b < w4.heap.size ∧ ∀ i, i < keep.length → w4.cell? ⟨b, o + i, none⟩ = some (.int .i64 (Ig.nth keep i))) := Lib.hid (by
    rcases HKC.out with e | ⟨b, o, e, hb, hbl, hc⟩
    · exact .inl e
    · refine .inr ⟨b, o, e, fun hs => ?_, Nat.lt_of_lt_of_le hbl HO4.out.size, fun i hi => ?_⟩
      · rcases HS3.out.2.1 b hs with h1 | h1
        · exact hb h1
        · omega
      · rw [← hc i hi]
        exact World.cell?_of_block (HO4.out.block b hbl hb))
  rw [hml] at hUc ⊢
  have hlb : (l.length : Int) ≤ 200000 := by have := HFC.out.2.1; omega
  clear cso hu g4 hU hml c0
  go_wp2_with fail
  go_loopw [6, 7, 34] (fun _ _ i wr => ∃ (j : Nat) (vb' : Nat → Value), j ≤ l.length ∧ i = .int .i64 j ∧ Dk.PX m S3 wr p (Dk.mid d l (Dk.cuts keep 0 d.files (l.take j))) (Dk.held d : Int) q vb' [] (.map mb) vD (.slice none 0 0) ss3 sa3 rs3 ra3 ∧ Dk.Off S3 w4 wr) (fun _ _ i _ => l.length - (intOf i).toNat)
  case atStart => exact ⟨0, vb, Nat.zero_le _, rfl, H4.out, Dk.Off.refl _ _⟩
  case round =>
    obtain ⟨j, vb', hj, rfl, hx, ho⟩ := hrel
    have hj0 : (0 : Int) ≤ (j : Int) := by omega
    by_cases hjl : j < l.length
    · have hji : (j : Int) < (l.length : Int) := by omega
      have hjm : (j : Int) < 9223372036854775807 := by omega
      obtain ⟨g, s, f, rfl, cg, c0, hlk, ck, cc⟩ := Dk.crash_turn (cK := cK) hx ho hfit.out HFC.out.1 HFC.out.2.2.1 (by have := HFC.out.2.1; omega) hjl HKL.out HK4.out HU.out
      have CK := Lib.hid ck
      have CC := Lib.hid cc
      clear ck cc hx ho
      go_wp2_with fail
      go_region_law (first
        | (go_simp; go_at_call 53; (with_reducible refine CK.out.mono ?_); rintro e wv ⟨rfl, rfl⟩)
        | (go_simp; go_at_call 52; (with_reducible refine CC.out.mono ?_); rintro e w9 ⟨rfl, ⟨vb9, h9⟩, o9⟩; have H9 := Lib.hid h9; have HO9 := Lib.hid o9; clear h9 o9))
      all_goals
        go_wp2
        go_roundw
        case rel => exact ⟨j + 1, vb9, by omega, by simp, H9.out, HO9.out⟩
        case measure => simp [intOf]; omega
    · obtain rfl : j = l.length := by omega
      have hji : ¬ (l.length : Int) < (l.length : Int) := by omega
      rw [List.take_length] at hx
      obtain ⟨c0, cu⟩ := Dk.crash_last hx (by rw [Dk.length_cuts]; exact HFC.out.1) HFC.out.2.2.2
      have HO := Lib.hid ho
      clear hx ho
      go_wp2_with fail
      with_reducible refine cu.mono ?_
      rintro e wu ⟨rfl, ⟨x4, x5, x6, x7, x8⟩, ⟨y4, y5, y6, y7, y8⟩, hK9⟩
      have HK9 := Lib.hid hK9
      clear cu hK9 c0
      go_wp2
      go_end0
      obtain ⟨h9, o9⟩ := HK9.out _ rfl
      exact ⟨rfl, by rw [HCR.out]; exact Dk.crash_did (w3 := w3) h9 HO4.out (HO.out.same o9) HS3.out.2.1 HS3.out.2.2 (Nat.le_trans hB4.out.size (HO.out.same o9).size)⟩
end Go.Proofs.Ytfkdkdkdpenblaa

namespace Go.Proofs.Ytfkdkdkdpenblaa
open Go.RowKit
theorem Dk.pnew_c (n : Int) (_hn : Ty.I64 n) (w : World) :
    Calls Try.prog 13 #[.int .i64 n] w fun e w' => ∃ p, e = .returned (.pointer (some ⟨p, 0, none⟩)) ∧ Dk.PAt (fun b => w.heap.size ≤ b ∧ b < w'.heap.size) w' p (Dk.new n) ∧ Below w.heap.size w w' := Dk.pnewM_c n w
theorem Dk.pcreate_c {S : Nat → Prop} {p : Nat} {d : Dk.D} {w : World} (h : Dk.PAt S w p d) (hf : Dk.Fit d) (s : Dk.Str) (hs : s.length ≤ 1048576) :
    Calls Try.prog 25 #[.pointer (some ⟨p, 0, none⟩), .string (Ty.S s)] w fun e w' => e = .returned (.int .i64 (((Dk.create d s).2 : Nat) : Int)) ∧ Dk.PDid S w p (Dk.create d s).1 w' := Dk.pcreateM_c h hf s hs
theorem Dk.pappend_c {S : Nat → Prop} {p : Nat} {d : Dk.D} {w : World} (h : Dk.PAt S w p d) (hf : Dk.Fit d) (s t : Dk.Str) (hs : s.length ≤ 1048576) (ht : t.length ≤ 1048576) :
    Calls Try.prog 28 #[.pointer (some ⟨p, 0, none⟩), .string (Ty.S s), .string (Ty.S t)] w fun e w' => e = .returned (.int .i64 (((Dk.append d s t).2 : Nat) : Int)) ∧ Dk.PDid S w p (Dk.append d s t).1 w' := Dk.pappendM_c h hf s t hs ht
theorem Dk.psync_c {S : Nat → Prop} {p : Nat} {d : Dk.D} {w : World} (h : Dk.PAt S w p d) (hf : Dk.Fit d) (s : Dk.Str) (hs : s.length ≤ 1048576) :
    Calls Try.prog 29 #[.pointer (some ⟨p, 0, none⟩), .string (Ty.S s)] w fun e w' => e = .returned (.int .i64 (((Dk.sync d s).2 : Nat) : Int)) ∧ Dk.PDid S w p (Dk.sync d s).1 w' := Dk.psyncM_c h hf s hs
theorem Dk.prename_c {S : Nat → Prop} {p : Nat} {d : Dk.D} {w : World} (h : Dk.PAt S w p d) (hf : Dk.Fit d) (a b : Dk.Str) (ha : a.length ≤ 1048576) (hb : b.length ≤ 1048576) :
    Calls Try.prog 34 #[.pointer (some ⟨p, 0, none⟩), .string (Ty.S a), .string (Ty.S b)] w fun e w' => e = .returned (.int .i64 (((Dk.rename d a b).2 : Nat) : Int)) ∧ Dk.PDid S w p (Dk.rename d a b).1 w' := Dk.prenameM_c h hf a b ha hb
theorem Dk.premove_c {S : Nat → Prop} {p : Nat} {d : Dk.D} {w : World} (h : Dk.PAt S w p d) (hf : Dk.Fit d) (s : Dk.Str) (hs : s.length ≤ 1048576) :
    Calls Try.prog 35 #[.pointer (some ⟨p, 0, none⟩), .string (Ty.S s)] w fun e w' => e = .returned (.int .i64 (((Dk.remove d s).2 : Nat) : Int)) ∧ Dk.PDid S w p (Dk.remove d s).1 w' := Dk.premoveM_c h hf s hs
theorem Dk.psyncdir_c {S : Nat → Prop} {p : Nat} {d : Dk.D} {w : World} (h : Dk.PAt S w p d) (hf : Dk.Fit d) :
    Calls Try.prog 30 #[.pointer (some ⟨p, 0, none⟩)] w fun e w' => e = .returned (.int .i64 (((Dk.syncDir d).2 : Nat) : Int)) ∧ Dk.PDid S w p (Dk.syncDir d).1 w' := Dk.psyncdirM_c h hf
theorem Dk.pspace_c {S : Nat → Prop} {p : Nat} {d : Dk.D} {w : World} (h : Dk.PAt S w p d) (_hf : Dk.Fit d) (n : Int) (_hn : Ty.I64 n) :
    Calls Try.prog 27 #[.pointer (some ⟨p, 0, none⟩), .int .i64 n] w fun e w' => e = .returned (.tuple #[]) ∧ Dk.PDid S w p (Dk.space d n) w' := Dk.pspaceM_c h n
theorem Dk.pstop_c {S : Nat → Prop} {p : Nat} {d : Dk.D} {w : World} (h : Dk.PAt S w p d) (_hf : Dk.Fit d) (n : Int) (hn : Ty.I64 n) :
    Calls Try.prog 36 #[.pointer (some ⟨p, 0, none⟩), .int .i64 n] w fun e w' => e = .returned (.tuple #[]) ∧ Dk.PDid S w p (Dk.stop d n) w' := Dk.pstopM_c h n hn
theorem Dk.prefuse_c {S : Nat → Prop} {p : Nat} {d : Dk.D} {w : World} (h : Dk.PAt S w p d) (_hf : Dk.Fit d) (n : Int) (hn : Ty.I64 n) :
    Calls Try.prog 37 #[.pointer (some ⟨p, 0, none⟩), .int .i64 n] w fun e w' => e = .returned (.tuple #[]) ∧ Dk.PDid S w p (Dk.refuse d n) w' := Dk.prefuseM_c h n hn
theorem Dk.pcrash_c {S : Nat → Prop} {p : Nat} {d : Dk.D} {w : World} (h : Dk.PAt S w p d) (hf : Dk.Fit d) (n : Int) (_hn : Ty.I64 n) (keep : List Int) (vK : Value) (hK : Dk.Keep S w vK keep) :
    Calls Try.prog 24 #[.pointer (some ⟨p, 0, none⟩), .int .i64 n, vK] w fun e w' => e = .returned (.tuple #[]) ∧ Dk.PDid S w p (Dk.crash d n keep) w' := Dk.pcrashM_c h hf.loose n keep vK hK.loose
theorem Dk.pread_c {S : Nat → Prop} {p : Nat} {d : Dk.D} {w : World} (h : Dk.PAt S w p d) (hf : Dk.Fit d) (s : Dk.Str) (hs : s.length ≤ 140737488351232) :
    Calls Try.prog 19 #[.pointer (some ⟨p, 0, none⟩), .string (Ty.S s)] w fun e w' => e = .returned (.tuple #[.string (Ty.S (Dk.read d s).1), .int .i64 (((Dk.read d s).2 : Nat) : Int)]) ∧ Below w.heap.size w w' := Dk.preadM_c h hf.inv s hs
theorem Dk.pnames_c {S : Nat → Prop} {p : Nat} {d : Dk.D} {w : World} (h : Dk.PAt S w p d) (hf : Dk.Fit d) :
    Calls Try.prog 22 #[.pointer (some ⟨p, 0, none⟩)] w fun e w' => ∃ v, e = .returned v ∧ Tx.Own w.heap.size w' v (Dk.names d) ∧ Below w.heap.size w w' := Dk.pnamesM_c h hf.loose
theorem Dk.pheld_c {S : Nat → Prop} {p : Nat} {d : Dk.D} {w : World} (h : Dk.PAt S w p d) (_hf : Dk.Fit d) :
    Calls Try.prog 17 #[.pointer (some ⟨p, 0, none⟩)] w fun e w' => e = .returned (.int .i64 ((Dk.held d : Nat) : Int)) ∧ Below w.heap.size w w' := Dk.pheldM_c h
set_option maxRecDepth 100000 in
theorem Dk.nilcall_c (w : World) : Calls Try.prog 55 #[.pointer none] w fun e w' => e = .returned (.int .i64 1) ∧ w' = w := by
  go_enter Try.func55, Try.ntmps55
  go_wp2
  go_ret
  exact ⟨rfl, rfl⟩
set_option maxRecDepth 100000 in
theorem Dk.nilcallOn_c (s : ByteArray) (w : World) : Calls Try.prog 60 #[.pointer none, .string s] w fun e w' => e = .returned (.tuple #[.pointer none, .int .i64 1]) ∧ w' = w := by
  have cl := Dk.nilcall_c w
  go_enter Try.func60, Try.ntmps60
  go_wp2_with fail
  with_reducible refine cl.mono ?_
  rintro e w1 ⟨rfl, rfl⟩
  clear cl
  go_wp2
  go_ret2
  exact ⟨rfl, rfl⟩
set_option maxRecDepth 100000 in
theorem Dk.nilcreate_c (s : ByteArray) (w : World) :
    Calls Try.prog 25 #[.pointer none, .string s] w fun e w' => e = .returned (.int .i64 1) ∧ Below w.heap.size w w' := by
  have cl := Dk.nilcall_c (w.alloc (.cells #[.string s] 9))
  go_enter Try.func25, Try.ntmps25
  go_wp2_with fail
  with_reducible refine cl.mono ?_
  rintro e w1 ⟨rfl, h9⟩
  subst w1
  clear cl
  go_wp2
  go_ret
  exact ⟨rfl, (Below.refl _ w).alloc (Nat.le_refl _) _⟩
set_option maxRecDepth 100000 in
theorem Dk.nilappend_c (s t : ByteArray) (w : World) :
    Calls Try.prog 28 #[.pointer none, .string s, .string t] w fun e w' => e = .returned (.int .i64 1) ∧ Below w.heap.size w w' := by
  have cl := Dk.nilcallOn_c s w
  go_enter Try.func28, Try.ntmps28
  go_wp2_with fail
  with_reducible refine cl.mono ?_
  rintro e w1 ⟨rfl, h9⟩
  subst w1
  clear cl
  go_wp2
  go_ret
  exact ⟨rfl, Below.refl _ w⟩
set_option maxRecDepth 100000 in
theorem Dk.nilsync_c (s : ByteArray) (w : World) :
    Calls Try.prog 29 #[.pointer none, .string s] w fun e w' => e = .returned (.int .i64 1) ∧ Below w.heap.size w w' := by
  have cl := Dk.nilcallOn_c s w
  go_enter Try.func29, Try.ntmps29
  go_wp2_with fail
  with_reducible refine cl.mono ?_
  rintro e w1 ⟨rfl, h9⟩
  subst w1
  clear cl
  go_wp2
  go_ret
  exact ⟨rfl, Below.refl _ w⟩
set_option maxRecDepth 100000 in
theorem Dk.nilrename_c (s t : ByteArray) (w : World) :
    Calls Try.prog 34 #[.pointer none, .string s, .string t] w fun e w' => e = .returned (.int .i64 1) ∧ Below w.heap.size w w' := by
  have cl := Dk.nilcallOn_c s ((w.alloc (.cells #[.string s] 9)).alloc (.cells #[.string t] 9))
  go_enter Try.func34, Try.ntmps34
  go_wp2_with fail
  with_reducible refine cl.mono ?_
  rintro e w1 ⟨rfl, h9⟩
  subst w1
  clear cl
  go_wp2
  go_ret
  exact ⟨rfl, ((Below.refl _ w).alloc (Nat.le_refl _) _).alloc (by simp) _⟩
set_option maxRecDepth 100000 in
theorem Dk.nilremove_c (s : ByteArray) (w : World) :
    Calls Try.prog 35 #[.pointer none, .string s] w fun e w' => e = .returned (.int .i64 1) ∧ Below w.heap.size w w' := by
  have cl := Dk.nilcallOn_c s (w.alloc (.cells #[.string s] 9))
  go_enter Try.func35, Try.ntmps35
  go_wp2_with fail
  with_reducible refine cl.mono ?_
  rintro e w1 ⟨rfl, h9⟩
  subst w1
  clear cl
  go_wp2
  go_ret
  exact ⟨rfl, (Below.refl _ w).alloc (Nat.le_refl _) _⟩
set_option maxRecDepth 100000 in
theorem Dk.nilsyncdir_c (w : World) :
    Calls Try.prog 30 #[.pointer none] w fun e w' => e = .returned (.int .i64 1) ∧ Below w.heap.size w w' := by
  have cl := Dk.nilcall_c w
  go_enter Try.func30, Try.ntmps30
  go_wp2_with fail
  with_reducible refine cl.mono ?_
  rintro e w1 ⟨rfl, h9⟩
  subst w1
  clear cl
  go_wp2
  go_ret
  exact ⟨rfl, Below.refl _ w⟩
set_option maxRecDepth 100000 in
theorem Dk.nilspace_c (n : Int) (w : World) :
    Calls Try.prog 27 #[.pointer none, .int .i64 n] w fun e w' => e = .returned (.tuple #[]) ∧ Below w.heap.size w w' := by
  go_enter Try.func27, Try.ntmps27
  go_wp2
  go_end0
  exact ⟨rfl, Below.refl _ w⟩
set_option maxRecDepth 100000 in
theorem Dk.nilstop_c (n : Int) (w : World) :
    Calls Try.prog 36 #[.pointer none, .int .i64 n] w fun e w' => e = .returned (.tuple #[]) ∧ Below w.heap.size w w' := by
  go_enter Try.func36, Try.ntmps36
  go_wp2
  go_end0
  exact ⟨rfl, Below.refl _ w⟩
set_option maxRecDepth 100000 in
theorem Dk.nilrefuse_c (n : Int) (w : World) :
    Calls Try.prog 37 #[.pointer none, .int .i64 n] w fun e w' => e = .returned (.tuple #[]) ∧ Below w.heap.size w w' := by
  go_enter Try.func37, Try.ntmps37
  go_wp2
  go_end0
  exact ⟨rfl, Below.refl _ w⟩
set_option maxRecDepth 100000 in
theorem Dk.nilcrash_c (n : Int) (a : Option Addr) (l c : Nat) (w : World) :
    Calls Try.prog 24 #[.pointer none, .int .i64 n, .slice a l c] w fun e w' => e = .returned (.tuple #[]) ∧ Below w.heap.size w w' := by
  go_enter Try.func24, Try.ntmps24
  go_wp2
  ((try simp only [Exit.inBlock, Exit.then]); refine bodyPost_ret (results_none rfl _ _ _) rfl ?_)
  exact ⟨rfl, Below.refl _ w⟩
set_option maxRecDepth 100000 in
theorem Dk.nilread_c (s : ByteArray) (w : World) :
    Calls Try.prog 19 #[.pointer none, .string s] w fun e w' => e = .returned (.tuple #[.string ⟨#[]⟩, .int .i64 12]) ∧ Below w.heap.size w w' := by
  go_enter Try.func19, Try.ntmps19
  go_wp2
  go_ret2
  exact ⟨rfl, Below.refl _ w⟩
set_option maxRecDepth 100000 in
theorem Dk.nilnames_c (w : World) :
    Calls Try.prog 22 #[.pointer none] w fun e w' => ∃ a c, e = .returned (.slice a 0 c) ∧ Below w.heap.size w w' := by
  go_enter Try.func22, Try.ntmps22
  go_wp2
  go_ret
  exact ⟨none, 0, rfl, Below.refl _ w⟩
set_option maxRecDepth 100000 in
theorem Dk.nilheld_c (w : World) :
    Calls Try.prog 17 #[.pointer none] w fun e w' => e = .returned (.int .i64 0) ∧ Below w.heap.size w w' := by
  go_enter Try.func17, Try.ntmps17
  go_wp2
  go_ret
  exact ⟨rfl, Below.refl _ w⟩
end Go.Proofs.Ytfkdkdkdpenblaa
