/-
  The program's list: All and From.
  The laws of skip: three keys.
  Arguments of the laws of column opened: a column by value; a slice of values, their numbers in bounds.
  Contracts of package kinds: keys in a range. The document's answer. The laws' own 'lives'.
  Arguments of kinds opened: values, ranges, slices of columns and of values; texts are no longer than a machine can hold.
  Arguments of the laws of deeds opened: a deed by value; the length of a slice is not above its capacity.
  The row's last step where the call leaves a world that is, below its first new block, as it was.
  What was given to a call that wrote nothing that was there reads behind the call as it read before, whatever its types.
-/
import Derived.Test.YtfjhffldhpcdmaaDoorZAH
import Derived.Test.YtfjhffldhpcdmaaDoorZAC
import Derived.Deep.Slices
import Derived.Deep.Fields
import Derived.ChangeSame
import Derived.ProofKit
import Derived.OpenShut
import Derived.SizedLaws
import Derived.Test.YtfjhffldhpcdmaaDoorZAE
import Derived.Test.YtfjhffldhpcdmaaDoorZAD
import Derived.Test.YtfjhffldhpcdmaaDoorRows
import Derived.Below
import Derived.Carry
namespace Go.Proofs.YtfjhffldhpcdmaaDoor
open Go Go.RowKit Go.Shelf
attribute [local go_sem] Oper.semAt_some
set_option maxHeartbeats 4000000 in
set_option maxRecDepth 100000 in
theorem Sk.all1_seq {S : Nat → Prop} {w : World} {p n₀ bl : Nat} {N : List Sk.Nd} (h : Sk.PL S w p N) (hS : ∀ b, S b → b < n₀) (hn : n₀ ≤ w.heap.size)
    (c1 : w.cell? ⟨bl, 0, none⟩ = some (.pointer (some ⟨p, 0, none⟩))) :
    Sk.Seq Tryd.prog 34 #[.pointer (some ⟨bl, 0, none⟩)] (Sk.EnD n₀) n₀ (N.map Sk.Nd.d) w := by
  intro l J Jx W hW hJ hJx hY h0
  have d1 := (hW.cell (p := ⟨bl, 0, none⟩) (World.block_lt_of_cell? w _ c1)).trans c1
  have hP := h.kept hW
  have hPd := hP.kept (Below.refl _ W).drew
  have l0 : W.drew.cell? ⟨p, 0, none⟩ = some (Sk.hd N) := by
    have := (hPd.lnk (A := []) (B := N) (i := 0) (by decide)).1
    rw [Sk.lnk_zero fun x hx => hP.hgt x hx] at this
    exact this
  have d2 : W.drew.cell? ⟨bl, 0, none⟩ = some (.pointer (some ⟨p, 0, none⟩)) := d1
  have CV := Lib.hid (Sk.visit_c (A := []) (w := W.drew) hPd rfl hS (Nat.le_trans hn hW.size) (Below.refl _ W).drew hJ hJx hY (Sk.own_below hJ h0 (Below.refl _ W).drew))
  clear hJ hJx hY h0 hP hPd h hW
  unfold Sk.hd at l0 CV
  generalize Sk.ha N = o0 at l0 CV
  have hmx : Tryd.prog.follows .mixedOrders = true := by kernel_rfl
  refine callsIn_of_wp Tryd.func34 rfl trivial ?_ rfl
  simp only [Tryd.ntmps34, List.size_toArray, List.length_cons, List.length_nil, Nat.reduceAdd, Nat.reduceSub, Array.replicate_succ, Array.replicate_zero, List.push_toArray, List.append_toArray, List.nil_append, List.cons_append]
  gi_wp2
  gi_region_with_o (refine ⟨trivial, ?_⟩; gi_at_call 35; refine (callsIn_wide.2 (callsIn_wide.1 CV.out)).mono ?_; rintro e w2 ⟨rfl, hp2⟩)
  all_goals
    have HP2 := Lib.hid hp2
    clear hp2 CV l0 d1 d2
    gi_wp2
    go_end0
    exact ⟨⟨_, rfl⟩, HP2.out⟩
set_option maxHeartbeats 1000000 in
set_option maxRecDepth 100000 in
/-- Of a list that isn't there. -/
theorem Sk.nil_all1_seq {w : World} {n₀ bl : Nat} (c1 : w.cell? ⟨bl, 0, none⟩ = some (.pointer none)) :
    Sk.Seq Tryd.prog 34 #[.pointer (some ⟨bl, 0, none⟩)] (Sk.EnD n₀) n₀ [] w := by
  intro l J Jx W hW hJ hJx hY h0
  have d1 := (hW.cell (p := ⟨bl, 0, none⟩) (World.block_lt_of_cell? w _ c1)).trans c1
  have H0 := Lib.hid h0
  clear hJ hJx hY h0 hW c1
  refine callsIn_of_wp Tryd.func34 rfl trivial ?_ rfl
  simp only [Tryd.ntmps34, List.size_toArray, List.length_cons, List.length_nil, Nat.reduceAdd, Nat.reduceSub, Array.replicate_succ, Array.replicate_zero, List.push_toArray, List.append_toArray, List.nil_append, List.cons_append]
  gi_wp2
  go_end0
  exact ⟨⟨_, rfl⟩, .inl ⟨_, H0.out⟩⟩
set_option maxHeartbeats 1000000 in
set_option maxRecDepth 100000 in
theorem Sk.all_c {w : World} (o : Option Addr) (m : Nat) (hm : m = w.heap.size) :
    Calls Tryd.prog 20 #[.pointer o] w fun e w' => e = .returned (.func (.func 34) #[] #[.pointer (some ⟨m, 0, none⟩)]) ∧ w'.cell? ⟨m, 0, none⟩ = some (.pointer o) ∧ Below w.heap.size w w' := by
  subst hm
  have HC : Hid ((w.alloc (.cells #[.pointer o] 28)).cell? ⟨w.heap.size, 0, none⟩ = some (.pointer o)) := Lib.hid (Kn.cell_new w _ _ 0 _ rfl)
  go_enter Tryd.func20, Tryd.ntmps20
  go_wp2
  go_ret
  exact ⟨rfl, HC.out, (Below.refl _ w).alloc (Nat.le_refl _) _⟩
set_option maxHeartbeats 4000000 in
set_option maxRecDepth 100000 in
theorem Sk.from1_seq {S : Nat → Prop} {w : World} {p n₀ bl bk : Nat} {N : List Sk.Nd} {k : Kn.V} (h : Sk.PL S w p N) (hS : ∀ b, S b → b < n₀) (hn : n₀ ≤ w.heap.size)
    (c1 : w.cell? ⟨bl, 0, none⟩ = some (.pointer (some ⟨p, 0, none⟩))) (ck : Kn.At w bk 0 k) :
    Sk.Seq Tryd.prog 37 #[.pointer (some ⟨bl, 0, none⟩), .pointer (some ⟨bk, 0, none⟩)] (Sk.EnD n₀) n₀ ((N.drop (Sk.at_ Sk.kn N k)).map Sk.Nd.d) w := by
  intro l J Jx W hW hJ hJx hY h0
  have d1 := (hW.cell (p := ⟨bl, 0, none⟩) (World.block_lt_of_cell? w _ c1)).trans c1
  have hP := h.kept hW
  have hk2 := ck.later hW
  have hPd := hP.kept (Below.refl _ W).drew
  have d2 : W.drew.cell? ⟨bl, 0, none⟩ = some (.pointer (some ⟨p, 0, none⟩)) := d1
  obtain ⟨k0, k1, k2⟩ : Kn.At W.drew bk 0 k := hk2.later (Below.refl _ W).drew
  have CS := Lib.hid (Sk.seek_c hPd k)
  have hfst : Sk.pt (Sk.fst N k) = Sk.hd (N.drop (Sk.at_ Sk.kn N k)) := by
    unfold Sk.fst
    rw [Sk.lnk_zero fun x hx => hP.hgt x (List.mem_of_mem_drop hx)]
    rfl
  rw [hfst] at CS
  have CV : Hid (∀ w2, Below W.heap.size W w2 → _) := Lib.hid fun w2 g2 => Sk.visit_c (A := N.take (Sk.at_ Sk.kn N k)) (B := N.drop (Sk.at_ Sk.kn N k)) (w := w2) (hP.kept g2) (List.take_append_drop _ _).symm hS (Nat.le_trans hn hW.size) g2 hJ hJx hY (Sk.own_below hJ h0 g2)
  have HL : Hid (∀ w2, Below W.heap.size W w2 → w2.cell? ⟨bl, 0, none⟩ = some (.pointer (some ⟨p, 0, none⟩))) := Lib.hid fun w2 g => (g.cell (p := ⟨bl, 0, none⟩) (World.block_lt_of_cell? _ _ d1)).trans d1
  clear hJ hJx hY h0 hP hPd h hW hk2 hfst
  unfold Sk.hd at CV CS
  generalize Sk.ha (N.drop (Sk.at_ Sk.kn N k)) = o0 at CV CS
  obtain ⟨kn, ki, ks⟩ := k
  unfold Kn.V.val at CS
  have hmx : Tryd.prog.follows .mixedOrders = true := by kernel_rfl
  refine callsIn_of_wp Tryd.func37 rfl trivial ?_ rfl
  simp only [Tryd.ntmps37, List.size_toArray, List.length_cons, List.length_nil, Nat.reduceAdd, Nat.reduceSub, Array.replicate_succ, Array.replicate_zero, List.push_toArray, List.append_toArray, List.nil_append, List.cons_append]
  gi_wp2
  gi_region_with_o (first
    | (refine ⟨trivial, ?_⟩; gi_at_call 31; refine (callsIn_wide.2 CS.out).mono ?_; rintro e w2 ⟨rfl, g2⟩
       have G2 : Hid (Below W.heap.size W w2) := Lib.hid ((Below.refl _ W).drew.trans g2)
       have d2 := HL.out w2 G2.out)
    | (refine ⟨trivial, ?_⟩; gi_at_call 35; refine (callsIn_wide.2 (callsIn_wide.1 (CV.out _ G2.out))).mono ?_; rintro e w3 ⟨rfl, hp3⟩))
  all_goals
    have HP3 := Lib.hid hp3
    clear hp3 CV CS d1 d2 k0 k1 k2 HL G2
    gi_wp2
    go_end0
    exact ⟨⟨_, rfl⟩, HP3.out⟩
set_option maxHeartbeats 1000000 in
set_option maxRecDepth 100000 in
theorem Sk.from_c {w : World} (o : Option Addr) (k : Kn.V) (hk : Kn.Z k) (m : Nat) (hm : m = w.heap.size) :
    Calls Tryd.prog 22 #[.pointer o, k.val] w fun e w' => e = .returned (.func (.func 37) #[] #[.pointer (some ⟨m, 0, none⟩), .pointer (some ⟨m + 1, 0, none⟩)]) ∧ w'.cell? ⟨m, 0, none⟩ = some (.pointer o) ∧ Kn.At w' (m + 1) 0 k ∧ Below w.heap.size w w' := by
  subst hm
  obtain ⟨wb, hwb⟩ : ∃ wb, wb = (w.alloc (.cells #[.pointer o] 28)).alloc (.cells #[.bool k.null, .int .i64 k.n, .string k.s] 25) := ⟨_, rfl⟩
  have hb : Below w.heap.size w wb := by rw [hwb]; exact ((Below.refl _ w).alloc (Nat.le_refl _) _).alloc (by simp) _
  have hs : wb.heap.size = w.heap.size + 2 := by rw [hwb]; simp
  have hbk : wb.heap[w.heap.size + 1]? = some (.cells #[.bool k.null, .int .i64 k.n, .string k.s] 25 (0, 0)) := by
    rw [hwb]
    have := heap_alloc_new (w.alloc (.cells #[.pointer o] 28)) (.cells #[.bool k.null, .int .i64 k.n, .string k.s] 25)
    rwa [World.size_alloc] at this
  have hbl : wb.cell? ⟨w.heap.size, 0, none⟩ = some (.pointer o) := by
    rw [hwb]
    exact (((Below.refl _ (w.alloc (.cells #[.pointer o] 28))).alloc (Nat.le_refl _) _).cell (p := ⟨w.heap.size, 0, none⟩) (by simp)).trans (Kn.cell_new w _ _ 0 _ rfl)
  have x2 : wb.cell? ⟨w.heap.size + 1, 2, none⟩ = some (.string k.s) := by rw [cell_of_row _ _ _ _ _ _ hbk]; rfl
  have CC := Lib.hid (Tx.clone_c k.s wb (by unfold Kn.Z at hk; omega))
  have HB : Hid (∀ w1, Below wb.heap.size wb w1 → (w1.cell? ⟨w.heap.size + 1, 2, none⟩ = some (.string k.s) ∧ w1.frozen? ⟨w.heap.size + 1, 2, none⟩ = false) ∧
      (w1.setCell ⟨w.heap.size + 1, 2, none⟩ (.string k.s)).cell? ⟨w.heap.size, 0, none⟩ = some (.pointer o) ∧ Kn.At (w1.setCell ⟨w.heap.size + 1, 2, none⟩ (.string k.s)) (w.heap.size + 1) 0 k ∧ Below w.heap.size w (w1.setCell ⟨w.heap.size + 1, 2, none⟩ (.string k.s))) := Lib.hid fun w1 g1 => by
    have h1 := (g1.block (w.heap.size + 1) (by omega)).trans hbk
    have h2 : (w1.setCell ⟨w.heap.size + 1, 2, none⟩ (.string k.s)).heap[w.heap.size + 1]? = some (.cells #[.bool k.null, .int .i64 k.n, .string k.s] 25 (0, 0)) := by
      simp [World.setCell, Array.getElem?_modify, h1]
    refine ⟨⟨by rw [cell_of_row _ _ _ _ _ _ h1]; rfl, frozen_of_row _ _ _ _ _ h1⟩, ?_, ⟨?_, ?_, ?_⟩, (hb.trans (g1.mono hb.size)).setCell (p := ⟨w.heap.size + 1, 2, none⟩) (by show w.heap.size ≤ w.heap.size + 1; omega) _⟩
    · exact (World.cell?_of_block (Below.heap_setCell _ _ _ _ (by show w.heap.size ≠ w.heap.size + 1; omega))).trans ((g1.cell (p := ⟨w.heap.size, 0, none⟩) (by show w.heap.size < _; omega)).trans hbl)
    · rw [cell_of_row _ _ _ _ _ _ h2]; rfl
    · rw [cell_of_row _ _ _ _ _ _ h2]; rfl
    · rw [cell_of_row _ _ _ _ _ _ h2]; rfl
  obtain ⟨kn, ki, ks⟩ := k
  unfold Kn.V.val
  clear hb hs hbk hbl hk
  subst hwb
  go_enter Tryd.func22, Tryd.ntmps22
  go_wp2_with fail
  with_reducible refine CC.out.mono ?_
  rintro e w1 ⟨rfl, g1⟩
  obtain ⟨⟨x3, f3⟩, h2⟩ := HB.out w1 g1
  have H2 := Lib.hid h2
  clear h2 g1 CC HB x2
  go_wp2
  go_ret
  exact ⟨rfl, H2.out⟩
end Go.Proofs.YtfjhffldhpcdmaaDoor

namespace Go.Proofs.YtfjhffldhpcdmaaDoor
open Go Go.RowKit
def Sk.v (n : Int) : Kn.V := ⟨false, n, ⟨#[]⟩⟩
def Sk.dv (g : Bool) (n : Int) : Dd.D := ⟨g, [Sk.v n]⟩
theorem Sk.cmp_v (a b : Int) : Kn.cmp (Sk.v a) (Sk.v b) = Kn.ncmp a b := by
  by_cases h : a = b
  · subst h
    rw [Sk.cmp_self]
    unfold Kn.ncmp
    simp
  · have h0 : Kn.ncmp a b ≠ 0 := fun e => h ((Kn.ncmp_zero a b).1 e)
    unfold Kn.cmp Sk.v
    simp only [Bool.false_eq_true, if_false]
    unfold Kn.or2
    rw [if_neg h0]
theorem Sk.kd_dv (g : Bool) (n : Int) : Sk.kd (Sk.dv g n) = Sk.v n := rfl
theorem Sk.live1 : Sk.put Sk.kd [] (Sk.dv false 3) = [Sk.dv false 3] := rfl
theorem Sk.live2 : Sk.put Sk.kd [Sk.dv false 3] (Sk.dv false 1) = [Sk.dv false 1, Sk.dv false 3] := by
  have h1 : Kn.cmp (Sk.v 3) (Sk.v 1) = 1 := by rw [Sk.cmp_v]; rfl
  have h2 : Kn.cmp (Sk.v 1) (Sk.v 3) = -1 := by rw [Sk.cmp_v]; rfl
  simp [Sk.put, Sk.at_, Sk.there, Sk.kd_dv, h1, h2, List.takeWhile]
theorem Sk.live3 : Sk.put Sk.kd [Sk.dv false 1, Sk.dv false 3] (Sk.dv false 2) = [Sk.dv false 1, Sk.dv false 2, Sk.dv false 3] := by
  have h1 : Kn.cmp (Sk.v 1) (Sk.v 2) = -1 := by rw [Sk.cmp_v]; rfl
  have h2 : Kn.cmp (Sk.v 3) (Sk.v 2) = 1 := by rw [Sk.cmp_v]; rfl
  have h3 : Kn.cmp (Sk.v 2) (Sk.v 3) = -1 := by rw [Sk.cmp_v]; rfl
  simp [Sk.put, Sk.at_, Sk.there, Sk.kd_dv, h1, h2, h3, List.takeWhile]
theorem Sk.live4 : Sk.put Sk.kd [Sk.dv false 1, Sk.dv false 2, Sk.dv false 3] (Sk.dv true 1) = [Sk.dv true 1, Sk.dv false 2, Sk.dv false 3] := by
  have h1 : Kn.cmp (Sk.v 1) (Sk.v 1) = 0 := Sk.cmp_self _
  simp [Sk.put, Sk.at_, Sk.there, Sk.kd_dv, h1, List.takeWhile]
theorem Sk.live_get : Sk.get Sk.kd [Sk.dv true 1, Sk.dv false 2, Sk.dv false 3] (Sk.v 1) = some (Sk.dv true 1) := by
  have h1 : Kn.cmp (Sk.v 1) (Sk.v 1) = 0 := Sk.cmp_self _
  simp [Sk.get, Sk.at_, Sk.there, Sk.kd_dv, h1, List.takeWhile]
theorem Sk.live_bytes : wrap64 ((Sk.bytes [Sk.dv true 1, Sk.dv false 2, Sk.dv false 3] : Nat) : Int) = 48 := by
  have : Sk.bytes [Sk.dv true 1, Sk.dv false 2, Sk.dv false 3] = 48 := rfl
  rw [this]
  unfold wrap64
  omega
/-- The program's list, by its deeds; S: its own blocks, all from B on. -/
def Sk.PD (B : Nat) (S : Nat → Prop) (w : World) (p : Nat) (L : List Dd.D) : Prop := (∃ N, Sk.PL S w p N ∧ N.map Sk.Nd.d = L) ∧ ∀ b, S b → B ≤ b
theorem Sk.PD.later {B : Nat} {S : Nat → Prop} {w w' : World} {p : Nat} {L : List Dd.D} (h : Sk.PD B S w p L) (g : Below w.heap.size w w') : Sk.PD B S w' p L := by
  obtain ⟨⟨N, h1, h2⟩, h3⟩ := h
  exact ⟨⟨N, h1.kept g, h2⟩, h3⟩
theorem Sk.PD.same {B : Nat} {S : Nat → Prop} {w w' : World} {p : Nat} {L : List Dd.D} (h : Sk.PD B S w p L) (hs : w.heap.size ≤ w'.heap.size) (g : ∀ b, S b → w'.heap[b]? = w.heap[b]?) : Sk.PD B S w' p L := by
  obtain ⟨⟨N, h1, h2⟩, h3⟩ := h
  exact ⟨⟨N, h1.same hs g, h2⟩, h3⟩
theorem Sk.PD.lt {B : Nat} {S : Nat → Prop} {w : World} {p : Nat} {L : List Dd.D} (h : Sk.PD B S w p L) : ∀ b, S b → b < w.heap.size := by
  obtain ⟨⟨N, h1, _⟩, _⟩ := h
  exact h1.alive
theorem Sk.PD.at_p {B : Nat} {S : Nat → Prop} {w : World} {p : Nat} {L : List Dd.D} (h : Sk.PD B S w p L) : B ≤ p ∧ p < w.heap.size := by
  obtain ⟨⟨N, h1, _⟩, h3⟩ := h
  exact ⟨h3 _ h1.mine, h1.alive _ h1.mine⟩
theorem Sk.PD.put {B : Nat} {S : Nat → Prop} {w : World} {p : Nat} {L : List Dd.D} (h : Sk.PD B S w p L) (hB : B ≤ w.heap.size) (hT : Sk.Tab w) (hg : 0 < B) (gn : Bool) {v : Value} {l : List Kn.V} (hin : Sk.In w v l) (hne : l ≠ []) (hl : L.length ≤ 100000) :
    Calls Tryd.prog 12 #[.pointer (some ⟨p, 0, none⟩), .agg #[.bool gn, v]] w fun e w' => e = .returned (.bool true) ∧ Sk.PD B (Sk.More S w w') w' p (Sk.put Sk.kd L ⟨gn, l⟩) ∧ Sk.Off S w w' ∧ Below B w w' := by
  obtain ⟨⟨N, h1, rfl⟩, h3⟩ := h
  rw [List.length_map] at hl
  refine (Sk.put_c h1 hT (Nat.lt_of_lt_of_le hg (h3 _ h1.mine)) gn hin hne hl).mono ?_
  rintro e w' ⟨he, ⟨N', h4, h5⟩, h6⟩
  exact ⟨he, ⟨⟨N', h4, h5⟩, fun b hb => by rcases hb with hb | hb; exact h3 b hb; omega⟩, h6, h6.below hB h3⟩
theorem Sk.PD.get {B : Nat} {S : Nat → Prop} {w : World} {p : Nat} {L : List Dd.D} (h : Sk.PD B S w p L) (k : Kn.V) :
    Calls Tryd.prog 17 #[.pointer (some ⟨p, 0, none⟩), k.val] w (Sk.GetP (Sk.get Sk.kd L k) w) := by
  obtain ⟨⟨N, h1, rfl⟩, _⟩ := h
  rw [Sk.map_get (key := Sk.kn) Sk.Nd.d Sk.kd (fun _ => rfl)]
  exact Sk.get_c h1 k
theorem Sk.PD.len {B : Nat} {S : Nat → Prop} {w : World} {p : Nat} {L : List Dd.D} (h : Sk.PD B S w p L) :
    Calls Tryd.prog 14 #[.pointer (some ⟨p, 0, none⟩)] w fun e w' => e = .returned (.int .i64 (L.length : Int)) ∧ w' = w := by
  obtain ⟨⟨N, h1, rfl⟩, _⟩ := h
  rw [List.length_map]
  exact Sk.len_c h1
theorem Sk.PD.bytes {B : Nat} {S : Nat → Prop} {w : World} {p : Nat} {L : List Dd.D} (h : Sk.PD B S w p L) :
    Calls Tryd.prog 15 #[.pointer (some ⟨p, 0, none⟩)] w fun e w' => e = .returned (.int .i64 (wrap64 (Sk.bytes L : Int))) ∧ w' = w := by
  obtain ⟨⟨N, h1, rfl⟩, _⟩ := h
  exact Sk.bytes_c h1
theorem Sk.PD.new {B : Nat} {w : World} (hB : B ≤ w.heap.size) (seed : Int) :
    Calls Tryd.prog 11 #[.int .u64 seed] w fun e w' => e = .returned (.pointer (some ⟨w.heap.size, 0, none⟩)) ∧ Sk.PD B (fun b => b = w.heap.size) w' w.heap.size [] ∧ Below w.heap.size w w' := by
  refine (Sk.new_c seed).mono ?_
  rintro e w' ⟨he, h1, h2⟩
  exact ⟨he, ⟨⟨[], h1, rfl⟩, fun b hb => by omega⟩, h2⟩
theorem Sk.PD.all {B : Nat} {S : Nat → Prop} {w : World} {p n₀ bl : Nat} {L : List Dd.D} (h : Sk.PD B S w p L) (hS : ∀ b, S b → b < n₀) (hn : n₀ ≤ w.heap.size) (c1 : w.cell? ⟨bl, 0, none⟩ = some (.pointer (some ⟨p, 0, none⟩))) :
    Sk.Seq Tryd.prog 34 #[.pointer (some ⟨bl, 0, none⟩)] (Sk.EnD n₀) n₀ L w := by
  obtain ⟨⟨N, h1, rfl⟩, _⟩ := h
  exact Sk.all1_seq h1 hS hn c1
theorem Sk.PD.from_ {B : Nat} {S : Nat → Prop} {w : World} {p n₀ bl bk : Nat} {L : List Dd.D} {k : Kn.V} (h : Sk.PD B S w p L) (hS : ∀ b, S b → b < n₀) (hn : n₀ ≤ w.heap.size) (c1 : w.cell? ⟨bl, 0, none⟩ = some (.pointer (some ⟨p, 0, none⟩))) (ck : Kn.At w bk 0 k) :
    Sk.Seq Tryd.prog 37 #[.pointer (some ⟨bl, 0, none⟩), .pointer (some ⟨bk, 0, none⟩)] (Sk.EnD n₀) n₀ (Sk.from_ Sk.kd L k) w := by
  obtain ⟨⟨N, h1, rfl⟩, _⟩ := h
  rw [Sk.map_from (key := Sk.kn) Sk.Nd.d Sk.kd (fun _ => rfl)]
  exact Sk.from1_seq h1 hS hn c1 ck
theorem Sk.PD.asc {B : Nat} {S : Nat → Prop} {w : World} {p : Nat} {L : List Dd.D} (h : Sk.PD B S w p L) : Sk.Asc Sk.kd L ∧ ∀ d ∈ L, d.row ≠ [] := by
  obtain ⟨⟨N, h1, rfl⟩, _⟩ := h
  refine ⟨List.pairwise_map.2 h1.asc, fun d hd => ?_⟩
  obtain ⟨x, hx, rfl⟩ := List.mem_map.1 hd
  exact (h1.rows x hx).2.1
/-- A row that has just been made. -/
theorem Sk.In.one {w wb : World} (n : Int) (hw : wb = w.alloc (.cells #[.bool false, .int .i64 n, .string ⟨#[]⟩] 25)) : Sk.In wb (.slice (some ⟨w.heap.size, 0, none⟩) 1 1) [Sk.v n] := by
  subst hw
  refine ⟨_, 1, rfl, fun x hx => by obtain rfl := List.mem_singleton.1 hx; exact (show (0 : Nat) ≤ 140737488351232 by decide), (show 1 ≤ 4398046511104 by decide), .inr ⟨w.heap.size, 0, rfl, by simp, fun i x hx => ?_⟩⟩
  rcases i with _ | i
  · obtain rfl : Sk.v n = x := by simpa using hx
    exact Kn.At.new w (Sk.v n) _
  · simp at hx
theorem Sk.live_put {B : Nat} {S : Nat → Prop} {w : World} {p : Nat} {L : List Dd.D} (h : Sk.PD B S w p L) (hT : ∀ W, Below B w W → Sk.Tab W) (hg : 0 < B) (gn : Bool) (n : Int) (hl : L.length ≤ 100000) :
    Calls Tryd.prog 12 #[.pointer (some ⟨p, 0, none⟩), .agg #[.bool gn, .slice (some ⟨w.heap.size, 0, none⟩) 1 1]] (w.alloc (.cells #[.bool false, .int .i64 n, .string ⟨#[]⟩] 25)) fun e w' => e = .returned (.bool true) ∧ (∃ S', Sk.PD B S' w' p (Sk.put Sk.kd L (Sk.dv gn n))) ∧ Below B w w' := by
  have hB : B ≤ w.heap.size := by have := h.at_p; omega
  have g1 : Below w.heap.size w (w.alloc (.cells #[.bool false, .int .i64 n, .string ⟨#[]⟩] 25)) := (Below.refl _ w).alloc (Nat.le_refl _) _
  refine ((h.later g1).put (Nat.le_trans hB g1.size) (hT _ (g1.mono hB)) hg gn (Sk.In.one n rfl) (by simp) hl).mono ?_
  rintro e w' ⟨he, h1, _, h2⟩
  exact ⟨he, ⟨_, h1⟩, (g1.mono hB).trans h2⟩
set_option maxHeartbeats 4000000 in
set_option maxRecDepth 100000 in
theorem Sk.lives_c {w : World} (hT : Sk.Tab w) : Calls Tryd.prog 9 #[] w fun e w' => e = .returned (.bool true) ∧ Below w.heap.size w w' := by
  have HT : Hid (∀ W, Below w.heap.size w W → Sk.Tab W) := Lib.hid fun W g => hT.later g hT.lt
  have HG := Lib.hid hT.lt
  have CN := Lib.hid (Sk.PD.new (B := w.heap.size) (w := w) (Nat.le_refl _) 1)
  clear hT
  go_enter Tryd.func9, Tryd.ntmps9
  go_wp2_with fail
  with_reducible refine CN.out.mono ?_
  rintro e w1 ⟨rfl, h1, g1⟩
  have C1 := Lib.hid (Sk.live_put h1 (fun W g => HT.out W (g1.trans g)) HG.out false 3 (by simp))
  have G1 := Lib.hid g1
  clear h1 g1 CN
  go_wp2_with fail
  with_reducible refine C1.out.mono ?_
  rintro e w2 ⟨rfl, ⟨S2, h2⟩, g2⟩
  rw [Sk.live1] at h2
  have G2 := Lib.hid (G1.out.trans g2)
  have C2 := Lib.hid (Sk.live_put h2 (fun W g => HT.out W (G2.out.trans g)) HG.out false 1 (by simp))
  clear h2 g2 C1 G1
  go_wp2_with fail
  with_reducible refine C2.out.mono ?_
  rintro e w3 ⟨rfl, ⟨S3, h3⟩, g3⟩
  rw [Sk.live2] at h3
  have G3 := Lib.hid (G2.out.trans g3)
  have C3 := Lib.hid (Sk.live_put h3 (fun W g => HT.out W (G3.out.trans g)) HG.out false 2 (by simp))
  clear h3 g3 C2 G2
  go_wp2_with fail
  with_reducible refine C3.out.mono ?_
  rintro e w4 ⟨rfl, ⟨S4, h4⟩, g4⟩
  rw [Sk.live3] at h4
  have G4 := Lib.hid (G3.out.trans g4)
  have C4 := Lib.hid (Sk.live_put h4 (fun W g => HT.out W (G4.out.trans g)) HG.out true 1 (by simp))
  clear h4 g4 C3 G3
  go_wp2_with fail
  with_reducible refine C4.out.mono ?_
  rintro e w5 ⟨rfl, ⟨S5, h5⟩, g5⟩
  rw [Sk.live4] at h5
  have G5 := Lib.hid (G4.out.trans g5)
  have H5 := Lib.hid h5
  have C5 := Lib.hid (h5.get (Sk.v 1))
  rw [Sk.live_get] at C5
  unfold Kn.V.val Sk.v Sk.GetP at C5
  dsimp only at C5
  rw [show (Sk.dv true 1).gone = true from rfl] at C5
  clear h5 g5 C4 G4
  go_wp2_with fail
  with_reducible refine C5.out.mono ?_
  rintro e w6 ⟨u, rfl, hu, g6⟩
  obtain ⟨av, nv, cv, rfl⟩ : ∃ a n c, u = .slice a n c := by
    rcases hu.form with ⟨e, _⟩ | ⟨g, c, e, _⟩
    · exact ⟨none, 0, 0, e⟩
    · exact ⟨_, _, c, e⟩
  have C6 := Lib.hid (H5.out.later (g6.alloc g6.size (.cells #[.bool true, .slice av nv cv] 37))).len
  have C7 := Lib.hid (H5.out.later (g6.alloc g6.size (.cells #[.bool true, .slice av nv cv] 37))).bytes
  rw [Sk.live_bytes] at C7
  have HE : Hid (Below w.heap.size w (w6.alloc (.cells #[.bool true, .slice av nv cv] 37))) := Lib.hid (by
    have h1 := H5.out.at_p
    have h2 := g6.size
    exact (G5.out.trans (g6.mono (by omega))).alloc (by omega) _)
  clear hu g6 C5 H5 G5
  rw [show (([Sk.dv true 1, Sk.dv false 2, Sk.dv false 3].length : Nat) : Int) = 3 from rfl] at C6
  go_wp2_with fail
  with_reducible refine C6.out.mono ?_
  rintro e w7 ⟨rfl, rfl⟩
  go_wp2_with fail
  with_reducible refine C7.out.mono ?_
  rintro e w8 ⟨rfl, rfl⟩
  clear C6 C7
  go_wp2
  go_ret
  exact ⟨rfl, HE.out⟩
set_option maxHeartbeats 1000000 in
set_option maxRecDepth 100000 in
/-- The first 400. -/
theorem Sk.early_c {w : World} (a : Option Addr) (n c : Nat) (hn : n ≤ c) (hc : c ≤ 9223372036854775807) :
    Calls Tryd.prog 10 #[.slice a n c] w fun e w' => e = .returned (.slice a (min n 400) c) ∧ w' = w := by
  have hnc : (n : Int) ≤ (c : Int) := by omega
  have hci : (c : Int) ≤ 9223372036854775807 := by omega
  go_enter Tryd.func10, Tryd.ntmps10
  go_wp2
  go_ret
  exact ⟨(show Ending.returned (.slice a (min (n : Int) 400).toNat c) = _ from by rw [show (min (n : Int) 400).toNat = min n 400 by omega]), rfl⟩
end Go.Proofs.YtfjhffldhpcdmaaDoor

namespace Go.Proofs.YtfjhffldhpcdmaaDoor
open Go.RowKit Go.ChangeShapes Go.WideShapes Go.ChangeAt Go.Deep
section
variable {H : Type} {enc : TypeId × Value → H} {W : World}
set_option maxRecDepth 100000 in
theorem Cl.open_cells {fuel : Nat} {cs : List Value} {z : DataW H × List MemPlace} (h : DataW.trod enc Tryd.prog W 0 (fun _ => true) true fuel 25 cs = some z) :
    ∃ x : Kn.V, cs = [.bool x.null, .int .i64 x.n, .string x.s] ∧ Ty.I64 x.n := by
  obtain ⟨xs, f', _, hx, hcl, hxl, hg⟩ := DataW.trod_struct Tryd.underlying25 h
  have hC : Tryd.prog.cellsOf 25 = 3 := by kernel_rfl
  have i3 : Tryd.prog.cellsOf 4 = 1 := by kernel_rfl
  have i2 : Tryd.prog.cellsOf 2 = 1 := by kernel_rfl
  have i9 : Tryd.prog.cellsOf 9 = 1 := by kernel_rfl
  rw [hC] at hcl
  match cs, hcl, xs, hxl with
  | [c0, c1, c2], _, [y0, y1, y2], _ =>
    have g0 : DataW.trod enc Tryd.prog W 0 (fun _ => true) true f' 4 ((List.drop 0 [c0, c1, c2]).take (Tryd.prog.cellsOf 4)) = some y0 := hg 0 _ rfl
    have g1 : DataW.trod enc Tryd.prog W 0 (fun _ => true) true f' 2 ((List.drop 1 [c0, c1, c2]).take (Tryd.prog.cellsOf 2)) = some y1 := hg 1 _ rfl
    have g2 : DataW.trod enc Tryd.prog W 0 (fun _ => true) true f' 9 ((List.drop 2 [c0, c1, c2]).take (Tryd.prog.cellsOf 9)) = some y2 := hg 2 _ rfl
    rw [i3] at g0
    rw [i2] at g1
    rw [i9] at g2
    obtain ⟨k, e0, r0⟩ := DataW.trod_bool Tryd.underlying4 (show DataW.trod enc Tryd.prog W 0 (fun _ => true) true f' 4 [c0] = some y0 from g0)
    obtain ⟨n, e1, r1, w1⟩ := DataW.trod_int Tryd.underlying2 (show DataW.trod enc Tryd.prog W 0 (fun _ => true) true f' 2 [c1] = some y1 from g1)
    obtain ⟨s, e2, r2, _⟩ := DataW.trod_string Tryd.underlying9 (show DataW.trod enc Tryd.prog W 0 (fun _ => true) true f' 9 [c2] = some y2 from g2)
    simp only [List.cons.injEq, and_true] at e0 e1 e2
    subst e0 e1 e2 r0 r1 r2
    exact ⟨⟨k, n, s⟩, rfl, bounds_i64 w1⟩
set_option maxRecDepth 100000 in
/-- A slice of values. -/
theorem Cl.open_vals {a0 : Option Addr} {len cap : Nat} {d : DataW H} {ps : List MemPlace} {t : TypeId} (ht : Tryd.prog.underlying t = some (.slice 25)) (h : DataW.Trod enc Tryd.prog W 0 (fun _ => true) true t (.slice a0 len cap) d ps) :
    ∃ l : List Kn.V, Kn.Vals W (.slice a0 len cap) l ∧ ∀ v ∈ l, Ty.I64 v.n := by
  obtain ⟨fuel, hf⟩ := h
  have hC : Tryd.prog.cellsOf 25 = 3 := by kernel_rfl
  rcases open_slice ht hf with ⟨hcs, hx⟩ | ⟨a, len', cap', m, n, D, Pl, hcs, _, hl, hm, hmm, hx, hi⟩
  · have hv : Value.slice a0 len cap = .slice none 0 0 := by simpa [Value.cells] using hcs
    exact ⟨[], ⟨none, 0, hv, .inl rfl⟩, fun v hv => by cases hv⟩
  · have hv : Value.slice a0 len cap = .slice (some a) len' cap' := by simpa [Value.cells] using hcs
    simp only [Value.slice.injEq] at hv
    obtain ⟨rfl, rfl, rfl⟩ := hv
    simp only [if_true] at hmm
    by_cases hz : len = 0
    · subst hz
      exact ⟨[], ⟨some a, cap, rfl, .inl rfl⟩, fun v hv => by cases hv⟩
    · rw [hC] at hi
      have hone : ∀ i, i < len → ∃ x : Kn.V, W.cell? (a.add (i * 3)) = some (.bool x.null) ∧ W.cell? (a.add (i * 3 + 1)) = some (.int .i64 x.n) ∧ W.cell? (a.add (i * 3 + 2)) = some (.string x.s) ∧ Ty.I64 x.n := fun i hil => by
        obtain ⟨cs', hc, ht⟩ := hi i (by omega)
        obtain ⟨x, rfl, hw⟩ := Cl.open_cells ht
        obtain ⟨_, _, hat⟩ := World.cells?_some hc
        have a0 := hat 0 (by omega)
        have a1 := hat 1 (by omega)
        have a2 := hat 2 (by omega)
        rw [add_add] at a0 a1 a2
        exact ⟨x, a0, a1, a2, hw⟩
      obtain ⟨b, off, spot⟩ := a
      have hspot : spot = none := by
        obtain ⟨x, h0, _⟩ := hone 0 (by omega)
        simpa [Addr.add] using World.cell?_spot h0
      subst hspot
      have hlt : b < W.heap.size := by
        obtain ⟨x, h0, _⟩ := hone 0 (by omega)
        have := World.block_lt_of_cell? W _ h0
        simpa [Addr.add] using this
      have hch : ∃ f : Nat → Kn.V, ∀ i, i < len → Kn.At W b (off + i * 3) (f i) ∧ Ty.I64 (f i).n := by
        have hone' : ∀ i, i < len → ∃ x : Kn.V, Kn.At W b (off + i * 3) x ∧ Ty.I64 x.n := fun i hil => by
          obtain ⟨x, h0, h1, h2, h3⟩ := hone i hil
          rw [add_plain] at h0 h1 h2
          rw [← Nat.add_assoc] at h1 h2
          exact ⟨x, ⟨h0, h1, h2⟩, h3⟩
        refine ⟨fun i => if hil : i < len then (hone' i hil).choose else ⟨false, 0, ⟨#[]⟩⟩, fun i hil => ?_⟩
        have hs := (hone' i hil).choose_spec
        simp only [dif_pos hil]
        exact hs
      obtain ⟨f, hf'⟩ := hch
      refine ⟨(List.range len).map f, ⟨some ⟨b, off, none⟩, cap, by simp, .inr ⟨b, off, rfl, hlt, by unfold maxLen at hm; simp; omega, fun i x hix => ?_⟩⟩, fun v hv => by
        obtain ⟨i, hi, rfl⟩ := List.mem_map.1 hv
        exact (hf' i (List.mem_range.1 hi)).2⟩
      rw [List.getElem?_map, Option.map_eq_some_iff] at hix
      obtain ⟨i', hi', rfl⟩ := hix
      obtain ⟨hil, rfl⟩ := List.getElem?_eq_some_iff.1 hi'
      rw [List.getElem_range]
      rw [List.length_range] at hil
      exact (hf' i hil).1
end
end Go.Proofs.YtfjhffldhpcdmaaDoor

namespace Go.Proofs.YtfjhffldhpcdmaaDoor
open Go.RowKit
/-- A range of keys. -/
structure Kn.R where
  from_ : Bool
  til : Bool
  lo : Kn.V
  hi : Kn.V
abbrev Kn.R.val (r : Kn.R) : Value := .agg #[.bool r.from_, .bool r.til, .bool r.lo.null, .int .i64 r.lo.n, .string r.lo.s, .bool r.hi.null, .int .i64 r.hi.n, .string r.hi.s]
/-- The range lies in a block. -/
structure Kn.RAt (w : World) (b : Nat) (r : Kn.R) : Prop where
  c0 : w.cell? ⟨b, 0, none⟩ = some (.bool r.from_)
  c1 : w.cell? ⟨b, 1, none⟩ = some (.bool r.til)
  lo : Kn.At w b 2 r.lo
  hi : Kn.At w b 5 r.hi
theorem Kn.RAt.later {w w' : World} {b : Nat} {r : Kn.R} (h : Kn.RAt w b r) (g : Below w.heap.size w w') : Kn.RAt w' b r :=
  ⟨(g.cell (p := ⟨b, 0, none⟩) h.lo.lt).trans h.c0, (g.cell (p := ⟨b, 1, none⟩) h.lo.lt).trans h.c1, h.lo.later g, h.hi.later g⟩
theorem Kn.RAt.new (w : World) (r : Kn.R) (t : TypeId) : Kn.RAt (w.alloc (.cells #[.bool r.from_, .bool r.til, .bool r.lo.null, .int .i64 r.lo.n, .string r.lo.s, .bool r.hi.null, .int .i64 r.hi.n, .string r.hi.s] t)) w.heap.size r :=
  ⟨Kn.cell_new w _ t 0 _ rfl, Kn.cell_new w _ t 1 _ rfl, ⟨Kn.cell_new w _ t 2 _ rfl, Kn.cell_new w _ t 3 _ rfl, Kn.cell_new w _ t 4 _ rfl⟩, ⟨Kn.cell_new w _ t 5 _ rfl, Kn.cell_new w _ t 6 _ rfl, Kn.cell_new w _ t 7 _ rfl⟩⟩
theorem Kn.RAt.alloc {w : World} {b : Nat} {r : Kn.R} (h : Kn.RAt w b r) (x : Obj) : Kn.RAt (w.alloc x) b r := h.later ((Below.refl _ w).alloc (Nat.le_refl _) x)
/-- Is a key in a range? -/
def Kn.inR (r : Kn.R) (k : Kn.V) : Bool := (!r.from_ || !decide (Kn.cmp k r.lo < 0)) && (!r.til || decide (Kn.cmp k r.hi < 0))
/-- A range and a value boxed, one behind the other. -/
theorem Kn.boxedR (w : World) (r : Kn.R) (k : Kn.V) (t t' : TypeId) : Kn.RAt ((w.alloc (.cells #[.bool r.from_, .bool r.til, .bool r.lo.null, .int .i64 r.lo.n, .string r.lo.s, .bool r.hi.null, .int .i64 r.hi.n, .string r.hi.s] t)).alloc (.cells #[.bool k.null, .int .i64 k.n, .string k.s] t')) w.heap.size r ∧
    Kn.At ((w.alloc (.cells #[.bool r.from_, .bool r.til, .bool r.lo.null, .int .i64 r.lo.n, .string r.lo.s, .bool r.hi.null, .int .i64 r.hi.n, .string r.hi.s] t)).alloc (.cells #[.bool k.null, .int .i64 k.n, .string k.s] t')) (w.heap.size + 1) 0 k := by
  refine ⟨(Kn.RAt.new w r t).alloc _, ?_⟩
  have := Kn.At.new (w.alloc (.cells #[.bool r.from_, .bool r.til, .bool r.lo.null, .int .i64 r.lo.n, .string r.lo.s, .bool r.hi.null, .int .i64 r.hi.n, .string r.hi.s] t)) k t'
  rwa [World.size_alloc] at this
theorem Kn.box2 (w : World) (x y : Obj) : Below w.heap.size w ((w.alloc x).alloc y) := ((Below.refl _ w).alloc (Nat.le_refl _) _).alloc (by simp) _
/-- The ways of the test of a range. -/
theorem Kn.in_ways (r : Kn.R) (k : Kn.V) : (r.from_ = false ∧ r.til = false ∧ Kn.inR r k = true) ∨ (r.from_ = false ∧ r.til = true ∧ Kn.inR r k = decide (Kn.cmp k r.hi < 0)) ∨ (r.from_ = true ∧ Kn.cmp k r.lo < 0 ∧ Kn.inR r k = false) ∨ (r.from_ = true ∧ ¬ Kn.cmp k r.lo < 0 ∧ r.til = false ∧ Kn.inR r k = true) ∨ (r.from_ = true ∧ ¬ Kn.cmp k r.lo < 0 ∧ r.til = true ∧ Kn.inR r k = decide (Kn.cmp k r.hi < 0)) := by
  unfold Kn.inR
  by_cases h : Kn.cmp k r.lo < 0
  · cases r.from_ <;> cases r.til <;> simp [h]
  · cases r.from_ <;> cases r.til <;> simp [h] <;> omega
end Go.Proofs.YtfjhffldhpcdmaaDoor

namespace Go.Proofs.YtfjhffldhpcdmaaDoor
open Go.RowKit Go.ChangeShapes Go.WideShapes Go.ChangeAt Go.Deep
section
variable {H : Type} {enc : TypeId × Value → H} {W : World}
/-- The reading of a value. -/
def Kn.rd (x : Kn.V) : DataW H := .agg [.lit (.bool x.null), .lit (.int .i64 x.n), .lit (.string x.s.data.toList)]
theorem Kn.open_cells {fuel : Nat} {cs : List Value} {z : DataW H × List MemPlace} (h : DataW.trod enc Tryd.prog W 0 (fun _ => true) true fuel 25 cs = some z) :
    ∃ x : Kn.V, cs = [.bool x.null, .int .i64 x.n, .string x.s] ∧ z.1 = Kn.rd x := by
  obtain ⟨xs, f', _, hx, hcl, hxl, hg⟩ := DataW.trod_struct Tryd.underlying25 h
  have hC : Tryd.prog.cellsOf 25 = 3 := by kernel_rfl
  have i3 : Tryd.prog.cellsOf 4 = 1 := by kernel_rfl
  have i2 : Tryd.prog.cellsOf 2 = 1 := by kernel_rfl
  have i9 : Tryd.prog.cellsOf 9 = 1 := by kernel_rfl
  rw [hC] at hcl
  match cs, hcl, xs, hxl with
  | [c0, c1, c2], _, [y0, y1, y2], _ =>
    have g0 : DataW.trod enc Tryd.prog W 0 (fun _ => true) true f' 4 ((List.drop 0 [c0, c1, c2]).take (Tryd.prog.cellsOf 4)) = some y0 := hg 0 _ rfl
    have g1 : DataW.trod enc Tryd.prog W 0 (fun _ => true) true f' 2 ((List.drop 1 [c0, c1, c2]).take (Tryd.prog.cellsOf 2)) = some y1 := hg 1 _ rfl
    have g2 : DataW.trod enc Tryd.prog W 0 (fun _ => true) true f' 9 ((List.drop 2 [c0, c1, c2]).take (Tryd.prog.cellsOf 9)) = some y2 := hg 2 _ rfl
    rw [i3] at g0
    rw [i2] at g1
    rw [i9] at g2
    obtain ⟨k, e0, r0⟩ := DataW.trod_bool Tryd.underlying4 (show DataW.trod enc Tryd.prog W 0 (fun _ => true) true f' 4 [c0] = some y0 from g0)
    obtain ⟨n, e1, r1, w1⟩ := DataW.trod_int Tryd.underlying2 (show DataW.trod enc Tryd.prog W 0 (fun _ => true) true f' 2 [c1] = some y1 from g1)
    obtain ⟨s, e2, r2, _⟩ := DataW.trod_string Tryd.underlying9 (show DataW.trod enc Tryd.prog W 0 (fun _ => true) true f' 9 [c2] = some y2 from g2)
    simp only [List.cons.injEq, and_true] at e0 e1 e2
    subst e0 e1 e2 r0 r1 r2
    exact ⟨⟨k, n, s⟩, rfl, by rw [hx]; rfl⟩
/-- A value, handed over. -/
theorem Kn.open_val {v : Value} {d : DataW H} {ps : List MemPlace} {r : Reach} {b0 : Nat} (hv : Value.okWide Tryd.prog W r b0 25 v) (h : DataW.Trod enc Tryd.prog W 0 (fun _ => true) true 25 v d ps) :
    ∃ x : Kn.V, v = x.val ∧ d = Kn.rd x := by
  obtain ⟨cs, rfl, _⟩ := okWide_struct Tryd.underlying25 hv
  obtain ⟨fuel, hf⟩ := h
  obtain ⟨x, hx, hd⟩ := Kn.open_cells hf
  have e : cs.toList = [.bool x.null, .int .i64 x.n, .string x.s] := hx
  refine ⟨x, ?_, hd⟩
  unfold Kn.V.val
  rw [← Array.toArray_toList (xs := cs), e]
theorem Kn.z_of {ts : List TypeId} {ds : List (DataW H)} (h : (DataW.weightsEach Tryd.prog ts ds).all (· ≤ reachBytes) = true) {j : Nat} {x : Kn.V} (ht : ts[j]? = some 25) (hd : ds[j]? = some (Kn.rd x)) : Kn.Z x := by
  have := List.all_eq_true.1 h x.s.size (DataW.weights_mem_each ht hd _ (by
    unfold Kn.rd
    simp only [DataW.weights, Tryd.underlying25]
    show x.s.size ∈ DataW.weightsEach Tryd.prog [4, 2, 9] [.lit (.bool x.null), .lit (.int .i64 x.n), .lit (.string x.s.data.toList)]
    simp [DataW.weightsEach, DataW.weights]))
  have h2 : x.s.size ≤ reachBytes := of_decide_eq_true this
  unfold reachBytes at h2
  unfold Kn.Z
  omega
/-- A slice of values. -/
theorem Kn.open_vals {a0 : Option Addr} {len cap : Nat} {d : DataW H} {ps : List MemPlace} {t : TypeId} (ht : Tryd.prog.underlying t = some (.slice 25)) (h : DataW.Trod enc Tryd.prog W 0 (fun _ => true) true t (.slice a0 len cap) d ps) :
    ∃ l : List Kn.V, Kn.Vals W (.slice a0 len cap) l := by
  obtain ⟨fuel, hf⟩ := h
  have hC : Tryd.prog.cellsOf 25 = 3 := by kernel_rfl
  rcases open_slice ht hf with ⟨hcs, hx⟩ | ⟨a, len', cap', m, n, D, Pl, hcs, _, hl, hm, hmm, hx, hi⟩
  · have hv : Value.slice a0 len cap = .slice none 0 0 := by simpa [Value.cells] using hcs
    exact ⟨[], ⟨none, 0, hv, .inl rfl⟩⟩
  · have hv : Value.slice a0 len cap = .slice (some a) len' cap' := by simpa [Value.cells] using hcs
    simp only [Value.slice.injEq] at hv
    obtain ⟨rfl, rfl, rfl⟩ := hv
    simp only [if_true] at hmm
    by_cases hz : len = 0
    · subst hz
      exact ⟨[], ⟨some a, cap, rfl, .inl rfl⟩⟩
    · rw [hC] at hi
      have hone : ∀ i, i < len → ∃ x : Kn.V, W.cell? (a.add (i * 3)) = some (.bool x.null) ∧ W.cell? (a.add (i * 3 + 1)) = some (.int .i64 x.n) ∧ W.cell? (a.add (i * 3 + 2)) = some (.string x.s) := fun i hil => by
        obtain ⟨cs', hc, ht⟩ := hi i (by omega)
        obtain ⟨x, rfl, _⟩ := Kn.open_cells ht
        obtain ⟨_, _, hat⟩ := World.cells?_some hc
        have a0 := hat 0 (by omega)
        have a1 := hat 1 (by omega)
        have a2 := hat 2 (by omega)
        rw [add_add] at a0 a1 a2
        exact ⟨x, a0, a1, a2⟩
      obtain ⟨b, off, spot⟩ := a
      have hspot : spot = none := by
        obtain ⟨x, h0, _⟩ := hone 0 (by omega)
        simpa [Addr.add] using World.cell?_spot h0
      subst hspot
      have hlt : b < W.heap.size := by
        obtain ⟨x, h0, _⟩ := hone 0 (by omega)
        have := World.block_lt_of_cell? W _ h0
        simpa [Addr.add] using this
      have hch : ∃ f : Nat → Kn.V, ∀ i, i < len → Kn.At W b (off + i * 3) (f i) := by
        have hone' : ∀ i, i < len → ∃ x : Kn.V, Kn.At W b (off + i * 3) x := fun i hil => by
          obtain ⟨x, h0, h1, h2⟩ := hone i hil
          rw [add_plain] at h0 h1 h2
          rw [← Nat.add_assoc] at h1 h2
          exact ⟨x, h0, h1, h2⟩
        refine ⟨fun i => if hil : i < len then (hone' i hil).choose else ⟨false, 0, ⟨#[]⟩⟩, fun i hil => ?_⟩
        have hs := (hone' i hil).choose_spec
        simp only [dif_pos hil]
        exact hs
      obtain ⟨f, hf'⟩ := hch
      refine ⟨(List.range len).map f, ⟨some ⟨b, off, none⟩, cap, by simp, .inr ⟨b, off, rfl, hlt, by unfold maxLen at hm; simp; omega, fun i x hix => ?_⟩⟩⟩
      rw [List.getElem?_map, Option.map_eq_some_iff] at hix
      obtain ⟨i', hi', rfl⟩ := hix
      obtain ⟨hil, rfl⟩ := List.getElem?_eq_some_iff.1 hi'
      rw [List.getElem_range]
      rw [List.length_range] at hil
      exact hf' i hil
end
end Go.Proofs.YtfjhffldhpcdmaaDoor

namespace Go.Proofs.YtfjhffldhpcdmaaDoor
open Go.RowKit Go.ChangeShapes Go.WideShapes Go.ChangeAt Go.Deep
section
variable {H : Type} {enc : TypeId × Value → H} {W : World}
set_option maxRecDepth 100000 in
/-- A deed, handed over. -/
theorem Dd.open_deed {v : Value} {d : DataW H} {ps : List MemPlace} {r : Reach} {b0 : Nat} (hv : Value.okWide Tryd.prog W r b0 37 v) (h : DataW.Trod enc Tryd.prog W 0 (fun _ => true) true 37 v d ps) :
    ∃ (x : Dd.D) (u : Value), v = .agg #[.bool x.gone, u] ∧ Kn.Vals W u x.row ∧ ∀ y ∈ x.row, Ty.I64 y.n := by
  obtain ⟨cs0, rfl, hcsz⟩ := okWide_struct Tryd.underlying37 hv
  obtain ⟨fuel, hf⟩ := h
  have hf : DataW.trod enc Tryd.prog W 0 (fun _ => true) true fuel 37 cs0.toList = some (d, ps) := hf
  generalize hcs : cs0.toList = cs at hf
  obtain ⟨xs, f', _, hx, hcl, hxl, hg⟩ := DataW.trod_struct Tryd.underlying37 hf
  have hC : Tryd.prog.cellsOf 37 = 2 := by kernel_rfl
  have i3 : Tryd.prog.cellsOf 4 = 1 := by kernel_rfl
  have ir : Tryd.prog.cellsOf 35 = 1 := by kernel_rfl
  rw [hC] at hcl
  match cs, hcl, xs, hxl with
  | [c0, c1], _, [y0, y1], _ =>
    have g0 : DataW.trod enc Tryd.prog W 0 (fun _ => true) true f' 4 ((List.drop 0 [c0, c1]).take (Tryd.prog.cellsOf 4)) = some y0 := hg 0 _ rfl
    have g1 : DataW.trod enc Tryd.prog W 0 (fun _ => true) true f' 35 ((List.drop 1 [c0, c1]).take (Tryd.prog.cellsOf 35)) = some y1 := hg 1 _ rfl
    rw [i3] at g0
    rw [ir] at g1
    obtain ⟨k, e0, r0⟩ := DataW.trod_bool Tryd.underlying4 (show DataW.trod enc Tryd.prog W 0 (fun _ => true) true f' 4 [c0] = some y0 from g0)
    have g1 : DataW.trod enc Tryd.prog W 0 (fun _ => true) true f' 35 [c1] = some y1 := g1
    have hs : ∃ a0 len cap, c1 = .slice a0 len cap := by
      rcases open_slice Tryd.underlying35 g1 with ⟨hc, _⟩ | ⟨a, len', cap', _, _, _, _, hc, _⟩
      · exact ⟨none, 0, 0, by simpa using hc⟩
      · exact ⟨some a, len', cap', by simpa using hc⟩
    obtain ⟨a0, len, cap, rfl⟩ := hs
    obtain ⟨l, hl, hi⟩ := Cl.open_vals (W := W) (enc := enc) (d := y1.1) (ps := y1.2) Tryd.underlying35 ⟨f', g1⟩
    simp only [List.cons.injEq, and_true] at e0
    subst e0
    refine ⟨⟨k, l⟩, _, ?_, hl, hi⟩
    rw [← Array.toArray_toList (xs := cs0), hcs]
end
end Go.Proofs.YtfjhffldhpcdmaaDoor

namespace Go.Proofs.YtfjhffldhpcdmaaDoor.Ty
open Go.RowKit Go.WideShapes Go.ChangeShapes
/-- The row's post, of a call that wrote nothing that was there. -/
theorem post_below {H : Type} {enc : TypeId × Value → H} {P : Program} {f : Func} {s : ChangeSpec} {apart fresh handsOn again : Bool} {W W' : World} {args : Array Value} {v : Value} {ds gs : List (DataW H)} {before pa pv : List MemPlace}
    (hW : DataW.Whole enc P f.params.toList s.vars apart W args.toList ds gs before)
    (hr : ∀ (b : Nat) (sp : Nat → Bool) (hd : Bool), DataW.TrodAll enc P W' b sp hd f.resultTypes.toList (v.resultList f.resultTypes.size) (s.fn H (ds ++ gs)).results [])
    (ha : ∀ sp : Nat → Bool, (∀ p ∈ before, sp p.block = true) → DataW.TrodAll enc P W' 0 sp true f.params.toList args.toList (s.fn H (ds ++ gs)).args pa)
    (hv : ∀ sp : Nat → Bool, (∀ p ∈ before, sp p.block = true) → DataW.TrodVars enc P W' sp s.vars (s.fn H (ds ++ gs)).vars pv)
    (hp : before = pa ++ pv) (hb : Below W.heap.size W W')
    (hok : ∀ (j : Nat) (t : TypeId) (r : Value), f.resultTypes[j]? = some t → (v.resultList f.resultTypes.size)[j]? = some r → Value.okWide P W' .any 0 t r) :
    s.post enc P f apart fresh handsOn again W args v W' := by
  have hl : ∀ p ∈ before, p.block < W.heap.size := fun p h => hW.lt p h
  have hs : ∀ p ∈ before, (fun b => decide (b < W.heap.size)) p.block = true := fun p h => by simpa using hl p h
  have hW0 := hW
  obtain ⟨_, _, _, _, _, hz, hn⟩ := hW0
  refine ⟨ds, gs, before, [], pa, pv, hW, hr _ _ _, ha _ hs, hv _ hs, World.keptBut_mono (fun p h => ⟨h, by rw [hp] at h; exact .inr (List.mem_append.1 h)⟩) (hb.frame (· ∈ before)), fun _ => ⟨hok, _, _, ([] ++ pa) ++ pv, ⟨[] ++ pa, pv, trodAll_append (ha _ (fun _ _ => rfl)) (hr _ _ _), hv _ (fun _ _ => rfl), rfl, ?_, ?_⟩, ?_⟩⟩
  · intro b off h
    have hin : MemPlace.cell b off ∈ before := by rw [hp]; simpa using h
    rw [hb.frozen (hl _ hin)]
    exact hz b off hin
  · intro hap
    have := hn hap
    rw [hp] at this
    simpa using this
  · intro p h _
    rw [hp]
    simpa using h
end Go.Proofs.YtfjhffldhpcdmaaDoor.Ty

namespace Go.Proofs.YtfjhffldhpcdmaaDoor.Ty
open Go.RowKit Go.WideShapes Go.ChangeShapes
/-- All arguments at once. -/
theorem all_stay {H : Type} {enc : TypeId × Value → H} {P : Program} (hl : laidOutB P = true) {W W' : World} {sp : Nat → Bool} : ∀ (ts : List TypeId) (vs : List Value) (ds : List (DataW H)) (ps : List MemPlace),
    (ts.all fun t => P.readableRec t && decide (t < P.types.size)) = true → DataW.TrodAll enc P W 0 (fun _ => true) true ts vs ds ps → (∀ p ∈ ps, W.sameAt W' p) → (∀ p ∈ ps, sp p.block = true) → DataW.TrodAll enc P W' 0 sp true ts vs ds ps
  | [], [], [], _, _, h, _, _ => h
  | [], [], _ :: _, _, _, h, _, _ => h.elim
  | [], _ :: _, [], _, _, h, _, _ => h.elim
  | [], _ :: _, _ :: _, _, _, h, _, _ => h.elim
  | _ :: _, [], [], _, _, h, _, _ => h.elim
  | _ :: _, [], _ :: _, _, _, h, _, _ => h.elim
  | _ :: _, _ :: _, [], _, _, h, _, _ => h.elim
  | t :: ts, v :: vs, d :: ds, ps, ht, h, hs, hsp => by
    obtain ⟨p, q, h1, h2, rfl⟩ := h
    simp only [List.all_cons, Bool.and_eq_true, decide_eq_true_eq] at ht
    exact ⟨p, q, WideElems.Trod_stays hl ht.1.1 ht.1.2 h1 (fun x hx => hs x (List.mem_append_left _ hx)) (fun x hx => hsp x (List.mem_append_left _ hx)),
      all_stay hl ts vs ds q ht.2 h2 (fun x hx => hs x (List.mem_append_right _ hx)) (fun x hx => hsp x (List.mem_append_right _ hx)), rfl⟩
end Go.Proofs.YtfjhffldhpcdmaaDoor.Ty
