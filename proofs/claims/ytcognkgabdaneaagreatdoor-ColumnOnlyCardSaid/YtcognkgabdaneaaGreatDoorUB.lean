/-
  Contracts of package texts: the keys of a map of counts, sorted; a string copied. Over contracts of the shelf, laid at this program.
  Contracts of package texts: the writers.
  Contracts of package texts: With, Best.
-/
import Derived.Test.YtcognkgabdaneaaGreatDoorUA
import Derived.Test.YtcognkgabdaneaaGreatDoorLay
import Derived.Test.YtcognkgabdaneaaGreatDoorQB
import Derived.Test.YtcognkgabdaneaaGreatDoorPA
namespace Go.Proofs.YtcognkgabdaneaaGreatDoor
open Go.RowKit Go.Maps Go.Sort Go.Shelf
theorem Tx.keysOf_c (mb : Option Nat) (w : World) :
    Calls Tryz.prog 111 #[.map mb] w fun e w' => e = .returned (.func (.func 129) #[] #[.pointer (some ⟨w.heap.size, 0, none⟩)]) ∧ w' = w.alloc (.cells #[.map mb] 141) :=
  callsIn_wide.1 (AnyZ.keys_in Tryz.keysL Fence.wide 5 trivial rfl mb w)
theorem Tx.sorts (m : Nat) : AnyZ.SortsIn Tryz.prog Tryz.sortedL_ren Fence.wide m :=
  ⟨fun blk off cap ss w hH hblk hsz => callsIn_wide.2 (AnyM.slices_Sort_string Tryz.sortL blk off cap ss w hH hblk hsz), fun p cap w => callsIn_wide.2 (AnyM.slices_Sort_string_none Tryz.sortL p cap w)⟩
/-- Ascending lists are sorted as they are. -/
theorem Tx.dict_sorted (L : List Tx.Str) {ss : List Tx.Str} (h : (Tx.dict L).Perm ss) : ss.mergeSort (fun x y => decide (x ≤ y)) = Tx.dict L := by
  rw [mergeSort_of_perm h.symm]
  refine List.mergeSort_of_pairwise (List.pairwise_iff_getElem.2 fun i j hi hj hij => ?_)
  have h1 := Tx.asc_at (Tx.dict L) none (Tx.dict_asc L) i j hij hj
  rw [List.getD, List.getElem?_eq_getElem hi, List.getD, List.getElem?_eq_getElem hj] at h1
  have h2 : Op.bytesLess (Tx.dict L)[i] (Tx.dict L)[j] = true := h1
  rw [bytesLess_eq, decide_eq_true_eq] at h2
  exact decide_eq_true (List.le_of_lt h2)
theorem Tx.enc_sv (L : List Tx.Str) : L.map encStr = (List.range L.length).map (Tx.sv L) := by
  refine List.ext_getElem (by simp) fun i h1 h2 => ?_
  have hi : i < L.length := by simpa using h1
  rw [List.getElem_map, List.getElem_map, List.getElem_range]
  unfold Tx.sv
  rw [List.getD, List.getElem?_eq_getElem hi]
  rfl
set_option maxHeartbeats 1000000 in
/-- The dictionary, out of the map's keys ('w': the world ahead of the call of Keys). -/
theorem Tx.sorted_c {b n : Nat} {L : List Tx.Str} {w : World} (hc : Tx.Counts b n w L) (hn : L.length ≤ 65536) :
    Calls Tryz.prog 110 #[.func (.func 129) #[] #[.pointer (some ⟨w.heap.size, 0, none⟩)]] (w.alloc (.cells #[.map (some b)] 141)) fun e w' => ∃ v, e = .returned v ∧ Tx.Own w.heap.size w' v (Tx.dict L) ∧ Below w.heap.size w w' := by
  obtain ⟨D, hown, hp, hs⟩ := hc.keys
  have hbl := hown.lt
  have hdl := Tx.dict_len L
  have hseq : SeqGives Fence.wide 2 Tryz.prog 129 #[.pointer (some ⟨w.heap.size, 0, none⟩)] encStr (fun ss => ss.Perm (strKeys D)) (Maps.size D) (w.alloc (.cells #[.map (some b)] 141)) :=
    AnyZ.keys_gives (ρ := Tryz.keysL_ren) { Tryz.keysL with } Fence.wide _ trivial rfl (by omega) w.heap.size b n D _ (by simp) (by simp) (hown.alloc _)
  have hc := callsIn_wide.1 (AnyZ.sorted_in Tryz.sortedL Fence.wide 5 trivial trivial trivial trivial rfl (by omega) (Tx.sorts _) (enters_of Tryz.func128 (by kernel_rfl) rfl) 129 #[.pointer (some ⟨w.heap.size, 0, none⟩)] trivial (enters_of Tryz.func129 (by kernel_rfl) rfl) _ _ (by rw [hs]; unfold maxLen; omega) (by rw [hs]; omega) _ hseq)
  refine hc.mono ?_
  rintro e w' ⟨v, ss, rfl, hS, hrow, hnil, hb⟩
  have hd := Tx.dict_sorted L (hp.trans hS.symm)
  have hlen : ss.length = (Tx.dict L).length := (hp.trans hS.symm).length_eq.symm
  refine ⟨v, rfl, ?_, ?_⟩
  · have e1 : (ss.mergeSort (fun x y => decide (x ≤ y))).map encStr = (List.range (Tx.dict L).length).map (Tx.sv (Tx.dict L)) := by rw [hd, Tx.enc_sv]
    have h2 := hrow
    rw [e1, hlen] at h2
    exact Tx.Own.mono (B := (w.alloc (.cells #[.map (some b)] 141)).heap.size) h2 (by simp)
  · exact ((Below.refl _ w).alloc (Nat.le_refl _) _).trans (hb.mono (by simp))
/-- A string copied. -/
theorem Tx.clone_c (s : ByteArray) (w : World) (hs : s.size ≤ 140737488355328) : Calls Tryz.prog 124 #[.string s] w fun e w' => e = .returned (.string s) ∧ Below w.heap.size w w' := by
  have cc := Any.stringslite_Clone Tryz.cloneL s w (by omega)
  go_enter Tryz.func124, Tryz.ntmps124
  go_wp2_with fail
  refine Calls.mono cc ?_
  rintro e w1 ⟨rfl, hb⟩
  go_wp2
  go_ret
  exact ⟨rfl, hb⟩
end Go.Proofs.YtcognkgabdaneaaGreatDoor

namespace Go.Proofs.YtcognkgabdaneaaGreatDoor
open Go.RowKit
open Ty (encU)
/-- A string of a slice in hand. -/
theorem Tx.At.string {B n c : Nat} {w : World} {a : Option Addr} {L : List Tx.Str} (h : Tx.At B w (.slice a n c) L) {k : Nat} (hk : k < L.length) : ∃ b o, a = some ⟨b, o, none⟩ ∧ w.cell? ⟨b, o + k, none⟩ = some (.string (Ty.S (L.getD k []))) := by
  obtain ⟨a', c', e, _, _, h⟩ := h
  simp only [Value.slice.injEq] at e
  rcases h with ⟨h, _⟩ | ⟨b, o, ea, _, h⟩
  · rw [h] at hk; simp at hk
  · exact ⟨b, o, e.1.trans ea, h k hk⟩
set_option maxHeartbeats 1000000 in
set_option maxRecDepth 100000 in
theorem Tx.writeStrings_c (base : Nat) (v : Value) (bs : List UInt8) (u : Value) (L : List Tx.Str) (w : World) (hw : Ty.Tabs w) (hown : Ty.Buf base w v bs) (hb : base ≤ w.heap.size) (hG : Ty.G ≤ base)
    (hst : ∀ x w', Ty.Grew w w' v x → Tx.At w'.heap.size w' u L) (h64 : ∀ t ∈ L, t.length ≤ 64) (hlen : bs.length ≤ 100) (hl : L.length ≤ 65536) :
    Calls Tryz.prog 83 #[v, u] w (Ty.Written base w v (bs ++ L.flatMap Tx.encT)) := by
  obtain ⟨a, c, rfl, hc, _, _⟩ := hst _ _ (Ty.Grew.refl w v)
  have HST := Lib.hid hst
  have H64 := Lib.hid h64
  have H0 := Lib.hid hown.base
  obtain ⟨n, hnn⟩ : ∃ n, n = L.length := ⟨_, rfl⟩
  rw [← hnn] at hl hc HST ⊢
  have HN := Lib.hid hnn
  clear hst h64 hnn
  go_enter Tryz.func83, Tryz.ntmps83
  go_wp2
  go_loopw [0, 9] (fun x i wr => ∃ k : Nat, k ≤ n ∧ i = .int .i64 k ∧ Ty.Buf base wr x (bs ++ (L.take k).flatMap Tx.encT) ∧ Ty.Grew w wr v x) (fun _ i _ => n - (intOf i).toNat)
  case atStart => exact ⟨0, by omega, rfl, by simpa using hown, Ty.Grew.refl _ _⟩
  case round =>
    obtain ⟨k, hk, rfl, hB, hg⟩ := hrel
    have hb1 := hg.below hb H0.out
    have hT := hw.below hb1 hG
    have hs := hb1.size
    have hat := HST.out _ _ hg
    have HB := Lib.hid hB
    have HG := Lib.hid hg
    have hk0 : (0 : Int) ≤ (k : Int) := by omega
    clear hB hg
    by_cases hl2 : k < n
    · have hkL : k < L.length := by rw [← HN.out]; exact hl2
      obtain ⟨b, o, rfl, hcell⟩ := hat.string hkL
      have hx : (L.getD k []).length ≤ 64 := H64.out _ (by rw [List.getD, List.getElem?_eq_getElem hkL]; exact List.getElem_mem _)
      have HN2 := Lib.hid (Tx.flat_next hkL)
      have hln := Tx.len_flat (L.take k) (fun t ht => H64.out t (List.mem_of_mem_take ht))
      rw [List.length_take] at hln
      have c1 := Ty.text_c base _ _ (Ty.S (L.getD k [])) wr hT HB.out (by omega) (by rw [List.length_append, Tx.S_size]; omega)
      have HE : Hid (encU (Ty.S (L.getD k [])).size ++ (Ty.S (L.getD k [])).data.toList = Tx.encT (L.getD k [])) := Lib.hid rfl
      rw [← HE.out] at HN2
      have hkl : (k : Int) < (n : Int) := by omega
      generalize Ty.S (L.getD k []) = s at hcell c1 HN2
      clear hx hln hT hb1 HE hat
      go_wp2_with fail
      refine c1.mono ?_
      rintro e w1 ⟨v1, rfl, hB1, hG1⟩
      have HB1 := Lib.hid hB1
      have HG1 := Lib.hid hG1
      clear hB1 hG1 c1
      go_wp2
      go_roundw
      case rel => exact ⟨k + 1, by omega, by simp, by rw [HN2.out, ← List.append_assoc, ← List.append_assoc]; exact HB1.out, HG.out.trans HG1.out⟩
      case measure => simp [intOf]; omega
    · obtain rfl : k = n := by omega
      have hkl : ¬ (k : Int) < (k : Int) := by omega
      have HF : Hid (L.take k = L) := Lib.hid (by rw [HN.out, List.take_length])
      clear hat
      go_wp2
      go_ret
      exact ⟨_, rfl, by have := HB.out; rwa [HF.out] at this, HG.out⟩
theorem Tx.encX_is (d L : List Tx.Str) : Tx.encX d L = Pk.enc L.length (Tx.ix d L) := rfl
set_option maxHeartbeats 2000000 in
set_option maxRecDepth 100000 in
theorem Tx.writeDictionary_c (base : Nat) (v : Value) (bs : List UInt8) (u : Value) (L : List Tx.Str) (w : World) (hw : Ty.Tabs w) (hown : Ty.Buf base w v bs) (hb : base ≤ w.heap.size) (hG : Ty.G ≤ base)
    (hL : Tx.At base w u L) (h64 : ∀ t ∈ L, t.length ≤ 64) (hlen : bs.length ≤ 80) (hl : L.length ≤ 65536) :
    Calls Tryz.prog 82 #[v, u] w (Ty.Written base w v (bs ++ Tx.body 1 L)) := by
  have hdl : (Tx.dict L).length ≤ 65536 := Nat.le_trans (Tx.dict_len L) hl
  have hd64 : ∀ t ∈ Tx.dict L, t.length ≤ 64 := fun t ht => h64 t ((Tx.dict_mem L t).1 ht)
  have HE : Hid (Tx.body 1 L = encU (Tx.dict L).length ++ (Tx.dict L).flatMap Tx.encT ++ Pk.enc L.length (Tx.ix (Tx.dict L) L)) := Lib.hid (by unfold Tx.body; rw [if_neg (by decide), Tx.encX_is, List.append_assoc])
  have HX : Hid (∀ k, k < L.length → Tx.ix (Tx.dict L) L k < (Tx.dict L).length) := Lib.hid fun k hk => Tx.ix_lt _ _ (fun t ht => (Tx.dict_mem L t).2 ht) k hk
  have HS : Hid (∀ a c k w, k < L.length → Tx.At w.heap.size w (.slice a (Tx.dict L).length c) (Tx.dict L) → Calls Tryz.prog 113 #[.slice a (Tx.dict L).length c, .string (Ty.S (L.getD k []))] w fun e w' => e = .returned (.tuple #[.int .i64 ((Tx.ix (Tx.dict L) L k : Nat) : Int), .bool true]) ∧ w' = w) := Lib.hid fun a c k w hk ha =>
    Tx.search_c _ (Tx.dict L) (L.getD k []) w ha hdl (Tx.dict_asc L) ((Tx.dict_mem L _).2 (by rw [List.getD, List.getElem?_eq_getElem hk]; exact List.getElem_mem _))
  have CU := Lib.hid (Tx.uses_c u L w (hL.mono hb (Nat.le_refl _)) hl h64)
  have CS := Lib.hid (fun (w : World) b n (hc : Tx.Counts b n w L) => Tx.sorted_c hc hl)
  have CW := Lib.hid (fun v bs u w h1 h2 h3 h4 h5 => Tx.writeStrings_c base v bs u (Tx.dict L) w h1 h2 h3 hG h4 hd64 h5 hdl)
  have HX64 : Hid (∀ i, Tx.ix (Tx.dict L) L i < 2 ^ 64) := Lib.hid fun i => by
    have : Tx.ix (Tx.dict L) L i ≤ (Tx.dict L).length := List.idxOf_le_length
    omega
  have HFL := Lib.hid (Tx.len_flat (Tx.dict L) hd64)
  have hmk := run_make_row' (P := Tryz.prog) 121 49 (.int .u64 0) 8 Tryz.underlying121 Bt.infoU rfl .i64 .i64 L.length (by omega) (by omega)
  have H0 := Lib.hid hown
  generalize Tx.ix (Tx.dict L) L = X at HE HX HS HX64
  rw [HE.out]
  generalize Tx.dict L = d at HE HX HS CS CW HFL hdl hd64 ⊢
  obtain ⟨a, c, rfl, hc, _, h⟩ := hL
  have HH := Lib.hid h
  obtain ⟨n, hnn⟩ : ∃ n, n = L.length := ⟨_, rfl⟩
  have HN := Lib.hid hnn
  rw [← hnn] at hl hc hmk HX HS CU ⊢
  have hu : Ty.U64 ((d.length : Int)).toNat := by unfold Ty.U64; omega
  have h9 := Ty.encU_len9 d.length
  have HU := Lib.hid hu
  have H9 := Lib.hid h9
  clear h h64 hnn hown hd64 HE hu h9
  go_enter Tryz.func82, Tryz.ntmps82
  go_wp2_with fail
  refine CU.out.mono ?_
  rintro e w1 ⟨rfl, hC, hb1⟩
  have HC := Lib.hid hC
  have HB1 := Lib.hid hb1
  clear hC hb1 CU
  go_wp2_with fail
  refine (Tx.keysOf_c _ _).mono ?_
  rintro e w2 ⟨rfl, rfl⟩
  go_wp2_with fail
  refine (CS.out _ _ _ HC.out).mono ?_
  rintro e w3 ⟨vd, rfl, hO, hb3⟩
  have HO := Lib.hid hO
  have HB3 := Lib.hid (HB1.out.trans (hb3.mono HB1.out.size))
  have hAt := hO.at
  clear hO hb3 CS HC
  obtain ⟨ad, cd, rfl, hcd, _, hd⟩ := hAt
  clear hd
  have hs3 := HB3.out.size
  go_wp2_with fail
  have hR : (w3.alloc (.cells (madeCells #[.int .u64 0] n) 49)).rowIs w3.heap.size 49 n (Bt.upTo 0 (Bt.nv X) (.int .u64 0)) := (World.rowIs_made w3 (.int .u64 0) n 49).congr fun i _ => by unfold Bt.upTo; rw [if_neg (by omega)]
  have hB : Below w3.heap.size w3 (w3.alloc (.cells (madeCells #[.int .u64 0] n) 49)) := (Below.refl _ _).alloc (Nat.le_refl _) _
  generalize w3.alloc (.cells (madeCells #[.int .u64 0] n) 49) = w4 at hR hB ⊢
  clear hmk
  generalize hg : w3.heap.size = g at hR hB
  have HGE := Lib.hid hg
  clear hg
  go_loopw [20] (fun i wr => ∃ k : Nat, k ≤ n ∧ i = .int .i64 k ∧ wr.rowIs g 49 n (Bt.upTo k (Bt.nv X) (.int .u64 0)) ∧ Below g w3 wr) (fun i _ => n - (intOf i).toNat)
  case atStart => exact ⟨0, by omega, rfl, hR, hB⟩
  case round =>
    obtain ⟨k, hk, rfl, hRk, hBk⟩ := hrel
    have HR := Lib.hid hRk
    have HBK := Lib.hid hBk
    clear hR hB hRk hBk
    have hge := HGE.out
    have hbw : Below w3.heap.size w3 wr := by rw [hge]; exact HBK.out
    have hO2 : Tx.Own w1.heap.size wr _ d := Bt.Buf.kept HO.out hbw
    have hA2 := hO2.at
    have hball := HB3.out.trans (hbw.mono hs3)
    have HBA := Lib.hid hball
    have hws := hball.size
    by_cases hl2 : k < n
    · rcases HH.out with ⟨h, _⟩ | ⟨b, o, rfl, hlt, h⟩
      · rw [HN.out, h] at hl2; simp at hl2
      · have hcell : wr.cell? ⟨b, o + k, none⟩ = some (Tx.sv L k) := (hball.cell (p := ⟨b, o + k, none⟩) (show b < w.heap.size by omega)).trans (h k (by rw [← HN.out]; exact hl2))
        unfold Tx.sv at hcell
        have cs := HS.out ad cd k wr hl2 hA2
        have hxl := HX.out k hl2
        have HXK : Hid (X k = X k) := Lib.hid rfl
        have hkl : (k : Int) < (n : Int) := by omega
        have hk0 : (0 : Int) ≤ (k : Int) := by omega
        have hf := HR.out.frozen k
        have hcl := HR.out.cell hl2
        generalize Ty.S (L.getD k []) = s at hcell cs
        obtain ⟨x, hx⟩ : ∃ x, x = X k := ⟨_, rfl⟩
        rw [← hx] at cs hxl
        have HXE := Lib.hid hx
        clear h hx hball hbw hA2 hO2 hge HXK
        go_wp2_with fail
        refine cs.mono ?_
        rintro e w5 ⟨rfl, rfl⟩
        clear cs
        go_wp2
        go_roundw
        case rel => exact ⟨k + 1, by omega, by simp, Bt.upTo_next HR.out (by unfold Bt.nv; rw [← HXE.out]), HBK.out.trans (Bt.below_set (Nat.le_refl _) _)⟩
        case measure => simp [intOf]; omega
    · obtain rfl : k = n := by omega
      have hkl : ¬ (k : Int) < (k : Int) := by omega
      have hown2 := H0.out.later hball
      have hT2 := hw.below hball (by omega)
      have HSL : Hid (Bt.Sl wr (.slice (some ⟨g, 0, none⟩) k k) k (Bt.nv X)) := Lib.hid (Bt.Sl.row (HR.out.congr fun i hi => by unfold Bt.upTo; rw [if_pos hi]))
      have HT := Lib.hid hT2
      have HO2 := Lib.hid hO2
      have cu := Ty.uint_c base v bs (d.length : Int) (by omega) HU.out wr hT2 hown2 (by omega) (by omega)
      clear hball hbw hA2 hO2 hge hown2 hT2
      go_wp2_with fail
      refine cu.mono ?_
      rintro e w5 ⟨v5, rfl, hB5, hG5⟩
      have hbs5 := hG5.by_.size
      have hb5 : Below base wr w5 := hG5.below (by omega) H0.out.base
      have HB5 := Lib.hid hB5
      have HG5 := Lib.hid hG5
      have HT5 := Lib.hid (HT.out.below hb5 hG)
      have hgw := HR.out.lt
      have e1 : ((d.length : Int)).toNat = d.length := Int.toNat_natCast _
      have hgv : some g ≠ v.ownBlock := fun e => by have := (H0.out.lt g e.symm).2; have := HGE.out; omega
      have hne : (Value.slice ad d.length cd).ownBlock = none ∨ (Value.slice ad d.length cd).ownBlock ≠ v.ownBlock := by
        cases hv : (Value.slice ad d.length cd).ownBlock with
        | none => exact .inl rfl
        | some q =>
          refine .inr fun e => ?_
          have h1 := Bt.Buf.base_le HO2.out q hv
          have h2 := (H0.out.lt q e.symm).2
          have h3 := HB1.out.size
          omega
      have cw := CW.out v5 _ (.slice ad d.length cd) w5 HT5.out HB5.out (by omega) (fun x w' hg => by
        have : Tx.Own w1.heap.size w' (.slice ad d.length cd) d := World.ownsRow.kept HO2.out (HG5.out.trans hg).by_ hne
        exact this.at) (by rw [e1, List.length_append]; have := H9.out; omega)
      clear cu hB5 hG5 hb5 hne
      go_wp2_with fail
      refine cw.mono ?_
      rintro e w6 ⟨v6, rfl, hB6, hG6⟩
      have hs6 := hG6.by_.size
      have hall := HG5.out.trans hG6
      have hsl6 := Pk.sl_kept HSL.out (hall.by_.block g hgw hgv) hall.by_.size
      have ca := Pk.append_c base v6 _ _ k X w6 hB6 (by omega) hsl6 HX64.out hl (by
        rw [e1]
        simp only [List.length_append]
        have h1 := H9.out
        have h2 := HFL.out
        omega)
      have HALL := Lib.hid hall
      clear cw hB6 hG6 hall hsl6 hgv hgw
      go_wp2_with fail
      refine ca.mono ?_
      rintro e w7 ⟨v7, rfl, hB7, hG7⟩
      have HB7 := Lib.hid hB7
      have HG7 := Lib.hid (Pk.grew_below (Ty.Grew.refl w v) HBA.out |>.trans (HALL.out.trans hG7))
      clear ca hB7 hG7
      go_wp2
      go_ret
      exact ⟨_, rfl, by have := HB7.out; rw [e1] at this; simpa [List.append_assoc] using this, HG7.out⟩
end Go.Proofs.YtcognkgabdaneaaGreatDoor

namespace Go.Proofs.YtcognkgabdaneaaGreatDoor
open Go.RowKit
open Ty (encU)
theorem Tx.At.stays {w : World} {v u : Value} {L : List Tx.Str} {base : Nat} (h : Tx.At base w u L) (hb : base ≤ w.heap.size) (hv : ∀ k, v.ownBlock = some k → base ≤ k) : ∀ x w', Ty.Grew w w' v x → Tx.At w'.heap.size w' u L := fun _ _ hg => by
  have g := hg.below hb hv
  exact (h.below g).mono (Nat.le_trans hb g.size) (Nat.le_refl _)
set_option maxHeartbeats 2000000 in
set_option maxRecDepth 100000 in
theorem Tx.with_good (u : Value) (L : List Tx.Str) (k : Nat) (hk : k ≤ 1) (w : World) (hw : Ty.Tabs w) (hL : Tx.At w.heap.size w u L) (hf : Tx.fit L = true) :
    Calls Tryz.prog 58 #[u, .int .i64 k] w fun e w' => e = .returned (.tuple #[.string (Ty.S (Tx.enc k L)), .int .i64 0]) ∧ Below w.heap.size w w' := by
  obtain ⟨hl, h64⟩ := Tx.fit_yes hf
  have ct := Tx.tooLong_c u L w hL (by omega)
  rw [hf] at ct
  have hG := hw.two
  have HE : Hid (Tx.enc k L = [UInt8.ofNat k] ++ encU L.length ++ Tx.body k L) := Lib.hid (by unfold Tx.enc; simp)
  have HL := Lib.hid hL
  have H64 := Lib.hid h64
  have hu : Ty.U64 ((L.length : Int)).toNat := by unfold Ty.U64; omega
  have h9 := Ty.encU_len9 L.length
  have H9 := Lib.hid h9
  obtain ⟨a, c, rfl, hc, _, h⟩ := hL
  clear h h9 hf h64
  rw [HE.out]
  rcases (by omega : k = 0 ∨ k = 1) with rfl | rfl
  all_goals
    go_enter Tryz.func58, Tryz.ntmps58
    go_wp2_with fail
    refine ct.mono ?_
    rintro e w1 ⟨rfl, rfl⟩
    have cU := fun wz X h1 h2 h3 => Ty.uint_c w1.heap.size (.slice (some ⟨w1.heap.size, 0, none⟩) 1 1) [X] (L.length : Int) (by omega) hu wz h1 h2 h3 (by simp)
    have hT2 : ∀ o, Ty.Tabs (w1.alloc o) := fun o => hw.alloc o
    have hBf : ∀ K : Nat, K < 256 → Ty.Buf w1.heap.size (w1.alloc (.cells #[.int .u8 (K : Int)] 5)) (.slice (some ⟨w1.heap.size, 0, none⟩) 1 1) [UInt8.ofNat K] := fun K hK => Tx.buf_one K hK (Nat.le_refl _)
    have HT2 := Lib.hid hT2
    have HBf := Lib.hid hBf
    have hab : ∀ o, Below w1.heap.size w1 (w1.alloc o) := fun o => (Below.refl _ _).alloc (Nat.le_refl _) o
    have HAB := Lib.hid hab
    have CU := Lib.hid cU
    clear cU hT2 hBf hab hu ct
    go_wp2_with fail
    first
      | refine (CU.out _ _ (HT2.out _) (HBf.out 0 (by decide)) (by simp)).mono ?_
      | refine (CU.out _ _ (HT2.out _) (HBf.out 1 (by decide)) (by simp)).mono ?_
    rintro e w2 ⟨v2, rfl, hB2, hG2⟩
    have hb2 := (HAB.out _).trans (hG2.below (B := w1.heap.size) (by simp) (by intro j hj; have : w1.heap.size = j := (by simpa [Value.ownBlock] using hj); omega))
    have hs2 := hb2.size
    have hT2 := hw.below hb2 hG
    have HB2 := Lib.hid hB2
    have hL2 := HL.out.below hb2
    have hln : ∀ K : UInt8, ([K] ++ encU ((L.length : Int)).toNat).length ≤ 80 := fun K => by
      have h1 := H9.out
      have e1 : ((L.length : Int)).toNat = L.length := Int.toNat_natCast _
      rw [e1, List.length_append, List.length_singleton]
      omega
    have HLN := Lib.hid hln
    have HB := Lib.hid hb2
    clear hB2 hG2 CU HT2 HBf HAB hb2 hln
    go_wp2_with fail
    first
      | refine (Tx.writeStrings_c w1.heap.size v2 _ _ L w2 hT2 HB2.out hs2 hG (hL2.stays hs2 HB2.out.base) H64.out (Nat.le_trans (HLN.out _) (by decide)) hl).mono ?_
      | refine (Tx.writeDictionary_c w1.heap.size v2 _ _ L w2 hT2 HB2.out hs2 hG hL2 H64.out (HLN.out _) hl).mono ?_
    rintro e w4 ⟨v4, rfl, hB4, hG4⟩
    have hb4 := HB.out.trans (hG4.below hs2 HB2.out.base)
    have hcv := hB4.str
    clear hB4 hG4 hL2 hT2
    go_wp2
    go_ret2
    exact ⟨by first | rfl | simp [Tx.body], hb4⟩
set_option maxHeartbeats 1000000 in
set_option maxRecDepth 100000 in
/-- WITH. -/
theorem Tx.with_c (u : Value) (L : List Tx.Str) (z : Int) (w : World) (hw : Ty.Tabs w) (hL : Tx.At w.heap.size w u L) (hl : L.length ≤ 140737488355328) :
    Calls Tryz.prog 58 #[u, .int .i64 z] w fun e w' => e = .returned (Tx.withV L z) ∧ Below w.heap.size w w' := by
  by_cases hz : 0 ≤ z ∧ z ≤ 1
  · cases hf : Tx.fit L
    · rw [Tx.withV_long hz hf]
      have ct := Tx.tooLong_c u L w hL hl
      rw [hf] at ct
      obtain ⟨h0, h1⟩ := hz
      have h2 : ¬ z < 0 := by omega
      have h3 : ¬ (2 : Int) ≤ z := by omega
      obtain ⟨a, c, rfl, hc, _, h⟩ := hL
      clear h hf
      go_enter Tryz.func58, Tryz.ntmps58
      go_wp2_with fail
      refine ct.mono ?_
      rintro e w1 ⟨rfl, rfl⟩
      go_wp2
      go_ret2
      exact ⟨rfl, Below.refl _ _⟩
    · obtain ⟨k, rfl⟩ := Int.eq_ofNat_of_zero_le hz.1
      rw [Tx.withV_good (by omega) hf]
      exact Tx.with_good u L k (by omega) w hw hL hf
  · rw [Tx.withV_bad hz]
    obtain ⟨a, c, rfl, hc, _, h⟩ := hL
    clear h
    by_cases h0 : z < 0
    · clear hz
      go_enter Tryz.func58, Tryz.ntmps58
      go_wp2
      go_ret2
      exact ⟨rfl, Below.refl _ _⟩
    · have h4 : (2 : Int) ≤ z := by omega
      clear hz
      go_enter Tryz.func58, Tryz.ntmps58
      go_wp2
      go_ret2
      exact ⟨rfl, Below.refl _ _⟩
set_option maxHeartbeats 1000000 in
set_option maxRecDepth 100000 in
/-- BEST. -/
theorem Tx.best_c (u : Value) (L : List Tx.Str) (w : World) (hw : Ty.Tabs w) (hL : Tx.At w.heap.size w u L) (hl : L.length ≤ 140737488355328) :
    Calls Tryz.prog 39 #[u] w fun e w' => e = .returned (Tx.bestV L) ∧ Below w.heap.size w w' := by
  have hG := hw.two
  have c0 := Tx.with_c u L 0 w hw hL hl
  have c1 : ∀ wz, Below w.heap.size w wz → Calls Tryz.prog 58 #[u, .int .i64 1] wz fun e w' => e = .returned (Tx.withV L 1) ∧ Below w.heap.size w w' := fun wz g =>
    (Tx.with_c u L 1 wz (hw.below g hG) ((hL.below g).mono g.size (Nat.le_refl _)) hl).mono fun e w' ⟨he, hg⟩ => ⟨he, g.trans (hg.mono g.size)⟩
  cases hf : Tx.fit L
  · rw [Tx.withV_long (by omega) hf] at c0
    have HV : Hid (Tx.bestV L = .tuple #[.string (Ty.S []), .int .i64 3]) := Lib.hid (by unfold Tx.bestV; rw [hf]; rfl)
    rw [HV.out]
    clear hf c1 hL hl
    go_enter Tryz.func39, Tryz.ntmps39
    go_wp2_with fail
    refine c0.mono ?_
    rintro e w1 ⟨rfl, g1⟩
    clear c0
    go_wp2
    go_ret2
    exact ⟨rfl, g1⟩
  · have v0 : Tx.withV L 0 = .tuple #[.string (Ty.S (Tx.enc 0 L)), .int .i64 0] := Tx.withV_good (k := 0) (by omega) hf
    have v1 : Tx.withV L 1 = .tuple #[.string (Ty.S (Tx.enc 1 L)), .int .i64 0] := Tx.withV_good (k := 1) (by omega) hf
    rw [v0] at c0
    rw [v1] at c1
    have HV : Hid (Tx.bestV L = .tuple #[.string (Ty.S (Tx.enc (Tx.bestK L) L)), .int .i64 0]) := Lib.hid (by unfold Tx.bestV; rw [if_pos hf])
    rw [HV.out]
    clear hf v0 v1 hL hl
    have hb : (Tx.bestK L = 1 ∧ ((Ty.S (Tx.enc 1 L)).size : Int) < ((Ty.S (Tx.enc 0 L)).size : Int)) ∨ (Tx.bestK L = 0 ∧ ¬ ((Ty.S (Tx.enc 1 L)).size : Int) < ((Ty.S (Tx.enc 0 L)).size : Int)) := by
      unfold Tx.bestK
      rw [Ty.size_S, Ty.size_S]
      by_cases h : (Tx.enc 1 L).length < (Tx.enc 0 L).length
      · exact .inl ⟨by rw [if_pos h], by omega⟩
      · exact .inr ⟨by rw [if_neg h], by omega⟩
    rcases hb with ⟨hk, hlt⟩ | ⟨hk, hlt⟩
    all_goals
      rw [hk]
      generalize Ty.S (Tx.enc 0 L) = s0 at c0 hlt ⊢
      generalize Ty.S (Tx.enc 1 L) = s1 at c1 hlt ⊢
      clear hk
      go_enter Tryz.func39, Tryz.ntmps39
      go_wp2_with fail
      refine c0.mono ?_
      rintro e w1 ⟨rfl, g1⟩
      have c2 := c1 w1 g1
      clear c0 c1 g1
      go_wp2_with fail
      refine c2.mono ?_
      rintro e w2 ⟨rfl, g2⟩
      clear c2
      go_wp2
      go_ret2
      exact ⟨rfl, g2⟩
end Go.Proofs.YtcognkgabdaneaaGreatDoor
