/-
  
  
  
  
  
  
-/
import Derived.Test.YtbelkhkllneifaaGreatDoorWCAT
import Derived.Test.YtbelkhkllneifaaGreatDoorWCAH
import Derived.Test.YtbelkhkllneifaaGreatDoorWCAF
import Derived.Test.YtbelkhkllneifaaGreatDoorWCAG
import Derived.Test.YtbelkhkllneifaaGreatDoorWCAO
import Derived.Laws.MakeOwn
namespace Go.Proofs.YtbelkhkllneifaaGreatDoor
open Go.RowKit
open Ty (encU)
theorem Tx.At.string {B n c : Nat} {w : World} {a : Option Addr} {L : List Tx.Str} (h : Tx.At B w (.slice a n c) L) {k : Nat} (hk : k < L.length) : ∃ b o, a = some ⟨b, o, none⟩ ∧ w.cell? ⟨b, o + k, none⟩ = some (.string (Ty.S (L.getD k []))) := by
 obtain ⟨a', c', e, _, _, h⟩ := h
 simp only [Value.slice.injEq] at e
 rcases h with ⟨h, _⟩ | ⟨b, o, ea, _, h⟩
 ·rw [h] at hk; simp at hk
 ·exact ⟨b, o, e.1.trans ea, h k hk⟩
set_option maxHeartbeats 1000000 in
set_option maxRecDepth 100000 in
theorem Tx.writeStrings_c (base : Nat) (v : Value) (bs : List UInt8) (u : Value) (L : List Tx.Str) (w : World) (hw : Ty.Tabs w) (hown : Ty.Buf base w v bs) (hb : base ≤ w.heap.size) (hG : Ty.G ≤ base)
 (hst : ∀ x w', Ty.Grew w w' v x → Tx.At w'.heap.size w' u L) (h64 : ∀ t ∈ L, t.length ≤ 64) (hlen : bs.length ≤ 100) (hl : L.length ≤ 65536) :
 Calls Tryz.prog 177 #[v, u] w (Ty.Written base w v (bs ++ L.flatMap Tx.encT)) := by
 obtain ⟨a, c, rfl, hc, _, _⟩ := hst _ _ (Ty.Grew.refl w v)
 have HST := Lib.hid hst
 have H64 := Lib.hid h64
 have H0 := Lib.hid hown.base
 obtain ⟨n, hnn⟩ : ∃ n, n = L.length := ⟨_, rfl⟩
 rw [← hnn] at hl hc HST ⊢
 have HN := Lib.hid hnn
 clear hst h64 hnn
 go_enter Tryz.func177, Tryz.ntmps177
 go_wp2
 go_loopw [0, 9] (fun x i wr => ∃ k : Nat, k ≤ n ∧ i = .int .i64 k ∧ Ty.Buf base wr x (bs ++ (L.take k).flatMap Tx.encT) ∧ Ty.Grew w wr v x) (fun _ i _ => n - (intOf i).toNat)
 case atStart => exact ⟨0, by omega, rfl, by simpa using hown, Ty.Grew.refl _ _⟩
 case round =>
  obtain ⟨k, hk, rfl, hB, hg⟩ := hrel
  have hb1 := hg.below hb H0.out
  have hT := hw.below hb1 hG
  have hs := hb1.size
  have hat := HST.out _ _ hg
  have HB := Lib.hid hB
  have HG := Lib.hid hg
  have hk0 : (0 : Int) ≤ (k : Int) := by omega
  clear hB hg
  by_cases hl2 : k < n
  ·have hkL : k < L.length := by rw [← HN.out]; exact hl2
   obtain ⟨b, o, rfl, hcell⟩ := hat.string hkL
   have hx : (L.getD k []).length ≤ 64 := H64.out _ (by rw [List.getD, List.getElem?_eq_getElem hkL]; exact List.getElem_mem _)
   have HN2 := Lib.hid (Tx.flat_next hkL)
   have hln := Tx.len_flat (L.take k) (fun t ht => H64.out t (List.mem_of_mem_take ht))
   rw [List.length_take] at hln
   have c1 := Ty.text_c base _ _ (Ty.S (L.getD k [])) wr hT HB.out (by omega) (by rw [List.length_append, Tx.S_size]; omega)
   have HE : Hid (encU (Ty.S (L.getD k [])).size ++ (Ty.S (L.getD k [])).data.toList = Tx.encT (L.getD k [])) := Lib.hid rfl
   rw [← HE.out] at HN2
   have hkl : (k : Int) < (n : Int) := by omega
   generalize Ty.S (L.getD k []) = s at hcell c1 HN2
   clear hx hln hT hb1 HE hat
   go_wp2_with fail
   refine c1.mono ?_
   rintro e w1 ⟨v1, rfl, hB1, hG1⟩
   have HB1 := Lib.hid hB1
   have HG1 := Lib.hid hG1
   clear hB1 hG1 c1
   go_wp2
   go_roundw
   case rel => exact ⟨k + 1, by omega, by simp, by rw [HN2.out, ← List.append_assoc, ← List.append_assoc]; exact HB1.out, HG.out.trans HG1.out⟩
   case measure => simp [intOf]; omega
  ·obtain rfl : k = n := by omega
   have hkl : ¬ (k : Int) < (k : Int) := by omega
   have HF : Hid (L.take k = L) := Lib.hid (by rw [HN.out, List.take_length])
   clear hat
   go_wp2
   go_ret
   exact ⟨_, rfl, by have := HB.out; rwa [HF.out] at this, HG.out⟩
theorem Tx.encX_is (d L : List Tx.Str) : Tx.encX d L = Pk.enc L.length (Tx.ix d L) := rfl
set_option maxHeartbeats 2000000 in
set_option maxRecDepth 100000 in
theorem Tx.writeDictionary_c (base : Nat) (v : Value) (bs : List UInt8) (u : Value) (L : List Tx.Str) (w : World) (hw : Ty.Tabs w) (hown : Ty.Buf base w v bs) (hb : base ≤ w.heap.size) (hG : Ty.G ≤ base)
 (hL : Tx.At base w u L) (h64 : ∀ t ∈ L, t.length ≤ 64) (hlen : bs.length ≤ 80) (hl : L.length ≤ 65536) :
 Calls Tryz.prog 176 #[v, u] w (Ty.Written base w v (bs ++ Tx.body 1 L)) := by
 have hdl : (Tx.dict L).length ≤ 65536 := Nat.le_trans (Tx.dict_len L) hl
 have hd64 : ∀ t ∈ Tx.dict L, t.length ≤ 64 := fun t ht => h64 t ((Tx.dict_mem L t).1 ht)
 have HE : Hid (Tx.body 1 L = encU (Tx.dict L).length ++ (Tx.dict L).flatMap Tx.encT ++ Pk.enc L.length (Tx.ix (Tx.dict L) L)) := Lib.hid (by unfold Tx.body; rw [if_neg (by decide), Tx.encX_is, List.append_assoc])
 have HX : Hid (∀ k, k < L.length → Tx.ix (Tx.dict L) L k < (Tx.dict L).length) := Lib.hid fun k hk => Tx.ix_lt _ _ (fun t ht => (Tx.dict_mem L t).2 ht) k hk
 have HS : Hid (∀ a c k w, k < L.length → Tx.At w.heap.size w (.slice a (Tx.dict L).length c) (Tx.dict L) → Calls Tryz.prog 198 #[.slice a (Tx.dict L).length c, .string (Ty.S (L.getD k []))] w fun e w' => e = .returned (.tuple #[.int .i64 ((Tx.ix (Tx.dict L) L k : Nat) : Int), .bool true]) ∧ w' = w) := Lib.hid fun a c k w hk ha =>
  Tx.search_c _ (Tx.dict L) (L.getD k []) w ha hdl (Tx.dict_asc L) ((Tx.dict_mem L _).2 (by rw [List.getD, List.getElem?_eq_getElem hk]; exact List.getElem_mem _))
 have CU := Lib.hid (Tx.uses_c u L w (hL.mono hb (Nat.le_refl _)) hl h64)
 have CS := Lib.hid (fun (w : World) b n (hc : Tx.Counts b n w L) => Tx.sorted_c hc hl)
 have CW := Lib.hid (fun v bs u w h1 h2 h3 h4 h5 => Tx.writeStrings_c base v bs u (Tx.dict L) w h1 h2 h3 hG h4 hd64 h5 hdl)
 have HX64 : Hid (∀ i, Tx.ix (Tx.dict L) L i < 2 ^ 64) := Lib.hid fun i => by
  have : Tx.ix (Tx.dict L) L i ≤ (Tx.dict L).length := List.idxOf_le_length
  omega
 have HFL := Lib.hid (Tx.len_flat (Tx.dict L) hd64)
 have hmk := run_make_row' (P := Tryz.prog) 212 88 (.int .u64 0) 8 Tryz.underlying212 Bt.infoU rfl .i64 .i64 L.length (by omega) (by omega)
 have H0 := Lib.hid hown
 generalize Tx.ix (Tx.dict L) L = X at HE HX HS HX64
 rw [HE.out]
 generalize Tx.dict L = d at HE HX HS CS CW HFL hdl hd64 ⊢
 obtain ⟨a, c, rfl, hc, _, h⟩ := hL
 have HH := Lib.hid h
 obtain ⟨n, hnn⟩ : ∃ n, n = L.length := ⟨_, rfl⟩
 have HN := Lib.hid hnn
 rw [← hnn] at hl hc hmk HX HS CU ⊢
 have hu : Ty.U64 ((d.length : Int)).toNat := by unfold Ty.U64; omega
 have h9 := Ty.encU_len9 d.length
 have HU := Lib.hid hu
 have H9 := Lib.hid h9
 clear h h64 hnn hown hd64 HE hu h9
 go_enter Tryz.func176, Tryz.ntmps176
 go_wp2_with fail
 refine CU.out.mono ?_
 rintro e w1 ⟨rfl, hC, hb1⟩
 have HC := Lib.hid hC
 have HB1 := Lib.hid hb1
 clear hC hb1 CU
 go_wp2_with fail
 refine (Tx.keysOf_c _ _).mono ?_
 rintro e w2 ⟨rfl, rfl⟩
 go_wp2_with fail
 refine (CS.out _ _ _ HC.out).mono ?_
 rintro e w3 ⟨vd, rfl, hO, hb3⟩
 have HO := Lib.hid hO
 have HB3 := Lib.hid (HB1.out.trans (hb3.mono HB1.out.size))
 have hAt := hO.at
 clear hO hb3 CS HC
 obtain ⟨ad, cd, rfl, hcd, _, hd⟩ := hAt
 clear hd
 have hs3 := HB3.out.size
 go_wp2_with fail
 have hR : (w3.alloc (.cells (madeCells #[.int .u64 0] n) 88)).rowIs w3.heap.size 88 n (Bt.upTo 0 (Bt.nv X) (.int .u64 0)) := (World.rowIs_made w3 (.int .u64 0) n 88).congr fun i _ => by unfold Bt.upTo; rw [if_neg (by omega)]
 have hB : Below w3.heap.size w3 (w3.alloc (.cells (madeCells #[.int .u64 0] n) 88)) := (Below.refl _ _).alloc (Nat.le_refl _) _
 generalize w3.alloc (.cells (madeCells #[.int .u64 0] n) 88) = w4 at hR hB ⊢
 clear hmk
 generalize hg : w3.heap.size = g at hR hB
 have HGE := Lib.hid hg
 clear hg
 go_loopw [20] (fun i wr => ∃ k : Nat, k ≤ n ∧ i = .int .i64 k ∧ wr.rowIs g 88 n (Bt.upTo k (Bt.nv X) (.int .u64 0)) ∧ Below g w3 wr) (fun i _ => n - (intOf i).toNat)
 case atStart => exact ⟨0, by omega, rfl, hR, hB⟩
 case round =>
  obtain ⟨k, hk, rfl, hRk, hBk⟩ := hrel
  have HR := Lib.hid hRk
  have HBK := Lib.hid hBk
  clear hR hB hRk hBk
  have hge := HGE.out
  have hbw : Below w3.heap.size w3 wr := by rw [hge]; exact HBK.out
  have hO2 : Tx.Own w1.heap.size wr _ d := Bt.Buf.kept HO.out hbw
  have hA2 := hO2.at
  have hball := HB3.out.trans (hbw.mono hs3)
  have HBA := Lib.hid hball
  have hws := hball.size
  by_cases hl2 : k < n
  ·rcases HH.out with ⟨h, _⟩ | ⟨b, o, rfl, hlt, h⟩
   ·rw [HN.out, h] at hl2; simp at hl2
   ·have hcell : wr.cell? ⟨b, o + k, none⟩ = some (Tx.sv L k) := (hball.cell (p := ⟨b, o + k, none⟩) (show b < w.heap.size by omega)).trans (h k (by rw [← HN.out]; exact hl2))
    unfold Tx.sv at hcell
    have cs := HS.out ad cd k wr hl2 hA2
    have hxl := HX.out k hl2
    have HXK : Hid (X k = X k) := Lib.hid rfl
    have hkl : (k : Int) < (n : Int) := by omega
    have hk0 : (0 : Int) ≤ (k : Int) := by omega
    have hf := HR.out.frozen k
    have hcl := HR.out.cell hl2
    generalize Ty.S (L.getD k []) = s at hcell cs
    obtain ⟨x, hx⟩ : ∃ x, x = X k := ⟨_, rfl⟩
    rw [← hx] at cs hxl
    have HXE := Lib.hid hx
    clear h hx hball hbw hA2 hO2 hge HXK
    go_wp2_with fail
    refine cs.mono ?_
    rintro e w5 ⟨rfl, rfl⟩
    clear cs
    go_wp2
    go_roundw
    case rel => exact ⟨k + 1, by omega, by simp, Bt.upTo_next HR.out (by unfold Bt.nv; rw [← HXE.out]), HBK.out.trans (Bt.below_set (Nat.le_refl _) _)⟩
    case measure => simp [intOf]; omega
  ·obtain rfl : k = n := by omega
   have hkl : ¬ (k : Int) < (k : Int) := by omega
   have hown2 := H0.out.later hball
   have hT2 := hw.below hball (by omega)
   have HSL : Hid (Bt.Sl wr (.slice (some ⟨g, 0, none⟩) k k) k (Bt.nv X)) := Lib.hid (Bt.Sl.row (HR.out.congr fun i hi => by unfold Bt.upTo; rw [if_pos hi]))
   have HT := Lib.hid hT2
   have HO2 := Lib.hid hO2
   have cu := Ty.uint_c base v bs (d.length : Int) (by omega) HU.out wr hT2 hown2 (by omega) (by omega)
   clear hball hbw hA2 hO2 hge hown2 hT2
   go_wp2_with fail
   refine cu.mono ?_
   rintro e w5 ⟨v5, rfl, hB5, hG5⟩
   have hbs5 := hG5.by_.size
   have hb5 : Below base wr w5 := hG5.below (by omega) H0.out.base
   have HB5 := Lib.hid hB5
   have HG5 := Lib.hid hG5
   have HT5 := Lib.hid (HT.out.below hb5 hG)
   have hgw := HR.out.lt
   have e1 : ((d.length : Int)).toNat = d.length := Int.toNat_natCast _
   have hgv : some g ≠ v.ownBlock := fun e => by have := (H0.out.lt g e.symm).2; have := HGE.out; omega
   have hne : (Value.slice ad d.length cd).ownBlock = none ∨ (Value.slice ad d.length cd).ownBlock ≠ v.ownBlock := by
    cases hv : (Value.slice ad d.length cd).ownBlock with
    | none => exact .inl rfl
    | some q =>
      refine .inr fun e => ?_
      have h1 := Bt.Buf.base_le HO2.out q hv
      have h2 := (H0.out.lt q e.symm).2
      have h3 := HB1.out.size
      omega
   have cw := CW.out v5 _ (.slice ad d.length cd) w5 HT5.out HB5.out (by omega) (fun x w' hg => by
    have : Tx.Own w1.heap.size w' (.slice ad d.length cd) d := World.ownsRow.kept HO2.out (HG5.out.trans hg).by_ hne
    exact this.at) (by rw [e1, List.length_append]; have := H9.out; omega)
   clear cu hB5 hG5 hb5 hne
   go_wp2_with fail
   refine cw.mono ?_
   rintro e w6 ⟨v6, rfl, hB6, hG6⟩
   have hs6 := hG6.by_.size
   have hall := HG5.out.trans hG6
   have hsl6 := Pk.sl_kept HSL.out (hall.by_.block g hgw hgv) hall.by_.size
   have ca := Pk.append_c base v6 _ _ k X w6 hB6 (by omega) hsl6 HX64.out hl (by
    rw [e1]
    simp only [List.length_append]
    have h1 := H9.out
    have h2 := HFL.out
    omega)
   have HALL := Lib.hid hall
   clear cw hB6 hG6 hall hsl6 hgv hgw
   go_wp2_with fail
   refine ca.mono ?_
   rintro e w7 ⟨v7, rfl, hB7, hG7⟩
   have HB7 := Lib.hid hB7
   have HG7 := Lib.hid (Pk.grew_below (Ty.Grew.refl w v) HBA.out |>.trans (HALL.out.trans hG7))
   clear ca hB7 hG7
   go_wp2
   go_ret
   exact ⟨_, rfl, by have := HB7.out; rw [e1] at this; simpa [List.append_assoc] using this, HG7.out⟩
end Go.Proofs.YtbelkhkllneifaaGreatDoor

namespace Go.Proofs.YtbelkhkllneifaaGreatDoor
open Go.RowKit
open Ty (encU)
theorem Tx.At.stays {w : World} {v u : Value} {L : List Tx.Str} {base : Nat} (h : Tx.At base w u L) (hb : base ≤ w.heap.size) (hv : ∀ k, v.ownBlock = some k → base ≤ k) : ∀ x w', Ty.Grew w w' v x → Tx.At w'.heap.size w' u L := fun _ _ hg => by
 have g := hg.below hb hv
 exact (h.below g).mono (Nat.le_trans hb g.size) (Nat.le_refl _)
set_option maxHeartbeats 2000000 in
set_option maxRecDepth 100000 in
theorem Tx.with_good (u : Value) (L : List Tx.Str) (k : Nat) (hk : k ≤ 1) (w : World) (hw : Ty.Tabs w) (hL : Tx.At w.heap.size w u L) (hf : Tx.fit L = true) :
 Calls Tryz.prog 154 #[u, .int .i64 k] w fun e w' => e = .returned (.tuple #[.string (Ty.S (Tx.enc k L)), .int .i64 0]) ∧ Below w.heap.size w w' := by
 obtain ⟨hl, h64⟩ := Tx.fit_yes hf
 have ct := Tx.tooLong_c u L w hL (by omega)
 rw [hf] at ct
 have hG := hw.two
 have HE : Hid (Tx.enc k L = [UInt8.ofNat k] ++ encU L.length ++ Tx.body k L) := Lib.hid (by unfold Tx.enc; simp)
 have HL := Lib.hid hL
 have H64 := Lib.hid h64
 have hu : Ty.U64 ((L.length : Int)).toNat := by unfold Ty.U64; omega
 have h9 := Ty.encU_len9 L.length
 have H9 := Lib.hid h9
 obtain ⟨a, c, rfl, hc, _, h⟩ := hL
 clear h h9 hf h64
 rw [HE.out]
 rcases (by omega : k = 0 ∨ k = 1) with rfl | rfl
 all_goals
  go_enter Tryz.func154, Tryz.ntmps154
  go_wp2_with fail
  refine ct.mono ?_
  rintro e w1 ⟨rfl, rfl⟩
  have cU := fun wz X h1 h2 h3 => Ty.uint_c w1.heap.size (.slice (some ⟨w1.heap.size, 0, none⟩) 1 1) [X] (L.length : Int) (by omega) hu wz h1 h2 h3 (by simp)
  have hT2 : ∀ o, Ty.Tabs (w1.alloc o) := fun o => hw.alloc o
  have hBf : ∀ K : Nat, K < 256 → Ty.Buf w1.heap.size (w1.alloc (.cells #[.int .u8 (K : Int)] 5)) (.slice (some ⟨w1.heap.size, 0, none⟩) 1 1) [UInt8.ofNat K] := fun K hK => Tx.buf_one K hK (Nat.le_refl _)
  have HT2 := Lib.hid hT2
  have HBf := Lib.hid hBf
  have hab : ∀ o, Below w1.heap.size w1 (w1.alloc o) := fun o => (Below.refl _ _).alloc (Nat.le_refl _) o
  have HAB := Lib.hid hab
  have CU := Lib.hid cU
  clear cU hT2 hBf hab hu ct
  go_wp2_with fail
  first
   | refine (CU.out _ _ (HT2.out _) (HBf.out 0 (by decide)) (by simp)).mono ?_
   | refine (CU.out _ _ (HT2.out _) (HBf.out 1 (by decide)) (by simp)).mono ?_
  rintro e w2 ⟨v2, rfl, hB2, hG2⟩
  have hb2 := (HAB.out _).trans (hG2.below (B := w1.heap.size) (by simp) (by intro j hj; have : w1.heap.size = j := (by simpa [Value.ownBlock] using hj); omega))
  have hs2 := hb2.size
  have hT2 := hw.below hb2 hG
  have HB2 := Lib.hid hB2
  have hL2 := HL.out.below hb2
  have hln : ∀ K : UInt8, ([K] ++ encU ((L.length : Int)).toNat).length ≤ 80 := fun K => by
   have h1 := H9.out
   have e1 : ((L.length : Int)).toNat = L.length := Int.toNat_natCast _
   rw [e1, List.length_append, List.length_singleton]
   omega
  have HLN := Lib.hid hln
  have HB := Lib.hid hb2
  clear hB2 hG2 CU HT2 HBf HAB hb2 hln
  go_wp2_with fail
  first
   | refine (Tx.writeStrings_c w1.heap.size v2 _ _ L w2 hT2 HB2.out hs2 hG (hL2.stays hs2 HB2.out.base) H64.out (Nat.le_trans (HLN.out _) (by decide)) hl).mono ?_
   | refine (Tx.writeDictionary_c w1.heap.size v2 _ _ L w2 hT2 HB2.out hs2 hG hL2 H64.out (HLN.out _) hl).mono ?_
  rintro e w4 ⟨v4, rfl, hB4, hG4⟩
  have hb4 := HB.out.trans (hG4.below hs2 HB2.out.base)
  have hcv := hB4.str
  clear hB4 hG4 hL2 hT2
  go_wp2
  go_ret2
  exact ⟨by first | rfl | simp [Tx.body], hb4⟩
set_option maxHeartbeats 1000000 in
set_option maxRecDepth 100000 in
theorem Tx.with_c (u : Value) (L : List Tx.Str) (z : Int) (w : World) (hw : Ty.Tabs w) (hL : Tx.At w.heap.size w u L) (hl : L.length ≤ 140737488355328) :
 Calls Tryz.prog 154 #[u, .int .i64 z] w fun e w' => e = .returned (Tx.withV L z) ∧ Below w.heap.size w w' := by
 by_cases hz : 0 ≤ z ∧ z ≤ 1
 ·cases hf : Tx.fit L
  ·rw [Tx.withV_long hz hf]
   have ct := Tx.tooLong_c u L w hL hl
   rw [hf] at ct
   obtain ⟨h0, h1⟩ := hz
   have h2 : ¬ z < 0 := by omega
   have h3 : ¬ (2 : Int) ≤ z := by omega
   obtain ⟨a, c, rfl, hc, _, h⟩ := hL
   clear h hf
   go_enter Tryz.func154, Tryz.ntmps154
   go_wp2_with fail
   refine ct.mono ?_
   rintro e w1 ⟨rfl, rfl⟩
   go_wp2
   go_ret2
   exact ⟨rfl, Below.refl _ _⟩
  ·obtain ⟨k, rfl⟩ := Int.eq_ofNat_of_zero_le hz.1
   rw [Tx.withV_good (by omega) hf]
   exact Tx.with_good u L k (by omega) w hw hL hf
 ·rw [Tx.withV_bad hz]
  obtain ⟨a, c, rfl, hc, _, h⟩ := hL
  clear h
  by_cases h0 : z < 0
  ·clear hz
   go_enter Tryz.func154, Tryz.ntmps154
   go_wp2
   go_ret2
   exact ⟨rfl, Below.refl _ _⟩
  ·have h4 : (2 : Int) ≤ z := by omega
   clear hz
   go_enter Tryz.func154, Tryz.ntmps154
   go_wp2
   go_ret2
   exact ⟨rfl, Below.refl _ _⟩
set_option maxHeartbeats 1000000 in
set_option maxRecDepth 100000 in
theorem Tx.best_c (u : Value) (L : List Tx.Str) (w : World) (hw : Ty.Tabs w) (hL : Tx.At w.heap.size w u L) (hl : L.length ≤ 140737488355328) :
 Calls Tryz.prog 143 #[u] w fun e w' => e = .returned (Tx.bestV L) ∧ Below w.heap.size w w' := by
 have hG := hw.two
 have c0 := Tx.with_c u L 0 w hw hL hl
 have c1 : ∀ wz, Below w.heap.size w wz → Calls Tryz.prog 154 #[u, .int .i64 1] wz fun e w' => e = .returned (Tx.withV L 1) ∧ Below w.heap.size w w' := fun wz g =>
  (Tx.with_c u L 1 wz (hw.below g hG) ((hL.below g).mono g.size (Nat.le_refl _)) hl).mono fun e w' ⟨he, hg⟩ => ⟨he, g.trans (hg.mono g.size)⟩
 cases hf : Tx.fit L
 ·rw [Tx.withV_long (by omega) hf] at c0
  have HV : Hid (Tx.bestV L = .tuple #[.string (Ty.S []), .int .i64 3]) := Lib.hid (by unfold Tx.bestV; rw [hf]; rfl)
  rw [HV.out]
  clear hf c1 hL hl
  go_enter Tryz.func143, Tryz.ntmps143
  go_wp2_with fail
  refine c0.mono ?_
  rintro e w1 ⟨rfl, g1⟩
  clear c0
  go_wp2
  go_ret2
  exact ⟨rfl, g1⟩
 ·have v0 : Tx.withV L 0 = .tuple #[.string (Ty.S (Tx.enc 0 L)), .int .i64 0] := Tx.withV_good (k := 0) (by omega) hf
  have v1 : Tx.withV L 1 = .tuple #[.string (Ty.S (Tx.enc 1 L)), .int .i64 0] := Tx.withV_good (k := 1) (by omega) hf
  rw [v0] at c0
  rw [v1] at c1
  have HV : Hid (Tx.bestV L = .tuple #[.string (Ty.S (Tx.enc (Tx.bestK L) L)), .int .i64 0]) := Lib.hid (by unfold Tx.bestV; rw [if_pos hf])
  rw [HV.out]
  clear hf v0 v1 hL hl
  have hb : (Tx.bestK L = 1 ∧ ((Ty.S (Tx.enc 1 L)).size : Int) < ((Ty.S (Tx.enc 0 L)).size : Int)) ∨ (Tx.bestK L = 0 ∧ ¬ ((Ty.S (Tx.enc 1 L)).size : Int) < ((Ty.S (Tx.enc 0 L)).size : Int)) := by
   unfold Tx.bestK
   rw [Ty.size_S, Ty.size_S]
   by_cases h : (Tx.enc 1 L).length < (Tx.enc 0 L).length
   ·exact .inl ⟨by rw [if_pos h], by omega⟩
   ·exact .inr ⟨by rw [if_neg h], by omega⟩
  rcases hb with ⟨hk, hlt⟩ | ⟨hk, hlt⟩
  all_goals
   rw [hk]
   generalize Ty.S (Tx.enc 0 L) = s0 at c0 hlt ⊢
   generalize Ty.S (Tx.enc 1 L) = s1 at c1 hlt ⊢
   clear hk
   go_enter Tryz.func143, Tryz.ntmps143
   go_wp2_with fail
   refine c0.mono ?_
   rintro e w1 ⟨rfl, g1⟩
   have c2 := c1 w1 g1
   clear c0 c1 g1
   go_wp2_with fail
   refine c2.mono ?_
   rintro e w2 ⟨rfl, g2⟩
   clear c2
   go_wp2
   go_ret2
   exact ⟨rfl, g2⟩
end Go.Proofs.YtbelkhkllneifaaGreatDoor

namespace Go.Proofs.YtbelkhkllneifaaGreatDoor
open Go.RowKit
theorem Cl.iv_at {w : World} {g n : Nat} {L : List Int} (h : w.rowIs g 2 n (Bt.upTo n (Ig.iv L) (.int .i64 0))) (hL : L.length = n) : Ig.At w.heap.size w (.slice (some ⟨g, 0, none⟩) (n : Nat) n) L := by
 subst hL
 refine ⟨_, L.length, rfl, Nat.le_refl _, Nat.le_refl _, .inr ⟨g, 0, rfl, World.rowIs.lt h, fun i hi => ?_⟩⟩
 rw [Nat.zero_add, World.rowIs.cell h hi]
 unfold Bt.upTo
 rw [if_pos hi]
 rfl
theorem Cl.sv_at {w : World} {g n : Nat} {L : List Tx.Str} (h : w.rowIs g 9 n (Bt.upTo n (Tx.sv L) (.string ⟨#[]⟩))) (hL : L.length = n) : Tx.At w.heap.size w (.slice (some ⟨g, 0, none⟩) (n : Nat) n) L := by
 subst hL
 refine ⟨_, L.length, rfl, Nat.le_refl _, Nat.le_refl _, .inr ⟨g, 0, rfl, World.rowIs.lt h, fun i hi => ?_⟩⟩
 rw [Nat.zero_add, World.rowIs.cell h hi]
 unfold Bt.upTo
 rw [if_pos hi]
theorem Cl.n_at {M : List Kn.V} {k : Nat} {x : Kn.V} (h : M[k]? = some x) : Ig.iv (M.map fun v => v.n) k = .int .i64 x.n := by
 unfold Ig.iv Ig.nth
 rw [List.getD, List.getElem?_map, h]
 rfl
theorem Cl.s_at {M : List Kn.V} {k : Nat} {x : Kn.V} (h : M[k]? = some x) : Tx.sv (M.map fun v => v.s.data.toList) k = .string x.s := by
 unfold Tx.sv
 rw [List.getD, List.getElem?_map, h]
 show Value.string (Ty.S x.s.data.toList) = _
 rw [Ty.S_data]
set_option maxHeartbeats 2000000 in
set_option maxRecDepth 100000 in
theorem Cl.writePresent_n (u : Value) (M : List Kn.V) (w : World) (hw : Ty.Tabs w) (hu : Kn.Vals w u M) (hl : M.length ≤ 65536) (hi : ∀ v ∈ M, Ty.I64 v.n) :
 Calls Tryz.prog 127 #[.int .i64 1, u] w fun e w' => e = .returned (.string (Ty.S (Cl.pv 1 M))) ∧ Below w.heap.size w w' := by
 have hmk := run_make_row' (P := Tryz.prog) 187 2 (.int .i64 0) 8 Tryz.underlying187 Ig.infoI rfl .i64 .i64 M.length (by omega) (by omega)
 have CB : Hid (∀ (v : Value) (wz : World), Ty.Tabs wz → Ig.At wz.heap.size wz v (M.map fun v => v.n) → Calls Tryz.prog 144 #[v] wz fun e w' => e = .returned (.tuple #[.string (Ty.S (Cl.pv 1 M)), .int .i64 0]) ∧ Below wz.heap.size wz w') := Lib.hid fun v wz hT hA => by
  have := Ig.best_c v _ wz hT hA (fun x hx => by obtain ⟨y, hy, rfl⟩ := List.mem_map.1 hx; exact hi y hy) (by rw [List.length_map]; omega)
  rwa [Ig.bestV_good (by rw [List.length_map]; omega)] at this
 have HT := Lib.hid hw
 obtain ⟨a, cp, rfl, h⟩ := hu
 have HH := Lib.hid h
 have HFV := Lib.hid fun (k : Nat) (x : Kn.V) (h : M[k]? = some x) => Cl.n_at (M := M) h
 have HLM : Hid ((M.map fun v => v.n).length = M.length) := Lib.hid (List.length_map _)
 generalize Ty.S (Cl.pv 1 M) = S at CB ⊢
 generalize (M.map fun v => v.n) = L at CB HFV HLM
 clear h hw hi
 have hl3 : (M.length : Int) ≤ 65536 := by omega
 clear hl
 go_enter Tryz.func127, Tryz.ntmps127
 go_wp2_with fail
 have hR : (w.alloc (.cells (madeCells #[.int .i64 0] M.length) 2)).rowIs w.heap.size 2 M.length (Bt.upTo 0 (Ig.iv L) (.int .i64 0)) := (World.rowIs_made w (.int .i64 0) M.length 2).congr fun i _ => by unfold Bt.upTo; rw [if_neg (by omega)]
 have hB : Below w.heap.size w (w.alloc (.cells (madeCells #[.int .i64 0] M.length) 2)) := (Below.refl _ _).alloc (Nat.le_refl _) _
 generalize w.alloc (.cells (madeCells #[.int .i64 0] M.length) 2) = w2 at hR hB ⊢
 clear hmk
 obtain ⟨g, hg⟩ : ∃ g, g = w.heap.size := ⟨_, rfl⟩
 rw [← hg] at hR hB ⊢
 have HGE := Lib.hid hg
 clear hg
 go_loopw [44] (fun i wr => ∃ k : Nat, k ≤ M.length ∧ i = .int .i64 k ∧ wr.rowIs g 2 M.length (Bt.upTo k (Ig.iv L) (.int .i64 0)) ∧ Below g w wr) (fun i _ => M.length - (intOf i).toNat)
 case atStart => exact ⟨0, by omega, rfl, hR, hB⟩
 case round =>
  obtain ⟨k, hk, rfl, hRk, hBk⟩ := hrel
  have HR := Lib.hid hRk
  have HB := Lib.hid hBk
  clear hR hB hRk hBk
  by_cases hlk : k < M.length
  ·rcases HH.out with h | ⟨b, o, rfl, hbl, hm, h⟩
   ·exact absurd hlk (by rw [h]; simp)
   ·obtain ⟨x, hx⟩ : ∃ x, M[k]? = some x := ⟨_, List.getElem?_eq_getElem hlk⟩
    have hblg : b < g := by rw [HGE.out]; exact hbl
    have hA := h k x hx
    have HU := Lib.hid (HFV.out k x hx).symm
    have a0 := (HB.out.cell (p := ⟨b, o + k * 3, none⟩) hblg).trans hA.c0
    have a1 := (HB.out.cell (p := ⟨b, o + k * 3 + 1, none⟩) hblg).trans hA.c1
    have a2 := (HB.out.cell (p := ⟨b, o + k * 3 + 2, none⟩) hblg).trans hA.c2
    have hkl : (k : Int) < (M.length : Int) := by omega
    have hk0 : (0 : Int) ≤ (k : Int) := by omega
    have hcl := HR.out.cell hlk
    have hf := HR.out.frozen k
    have hgl : g < wr.heap.size := HR.out.lt
    clear h hx hA hm
    go_wp2
    go_roundw
    case rel => exact ⟨k + 1, by omega, by simp, World.rowIs.alloc (Bt.upTo_next HR.out HU.out) _, (HB.out.trans (Bt.below_set (Nat.le_refl _) _)).alloc (Nat.le_of_lt (World.rowIs.lt (Bt.upTo_next HR.out HU.out))) _⟩
    case measure => simp [intOf]; omega
  ·obtain rfl : k = M.length := by omega
   have hkl : ¬ (M.length : Int) < (M.length : Int) := by omega
   have hbb := HB.out
   rw [HGE.out] at hbb
   have cb := CB.out _ wr (HT.out.below hbb HT.out.two) (Cl.iv_at HR.out HLM.out)
   have HBB := Lib.hid hbb
   clear hbb
   go_wp2_with fail
   refine cb.mono ?_
   rintro e w3 ⟨rfl, g3⟩
   have HB3 := Lib.hid (HBB.out.trans (g3.mono HBB.out.size))
   clear cb g3
   go_wp2
   go_ret
   exact ⟨rfl, HB3.out⟩
set_option maxHeartbeats 2000000 in
set_option maxRecDepth 100000 in
theorem Cl.writePresent_s (u : Value) (M : List Kn.V) (w : World) (hw : Ty.Tabs w) (hu : Kn.Vals w u M) (hl : M.length ≤ 65536) (hf : Tx.fit (M.map fun v => v.s.data.toList) = true) :
 Calls Tryz.prog 127 #[.int .i64 2, u] w fun e w' => e = .returned (.string (Ty.S (Cl.pv 2 M))) ∧ Below w.heap.size w w' := by
 have hmk := run_make_row' (P := Tryz.prog) 111 9 (.string ⟨#[]⟩) 16 Tryz.underlying111 Tx.infoS rfl .i64 .i64 M.length (by omega) (by omega)
 have CB : Hid (∀ (v : Value) (wz : World), Ty.Tabs wz → Tx.At wz.heap.size wz v (M.map fun v => v.s.data.toList) → Calls Tryz.prog 143 #[v] wz fun e w' => e = .returned (.tuple #[.string (Ty.S (Cl.pv 2 M)), .int .i64 0]) ∧ Below wz.heap.size wz w') := Lib.hid fun v wz hT hA => by
  have := Tx.best_c v _ wz hT hA (by rw [List.length_map]; omega)
  unfold Tx.bestV at this
  rwa [if_pos hf] at this
 have HT := Lib.hid hw
 obtain ⟨a, cp, rfl, h⟩ := hu
 have HH := Lib.hid h
 have HFV := Lib.hid fun (k : Nat) (x : Kn.V) (h : M[k]? = some x) => Cl.s_at (M := M) h
 have HLM : Hid ((M.map fun v => v.s.data.toList).length = M.length) := Lib.hid (List.length_map _)
 generalize Ty.S (Cl.pv 2 M) = S at CB ⊢
 generalize (M.map fun v => v.s.data.toList) = L at CB HFV HLM
 clear h hw hf
 have hl3 : (M.length : Int) ≤ 65536 := by omega
 clear hl
 go_enter Tryz.func127, Tryz.ntmps127
 go_wp2_with fail
 have hR : (w.alloc (.cells (madeCells #[.string ⟨#[]⟩] M.length) 9)).rowIs w.heap.size 9 M.length (Bt.upTo 0 (Tx.sv L) (.string ⟨#[]⟩)) := (World.rowIs_made w (.string ⟨#[]⟩) M.length 9).congr fun i _ => by unfold Bt.upTo; rw [if_neg (by omega)]
 have hB : Below w.heap.size w (w.alloc (.cells (madeCells #[.string ⟨#[]⟩] M.length) 9)) := (Below.refl _ _).alloc (Nat.le_refl _) _
 generalize w.alloc (.cells (madeCells #[.string ⟨#[]⟩] M.length) 9) = w2 at hR hB ⊢
 clear hmk
 obtain ⟨g, hg⟩ : ∃ g, g = w.heap.size := ⟨_, rfl⟩
 rw [← hg] at hR hB ⊢
 have HGE := Lib.hid hg
 clear hg
 go_loopw [22] (fun i wr => ∃ k : Nat, k ≤ M.length ∧ i = .int .i64 k ∧ wr.rowIs g 9 M.length (Bt.upTo k (Tx.sv L) (.string ⟨#[]⟩)) ∧ Below g w wr) (fun i _ => M.length - (intOf i).toNat)
 case atStart => exact ⟨0, by omega, rfl, hR, hB⟩
 case round =>
  obtain ⟨k, hk, rfl, hRk, hBk⟩ := hrel
  have HR := Lib.hid hRk
  have HB := Lib.hid hBk
  clear hR hB hRk hBk
  by_cases hlk : k < M.length
  ·rcases HH.out with h | ⟨b, o, rfl, hbl, hm, h⟩
   ·exact absurd hlk (by rw [h]; simp)
   ·obtain ⟨x, hx⟩ : ∃ x, M[k]? = some x := ⟨_, List.getElem?_eq_getElem hlk⟩
    have hblg : b < g := by rw [HGE.out]; exact hbl
    have hA := h k x hx
    have HU := Lib.hid (HFV.out k x hx).symm
    have a0 := (HB.out.cell (p := ⟨b, o + k * 3, none⟩) hblg).trans hA.c0
    have a1 := (HB.out.cell (p := ⟨b, o + k * 3 + 1, none⟩) hblg).trans hA.c1
    have a2 := (HB.out.cell (p := ⟨b, o + k * 3 + 2, none⟩) hblg).trans hA.c2
    have hkl : (k : Int) < (M.length : Int) := by omega
    have hk0 : (0 : Int) ≤ (k : Int) := by omega
    have hcl := HR.out.cell hlk
    have hf := HR.out.frozen k
    have hgl : g < wr.heap.size := HR.out.lt
    clear h hx hA hm
    go_wp2
    go_roundw
    case rel => exact ⟨k + 1, by omega, by simp, World.rowIs.alloc (Bt.upTo_next HR.out HU.out) _, (HB.out.trans (Bt.below_set (Nat.le_refl _) _)).alloc (Nat.le_of_lt (World.rowIs.lt (Bt.upTo_next HR.out HU.out))) _⟩
    case measure => simp [intOf]; omega
  ·obtain rfl : k = M.length := by omega
   have hkl : ¬ (M.length : Int) < (M.length : Int) := by omega
   have hbb := HB.out
   rw [HGE.out] at hbb
   have cb := CB.out _ wr (HT.out.below hbb HT.out.two) (Cl.sv_at HR.out HLM.out)
   have HBB := Lib.hid hbb
   clear hbb
   go_wp2_with fail
   refine cb.mono ?_
   rintro e w3 ⟨rfl, g3⟩
   have HB3 := Lib.hid (HBB.out.trans (g3.mono HBB.out.size))
   clear cb g3
   go_wp2
   go_ret
   exact ⟨rfl, HB3.out⟩
theorem Cl.writePresent_c (k : Int) (u : Value) (M : List Kn.V) (w : World) (hw : Ty.Tabs w) (hu : Kn.Vals w u M) (hl : M.length ≤ 65536) (hi : ∀ v ∈ M, Ty.I64 v.n) (hk : k = 1 ∨ k = 2) (hf : k = 2 → Tx.fit (M.map fun v => v.s.data.toList) = true) :
 Calls Tryz.prog 127 #[.int .i64 k, u] w fun e w' => e = .returned (.string (Ty.S (Cl.pv k M))) ∧ Below w.heap.size w w' := by
 rcases hk with rfl | rfl
 ·exact Cl.writePresent_n u M w hw hu hl hi
 ·exact Cl.writePresent_s u M w hw hu hl (hf rfl)
end Go.Proofs.YtbelkhkllneifaaGreatDoor

namespace Go.Proofs.YtbelkhkllneifaaGreatDoor
open Go.RowKit
open Ty (encU num txt)
open Ig (rest)
open Tx (restT rdWords rdPick)
theorem Tx.cuint_m (b : Nat) (l : List UInt8) (w : World) (hw : Ty.Tabs w) (h : Ty.Cur b w l 0) (hl : l.length ≤ 9223372036854775807) :
 Calls Tryz.prog 149 #[.pointer (some ⟨b, 0, none⟩)] w (Ty.Left b w (.int .u64 ((num l).1 : Int)) (rest l) (num l).2.2) := by
 have e : Ty.rdU l 0 = ((num l).1, rest l, (num l).2.2) := by unfold Ty.rdU; rw [if_neg (by omega)]; rfl
 have := Ty.cuint_c b l 0 w hw h hl
 rw [e] at this
 exact this
theorem Tx.ctext_m (b : Nat) (l : List UInt8) (w : World) (hw : Ty.Tabs w) (h : Ty.Cur b w l 0) (hl : l.length ≤ 9223372036854775807) :
 Calls Tryz.prog 153 #[.pointer (some ⟨b, 0, none⟩), .int .i64 64] w (Ty.Left b w (.string (Ty.S (txt l 64).1)) (restT l) (txt l 64).2.2) := by
 have e : Ty.rdT 64 l 0 = ((txt l 64).1, restT l, (txt l 64).2.2) := by unfold Ty.rdT; rw [if_neg (by omega)]; rfl
 have := Ty.ctext_c b l 0 64 (by omega) w hw h hl
 rw [e] at this
 exact this
theorem Tx.rest_le (l : List UInt8) : (rest l).length ≤ l.length := by unfold rest; rw [List.length_drop]; omega
theorem Tx.restT_le (l : List UInt8) : (restT l).length ≤ l.length := by unfold restT; rw [List.length_drop]; omega
def Tx.cntE (l : List UInt8) : Nat := if (num l).2.2 ≠ 0 then (num l).2.2 else if 65536 < (num l).1 then 3 else 0
set_option maxRecDepth 100000 in
set_option maxHeartbeats 1000000 in
theorem Tx.readCount_c (b : Nat) (l : List UInt8) (w : World) (hw : Ty.Tabs w) (h : Ty.Cur b w l 0) (hl : l.length ≤ 140737488355328) :
 Calls Tryz.prog 204 #[.pointer (some ⟨b, 0, none⟩)] w fun e w' => ∃ n : Nat, e = .returned (.tuple #[.int .i64 (n : Int), .int .i64 ((Tx.cntE l : Nat) : Int)]) ∧ (Tx.cntE l = 0 → n = (num l).1 ∧ n ≤ 65536 ∧ Ty.Cur b w' (rest l) 0) ∧ w.grownBy w' (some b) := by
 have cu := Tx.cuint_m b l w hw h (by omega)
 by_cases he : (num l).2.2 = 0
 ·rw [he] at cu
  by_cases hn : 65536 < (num l).1
  ·have HE : Hid (Tx.cntE l = 3) := Lib.hid (by unfold Tx.cntE; rw [if_neg (by rw [he]; simp), if_pos hn])
   rw [HE.out]
   have hni : (65536 : Int) < ((num l).1 : Int) := by omega
   generalize (num l).1 = x at cu hni
   clear he h hn
   go_enter Tryz.func204, Tryz.ntmps204
   go_wp2_with fail
   refine cu.mono ?_
   rintro e w3 ⟨rfl, hc3, hg3⟩
   have HC3 := Lib.hid hc3
   have HG3 := Lib.hid hg3
   clear cu hc3 hg3
   go_wp2_with fail
   refine (Ty.err_c b _ 0 _ HC3.out).mono ?_
   rintro e w4 ⟨rfl, rfl⟩
   go_wp2
   go_ret2
   exact ⟨0, rfl, fun e => absurd e (by decide), HG3.out⟩
  ·have HE : Hid (Tx.cntE l = 0) := Lib.hid (by unfold Tx.cntE; rw [if_neg (by rw [he]; simp), if_neg hn])
   rw [HE.out]
   have hni : ¬ (65536 : Int) < ((num l).1 : Int) := by omega
   have HX : Hid ((num l).1 ≤ 65536) := Lib.hid (by omega)
   generalize (num l).1 = x at cu hni HX ⊢
   have hx0 : (0 : Int) ≤ (x : Int) := by omega
   clear he h hn
   go_enter Tryz.func204, Tryz.ntmps204
   go_wp2_with fail
   refine cu.mono ?_
   rintro e w3 ⟨rfl, hc3, hg3⟩
   have HC3 := Lib.hid hc3
   have HG3 := Lib.hid hg3
   clear cu hc3 hg3
   go_wp2_with fail
   refine (Ty.err_c b _ 0 _ HC3.out).mono ?_
   rintro e w4 ⟨rfl, rfl⟩
   go_wp2
   go_ret2
   exact ⟨x, rfl, fun _ => ⟨rfl, HX.out, HC3.out⟩, HG3.out⟩
 ·have HE : Hid (Tx.cntE l = (num l).2.2) := Lib.hid (by unfold Tx.cntE; rw [if_pos he])
  rw [HE.out]
  generalize (num l).2.2 = q at cu he ⊢
  have hne : ((q : Int) != 0) = true := by rw [bne_iff_ne]; omega
  have HQ := Lib.hid he
  clear he h
  go_enter Tryz.func204, Tryz.ntmps204
  go_wp2_with fail
  refine cu.mono ?_
  rintro e w3 ⟨rfl, hc3, hg3⟩
  have HC3 := Lib.hid hc3
  have HG3 := Lib.hid hg3
  clear cu hc3 hg3
  go_wp2_with fail
  refine (Ty.err_c b _ q _ HC3.out).mono ?_
  rintro e w4 ⟨rfl, rfl⟩
  go_wp2_with fail
  refine (Ty.err_c b _ q _ HC3.out).mono ?_
  rintro e w4 ⟨rfl, rfl⟩
  go_wp2
  go_ret2
  exact ⟨0, rfl, fun e => absurd e HQ.out, HG3.out⟩
set_option maxRecDepth 100000 in
set_option maxHeartbeats 1000000 in
theorem Tx.readCount_bad (b q : Nat) (l : List UInt8) (w : World) (hw : Ty.Tabs w) (h : Ty.Cur b w l q) (hq : q ≠ 0) (hl : l.length ≤ 140737488355328) :
 Calls Tryz.prog 204 #[.pointer (some ⟨b, 0, none⟩)] w fun e w' => e = .returned (.tuple #[.int .i64 0, .int .i64 (q : Int)]) ∧ w.grownBy w' (some b) := by
 have cu := Ty.cuint_c b l q w hw h (by omega)
 have e1 : Ty.rdU l q = (0, l, q) := by unfold Ty.rdU; rw [if_pos hq]
 rw [e1] at cu
 have hne : ((q : Int) != 0) = true := by rw [bne_iff_ne]; omega
 clear e1 h hq
 go_enter Tryz.func204, Tryz.ntmps204
 go_wp2_with fail
 refine cu.mono ?_
 rintro e w3 ⟨rfl, hc3, hg3⟩
 have HC3 := Lib.hid hc3
 have HG3 := Lib.hid hg3
 clear cu hc3 hg3
 go_wp2_with fail
 refine (Ty.err_c b _ q _ HC3.out).mono ?_
 rintro e w4 ⟨rfl, rfl⟩
 go_wp2_with fail
 refine (Ty.err_c b _ q _ HC3.out).mono ?_
 rintro e w4 ⟨rfl, rfl⟩
 go_wp2
 go_ret2
 exact ⟨rfl, HG3.out⟩
def Tx.Rd (b : Nat) (w : World) (r : Nat × List Tx.Str × List UInt8) (e : Ending) (w' : World) : Prop :=
 ∃ v, e = .returned (.tuple #[v, .int .i64 ((r.1 : Nat) : Int)]) ∧ Tx.Own w.heap.size w' v (if r.1 = 0 then r.2.1 else []) ∧ (r.1 = 0 → Ty.Cur b w' r.2.2 0) ∧ w.grownBy w' (some b)
theorem Tx.Rd.bad {b : Nat} {w w' : World} {r : Nat × List Tx.Str × List UInt8} {z : Int} (hz : z = ((r.1 : Nat) : Int)) (h : r.1 ≠ 0) (g : w.grownBy w' (some b)) : Tx.Rd b w r (.returned (.tuple #[.slice none 0 0, .int .i64 z])) w' :=
 ⟨_, by rw [hz], by rw [if_neg h]; exact Tx.Own.nil _ _, fun e => absurd e h, g⟩
theorem Tx.Rd.good {b : Nat} {w w' : World} {r : Nat × List Tx.Str × List UInt8} {v : Value} (h : r.1 = 0) (ho : Tx.Own w.heap.size w' v r.2.1) (hc : Ty.Cur b w' r.2.2 0) (g : w.grownBy w' (some b)) : Tx.Rd b w r (.returned (.tuple #[v, .int .i64 0])) w' :=
 ⟨_, by rw [h]; rfl, by rw [if_pos h]; exact ho, fun _ => hc, g⟩
theorem Tx.le_not (q x : Tx.Str) : (Tx.lt q x = true ∧ Op.bytesLess (Ty.S x).toList (Ty.S q).toList = false ∧ ((Ty.S x).toList == (Ty.S q).toList) = false) ∨ (Tx.lt q x = false ∧ Op.bytesLess (Ty.S x).toList (Ty.S q).toList = true ∧ ((Ty.S x).toList == (Ty.S q).toList) = false) ∨ (Tx.lt q x = false ∧ Op.bytesLess (Ty.S x).toList (Ty.S q).toList = false ∧ ((Ty.S x).toList == (Ty.S q).toList) = true) := by
 rw [Tx.S_toList, Tx.S_toList]
 rcases Kn.bl_total q x with h | h | h
 ·exact .inl ⟨h, (Kn.bl_ne h).1, by rw [beq_eq_false_iff_ne]; exact fun e => (Kn.bl_ne h).2 e.symm⟩
 ·subst h
  exact .inr (.inr ⟨Kn.bl_irrefl q, Kn.bl_irrefl q, by rw [beq_iff_eq]⟩)
 ·exact .inr (.inl ⟨(Kn.bl_ne h).1, h, by rw [beq_eq_false_iff_ne]; exact (Kn.bl_ne h).2⟩)
set_option maxHeartbeats 4000000 in
set_option maxRecDepth 100000 in
theorem Tx.readStrings_c (b n : Nat) (l : List UInt8) (ord : Bool) (w : World) (hw : Ty.Tabs w) (hG : Ty.G ≤ b) (h : Ty.Cur b w l 0) (hl : l.length ≤ 140737488355328) (hn : n ≤ 65536) :
 Calls Tryz.prog 218 #[.pointer (some ⟨b, 0, none⟩), .int .i64 n, .bool ord] w (Tx.Rd b w (rdWords ord n none l)) := by
 obtain ⟨i0, hi0, hz0, hz1, hz2⟩ := info_parts Tx.infoS
 have hbw := h.lt
 have hmk : ∀ m : Nat, m ≤ 65536 → ∃ w2, (Instr.makeSlice 111 (.int .i64 0) (.int .i64 (m : Int))).run Tryz.prog w = .ok (.slice (some ⟨w.heap.size, 0, none⟩) 0 m) w2 ∧ w2.ownsRow w.heap.size 9 1 (.slice (some ⟨w.heap.size, 0, none⟩) 0 m) 0 [] ∧ w.grownBy w2 none := fun m hm =>
  run_make_own w w.heap.size 111 9 i0 _ 1 Tryz.underlying111 hi0 hz0 hz1 .i64 .i64 m (by rw [hz2]; omega) (by unfold maxLen; omega) (Nat.le_refl _)
 have HM0 := Lib.hid (Tx.MidW.start ord n l)
 clear hi0 hz0 hz1 hz2
 by_cases hle : (n : Int) ≤ (l.length : Int)
 all_goals
  go_enter Tryz.func218, Tryz.ntmps218
  go_wp2_with fail
  refine (Ty.left_c b l 0 _ h).mono ?_
  rintro e w1 ⟨rfl, rfl⟩
  first
   | (have hm2 : n ≤ l.length := by omega
      have hmin : min (n : Int) (l.length : Int) = (n : Int) := Int.min_eq_left hle
      obtain ⟨w2, hmr, hown, hg2⟩ := hmk n hn)
   | (have hmin : min (n : Int) (l.length : Int) = (l.length : Int) := Int.min_eq_right (by omega)
      obtain ⟨w2, hmr, hown, hg2⟩ := hmk l.length (by omega))
  have hc2 := h.none_ hg2
  have H2 := Lib.hid hown
  have hgb := Pk.by_some hg2 b
  clear hmk hown
  go_wp2_with fail
  go_loopw [8, 17] (fun lv i wr => ∃ M l2, i = .int .i64 ((M.length : Nat) : Int) ∧ Tx.MidW ord n l M l2 ∧ l2.length ≤ l.length ∧ Tx.Own w1.heap.size wr lv M ∧ Ty.Cur b wr l2 0 ∧ w1.grownBy wr (some b) ∧ ∀ t ∈ M, t.length ≤ 64) (fun _ i _ => n - (intOf i).toNat)
  case atStart => exact ⟨[], l, rfl, HM0.out, Nat.le_refl _, H2.out, hc2, hgb, fun t ht => by cases ht⟩
  case round =>
   obtain ⟨M, l2, rfl, hM, hll, hO, hc, hg, h64⟩ := hrel
   clear hmr hc2 hgb hg2 hmin
   have hT := hw.by hg (by intro k hk; cases hk; exact hG)
   have HM64 := Lib.hid h64
   have hMn := hM.1
   have HM := Lib.hid hM
   have HO := Lib.hid hO
   have HGR := Lib.hid hg
   have hws := hg.size
   clear hM hg h64
   have hj0 : (0 : Int) ≤ (M.length : Int) := by omega
   by_cases hk : M.length < n
   ·have hki : (M.length : Int) < (n : Int) := by omega
    have cu := Tx.ctext_m b l2 wr hT hc (by omega)
    by_cases he : (txt l2 64).2.2 = 0
    ·rw [he] at cu
     obtain ⟨x, hx⟩ : ∃ x, x = (txt l2 64).1 := ⟨_, rfl⟩
     have hform := hO.form
     have HNX : Hid ((ord = true → ∀ q, M.getLast? = some q → Tx.lt q x = true) → Tx.MidW ord n l (M ++ [x]) (restT l2)) := Lib.hid (by rw [hx]; exact HM.out.next hk he)
     have HBD : Hid (∀ q, M.getLast? = some q → ord = true → Tx.lt q x = false → (rdWords ord n none l).1 = 4) := Lib.hid (by
      intro q hq ho hl
      subst ho
      rw [hx] at hl
      exact HM.out.bad hk he hq hl)
     have HXL : Hid (x.length ≤ 64) := Lib.hid (by rw [hx]; exact (Tx.splitT he).2)
     have HX64 : Hid (∀ t ∈ M ++ [x], t.length ≤ 64) := Lib.hid fun t ht => by
      rcases List.mem_append.1 ht with h | h
      ·exact HM64.out t h
      ·rw [List.mem_singleton.1 h]; exact HXL.out
     have HRL : Hid ((restT l2).length ≤ l.length) := Lib.hid (Nat.le_trans (Tx.restT_le l2) hll)
     rw [← hx] at cu
     generalize restT l2 = l3 at cu HNX HRL
     clear he hx hO hc hT
     have HLT := Lib.hid (fun q => Tx.le_not q x)
     have cc := fun wz => Tx.clone_c (Ty.S x) wz (by rw [Tx.S_size]; have := HXL.out; omega)
     obtain ⟨xs, hxs⟩ : ∃ xs, xs = Ty.S x := ⟨_, rfl⟩
     rw [← hxs] at cu cc HLT
     have HXS := Lib.hid hxs
     clear hxs
     cases ord
     ·clear hform
      go_wp2_with fail
      refine cu.mono ?_
      rintro e w3 ⟨rfl, hc3, hg3⟩
      have HC3 := Lib.hid hc3
      have hO3 := HO.out.by hg3 hbw
      have HO3 := Lib.hid hO3
      have HG3 := Lib.hid (Ty.by_trans HGR.out hg3)
      have hs3 := hg3.size
      have HN := Lib.hid (HNX.out (fun e => by cases e))
      clear cu hg3 hc3 hO3
      go_wp2_with fail
      refine (Ty.err_c b _ 0 _ HC3.out).mono ?_
      rintro e w4 ⟨rfl, rfl⟩
      go_wp2_with fail
      refine (cc _).mono ?_
      rintro e w5 ⟨rfl, g5⟩
      have hO5 : Tx.Own w1.heap.size w5 _ _ := Bt.Buf.kept HO3.out g5
      have HC5 := Lib.hid (HC3.out.below g5 HC3.out.lt)
      have HG5 := Lib.hid (Tx.below_by g5 HG3.out)
      have hs5 := g5.size
      clear cc g5
      go_wp2_with (at_builtin; refine Bt.wpList_append_one 9 111 (.string ⟨#[]⟩) 16 Tryz.underlying111 Tx.infoS rfl (hO5.pre x) (by omega) (by first | omega | (simp only [List.length_nil]; omega)) (by first | omega | (simp only [List.length_nil]; omega)) (.tmp 41) (.tmp 44) _ rfl rfl rfl rfl rfl ?_; intro v6 w6 h6 g6)
      have H6 := Lib.hid (Tx.Own.post (h6 (by rw [← Tx.sv_snoc, HXS.out])))
      have HC6 := Lib.hid (HC5.out.by g6.by_ (Tx.buf_ne hO5 hbw))
      have HG6 := Lib.hid (Tx.grew_by g6 HG5.out (Bt.Buf.base_le hO5))
      clear h6 g6 hO5
      go_roundw
      case rel => exact ⟨_, _, by simp, HN.out, HRL.out, H6.out, HC6.out, HG6.out, HX64.out⟩
      case measure => simp [intOf]; omega
     ·rcases hform with ⟨rfl, hM0⟩ | ⟨g, c, rfl, hcap, hgl, hcl⟩
      ·subst hM0
       go_wp2_with fail
       refine cu.mono ?_
       rintro e w3 ⟨rfl, hc3, hg3⟩
       have HC3 := Lib.hid hc3
       have hO3 := HO.out.by hg3 hbw
       have HO3 := Lib.hid hO3
       have HG3 := Lib.hid (Ty.by_trans HGR.out hg3)
       have hs3 := hg3.size
       have HN := Lib.hid (HNX.out (fun _ q hq => by cases hq))
       clear cu hg3 hc3 hO3
       go_wp2_with fail
       refine (Ty.err_c b _ 0 _ HC3.out).mono ?_
       rintro e w4 ⟨rfl, rfl⟩
       go_wp2_with fail
       refine (cc _).mono ?_
       rintro e w5 ⟨rfl, g5⟩
       have hO5 : Tx.Own w1.heap.size w5 _ _ := Bt.Buf.kept HO3.out g5
       have HC5 := Lib.hid (HC3.out.below g5 HC3.out.lt)
       have HG5 := Lib.hid (Tx.below_by g5 HG3.out)
       have hs5 := g5.size
       clear cc g5
       go_wp2_with (at_builtin; refine Bt.wpList_append_one 9 111 (.string ⟨#[]⟩) 16 Tryz.underlying111 Tx.infoS rfl (hO5.pre x) (by omega) (by first | omega | (simp only [List.length_nil]; omega)) (by first | omega | (simp only [List.length_nil]; omega)) (.tmp 41) (.tmp 44) _ rfl rfl rfl rfl rfl ?_; intro v6 w6 h6 g6)
       have H6 := Lib.hid (Tx.Own.post (h6 (by rw [← Tx.sv_snoc, HXS.out])))
       have HC6 := Lib.hid (HC5.out.by g6.by_ (Tx.buf_ne hO5 hbw))
       have HG6 := Lib.hid (Tx.grew_by g6 HG5.out (Bt.Buf.base_le hO5))
       clear h6 g6 hO5
       go_roundw
       case rel => exact ⟨_, _, by simp, HN.out, HRL.out, H6.out, HC6.out, HG6.out, HX64.out⟩
       case measure => simp [intOf]; omega
      ·by_cases hM1 : 0 < M.length
       ·have hlast := Tx.last_at hM1
        have hc1 := hcl (M.length - 1) (by omega)
        unfold Tx.sv at hc1
        obtain ⟨q, hq⟩ : ∃ q, q = M.getD (M.length - 1) [] := ⟨_, rfl⟩
        rw [← hq] at hlast hc1
        have HLQ := Lib.hid hlast
        have hlq := HLT.out q
        have htn : ((M.length : Int) - 1).toNat = M.length - 1 := by omega
        have hs1 : (0 : Int) ≤ (M.length : Int) - 1 := by omega
        have hs2 : (M.length : Int) - 1 < (M.length : Int) := by omega
        have hjz : (0 : Int) < (M.length : Int) := by omega
        have hcB : ∀ w3, wr.grownBy w3 (some b) → w3.cell? ⟨g, M.length - 1, none⟩ = some (.string (Ty.S q)) := fun w3 hg3 => by
         rcases (HO.out.by hg3 hbw).form with ⟨e, _⟩ | ⟨g', c', e, _, _, hc'⟩
         ·cases e
         ·simp only [Value.slice.injEq, Option.some.injEq, Addr.mk.injEq, and_true, true_and] at e
          obtain ⟨rfl, rfl⟩ := e
          rw [hc' (M.length - 1) (by omega), hq]
          rfl
        generalize Ty.S q = qs at hc1 hcB hlq
        have HCB := Lib.hid hcB
        clear hq hlast hc1 hcl hcB
        rcases hlq with ⟨hlt, hb1, hb2⟩ | hlq
        ·have HLT2 := Lib.hid hlt
         clear hlt HLT
         go_wp2_with fail
         refine cu.mono ?_
         rintro e w3 ⟨rfl, hc3, hg3⟩
         have HC3 := Lib.hid hc3
         have hcc := HCB.out _ hg3
         have hO3 := HO.out.by hg3 hbw
         have HO3 := Lib.hid hO3
         have HG3 := Lib.hid (Ty.by_trans HGR.out hg3)
         have hs3 := hg3.size
         have HN := Lib.hid (HNX.out (fun _ q hq => by rw [HLQ.out] at hq; cases hq; exact HLT2.out))
         clear cu hg3 hc3 hO3
         go_wp2_with fail
         refine (Ty.err_c b _ 0 _ HC3.out).mono ?_
         rintro e w4 ⟨rfl, rfl⟩
         go_wp2_with fail
         refine (cc _).mono ?_
         rintro e w5 ⟨rfl, g5⟩
         have hO5 : Tx.Own w1.heap.size w5 _ _ := Bt.Buf.kept HO3.out g5
         have HC5 := Lib.hid (HC3.out.below g5 HC3.out.lt)
         have HG5 := Lib.hid (Tx.below_by g5 HG3.out)
         have hs5 := g5.size
         clear cc g5
         go_wp2_with (at_builtin; refine Bt.wpList_append_one 9 111 (.string ⟨#[]⟩) 16 Tryz.underlying111 Tx.infoS rfl (hO5.pre x) (by omega) (by first | omega | (simp only [List.length_nil]; omega)) (by first | omega | (simp only [List.length_nil]; omega)) (.tmp 41) (.tmp 44) _ rfl rfl rfl rfl rfl ?_; intro v6 w6 h6 g6)
         have H6 := Lib.hid (Tx.Own.post (h6 (by rw [← Tx.sv_snoc, HXS.out])))
         have HC6 := Lib.hid (HC5.out.by g6.by_ (Tx.buf_ne hO5 hbw))
         have HG6 := Lib.hid (Tx.grew_by g6 HG5.out (Bt.Buf.base_le hO5))
         clear h6 g6 hO5
         go_roundw
         case rel => exact ⟨_, _, by simp, HN.out, HRL.out, H6.out, HC6.out, HG6.out, HX64.out⟩
         case measure => simp [intOf]; omega
        ·obtain ⟨hlt, hbb⟩ : Tx.lt q x = false ∧ (Op.bytesLess xs.toList qs.toList || xs.toList == qs.toList) = true := by
          rcases hlq with ⟨h1, h2, h3⟩ | ⟨h1, h2, h3⟩
          ·exact ⟨h1, by rw [h2]; rfl⟩
          ·exact ⟨h1, by rw [h2, h3]; rfl⟩
         have HE := Lib.hid (HBD.out q HLQ.out rfl hlt)
         clear hlt HLT hlq
         go_wp2_with fail
         refine cu.mono ?_
         rintro e w3 ⟨rfl, hc3, hg3⟩
         have HC3 := Lib.hid hc3
         have hcc := HCB.out _ hg3
         have HG3 := Lib.hid (Ty.by_trans HGR.out hg3)
         clear cu hg3 hc3
         go_wp2_with fail
         refine (Ty.err_c b _ 0 _ HC3.out).mono ?_
         rintro e w4 ⟨rfl, rfl⟩
         go_wp2
         go_ret2
         exact Tx.Rd.bad (by rw [HE.out]; rfl) (by rw [HE.out]; decide) HG3.out
       ·have hM0 : M = [] := List.eq_nil_of_length_eq_zero (by omega)
        subst hM0
        clear hM1
        go_wp2_with fail
        refine cu.mono ?_
        rintro e w3 ⟨rfl, hc3, hg3⟩
        have HC3 := Lib.hid hc3
        have hO3 := HO.out.by hg3 hbw
        have HO3 := Lib.hid hO3
        have HG3 := Lib.hid (Ty.by_trans HGR.out hg3)
        have hs3 := hg3.size
        have HN := Lib.hid (HNX.out (fun _ q hq => by cases hq))
        clear cu hg3 hc3 hO3
        go_wp2_with fail
        refine (Ty.err_c b _ 0 _ HC3.out).mono ?_
        rintro e w4 ⟨rfl, rfl⟩
        go_wp2_with fail
        refine (cc _).mono ?_
        rintro e w5 ⟨rfl, g5⟩
        have hO5 : Tx.Own w1.heap.size w5 _ _ := Bt.Buf.kept HO3.out g5
        have HC5 := Lib.hid (HC3.out.below g5 HC3.out.lt)
        have HG5 := Lib.hid (Tx.below_by g5 HG3.out)
        have hs5 := g5.size
        clear cc g5
        go_wp2_with (at_builtin; refine Bt.wpList_append_one 9 111 (.string ⟨#[]⟩) 16 Tryz.underlying111 Tx.infoS rfl (hO5.pre x) (by omega) (by first | omega | (simp only [List.length_nil]; omega)) (by first | omega | (simp only [List.length_nil]; omega)) (.tmp 41) (.tmp 44) _ rfl rfl rfl rfl rfl ?_; intro v6 w6 h6 g6)
        have H6 := Lib.hid (Tx.Own.post (h6 (by rw [← Tx.sv_snoc, HXS.out])))
        have HC6 := Lib.hid (HC5.out.by g6.by_ (Tx.buf_ne hO5 hbw))
        have HG6 := Lib.hid (Tx.grew_by g6 HG5.out (Bt.Buf.base_le hO5))
        clear h6 g6 hO5
        go_roundw
        case rel => exact ⟨_, _, by simp, HN.out, HRL.out, H6.out, HC6.out, HG6.out, HX64.out⟩
        case measure => simp [intOf]; omega
    ·have HE := Lib.hid (HM.out.fail hk he)
     generalize (txt l2 64).2.2 = q at cu he HE
     have hne : ((q : Int) != 0) = true := by rw [bne_iff_ne]; omega
     have HQ := Lib.hid he
     generalize Ty.S (txt l2 64).1 = x at cu
     clear he hT hc hO
     go_wp2_with fail
     refine cu.mono ?_
     rintro e w3 ⟨rfl, hc3, hg3⟩
     have HG3 := Lib.hid (Ty.by_trans HGR.out hg3)
     have HC3 := Lib.hid hc3
     clear cu hg3 hc3
     go_wp2_with fail
     refine (Ty.err_c b _ q _ HC3.out).mono ?_
     rintro e w4 ⟨rfl, rfl⟩
     go_wp2_with fail
     refine (Ty.err_c b _ q _ HC3.out).mono ?_
     rintro e w4 ⟨rfl, rfl⟩
     go_wp2
     go_ret2
     exact Tx.Rd.bad (by rw [HE.out]) (by rw [HE.out]; exact HQ.out) HG3.out
   ·have hki : ¬ (M.length : Int) < (n : Int) := by omega
    have HDN := Lib.hid (HM.out.done hk)
    have HC := Lib.hid hc
    clear hc hO hT
    go_wp2
    go_ret2
    exact Tx.Rd.good (by rw [HDN.out]) (by rw [HDN.out]; exact HO.out) (by rw [HDN.out]; exact HC.out) HGR.out
end Go.Proofs.YtbelkhkllneifaaGreatDoor

namespace Go.Proofs.YtbelkhkllneifaaGreatDoor
open Go.RowKit
open Ty (num)
open Ig (rest)
theorem Cl.drop_tail (l : List UInt8) (k : Nat) : l.drop (l.length - (l.drop k).length) = l.drop k := by
 rw [List.length_drop]
 rcases Nat.lt_or_ge k l.length with h | h
 ·rw [show l.length - (l.length - k) = k by omega]
 ·rw [show l.length - (l.length - k) = l.length by omega, List.drop_length, List.drop_eq_nil_of_le h]
def Cl.RN (w : World) (l : List UInt8) (e : Ending) (w' : World) : Prop :=
 ∃ v t, e = .returned (.tuple #[v, .string t, .int .i64 ((Cl.rnE l : Nat) : Int)]) ∧ (Cl.rnE l = 0 → t = Ty.S (Cl.vb l) ∧ Bt.Sl w' v (num l).1 (Bt.bv (Bt.bit (Cl.bb l)))) ∧ Below w.heap.size w w'
theorem Cl.RN.bad {w w' : World} {l : List UInt8} {v : Value} {t : ByteArray} {q : Nat} {z : Int} (h : Cl.rnE l = q) (hq : q ≠ 0) (hz : z = (q : Int)) (g : Below w.heap.size w w') : Cl.RN w l (.returned (.tuple #[v, .string t, .int .i64 z])) w' :=
 ⟨v, t, by rw [h, hz], fun e => absurd (h.symm.trans e) hq, g⟩
set_option maxHeartbeats 4000000 in
set_option maxRecDepth 100000 in
theorem Cl.readNulls_c (s : ByteArray) (w : World) (hw : Ty.Tabs w) (hs : s.size ≤ 140737488351232) :
 Calls Tryz.prog 169 #[.string s] w (Cl.RN w s.data.toList) := by
 have hsl : s = Ty.S s.data.toList := rfl
 have hll : s.data.toList.length ≤ 140737488351232 := by rw [Ty.length_data]; exact hs
 rw [hsl, Ty.data_S]
 generalize s.data.toList = l at hll ⊢
 clear hsl hs
 have cf := Ty.from_f l w hw
 have hG := hw.two
 have cu := fun b wz (hT : Ty.Tabs wz) (hc : Ty.Cur b wz l 0) => Tx.cuint_m b l wz hT hc (by omega)
 have HE : Hid (Cl.rnE l = if (num l).2.2 ≠ 0 then (num l).2.2 else if 65536 < (num l).1 then 3 else if (rest l).length < Bt.need (num l).1 then 2 else Bt.chk (Cl.bb l) (num l).1) := Lib.hid rfl
 have HB : Hid (Cl.bb l = Ty.S ((rest l).take (Bt.need (num l).1)) ∧ Cl.vb l = (rest l).drop (Bt.need (num l).1)) := Lib.hid ⟨rfl, rfl⟩
 have HTL : Hid (l.drop (l.length - (rest l).length) = rest l) := Lib.hid (Cl.drop_tail l _)
 have hle : (rest l).length ≤ l.length := Tx.rest_le l
 obtain ⟨R, hR⟩ : ∃ R, R = Cl.RN w l := ⟨_, rfl⟩
 rw [← hR]
 have HRB : Hid (∀ (v : Value) (t : ByteArray) (q : Nat) (z : Int) (w' : World), Cl.rnE l = q → q ≠ 0 → z = (q : Int) → Below w.heap.size w w' → R (.returned (.tuple #[v, .string t, .int .i64 z])) w') := Lib.hid fun v t q z w' h1 h2 h3 h4 => by rw [hR]; exact Cl.RN.bad h1 h2 h3 h4
 have HRG : Hid (∀ (v : Value) (w' : World), Cl.rnE l = 0 → Bt.Sl w' v (num l).1 (Bt.bv (Bt.bit (Cl.bb l))) → Below w.heap.size w w' → R (.returned (.tuple #[v, .string (Ty.S (Cl.vb l)), .int .i64 0])) w') := Lib.hid fun v w' h1 h2 h3 => by rw [hR]; exact ⟨v, _, by rw [h1]; rfl, fun _ => ⟨rfl, h2⟩, h3⟩
 generalize Cl.bb l = S at HE HB HRG
 generalize Cl.vb l = r9 at HB HRG
 generalize Cl.rnE l = Q at HE HRB HRG
 generalize rest l = l2 at cu HE HB HTL hle
 generalize (num l).1 = n at cu HE HB HRG
 generalize (num l).2.2 = E at cu HE
 have HRQ := Lib.hid hR
 clear hR
 obtain ⟨xs, hxs⟩ : ∃ xs, xs = Ty.S l := ⟨_, rfl⟩
 have HXS := Lib.hid hxs
 have hxz : xs.size = l.length := by rw [hxs]; rfl
 rw [← hxs] at cf ⊢
 clear hxs
 by_cases hE : E = 0
 ·subst hE
  by_cases hn : 65536 < n
  ·have HQ : Hid (Q = 3) := Lib.hid (HE.out.trans (by rw [if_neg (by simp), if_pos hn]))
   have hni : (65536 : Int) < (n : Int) := by omega
   clear hn
   go_enter Tryz.func169, Tryz.ntmps169
   go_wp2_with fail
   refine cf.mono ?_
   rintro e w1 ⟨rfl, hc1, hT1, hg1⟩
   have cu1 := cu _ _ hT1 hc1
   have HB1 := Lib.hid (Ty.below_none hg1 (Nat.le_refl _))
   have hs1 := HB1.out.size
   clear cf cu hc1 hg1 hT1
   go_wp2_with fail
   refine cu1.mono ?_
   rintro e w2 ⟨rfl, hc2, hg2⟩
   have HB2 := Lib.hid (HB1.out.trans (Ty.below_at (B := w.heap.size) hg2 hs1 (Nat.le_refl _)))
   have ce := Ty.err_c w.heap.size _ 0 _ hc2
   clear cu1 hg2 hc2
   go_wp2_with fail
   refine ce.mono ?_
   rintro e w3 ⟨rfl, rfl⟩
   clear ce
   go_wp2
   go_ret3
   exact HRB.out _ _ 3 _ _ HQ.out (by decide) rfl HB2.out
  ·have hni : ¬ (65536 : Int) < (n : Int) := by omega
   have hn0 : (0 : Int) ≤ (n : Int) := by omega
   have hn65 : (n : Int) ≤ 65536 := by omega
   obtain ⟨sz, hszq⟩ : ∃ sz, sz = Bt.need n := ⟨_, rfl⟩
   rw [← hszq] at HE HB
   have hd : ((n : Int) + 7) / 8 = (sz : Int) := by rw [hszq]; unfold Bt.need; omega
   have hsz9 : sz ≤ 8193 := by rw [hszq]; unfold Bt.need; omega
   have hwn : wrap64 (n : Int) = (n : Int) := by unfold wrap64; omega
   have HE2 : Hid (Q = if l2.length < sz then 2 else Bt.chk S n) := Lib.hid (HE.out.trans (by rw [if_neg (by simp), if_neg hn]))
   clear hszq hn
   go_enter Tryz.func169, Tryz.ntmps169
   go_wp2_with fail
   refine cf.mono ?_
   rintro e w1 ⟨rfl, hc1, hT1, hg1⟩
   have cu1 := cu _ _ hT1 hc1
   have HB1 := Lib.hid (Ty.below_none hg1 (Nat.le_refl _))
   have hs1 := HB1.out.size
   clear cf cu hc1 hg1 hT1
   go_wp2_with fail
   refine cu1.mono ?_
   rintro e w2 ⟨rfl, hc2, hg2⟩
   have HB2 := Lib.hid (HB1.out.trans (Ty.below_at (B := w.heap.size) hg2 hs1 (Nat.le_refl _)))
   have ce := Ty.err_c w.heap.size _ 0 _ hc2
   have cl := Ty.left_c w.heap.size _ 0 _ hc2
   clear cu1 hg2 hc2
   go_wp2_with fail
   refine ce.mono ?_
   rintro e w3 ⟨rfl, rfl⟩
   clear ce
   have CL := Lib.hid cl
   clear cl
   go_wp2_with fail
   refine CL.out.mono ?_
   rintro e w4 ⟨rfl, rfl⟩
   by_cases hlt : l2.length < sz
   ·have HQ : Hid (Q = 2) := Lib.hid (HE2.out.trans (by rw [if_pos hlt]))
    have hlti : (l2.length : Int) < (sz : Int) := by omega
    clear hlt
    go_wp2
    go_ret3
    exact HRB.out _ _ 2 _ _ HQ.out (by decide) rfl HB2.out
   ·have hlti : ¬ (l2.length : Int) < (sz : Int) := by omega
    have HQ : Hid (Q = Bt.chk S n) := Lib.hid (HE2.out.trans (by rw [if_neg hlt]))
    obtain ⟨q, hq⟩ : ∃ q, q = l.length - l2.length := ⟨_, rfl⟩
    have hex : xs.extract q l.length = Ty.S l2 := by
     rw [← hxz, HXS.out, Ty.extract_S, Ty.data_S, Ty.size_S, List.take_of_length_le (by rw [List.length_drop]; exact Nat.le_refl _), hq, HTL.out]
    have hqi : wrap64 ((l.length : Int) - (l2.length : Int)) = (q : Int) := by unfold wrap64; omega
    have hq0 : (0 : Int) ≤ (q : Int) := by omega
    have hqs : (q : Int) ≤ (l.length : Int) := by omega
    have hqn : ((q : Nat) : Int).toNat = q := Int.toNat_natCast q
    go_wp2_with fail
    refine CL.out.mono ?_
    rintro e w5 ⟨rfl, rfl⟩
    have hyz : (Ty.S l2).size = l2.length := rfl
    have hex1 : (Ty.S l2).extract 0 sz = S := by rw [Ty.extract_S, Ty.data_S, HB.out.1, List.drop_zero, Nat.sub_zero]
    have hex2 : (Ty.S l2).extract sz l2.length = Ty.S r9 := by rw [← Ty.size_S l2, Ty.extract_S, Ty.data_S, Ty.size_S, List.take_of_length_le (by rw [List.length_drop]; exact Nat.le_refl _), HB.out.2]
    have hS9 : S.size ≤ 140737488355328 := by rw [HB.out.1, Ty.size_S, List.length_take]; omega
    generalize Ty.S l2 = ys at hex hyz hex1 hex2
    have ce : Bt.utE S (n : Int) = Bt.chk S n := by unfold Bt.utE; rw [if_pos ⟨hn0, hn65⟩]; rfl
    have cun := fun wz => Bt.untruths_c S (n : Int) wz hS9
    unfold Bt.utN at cun
    rw [ce, Int.toNat_natCast] at cun
    generalize hC : Bt.chk S n = C at cun HQ
    have z1 : (0 : Int) ≤ (sz : Int) := by omega
    have z2 : (sz : Int) ≤ (l2.length : Int) := by omega
    clear hlt hle hll hC ce hS9 hq
    go_wp2_with fail
    with_reducible refine (cun _).mono ?_
    rintro e w6 ⟨v6, rfl, hS6, g6⟩
    have HB6 := Lib.hid (HB2.out.trans (g6.mono HB2.out.size))
    clear cun g6
    by_cases hC : C = 0
    ·subst hC
     rw [if_pos rfl] at hS6
     have HS6 := Lib.hid hS6
     simp only [Int.natCast_zero]
     clear hS6
     go_wp2_with fail
     go_quiet (fail)
     go_wp2
     go_ret3
     exact HRG.out _ _ HQ.out (HS6.out.later (Bt.drewN_below _ _)) (HB6.out.trans ((Bt.drewN_below _ _).mono HB6.out.size))
    ·have hCb : ((C : Int) != 0) = true := by rw [bne_iff_ne]; omega
     have HCN := Lib.hid hC
     clear hC hS6
     go_wp2
     go_ret3
     exact HRB.out _ _ C _ _ HQ.out HCN.out rfl HB6.out
 ·have HQ : Hid (Q = E) := Lib.hid (HE.out.trans (by rw [if_pos hE]))
  have hEb : ((E : Int) != 0) = true := by rw [bne_iff_ne]; omega
  have HEN := Lib.hid hE
  clear hE
  go_enter Tryz.func169, Tryz.ntmps169
  go_wp2_with fail
  refine cf.mono ?_
  rintro e w1 ⟨rfl, hc1, hT1, hg1⟩
  have cu1 := cu _ _ hT1 hc1
  have HB1 := Lib.hid (Ty.below_none hg1 (Nat.le_refl _))
  have hs1 := HB1.out.size
  clear cf cu hc1 hg1 hT1
  go_wp2_with fail
  refine cu1.mono ?_
  rintro e w2 ⟨rfl, hc2, hg2⟩
  have HB2 := Lib.hid (HB1.out.trans (Ty.below_at (B := w.heap.size) hg2 hs1 (Nat.le_refl _)))
  have CE := Lib.hid (Ty.err_c w.heap.size _ E _ hc2)
  clear cu1 hg2 hc2
  go_wp2_with fail
  refine CE.out.mono ?_
  rintro e w3 ⟨rfl, rfl⟩
  go_wp2_with fail
  refine CE.out.mono ?_
  rintro e w4 ⟨rfl, rfl⟩
  go_wp2
  go_ret3
  exact HRB.out _ _ E _ _ HQ.out HEN.out rfl HB2.out
end Go.Proofs.YtbelkhkllneifaaGreatDoor

namespace Go.Proofs.YtbelkhkllneifaaGreatDoor
open Go.RowKit Go.Maps
open Ty (encU num txt)
open Ig (rest)
open Tx (restT rdWords rdPick rdBody outs)
theorem Tx.asc_sub : ∀ (d e : List Tx.Str) (p q : Option Tx.Str), Tx.Asc p e → Tx.Asc q d → (∀ x ∈ e, x ∈ d) → e.length ≤ d.length ∧ (e.length = d.length → e = d)
 | [], [], _, _, _, _, _ => ⟨Nat.le_refl _, fun _ => rfl⟩
 | [], a :: e, _, _, _, _, h => by have := h a (by simp); cases this
 | b :: d, [], _, _, _, _, _ => ⟨by simp, fun h => by simp at h⟩
 | b :: d, a :: e, p, q, he, hd, h => by
   have ha := h a (by simp)
   have hb := Tx.asc_all d (some b) hd.2 b rfl
   have hae := Tx.asc_all e (some a) he.2 a rfl
   rcases List.mem_cons.1 ha with rfl | ha
   ·have h2 : ∀ x ∈ e, x ∈ d := fun x hx => by
     rcases List.mem_cons.1 (h x (by simp [hx])) with e1 | h3
     ·have := hae x hx
      rw [e1] at this
      have k : Tx.lt a a = false := Kn.bl_irrefl a
      rw [k] at this
      cases this
     ·exact h3
    obtain ⟨i1, i2⟩ := Tx.asc_sub d e (some a) (some a) he.2 hd.2 h2
    exact ⟨by simp [i1], fun hl => by rw [i2 (by simpa using hl)]⟩
   ·have hba := hb a ha
    have h2 : ∀ x ∈ a :: e, x ∈ d := fun x hx => by
     rcases List.mem_cons.1 (h x hx) with e1 | h3
     ·rcases List.mem_cons.1 hx with e2 | hx
      ·rw [← e2, e1] at hba
       have k : Tx.lt b b = false := Kn.bl_irrefl b
       rw [k] at hba
       cases hba
      ·have h4 := Kn.bl_trans b a x hba (hae x hx)
       rw [e1, Kn.bl_irrefl] at h4
       cases h4
     ·exact h3
    obtain ⟨i1, _⟩ := Tx.asc_sub d (a :: e) p (some b) he hd.2 h2
    have i3 : (a :: e).length ≤ d.length := i1
    exact ⟨by rw [List.length_cons (a := b)]; omega, fun hl => by rw [List.length_cons (a := b)] at hl; omega⟩
theorem Tx.mark_iff (X : Nat → Nat) (n j : Nat) : Tx.mark X n j = true ↔ ∃ i, i < n ∧ X i = j := by
 unfold Tx.mark
 rw [List.any_eq_true]
 constructor
 ·rintro ⟨i, hi, e⟩
  exact ⟨i, List.mem_range.1 hi, by simpa using e⟩
 ·rintro ⟨i, hi, e⟩
  exact ⟨i, List.mem_range.2 hi, by simp [e]⟩
theorem Tx.used_iff {n : Nat} {d : List Tx.Str} {p : Option Tx.Str} {X : Nat → Nat} (hd : Tx.Asc p d) (hX : ∀ i, i < n → X i < d.length) : (∀ j, j < d.length → Tx.mark X n j = true) ↔ ¬ (Tx.dict (outs n d X)).length < d.length := by
 have hin : ∀ x ∈ outs n d X, x ∈ d := fun x hx => by
  obtain ⟨i, hi, rfl⟩ := List.mem_map.1 hx
  rw [List.mem_range] at hi
  rw [List.getD, List.getElem?_eq_getElem (hX i hi), Option.getD_some]
  exact List.getElem_mem _
 obtain ⟨h1, h2⟩ := Tx.asc_sub d (Tx.dict (outs n d X)) none p (Tx.dict_asc _) hd (fun x hx => hin x ((Tx.dict_mem _ x).1 hx))
 constructor
 ·intro h
  have : Tx.dict (outs n d X) = d := Tx.asc_same _ _ none p (Tx.dict_asc _) hd fun x => by
   rw [Tx.dict_mem]
   refine ⟨hin x, fun hx => ?_⟩
   obtain ⟨j, hj, e⟩ := List.getElem_of_mem hx
   obtain ⟨i, hi, e2⟩ := (Tx.mark_iff X n j).1 (h j hj)
   refine List.mem_map.2 ⟨i, List.mem_range.2 hi, ?_⟩
   rw [e2, List.getD, List.getElem?_eq_getElem hj, Option.getD_some, e]
  rw [this]
  exact Nat.lt_irrefl _
 ·intro h j hj
  have he : Tx.dict (outs n d X) = d := h2 (by omega)
  have hm : d[j] ∈ outs n d X := (Tx.dict_mem _ _).1 (by rw [he]; exact List.getElem_mem hj)
  obtain ⟨i, hi, e⟩ := List.mem_map.1 hm
  rw [List.mem_range] at hi
  refine (Tx.mark_iff X n j).2 ⟨i, hi, ?_⟩
  have hx := hX i hi
  rw [List.getD, List.getElem?_eq_getElem hx, Option.getD_some] at e
  have e1 := Tx.pos_at d p hd (X i) d[j] (by rw [List.getElem?_eq_getElem hx, e])
  have e2 := Tx.pos_at d p hd j d[j] (List.getElem?_eq_getElem hj)
  omega
theorem Tx.pk_err {n : Nat} {d : List Tx.Str} {l : List UInt8} (he : Pk.err n l ≠ 0) : (rdPick n d l).1 = Pk.err n l := by
 cases l with
 | nil => rw [Tx.rdPk1, Pk.err1]
 | cons x r =>
   by_cases h1 : 64 < x.toNat
   ·rw [Tx.rdPk2 h1, Pk.err2 h1]
   ·by_cases h2 : r.length < Bt.need (n * x.toNat)
    ·rw [Tx.rdPk3 h1 h2, Pk.err3 h1 h2]
    ·by_cases h3 : Bt.chk (Ty.S (r.take (Bt.need (n * x.toNat)))) (n * x.toNat) = 0
     ·by_cases h4 : Bt.wid n (Bt.nums (Ty.S (r.take (Bt.need (n * x.toNat)))) x.toNat) < x.toNat
      ·rw [Pk.err5 h1 h2 h3 h4]
       refine Tx.rdPk5 h1 h2 h3 fun hg => ?_
       have h5 : Tx.right n x.toNat d (Bt.nums (Ty.S (r.take (Bt.need (n * x.toNat)))) x.toNat) = true := hg
       have := (Tx.right_iff.1 h5).2.2
       omega
      ·rw [Pk.err6 h1 h2 h3 h4] at he
       exact absurd rfl he
     ·rw [Tx.rdPk4 h1 h2 h3, Pk.err4 h1 h2 h3]
theorem Tx.pk_bad {n : Nat} {d : List Tx.Str} {l : List UInt8} (he : Pk.err n l = 0) (h : ¬ ((∀ i, i < n → Pk.X n l i < d.length) ∧ (∀ j, j < d.length → Tx.mark (Pk.X n l) n j = true))) : (rdPick n d l).1 = 4 := by
 obtain ⟨x, r, rfl, h1, h2, h3, h4, hq, hX, hR⟩ := Pk.good he
 rw [hX] at h
 refine Tx.rdPk5 (by omega) (by omega) h3 fun hg => h ?_
 have h5 : Tx.right n x.toNat d (Bt.nums (Ty.S (r.take (Bt.need (n * x.toNat)))) x.toNat) = true := hg
 exact ⟨(Tx.right_iff.1 h5).1, (Tx.right_iff.1 h5).2.1⟩
theorem Tx.pk_good {n : Nat} {d : List Tx.Str} {l : List UInt8} (he : Pk.err n l = 0) (h : (∀ i, i < n → Pk.X n l i < d.length) ∧ (∀ j, j < d.length → Tx.mark (Pk.X n l) n j = true)) : rdPick n d l = (0, outs n d (Pk.X n l), Pk.rest n l) := by
 obtain ⟨x, r, rfl, h1, h2, h3, h4, hq, hX, hR⟩ := Pk.good he
 rw [hX] at h h4 ⊢
 rw [hR]
 have h5 : Tx.right n x.toNat d (Ig.un (Ty.S (r.take (Bt.need (n * x.toNat)))) x.toNat) = true := Tx.right_iff.2 ⟨h.1, h.2, h4⟩
 exact Tx.rdPk6 (by omega) (by omega) h3 h5
theorem Tx.own_row {base : Nat} {w : World} {g n : Nat} {L : List Tx.Str} (h : w.rowIs g 9 n (Tx.sv L)) (hn : L.length = n) (hb : base ≤ g) (hm : n ≤ maxLen) : Tx.Own base w (.slice (some ⟨g, 0, none⟩) n n) L := by
 obtain ⟨c, hg, hc, hf⟩ := h
 subst hn
 refine ⟨by simp, .inr ⟨g, L.length, c, rfl, hb, hg, Nat.le_refl _, hm, by simpa using hc, ?_⟩⟩
 rw [Nat.mul_one]
 refine List.ext_getElem? fun j => ?_
 by_cases hj : j < L.length
 ·rw [List.getElem?_take_of_lt hj, List.getElem?_map, List.getElem?_range hj, Array.getElem?_toList, hf j hj]
  rfl
 ·rw [List.getElem?_eq_none (by rw [List.length_take]; omega), List.getElem?_eq_none (by simp; omega)]
theorem Tx.outs_sv (n : Nat) (d : List Tx.Str) (X : Nat → Nat) {i : Nat} (h : i < n) : Tx.sv (outs n d X) i = .string (Ty.S (d.getD (X i) [])) := by
 unfold Tx.sv outs
 rw [List.getD, List.getElem?_map, List.getElem?_range h]
 rfl
end Go.Proofs.YtbelkhkllneifaaGreatDoor
