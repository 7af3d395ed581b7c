import Derived.Test.YtbelkhkllneifaaGreatDoorWEAC
import Derived.Test.YtbelkhkllneifaaGreatDoorWEAA
import Derived.Deep.OwnRows
import Derived.Test.YtbelkhkllneifaaGreatDoorWEAB
import Derived.RegionCalls
import Derived.Deep.RegionWith
namespace Go.Proofs.YtbelkhkllneifaaGreatDoor
open Go.RowKit
set_option maxHeartbeats 400000 in
theorem Ty.number_c (s : ByteArray) (w : World) (h : Ty.Tabs w) (hs : s.size ≤ 9223372036854775807) :
 Calls Tryz.prog 164 #[.string s] w fun e w' => e = .returned (Ty.numV s.data.toList) ∧ w' = w := by
 by_cases h0 : 0 < s.size
 ·by_cases h1 : (s[0].toNat : Int) ≤ 192
  ·have hf : (s[0].toNat : Int) / 64 = 0 ∨ (s[0].toNat : Int) / 64 = 1 ∨ (s[0].toNat : Int) / 64 = 2 ∨ (s[0].toNat : Int) / 64 = 3 := by omega
   rcases hf with hf | hf | hf | hf
   ·exact Ty.number_0 s w h hs h0 h1 hf
   ·exact Ty.number_1 s w h hs h0 h1 hf
   ·exact Ty.number_2 s w h hs h0 h1 hf
   ·exact Ty.number_3 s w h hs h0 h1 hf
  ·have hne : s.toList.isEmpty = false := Ty.isEmpty_pos s h0
   have HN := Lib.hid (Ty.num_high (l := s.data.toList) (by rw [Ty.length_data]; exact h0) (by rw [← Ty.at_getD s 0 h0]; omega))
   go_enter Tryz.func164, Tryz.ntmps164
   go_wp2
   go_ret3
   exact ⟨by unfold Ty.numV; rw [HN.out]; rfl, rfl⟩
 ·have hz : s.size = 0 := by omega
  have he : s.toList.isEmpty = true := by rw [ByteArray.toList_eq, Ty.isEmpty_zero s hz]; rfl
  have HN := Lib.hid (Ty.isEmpty_zero s hz)
  clear h0 hz
  go_enter Tryz.func164, Tryz.ntmps164
  go_wp2
  go_ret3
  exact ⟨by rw [HN.out]; rfl, rfl⟩
def Ty.S (l : List UInt8) : ByteArray := ⟨l.toArray⟩
theorem Ty.S_data (s : ByteArray) : Ty.S s.data.toList = s := rfl
theorem Ty.data_S (l : List UInt8) : (Ty.S l).data.toList = l := rfl
theorem Ty.size_S (l : List UInt8) : (Ty.S l).size = l.length := rfl
theorem Ty.extract_S (s : ByteArray) (a b : Nat) : s.extract a b = Ty.S ((s.data.toList.drop a).take (b - a)) := ByteArray.extract_mk s.data.toList a b
def Ty.txtV (l : List UInt8) (most : Int) : Value := .tuple #[.string (Ty.S (Ty.txt l most).1), .int .i64 (Ty.txt l most).2.1, .int .i64 (Ty.txt l most).2.2]
set_option maxHeartbeats 400000 in
theorem Ty.text_bad (s : ByteArray) (most : Int) (w : World) (h : Ty.Tabs w) (hs : s.size ≤ 9223372036854775807) (he : (Ty.num s.data.toList).2.2 ≠ 0) :
 Calls Tryz.prog 174 #[.string s, .int .i64 most] w fun e w' => e = .returned (Ty.txtV s.data.toList most) ∧ w' = w := by
 have HT := Lib.hid (Ty.txt_bad (most := most) he)
 have hb : (((Ty.num s.data.toList).2.2 : Int) != 0) = true := by rw [bne_iff_ne]; omega
 clear he
 go_enter Tryz.func174, Tryz.ntmps174
 go_wp2_with fail
 refine (Ty.number_c s _ h hs).mono ?_
 rintro e w' ⟨rfl, rfl⟩
 unfold Ty.numV
 go_wp2
 go_ret3
 exact ⟨by unfold Ty.txtV; rw [HT.out]; rfl, rfl⟩
theorem Ty.number_is (s : ByteArray) (w : World) (h : Ty.Tabs w) (hs : s.size ≤ 9223372036854775807) {n sz : Nat} (hn : Ty.num s.data.toList = (n, sz, 0)) :
 Calls Tryz.prog 164 #[.string s] w fun e w' => e = .returned (.tuple #[.int .u64 n, .int .i64 sz, .int .i64 0]) ∧ w' = w := by
 have := Ty.number_c s w h hs
 unfold Ty.numV at this
 rw [hn] at this
 exact this
set_option maxHeartbeats 400000 in
theorem Ty.text_good (s : ByteArray) (most : Int) (w : World) (h : Ty.Tabs w) (hs : s.size ≤ 9223372036854775807) (hm : -9223372036854775808 ≤ most ∧ most ≤ 9223372036854775807) {n sz : Nat} (hn : Ty.num s.data.toList = (n, sz, 0)) :
 Calls Tryz.prog 174 #[.string s, .int .i64 most] w fun e w' => e = .returned (Ty.txtV s.data.toList most) ∧ w' = w := by
 have hsz : sz ≤ s.size := by have := Ty.num_size s.data.toList; rw [hn, Ty.length_data] at this; exact this
 have HN := Lib.hid hn
 have e1 : (Ty.num s.data.toList).1 = n := by rw [hn]
 have e2 : (Ty.num s.data.toList).2.1 = sz := by rw [hn]
 have e3 : (Ty.num s.data.toList).2.2 = 0 := by rw [hn]
 obtain ⟨hm1, hm2⟩ := hm
 clear hn
 by_cases h1 : most < 0
 ·have HT := Lib.hid (Ty.txt_long e3 (.inl h1))
  clear e1 e2 e3
  go_enter Tryz.func174, Tryz.ntmps174
  go_wp2_with fail
  refine (Ty.number_is s _ h hs HN.out).mono ?_
  rintro e w' ⟨rfl, rfl⟩
  go_wp2
  go_ret3
  exact ⟨by unfold Ty.txtV; rw [HT.out]; rfl, rfl⟩
 ·by_cases h2 : most < (n : Int)
  ·have HT := Lib.hid (Ty.txt_long e3 (.inr (by rw [e1]; exact h2)))
   clear e1 e2 e3
   go_enter Tryz.func174, Tryz.ntmps174
   go_wp2_with fail
   refine (Ty.number_is s _ h hs HN.out).mono ?_
   rintro e w' ⟨rfl, rfl⟩
   go_wp2
   go_ret3
   exact ⟨by unfold Ty.txtV; rw [HT.out]; rfl, rfl⟩
  ·by_cases h3 : (s.size : Int) - (sz : Int) < (n : Int)
   ·have HT := Lib.hid (Ty.txt_short e3 (most := most) (by rw [e1]; omega) (by rw [e1, e2, Ty.length_data]; omega))
    clear e1 e2 e3
    go_enter Tryz.func174, Tryz.ntmps174
    go_wp2_with fail
    refine (Ty.number_is s _ h hs HN.out).mono ?_
    rintro e w' ⟨rfl, rfl⟩
    go_wp2
    go_ret3
    exact ⟨by unfold Ty.txtV; rw [HT.out]; rfl, rfl⟩
   ·have HT := Lib.hid (Ty.txt_whole e3 (most := most) (by rw [e1]; omega) (by rw [e1, e2, Ty.length_data]; omega))
    have E1 := Lib.hid e1
    have E2 := Lib.hid e2
    clear e1 e2 e3
    have hns : n ≤ s.size := by omega
    have hes : sz + n ≤ s.size := by omega
    go_enter Tryz.func174, Tryz.ntmps174
    go_wp2_with fail
    refine (Ty.number_is s _ h hs HN.out).mono ?_
    rintro e w' ⟨rfl, rfl⟩
    go_wp2
    go_ret3
    refine ⟨?_, rfl⟩
    unfold Ty.txtV
    rw [HT.out]
    simp only [E1.out, E2.out, Ty.extract_S, Nat.add_sub_cancel_left, Int.natCast_add]
    rfl
theorem Ty.text_r (s : ByteArray) (most : Int) (w : World) (h : Ty.Tabs w) (hs : s.size ≤ 9223372036854775807) (hm : -9223372036854775808 ≤ most ∧ most ≤ 9223372036854775807) :
 Calls Tryz.prog 174 #[.string s, .int .i64 most] w fun e w' => e = .returned (Ty.txtV s.data.toList most) ∧ w' = w := by
 by_cases he : (Ty.num s.data.toList).2.2 = 0
 ·exact Ty.text_good s most w h hs hm (n := (Ty.num s.data.toList).1) (sz := (Ty.num s.data.toList).2.1) (by rw [← he])
 ·exact Ty.text_bad s most w h hs he
end Go.Proofs.YtbelkhkllneifaaGreatDoor
namespace Go.Proofs.YtbelkhkllneifaaGreatDoor
open Go.RowKit
def Cl.nul : Kn.V := ⟨true, 0, ⟨#[]⟩⟩
def Cl.ofN (x : Int) : Kn.V := ⟨false, x, ⟨#[]⟩⟩
def Cl.ofS (t : List UInt8) : Kn.V := ⟨false, 0, Ty.S t⟩
def Cl.cells (l : List Kn.V) : List Value := l.flatMap fun v => [.bool v.null, .int .i64 v.n, .string v.s]
theorem Cl.cells_get : ∀ (l : List Kn.V) (i : Nat) (x : Kn.V), l[i]? = some x → (Cl.cells l)[i * 3]? = some (.bool x.null) ∧ (Cl.cells l)[i * 3 + 1]? = some (.int .i64 x.n) ∧ (Cl.cells l)[i * 3 + 2]? = some (.string x.s)
 | [], _, _, h => by cases h
 | v :: l, 0, x, h => by
   obtain rfl : v = x := by simpa using h
   exact ⟨rfl, rfl, rfl⟩
 | v :: l, i + 1, x, h => by
   have ih := Cl.cells_get l i x (by simpa using h)
   have e : Cl.cells (v :: l) = [.bool v.null, .int .i64 v.n, .string v.s] ++ Cl.cells l := rfl
   rw [e]
   refine ⟨?_, ?_, ?_⟩
   ·rw [List.getElem?_append_right (by simp; omega), show (i + 1) * 3 - [Value.bool v.null, .int .i64 v.n, .string v.s].length = i * 3 by simp; omega]; exact ih.1
   ·rw [List.getElem?_append_right (by simp; omega), show (i + 1) * 3 + 1 - [Value.bool v.null, .int .i64 v.n, .string v.s].length = i * 3 + 1 by simp; omega]; exact ih.2.1
   ·rw [List.getElem?_append_right (by simp; omega), show (i + 1) * 3 + 2 - [Value.bool v.null, .int .i64 v.n, .string v.s].length = i * 3 + 2 by simp; omega]; exact ih.2.2
theorem Cl.infoV : (Tryz.prog.info? 33).map (fun i => (i.zero, i.size, i.bytes)) = some (some (.agg #[.bool false, .int .i64 0, .string ⟨#[]⟩]), 3, 32) := by kernel_rfl
def Cl.Own (base : Nat) (w : World) (v : Value) (L : List Kn.V) : Prop := w.ownsRow base 33 3 v L.length (Cl.cells L)
theorem Cl.Own.nil (base : Nat) (w : World) : Cl.Own base w (.slice none 0 0) [] := World.ownsRow_nil w base _ 3
theorem Cl.addr_add (b i : Nat) : (⟨b, 0, none⟩ : Addr).add i = ⟨b, i, none⟩ := by unfold Addr.add; split <;> simp_all
theorem Cl.Own.vals {base : Nat} {w : World} {v : Value} {L : List Kn.V} (h : Cl.Own base w v L) : Kn.Vals w v L := by
 rcases h.2 with ⟨rfl, e0⟩ | ⟨g, cap, cur, rfl, hb, hg, hc, hm, _⟩
 ·obtain rfl := List.eq_nil_of_length_eq_zero e0
  exact ⟨_, 0, rfl, .inl rfl⟩
 ·refine ⟨_, cap, rfl, .inr ⟨g, 0, rfl, (Array.getElem?_eq_some_iff.1 hg).1, by unfold maxLen at hm; omega, fun i x hx => ?_⟩⟩
  have hcl := World.ownsRow.cells h (g := g) rfl
  obtain ⟨h0, h1, h2⟩ := Cl.cells_get L i x hx
  have a0 := hcl _ _ h0
  have a1 := hcl _ _ h1
  have a2 := hcl _ _ h2
  rw [Cl.addr_add] at a0 a1 a2
  rw [Nat.zero_add]
  exact ⟨a0, a1, a2⟩
theorem Cl.Own.base_le {base : Nat} {w : World} {v : Value} {L : List Kn.V} (h : Cl.Own base w v L) : ∀ k, v.ownBlock = some k → base ≤ k := fun k hk => (World.ownsRow.lt h k hk).1
theorem Cl.Own.kept {base : Nat} {w w' : World} {v : Value} {L : List Kn.V} (h : Cl.Own base w v L) (g : Below w.heap.size w w') : Cl.Own base w' v L := by
 refine ⟨h.1, ?_⟩
 rcases h.2 with hn | ⟨b, cap, cur, rfl, hbb, hgg, rest⟩
 ·exact .inl hn
 ·exact .inr ⟨b, cap, cur, rfl, hbb, by rw [g.block b (Array.getElem?_eq_some_iff.1 hgg).1]; exact hgg, rest⟩
theorem Cl.own_below {wo w w' : World} {v v' : Value} {L : List Kn.V} (hb : Below wo.heap.size wo w) (ho : Cl.Own wo.heap.size w v L) (g : Ty.Grew w w' v v') : Below wo.heap.size wo w' :=
 hb.trans (g.below hb.size ho.base_le)
theorem Cl.wpList_append_valT {base : Nat} {w0 : World} {v : Value} {M : List Kn.V} (T : TypeId) (hT : Tryz.prog.underlying T = some (.slice 33)) (x : Kn.V) (hown : Cl.Own base w0 v M) (hb : base ≤ w0.heap.size) (hl : M.length + 1 ≤ 1048576)
 {ops : Array Oper} {rest : List Oper} {o : Oper} {a : Act} {Q : Exit → Act → World → Prop} (s y : Operand) (q : Nat) (hq : q = w0.heap.size) (cs : Array Value) (hcs : cs = #[.bool x.null, .int .i64 x.n, .string x.s]) (hgd : o.guard = none)
 (ho : o.op = .call { callee := .builtin .append, args := #[s, y], argTypes := #[T, T] })
 (hs : a.eval s = v) (hx : a.eval y = .slice (some ⟨q, 0, none⟩) 1 1)
 (h : ∀ v' w', Cl.Own base w' v' (M ++ [x]) → Ty.Grew w0 w' v v' → wpList Tryz.prog ops Q rest (a.put o.dst v') w') :
 wpList Tryz.prog ops Q (o :: rest) a (w0.alloc (.cells cs 33)) := by
 subst hcs hq
 obtain ⟨i0, hi, hz0, hz1, hz2⟩ := info_parts Cl.infoV
 refine Ty.wpList_append_tight _ hgd s y T ho base 33 i0 _ 3 32 hT hi hz0 hz1 hz2 rfl (by decide) v M.length (Cl.cells M) hs (World.ownsRow.alloc hown _) ⟨w0.heap.size, 0, none⟩ 1 1 [.bool x.null, .int .i64 x.n, .string x.s] hx rfl (fun j u hj => ?_)
  (fun u hu => ?_) (by unfold maxLen; omega) (by omega) (by simp; omega) fun v' w' h1 h2 => h v' w' ?_ (h2.behind _)
 ·rw [Cl.addr_add]
  exact Kn.cell_new w0 _ _ j u (by simpa using hj)
 ·simp only [List.mem_cons, List.not_mem_nil, or_false] at hu
  rcases hu with rfl | rfl | rfl <;> rfl
 ·unfold Cl.Own
  have e : Cl.cells (M ++ [x]) = Cl.cells M ++ [.bool x.null, .int .i64 x.n, .string x.s] := by unfold Cl.cells; rw [List.flatMap_append]; rfl
  rw [List.length_append, e]
  exact h1
theorem Cl.wpList_append_val {base : Nat} {w0 : World} {v : Value} {M : List Kn.V} (x : Kn.V) (hown : Cl.Own base w0 v M) (hb : base ≤ w0.heap.size) (hl : M.length + 1 ≤ 1048576)
 {ops : Array Oper} {rest : List Oper} {o : Oper} {a : Act} {Q : Exit → Act → World → Prop} (s y : Operand) (cs : Array Value) (hcs : cs = #[.bool x.null, .int .i64 x.n, .string x.s]) (hgd : o.guard = none)
 (ho : o.op = .call { callee := .builtin .append, args := #[s, y], argTypes := #[38, 38] })
 (hs : a.eval s = v) (hx : a.eval y = .slice (some ⟨w0.heap.size, 0, none⟩) 1 1)
 (h : ∀ v' w', Cl.Own base w' v' (M ++ [x]) → Ty.Grew w0 w' v v' → wpList Tryz.prog ops Q rest (a.put o.dst v') w') :
 wpList Tryz.prog ops Q (o :: rest) a (w0.alloc (.cells cs 33)) :=
 Cl.wpList_append_valT 38 Tryz.underlying38 x hown hb hl s y _ rfl cs hcs hgd ho hs hx h
theorem Cl.Own.setOther {base : Nat} {w : World} {v : Value} {L : List Kn.V} (h : Cl.Own base w v L) {g i : Nat} (hg : g < base) (u : Value) : Cl.Own base (w.setCell ⟨g, i, none⟩ u) v L := by
 refine ⟨h.1, ?_⟩
 rcases h.2 with hn | ⟨b, cap, cur, rfl, hbb, hgg, rest⟩
 ·exact .inl hn
 ·exact .inr ⟨b, cap, cur, rfl, hbb, by rw [Below.heap_setCell _ _ _ _ (by show b ≠ g; omega)]; exact hgg, rest⟩
theorem Cl.own_grown {base : Nat} {w w' : World} {v v' : Value} {L : List Kn.V} (hb : base ≤ w.heap.size) (ho : Cl.Own base w v L) (g : Ty.Grew w w' v v') : Below base w w' :=
 g.below hb ho.base_le
theorem Cl.wpList_append_val_at {base : Nat} {w0 : World} {v : Value} {M : List Kn.V} (x : Kn.V) (hown : Cl.Own base w0 v M) (hb : base ≤ w0.heap.size) (hl : M.length + 1 ≤ 1048576)
 {ops : Array Oper} {rest : List Oper} {o : Oper} {a : Act} {Q : Exit → Act → World → Prop} (s y : Operand) (q : Nat) (hq : q = w0.heap.size) (cs : Array Value) (hcs : cs = #[.bool x.null, .int .i64 x.n, .string x.s]) (hgd : o.guard = none)
 (ho : o.op = .call { callee := .builtin .append, args := #[s, y], argTypes := #[38, 38] })
 (hs : a.eval s = v) (hx : a.eval y = .slice (some ⟨q, 0, none⟩) 1 1)
 (h : ∀ v' w', Cl.Own base w' v' (M ++ [x]) → Ty.Grew w0 w' v v' → wpList Tryz.prog ops Q rest (a.put o.dst v') w') :
 wpList Tryz.prog ops Q (o :: rest) a (w0.alloc (.cells cs 33)) := by
 exact Cl.wpList_append_valT 38 Tryz.underlying38 x hown hb hl s y q hq cs hcs hgd ho hs hx h
theorem Cl.Own.by {base b : Nat} {w w' : World} {v : Value} {L : List Kn.V} (h : Cl.Own base w v L) (hg : w.grownBy w' (some b)) (hb : b < base) : Cl.Own base w' v L :=
 World.ownsRow.kept h hg (.inr fun e => by have := h.base_le b e; omega)
def Cl.mf (F : Nat → Kn.V) (i : Nat) : Value := if i % 3 = 0 then .bool (F (i / 3)).null else if i % 3 = 1 then .int .i64 (F (i / 3)).n else .string (F (i / 3)).s
theorem Cl.mf0 (F : Nat → Kn.V) (i : Nat) : Cl.mf F (i * 3) = .bool (F i).null := by
 unfold Cl.mf
 rw [if_pos (by omega), show i * 3 / 3 = i by omega]
theorem Cl.mf1 (F : Nat → Kn.V) (i : Nat) : Cl.mf F (i * 3 + 1) = .int .i64 (F i).n := by
 unfold Cl.mf
 rw [if_neg (by omega), if_pos (by omega), show (i * 3 + 1) / 3 = i by omega]
theorem Cl.mf2 (F : Nat → Kn.V) (i : Nat) : Cl.mf F (i * 3 + 2) = .string (F i).s := by
 unfold Cl.mf
 rw [if_neg (by omega), if_neg (by omega), show (i * 3 + 2) / 3 = i by omega]
def Cl.Row (w : World) (g n : Nat) (F : Nat → Kn.V) : Prop := w.rowIs g 33 (n * 3) (Cl.mf F)
theorem Cl.Row.made (w : World) (n : Nat) : Cl.Row (w.alloc (.cells (madeCells #[.bool false, .int .i64 0, .string ⟨#[]⟩] (n * 3)) 33)) w.heap.size n (fun _ => Cl.ofN 0) := by
 refine ⟨_, Go.Deep.blk_alloc_new _ _, size_madeCells _ _, fun i hi => ?_⟩
 unfold madeCells
 rw [Array.getElem?_map, Array.getElem?_range, if_pos hi]
 unfold Cl.mf Cl.ofN
 have h3 : i % 3 = 0 ∨ i % 3 = 1 ∨ i % 3 = 2 := by omega
 rcases h3 with h | h | h <;> simp [h]
theorem Cl.Row.lt {w : World} {g n : Nat} {F : Nat → Kn.V} (h : Cl.Row w g n F) : g < w.heap.size := World.rowIs.lt h
theorem Cl.Row.c0 {w : World} {g n : Nat} {F : Nat → Kn.V} (h : Cl.Row w g n F) {k : Nat} (hk : k < n) : w.cell? ⟨g, k * 3, none⟩ = some (.bool (F k).null) := by rw [World.rowIs.cell h (by omega), Cl.mf0]
theorem Cl.Row.c1 {w : World} {g n : Nat} {F : Nat → Kn.V} (h : Cl.Row w g n F) {k : Nat} (hk : k < n) : w.cell? ⟨g, k * 3 + 1, none⟩ = some (.int .i64 (F k).n) := by rw [World.rowIs.cell h (by omega), Cl.mf1]
theorem Cl.Row.c2 {w : World} {g n : Nat} {F : Nat → Kn.V} (h : Cl.Row w g n F) {k : Nat} (hk : k < n) : w.cell? ⟨g, k * 3 + 2, none⟩ = some (.string (F k).s) := by rw [World.rowIs.cell h (by omega), Cl.mf2]
theorem Cl.Row.congr {w : World} {g n : Nat} {F G : Nat → Kn.V} (h : Cl.Row w g n F) (e : ∀ i, i < n → F i = G i) : Cl.Row w g n G :=
 World.rowIs.congr h fun i hi => by unfold Cl.mf; rw [e (i / 3) (by omega)]
theorem Cl.Row.set0 {w : World} {g n : Nat} {F : Nat → Kn.V} (h : Cl.Row w g n F) (k : Nat) (b : Bool) : Cl.Row (w.setCell ⟨g, k * 3, none⟩ (.bool b)) g n (fun i => if i = k then ⟨b, (F k).n, (F k).s⟩ else F i) :=
 World.rowIs.congr (World.rowIs.set h (k * 3) (.bool b)) fun i _ => by
  unfold Cl.mf
  dsimp only
  by_cases e : i = k * 3
  ·subst e
   rw [if_pos rfl, if_pos (by omega), if_pos (by omega)]
  ·rw [if_neg e]
   by_cases e2 : i / 3 = k
   ·rw [if_pos e2, e2, if_neg (show ¬ i % 3 = 0 by omega), if_neg (show ¬ i % 3 = 0 by omega)]
   ·rw [if_neg e2]
theorem Cl.Row.set1 {w : World} {g n : Nat} {F : Nat → Kn.V} (h : Cl.Row w g n F) (k : Nat) (x : Int) : Cl.Row (w.setCell ⟨g, k * 3 + 1, none⟩ (.int .i64 x)) g n (fun i => if i = k then ⟨(F k).null, x, (F k).s⟩ else F i) :=
 World.rowIs.congr (World.rowIs.set h (k * 3 + 1) (.int .i64 x)) fun i _ => by
  unfold Cl.mf
  dsimp only
  by_cases e : i = k * 3 + 1
  ·subst e
   rw [if_pos rfl, if_neg (by omega), if_pos (by omega), if_pos (by omega)]
  ·rw [if_neg e]
   by_cases e2 : i / 3 = k
   ·rw [if_pos e2, e2]
    by_cases h0 : i % 3 = 0
    ·rw [if_pos h0, if_pos h0]
    ·rw [if_neg h0, if_neg h0, if_neg (show ¬ i % 3 = 1 by omega), if_neg (show ¬ i % 3 = 1 by omega)]
   ·rw [if_neg e2]
theorem Cl.Row.set2 {w : World} {g n : Nat} {F : Nat → Kn.V} (h : Cl.Row w g n F) (k : Nat) (s : ByteArray) : Cl.Row (w.setCell ⟨g, k * 3 + 2, none⟩ (.string s)) g n (fun i => if i = k then ⟨(F k).null, (F k).n, s⟩ else F i) :=
 World.rowIs.congr (World.rowIs.set h (k * 3 + 2) (.string s)) fun i _ => by
  unfold Cl.mf
  dsimp only
  by_cases e : i = k * 3 + 2
  ·subst e
   rw [if_pos rfl, if_neg (by omega), if_neg (by omega), if_pos (by omega)]
  ·rw [if_neg e]
   by_cases e2 : i / 3 = k
   ·rw [if_pos e2, e2]
    by_cases h0 : i % 3 = 0
    ·rw [if_pos h0, if_pos h0]
    ·rw [if_neg h0, if_neg h0, if_pos (show i % 3 = 1 by omega), if_pos (show i % 3 = 1 by omega)]
   ·rw [if_neg e2]
theorem Cl.Row.vals {w : World} {g n cap : Nat} {F : Nat → Kn.V} {L : List Kn.V} (h : Cl.Row w g n F) (hL : L.length = n) (hF : ∀ i x, L[i]? = some x → F i = x) (hn : n ≤ 9223372036854775807) : Kn.Vals w (.slice (some ⟨g, 0, none⟩) (n : Nat) cap) L := by
 subst hL
 refine ⟨_, cap, rfl, .inr ⟨g, 0, rfl, h.lt, hn, fun i x hx => ?_⟩⟩
 have hi := (List.getElem?_eq_some_iff.1 hx).1
 have e := hF i x hx
 rw [Nat.zero_add, ← e]
 exact ⟨h.c0 hi, h.c1 hi, h.c2 hi⟩
theorem Cl.Row.below {w w' : World} {g n : Nat} {F : Nat → Kn.V} (h : Cl.Row w g n F) (k : Below w.heap.size w w') : Cl.Row w' g n F :=
 World.rowIs.of_block h (k.block g h.lt)
theorem Cl.run_makeV (n : Nat) (hn : n ≤ 8796093022208) (w : World) : (Instr.makeSlice 38 (.int .i64 (n : Int)) (.int .i64 (n : Int))).run Tryz.prog w = .ok (.slice (some ⟨w.heap.size, 0, none⟩) n n) (w.alloc (.cells (madeCells #[.bool false, .int .i64 0, .string ⟨#[]⟩] (n * 3)) 33)) := by
 obtain ⟨i0, hi, hz0, hz1, hz2⟩ := info_parts Cl.infoV
 have := Go.run_make (P := Tryz.prog) w 38 33 i0 _ Tryz.underlying38 hi hz0 .i64 .i64 n n (by omega) (Int.le_refl _) (by rw [hz2]; omega) (by omega)
 rw [hz1, Int.toNat_natCast] at this
 exact this
theorem Cl.below_cell {B : Nat} {w w' : World} (h : Below B w w') {g i : Nat} (hg : B ≤ g) (u : Value) : Below B w (w'.setCell ⟨g, i, none⟩ u) :=
 ⟨h.os, h.tape, h.output, by have := h.size; simpa [World.setCell] using this, fun j hj => (Below.heap_setCell _ _ _ _ (by show j ≠ g; omega)).trans (h.block j hj)⟩
def Cl.fo (O : List Kn.V) (i : Nat) : Kn.V := O.getD i (Cl.ofN 0)
theorem Cl.fo_nil (i : Nat) : Cl.fo [] i = Cl.ofN 0 := by unfold Cl.fo; simp
theorem Cl.fo_end {O : List Kn.V} {k : Nat} (h : O.length = k) : Cl.fo O k = Cl.ofN 0 := by
 unfold Cl.fo
 rw [List.getD, List.getElem?_eq_none (by omega)]
 rfl
theorem Cl.fo_snoc (O : List Kn.V) (x : Kn.V) {k : Nat} (h : O.length = k) (i : Nat) : (if i = k then x else Cl.fo O i) = Cl.fo (O ++ [x]) i := by
 subst h
 unfold Cl.fo
 rw [List.getD, List.getD]
 by_cases e : i = O.length
 ·subst e
  rw [if_pos rfl, List.getElem?_append_right (Nat.le_refl _), Nat.sub_self]
  rfl
 ·rw [if_neg e]
  rcases Nat.lt_or_ge i O.length with h | h
  ·rw [List.getElem?_append_left h]
  ·rw [List.getElem?_eq_none h, List.getElem?_eq_none (by rw [List.length_append, List.length_singleton]; omega)]
theorem Cl.Row.start {w : World} {n : Nat} : Cl.Row (w.alloc (.cells (madeCells #[.bool false, .int .i64 0, .string ⟨#[]⟩] (n * 3)) 33)) w.heap.size n (Cl.fo []) :=
 (Cl.Row.made w n).congr fun i _ => (Cl.fo_nil i).symm
theorem Cl.Row.snoc_nul {w : World} {g n k : Nat} {O : List Kn.V} (h : Cl.Row w g n (Cl.fo O)) (hk : O.length = k) : Cl.Row (w.setCell ⟨g, k * 3, none⟩ (.bool true)) g n (Cl.fo (O ++ [Cl.nul])) :=
 (h.set0 k true).congr fun i _ => by rw [Cl.fo_end hk]; exact Cl.fo_snoc O Cl.nul hk i
theorem Cl.Row.snoc_n {w : World} {g n k : Nat} {O : List Kn.V} (h : Cl.Row w g n (Cl.fo O)) (hk : O.length = k) (x : Int) : Cl.Row (w.setCell ⟨g, k * 3 + 1, none⟩ (.int .i64 x)) g n (Cl.fo (O ++ [Cl.ofN x])) :=
 (h.set1 k x).congr fun i _ => by rw [Cl.fo_end hk]; exact Cl.fo_snoc O (Cl.ofN x) hk i
theorem Cl.Row.snoc_s {w : World} {g n k : Nat} {O : List Kn.V} (h : Cl.Row w g n (Cl.fo O)) (hk : O.length = k) (t : Tx.Str) : Cl.Row (w.setCell ⟨g, k * 3 + 2, none⟩ (.string (Ty.S t))) g n (Cl.fo (O ++ [Cl.ofS t])) :=
 (h.set2 k (Ty.S t)).congr fun i _ => by rw [Cl.fo_end hk]; exact Cl.fo_snoc O (Cl.ofS t) hk i
theorem Cl.Row.setV {w : World} {g n : Nat} {F : Nat → Kn.V} (h : Cl.Row w g n F) (k : Nat) (x : Kn.V) : Cl.Row (((w.setCell ⟨g, k * 3, none⟩ (.bool x.null)).setCell ⟨g, k * 3 + 1, none⟩ (.int .i64 x.n)).setCell ⟨g, k * 3 + 2, none⟩ (.string x.s)) g n (fun i => if i = k then x else F i) :=
 (((h.set0 k x.null).set1 k x.n).set2 k x.s).congr fun i _ => by
   by_cases e : i = k
   ·simp [e]
   ·simp [e]
theorem Cl.Row.snoc_v {w : World} {g n k : Nat} {O : List Kn.V} (h : Cl.Row w g n (Cl.fo O)) (hk : O.length = k) (x : Kn.V) : Cl.Row (((w.setCell ⟨g, k * 3, none⟩ (.bool x.null)).setCell ⟨g, k * 3 + 1, none⟩ (.int .i64 x.n)).setCell ⟨g, k * 3 + 2, none⟩ (.string x.s)) g n (Cl.fo (O ++ [x])) :=
 (h.setV k x).congr fun i _ => Cl.fo_snoc O x hk i
theorem Cl.Row.done {w : World} {g n cap : Nat} {O : List Kn.V} (h : Cl.Row w g n (Cl.fo O)) (hO : O.length = n) (hn : n ≤ 9223372036854775807) : Kn.Vals w (.slice (some ⟨g, 0, none⟩) (n : Nat) cap) O :=
 h.vals hO (fun i x hx => by unfold Cl.fo; rw [List.getD, hx]; rfl) hn
end Go.Proofs.YtbelkhkllneifaaGreatDoor
namespace Go.Proofs.YtbelkhkllneifaaGreatDoor.Ig
open Go.RowKit
open Ty (num encU zig zag I64 U64)
def nth (L : List Int) (i : Nat) : Int := L.getD i 0
theorem nth_mem {L : List Int} {i : Nat} (h : i < L.length) : nth L i ∈ L := by
 unfold nth
 rw [List.getD, List.getElem?_eq_getElem h]
 exact List.getElem_mem h
theorem nth_get {L : List Int} {i : Nat} (h : i < L.length) : nth L i = L[i] := by
 unfold nth
 rw [List.getD, List.getElem?_eq_getElem h]
 rfl
theorem nth_i64 {L : List Int} (hL : ∀ x ∈ L, I64 x) {i : Nat} (h : i < L.length) : I64 (nth L i) := hL _ (nth_mem h)
theorem len_encI (x : Int) : (encI x).length ≤ 9 := Ty.encU_len9 _
theorem len_flat (L : List Int) : (L.flatMap encI).length ≤ 9 * L.length := by
 induction L with
 | nil => simp
 | cons x L ih =>
   have := len_encI x
   simp only [List.flatMap_cons, List.length_append, List.length_cons]
   omega
theorem take_next {L : List Int} {k : Nat} (h : k < L.length) : L.take (k + 1) = L.take k ++ [nth L k] := by
 rw [List.take_succ_eq_append_getElem h, nth_get h]
theorem flat_next {L : List Int} {k : Nat} (h : k < L.length) : (L.take (k + 1)).flatMap encI = (L.take k).flatMap encI ++ encI (nth L k) := by
 rw [take_next h, List.flatMap_append]
 simp
theorem len_flat_take (L : List Int) (k : Nat) : ((L.take k).flatMap encI).length ≤ 9 * k := by
 have h1 := len_flat (L.take k)
 have h2 : (L.take k).length ≤ k := List.length_take_le _ _
 omega
def prv (L : List Int) : Nat → Int
 | 0 => 0
 | k + 1 => nth L k
theorem diffs_nth : ∀ (L : List Int) (p : Int) (k : Nat), k < L.length → nth (diffs p L) k = wrap64 (nth L k - (match k with | 0 => p | j + 1 => nth L j))
 | [], _, _, h => by simp at h
 | x :: L, p, 0, _ => rfl
 | x :: L, p, k + 1, h => by
   have hk : k < L.length := by simpa using h
   have ih := diffs_nth L x k hk
   have e1 : nth (diffs p (x :: L)) (k + 1) = nth (diffs x L) k := by simp [nth, diffs]
   have e2 : nth (x :: L) (k + 1) = nth L k := by simp [nth]
   rw [e1, e2, ih]
   cases k with
   | zero => rfl
   | succ j =>
     have : nth (x :: L) (j + 1) = nth L j := by simp [nth]
     simp only [this]
theorem diffs_at {L : List Int} {k : Nat} (h : k < L.length) : nth (diffs 0 L) k = wrap64 (nth L k - prv L k) := by
 rw [diffs_nth L 0 k h]
 cases k <;> rfl
def Run (L : List Int) (k : Nat) : Prop := 0 < k ∧ k ≤ L.length ∧ (∀ j, j < k → nth L j = nth L 0) ∧ (k < L.length → nth L k ≠ nth L 0)
theorem nth_drop (L : List Int) (k i : Nat) : nth (L.drop k) i = nth L (k + i) := by
 unfold nth
 rw [List.getD, List.getD, List.getElem?_drop]
theorem rep_of {L : List Int} {k : Nat} (hk : k ≤ L.length) {x : Int} (h : ∀ j, j < k → nth L j = x) : L = List.replicate k x ++ L.drop k := by
 have e : L.take k = List.replicate k x := by
  refine List.eq_replicate_iff.2 ⟨by rw [List.length_take]; omega, fun y hy => ?_⟩
  obtain ⟨i, hi, rfl⟩ := List.getElem_of_mem hy
  rw [List.length_take] at hi
  have := h i (by omega)
  rw [nth_get (by omega)] at this
  rw [List.getElem_take]
  exact this
 conv => lhs; rw [← List.take_append_drop k L, e]
theorem grp_head (L : List Int) : ∀ p ∈ (grp L).head?, p.2 = nth L 0 := by
 cases L with
 | nil => intro p hp; cases hp
 | cons x L =>
   intro p hp
   show p.2 = x
   unfold grp at hp
   cases hg : grp L with
   | nil =>
     rw [hg] at hp
     have : p = (1, x) := by simpa [join1] using hp.symm
     rw [this]
   | cons q g =>
     obtain ⟨j, y⟩ := q
     rw [hg] at hp
     by_cases e : y = x
     ·subst e
      rw [join1_same] at hp
      have : p = (j + 1, y) := by simpa using hp.symm
      rw [this]
     ·rw [join1_other e] at hp
      have : p = (1, x) := by simpa using hp.symm
      rw [this]
theorem grp_run {L : List Int} {k : Nat} (h : Run L k) : grp L = (k, nth L 0) :: grp (L.drop k) := by
 obtain ⟨h0, h1, h2, h3⟩ := h
 obtain ⟨j, rfl⟩ : ∃ j, k = j + 1 := ⟨k - 1, by omega⟩
 conv => lhs; rw [rep_of h1 h2]
 refine grp_rep j (nth L 0) (L.drop (j + 1)) _ rfl fun p hp => ?_
 have e := grp_head (L.drop (j + 1)) p hp
 have hne : L.drop (j + 1) ≠ [] := by intro e; rw [e] at hp; cases hp
 have hl : j + 1 < L.length := by
  rcases Nat.lt_or_ge (j + 1) L.length with h | h
  ·exact h
  ·exact absurd (List.drop_eq_nil_of_le h) hne
 rw [e, nth_drop]
 exact h3 hl
theorem runs_next {L : List Int} {k : Nat} (h : Run L k) : (grp L).flatMap encR = (encU k ++ encI (nth L 0)) ++ (grp (L.drop k)).flatMap encR := by
 rw [grp_run h]
 simp [encR]
theorem low_next {L : List Int} {k : Nat} (h0 : 0 < k) (h : k < L.length) : low (L.take (k + 1)) = min (low (L.take k)) (nth L k) := by
 rw [take_next h]
 cases L with
 | nil => simp at h
 | cons x L =>
   obtain ⟨j, rfl⟩ : ∃ j, k = j + 1 := ⟨k - 1, by omega⟩
   simp only [List.take_succ_cons, List.cons_append, low, List.foldl_append, List.foldl_cons, List.foldl_nil]
theorem low_one {L : List Int} (h : 0 < L.length) : low (L.take 1) = nth L 0 := by
 cases L with
 | nil => simp at h
 | cons x L => rfl
theorem low_i64 {L : List Int} (hL : ∀ x ∈ L, I64 x) (h : 0 < L.length) : I64 (low L) := hL _ (low_mem L (by intro e; rw [e] at h; simp at h))
theorem off_nth {L : List Int} {i : Nat} (h : i < L.length) : ((off L i : Nat) : Int) = nth L i - low L := by
 have := low_le L _ (nth_mem h)
 unfold off
 rw [List.getD, List.getElem?_eq_getElem h]
 rw [nth_get h] at this ⊢
 simp only [Option.getD_some]
 omega
theorem off_wrap {L : List Int} (hL : ∀ x ∈ L, I64 x) {i : Nat} (h : i < L.length) : IntKind.u64.wrap (IntKind.u64.wrap (nth L i) - IntKind.u64.wrap (low L)) = ((off L i : Nat) : Int) := by
 have h1 := nth_i64 hL h
 have h2 := low_i64 hL (by omega)
 have h3 := off_nth h
 have h4 := low_le L _ (nth_mem h)
 unfold I64 at h1 h2
 rw [h3]
 simp only [IntKind.wrap_u64]
 omega
theorem sum_wrap {x : Int} {n : Nat} : wrap64 (IntKind.u64.wrap (IntKind.u64.wrap x + (n : Int))) = wrap64 (x + (n : Int)) := by
 simp only [IntKind.wrap_u64]
 unfold wrap64
 omega
end Go.Proofs.YtbelkhkllneifaaGreatDoor.Ig
namespace Go.Proofs.YtbelkhkllneifaaGreatDoor
open Go.RowKit
def Ty.Cur (b : Nat) (w : World) (l : List UInt8) (e : Nat) : Prop := w.heap[b]? = some (.cells #[.string (Ty.S l), .int .i64 (e : Int)] 193 (0, 0))
theorem Ty.Cur.cells {b : Nat} {w : World} {l : List UInt8} {e : Nat} (h : Ty.Cur b w l e) : w.cell? ⟨b, 0, none⟩ = some (.string (Ty.S l)) ∧ w.cell? ⟨b, 1, none⟩ = some (.int .i64 (e : Int)) ∧ w.frozen? ⟨b, 0, none⟩ = false ∧ w.frozen? ⟨b, 1, none⟩ = false := by
 unfold Ty.Cur at h
 refine ⟨?_, ?_, ?_, ?_⟩ <;> simp [World.cell?, World.frozen?, h]
theorem Ty.Cur.lt {b : Nat} {w : World} {l : List UInt8} {e : Nat} (h : Ty.Cur b w l e) : b < w.heap.size := lt_of_block h
theorem Ty.two_set0 {w : World} {b : Nat} {x y u : Value} {t : TypeId} (h : w.heap[b]? = some (.cells #[x, y] t (0, 0))) : (w.setCell ⟨b, 0, none⟩ u).heap[b]? = some (.cells #[u, y] t (0, 0)) := by
 have hlt := lt_of_block h
 have h' : w.heap[b] = .cells #[x, y] t (0, 0) := by simpa [Array.getElem?_eq_getElem hlt] using h
 show (w.heap.modify b _)[b]? = _
 rw [Array.getElem?_eq_getElem (by simpa using hlt), Array.getElem_modify_self, h']
 rfl
theorem Ty.two_set1 {w : World} {b : Nat} {x y u : Value} {t : TypeId} (h : w.heap[b]? = some (.cells #[x, y] t (0, 0))) : (w.setCell ⟨b, 1, none⟩ u).heap[b]? = some (.cells #[x, u] t (0, 0)) := by
 have hlt := lt_of_block h
 have h' : w.heap[b] = .cells #[x, y] t (0, 0) := by simpa [Array.getElem?_eq_getElem hlt] using h
 show (w.heap.modify b _)[b]? = _
 rw [Array.getElem?_eq_getElem (by simpa using hlt), Array.getElem_modify_self, h']
 rfl
theorem Ty.by_set (w : World) (b o : Nat) (u : Value) : w.grownBy (w.setCell ⟨b, o, none⟩ u) (some b) :=
 ⟨rfl, rfl, rfl, by simp [World.setCell], fun k _ hk => Below.heap_setCell _ _ _ _ (fun e => hk (by rw [e]))⟩
theorem Ty.by_refl (w : World) (r : Option Nat) : w.grownBy w r := ⟨rfl, rfl, rfl, Nat.le_refl _, fun _ _ _ => rfl⟩
theorem Ty.by_trans {a b c : World} {r : Option Nat} (h : a.grownBy b r) (k : b.grownBy c r) : a.grownBy c r :=
 ⟨k.os.trans h.os, k.tape.trans h.tape, k.output.trans h.output, Nat.le_trans h.size k.size, fun i hi hn => (k.block i (Nat.lt_of_lt_of_le hi h.size) hn).trans (h.block i hi hn)⟩
theorem Ty.Tabs.kept {w w' : World} (h : Ty.Tabs w) (hs : w.heap.size ≤ w'.heap.size) (hb : ∀ k, k < Ty.G → w'.heap[k]? = w.heap[k]?) : Ty.Tabs w' := by
 have hc : ∀ k o v, k < Ty.G → w.cell? ⟨k, o, none⟩ = some v → w'.cell? ⟨k, o, none⟩ = some v := fun k o v hk hv => (World.cell?_of_block (a := ⟨k, o, none⟩) (hb k hk)).trans hv
 exact ⟨hc _ _ _ (by decide) h.z0, hc _ _ _ (by decide) h.z1, hc _ _ _ (by decide) h.z2, hc _ _ _ (by decide) h.z3, hc _ _ _ (by decide) h.s0, hc _ _ _ (by decide) h.s1, hc _ _ _ (by decide) h.s2, hc _ _ _ (by decide) h.s3, Nat.le_trans h.two hs⟩
theorem Ty.Tabs.by {w w' : World} {r : Option Nat} (h : Ty.Tabs w) (hg : w.grownBy w' r) (hr : ∀ k, r = some k → Ty.G ≤ k) : Ty.Tabs w' :=
 h.kept hg.size fun k hk => hg.block k (by have := h.two; omega) (fun e => by have := hr k e.symm; omega)
def Ty.Left (b : Nat) (w : World) (v : Value) (l : List UInt8) (e' : Nat) (e : Ending) (w' : World) : Prop := e = .returned v ∧ Ty.Cur b w' l e' ∧ w.grownBy w' (some b)
set_option maxHeartbeats 400000 in
theorem Ty.from_c (l : List UInt8) (w : World) :
 Calls Tryz.prog 113 #[.string (Ty.S l)] w fun e w' => e = .returned (.pointer (some ⟨w.heap.size, 0, none⟩)) ∧ w' = w.alloc (.cells #[.string (Ty.S l), .int .i64 0] 193 (0, 0)) := by
 go_enter Tryz.func113, Tryz.ntmps113
 go_wp2
 go_ret
 exact ⟨rfl, rfl⟩
set_option maxHeartbeats 400000 in
theorem Ty.err_c (b : Nat) (l : List UInt8) (er : Nat) (w : World) (h : Ty.Cur b w l er) :
 Calls Tryz.prog 141 #[.pointer (some ⟨b, 0, none⟩)] w fun e w' => e = .returned (.int .i64 (er : Int)) ∧ w' = w := by
 obtain ⟨c0, c1, _, _⟩ := h.cells
 go_enter Tryz.func141, Tryz.ntmps141
 go_wp2
 go_ret
 exact ⟨rfl, rfl⟩
set_option maxHeartbeats 400000 in
theorem Ty.left_c (b : Nat) (l : List UInt8) (er : Nat) (w : World) (h : Ty.Cur b w l er) :
 Calls Tryz.prog 142 #[.pointer (some ⟨b, 0, none⟩)] w fun e w' => e = .returned (.int .i64 (l.length : Int)) ∧ w' = w := by
 obtain ⟨c0, c1, _, _⟩ := h.cells
 go_enter Tryz.func142, Tryz.ntmps142
 go_wp2
 go_ret
 exact ⟨rfl, rfl⟩
set_option maxHeartbeats 400000 in
theorem Ty.advance_c (b : Nat) (l : List UInt8) (er sz e' : Nat) (w : World) (h : Ty.Cur b w l er) (hsz : sz ≤ l.length) (hl : l.length ≤ 9223372036854775807) :
 Calls Tryz.prog 165 #[.pointer (some ⟨b, 0, none⟩), .int .i64 (sz : Int), .int .i64 (e' : Int)] w (Ty.Left b w (.tuple #[]) (l.drop sz) e') := by
 obtain ⟨c0, c1, f0, f1⟩ := h.cells
 have hss : sz ≤ (Ty.S l).size := hsz
 have hsl : (Ty.S l).size ≤ 9223372036854775807 := hl
 go_enter Tryz.func165, Tryz.ntmps165
 go_wp2
 go_end0
 have e1 : (Ty.S l).extract sz (Ty.S l).size = Ty.S (l.drop sz) := by
  rw [Ty.extract_S, Ty.data_S, Ty.size_S, List.take_of_length_le (by simp)]
 rw [e1]
 exact ⟨rfl, Ty.two_set1 (Ty.two_set0 h), Ty.by_trans (Ty.by_set _ _ _ _) (Ty.by_set _ _ _ _)⟩
def Ty.rdU (l : List UInt8) (e : Nat) : Nat × List UInt8 × Nat := if e ≠ 0 then (0, l, e) else ((Ty.num l).1, l.drop (Ty.num l).2.1, (Ty.num l).2.2)
def Ty.rdT (most : Int) (l : List UInt8) (e : Nat) : List UInt8 × List UInt8 × Nat := if e ≠ 0 then ([], l, e) else ((Ty.txt l most).1, l.drop (Ty.txt l most).2.1, (Ty.txt l most).2.2)
def Ty.rdB (l : List UInt8) (e : Nat) : Nat × List UInt8 × Nat := if e ≠ 0 then (0, l, e) else match l with
 | [] => (0, [], 2)
 | b :: r => (b.toNat, r, 0)
set_option maxHeartbeats 400000 in
theorem Ty.cuint_c (b : Nat) (l : List UInt8) (er : Nat) (w : World) (hw : Ty.Tabs w) (h : Ty.Cur b w l er) (hl : l.length ≤ 9223372036854775807) :
 Calls Tryz.prog 149 #[.pointer (some ⟨b, 0, none⟩)] w (Ty.Left b w (.int .u64 ((Ty.rdU l er).1 : Int)) (Ty.rdU l er).2.1 (Ty.rdU l er).2.2) := by
 obtain ⟨c0, c1, f0, f1⟩ := h.cells
 by_cases he : er = 0
 ·subst he
  have hsz := Ty.num_size l
  have HR : Hid (Ty.rdU l 0 = ((Ty.num l).1, l.drop (Ty.num l).2.1, (Ty.num l).2.2)) := Lib.hid (by simp [Ty.rdU])
  rw [HR.out]
  go_enter Tryz.func149, Tryz.ntmps149
  go_wp2_with fail
  refine (Ty.err_c b l 0 _ h).mono ?_
  rintro e w' ⟨rfl, rfl⟩
  go_wp2_with fail
  refine (Ty.number_c (Ty.S l) _ hw hl).mono ?_
  rintro e w2 ⟨rfl, rfl⟩
  unfold Ty.numV
  rw [Ty.data_S]
  go_wp2_with fail
  refine (Ty.advance_c b l 0 _ _ _ h hsz hl).mono ?_
  rintro e w3 ⟨rfl, hc, hg⟩
  go_wp2
  go_ret
  exact ⟨rfl, hc, hg⟩
 ·have hne : ((er : Int) != 0) = true := by rw [bne_iff_ne]; omega
  have HR : Hid (Ty.rdU l er = (0, l, er)) := Lib.hid (by simp [Ty.rdU, he])
  rw [HR.out]
  clear he
  go_enter Tryz.func149, Tryz.ntmps149
  go_wp2_with fail
  refine (Ty.err_c b l er _ h).mono ?_
  rintro e w' ⟨rfl, rfl⟩
  go_wp2
  go_ret
  exact ⟨rfl, h, Ty.by_refl _ _⟩
end Go.Proofs.YtbelkhkllneifaaGreatDoor
namespace Go.Proofs.YtbelkhkllneifaaGreatDoor
open Go.RowKit
theorem Ty.rdU_u64 (l : List UInt8) (e : Nat) : Ty.U64 (Ty.rdU l e).1 := by
 unfold Ty.rdU
 split
 ·show (0 : Nat) < 2 ^ 64; omega
 ·exact Ty.num_u64 l
set_option maxHeartbeats 400000 in
theorem Ty.cint_c (b : Nat) (l : List UInt8) (er : Nat) (w : World) (hw : Ty.Tabs w) (h : Ty.Cur b w l er) (hl : l.length ≤ 9223372036854775807) :
 Calls Tryz.prog 200 #[.pointer (some ⟨b, 0, none⟩)] w (Ty.Left b w (.int .i64 (Ty.zag ((Ty.rdU l er).1 : Int))) (Ty.rdU l er).2.1 (Ty.rdU l er).2.2) := by
 have hu := Ty.rdU_u64 l er
 go_enter Tryz.func200, Tryz.ntmps200
 go_wp2_with fail
 refine (Ty.cuint_c b l er _ hw h hl).mono ?_
 rintro e w1 ⟨rfl, hc, hg⟩
 go_wp2_with fail
 refine (Ty.signed_nat _ _ hu).mono ?_
 rintro e w2 ⟨rfl, rfl⟩
 go_wp2
 go_ret
 exact ⟨rfl, hc, hg⟩
set_option maxHeartbeats 400000 in
theorem Ty.ctext_c (b : Nat) (l : List UInt8) (er : Nat) (most : Int) (hm : -9223372036854775808 ≤ most ∧ most ≤ 9223372036854775807) (w : World) (hw : Ty.Tabs w) (h : Ty.Cur b w l er) (hl : l.length ≤ 9223372036854775807) :
 Calls Tryz.prog 153 #[.pointer (some ⟨b, 0, none⟩), .int .i64 most] w (Ty.Left b w (.string (Ty.S (Ty.rdT most l er).1)) (Ty.rdT most l er).2.1 (Ty.rdT most l er).2.2) := by
 obtain ⟨c0, c1, f0, f1⟩ := h.cells
 by_cases he : er = 0
 ·subst he
  have hsz := Ty.txt_size l most
  have HR : Hid (Ty.rdT most l 0 = ((Ty.txt l most).1, l.drop (Ty.txt l most).2.1, (Ty.txt l most).2.2)) := Lib.hid (by simp [Ty.rdT])
  rw [HR.out]
  go_enter Tryz.func153, Tryz.ntmps153
  go_wp2_with fail
  refine (Ty.err_c b l 0 _ h).mono ?_
  rintro e w' ⟨rfl, rfl⟩
  go_wp2_with fail
  refine (Ty.text_r (Ty.S l) most _ hw hl hm).mono ?_
  rintro e w2 ⟨rfl, rfl⟩
  unfold Ty.txtV
  rw [Ty.data_S]
  go_wp2_with fail
  refine (Ty.advance_c b l 0 _ _ _ h hsz hl).mono ?_
  rintro e w3 ⟨rfl, hc, hg⟩
  go_wp2
  go_ret
  exact ⟨rfl, hc, hg⟩
 ·have hne : ((er : Int) != 0) = true := by rw [bne_iff_ne]; omega
  have HR : Hid (Ty.rdT most l er = ([], l, er)) := Lib.hid (by simp [Ty.rdT, he])
  rw [HR.out]
  clear he
  go_enter Tryz.func153, Tryz.ntmps153
  go_wp2_with fail
  refine (Ty.err_c b l er _ h).mono ?_
  rintro e w' ⟨rfl, rfl⟩
  go_wp2
  go_ret
  exact ⟨rfl, h, Ty.by_refl _ _⟩
set_option maxHeartbeats 400000 in
theorem Ty.cbyte_c (b : Nat) (l : List UInt8) (er : Nat) (w : World) (h : Ty.Cur b w l er) (hl : l.length ≤ 9223372036854775807) :
 Calls Tryz.prog 151 #[.pointer (some ⟨b, 0, none⟩)] w (Ty.Left b w (.int .i64 ((Ty.rdB l er).1 : Int)) (Ty.rdB l er).2.1 (Ty.rdB l er).2.2) := by
 obtain ⟨c0, c1, f0, f1⟩ := h.cells
 by_cases he : er = 0
 ·subst he
  cases l with
  | nil =>
    have hemp : (Ty.S []).toList.isEmpty = true := by rw [ByteArray.toList_eq]; rfl
    go_enter Tryz.func151, Tryz.ntmps151
    go_wp2_with fail
    refine (Ty.err_c b [] 0 _ h).mono ?_
    rintro e w' ⟨rfl, rfl⟩
    go_wp2
    go_ret
    exact ⟨rfl, Ty.two_set1 h, Ty.by_set _ _ _ _⟩
  | cons x r =>
    have hp : 0 < (Ty.S (x :: r)).size := by rw [Ty.size_S]; simp
    have hemp : (Ty.S (x :: r)).toList.isEmpty = false := Ty.isEmpty_pos _ hp
    go_enter Tryz.func151, Tryz.ntmps151
    go_wp2_with fail
    refine (Ty.err_c b (x :: r) 0 _ h).mono ?_
    rintro e w' ⟨rfl, rfl⟩
    go_wp2_with fail
    refine (Ty.advance_c b (x :: r) 0 1 0 _ h (by simp) hl).mono ?_
    rintro e w3 ⟨rfl, hc, hg⟩
    go_wp2
    go_ret
    exact ⟨Ty.ret_i ((IntWalk.wrap64_in _ (by have := (Ty.S (x :: r))[0].toNat_lt; omega)).trans rfl), hc, hg⟩
 ·have hne : ((er : Int) != 0) = true := by rw [bne_iff_ne]; omega
  have HR : Hid (Ty.rdB l er = (0, l, er)) := Lib.hid (by simp [Ty.rdB, he])
  rw [HR.out]
  clear he
  go_enter Tryz.func151, Tryz.ntmps151
  go_wp2_with fail
  refine (Ty.err_c b l er _ h).mono ?_
  rintro e w' ⟨rfl, rfl⟩
  go_wp2
  go_ret
  exact ⟨rfl, h, Ty.by_refl _ _⟩
def Ty.fin (l : List UInt8) (e : Nat) : Nat := if e = 0 ∧ l ≠ [] then 5 else e
set_option maxHeartbeats 400000 in
theorem Ty.done_c (b : Nat) (l : List UInt8) (er : Nat) (w : World) (h : Ty.Cur b w l er) :
 Calls Tryz.prog 115 #[.pointer (some ⟨b, 0, none⟩)] w fun e w' => e = .returned (.int .i64 (Ty.fin l er : Int)) ∧ w' = w := by
 by_cases he : er = 0
 ·subst he
  by_cases hl : (0 : Int) < l.length
  ·have HF : Hid (Ty.fin l 0 = 5) := Lib.hid (by unfold Ty.fin; rw [if_pos ⟨rfl, by intro e; subst e; simp at hl⟩])
   go_enter Tryz.func115, Tryz.ntmps115
   go_wp2_with fail
   refine (Ty.err_c b l 0 _ h).mono ?_
   rintro e w' ⟨rfl, rfl⟩
   go_wp2_with fail
   refine (Ty.left_c b l 0 _ h).mono ?_
   rintro e w' ⟨rfl, rfl⟩
   go_wp2
   go_ret
   exact ⟨by rw [HF.out]; rfl, rfl⟩
  ·have HF : Hid (Ty.fin l 0 = 0) := Lib.hid (by unfold Ty.fin; rw [if_neg (by rintro ⟨_, h2⟩; exact h2 (List.eq_nil_of_length_eq_zero (by omega)))])
   go_enter Tryz.func115, Tryz.ntmps115
   go_wp2_with fail
   refine (Ty.err_c b l 0 _ h).mono ?_
   rintro e w' ⟨rfl, rfl⟩
   go_wp2_with fail
   refine (Ty.left_c b l 0 _ h).mono ?_
   rintro e w' ⟨rfl, rfl⟩
   go_wp2_with fail
   refine (Ty.err_c b l 0 _ h).mono ?_
   rintro e w' ⟨rfl, rfl⟩
   go_wp2
   go_ret
   exact ⟨by rw [HF.out]; rfl, rfl⟩
 ·have hne : ((er : Int) == 0) = false := by rw [beq_eq_false_iff_ne]; omega
  have HF : Hid (Ty.fin l er = er) := Lib.hid (by unfold Ty.fin; rw [if_neg (by rintro ⟨h1, _⟩; exact he h1)])
  clear he
  go_enter Tryz.func115, Tryz.ntmps115
  go_wp2_with fail
  refine (Ty.err_c b l er _ h).mono ?_
  rintro e w' ⟨rfl, rfl⟩
  go_wp2_with fail
  refine (Ty.err_c b l er _ h).mono ?_
  rintro e w' ⟨rfl, rfl⟩
  go_wp2
  go_ret
  exact ⟨by rw [HF.out]; rfl, rfl⟩
end Go.Proofs.YtbelkhkllneifaaGreatDoor
namespace Go.Proofs.YtbelkhkllneifaaGreatDoor
open Go.RowKit
theorem Ty.Tabs.below {w w' : World} (h : Ty.Tabs w) {b : Nat} (hb : Below b w w') (hG : Ty.G ≤ b) : Ty.Tabs w' := h.kept hb.size fun k hk => hb.block k (by omega)
theorem Ty.below_by {w w' : World} {B : Nat} {r : Option Nat} (hg : w.grownBy w' r) (hB : B ≤ w.heap.size) (hr : ∀ k, r = some k → B ≤ k) : Below B w w' :=
 (Below.refl B w).grown hg hB hr
theorem Ty.Cur.by {b : Nat} {w w' : World} {l : List UInt8} {e : Nat} (h : Ty.Cur b w l e) {r : Option Nat} (hg : w.grownBy w' r) (hr : r ≠ some b) : Ty.Cur b w' l e := by
 unfold Ty.Cur at h ⊢
 rw [hg.block b (lt_of_block h) (fun e => hr e.symm)]
 exact h
theorem Ty.Cur.at_new (w : World) (l : List UInt8) : Ty.Cur w.heap.size (w.alloc (.cells #[.string (Ty.S l), .int .i64 0] 193 (0, 0))) l 0 := heap_alloc_new w _
theorem Ty.Tabs.alloc {w : World} (h : Ty.Tabs w) (o : Obj) : Ty.Tabs (w.alloc o) := h.below ((Below.refl w.heap.size w).alloc (Nat.le_refl _) o) h.two
end Go.Proofs.YtbelkhkllneifaaGreatDoor
namespace Go.Proofs.YtbelkhkllneifaaGreatDoor
open Go.RowKit
theorem Ty.Tabs.drew {w : World} (h : Ty.Tabs w) : Ty.Tabs w.drew := h.kept (Nat.le_refl _) fun _ _ => rfl
theorem Ty.Buf.later {base : Nat} {w w' : World} {v : Value} {bs : List UInt8} (h : Ty.Buf base w v bs) (hb : Below w.heap.size w w') : Ty.Buf base w' v bs :=
 h.kept fun k hk => hb.block k (h.lt k hk).2
theorem Ty.Buf.str {base : Nat} {w : World} {v : Value} {bs : List UInt8} (h : Ty.Buf base w v bs) : (convert 118 9 v).run Tryz.prog w = .ok (.string (Ty.S bs)) w :=
 h.string 118 9 Tryz.underlying118 Tryz.underlying5 Tryz.underlying9
def Ty.Fresh (w : World) (bs : List UInt8) (e : Ending) (w' : World) : Prop := ∃ v', e = .returned v' ∧ Ty.Buf w.heap.size w' v' bs ∧ Ty.Tabs w' ∧ Below w.heap.size w w'
theorem Ty.Written.fresh {w : World} {bs : List UInt8} {e : Ending} {w' : World} (h : Ty.Written w.heap.size w (.slice none 0 0) bs e w') (hw : Ty.Tabs w) : Ty.Fresh w bs e w' := by
 obtain ⟨v', rfl, hB, hG⟩ := h
 have hb := Ty.below_by hG.by_ (Nat.le_refl w.heap.size) (by intro k hk; cases hk)
 exact ⟨v', rfl, hB, hw.below hb hw.two, hb⟩
theorem Ty.uintNil (z : Int) (h0 : 0 ≤ z) (hz : Ty.U64 z.toNat) (w : World) (hw : Ty.Tabs w) :
 Calls Tryz.prog 89 #[.slice none 0 0, .int .u64 z] w (Ty.Fresh w (Ty.encU z.toNat)) :=
 (Ty.uint_c w.heap.size _ [] z h0 hz w hw (Ty.Buf.nil _ _) (Nat.le_refl _) (by simp)).mono fun _ _ h => h.fresh hw
theorem Ty.from_f (l : List UInt8) (w : World) (hT : Ty.Tabs w) :
 Calls Tryz.prog 113 #[.string (Ty.S l)] w fun e w' => e = .returned (.pointer (some ⟨w.heap.size, 0, none⟩)) ∧ Ty.Cur w.heap.size w' l 0 ∧ Ty.Tabs w' ∧ w.grownBy w' none :=
 (Ty.from_c l w).mono fun e w' ⟨he, hw⟩ => by
  subst hw
  exact ⟨he, Ty.Cur.at_new w l, hT.alloc _, World.grownBy_alloc _ _ _⟩
theorem Ty.below_none {w w' : World} {B : Nat} (hg : w.grownBy w' none) (hB : B ≤ w.heap.size) : Below B w w' := Ty.below_by hg hB (by intro k hk; cases hk)
theorem Ty.below_at {w w' : World} {B b : Nat} (hg : w.grownBy w' (some b)) (hB : B ≤ w.heap.size) (hb : B ≤ b) : Below B w w' := Ty.below_by hg hB (by intro k hk; cases hk; exact hb)
theorem Ty.Tabs.at_ {w w' : World} {b : Nat} (h : Ty.Tabs w) (hg : w.grownBy w' (some b)) (hb : Ty.G ≤ b) : Ty.Tabs w' := h.by hg (by intro k hk; cases hk; exact hb)
theorem Ty.Cur.none_ {b : Nat} {w w' : World} {l : List UInt8} {e : Nat} (h : Ty.Cur b w l e) (hg : w.grownBy w' none) : Ty.Cur b w' l e := h.by hg (by intro h; cases h)
theorem Ty.Cur.at_ {b c : Nat} {w w' : World} {l : List UInt8} {e : Nat} (h : Ty.Cur b w l e) (hg : w.grownBy w' (some c)) (hb : c ≠ b) : Ty.Cur b w' l e := h.by hg (by intro h; exact hb (Option.some.inj h))
theorem Ty.Cur.below {b : Nat} {w w' : World} {l : List UInt8} {e B : Nat} (h : Ty.Cur b w l e) (hb : Below B w w') (hB : b < B) : Ty.Cur b w' l e := by
 unfold Ty.Cur at h ⊢
 rw [hb.block b hB]
 exact h
end Go.Proofs.YtbelkhkllneifaaGreatDoor
namespace Go.Proofs.YtbelkhkllneifaaGreatDoor
open Go.RowKit
def Ty.RMid (base n sz k : Nat) (wr : World) (v : Value) : Prop :=
 (k = sz ∧ Ty.Buf base wr v []) ∨ (k < sz ∧ ∃ done, Ty.encU n = done ++ Ty.low k n ∧ done.length + k ≤ 9 ∧ Ty.Buf base wr v done)
theorem Ty.Buf.base {base : Nat} {w : World} {v : Value} {bs : List UInt8} (h : Ty.Buf base w v bs) : ∀ k, v.ownBlock = some k → base ≤ k := fun k hk => (h.lt k hk).1
def Ty.Str (w : World) (bs : List UInt8) (e : Ending) (w' : World) : Prop := e = .returned (.string (Ty.S bs)) ∧ Below w.heap.size w w'
theorem Ty.RMid.first {base n sz k : Nat} {w1 : World} {v1 : Value} (hk : k = Ty.after (Ty.form n)) (hs : sz = k + 1) {X : Int} (hX : X = ((Ty.head n).toNat : Int)) (h1 : ∀ u : UInt8, X = (u.toNat : Int) → Ty.Buf base w1 v1 ([] ++ [u])) : Ty.RMid base n sz k w1 v1 :=
 .inr ⟨by omega, [Ty.head n], by rw [hk]; exact Ty.encU_split n, by have := Ty.after_le n; simp; omega, h1 _ hX⟩
theorem Ty.RMid.next {base n sz k : Nat} {done : List UInt8} {w1 : World} {v1 : Value} (hd : Ty.encU n = done ++ Ty.low (k + 1) n) (hl : done.length + (k + 1) ≤ 9) (hk : k + 1 < sz)
 (h1 : ∀ u : UInt8, ((n : Int) / 2 ^ (8 * k) % 256) = (u.toNat : Int) → Ty.Buf base w1 v1 (done ++ [u])) : Ty.RMid base n sz k w1 v1 :=
 .inr ⟨by omega, done ++ [UInt8.ofNat (n / 256 ^ k % 256)], by rw [hd, Ty.low_succ]; simp, by simp; omega, h1 _ (Ty.low_byte n k)⟩
end Go.Proofs.YtbelkhkllneifaaGreatDoor
namespace Go.Proofs.YtbelkhkllneifaaGreatDoor
open Go.RowKit
end Go.Proofs.YtbelkhkllneifaaGreatDoor
namespace Go.Proofs.YtbelkhkllneifaaGreatDoor
open Go.RowKit
end Go.Proofs.YtbelkhkllneifaaGreatDoor
