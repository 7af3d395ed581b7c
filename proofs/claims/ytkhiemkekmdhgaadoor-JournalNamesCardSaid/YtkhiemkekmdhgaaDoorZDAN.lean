import Derived.Test.YtkhiemkekmdhgaaDoorZDAM
namespace Go.Proofs.YtkhiemkekmdhgaaDoor
open Go Go.RowKit
theorem Jn.name_len (l : List UInt8) (n : Int) : (Jn.name l n).length ≤ l.length + 9 := by
 unfold Jn.name
 split
 ·simp
 ·next h =>
  rw [List.length_append]
  have := (Jn.dec_len 9 n.toNat (by decide) (by omega)).2
  omega
theorem Jn.name_cons {l : List UInt8} {n : Int} (h : ¬ (n < 0 ∨ 999999999 < n)) : ((Ty.S (Jn.name l n)).toList == (⟨#[]⟩ : ByteArray).toList) = false := by
 rw [show (⟨#[]⟩ : ByteArray) = Ty.S [] from rfl, Ty.S_beq]
 have : Jn.name l n ≠ [] := fun e => h (Jn.name_nil.1 e)
 simpa using this
set_option maxHeartbeats 4000000 in
set_option maxRecDepth 100000 in
theorem Jn.names_w (lt nm : ByteArray) (n : Int) (w : World) (hT : Jn.T w) (h0 : -9223372036854775808 ≤ n) (h1 : n ≤ 9223372036854775807) (hl : lt.size ≤ 140737488355328) (hn : nm.size ≤ 140737488355328) :
 Calls Tryd.prog 3 #[.string lt, .string nm, .int .i64 n] w fun e w' => e = .returned (.bool true) ∧ Below w.heap.size w w' := by
 obtain ⟨l, hll⟩ : ∃ l, l = lt.data.toList := ⟨_, rfl⟩
 obtain ⟨s, hss⟩ : ∃ s, s = nm.data.toList := ⟨_, rfl⟩
 have hnm : nm = Ty.S s := by rw [hss]; rfl
 have hl1 : l.length = lt.size := by rw [hll]; exact Array.length_toList
 have HT := Lib.hid fun (W : World) (g : Below w.heap.size w W) => hT.below g
 have hts : (Ty.S (Jn.name l n)).size ≤ 281474976710656 := by
  have := Jn.name_len l n
  show (Jn.name l n).toArray.size ≤ _
  rw [List.size_toArray]
  omega
 have CN := Lib.hid fun (W : World) (g : Below w.heap.size w W) => Jn.number_c lt nm W (HT.out W g) hl (by omega)
 have CR := Lib.hid fun (W : World) (g : Below w.heap.size w W) => Jn.rnumber_c lt nm W (HT.out W g).pow hl hn
 have CM := Lib.hid fun (W : World) (g : Below w.heap.size w W) => Jn.name_c lt n W (HT.out W g) h0 h1 hl
 have CD := Lib.hid fun (W : World) (g : Below w.heap.size w W) => Jn.rname_c lt n W (HT.out W g).pow h0 h1 hl
 have CT := Lib.hid fun (W : World) (g : Below w.heap.size w W) => Jn.number_c lt (Ty.S (Jn.name l n)) W (HT.out W g) hl hts
 have CA := Lib.hid fun (W : World) (g : Below w.heap.size w W) (h : Jn.num l s ≤ 999999999) => Jn.name_c lt (Jn.num l s : Nat) W (HT.out W g) (by omega) (by omega) hl
 rw [← hll, ← hss] at CN CR
 rw [← hll] at CM CD CT CA
 rw [show (Ty.S (Jn.name l n)).data.toList = Jn.name l n from rfl] at CT
 have HO : Hid (Jn.okN l s = true → Jn.num l s ≤ 999999999 ∧ Ty.S (Jn.name l (Jn.num l s : Nat)) = nm) := Lib.hid fun h => ⟨(Jn.ok_name h).1, by rw [(Jn.ok_name h).2, hnm]⟩
 have HZ : Hid (Jn.okN l s = false → Jn.num l s = 0) := Lib.hid fun h => by unfold Jn.num; rw [if_neg (by rw [h]; decide)]
 have HS : Hid ((Ty.S (Jn.name l n) = (⟨#[]⟩ : ByteArray)) ∨ (((Ty.S (Jn.name l n)).toList == (⟨#[]⟩ : ByteArray).toList) = false ∧ Jn.okN l (Jn.name l n) = true ∧ ((Jn.num l (Jn.name l n) : Nat) : Int) = n)) := Lib.hid (by
  by_cases h : n < 0 ∨ 999999999 < n
  ·exact .inl (by rw [Jn.name_nil.2 h]; rfl)
  ·exact .inr ⟨Jn.name_cons h, Jn.name_ok (by omega) (by omega)⟩)
 clear hl1 hts hll hss hnm hl hn
 go_enter Tryd.func3, Tryd.ntmps3
 go_wp2_with fail
 refine (Jn.lives_c w hT).mono ?_
 rintro e w1 ⟨rfl, g1⟩
 have HG1 := Lib.hid g1
 clear g1 hT
 go_wp2_with fail
 refine (CN.out w1 HG1.out).mono ?_
 rintro e w2 ⟨rfl, g2⟩
 have HG2 := Lib.hid (HG1.out.trans (g2.mono HG1.out.size))
 clear g2
 go_wp2_with fail
 refine (CR.out w2 HG2.out).mono ?_
 rintro e w3 ⟨m, rfl, hm, g3⟩
 have HG3 := Lib.hid (HG2.out.trans (g3.mono HG2.out.size))
 have HM := Lib.hid hm
 clear g3 hm
 generalize Ty.S (Jn.name l n) = T at CM CD CT HS ⊢
 cases hO : Jn.okN l s
 ·rw [HZ.out hO]
  clear HO HM CA
  go_wp2_with fail
  refine (CM.out w3 HG3.out).mono ?_
  rintro e w4 ⟨rfl, g4⟩
  have HG4 := Lib.hid (HG3.out.trans (g4.mono HG3.out.size))
  clear g4
  go_wp2_with fail
  refine (CT.out w4 HG4.out).mono ?_
  rintro e w5 ⟨rfl, g5⟩
  have HG5 := Lib.hid (HG4.out.trans (g5.mono HG4.out.size))
  clear g5
  go_wp2_with fail
  refine (CD.out w5 HG5.out).mono ?_
  rintro e w6 ⟨rfl, g6⟩
  have HG6 := Lib.hid (HG5.out.trans (g6.mono HG5.out.size))
  clear g6
  rcases HS.out with rfl | ⟨i1, i2, i3⟩
  ·go_wp2
   go_ret
   exact ⟨rfl, HG6.out⟩
  ·rw [i2, i3]
   go_wp2
   all_goals
    go_ret
    exact ⟨rfl, HG6.out⟩
 ·obtain rfl : m = (Jn.num l s : Nat) := HM.out hO
  have CB := Lib.hid fun (W : World) (g : Below w.heap.size w W) => CA.out W g (HO.out hO).1
  rw [(HO.out hO).2] at CB
  clear HZ HM CA HO
  go_wp2_with fail
  refine (CM.out w3 HG3.out).mono ?_
  rintro e w4 ⟨rfl, g4⟩
  have HG4 := Lib.hid (HG3.out.trans (g4.mono HG3.out.size))
  clear g4
  go_wp2_with fail
  refine (CT.out w4 HG4.out).mono ?_
  rintro e w5 ⟨rfl, g5⟩
  have HG5 := Lib.hid (HG4.out.trans (g5.mono HG4.out.size))
  clear g5
  go_wp2_with fail
  refine (CD.out w5 HG5.out).mono ?_
  rintro e w6 ⟨rfl, g6⟩
  have HG6 := Lib.hid (HG5.out.trans (g6.mono HG5.out.size))
  clear g6
  go_wp2_with fail
  refine (CB.out w6 HG6.out).mono ?_
  rintro e w7 ⟨rfl, g7⟩
  have HG7 := Lib.hid (HG6.out.trans (g7.mono HG6.out.size))
  clear g7
  rcases HS.out with rfl | ⟨i1, i2, i3⟩
  ·go_wp2
   go_ret
   exact ⟨rfl, HG7.out⟩
  ·rw [i2, i3]
   go_wp2
   all_goals
    go_ret
    exact ⟨rfl, HG7.out⟩
end Go.Proofs.YtkhiemkekmdhgaaDoor
