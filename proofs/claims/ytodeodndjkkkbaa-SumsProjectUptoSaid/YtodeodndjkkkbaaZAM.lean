import Derived.Test.YtodeodndjkkkbaaZAL
namespace Go.Proofs.Ytodeodndjkkkbaa
open Go Go.RowKit
set_option maxHeartbeats 1000000 in
set_option maxRecDepth 100000 in
theorem Su.lawProject_w (u cv : Value) (Q : List (List Kn.V)) (cs : List Int) (w : World) (hu : Rn.Rws w u Q) (hc : Mf.Is w cv cs) (hz : ∀ r ∈ Q, ∀ x ∈ r, Kn.Z x) (hl : cs.length ≤ 1048576) (hq : Q.length ≤ 1048576) :
 Calls Try.prog 8 #[u, cv] w fun e w' => e = .returned (.bool true) ∧ Below w.heap.size w w' := by
 have HU := Lib.hid hu
 have HC := Lib.hid hc
 have CL := Lib.hid (Su.lives_c w)
 have hlen : (if Su.okP cs Q = true then Su.proj cs Q else []).length ≤ 1048576 := by
  split
  ·rw [Su.proj_len]; exact hq
  ·exact Nat.zero_le _
 have cp := fun (w' : World) (g : Below w.heap.size w w') => Su.project_c u cv Q cs w' (hu.later g) (hc.kept g) hz (by omega) (by omega)
 have cr := fun (w' : World) (g : Below w.heap.size w w') => Su.rproject_c u cv Q cs w' (hu.later g) (hc.kept g) (by omega) (by omega)
 unfold Su.ProjD at cp cr
 generalize (if Su.okP cs Q = true then Su.proj cs Q else []) = R at cp cr hlen
 generalize (if Su.okP cs Q = true then (0 : Int) else 7) = E at cp cr
 have CP := Lib.hid cp
 have CR := Lib.hid cr
 have CS : Hid (∀ (x y : Value) (w' : World), Rn.Rws w' x _ → Rn.Rws w' y _ → _) := Lib.hid fun x y w' h1 h2 => Rn.rsamerows_c x y R w' h1 h2 hlen
 clear cp cr
 obtain ⟨a, c, rfl, -⟩ := hu
 obtain ⟨a2, c2, rfl, -, -⟩ := hc
 clear hz hl hq hlen
 go_enter Try.func8, Try.ntmps8
 go_wp2_with fail
 refine (CL.out).mono ?_
 rintro e w1 ⟨rfl, g1⟩
 have HG1 := Lib.hid g1
 clear g1
 go_wp2_with fail
 refine (CP.out w1 HG1.out).mono ?_
 rintro e w2 ⟨p, rfl, hp, g2⟩
 have HG2 := Lib.hid (HG1.out.trans (g2.mono HG1.out.size))
 have HP := Lib.hid hp
 obtain ⟨pa, pc, rfl, -⟩ := hp
 clear g2
 go_wp2_with fail
 refine (CR.out w2 HG2.out).mono ?_
 rintro e w3 ⟨q, rfl, hq, g3⟩
 have HG3 := Lib.hid (HG2.out.trans (g3.mono HG2.out.size))
 have HP3 := Lib.hid (HP.out.later g3)
 have HQ := Lib.hid hq
 obtain ⟨qa, qc, rfl, -⟩ := hq
 clear g3
 have he : (E == E) = true := beq_self_eq_true E
 go_wp2_with fail
 refine (CS.out _ _ w3 HP3.out HQ.out).mono ?_
 rintro e w4 ⟨rfl, g4⟩
 have HG4 := Lib.hid (HG3.out.trans (g4.mono HG3.out.size))
 clear g4
 go_wp2
 go_ret
 exact ⟨rfl, HG4.out⟩
end Go.Proofs.Ytodeodndjkkkbaa
