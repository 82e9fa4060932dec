/-
  WALK of the law AlgebraRamified: it returns true for all arguments.
-/
import Derived.Test.YtgbnmnkgelklbaaDoorRm7
import Derived.Test.YtgbnmnkgelklbaaDoorAw4
namespace Go.Proofs.YtgbnmnkgelklbaaDoor.Rm
open Go.RowKit
open Nt (Pr)
open Al
set_option linter.unusedVariables false
set_option linter.unusedSimpArgs false
set_option maxRecDepth 100000
theorem KL.self {w0 : World} {cs : List (Nat × Nat × Value)} {fs : List (Nat × Nat)} {w : World} (h : KL w0 cs fs w) : KL w cs fs w := ⟨h.c, h.g, h.f, Below.refl _ _⟩
set_option maxHeartbeats 3200000 in
theorem ram_err (A B : Int) (w : World) (h : chkA A B ≠ 0) : Calls Tryd.prog 3 #[.agg #[.int .i64 A, .int .i64 B]] w fun e w' => e = .returned (.bool true) ∧ Below w.heap.size w w' := by
  have RE := Lib.hid (fun W => Ramified_err A B W h)
  have DE := Lib.hid (fun W => Discriminant_err A B W h)
  have FE := Lib.hid (fun W => Definite_err A B W h)
  have ht : (chkA A B != 0) = true := by rw [bne_iff_ne]; exact h
  clear h
  go_enter Tryd.func3, Tryd.ntmps3
  go_wp2_with fail
  refine (awake_any _).mono ?_
  rintro e w1 ⟨rfl, hb⟩
  have hK : K_Rk A B w.heap.size w w1 := K_Rk.below hb ⟨by simp [go_sem], by simp, by simp, by (repeat (first | (with_reducible exact Below.refl _ _) | (with_reducible exact HB.out) | (with_reducible refine below_draws ?_ _) | (with_reducible refine Below.alloc ?_ (by go_size) _) | (with_reducible refine Below.setCell ?_ (by go_size) _) | (with_reducible refine Below.alloc ?_ (by simp <;> omega) _) | (with_reducible refine Below.setCell ?_ (by simp <;> omega) _)))⟩
  clear hb
  obtain ⟨c0_, c1_⟩ := K_Rk.cells hK; obtain ⟨z0_, -⟩ := K_Rk.zs hK; have HK := Lib.hid hK; clear hK
  go_wp2_with fail
  refine (RE.out _).mono ?_
  rintro e w2 ⟨rfl, hb⟩
  clear c0_ c1_ z0_
  have hK := K_Rk.below hb HK.out
  clear hb HK
  obtain ⟨c0_, c1_⟩ := K_Rk.cells hK; obtain ⟨z0_, -⟩ := K_Rk.zs hK; have HK := Lib.hid hK; clear hK
  go_wp2_with fail
  refine (DE.out _).mono ?_
  rintro e w3 ⟨rfl, hb⟩
  clear c0_ c1_ z0_
  have hK := K_Rk.below hb HK.out
  clear hb HK
  obtain ⟨c0_, c1_⟩ := K_Rk.cells hK; obtain ⟨z0_, -⟩ := K_Rk.zs hK; have HK := Lib.hid hK; clear hK
  go_wp2_with fail
  refine (FE.out _).mono ?_
  rintro e w4 ⟨rfl, hb⟩
  clear c0_ c1_ z0_
  have hK := K_Rk.below hb HK.out
  clear hb HK
  obtain ⟨c0_, c1_⟩ := K_Rk.cells hK; obtain ⟨z0_, -⟩ := K_Rk.zs hK; have HK := Lib.hid hK; clear hK
  go_wp2_with fail
  refine (rCheck_any _ _ _).mono ?_
  rintro e w5 ⟨rfl, hb⟩
  clear c0_ c1_ z0_
  have hK := K_Rk.below hb HK.out
  clear hb HK
  obtain ⟨c0_, c1_⟩ := K_Rk.cells hK; obtain ⟨z0_, -⟩ := K_Rk.zs hK; have HK := Lib.hid hK; clear hK
  go_wp2
  go_ret
  exact ⟨by simp, K_Rk.bel HK.out⟩
set_option maxHeartbeats 6400000 in
theorem ram_ok (A B : Int) (w : World) (h : chkA A B = 0) : Calls Tryd.prog 3 #[.agg #[.int .i64 A, .int .i64 B]] w fun e w' => e = .returned (.bool true) ∧ Below w.heap.size w w' := by
  obtain ⟨b1, b2, b3, b4⟩ := chk_bds h
  have RE := Lib.hid (fun W => Ramified_ok A B W h)
  have DE := Lib.hid (fun W => Discriminant_ok A B W h)
  have FE := Lib.hid (fun W => Definite_ok A B W h)
  have RR := Lib.hid (fun W => rRamified_any A B W b3 b4)
  have RD := Lib.hid (fun W => rDiscriminant_any A B W h)
  have HL := Lib.hid (RL_len A B 1001)
  have HC := Lib.hid h
  obtain ⟨F, hF⟩ : ∃ F, dfB A B = F := ⟨_, rfl⟩
  have RF := Lib.hid (fun W => rDefinite_any A B W)
  rw [hF] at FE RF
  have RE2 : Hid (∀ W : World, Calls Tryd.prog 7 #[.agg #[.int .i64 A, .int .i64 B]] W fun e w' => ∃ (Aa : Option Addr) (c : Nat), e = .returned (.tuple #[.slice Aa (RL A B 1001).length c, .bool F, .int .i64 0]) ∧ LN W.heap.size w' Aa c (RL A B 1001) ∧ c ≤ 9223372036854775807 ∧ (RL A B 1001).length ≤ c ∧ Below W.heap.size W w') := Lib.hid fun W => (RE.out W).mono fun e w' ⟨v, he, hown, hbel⟩ => by
    obtain ⟨Aa, c, rfl, hLN, hc, hlc⟩ := LN.of hown
    exact ⟨Aa, c, by rw [he, hF], hLN, hc, hlc, hbel⟩
  clear h b1 b2 b3 b4 RE hF
  generalize RL A B 1001 = l at *
  go_enter Tryd.func3, Tryd.ntmps3
  go_wp2_with fail
  refine (awake_any _).mono ?_
  rintro e w1 ⟨rfl, hb⟩
  have hK : K_Rk A B w.heap.size w w1 := K_Rk.below hb ⟨by simp [go_sem], by simp, by simp, by (repeat (first | (with_reducible exact Below.refl _ _) | (with_reducible exact HB.out) | (with_reducible refine below_draws ?_ _) | (with_reducible refine Below.alloc ?_ (by go_size) _) | (with_reducible refine Below.setCell ?_ (by go_size) _) | (with_reducible refine Below.alloc ?_ (by simp <;> omega) _) | (with_reducible refine Below.setCell ?_ (by simp <;> omega) _)))⟩
  clear hb
  obtain ⟨c0_, c1_⟩ := K_Rk.cells hK; obtain ⟨z0_, -⟩ := K_Rk.zs hK; have HK := Lib.hid hK; clear hK
  go_wp2_with fail
  refine (RE2.out _).mono ?_
  rintro e w2 ⟨Aa, c, rfl, hLN, hc, hlc, hb⟩
  clear c0_ c1_ z0_
  have hK := K_Rk.below hb HK.out
  have HP := Lib.hid hLN
  clear hb HK hLN
  obtain ⟨c0_, c1_⟩ := K_Rk.cells hK; obtain ⟨z0_, -⟩ := K_Rk.zs hK; have HK := Lib.hid hK; clear hK
  go_wp2_with fail
  refine (DE.out _).mono ?_
  rintro e w3 ⟨rfl, hb⟩
  clear c0_ c1_ z0_
  have hK := K_Rk.below hb HK.out
  have HP3 := Lib.hid (LN.below HP.out hb (LN.lt HP.out))
  clear hb HK HP
  obtain ⟨c0_, c1_⟩ := K_Rk.cells hK; obtain ⟨z0_, -⟩ := K_Rk.zs hK; have HK := Lib.hid hK; clear hK
  go_wp2_with fail
  refine (FE.out _).mono ?_
  rintro e w4 ⟨rfl, hb⟩
  clear c0_ c1_ z0_
  have hK := K_Rk.below hb HK.out
  have HP4 := Lib.hid (LN.below HP3.out hb (LN.lt HP3.out))
  clear hb HK HP3
  obtain ⟨c0_, c1_⟩ := K_Rk.cells hK; obtain ⟨z0_, -⟩ := K_Rk.zs hK; have HK := Lib.hid hK; clear hK
  go_wp2_with fail
  refine (rCheck_any _ _ _).mono ?_
  rintro e w5 ⟨rfl, hb⟩
  rw [HC.out]
  clear c0_ c1_ z0_
  have hK := K_Rk.below hb HK.out
  have HP5 := Lib.hid (LN.below HP4.out hb (LN.lt HP4.out))
  clear hb HK HP4
  obtain ⟨c0_, c1_⟩ := K_Rk.cells hK; obtain ⟨z0_, -⟩ := K_Rk.zs hK; have HK := Lib.hid hK; clear hK
  go_wp2_with fail
  refine (RR.out _).mono ?_
  rintro e w6 ⟨v2, rfl, hown, hb⟩
  clear c0_ c1_ z0_
  have hK := K_Rk.below hb HK.out
  have HP6 := Lib.hid (LN.below HP5.out hb (LN.lt HP5.out))
  obtain ⟨A2, c2, rfl, hL2, hm2, hc2⟩ := LN.of hown
  have HL2 := Lib.hid hL2
  clear hb HK HP5 hown hL2
  obtain ⟨c0_, c1_⟩ := K_Rk.cells hK; obtain ⟨z0_, -⟩ := K_Rk.zs hK; have HK := Lib.hid hK; clear hK
  go_wp2_with fail
  refine (Ints_same l _ _ Aa A2 c c2 _ HP6.out HL2.out HL.out hlc hc2 hc hm2).mono ?_
  rintro e w7 ⟨rfl, hb⟩
  clear c0_ c1_ z0_
  have hK := K_Rk.below hb HK.out
  clear hb HK HP6 HL2
  obtain ⟨c0_, c1_⟩ := K_Rk.cells hK; obtain ⟨z0_, -⟩ := K_Rk.zs hK; have HK := Lib.hid hK; clear hK
  go_wp2_with fail
  refine (RF.out _).mono ?_
  rintro e w8 ⟨rfl, hb⟩
  clear c0_ c1_ z0_
  have hK := K_Rk.below hb HK.out
  clear hb HK
  obtain ⟨c0_, c1_⟩ := K_Rk.cells hK; obtain ⟨z0_, -⟩ := K_Rk.zs hK; have HK := Lib.hid hK; clear hK
  go_wp2_with fail
  refine (RD.out _).mono ?_
  rintro e w9 ⟨rfl, hb⟩
  clear c0_ c1_ z0_
  have hK := K_Rk.below hb HK.out
  clear hb HK
  obtain ⟨c0_, c1_⟩ := K_Rk.cells hK; obtain ⟨z0_, -⟩ := K_Rk.zs hK; have HK := Lib.hid hK; clear hK
  go_wp2
  go_ret
  exact ⟨by simp, K_Rk.bel HK.out⟩
theorem walk_ramified (A B : Int) (w : World) : Calls Tryd.prog 3 #[.agg #[.int .i64 A, .int .i64 B]] w fun e w' => e = .returned (.bool true) ∧ Below w.heap.size w w' := by
  by_cases h : chkA A B = 0
  · exact ram_ok A B w h
  · exact ram_err A B w h
end Go.Proofs.YtgbnmnkgelklbaaDoor.Rm
