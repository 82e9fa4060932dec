/-
  WALK of the law AlgebraProofs: it returns true for all arguments.
-/
import Derived.Test.YtjloanplhbbomaaDoorAm1
import Derived.Test.YtjloanplhbbomaaDoorAm2
import Derived.Test.YtjloanplhbbomaaDoorAm3
import Derived.Test.YtjloanplhbbomaaDoorAw4
namespace Go.Proofs.YtjloanplhbbomaaDoor.Al
open Go.RowKit
open Alm
set_option linter.unusedVariables false
set_option linter.unusedSimpArgs false
set_option maxRecDepth 100000
set_option maxHeartbeats 3200000 in
theorem proofs_long (A B C D : Int) (L : Option Addr) (n c : Nat) (w : World) (hn : 5 < n) : Calls Tryd.prog 8 #[.agg #[.int .i64 A, .int .i64 B], .agg #[.int .i64 C, .int .i64 D], .slice L n c] w fun e w' => e = .returned (.bool true) ∧ Below w.heap.size w w' := by
  have ht : decide ((5 : Int) < (n : Int)) = true := decide_eq_true (by omega)
  go_enter Tryd.func8, Tryd.ntmps8
  go_wp2_with fail
  refine (awake_any _).mono ?_
  rintro e w1 ⟨rfl, hb⟩
  have hK : K_X0 A B C D w.heap.size (w.heap.size + 1) w w1 := K_X0.below hb ⟨by simp [go_sem], by simp [go_sem], by simp [go_sem], by (repeat (first | (with_reducible exact Below.refl _ _) | (with_reducible exact HB.out) | (with_reducible refine below_draws ?_ _) | (with_reducible refine Below.alloc ?_ (by go_size) _) | (with_reducible refine Below.setCell ?_ (by go_size) _) | (with_reducible refine Below.alloc ?_ (by simp <;> omega) _) | (with_reducible refine Below.setCell ?_ (by simp <;> omega) _)))⟩
  clear hb
  obtain ⟨c0_, c1_, c2_, c3_⟩ := K_X0.cells hK; obtain ⟨z0_, z1_, -⟩ := K_X0.zs hK; have HK := Lib.hid hK; clear hK
  go_wp2
  go_ret
  exact ⟨rfl, K_X0.bel HK.out⟩
set_option maxHeartbeats 3200000 in
theorem proofs_A (A B C D : Int) (L : Option Addr) (n c : Nat) (w : World) (hn : ¬ 5 < n) (hA : chkA A B ≠ 0) : Calls Tryd.prog 8 #[.agg #[.int .i64 A, .int .i64 B], .agg #[.int .i64 C, .int .i64 D], .slice L n c] w fun e w' => e = .returned (.bool true) ∧ Below w.heap.size w w' := by
  have ht : decide ((5 : Int) < (n : Int)) = false := decide_eq_false (by omega)
  have IS := Lib.hid (fun W => Iso_err A B C D L n c W (by rw [or2_ne hA]; exact hA))
  rw [or2_ne hA] at IS
  have ha : (chkA A B != 0) = true := by rw [bne_iff_ne]; exact hA
  clear hA
  go_enter Tryd.func8, Tryd.ntmps8
  go_wp2_with fail
  refine (awake_any _).mono ?_
  rintro e w1 ⟨rfl, hb⟩
  have hK : K_X0 A B C D w.heap.size (w.heap.size + 1) w w1 := K_X0.below hb ⟨by simp [go_sem], by simp [go_sem], by simp [go_sem], by (repeat (first | (with_reducible exact Below.refl _ _) | (with_reducible exact HB.out) | (with_reducible refine below_draws ?_ _) | (with_reducible refine Below.alloc ?_ (by go_size) _) | (with_reducible refine Below.setCell ?_ (by go_size) _) | (with_reducible refine Below.alloc ?_ (by simp <;> omega) _) | (with_reducible refine Below.setCell ?_ (by simp <;> omega) _)))⟩
  clear hb
  obtain ⟨c0_, c1_, c2_, c3_⟩ := K_X0.cells hK; obtain ⟨z0_, z1_, -⟩ := K_X0.zs hK; have HK := Lib.hid hK; clear hK
  go_wp2_with fail
  refine (IS.out _).mono ?_
  rintro e w2 ⟨rfl, hb⟩
  clear c0_ c1_ c2_ c3_ z0_ z1_
  have hK := K_X0.below hb HK.out
  clear hb HK
  obtain ⟨c0_, c1_, c2_, c3_⟩ := K_X0.cells hK; obtain ⟨z0_, z1_, -⟩ := K_X0.zs hK; have HK := Lib.hid hK; clear hK
  go_wp2_with fail
  refine (rCheck_any _ _ _).mono ?_
  rintro e w3 ⟨rfl, hb⟩
  clear c0_ c1_ c2_ c3_ z0_ z1_
  have hK := K_X0.below hb HK.out
  clear hb HK
  obtain ⟨c0_, c1_, c2_, c3_⟩ := K_X0.cells hK; obtain ⟨z0_, z1_, -⟩ := K_X0.zs hK; have HK := Lib.hid hK; clear hK
  go_wp2
  go_ret
  exact ⟨by simp, K_X0.bel HK.out⟩
set_option maxHeartbeats 3200000 in
theorem proofs_C (A B C D : Int) (L : Option Addr) (n c : Nat) (w : World) (hn : ¬ 5 < n) (hA : chkA A B = 0) (hC : chkA C D ≠ 0) : Calls Tryd.prog 8 #[.agg #[.int .i64 A, .int .i64 B], .agg #[.int .i64 C, .int .i64 D], .slice L n c] w fun e w' => e = .returned (.bool true) ∧ Below w.heap.size w w' := by
  have ht : decide ((5 : Int) < (n : Int)) = false := decide_eq_false (by omega)
  have IS := Lib.hid (fun W => Iso_err A B C D L n c W (by rw [hA, or2_z]; exact hC))
  rw [hA, or2_z] at IS
  have ha : (chkA C D != 0) = true := by rw [bne_iff_ne]; exact hC
  have HA := Lib.hid hA
  clear hA hC
  go_enter Tryd.func8, Tryd.ntmps8
  go_wp2_with fail
  refine (awake_any _).mono ?_
  rintro e w1 ⟨rfl, hb⟩
  have hK : K_X0 A B C D w.heap.size (w.heap.size + 1) w w1 := K_X0.below hb ⟨by simp [go_sem], by simp [go_sem], by simp [go_sem], by (repeat (first | (with_reducible exact Below.refl _ _) | (with_reducible exact HB.out) | (with_reducible refine below_draws ?_ _) | (with_reducible refine Below.alloc ?_ (by go_size) _) | (with_reducible refine Below.setCell ?_ (by go_size) _) | (with_reducible refine Below.alloc ?_ (by simp <;> omega) _) | (with_reducible refine Below.setCell ?_ (by simp <;> omega) _)))⟩
  clear hb
  obtain ⟨c0_, c1_, c2_, c3_⟩ := K_X0.cells hK; obtain ⟨z0_, z1_, -⟩ := K_X0.zs hK; have HK := Lib.hid hK; clear hK
  go_wp2_with fail
  refine (IS.out _).mono ?_
  rintro e w2 ⟨rfl, hb⟩
  clear c0_ c1_ c2_ c3_ z0_ z1_
  have hK := K_X0.below hb HK.out
  clear hb HK
  obtain ⟨c0_, c1_, c2_, c3_⟩ := K_X0.cells hK; obtain ⟨z0_, z1_, -⟩ := K_X0.zs hK; have HK := Lib.hid hK; clear hK
  go_wp2_with fail
  refine (rCheck_any _ _ _).mono ?_
  rintro e w3 ⟨rfl, hb⟩
  rw [HA.out]
  clear c0_ c1_ c2_ c3_ z0_ z1_
  have hK := K_X0.below hb HK.out
  clear hb HK
  obtain ⟨c0_, c1_, c2_, c3_⟩ := K_X0.cells hK; obtain ⟨z0_, z1_, -⟩ := K_X0.zs hK; have HK := Lib.hid hK; clear hK
  go_wp2_with fail
  refine (rCheck_any _ _ _).mono ?_
  rintro e w4 ⟨rfl, hb⟩
  clear c0_ c1_ c2_ c3_ z0_ z1_
  have hK := K_X0.below hb HK.out
  clear hb HK
  obtain ⟨c0_, c1_, c2_, c3_⟩ := K_X0.cells hK; obtain ⟨z0_, z1_, -⟩ := K_X0.zs hK; have HK := Lib.hid hK; clear hK
  go_wp2
  go_ret
  exact ⟨by simp, K_X0.bel HK.out⟩
set_option maxHeartbeats 3200000 in
theorem proofs_go (S : World → Prop) (hst : ∀ W W', Below W.heap.size W W' → S W → S W') (A B C D : Int) (L : Option Addr) (n c : Nat) (E : Int) (w : World) (hS : S w) (hn : ¬ 5 < n) (hA : chkA A B = 0) (hC : chkA C D = 0)
    (IS : Hid (∀ W : World, S W → Calls Tryd.prog 45 #[.agg #[.int .i64 A, .int .i64 B], .agg #[.int .i64 C, .int .i64 D], .slice L n c] W fun e w' => e = .returned (.int .i64 E) ∧ Below W.heap.size W w'))
    (RI : Hid (∀ W : World, S W → Calls Tryd.prog 46 #[.agg #[.int .i64 A, .int .i64 B], .agg #[.int .i64 C, .int .i64 D], .slice L n c] W fun e w' => e = .returned (.int .i64 E) ∧ Below W.heap.size W w')) : Calls Tryd.prog 8 #[.agg #[.int .i64 A, .int .i64 B], .agg #[.int .i64 C, .int .i64 D], .slice L n c] w fun e w' => e = .returned (.bool true) ∧ Below w.heap.size w w' := by
  have ht : decide ((5 : Int) < (n : Int)) = false := decide_eq_false (by omega)
  have HA := Lib.hid hA
  have HC := Lib.hid hC
  have HS := Lib.hid hS
  have HT := Lib.hid hst
  clear hA hC hS hst
  go_enter Tryd.func8, Tryd.ntmps8
  go_wp2_with fail
  refine (awake_any _).mono ?_
  rintro e w1 ⟨rfl, hb⟩
  have hK : K_X0 A B C D w.heap.size (w.heap.size + 1) w w1 := K_X0.below hb ⟨by simp [go_sem], by simp [go_sem], by simp [go_sem], by (repeat (first | (with_reducible exact Below.refl _ _) | (with_reducible exact HB.out) | (with_reducible refine below_draws ?_ _) | (with_reducible refine Below.alloc ?_ (by go_size) _) | (with_reducible refine Below.setCell ?_ (by go_size) _) | (with_reducible refine Below.alloc ?_ (by simp <;> omega) _) | (with_reducible refine Below.setCell ?_ (by simp <;> omega) _)))⟩
  have HS1 := Lib.hid (HT.out _ _ hK.bel HS.out)
  clear hb HS
  obtain ⟨c0_, c1_, c2_, c3_⟩ := K_X0.cells hK; obtain ⟨z0_, z1_, -⟩ := K_X0.zs hK; have HK := Lib.hid hK; clear hK
  go_wp2_with fail
  refine (IS.out _ HS1.out).mono ?_
  rintro e w2 ⟨rfl, hb⟩
  clear c0_ c1_ c2_ c3_ z0_ z1_
  have hK := K_X0.below hb HK.out
  have HS2 := Lib.hid (HT.out _ _ hb HS1.out)
  clear hb HK HS1
  obtain ⟨c0_, c1_, c2_, c3_⟩ := K_X0.cells hK; obtain ⟨z0_, z1_, -⟩ := K_X0.zs hK; have HK := Lib.hid hK; clear hK
  go_wp2_with fail
  refine (rCheck_any _ _ _).mono ?_
  rintro e w3 ⟨rfl, hb⟩
  rw [HA.out]
  clear c0_ c1_ c2_ c3_ z0_ z1_
  have hK := K_X0.below hb HK.out
  have HS3 := Lib.hid (HT.out _ _ hb HS2.out)
  clear hb HK HS2
  obtain ⟨c0_, c1_, c2_, c3_⟩ := K_X0.cells hK; obtain ⟨z0_, z1_, -⟩ := K_X0.zs hK; have HK := Lib.hid hK; clear hK
  go_wp2_with fail
  refine (rCheck_any _ _ _).mono ?_
  rintro e w4 ⟨rfl, hb⟩
  rw [HC.out]
  clear c0_ c1_ c2_ c3_ z0_ z1_
  have hK := K_X0.below hb HK.out
  have HS4 := Lib.hid (HT.out _ _ hb HS3.out)
  clear hb HK HS3
  obtain ⟨c0_, c1_, c2_, c3_⟩ := K_X0.cells hK; obtain ⟨z0_, z1_, -⟩ := K_X0.zs hK; have HK := Lib.hid hK; clear hK
  go_wp2_with fail
  refine (RI.out _ HS4.out).mono ?_
  rintro e w5 ⟨rfl, hb⟩
  clear c0_ c1_ c2_ c3_ z0_ z1_
  have hK := K_X0.below hb HK.out
  clear hb HK
  go_wp2
  go_ret
  exact ⟨by simp, K_X0.bel hK⟩
theorem U2_stable (n0 n1 n2 n3 d m0 m1 m2 m3 f : Int) (b o : Nat) (W W' : World) (hb : Below W.heap.size W W') (h : K_U2 n0 n1 n2 n3 d m0 m1 m2 m3 f b o W W) : K_U2 n0 n1 n2 n3 d m0 m1 m2 m3 f b o W' W' := by
  have h2 : KL W _ _ W' := K_U2.below hb h
  exact ⟨h2.c, h2.g, h2.f, Below.refl _ _⟩
/-- a list of elements, as far as the law reads it -/
def Qs (w : World) (L : Option Addr) (n c : Nat) : Prop := n = 2 → ∃ (b o : Nat) (x0 x1 x2 x3 x4 y0 y1 y2 y3 y4 : Int), L = some ⟨b, o, none⟩ ∧ K_U2 x0 x1 x2 x3 x4 y0 y1 y2 y3 y4 b o w w ∧ 2 ≤ c ∧ c ≤ 9223372036854775807
theorem walk_proofs (A B C D : Int) (L : Option Addr) (n c : Nat) (w : World) (hL : Qs w L n c) : Calls Tryd.prog 8 #[.agg #[.int .i64 A, .int .i64 B], .agg #[.int .i64 C, .int .i64 D], .slice L n c] w fun e w' => e = .returned (.bool true) ∧ Below w.heap.size w w' := by
  by_cases hn : 5 < n
  · exact proofs_long A B C D L n c w hn
  by_cases hA : chkA A B = 0
  · by_cases hC : chkA C D = 0
    · by_cases h2 : n = 2
      · obtain ⟨b, o, x0, x1, x2, x3, x4, y0, y1, y2, y3, y4, rfl, hU, hc, hc'⟩ := hL h2
        subst h2
        by_cases hx : chkQ x0 x1 x2 x3 x4 = 0
        · by_cases hy : chkQ y0 y1 y2 y3 y4 = 0
          · have dx : 0 < (Q.mk x0 x1 x2 x3 x4).d := by have := qin_of hx; show 0 < x4; omega
            have dy : 0 < (Q.mk y0 y1 y2 y3 y4).d := by have := qin_of hy; show 0 < y4; omega
            have lx := low_fits (chkQ_ok hx)
            have ly := low_fits (chkQ_ok hy)
            obtain ⟨p, hp⟩ : ∃ zz, (Q.mk x0 x1 x2 x3 x4).low = zz := ⟨_, rfl⟩
            obtain ⟨r, hr⟩ : ∃ zz, (Q.mk y0 y1 y2 y3 y4).low = zz := ⟨_, rfl⟩
            have e1 := sq_low C D (Q.mk x0 x1 x2 x3 x4) A dx
            have e2 := sq_low C D (Q.mk y0 y1 y2 y3 y4) B dy
            have e3 := tn_low C D (Q.mk x0 x1 x2 x3 x4) (Q.mk y0 y1 y2 y3 y4) dx dy
            rw [hp] at lx e1 e3
            rw [hr] at ly e2 e3
            have cp : chkQ p.w p.x p.y p.z p.d = 0 := by unfold chkQ; rw [if_pos lx]
            have cr : chkQ r.w r.x r.y r.z r.d = 0 := by unfold chkQ; rw [if_pos ly]
            have bA := Bn_A hA
            have bC := Bn_A hC
            refine proofs_go (fun W => K_U2 x0 x1 x2 x3 x4 y0 y1 y2 y3 y4 b o W W) (fun W W' => U2_stable x0 x1 x2 x3 x4 y0 y1 y2 y3 y4 b o W W') A B C D _ 2 c (if sqB C D (Q.mk x0 x1 x2 x3 x4) A && (sqB C D (Q.mk y0 y1 y2 y3 y4) B && tnB C D (Q.mk x0 x1 x2 x3 x4) (Q.mk y0 y1 y2 y3 y4)) then 0 else 18) w hU hn hA hC (Lib.hid fun W hW => ?_) (Lib.hid fun W hW => ?_)
            · exact Iso_two A B C D x0 x1 x2 x3 x4 y0 y1 y2 y3 y4 _ _ _ b o c W hW hc hc' hA hC hx hy (Lib.hid fun V => isRoot_any C D x0 x1 x2 x3 x4 A V bC.1 bC.2 hx bA.1) (Lib.hid fun V => isRoot_any C D y0 y1 y2 y3 y4 B V bC.1 bC.2 hy bA.2) (Lib.hid fun V => changeSign_any C D x0 x1 x2 x3 x4 y0 y1 y2 y3 y4 V bC.1 bC.2 hx hy)
            · rw [← e1, ← e2, ← e3]
              exact rIso_two A B C D x0 x1 x2 x3 x4 y0 y1 y2 y3 y4 p.w p.x p.y p.z p.d r.w r.x r.y r.z r.d _ _ _ b o c W hW hc hc' hx hy (Lib.hid fun V => by have := rNormal_v x0 x1 x2 x3 x4 V hx; rw [hp] at this; exact this) (Lib.hid fun V => by have := rNormal_v y0 y1 y2 y3 y4 V hy; rw [hr] at this; exact this) (Lib.hid fun V => Square_any C D p.w p.x p.y p.z p.d A V bC.1 bC.2 cp bA.1) (Lib.hid fun V => Square_any C D r.w r.x r.y r.z r.d B V bC.1 bC.2 cr bA.2) (Lib.hid fun V => Turned_any C D p.w p.x p.y p.z p.d r.w r.x r.y r.z r.d V bC.1 bC.2 cp cr)
          · refine proofs_go (fun W => K_U2 x0 x1 x2 x3 x4 y0 y1 y2 y3 y4 b o W W) (fun W W' => U2_stable x0 x1 x2 x3 x4 y0 y1 y2 y3 y4 b o W W') A B C D _ 2 c (chkQ y0 y1 y2 y3 y4) w hU hn hA hC (Lib.hid fun W hW => ?_) (Lib.hid fun W hW => rIso_y A B C D x0 x1 x2 x3 x4 y0 y1 y2 y3 y4 b o c W hW hc hc' hx hy)
            have := Iso_q A B C D x0 x1 x2 x3 x4 y0 y1 y2 y3 y4 b o c W hW hc hc' hA hC (by rw [hx, or2_z]; exact hy)
            rw [hx, or2_z] at this
            exact this
        · refine proofs_go (fun W => K_U2 x0 x1 x2 x3 x4 y0 y1 y2 y3 y4 b o W W) (fun W W' => U2_stable x0 x1 x2 x3 x4 y0 y1 y2 y3 y4 b o W W') A B C D _ 2 c (chkQ x0 x1 x2 x3 x4) w hU hn hA hC (Lib.hid fun W hW => ?_) (Lib.hid fun W hW => rIso_x A B C D x0 x1 x2 x3 x4 y0 y1 y2 y3 y4 b o c W hW hc hc' hx)
          have := Iso_q A B C D x0 x1 x2 x3 x4 y0 y1 y2 y3 y4 b o c W hW hc hc' hA hC (by rw [or2_ne hx]; exact hx)
          rw [or2_ne hx] at this
          exact this
      · exact proofs_go (fun _ => True) (fun _ _ _ h => h) A B C D L n c 9 w trivial hn hA hC (Lib.hid fun W _ => Iso_len A B C D L n c W hA hC h2) (Lib.hid fun W _ => rIso_len A B C D L n c W h2)
    · exact proofs_C A B C D L n c w hn hA hC
  · exact proofs_A A B C D L n c w hn hA
end Go.Proofs.YtjloanplhbbomaaDoor.Al
