/-
  WALK of the law AlgebraNorms: valid elements.
-/
import Derived.Test.YtjloanplhbbomaaDoorLwN
namespace Go.Proofs.YtjloanplhbbomaaDoor.Al
open Go.RowKit
open Alm
set_option linter.unusedVariables false
set_option linter.unusedSimpArgs false
set_option maxRecDepth 100000
theorem KL.catr {w0 w1 w2 : World} {cs cs2 : List (Nat × Nat × Value)} {fs : List (Nat × Nat)} (h2 : KL w1 cs2 [] w2) (h : KL w0 cs fs w1) : KL w0 (cs2 ++ cs) fs w2 := KL.cat h h2
set_option maxHeartbeats 6400000 in
theorem norms_rat (A B n0 d : Int) (w : World) (hA : chkA A B = 0) (hq : chkQ n0 0 0 0 d = 0) : Calls Tryd.prog 6 #[.agg #[.int .i64 A, .int .i64 B], .agg #[.int .i64 n0, .int .i64 0, .int .i64 0, .int .i64 0, .int .i64 d]] w fun e w' => e = .returned (.bool true) ∧ Below w.heap.size w w' := by
  have TV := Lib.hid (fun W => Trace_v n0 0 0 0 d W hq)
  have RT := Lib.hid (fun W => rTrace_v n0 0 0 0 d W hq)
  obtain ⟨t0, h0⟩ : ∃ k, fn (2 * n0) d = k := ⟨_, rfl⟩
  obtain ⟨t1, h1⟩ : ∃ k, fd (2 * n0) d = k := ⟨_, rfl⟩
  rw [h0, h1] at TV RT
  have NV := Lib.hid (fun W => Norm_v A B n0 0 0 0 d W hA hq)
  have RN := Lib.hid (fun W => rNorm_v A B n0 0 0 0 d W hA hq)
  have PV := Lib.hid (fun W => Poly_rat A B n0 d W hA hq)
  have RP := Lib.hid (fun W => rPoly_rat A B n0 0 0 0 d W hA hq rfl)
  have IV := Lib.hid (fun W => Integral_v A B n0 0 0 0 d W hA hq)
  have RI := Lib.hid (fun W => rIntegral_v A B n0 0 0 0 d W hA hq)
  have CA := Lib.hid (rCheckAll_1new A B n0 0 0 0 d)
  have e0 : or2 (chkA A B) (chkQ n0 0 0 0 d) = 0 := or2_ok hA hq
  rw [e0] at CA
  obtain ⟨I, hI⟩ : ∃ k, itB A B n0 0 0 0 d = k := ⟨_, rfl⟩
  rw [hI] at IV RI
  obtain ⟨s0, g0⟩ : ∃ k, fn (nm A B n0 0 0 0) (d * d) = k := ⟨_, rfl⟩
  obtain ⟨s1, g1⟩ : ∃ k, fd (nm A B n0 0 0 0) (d * d) = k := ⟨_, rfl⟩
  rw [g0, g1] at NV RN
  obtain ⟨p0, i0⟩ : ∃ k, fn (-n0) d = k := ⟨_, rfl⟩
  obtain ⟨p1, i1⟩ : ∃ k, fd (-n0) d = k := ⟨_, rfl⟩
  rw [i0, i1] at PV RP
  have HQ := Lib.hid hq
  clear hq hA e0 hI g0 g1 i0 i1 h0 h1
  go_enter Tryd.func6, Tryd.ntmps6
  go_wp2_with fail
  refine (awake_any _).mono ?_
  rintro e w1 ⟨rfl, hb⟩
  have hK : K_Nd A B n0 0 0 0 d w.heap.size (w.heap.size + 1) w w1 := K_Nd.below hb ⟨by simp [go_sem], by simp [go_sem], by simp [go_sem], by (repeat (first | (with_reducible exact Below.refl _ _) | (with_reducible exact HB.out) | (with_reducible refine below_draws ?_ _) | (with_reducible refine Below.alloc ?_ (by go_size) _) | (with_reducible refine Below.setCell ?_ (by go_size) _) | (with_reducible refine Below.alloc ?_ (by simp <;> omega) _) | (with_reducible refine Below.setCell ?_ (by simp <;> omega) _)))⟩
  clear hb
  obtain ⟨c0_, c1_, c2_, c3_, c4_, c5_, c6_⟩ := K_Nd.cells hK; obtain ⟨z0_, z1_, -⟩ := K_Nd.zs hK; have HK := Lib.hid hK; clear hK
  go_wp2_with fail
  refine (TV.out _).mono ?_
  rintro e w2 ⟨rfl, hb⟩
  clear c0_ c1_ c2_ c3_ c4_ c5_ c6_ z0_ z1_
  have hK := K_Nd.below hb HK.out
  clear hb HK
  obtain ⟨c0_, c1_, c2_, c3_, c4_, c5_, c6_⟩ := K_Nd.cells hK; obtain ⟨z0_, z1_, -⟩ := K_Nd.zs hK; have HK := Lib.hid hK; clear hK
  go_wp2_with fail
  refine (rCheckQuat_any _ _ _ _ _ _).mono ?_
  rintro e w3 ⟨rfl, hb⟩
  rw [HQ.out]
  clear c0_ c1_ c2_ c3_ c4_ c5_ c6_ z0_ z1_
  have hK : K_L1 A B n0 0 0 0 d t0 t1 w.heap.size (w.heap.size + 1) w2.heap.size w w3 := KL.below hb (KL.push2 HK.out t0 t1 _ _ rfl)
  clear hb HK
  obtain ⟨c0_, c1_, c2_, c3_, c4_, c5_, c6_, c7_, c8_⟩ := K_L1.cells hK; obtain ⟨z0_, z1_, z2_, -⟩ := K_L1.zs hK; have HK := Lib.hid hK; clear hK
  go_wp2_with fail
  have hk := HK.out
  clear c0_ c1_ c2_ c3_ c4_ c5_ c6_ c7_ c8_ z0_ z1_ z2_
  clear HK
  go_region_held3 (fun w' => (w'.cell? ⟨w2.heap.size, 0, none⟩ = some (.int .i64 t0) ∧ w'.cell? ⟨w2.heap.size, 1, none⟩ = some (.int .i64 t1) ∧ w'.cell? ⟨w.heap.size, 0, none⟩ = some (.int .i64 A) ∧ w'.cell? ⟨w.heap.size, 1, none⟩ = some (.int .i64 B) ∧ w'.cell? ⟨(w.heap.size + 1), 0, none⟩ = some (.int .i64 n0) ∧ w'.cell? ⟨(w.heap.size + 1), 1, none⟩ = some (.int .i64 0) ∧ w'.cell? ⟨(w.heap.size + 1), 2, none⟩ = some (.int .i64 0) ∧ w'.cell? ⟨(w.heap.size + 1), 3, none⟩ = some (.int .i64 0) ∧ w'.cell? ⟨(w.heap.size + 1), 4, none⟩ = some (.int .i64 d)) ∧ K_L1 A B n0 0 0 0 d t0 t1 w.heap.size (w.heap.size + 1) w2.heap.size w w') ((refine K_L1.ks ?_; repeat (first | (with_reducible assumption) | (with_reducible refine K_L1.draws _ ?_) | (with_reducible refine K_L1.drew ?_) | (with_reducible refine K_L1.alloc _ ?_) | (with_reducible refine K_L1.set ?_ _ _ _ (by omega)))))
    (first
      | (go_at_call 32; (with_reducible refine (RT.out _).mono ?_); rintro e w3b ⟨rfl, hbel⟩; have hk' := K_L1.below hbel (And.right (by assumption)); clear hbel))
  rename_i hh
  clear hh hk
  have hK := hk'
  clear hk'
  obtain ⟨c0_, c1_, c2_, c3_, c4_, c5_, c6_, c7_, c8_⟩ := K_L1.cells hK; obtain ⟨z0_, z1_, z2_, -⟩ := K_L1.zs hK; have HK := Lib.hid hK; clear hK
  go_wp2_with fail
  refine (NV.out _).mono ?_
  rintro e w4 ⟨rfl, hb⟩
  clear c0_ c1_ c2_ c3_ c4_ c5_ c6_ c7_ c8_ z0_ z1_ z2_
  have hK := K_L1.below hb HK.out
  clear hb HK
  obtain ⟨c0_, c1_, c2_, c3_, c4_, c5_, c6_, c7_, c8_⟩ := K_L1.cells hK; obtain ⟨z0_, z1_, z2_, -⟩ := K_L1.zs hK; have HK := Lib.hid hK; clear hK
  go_wp2_with fail
  refine (PV.out _).mono ?_
  rintro e w5 ⟨bp, rfl, hb⟩
  clear c0_ c1_ c2_ c3_ c4_ c5_ c6_ c7_ c8_ z0_ z1_ z2_
  have hK : K_L3 A B n0 0 0 0 d t0 t1 s0 s1 p0 p1 1 1 w.heap.size (w.heap.size + 1) w2.heap.size w4.heap.size bp w w5 := KL.cat (KL.push2 HK.out s0 s1 _ _ rfl) hb
  clear hb HK
  obtain ⟨c0_, c1_, c2_, c3_, c4_, c5_, c6_, c7_, c8_, c9_, c10_, c11_, c12_, c13_, c14_⟩ := K_L3.cells hK; obtain ⟨z0_, z1_, z2_, z3_, z4_, -⟩ := K_L3.zs hK; have HK := Lib.hid hK; clear hK
  go_wp2_with fail
  refine (IV.out _).mono ?_
  rintro e w6 ⟨rfl, hb⟩
  clear c0_ c1_ c2_ c3_ c4_ c5_ c6_ c7_ c8_ c9_ c10_ c11_ c12_ c13_ c14_ z0_ z1_ z2_ z3_ z4_
  have hK := K_L3.below hb HK.out
  clear hb HK
  obtain ⟨c0_, c1_, c2_, c3_, c4_, c5_, c6_, c7_, c8_, c9_, c10_, c11_, c12_, c13_, c14_⟩ := K_L3.cells hK; obtain ⟨z0_, z1_, z2_, z3_, z4_, -⟩ := K_L3.zs hK; have HK := Lib.hid hK; clear hK
  go_wp2_with fail
  refine (CA.out _ _ _ (by simp)).mono ?_
  rintro e w7 ⟨rfl, hb⟩
  clear c0_ c1_ c2_ c3_ c4_ c5_ c6_ c7_ c8_ c9_ c10_ c11_ c12_ c13_ c14_ z0_ z1_ z2_ z3_ z4_
  have hK := K_L3.below hb (K_L3.alloc _ HK.out)
  clear hb HK
  obtain ⟨c0_, c1_, c2_, c3_, c4_, c5_, c6_, c7_, c8_, c9_, c10_, c11_, c12_, c13_, c14_⟩ := K_L3.cells hK; obtain ⟨z0_, z1_, z2_, z3_, z4_, -⟩ := K_L3.zs hK; have HK := Lib.hid hK; clear hK
  go_wp2_with fail
  have hk := HK.out
  clear c0_ c1_ c2_ c3_ c4_ c5_ c6_ c7_ c8_ c9_ c10_ c11_ c12_ c13_ c14_ z0_ z1_ z2_ z3_ z4_
  clear HK
  go_region_held3 (fun w' => (w'.cell? ⟨bp, 0, none⟩ = some (.int .i64 p0) ∧ w'.cell? ⟨bp, 1, none⟩ = some (.int .i64 p1) ∧ w'.cell? ⟨bp, 2, none⟩ = some (.int .i64 1) ∧ w'.cell? ⟨bp, 3, none⟩ = some (.int .i64 1) ∧ w'.cell? ⟨w4.heap.size, 0, none⟩ = some (.int .i64 s0) ∧ w'.cell? ⟨w4.heap.size, 1, none⟩ = some (.int .i64 s1) ∧ w'.cell? ⟨w2.heap.size, 0, none⟩ = some (.int .i64 t0) ∧ w'.cell? ⟨w2.heap.size, 1, none⟩ = some (.int .i64 t1) ∧ w'.cell? ⟨w.heap.size, 0, none⟩ = some (.int .i64 A) ∧ w'.cell? ⟨w.heap.size, 1, none⟩ = some (.int .i64 B) ∧ w'.cell? ⟨(w.heap.size + 1), 0, none⟩ = some (.int .i64 n0) ∧ w'.cell? ⟨(w.heap.size + 1), 1, none⟩ = some (.int .i64 0) ∧ w'.cell? ⟨(w.heap.size + 1), 2, none⟩ = some (.int .i64 0) ∧ w'.cell? ⟨(w.heap.size + 1), 3, none⟩ = some (.int .i64 0) ∧ w'.cell? ⟨(w.heap.size + 1), 4, none⟩ = some (.int .i64 d)) ∧ K_L3 A B n0 0 0 0 d t0 t1 s0 s1 p0 p1 1 1 w.heap.size (w.heap.size + 1) w2.heap.size w4.heap.size bp w w') ((refine K_L3.ks ?_; repeat (first | (with_reducible assumption) | (with_reducible refine K_L3.draws _ ?_) | (with_reducible refine K_L3.drew ?_) | (with_reducible refine K_L3.alloc _ ?_) | (with_reducible refine K_L3.set ?_ _ _ _ (by omega)))))
    (first
      | (go_at_call 36; (with_reducible refine (RN.out _).mono ?_); rintro e w8 ⟨rfl, hbel⟩; have hk' := K_L3.below hbel (And.right (by assumption)); clear hbel)
      | (go_at_call 38; (with_reducible refine (RP.out _).mono ?_); rintro e w9 ⟨br, rfl, hbel⟩; have hk4 : K_L4 A B n0 0 0 0 d t0 t1 s0 s1 p0 p1 1 1 w.heap.size (w.heap.size + 1) w2.heap.size w4.heap.size bp br w w9 := KL.catr hbel (show K_L3 A B n0 0 0 0 d t0 t1 s0 s1 p0 p1 1 1 w.heap.size (w.heap.size + 1) w2.heap.size w4.heap.size bp w _ from And.right (by assumption)); have hk' := K_L3.below hbel.bel (And.right (by assumption)); clear hbel; have FC : Hid (Calls Tryd.prog 37 #[.slice (some ⟨bp, 0, none⟩) 2 2, .slice (some ⟨br, 0, none⟩) 2 2] w9 fun e w' => e = .returned (.bool true) ∧ Below w9.heap.size w9 w') := Lib.hid (fracs_two p0 p1 1 1 bp br w9 (by obtain ⟨c0_, c1_, c2_, c3_, c4_, c5_, c6_, c7_, c8_, c9_, c10_, c11_, c12_, c13_, c14_, c15_, c16_, c17_, c18_⟩ := K_L4.cells hk4; exact ⟨by simp [c0_, c1_, c2_, c3_, c4_, c5_, c6_, c7_, c8_, c9_, c10_, c11_, c12_, c13_, c14_, c15_, c16_, c17_, c18_], by simp, by simp, Below.refl _ _⟩)); clear hk4)
      | (go_at_call 37; (with_reducible refine FC.out.mono ?_); rintro e w10 ⟨rfl, hbel⟩; have hk' := K_L3.below hbel (And.right (by assumption)); clear hbel FC)
      | (go_at_call 39; (with_reducible refine (RI.out _).mono ?_); rintro e w11 ⟨rfl, hbel⟩; have hk' := K_L3.below hbel (And.right (by assumption)); clear hbel))
  all_goals
    go_wp2
    go_ret
    exact ⟨rfl, K_L3.bel hk'⟩
set_option maxHeartbeats 6400000 in
theorem norms_gen (A B n0 n1 n2 n3 d : Int) (w : World) (hA : chkA A B = 0) (hq : chkQ n0 n1 n2 n3 d = 0) (hr : (n1 == 0 && (n2 == 0 && n3 == 0)) = false) : Calls Tryd.prog 6 #[.agg #[.int .i64 A, .int .i64 B], .agg #[.int .i64 n0, .int .i64 n1, .int .i64 n2, .int .i64 n3, .int .i64 d]] w fun e w' => e = .returned (.bool true) ∧ Below w.heap.size w w' := by
  have TV := Lib.hid (fun W => Trace_v n0 n1 n2 n3 d W hq)
  have RT := Lib.hid (fun W => rTrace_v n0 n1 n2 n3 d W hq)
  obtain ⟨t0, h0⟩ : ∃ k, fn (2 * n0) d = k := ⟨_, rfl⟩
  obtain ⟨t1, h1⟩ : ∃ k, fd (2 * n0) d = k := ⟨_, rfl⟩
  rw [h0, h1] at TV RT
  have NV := Lib.hid (fun W => Norm_v A B n0 n1 n2 n3 d W hA hq)
  have RN := Lib.hid (fun W => rNorm_v A B n0 n1 n2 n3 d W hA hq)
  have PV := Lib.hid (fun W => Poly_gen A B n0 n1 n2 n3 d W hA hq hr)
  have RP := Lib.hid (fun W => rPoly_gen A B n0 n1 n2 n3 d W hA hq hr)
  have IV := Lib.hid (fun W => Integral_v A B n0 n1 n2 n3 d W hA hq)
  have RI := Lib.hid (fun W => rIntegral_v A B n0 n1 n2 n3 d W hA hq)
  have CA := Lib.hid (rCheckAll_1new A B n0 n1 n2 n3 d)
  have e0 : or2 (chkA A B) (chkQ n0 n1 n2 n3 d) = 0 := or2_ok hA hq
  rw [e0] at CA
  obtain ⟨I, hI⟩ : ∃ k, itB A B n0 n1 n2 n3 d = k := ⟨_, rfl⟩
  rw [hI] at IV RI
  obtain ⟨s0, g0⟩ : ∃ k, fn (nm A B n0 n1 n2 n3) (d * d) = k := ⟨_, rfl⟩
  obtain ⟨s1, g1⟩ : ∃ k, fd (nm A B n0 n1 n2 n3) (d * d) = k := ⟨_, rfl⟩
  rw [g0, g1] at NV RN PV RP
  obtain ⟨p0, i0⟩ : ∃ k, fn (-2 * n0) d = k := ⟨_, rfl⟩
  obtain ⟨p1, i1⟩ : ∃ k, fd (-2 * n0) d = k := ⟨_, rfl⟩
  rw [i0, i1] at PV RP
  have HQ := Lib.hid hq
  clear hq hA e0 hI g0 g1 i0 i1 h0 h1 hr
  go_enter Tryd.func6, Tryd.ntmps6
  go_wp2_with fail
  refine (awake_any _).mono ?_
  rintro e w1 ⟨rfl, hb⟩
  have hK : K_Nd A B n0 n1 n2 n3 d w.heap.size (w.heap.size + 1) w w1 := K_Nd.below hb ⟨by simp [go_sem], by simp [go_sem], by simp [go_sem], by (repeat (first | (with_reducible exact Below.refl _ _) | (with_reducible exact HB.out) | (with_reducible refine below_draws ?_ _) | (with_reducible refine Below.alloc ?_ (by go_size) _) | (with_reducible refine Below.setCell ?_ (by go_size) _) | (with_reducible refine Below.alloc ?_ (by simp <;> omega) _) | (with_reducible refine Below.setCell ?_ (by simp <;> omega) _)))⟩
  clear hb
  obtain ⟨c0_, c1_, c2_, c3_, c4_, c5_, c6_⟩ := K_Nd.cells hK; obtain ⟨z0_, z1_, -⟩ := K_Nd.zs hK; have HK := Lib.hid hK; clear hK
  go_wp2_with fail
  refine (TV.out _).mono ?_
  rintro e w2 ⟨rfl, hb⟩
  clear c0_ c1_ c2_ c3_ c4_ c5_ c6_ z0_ z1_
  have hK := K_Nd.below hb HK.out
  clear hb HK
  obtain ⟨c0_, c1_, c2_, c3_, c4_, c5_, c6_⟩ := K_Nd.cells hK; obtain ⟨z0_, z1_, -⟩ := K_Nd.zs hK; have HK := Lib.hid hK; clear hK
  go_wp2_with fail
  refine (rCheckQuat_any _ _ _ _ _ _).mono ?_
  rintro e w3 ⟨rfl, hb⟩
  rw [HQ.out]
  clear c0_ c1_ c2_ c3_ c4_ c5_ c6_ z0_ z1_
  have hK : K_L1 A B n0 n1 n2 n3 d t0 t1 w.heap.size (w.heap.size + 1) w2.heap.size w w3 := KL.below hb (KL.push2 HK.out t0 t1 _ _ rfl)
  clear hb HK
  obtain ⟨c0_, c1_, c2_, c3_, c4_, c5_, c6_, c7_, c8_⟩ := K_L1.cells hK; obtain ⟨z0_, z1_, z2_, -⟩ := K_L1.zs hK; have HK := Lib.hid hK; clear hK
  go_wp2_with fail
  have hk := HK.out
  clear c0_ c1_ c2_ c3_ c4_ c5_ c6_ c7_ c8_ z0_ z1_ z2_
  clear HK
  go_region_held3 (fun w' => (w'.cell? ⟨w2.heap.size, 0, none⟩ = some (.int .i64 t0) ∧ w'.cell? ⟨w2.heap.size, 1, none⟩ = some (.int .i64 t1) ∧ w'.cell? ⟨w.heap.size, 0, none⟩ = some (.int .i64 A) ∧ w'.cell? ⟨w.heap.size, 1, none⟩ = some (.int .i64 B) ∧ w'.cell? ⟨(w.heap.size + 1), 0, none⟩ = some (.int .i64 n0) ∧ w'.cell? ⟨(w.heap.size + 1), 1, none⟩ = some (.int .i64 n1) ∧ w'.cell? ⟨(w.heap.size + 1), 2, none⟩ = some (.int .i64 n2) ∧ w'.cell? ⟨(w.heap.size + 1), 3, none⟩ = some (.int .i64 n3) ∧ w'.cell? ⟨(w.heap.size + 1), 4, none⟩ = some (.int .i64 d)) ∧ K_L1 A B n0 n1 n2 n3 d t0 t1 w.heap.size (w.heap.size + 1) w2.heap.size w w') ((refine K_L1.ks ?_; repeat (first | (with_reducible assumption) | (with_reducible refine K_L1.draws _ ?_) | (with_reducible refine K_L1.drew ?_) | (with_reducible refine K_L1.alloc _ ?_) | (with_reducible refine K_L1.set ?_ _ _ _ (by omega)))))
    (first
      | (go_at_call 32; (with_reducible refine (RT.out _).mono ?_); rintro e w3b ⟨rfl, hbel⟩; have hk' := K_L1.below hbel (And.right (by assumption)); clear hbel))
  rename_i hh
  clear hh hk
  have hK := hk'
  clear hk'
  obtain ⟨c0_, c1_, c2_, c3_, c4_, c5_, c6_, c7_, c8_⟩ := K_L1.cells hK; obtain ⟨z0_, z1_, z2_, -⟩ := K_L1.zs hK; have HK := Lib.hid hK; clear hK
  go_wp2_with fail
  refine (NV.out _).mono ?_
  rintro e w4 ⟨rfl, hb⟩
  clear c0_ c1_ c2_ c3_ c4_ c5_ c6_ c7_ c8_ z0_ z1_ z2_
  have hK := K_L1.below hb HK.out
  clear hb HK
  obtain ⟨c0_, c1_, c2_, c3_, c4_, c5_, c6_, c7_, c8_⟩ := K_L1.cells hK; obtain ⟨z0_, z1_, z2_, -⟩ := K_L1.zs hK; have HK := Lib.hid hK; clear hK
  go_wp2_with fail
  refine (PV.out _).mono ?_
  rintro e w5 ⟨bp, rfl, hb⟩
  clear c0_ c1_ c2_ c3_ c4_ c5_ c6_ c7_ c8_ z0_ z1_ z2_
  have hK : K_L5 A B n0 n1 n2 n3 d t0 t1 s0 s1 s0 s1 p0 p1 1 1 w.heap.size (w.heap.size + 1) w2.heap.size w4.heap.size bp w w5 := KL.cat (KL.push2 HK.out s0 s1 _ _ rfl) hb
  clear hb HK
  obtain ⟨c0_, c1_, c2_, c3_, c4_, c5_, c6_, c7_, c8_, c9_, c10_, c11_, c12_, c13_, c14_, c15_, c16_⟩ := K_L5.cells hK; obtain ⟨z0_, z1_, z2_, z3_, z4_, -⟩ := K_L5.zs hK; have HK := Lib.hid hK; clear hK
  go_wp2_with fail
  refine (IV.out _).mono ?_
  rintro e w6 ⟨rfl, hb⟩
  clear c0_ c1_ c2_ c3_ c4_ c5_ c6_ c7_ c8_ c9_ c10_ c11_ c12_ c13_ c14_ c15_ c16_ z0_ z1_ z2_ z3_ z4_
  have hK := K_L5.below hb HK.out
  clear hb HK
  obtain ⟨c0_, c1_, c2_, c3_, c4_, c5_, c6_, c7_, c8_, c9_, c10_, c11_, c12_, c13_, c14_, c15_, c16_⟩ := K_L5.cells hK; obtain ⟨z0_, z1_, z2_, z3_, z4_, -⟩ := K_L5.zs hK; have HK := Lib.hid hK; clear hK
  go_wp2_with fail
  refine (CA.out _ _ _ (by simp)).mono ?_
  rintro e w7 ⟨rfl, hb⟩
  clear c0_ c1_ c2_ c3_ c4_ c5_ c6_ c7_ c8_ c9_ c10_ c11_ c12_ c13_ c14_ c15_ c16_ z0_ z1_ z2_ z3_ z4_
  have hK := K_L5.below hb (K_L5.alloc _ HK.out)
  clear hb HK
  obtain ⟨c0_, c1_, c2_, c3_, c4_, c5_, c6_, c7_, c8_, c9_, c10_, c11_, c12_, c13_, c14_, c15_, c16_⟩ := K_L5.cells hK; obtain ⟨z0_, z1_, z2_, z3_, z4_, -⟩ := K_L5.zs hK; have HK := Lib.hid hK; clear hK
  go_wp2_with fail
  have hk := HK.out
  clear c0_ c1_ c2_ c3_ c4_ c5_ c6_ c7_ c8_ c9_ c10_ c11_ c12_ c13_ c14_ c15_ c16_ z0_ z1_ z2_ z3_ z4_
  clear HK
  go_region_held3 (fun w' => (w'.cell? ⟨bp, 0, none⟩ = some (.int .i64 s0) ∧ w'.cell? ⟨bp, 1, none⟩ = some (.int .i64 s1) ∧ w'.cell? ⟨bp, 2, none⟩ = some (.int .i64 p0) ∧ w'.cell? ⟨bp, 3, none⟩ = some (.int .i64 p1) ∧ w'.cell? ⟨bp, 4, none⟩ = some (.int .i64 1) ∧ w'.cell? ⟨bp, 5, none⟩ = some (.int .i64 1) ∧ w'.cell? ⟨w4.heap.size, 0, none⟩ = some (.int .i64 s0) ∧ w'.cell? ⟨w4.heap.size, 1, none⟩ = some (.int .i64 s1) ∧ w'.cell? ⟨w2.heap.size, 0, none⟩ = some (.int .i64 t0) ∧ w'.cell? ⟨w2.heap.size, 1, none⟩ = some (.int .i64 t1) ∧ w'.cell? ⟨w.heap.size, 0, none⟩ = some (.int .i64 A) ∧ w'.cell? ⟨w.heap.size, 1, none⟩ = some (.int .i64 B) ∧ w'.cell? ⟨(w.heap.size + 1), 0, none⟩ = some (.int .i64 n0) ∧ w'.cell? ⟨(w.heap.size + 1), 1, none⟩ = some (.int .i64 n1) ∧ w'.cell? ⟨(w.heap.size + 1), 2, none⟩ = some (.int .i64 n2) ∧ w'.cell? ⟨(w.heap.size + 1), 3, none⟩ = some (.int .i64 n3) ∧ w'.cell? ⟨(w.heap.size + 1), 4, none⟩ = some (.int .i64 d)) ∧ K_L5 A B n0 n1 n2 n3 d t0 t1 s0 s1 s0 s1 p0 p1 1 1 w.heap.size (w.heap.size + 1) w2.heap.size w4.heap.size bp w w') ((refine K_L5.ks ?_; repeat (first | (with_reducible assumption) | (with_reducible refine K_L5.draws _ ?_) | (with_reducible refine K_L5.drew ?_) | (with_reducible refine K_L5.alloc _ ?_) | (with_reducible refine K_L5.set ?_ _ _ _ (by omega)))))
    (first
      | (go_at_call 36; (with_reducible refine (RN.out _).mono ?_); rintro e w8 ⟨rfl, hbel⟩; have hk' := K_L5.below hbel (And.right (by assumption)); clear hbel)
      | (go_at_call 38; (with_reducible refine (RP.out _).mono ?_); rintro e w9 ⟨br, rfl, hbel⟩; have hk4 : K_L6 A B n0 n1 n2 n3 d t0 t1 s0 s1 s0 s1 p0 p1 1 1 w.heap.size (w.heap.size + 1) w2.heap.size w4.heap.size bp br w w9 := KL.catr hbel (show K_L5 A B n0 n1 n2 n3 d t0 t1 s0 s1 s0 s1 p0 p1 1 1 w.heap.size (w.heap.size + 1) w2.heap.size w4.heap.size bp w _ from And.right (by assumption)); have hk' := K_L5.below hbel.bel (And.right (by assumption)); clear hbel; have FC : Hid (Calls Tryd.prog 37 #[.slice (some ⟨bp, 0, none⟩) 3 3, .slice (some ⟨br, 0, none⟩) 3 3] w9 fun e w' => e = .returned (.bool true) ∧ Below w9.heap.size w9 w') := Lib.hid (fracs_three s0 s1 p0 p1 1 1 bp br w9 (by obtain ⟨c0_, c1_, c2_, c3_, c4_, c5_, c6_, c7_, c8_, c9_, c10_, c11_, c12_, c13_, c14_, c15_, c16_, c17_, c18_, c19_, c20_, c21_, c22_⟩ := K_L6.cells hk4; exact ⟨by simp [c0_, c1_, c2_, c3_, c4_, c5_, c6_, c7_, c8_, c9_, c10_, c11_, c12_, c13_, c14_, c15_, c16_, c17_, c18_, c19_, c20_, c21_, c22_], by simp, by simp, Below.refl _ _⟩)); clear hk4)
      | (go_at_call 37; (with_reducible refine FC.out.mono ?_); rintro e w10 ⟨rfl, hbel⟩; have hk' := K_L5.below hbel (And.right (by assumption)); clear hbel FC)
      | (go_at_call 39; (with_reducible refine (RI.out _).mono ?_); rintro e w11 ⟨rfl, hbel⟩; have hk' := K_L5.below hbel (And.right (by assumption)); clear hbel))
  all_goals
    go_wp2
    go_ret
    exact ⟨rfl, K_L5.bel hk'⟩
theorem walk_norms (A B n0 n1 n2 n3 d : Int) (w : World) : Calls Tryd.prog 6 #[.agg #[.int .i64 A, .int .i64 B], .agg #[.int .i64 n0, .int .i64 n1, .int .i64 n2, .int .i64 n3, .int .i64 d]] w fun e w' => e = .returned (.bool true) ∧ Below w.heap.size w w' := by
  by_cases hq : chkQ n0 n1 n2 n3 d = 0
  · by_cases hA : chkA A B = 0
    · rcases hr : (n1 == 0 && (n2 == 0 && n3 == 0))
      · exact norms_gen A B n0 n1 n2 n3 d w hA hq hr
      · simp only [Bool.and_eq_true, beq_iff_eq] at hr
        obtain ⟨r1, r2, r3⟩ := hr
        subst r1; subst r2; subst r3
        exact norms_rat A B n0 d w hA hq
    · exact norms_B A B n0 n1 n2 n3 d w hq hA
  · exact norms_A A B n0 n1 n2 n3 d w hq
end Go.Proofs.YtjloanplhbbomaaDoor.Al
