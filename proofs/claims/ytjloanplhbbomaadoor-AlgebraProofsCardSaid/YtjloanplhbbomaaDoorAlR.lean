/-
  WALKS: the reference's products, conjugates and errors.
-/
import Derived.Test.YtjloanplhbbomaaDoorAlM
namespace Go.Proofs.YtjloanplhbbomaaDoor.Al
open Go.RowKit
open Alm
set_option linter.unusedVariables false
set_option linter.unusedSimpArgs false
set_option maxRecDepth 100000
theorem Conj_bad (n0 n1 n2 n3 d : Int) (w : World) (h : qB ⟨n0, n1, n2, n3, d⟩ = false) :
    Calls Tryd.prog 26 #[.agg #[.int .i64 n0, .int .i64 n1, .int .i64 n2, .int .i64 n3, .int .i64 d]] w fun e w' => e = .returned (.tuple #[.agg #[.int .i64 0, .int .i64 0, .int .i64 0, .int .i64 0, .int .i64 0], .int .i64 3]) ∧ Below w.heap.size w w' := by
  go_enter Tryd.func26, Tryd.ntmps26
  go_wp2_with fail
  refine (CheckQuat_bad _ _ _ _ _ _ h).mono ?_
  rintro e w1 ⟨rfl, hb⟩
  obtain ⟨hc, hf⟩ := bcell hb
  have HB := Lib.hid (below_up (B := w.heap.size) (w := w) hb (by (repeat (first | (with_reducible exact Below.refl _ _) | (with_reducible exact HB.out) | (with_reducible refine below_draws ?_ _) | (with_reducible refine Below.alloc ?_ (by go_size) _) | (with_reducible refine Below.setCell ?_ (by go_size) _) | (with_reducible refine Below.alloc ?_ (by simp <;> omega) _) | (with_reducible refine Below.setCell ?_ (by simp <;> omega) _)))) (by simp; omega))
  clear hb
  go_wp2
  exact bodyPost_ret (v := .tuple #[.agg #[.int .i64 0, .int .i64 0, .int .i64 0, .int .i64 0, .int .i64 0], .int .i64 3]) (by simp [results, Tryd.results26, go_sem, hc, hf]) rfl ⟨rfl, by (repeat (first | (with_reducible exact Below.refl _ _) | (with_reducible exact HB.out) | (with_reducible refine below_draws ?_ _) | (with_reducible refine Below.alloc ?_ (by go_size) _) | (with_reducible refine Below.setCell ?_ (by go_size) _) | (with_reducible refine Below.alloc ?_ (by simp <;> omega) _) | (with_reducible refine Below.setCell ?_ (by simp <;> omega) _)))⟩
set_option maxHeartbeats 1600000 in
theorem rConj_v (n0 n1 n2 n3 d : Int) (w : World) (h : chkQ n0 n1 n2 n3 d = 0) :
    Calls Tryd.prog 27 #[.agg #[.int .i64 n0, .int .i64 n1, .int .i64 n2, .int .i64 n3, .int .i64 d]] w fun e w' => e = .returned (.agg #[.int .i64 ((Q.mk n0 (-n1) (-n2) (-n3) d).low).w, .int .i64 ((Q.mk n0 (-n1) (-n2) (-n3) d).low).x, .int .i64 ((Q.mk n0 (-n1) (-n2) (-n3) d).low).y, .int .i64 ((Q.mk n0 (-n1) (-n2) (-n3) d).low).z, .int .i64 ((Q.mk n0 (-n1) (-n2) (-n3) d).low).d]) ∧ Below w.heap.size w w' := by
  obtain ⟨⟨a0, a0'⟩, ⟨a1, a1'⟩, ⟨a2, a2'⟩, ⟨a3, a3'⟩, ⟨a4, a4'⟩⟩ := qin_bd (chkQ_ok h)
  have RN := Lib.hid (fun W => rNormal_any n0 (-n1) (-n2) (-n3) d W (by omega) (by omega) (by omega) (by omega) (by omega) (by omega))
  obtain ⟨s, hs⟩ : ∃ s, (Q.mk n0 (-n1) (-n2) (-n3) d).low = s := ⟨_, rfl⟩
  rw [hs] at RN ⊢
  clear h hs
  go_enter Tryd.func27, Tryd.ntmps27
  go_wp2_with fail
  refine (RN.out _).mono ?_
  rintro e w1 ⟨rfl, hb⟩
  have hK : K_N n0 n1 n2 n3 d w.heap.size (w.heap.size + 1) w w1 := K_N.below hb ⟨by simp [go_sem], by simp [go_sem], by simp [go_sem], by (repeat (first | (with_reducible exact Below.refl _ _) | (with_reducible exact HB.out) | (with_reducible refine below_draws ?_ _) | (with_reducible refine Below.alloc ?_ (by go_size) _) | (with_reducible refine Below.setCell ?_ (by go_size) _) | (with_reducible refine Below.alloc ?_ (by simp <;> omega) _) | (with_reducible refine Below.setCell ?_ (by simp <;> omega) _)))⟩
  clear hb
  obtain ⟨c0_, c1_, c2_, c3_, c4_, d0_, f0_, d1_, f1_, d2_, f2_, d3_, f3_, d4_, f4_⟩ := K_N.cells hK
  have HB := Lib.hid (K_N.bel hK)
  clear hK
  go_wp2
  exact bodyPost_ret (v := .agg #[.int .i64 (s).w, .int .i64 (s).x, .int .i64 (s).y, .int .i64 (s).z, .int .i64 (s).d]) (by simp [results, Tryd.results27, go_sem, c0_, c1_, c2_, c3_, c4_, d0_, f0_, d1_, f1_, d2_, f2_, d3_, f3_, d4_, f4_]) rfl ⟨rfl, by (repeat (first | (with_reducible exact Below.refl _ _) | (with_reducible exact HB.out) | (with_reducible refine below_draws ?_ _) | (with_reducible refine Below.alloc ?_ (by go_size) _) | (with_reducible refine Below.setCell ?_ (by go_size) _) | (with_reducible refine Below.alloc ?_ (by simp <;> omega) _) | (with_reducible refine Below.setCell ?_ (by simp <;> omega) _)))⟩
theorem px' (B w x y z w' x' y' z' : Int) : w * x' + x * w' - B * y * z' + B * z * y' = px B w x y z w' x' y' z' := by unfold px; grind
theorem py' (A w x y z w' x' y' z' : Int) : w * y' + y * w' + A * x * z' - A * z * x' = py A w x y z w' x' y' z' := by unfold py; grind
set_option maxHeartbeats 4000000 in
theorem Product_any (A B n0 n1 n2 n3 d m0 m1 m2 m3 f : Int) (w : World) (hA : Bn 1000 A) (hB : Bn 1000 B) (h0 : Bn 1000000 n0) (h1 : Bn 1000000 n1) (h2 : Bn 1000000 n2) (h3 : Bn 1000000 n3) (hd : Bn 1000000 d) (k0 : Bn 1000000 m0) (k1 : Bn 1000000 m1) (k2 : Bn 1000000 m2) (k3 : Bn 1000000 m3) (hf : Bn 1000000 f) :
    Calls Tryd.prog 66 #[.agg #[.int .i64 A, .int .i64 B], .agg #[.int .i64 n0, .int .i64 n1, .int .i64 n2, .int .i64 n3, .int .i64 d], .agg #[.int .i64 m0, .int .i64 m1, .int .i64 m2, .int .i64 m3, .int .i64 f]] w fun e w' => e = .returned (.agg #[.int .i64 (pw A B n0 n1 n2 n3 m0 m1 m2 m3), .int .i64 (px B n0 n1 n2 n3 m0 m1 m2 m3), .int .i64 (py A n0 n1 n2 n3 m0 m1 m2 m3), .int .i64 (pz n0 n1 n2 n3 m0 m1 m2 m3), .int .i64 (d * f)]) ∧ Below w.heap.size w w' := by
  obtain ⟨a1, a1'⟩ := Bn.mul 1000000000000 h0 k0 rfl
  have t1 := Bn.mul 1000000000 hA h1 rfl
  obtain ⟨a2, a2'⟩ := id t1
  obtain ⟨a3, a3'⟩ := Bn.mul 1000000000000000 t1 k1 rfl
  obtain ⟨a3x, a3x'⟩ := Bn.mul 1000000000000000 t1 k3 rfl
  have t2 := Bn.mul 1000000000 hB h2 rfl
  obtain ⟨a4, a4'⟩ := id t2
  obtain ⟨a5, a5'⟩ := Bn.mul 1000000000000000 t2 k2 rfl
  obtain ⟨a5x, a5x'⟩ := Bn.mul 1000000000000000 t2 k3 rfl
  have t3 := Bn.mul 1000000 hA hB rfl
  obtain ⟨a6, a6'⟩ := id t3
  have t4 := Bn.mul 1000000000000 t3 h3 rfl
  obtain ⟨a7, a7'⟩ := id t4
  obtain ⟨a8, a8'⟩ := Bn.mul 1000000000000000000 t4 k3 rfl
  obtain ⟨b1, b1'⟩ := Bn.mul 1000000000000 h0 k1 rfl
  obtain ⟨b2, b2'⟩ := Bn.mul 1000000000000 h1 k0 rfl
  have t5 := Bn.mul 1000000000 hB h3 rfl
  obtain ⟨b3, b3'⟩ := id t5
  obtain ⟨b4, b4'⟩ := Bn.mul 1000000000000000 t5 k2 rfl
  obtain ⟨c1, c1'⟩ := Bn.mul 1000000000000 h0 k2 rfl
  obtain ⟨c2, c2'⟩ := Bn.mul 1000000000000 h2 k0 rfl
  have t6 := Bn.mul 1000000000 hA h3 rfl
  obtain ⟨c3, c3'⟩ := id t6
  obtain ⟨c4, c4'⟩ := Bn.mul 1000000000000000 t6 k1 rfl
  obtain ⟨d1, d1'⟩ := Bn.mul 1000000000000 h0 k3 rfl
  obtain ⟨d2, d2'⟩ := Bn.mul 1000000000000 h3 k0 rfl
  obtain ⟨d3, d3'⟩ := Bn.mul 1000000000000 h1 k2 rfl
  obtain ⟨d4, d4'⟩ := Bn.mul 1000000000000 h2 k1 rfl
  obtain ⟨f1, f1'⟩ := Bn.mul 1000000000000 hd hf rfl
  clear t1 t2 t3 t4 t5 t6 hA hB h0 h1 h2 h3 k0 k1 k2 k3 hd hf
  go_enter Tryd.func66, Tryd.ntmps66
  go_wp2
  exact bodyPost_ret (v := .agg #[.int .i64 (n0 * m0 + A * n1 * m1 + B * n2 * m2 - A * B * n3 * m3), .int .i64 (n0 * m1 + n1 * m0 - B * n2 * m3 + B * n3 * m2), .int .i64 (n0 * m2 + n2 * m0 + A * n1 * m3 - A * n3 * m1), .int .i64 (n0 * m3 + n3 * m0 + n1 * m2 - n2 * m1), .int .i64 (d * f)]) (by simp [results, Tryd.results66, go_sem]) rfl ⟨by rw [px', py']; rfl, by go_grown⟩
set_option maxHeartbeats 1600000 in
theorem rMul_any (A B n0 n1 n2 n3 d m0 m1 m2 m3 f : Int) (w : World) (h : err3 A B n0 n1 n2 n3 d m0 m1 m2 m3 f = 0) :
    Calls Tryd.prog 30 #[.agg #[.int .i64 A, .int .i64 B], .agg #[.int .i64 n0, .int .i64 n1, .int .i64 n2, .int .i64 n3, .int .i64 d], .agg #[.int .i64 m0, .int .i64 m1, .int .i64 m2, .int .i64 m3, .int .i64 f]] w fun e w' => e = .returned (.tuple #[.agg #[.int .i64 (fitQ (mulq A B ⟨n0, n1, n2, n3, d⟩ ⟨m0, m1, m2, m3, f⟩)).w, .int .i64 (fitQ (mulq A B ⟨n0, n1, n2, n3, d⟩ ⟨m0, m1, m2, m3, f⟩)).x, .int .i64 (fitQ (mulq A B ⟨n0, n1, n2, n3, d⟩ ⟨m0, m1, m2, m3, f⟩)).y, .int .i64 (fitQ (mulq A B ⟨n0, n1, n2, n3, d⟩ ⟨m0, m1, m2, m3, f⟩)).z, .int .i64 (fitQ (mulq A B ⟨n0, n1, n2, n3, d⟩ ⟨m0, m1, m2, m3, f⟩)).d], .int .i64 (fitE (mulq A B ⟨n0, n1, n2, n3, d⟩ ⟨m0, m1, m2, m3, f⟩))]) ∧ Below w.heap.size w w' := by
  obtain ⟨e1, e23⟩ := or2_eq0 h
  obtain ⟨e2, e3⟩ := or2_eq0 e23
  clear e23
  obtain ⟨hA, hB⟩ := Bn_A e1
  obtain ⟨a0, a1, a2, a3, a4, a5⟩ := qin_of e2
  obtain ⟨c0, c1, c2, c3, c4, c5⟩ := qin_of e3
  have hd : Bn 1000000 d := ⟨by omega, by omega⟩
  have hf : Bn 1000000 f := ⟨by omega, by omega⟩
  have PR := Lib.hid (fun W => Product_any A B n0 n1 n2 n3 d m0 m1 m2 m3 f W hA hB a0 a1 a2 a3 hd c0 c1 c2 c3 hf)
  have dd := Bn.mul 1000000000000 hd hf rfl
  have dp : d * f ≠ 0 := Int.ne_of_gt (Int.mul_pos (by omega) (by omega))
  have mm := mul_bds hA hB a0 a1 a2 a3 c0 c1 c2 c3
  have FT := Lib.hid (fun W => Fits_any (pw A B n0 n1 n2 n3 m0 m1 m2 m3) (px B n0 n1 n2 n3 m0 m1 m2 m3) (py A n0 n1 n2 n3 m0 m1 m2 m3) (pz n0 n1 n2 n3 m0 m1 m2 m3) (d * f) W (by have := mm.1; omega) (by have := mm.2.1; omega) (by have := mm.2.2.1; omega) (by have := mm.2.2.2; omega) (by omega) dp)
  rw [show mulq A B ⟨n0, n1, n2, n3, d⟩ ⟨m0, m1, m2, m3, f⟩ = ⟨pw A B n0 n1 n2 n3 m0 m1 m2 m3, px B n0 n1 n2 n3 m0 m1 m2 m3, py A n0 n1 n2 n3 m0 m1 m2 m3, pz n0 n1 n2 n3 m0 m1 m2 m3, d * f⟩ from rfl]
  obtain ⟨s, hs⟩ : ∃ s, fitQ ⟨pw A B n0 n1 n2 n3 m0 m1 m2 m3, px B n0 n1 n2 n3 m0 m1 m2 m3, py A n0 n1 n2 n3 m0 m1 m2 m3, pz n0 n1 n2 n3 m0 m1 m2 m3, d * f⟩ = s := ⟨_, rfl⟩
  obtain ⟨t, ht⟩ : ∃ t, fitE ⟨pw A B n0 n1 n2 n3 m0 m1 m2 m3, px B n0 n1 n2 n3 m0 m1 m2 m3, py A n0 n1 n2 n3 m0 m1 m2 m3, pz n0 n1 n2 n3 m0 m1 m2 m3, d * f⟩ = t := ⟨_, rfl⟩
  rw [hs, ht] at FT ⊢
  clear h e1 e2 e3 hA hB a0 a1 a2 a3 a4 a5 c0 c1 c2 c3 c4 c5 hd hf dd dp mm hs ht
  go_enter Tryd.func30, Tryd.ntmps30
  go_wp2_with fail
  refine (PR.out _).mono ?_
  rintro e w1 ⟨rfl, hb⟩
  have hK : K_M A B n0 n1 n2 n3 d m0 m1 m2 m3 f w.heap.size (w.heap.size + 1) (w.heap.size + 2) (w.heap.size + 3) w w1 := K_M.below hb ⟨by simp [go_sem], by simp [go_sem], by simp [go_sem], by (repeat (first | (with_reducible exact Below.refl _ _) | (with_reducible exact HB.out) | (with_reducible refine below_draws ?_ _) | (with_reducible refine Below.alloc ?_ (by go_size) _) | (with_reducible refine Below.setCell ?_ (by go_size) _) | (with_reducible refine Below.alloc ?_ (by simp <;> omega) _) | (with_reducible refine Below.setCell ?_ (by simp <;> omega) _)))⟩
  have HK := Lib.hid hK
  clear hb hK
  go_wp2_with fail
  refine (FT.out _).mono ?_
  rintro e w2 ⟨rfl, hb⟩
  have hK := K_M.below hb HK.out
  clear hb
  obtain ⟨c0_, c1_, c2_, c3_, c4_, c5_, c6_, c7_, c8_, c9_, c10_, c11_, d0_, f0_, d1_, f1_, d2_, f2_, d3_, f3_, d4_, f4_⟩ := K_M.cells hK
  have HB := Lib.hid (K_M.bel hK)
  clear hK HK
  go_wp2
  exact bodyPost_ret (v := .tuple #[.agg #[.int .i64 (s).w, .int .i64 (s).x, .int .i64 (s).y, .int .i64 (s).z, .int .i64 (s).d], .int .i64 t]) (by simp [results, Tryd.results30, go_sem, c0_, c1_, c2_, c3_, c4_, c5_, c6_, c7_, c8_, c9_, c10_, c11_, d0_, f0_, d1_, f1_, d2_, f2_, d3_, f3_, d4_, f4_]) rfl ⟨rfl, by (repeat (first | (with_reducible exact Below.refl _ _) | (with_reducible exact HB.out) | (with_reducible refine below_draws ?_ _) | (with_reducible refine Below.alloc ?_ (by go_size) _) | (with_reducible refine Below.setCell ?_ (by go_size) _) | (with_reducible refine Below.alloc ?_ (by simp <;> omega) _) | (with_reducible refine Below.setCell ?_ (by simp <;> omega) _)))⟩
set_option maxHeartbeats 3200000 in
theorem rCheckAll_two (A B n0 n1 n2 n3 d m0 m1 m2 m3 f : Int) (b c : Nat) (w : World) (h : K_TT n0 n1 n2 n3 d m0 m1 m2 m3 f b w w) (hc : 2 ≤ c) (hc' : c ≤ 9223372036854775807) :
    Calls Tryd.prog 29 #[.agg #[.int .i64 A, .int .i64 B], .slice (some ⟨b, 0, none⟩) 2 c] w fun e w' => e = .returned (.int .i64 (err3 A B n0 n1 n2 n3 d m0 m1 m2 m3 f)) ∧ Below w.heap.size w w' := by
  have hK := h
  have hbs : b < w.heap.size := h.zs.1
  clear h
  unfold err3
  by_cases hA : chkA A B = 0
  · rw [hA, or2_z]
    have HA := Lib.hid hA
    clear hA
    by_cases hp : chkQ n0 n1 n2 n3 d = 0
    · rw [hp, or2_z]
      have HP := Lib.hid hp
      clear hp
      by_cases hq : chkQ m0 m1 m2 m3 f = 0
      · rw [hq]
        have HQ := Lib.hid hq
        clear hq
        have HK0 := Lib.hid hK
        clear hK
        go_enter Tryd.func29, Tryd.ntmps29
        go_wp2_with fail
        refine (rCheck_any _ _ _).mono ?_
        rintro e w1 ⟨rfl, hb⟩
        rw [HA.out]
        have hK := K_TT.below hb (K_TT.alloc _ HK0.out)
        clear hb HK0
        obtain ⟨c0_, c1_, c2_, c3_, c4_, c5_, c6_, c7_, c8_, c9_⟩ := K_TT.cells hK; obtain ⟨z0_, -⟩ := K_TT.zs hK; have HK := Lib.hid hK; clear hK
        go_wp2
        refine wp_loop_rounds 3 ?_
        rw [rounds_succ]
        go_wp2_with fail
        refine (rCheckQuat_any _ _ _ _ _ _).mono ?_
        rintro e w2 ⟨rfl, hb⟩
        rw [HP.out]
        clear c0_ c1_ c2_ c3_ c4_ c5_ c6_ c7_ c8_ c9_ z0_
        have hK := K_TT.below hb HK.out
        clear hb HK
        obtain ⟨c0_, c1_, c2_, c3_, c4_, c5_, c6_, c7_, c8_, c9_⟩ := K_TT.cells hK; obtain ⟨z0_, -⟩ := K_TT.zs hK; have HK := Lib.hid hK; clear hK
        go_wp2
        rw [rounds_succ]
        go_wp2_with fail
        refine (rCheckQuat_any _ _ _ _ _ _).mono ?_
        rintro e w3 ⟨rfl, hb⟩
        rw [HQ.out]
        clear c0_ c1_ c2_ c3_ c4_ c5_ c6_ c7_ c8_ c9_ z0_
        have hK := K_TT.below hb HK.out
        clear hb HK
        obtain ⟨c0_, c1_, c2_, c3_, c4_, c5_, c6_, c7_, c8_, c9_⟩ := K_TT.cells hK; obtain ⟨z0_, -⟩ := K_TT.zs hK; have HK := Lib.hid hK; clear hK
        go_wp2
        rw [rounds_succ]
        go_wp2
        go_ret
        exact ⟨rfl, K_TT.bel HK.out⟩
      · have ht : (chkQ m0 m1 m2 m3 f != 0) = true := by rw [bne_iff_ne]; exact hq
        clear hq
        have HK0 := Lib.hid hK
        clear hK
        go_enter Tryd.func29, Tryd.ntmps29
        go_wp2_with fail
        refine (rCheck_any _ _ _).mono ?_
        rintro e w1 ⟨rfl, hb⟩
        rw [HA.out]
        have hK := K_TT.below hb (K_TT.alloc _ HK0.out)
        clear hb HK0
        obtain ⟨c0_, c1_, c2_, c3_, c4_, c5_, c6_, c7_, c8_, c9_⟩ := K_TT.cells hK; obtain ⟨z0_, -⟩ := K_TT.zs hK; have HK := Lib.hid hK; clear hK
        go_wp2
        refine wp_loop_rounds 2 ?_
        rw [rounds_succ]
        go_wp2_with fail
        refine (rCheckQuat_any _ _ _ _ _ _).mono ?_
        rintro e w2 ⟨rfl, hb⟩
        rw [HP.out]
        clear c0_ c1_ c2_ c3_ c4_ c5_ c6_ c7_ c8_ c9_ z0_
        have hK := K_TT.below hb HK.out
        clear hb HK
        obtain ⟨c0_, c1_, c2_, c3_, c4_, c5_, c6_, c7_, c8_, c9_⟩ := K_TT.cells hK; obtain ⟨z0_, -⟩ := K_TT.zs hK; have HK := Lib.hid hK; clear hK
        go_wp2
        rw [rounds_succ]
        go_wp2_with fail
        refine (rCheckQuat_any _ _ _ _ _ _).mono ?_
        rintro e w3 ⟨rfl, hb⟩
        clear c0_ c1_ c2_ c3_ c4_ c5_ c6_ c7_ c8_ c9_ z0_
        have hK := K_TT.below hb HK.out
        clear hb HK
        obtain ⟨c0_, c1_, c2_, c3_, c4_, c5_, c6_, c7_, c8_, c9_⟩ := K_TT.cells hK; obtain ⟨z0_, -⟩ := K_TT.zs hK; have HK := Lib.hid hK; clear hK
        go_wp2
        go_ret
        exact ⟨rfl, K_TT.bel HK.out⟩
    · rw [or2_ne hp]
      have ht : (chkQ n0 n1 n2 n3 d != 0) = true := by rw [bne_iff_ne]; exact hp
      clear hp
      have HK0 := Lib.hid hK
      clear hK
      go_enter Tryd.func29, Tryd.ntmps29
      go_wp2_with fail
      refine (rCheck_any _ _ _).mono ?_
      rintro e w1 ⟨rfl, hb⟩
      rw [HA.out]
      have hK := K_TT.below hb (K_TT.alloc _ HK0.out)
      clear hb HK0
      obtain ⟨c0_, c1_, c2_, c3_, c4_, c5_, c6_, c7_, c8_, c9_⟩ := K_TT.cells hK; obtain ⟨z0_, -⟩ := K_TT.zs hK; have HK := Lib.hid hK; clear hK
      go_wp2
      refine wp_loop_rounds 1 ?_
      rw [rounds_succ]
      go_wp2_with fail
      refine (rCheckQuat_any _ _ _ _ _ _).mono ?_
      rintro e w2 ⟨rfl, hb⟩
      clear c0_ c1_ c2_ c3_ c4_ c5_ c6_ c7_ c8_ c9_ z0_
      have hK := K_TT.below hb HK.out
      clear hb HK
      obtain ⟨c0_, c1_, c2_, c3_, c4_, c5_, c6_, c7_, c8_, c9_⟩ := K_TT.cells hK; obtain ⟨z0_, -⟩ := K_TT.zs hK; have HK := Lib.hid hK; clear hK
      go_wp2
      go_ret
      exact ⟨rfl, K_TT.bel HK.out⟩
  · rw [or2_ne hA]
    have ht : (chkA A B != 0) = true := by rw [bne_iff_ne]; exact hA
    clear hA
    have HK0 := Lib.hid hK
    clear hK
    go_enter Tryd.func29, Tryd.ntmps29
    go_wp2_with fail
    refine (rCheck_any _ _ _).mono ?_
    rintro e w1 ⟨rfl, hb⟩
    have hK := K_TT.below hb (K_TT.alloc _ HK0.out)
    clear hb HK0
    go_wp2
    go_ret
    exact ⟨rfl, K_TT.bel hK⟩
end Go.Proofs.YtjloanplhbbomaaDoor.Al
