/-
  WALKS: whether products change their sign, the program's side.
-/
import Derived.Test.YtgbnmnkgelklbaaAlO
namespace Go.Proofs.Ytgbnmnkgelklbaa.Al
open Go.RowKit
open Alm
set_option linter.unusedVariables false
set_option linter.unusedSimpArgs false
set_option maxRecDepth 100000
set_option maxHeartbeats 12800000 in
theorem changeSign_any (A B n0 n1 n2 n3 d m0 m1 m2 m3 f : Int) (w : World) (hA : Bn 1000 A) (hB : Bn 1000 B) (h : chkQ n0 n1 n2 n3 d = 0) (h' : chkQ m0 m1 m2 m3 f = 0) :
    Calls Try.prog 44 #[.agg #[.int .i64 A, .int .i64 B], .agg #[.int .i64 n0, .int .i64 n1, .int .i64 n2, .int .i64 n3, .int .i64 d], .agg #[.int .i64 m0, .int .i64 m1, .int .i64 m2, .int .i64 m3, .int .i64 f]] w fun e w' => e = .returned (.bool (tnB A B ⟨n0, n1, n2, n3, d⟩ ⟨m0, m1, m2, m3, f⟩)) ∧ Below w.heap.size w w' := by
  obtain ⟨a0, a1, a2, a3, -, -⟩ := qin_of h
  obtain ⟨c0, c1, c2, c3, -, -⟩ := qin_of h'
  have T1 := Lib.hid (fun W => times_any A B n0 n1 n2 n3 m0 m1 m2 m3 W hA hB a0 a1 a2 a3 c0 c1 c2 c3)
  have T2 := Lib.hid (fun W => times_any A B m0 m1 m2 m3 n0 n1 n2 n3 W hA hB c0 c1 c2 c3 a0 a1 a2 a3)
  have b := mul_bds2 hA hB c0 c1 c2 c3 a0 a1 a2 a3
  unfold Bn at b
  have hw : ∀ a : Int, a * -1 = -a := fun a => by omega
  have SC0 := (fun W => scaled_any (pw A B m0 m1 m2 m3 n0 n1 n2 n3) (px B m0 m1 m2 m3 n0 n1 n2 n3) (py A m0 m1 m2 m3 n0 n1 n2 n3) (pz m0 m1 m2 m3 n0 n1 n2 n3) (-1) W (by omega) (by omega) (by omega) (by omega) (by omega) (by omega) (by omega) (by omega))
  simp only [hw] at SC0
  have SC := Lib.hid SC0
  clear SC0
  unfold tnB
  simp only [hw]
  generalize pw A B n0 n1 n2 n3 m0 m1 m2 m3 = t0 at *
  generalize px B n0 n1 n2 n3 m0 m1 m2 m3 = t1 at *
  generalize py A n0 n1 n2 n3 m0 m1 m2 m3 = t2 at *
  generalize pz n0 n1 n2 n3 m0 m1 m2 m3 = t3 at *
  generalize pw A B m0 m1 m2 m3 n0 n1 n2 n3 = u0 at *
  generalize px B m0 m1 m2 m3 n0 n1 n2 n3 = u1 at *
  generalize py A m0 m1 m2 m3 n0 n1 n2 n3 = u2 at *
  generalize pz m0 m1 m2 m3 n0 n1 n2 n3 = u3 at *
  have eq := Try.eq4 t0 t1 t2 t3 (-u0) (-u1) (-u2) (-u3)
  clear h h' a0 a1 a2 a3 c0 c1 c2 c3 hA hB b hw
  go_enter Try.func44, Try.ntmps44
  go_wp2_with fail
  have hk : K_O0 A B n0 n1 n2 n3 d m0 m1 m2 m3 f w.heap.size (w.heap.size + 1) (w.heap.size + 2) w (((w.alloc (.cells #[.int .i64 A, .int .i64 B] 23)).alloc (.cells #[.int .i64 n0, .int .i64 n1, .int .i64 n2, .int .i64 n3, .int .i64 d] 35)).alloc (.cells #[.int .i64 m0, .int .i64 m1, .int .i64 m2, .int .i64 m3, .int .i64 f] 35)) := ⟨by simp [go_sem], by simp [go_sem], by simp [go_sem], by (repeat (first | (with_reducible exact Below.refl _ _) | (with_reducible exact HB.out) | (with_reducible refine below_draws ?_ _) | (with_reducible refine Below.alloc ?_ (by go_size) _) | (with_reducible refine Below.setCell ?_ (by go_size) _) | (with_reducible refine Below.alloc ?_ (by simp <;> omega) _) | (with_reducible refine Below.setCell ?_ (by simp <;> omega) _)))⟩
  generalize (((w.alloc (.cells #[.int .i64 A, .int .i64 B] 23)).alloc (.cells #[.int .i64 n0, .int .i64 n1, .int .i64 n2, .int .i64 n3, .int .i64 d] 35)).alloc (.cells #[.int .i64 m0, .int .i64 m1, .int .i64 m2, .int .i64 m3, .int .i64 f] 35)) = wr at hk ⊢
  obtain ⟨y0_, y1_, y2_, -⟩ := K_O0.zs hk
  refine merge_rest2 (K := fun p q w9 => K_O3 A B n0 n1 n2 n3 d m0 m1 m2 m3 f w.heap.size (w.heap.size + 1) (w.heap.size + 2) p q w w9) ?G ?main ?rest
  case main =>
    intro REST
    go_region_held3 (fun w' => (w'.cell? ⟨w.heap.size, 0, none⟩ = some (.int .i64 A) ∧ w'.cell? ⟨w.heap.size, 1, none⟩ = some (.int .i64 B) ∧ w'.cell? ⟨(w.heap.size + 1), 0, none⟩ = some (.int .i64 n0) ∧ w'.cell? ⟨(w.heap.size + 1), 1, none⟩ = some (.int .i64 n1) ∧ w'.cell? ⟨(w.heap.size + 1), 2, none⟩ = some (.int .i64 n2) ∧ w'.cell? ⟨(w.heap.size + 1), 3, none⟩ = some (.int .i64 n3) ∧ w'.cell? ⟨(w.heap.size + 1), 4, none⟩ = some (.int .i64 d) ∧ w'.cell? ⟨(w.heap.size + 2), 0, none⟩ = some (.int .i64 m0) ∧ w'.cell? ⟨(w.heap.size + 2), 1, none⟩ = some (.int .i64 m1) ∧ w'.cell? ⟨(w.heap.size + 2), 2, none⟩ = some (.int .i64 m2) ∧ w'.cell? ⟨(w.heap.size + 2), 3, none⟩ = some (.int .i64 m3) ∧ w'.cell? ⟨(w.heap.size + 2), 4, none⟩ = some (.int .i64 f)) ∧ K_O0 A B n0 n1 n2 n3 d m0 m1 m2 m3 f w.heap.size (w.heap.size + 1) (w.heap.size + 2) w w') ((refine K_O0.ks ?_; repeat (first | (with_reducible assumption) | (with_reducible refine K_O0.draws _ ?_) | (with_reducible refine K_O0.drew ?_) | (with_reducible refine K_O0.alloc _ ?_) | (with_reducible refine K_O0.set ?_ _ _ _ (by omega)))))
      (first
        | (go_at_call 60; (with_reducible refine (numeratorsOf_any n0 n1 n2 n3 d _).mono ?_); rintro e w' ⟨rfl, hbel⟩; have hk' := K_O0.below hbel (And.right (by assumption)); obtain ⟨z0_, z1_, z2_, -⟩ := K_O0.zs hk'; (first
            | (have hz : K_Q2 0 0 0 0 0 0 0 0 wr.heap.size (wr.heap.size + 1) w w' := KL.below hbel (KL.draws 1 (KL.push4w (KL.push4w (KL.sub1 hk) 0 0 0 0 _ _ rfl) 0 0 0 0 _ _ (by simp))); obtain ⟨t1_, t0_, -⟩ := K_Q2.zs hz)
            | (have hz : K_Q2 0 0 0 0 0 0 0 0 wr.heap.size (wr.heap.size + 1) w w' := KL.below hbel (KL.push4w (KL.push4w (KL.sub1 hk) 0 0 0 0 _ _ rfl) 0 0 0 0 _ _ (by simp)); obtain ⟨t1_, t0_, -⟩ := K_Q2.zs hz)
            | (have hz : K_Q1 0 0 0 0 wr.heap.size w w' := KL.below hbel (KL.draws 1 (KL.push4w (KL.sub1 hk) 0 0 0 0 _ _ rfl)); obtain ⟨t0_, -⟩ := K_Q1.zs hz)
            | (have hz : K_Q1 0 0 0 0 wr.heap.size w w' := KL.below hbel (KL.push4w (KL.sub1 hk) 0 0 0 0 _ _ rfl); obtain ⟨t0_, -⟩ := K_Q1.zs hz)
            | skip))
        | (go_at_call 60; (with_reducible refine (numeratorsOf_any m0 m1 m2 m3 f _).mono ?_); have hold := hk'; rintro e w'' ⟨rfl, hbel2⟩; have hk2 := K_O0.below hbel2 (And.right (by assumption)); obtain ⟨x0_, x1_, x2_, -⟩ := K_O0.zs hk2; (first
            | (have hz2 : K_Q2 0 0 0 0 0 0 0 0 wr.heap.size (wr.heap.size + 1) w w'' := KL.below hbel2 hz; obtain ⟨c0_, c1_, c2_, c3_, c4_, c5_, c6_, c7_, f0_, f1_, f2_, f3_, f4_, f5_, f6_, f7_⟩ := K_Q2.cells hz2; obtain ⟨v0_, v1_, -⟩ := K_Q2.zs hz2)
            | (have hz2 : K_Q2 0 0 0 0 0 0 0 0 wr.heap.size w'.heap.size w w'' := KL.below hbel2 (KL.push4w hz 0 0 0 0 _ _ rfl); obtain ⟨c0_, c1_, c2_, c3_, c4_, c5_, c6_, c7_, f0_, f1_, f2_, f3_, f4_, f5_, f6_, f7_⟩ := K_Q2.cells hz2; obtain ⟨v0_, v1_, -⟩ := K_Q2.zs hz2)
            | (have hz2 : K_Q1 0 0 0 0 wr.heap.size w w'' := KL.below hbel2 hz; obtain ⟨c0_, c1_, c2_, c3_, f0_, f1_, f2_, f3_⟩ := K_Q1.cells hz2; obtain ⟨v0_, -⟩ := K_Q1.zs hz2)
            | (have hz2 : K_Q2 0 0 0 0 0 0 0 0 w'.heap.size (w'.heap.size + 1) w w'' := KL.below hbel2 (KL.push4w (KL.push4w (KL.sub1 hold) 0 0 0 0 _ _ rfl) 0 0 0 0 _ _ (by simp)); obtain ⟨c0_, c1_, c2_, c3_, c4_, c5_, c6_, c7_, f0_, f1_, f2_, f3_, f4_, f5_, f6_, f7_⟩ := K_Q2.cells hz2; obtain ⟨v0_, v1_, -⟩ := K_Q2.zs hz2)
            | (have hz2 : K_Q1 0 0 0 0 w'.heap.size w w'' := KL.below hbel2 (KL.push4w (KL.sub1 hold) 0 0 0 0 _ _ rfl); obtain ⟨c0_, c1_, c2_, c3_, f0_, f1_, f2_, f3_⟩ := K_Q1.cells hz2; obtain ⟨v0_, -⟩ := K_Q1.zs hz2)
            | skip)))
    · rename_i hh
      clear hh
      have hK : K_O3 A B n0 n1 n2 n3 d m0 m1 m2 m3 f w.heap.size (w.heap.size + 1) (w.heap.size + 2) w''.heap.size (w''.heap.size + 1) w ((w''.alloc (.cells #[.int .i64 n0, .int .i64 n1, .int .i64 n2, .int .i64 n3] 73)).alloc (.cells #[.int .i64 m0, .int .i64 m1, .int .i64 m2, .int .i64 m3] 73)) := KL.push4 (KL.push4 hk2 n0 n1 n2 n3 _ _ rfl) m0 m1 m2 m3 _ _ (by simp)
      generalize ((w''.alloc (.cells #[.int .i64 n0, .int .i64 n1, .int .i64 n2, .int .i64 n3] 73)).alloc (.cells #[.int .i64 m0, .int .i64 m1, .int .i64 m2, .int .i64 m3] 73)) = w9 at hK ⊢
      generalize w''.heap.size + 1 = q at hK ⊢
      generalize w''.heap.size = p at hK ⊢
      exact REST.out _ _ _ hK
    all_goals
      rename_i hh
      first
        | exact REST.out w'.heap.size w''.heap.size _ (KL.cons4g (KL.cons4g hh.2 w'.heap.size n0 n1 n2 n3 (by simp [go_sem, *])) w''.heap.size m0 m1 m2 m3 (by simp [go_sem, *]))
        | exact REST.out wr.heap.size w''.heap.size _ (KL.cons4g (KL.cons4g hh.2 wr.heap.size n0 n1 n2 n3 (by simp [go_sem, *])) w''.heap.size m0 m1 m2 m3 (by simp [go_sem, *]))
        | exact REST.out wr.heap.size w'.heap.size _ (KL.cons4g (KL.cons4g hh.2 wr.heap.size n0 n1 n2 n3 (by simp [go_sem, *])) w'.heap.size m0 m1 m2 m3 (by simp [go_sem, *]))
        | exact REST.out w'.heap.size (w'.heap.size + 1) _ (KL.cons4g (KL.cons4g hh.2 w'.heap.size n0 n1 n2 n3 (by simp [go_sem, *])) (w'.heap.size + 1) m0 m1 m2 m3 (by simp [go_sem, *]))
        | exact REST.out wr.heap.size (wr.heap.size + 1) _ (KL.cons4g (KL.cons4g hh.2 wr.heap.size n0 n1 n2 n3 (by simp [go_sem, *])) (wr.heap.size + 1) m0 m1 m2 m3 (by simp [go_sem, *]))
        | exact REST.out w''.heap.size w'.heap.size _ (KL.cons4g (KL.cons4g hh.2 w''.heap.size n0 n1 n2 n3 (by simp [go_sem, *])) w'.heap.size m0 m1 m2 m3 (by simp [go_sem, *]))
        | exact REST.out w''.heap.size wr.heap.size _ (KL.cons4g (KL.cons4g hh.2 w''.heap.size n0 n1 n2 n3 (by simp [go_sem, *])) wr.heap.size m0 m1 m2 m3 (by simp [go_sem, *]))
        | exact REST.out w'.heap.size wr.heap.size _ (KL.cons4g (KL.cons4g hh.2 w'.heap.size n0 n1 n2 n3 (by simp [go_sem, *])) wr.heap.size m0 m1 m2 m3 (by simp [go_sem, *]))
        | exact REST.out (w'.heap.size + 1) w'.heap.size _ (KL.cons4g (KL.cons4g hh.2 (w'.heap.size + 1) n0 n1 n2 n3 (by simp [go_sem, *])) w'.heap.size m0 m1 m2 m3 (by simp [go_sem, *]))
        | exact REST.out (wr.heap.size + 1) wr.heap.size _ (KL.cons4g (KL.cons4g hh.2 (wr.heap.size + 1) n0 n1 n2 n3 (by simp [go_sem, *])) wr.heap.size m0 m1 m2 m3 (by simp [go_sem, *]))
        | exact REST.out (w''.heap.size + 1) w''.heap.size _ (KL.cons4g (KL.cons4g hh.2 (w''.heap.size + 1) n0 n1 n2 n3 (by simp [go_sem, *])) w''.heap.size m0 m1 m2 m3 (by simp [go_sem, *]))
  case rest =>
  clear hk y0_ y1_ y2_
  intro p q w2 hK
  obtain ⟨c0_, c1_, c2_, c3_, c4_, c5_, c6_, c7_, c8_, c9_, c10_, c11_, c12_, c13_, c14_, c15_, c16_, c17_, c18_, c19_⟩ := K_O3.cells hK; obtain ⟨z0_, z1_, z2_, z3_, z4_, -⟩ := K_O3.zs hK; have HK := Lib.hid hK; clear hK
  go_wp2_with fail
  have hk := HK.out
  clear c0_ c1_ c2_ c3_ c4_ c5_ c6_ c7_ c8_ c9_ c10_ c11_ c12_ c13_ c14_ c15_ c16_ c17_ c18_ c19_ z0_ z1_ z2_ z3_ z4_
  clear HK
  go_region_held3 (fun w' => (w'.cell? ⟨q, 0, none⟩ = some (.int .i64 m0) ∧ w'.cell? ⟨q, 1, none⟩ = some (.int .i64 m1) ∧ w'.cell? ⟨q, 2, none⟩ = some (.int .i64 m2) ∧ w'.cell? ⟨q, 3, none⟩ = some (.int .i64 m3) ∧ w'.cell? ⟨p, 0, none⟩ = some (.int .i64 n0) ∧ w'.cell? ⟨p, 1, none⟩ = some (.int .i64 n1) ∧ w'.cell? ⟨p, 2, none⟩ = some (.int .i64 n2) ∧ w'.cell? ⟨p, 3, none⟩ = some (.int .i64 n3) ∧ w'.cell? ⟨w.heap.size, 0, none⟩ = some (.int .i64 A) ∧ w'.cell? ⟨w.heap.size, 1, none⟩ = some (.int .i64 B) ∧ w'.cell? ⟨(w.heap.size + 1), 0, none⟩ = some (.int .i64 n0) ∧ w'.cell? ⟨(w.heap.size + 1), 1, none⟩ = some (.int .i64 n1) ∧ w'.cell? ⟨(w.heap.size + 1), 2, none⟩ = some (.int .i64 n2) ∧ w'.cell? ⟨(w.heap.size + 1), 3, none⟩ = some (.int .i64 n3) ∧ w'.cell? ⟨(w.heap.size + 1), 4, none⟩ = some (.int .i64 d) ∧ w'.cell? ⟨(w.heap.size + 2), 0, none⟩ = some (.int .i64 m0) ∧ w'.cell? ⟨(w.heap.size + 2), 1, none⟩ = some (.int .i64 m1) ∧ w'.cell? ⟨(w.heap.size + 2), 2, none⟩ = some (.int .i64 m2) ∧ w'.cell? ⟨(w.heap.size + 2), 3, none⟩ = some (.int .i64 m3) ∧ w'.cell? ⟨(w.heap.size + 2), 4, none⟩ = some (.int .i64 f)) ∧ K_O3 A B n0 n1 n2 n3 d m0 m1 m2 m3 f w.heap.size (w.heap.size + 1) (w.heap.size + 2) p q w w') ((refine K_O3.ks ?_; repeat (first | (with_reducible assumption) | (with_reducible refine K_O3.draws _ ?_) | (with_reducible refine K_O3.drew ?_) | (with_reducible refine K_O3.alloc _ ?_) | (with_reducible refine K_O3.set ?_ _ _ _ (by omega)))))
    (first
      | (go_at_call 64; (first | (with_reducible refine (T1.out _).mono ?_) | (with_reducible refine (T2.out _).mono ?_)); rintro e wz ⟨rfl, hbel⟩; have hk' := K_O3.below hbel (And.right (by assumption)); clear hbel)
      | (go_at_call 65; (with_reducible refine (SC.out _).mono ?_); rintro e wz ⟨rfl, hbel⟩; have hk' := K_O3.below hbel (And.right (by assumption)); clear hbel))
  all_goals
    go_wp2
    go_ret
    exact ⟨rfl, K_O3.bel hk'⟩
end Go.Proofs.Ytgbnmnkgelklbaa.Al
