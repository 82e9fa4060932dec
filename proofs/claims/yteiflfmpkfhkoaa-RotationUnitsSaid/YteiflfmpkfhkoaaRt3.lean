/-
  WALKS: products, norms and comparisons of Hurwitz quaternions, the reference's side.
-/
import Derived.Test.YteiflfmpkfhkoaaRt2
import Derived.Test.YteiflfmpkfhkoaaHwn
import Derived.DeepKeys
namespace Go.Proofs.Yteiflfmpkfhkoaa.Rt
open Go.RowKit
open Alm Hwm Al
set_option linter.unusedVariables false
set_option linter.unusedSimpArgs false
set_option maxRecDepth 100000
theorem Try.eqU (a b c d x y z t : Int) (w : World) : (Op.equalIn 10000 31 (.agg #[.int .i64 a, .int .i64 b, .int .i64 c, .int .i64 d]) (.agg #[.int .i64 x, .int .i64 y, .int .i64 z, .int .i64 t])).run Try.prog w = .ok (a == x && (b == y && (c == z && d == t))) w := by
  have hu : Try.prog.underlying 31 = some (.array 4 3) := by kernel_rfl
  have h3 : Try.prog.underlying 3 = some (.int .i64) := by kernel_rfl
  obtain ⟨i, hin⟩ := info_of_underlying h3
  have hc : Try.prog.cellsOf 3 = 1 := by kernel_rfl
  have hi : ∀ (p q : Int) (w : World), (Op.equalIn 9999 3 (.int .i64 p) (.int .i64 q)).run Try.prog w = .ok (p == q) w := fun p q w => run_equalIn_int w 9998 3 .i64 .i64 p q h3
  have p0 : ∀ (a b c d : Value) (w : World), (part 3 #[a, b, c, d] 0).run Try.prog w = .ok a w := fun a b c d w => by kernel_rfl
  have p1 : ∀ (a b c d : Value) (w : World), (part 3 #[a, b, c, d] 1).run Try.prog w = .ok b w := fun a b c d w => by kernel_rfl
  have p2 : ∀ (a b c d : Value) (w : World), (part 3 #[a, b, c, d] 2).run Try.prog w = .ok c w := fun a b c d w => by kernel_rfl
  have p3 : ∀ (a b c d : Value) (w : World), (part 3 #[a, b, c, d] 3).run Try.prog w = .ok d w := fun a b c d w => by kernel_rfl
  have e := run_equalIn_array w 9999 #[.int .i64 a, .int .i64 b, .int .i64 c, .int .i64 d] #[.int .i64 x, .int .i64 y, .int .i64 z, .int .i64 t] hu hin
  rw [show List.range 4 = [0, 1, 2, 3] from rfl, hc] at e
  refine Eq.trans e ?_
  simp only [Op.eqItems, Sem.run_bind, Result.andThen_ok, Nat.zero_mul, Nat.one_mul, Nat.mul_one, p0, p1, p2, p3, hi]
  by_cases g0 : a = x <;> by_cases g1 : b = y <;> by_cases g2 : c = z <;> by_cases g3 : d = t <;> simp [p0, p1, p2, p3, hi, g0, g1, g2, g3]
theorem py_ (a b : H) : a.w * b.y - a.x * b.z + a.y * b.w + a.z * b.x = (P a b).y := by unfold P; grind
theorem pz_ (a b : H) : a.w * b.z + a.x * b.y - a.y * b.x + a.z * b.w = (P a b).z := by unfold P; grind
set_option maxHeartbeats 4000000 in
theorem rproduct_f (a0 a1 a2 a3 b0 b1 b2 b3 : Int) (w : World) (h0 : Bn 100000000 a0) (h1 : Bn 100000000 a1) (h2 : Bn 100000000 a2) (h3 : Bn 100000000 a3) (k0 : Bn 100000000 b0) (k1 : Bn 100000000 b1) (k2 : Bn 100000000 b2) (k3 : Bn 100000000 b3) :
    Calls Try.prog 83 #[.agg #[.int .i64 a0, .int .i64 a1, .int .i64 a2, .int .i64 a3], .agg #[.int .i64 b0, .int .i64 b1, .int .i64 b2, .int .i64 b3]] w fun e w' => e = .returned (.agg #[.int .i64 (P ⟨a0, a1, a2, a3⟩ ⟨b0, b1, b2, b3⟩).w, .int .i64 (P ⟨a0, a1, a2, a3⟩ ⟨b0, b1, b2, b3⟩).x, .int .i64 (P ⟨a0, a1, a2, a3⟩ ⟨b0, b1, b2, b3⟩).y, .int .i64 (P ⟨a0, a1, a2, a3⟩ ⟨b0, b1, b2, b3⟩).z]) ∧ Below w.heap.size w w' := by
  obtain ⟨m1, m1'⟩ := Bn.mul 10000000000000000 h0 k0 rfl
  obtain ⟨m2, m2'⟩ := Bn.mul 10000000000000000 h1 k1 rfl
  obtain ⟨m3, m3'⟩ := Bn.mul 10000000000000000 h2 k2 rfl
  obtain ⟨m4, m4'⟩ := Bn.mul 10000000000000000 h3 k3 rfl
  obtain ⟨m5, m5'⟩ := Bn.mul 10000000000000000 h0 k1 rfl
  obtain ⟨m6, m6'⟩ := Bn.mul 10000000000000000 h1 k0 rfl
  obtain ⟨m7, m7'⟩ := Bn.mul 10000000000000000 h2 k3 rfl
  obtain ⟨m8, m8'⟩ := Bn.mul 10000000000000000 h3 k2 rfl
  obtain ⟨m9, m9'⟩ := Bn.mul 10000000000000000 h0 k2 rfl
  obtain ⟨l1, l1'⟩ := Bn.mul 10000000000000000 h2 k0 rfl
  obtain ⟨l2, l2'⟩ := Bn.mul 10000000000000000 h3 k1 rfl
  obtain ⟨l3, l3'⟩ := Bn.mul 10000000000000000 h1 k3 rfl
  obtain ⟨l4, l4'⟩ := Bn.mul 10000000000000000 h0 k3 rfl
  obtain ⟨l5, l5'⟩ := Bn.mul 10000000000000000 h3 k0 rfl
  obtain ⟨l6, l6'⟩ := Bn.mul 10000000000000000 h1 k2 rfl
  obtain ⟨l7, l7'⟩ := Bn.mul 10000000000000000 h2 k1 rfl
  clear h0 h1 h2 h3 k0 k1 k2 k3
  go_enter Try.func83, Try.ntmps83
  go_wp2
  exact bodyPost_ret (v := .agg #[.int .i64 (a0 * b0 - a1 * b1 - a2 * b2 - a3 * b3), .int .i64 (a0 * b1 + a1 * b0 + a2 * b3 - a3 * b2), .int .i64 (a0 * b2 - a1 * b3 + a2 * b0 + a3 * b1), .int .i64 (a0 * b3 + a1 * b2 - a2 * b1 + a3 * b0)]) (by simp [results, Try.results83, go_sem]) rfl ⟨by rw [show a0 * b2 - a1 * b3 + a2 * b0 + a3 * b1 = (P ⟨a0, a1, a2, a3⟩ ⟨b0, b1, b2, b3⟩).y from py_ ⟨a0, a1, a2, a3⟩ ⟨b0, b1, b2, b3⟩, show a0 * b3 + a1 * b2 - a2 * b1 + a3 * b0 = (P ⟨a0, a1, a2, a3⟩ ⟨b0, b1, b2, b3⟩).z from pz_ ⟨a0, a1, a2, a3⟩ ⟨b0, b1, b2, b3⟩]; rfl, by go_grown⟩
set_option maxHeartbeats 1600000 in
theorem rTimes_h (a b : H) (w : World) (h : HB 100000000 a) (k : HB 100000000 b) :
    Calls Try.prog 33 #[.agg #[.int .i64 (a).w, .int .i64 (a).x, .int .i64 (a).y, .int .i64 (a).z], .agg #[.int .i64 (b).w, .int .i64 (b).x, .int .i64 (b).y, .int .i64 (b).z]] w fun e w' => e = .returned (.agg #[.int .i64 (by_ a b).w, .int .i64 (by_ a b).x, .int .i64 (by_ a b).y, .int .i64 (by_ a b).z]) ∧ Below w.heap.size w w' := by
  have PB := P_bd h k
  have T1 := Lib.hid (fun W => rproduct_f a.w a.x a.y a.z b.w b.x b.y b.z W h.1 h.2.1 h.2.2.1 h.2.2.2 k.1 k.2.1 k.2.2.1 k.2.2.2)
  obtain ⟨⟨q0, q0'⟩, ⟨q1, q1'⟩, ⟨q2, q2'⟩, ⟨q3, q3'⟩⟩ := PB
  obtain ⟨a0, a1, a2, a3⟩ := a
  obtain ⟨b0, b1, b2, b3⟩ := b
  clear h k
  unfold by_ H.ov
  simp only [] at T1 ⊢
  generalize P ⟨a0, a1, a2, a3⟩ ⟨b0, b1, b2, b3⟩ = p at *
  obtain ⟨p0, p1, p2, p3⟩ := p
  simp only [] at T1 q0 q0' q1 q1' q2 q2' q3 q3' ⊢
  have e0 := IntWalk.i64_in (p0.tdiv 2) (by have := tdiv_bd p0 2; omega)
  have e1 := IntWalk.i64_in (p1.tdiv 2) (by have := tdiv_bd p1 2; omega)
  have e2 := IntWalk.i64_in (p2.tdiv 2) (by have := tdiv_bd p2 2; omega)
  have e3 := IntWalk.i64_in (p3.tdiv 2) (by have := tdiv_bd p3 2; omega)
  clear q0 q0' q1 q1' q2 q2' q3 q3'
  go_enter Try.func33, Try.ntmps33
  go_wp2_with fail
  refine (T1.out _).mono ?_
  rintro e w1 ⟨rfl, hb⟩
  have hK : K_R4 (w.heap.size + 2) w w1 := K_R4.below hb ⟨by simp, by simp [go_sem], by simp [go_sem], by (repeat (first | (with_reducible exact Below.refl _ _) | (with_reducible exact HB.out) | (with_reducible refine below_draws ?_ _) | (with_reducible refine Below.alloc ?_ (by go_size) _) | (with_reducible refine Below.setCell ?_ (by go_size) _) | (with_reducible refine Below.alloc ?_ (by simp <;> omega) _) | (with_reducible refine Below.setCell ?_ (by simp <;> omega) _)))⟩
  clear hb
  obtain ⟨d0_, f0_, d1_, f1_, d2_, f2_, d3_, f3_⟩ := K_R4.cells hK; obtain ⟨z0_, -⟩ := K_R4.zs hK; have HK := Lib.hid hK; clear hK
  have HB := Lib.hid (K_R4.bel HK.out)
  have zz : w.heap.size + 2 ≠ w1.heap.size := by omega
  go_wp2
  exact bodyPost_ret (v := .agg #[.int .i64 (p0.tdiv 2), .int .i64 (p1.tdiv 2), .int .i64 (p2.tdiv 2), .int .i64 (p3.tdiv 2)]) (by simp [results, Try.results33, go_sem, d0_, f0_, d1_, f1_, d2_, f2_, d3_, f3_, z0_]) rfl ⟨rfl, by (repeat (first | (with_reducible exact Below.refl _ _) | (with_reducible exact HB.out) | (with_reducible refine below_draws ?_ _) | (with_reducible refine Below.alloc ?_ (by go_size) _) | (with_reducible refine Below.setCell ?_ (by go_size) _) | (with_reducible refine Below.alloc ?_ (by simp <;> omega) _) | (with_reducible refine Below.setCell ?_ (by simp <;> omega) _)))⟩
theorem rConj_h (a : H) (w : World) (h : HB 100000000 a) :
    Calls Try.prog 85 #[.agg #[.int .i64 (a).w, .int .i64 (a).x, .int .i64 (a).y, .int .i64 (a).z]] w fun e w' => e = .returned (.agg #[.int .i64 (a.conj).w, .int .i64 (a.conj).x, .int .i64 (a.conj).y, .int .i64 (a.conj).z]) ∧ Below w.heap.size w w' := by
  obtain ⟨⟨q0, q0'⟩, ⟨q1, q1'⟩, ⟨q2, q2'⟩, ⟨q3, q3'⟩⟩ := h
  obtain ⟨a0, a1, a2, a3⟩ := a
  unfold H.conj
  simp only [] at q0 q0' q1 q1' q2 q2' q3 q3' ⊢
  go_enter Try.func85, Try.ntmps85
  go_wp2
  exact bodyPost_ret (v := .agg #[.int .i64 a0, .int .i64 (-a1), .int .i64 (-a2), .int .i64 (-a3)]) (by simp [results, Try.results85, go_sem]) rfl ⟨rfl, by go_grown⟩
theorem rMinus_h (a b : H) (w : World) (h : HB 100000000000000000 a) (k : HB 100000000000000000 b) :
    Calls Try.prog 36 #[.agg #[.int .i64 (a).w, .int .i64 (a).x, .int .i64 (a).y, .int .i64 (a).z], .agg #[.int .i64 (b).w, .int .i64 (b).x, .int .i64 (b).y, .int .i64 (b).z]] w fun e w' => e = .returned (.agg #[.int .i64 (a.sub b).w, .int .i64 (a.sub b).x, .int .i64 (a.sub b).y, .int .i64 (a.sub b).z]) ∧ Below w.heap.size w w' := by
  obtain ⟨⟨q0, q0'⟩, ⟨q1, q1'⟩, ⟨q2, q2'⟩, ⟨q3, q3'⟩⟩ := h
  obtain ⟨⟨r0, r0'⟩, ⟨r1, r1'⟩, ⟨r2, r2'⟩, ⟨r3, r3'⟩⟩ := k
  obtain ⟨a0, a1, a2, a3⟩ := a
  obtain ⟨b0, b1, b2, b3⟩ := b
  unfold H.sub
  simp only [] at q0 q0' q1 q1' q2 q2' q3 q3' r0 r0' r1 r1' r2 r2' r3 r3' ⊢
  go_enter Try.func36, Try.ntmps36
  go_wp2
  exact bodyPost_ret (v := .agg #[.int .i64 (a0 - b0), .int .i64 (a1 - b1), .int .i64 (a2 - b2), .int .i64 (a3 - b3)]) (by simp [results, Try.results36, go_sem]) rfl ⟨rfl, by go_grown⟩
theorem rNorm_h (a : H) (w : World) (h : HB 100000000 a) :
    Calls Try.prog 23 #[.agg #[.int .i64 (a).w, .int .i64 (a).x, .int .i64 (a).y, .int .i64 (a).z]] w fun e w' => e = .returned (.int .i64 (N a)) ∧ Below w.heap.size w w' := by
  have b0 := tdiv_bd (nn a) 4
  have b1 : nn a ≤ 40000000000000000 := by
    have := nn_le (a := a) (d := 100000000) h.1 h.2.1 h.2.2.1 h.2.2.2; omega
  have b2 := nn_nonneg a
  have e0 := IntWalk.i64_in ((nn a).tdiv 4) (by omega)
  clear b0 b1 b2
  obtain ⟨a0, a1, a2, a3⟩ := a
  obtain ⟨m1, m1'⟩ := Bn.mul 10000000000000000 h.1 h.1 rfl
  obtain ⟨m2, m2'⟩ := Bn.mul 10000000000000000 h.2.1 h.2.1 rfl
  obtain ⟨m3, m3'⟩ := Bn.mul 10000000000000000 h.2.2.1 h.2.2.1 rfl
  obtain ⟨m4, m4'⟩ := Bn.mul 10000000000000000 h.2.2.2 h.2.2.2 rfl
  clear h
  unfold N
  unfold nn at e0 ⊢
  simp only [] at m1 m1' m2 m2' m3 m3' m4 m4' e0 ⊢
  go_enter Try.func23, Try.ntmps23
  go_wp2
  go_ret
  exact ⟨rfl, by (repeat (first | (with_reducible exact Below.refl _ _) | (with_reducible exact HB.out) | (with_reducible refine below_draws ?_ _) | (with_reducible refine Below.alloc ?_ (by go_size) _) | (with_reducible refine Below.setCell ?_ (by go_size) _) | (with_reducible refine Below.alloc ?_ (by simp <;> omega) _) | (with_reducible refine Below.setCell ?_ (by simp <;> omega) _)))⟩
theorem rZero_h (a : H) (w : World) : Calls Try.prog 26 #[.agg #[.int .i64 (a).w, .int .i64 (a).x, .int .i64 (a).y, .int .i64 (a).z]] w fun e w' => e = .returned (.bool (zeroB a)) ∧ Below w.heap.size w w' := by
  obtain ⟨a0, a1, a2, a3⟩ := a
  unfold zeroB
  simp only []
  have eq := Try.eqU a0 a1 a2 a3 0 0 0 0
  go_enter Try.func26, Try.ntmps26
  go_wp2
  go_ret
  exact ⟨rfl, by (repeat (first | (with_reducible exact Below.refl _ _) | (with_reducible exact HB.out) | (with_reducible refine below_draws ?_ _) | (with_reducible refine Below.alloc ?_ (by go_size) _) | (with_reducible refine Below.setCell ?_ (by go_size) _) | (with_reducible refine Below.alloc ?_ (by simp <;> omega) _) | (with_reducible refine Below.setCell ?_ (by simp <;> omega) _)))⟩
set_option maxHeartbeats 3200000 in
theorem rGreater_h (a b : H) (w : World) :
    Calls Try.prog 76 #[.agg #[.int .i64 (a).w, .int .i64 (a).x, .int .i64 (a).y, .int .i64 (a).z], .agg #[.int .i64 (b).w, .int .i64 (b).x, .int .i64 (b).y, .int .i64 (b).z]] w fun e w' => e = .returned (.bool (gtB a b)) ∧ Below w.heap.size w w' := by
  have ways := gtB_ways a b
  obtain ⟨a0, a1, a2, a3⟩ := a
  obtain ⟨b0, b1, b2, b3⟩ := b
  simp only [] at ways ⊢
  rcases ways with ⟨h0, he⟩ | ⟨h0, h1, he⟩ | ⟨h0, h1, h2, he⟩ | ⟨h0, h1, h2, h3, he⟩ | ⟨h0, h1, h2, h3, he⟩
  · rw [he]; clear he
    have t0 : (a0 != b0) = true := by rw [bne_iff_ne]; exact h0
    clear h0
    go_enter Try.func76, Try.ntmps76
    go_wp2
    refine wp_loop_rounds 1 ?_
    rw [rounds_succ]; go_wp2; (try (go_quiet (fail); go_wp2)); (try (go_quiet (fail); go_wp2))
    go_ret
    exact ⟨by first | rfl | simp, by (repeat (first | (with_reducible exact Below.refl _ _) | (with_reducible exact HB.out) | (with_reducible refine below_draws ?_ _) | (with_reducible refine Below.alloc ?_ (by go_size) _) | (with_reducible refine Below.setCell ?_ (by go_size) _) | (with_reducible refine Below.alloc ?_ (by simp <;> omega) _) | (with_reducible refine Below.setCell ?_ (by simp <;> omega) _)))⟩
  · rw [he]; clear he
    have t0 : (a0 != b0) = false := by rw [h0]; simp
    clear h0
    have t1 : (a1 != b1) = true := by rw [bne_iff_ne]; exact h1
    clear h1
    go_enter Try.func76, Try.ntmps76
    go_wp2
    refine wp_loop_rounds 2 ?_
    rw [rounds_succ]; go_wp2; (try (go_quiet (fail); go_wp2)); (try (go_quiet (fail); go_wp2))
    rw [rounds_succ]; go_wp2; (try (go_quiet (fail); go_wp2)); (try (go_quiet (fail); go_wp2))
    go_ret
    exact ⟨by first | rfl | simp, by (repeat (first | (with_reducible exact Below.refl _ _) | (with_reducible exact HB.out) | (with_reducible refine below_draws ?_ _) | (with_reducible refine Below.alloc ?_ (by go_size) _) | (with_reducible refine Below.setCell ?_ (by go_size) _) | (with_reducible refine Below.alloc ?_ (by simp <;> omega) _) | (with_reducible refine Below.setCell ?_ (by simp <;> omega) _)))⟩
  · rw [he]; clear he
    have t0 : (a0 != b0) = false := by rw [h0]; simp
    clear h0
    have t1 : (a1 != b1) = false := by rw [h1]; simp
    clear h1
    have t2 : (a2 != b2) = true := by rw [bne_iff_ne]; exact h2
    clear h2
    go_enter Try.func76, Try.ntmps76
    go_wp2
    refine wp_loop_rounds 3 ?_
    rw [rounds_succ]; go_wp2; (try (go_quiet (fail); go_wp2)); (try (go_quiet (fail); go_wp2))
    rw [rounds_succ]; go_wp2; (try (go_quiet (fail); go_wp2)); (try (go_quiet (fail); go_wp2))
    rw [rounds_succ]; go_wp2; (try (go_quiet (fail); go_wp2)); (try (go_quiet (fail); go_wp2))
    go_ret
    exact ⟨by first | rfl | simp, by (repeat (first | (with_reducible exact Below.refl _ _) | (with_reducible exact HB.out) | (with_reducible refine below_draws ?_ _) | (with_reducible refine Below.alloc ?_ (by go_size) _) | (with_reducible refine Below.setCell ?_ (by go_size) _) | (with_reducible refine Below.alloc ?_ (by simp <;> omega) _) | (with_reducible refine Below.setCell ?_ (by simp <;> omega) _)))⟩
  · rw [he]; clear he
    have t0 : (a0 != b0) = false := by rw [h0]; simp
    clear h0
    have t1 : (a1 != b1) = false := by rw [h1]; simp
    clear h1
    have t2 : (a2 != b2) = false := by rw [h2]; simp
    clear h2
    have t3 : (a3 != b3) = true := by rw [bne_iff_ne]; exact h3
    clear h3
    go_enter Try.func76, Try.ntmps76
    go_wp2
    refine wp_loop_rounds 4 ?_
    rw [rounds_succ]; go_wp2; (try (go_quiet (fail); go_wp2)); (try (go_quiet (fail); go_wp2))
    rw [rounds_succ]; go_wp2; (try (go_quiet (fail); go_wp2)); (try (go_quiet (fail); go_wp2))
    rw [rounds_succ]; go_wp2; (try (go_quiet (fail); go_wp2)); (try (go_quiet (fail); go_wp2))
    rw [rounds_succ]; go_wp2; (try (go_quiet (fail); go_wp2)); (try (go_quiet (fail); go_wp2))
    go_ret
    exact ⟨by first | rfl | simp, by (repeat (first | (with_reducible exact Below.refl _ _) | (with_reducible exact HB.out) | (with_reducible refine below_draws ?_ _) | (with_reducible refine Below.alloc ?_ (by go_size) _) | (with_reducible refine Below.setCell ?_ (by go_size) _) | (with_reducible refine Below.alloc ?_ (by simp <;> omega) _) | (with_reducible refine Below.setCell ?_ (by simp <;> omega) _)))⟩
  · rw [he]; clear he
    have t0 : (a0 != b0) = false := by rw [h0]; simp
    clear h0
    have t1 : (a1 != b1) = false := by rw [h1]; simp
    clear h1
    have t2 : (a2 != b2) = false := by rw [h2]; simp
    clear h2
    have t3 : (a3 != b3) = false := by rw [h3]; simp
    clear h3
    go_enter Try.func76, Try.ntmps76
    go_wp2
    refine wp_loop_rounds 5 ?_
    rw [rounds_succ]; go_wp2; (try (go_quiet (fail); go_wp2)); (try (go_quiet (fail); go_wp2))
    rw [rounds_succ]; go_wp2; (try (go_quiet (fail); go_wp2)); (try (go_quiet (fail); go_wp2))
    rw [rounds_succ]; go_wp2; (try (go_quiet (fail); go_wp2)); (try (go_quiet (fail); go_wp2))
    rw [rounds_succ]; go_wp2; (try (go_quiet (fail); go_wp2)); (try (go_quiet (fail); go_wp2))
    rw [rounds_succ]; go_wp2; (try (go_quiet (fail); go_wp2)); (try (go_quiet (fail); go_wp2))
    go_ret
    exact ⟨by first | rfl | simp, by (repeat (first | (with_reducible exact Below.refl _ _) | (with_reducible exact HB.out) | (with_reducible refine below_draws ?_ _) | (with_reducible refine Below.alloc ?_ (by go_size) _) | (with_reducible refine Below.setCell ?_ (by go_size) _) | (with_reducible refine Below.alloc ?_ (by simp <;> omega) _) | (with_reducible refine Below.setCell ?_ (by simp <;> omega) _)))⟩
end Go.Proofs.Yteiflfmpkfhkoaa.Rt
