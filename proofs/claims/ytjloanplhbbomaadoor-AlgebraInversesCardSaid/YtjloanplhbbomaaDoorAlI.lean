/-
  Inverses: mathematics; the walks of both.
-/
import Derived.Test.YtjloanplhbbomaaDoorAlT
import Derived.Test.YtjloanplhbbomaaDoorAlX
namespace Go.Proofs.YtjloanplhbbomaaDoor.Al
open Go.RowKit
open Alm
set_option linter.unusedVariables false
set_option linter.unusedSimpArgs false
set_option maxRecDepth 100000
def invq (A B : Int) (q : Q) : Q := ⟨q.w * q.d, -q.x * q.d, -q.y * q.d, -q.z * q.d, nm A B q.w q.x q.y q.z⟩
def invE (A B : Int) (q : Q) : Int := if nm A B q.w q.x q.y q.z = 0 then 10 else fitE (invq A B q)
def invQ (A B : Int) (q : Q) : Q := if nm A B q.w q.x q.y q.z = 0 then ⟨0, 0, 0, 0, 0⟩ else fitQ (invq A B q)
theorem nm_mulc (A B : Int) (q : Q) (c : Int) : nm A B (q.w * c) (q.x * c) (q.y * c) (q.z * c) = nm A B q.w q.x q.y q.z * (c * c) := by unfold nm; grind
theorem inv_low {A B : Int} {q : Q} (h : 0 < q.d) : invE A B q.low = invE A B q ∧ invQ A B q.low = invQ A B q := by
  obtain ⟨c, hc, e⟩ := q.lows h
  have en : nm A B q.w q.x q.y q.z = nm A B q.low.w q.low.x q.low.y q.low.z * (c * c) := by
    conv => lhs; rw [e]
    exact nm_mulc A B q.low c
  have ei : invq A B q = (invq A B q.low).mulc (c * c) := by
    conv => lhs; rw [e]
    generalize q.low = P
    apply Q.ext' <;> simp only [invq, Q.mulc, nm] <;> grind
  by_cases hz : nm A B q.low.w q.low.x q.low.y q.low.z = 0
  · have h0 : nm A B q.w q.x q.y q.z = 0 := by rw [en, hz, Int.zero_mul]
    unfold invE invQ
    rw [if_pos hz, if_pos hz, if_pos h0, if_pos h0]
    exact ⟨rfl, rfl⟩
  · have h0 : nm A B q.w q.x q.y q.z ≠ 0 := by rw [en]; exact Int.mul_ne_zero hz (Int.mul_ne_zero (by omega) (by omega))
    have el : (invq A B q).low = (invq A B q.low).low := by
      rw [ei]; exact Q.low_mulc _ hz (Int.mul_pos hc hc)
    unfold invE invQ fitE fitQ
    rw [if_neg hz, if_neg hz, if_neg h0, if_neg h0, el]
    exact ⟨rfl, rfl⟩
theorem invE_z {A B n0 n1 n2 n3 d : Int} (h : nm A B n0 n1 n2 n3 = 0) : invE A B ⟨n0, n1, n2, n3, d⟩ = 10 ∧ invQ A B ⟨n0, n1, n2, n3, d⟩ = ⟨0, 0, 0, 0, 0⟩ := ⟨if_pos h, if_pos h⟩
theorem invE_n {A B n0 n1 n2 n3 d : Int} (h : nm A B n0 n1 n2 n3 ≠ 0) : invE A B ⟨n0, n1, n2, n3, d⟩ = fitE ⟨n0 * d, -n1 * d, -n2 * d, -n3 * d, nm A B n0 n1 n2 n3⟩ ∧ invQ A B ⟨n0, n1, n2, n3, d⟩ = fitQ ⟨n0 * d, -n1 * d, -n2 * d, -n3 * d, nm A B n0 n1 n2 n3⟩ := ⟨if_neg h, if_neg h⟩
/-- an inverse that fits is an element -/
theorem inv_chk {A B : Int} {q : Q} (h : invE A B q = 0) : qB (invQ A B q) = true := by
  unfold invE at h
  unfold invQ
  by_cases hz : nm A B q.w q.x q.y q.z = 0
  · rw [if_pos hz] at h; exact absurd h (by decide)
  · rw [if_neg hz] at h ⊢
    unfold fitE at h
    unfold fitQ
    by_cases hq : qB (invq A B q).low = true
    · rw [if_pos hq]; exact hq
    · rw [if_neg hq] at h; exact absurd h (by decide)
/-- what a walk keeps: cells, and that nothing that was there has turned -/
def K_I1 (A B n0 n1 n2 n3 d : Int) (b1 b2 R b4 : Nat) (w w' : World) : Prop := KL w [(b4, 0, .int .i64 n0), (b4, 1, .int .i64 n1), (b4, 2, .int .i64 n2), (b4, 3, .int .i64 n3), (b1, 0, .int .i64 A), (b1, 1, .int .i64 B), (b2, 0, .int .i64 n0), (b2, 1, .int .i64 n1), (b2, 2, .int .i64 n2), (b2, 3, .int .i64 n3), (b2, 4, .int .i64 d)] [(R, 0), (R, 1), (R, 2), (R, 3), (R, 4)] w'
theorem K_I1.below {A B n0 n1 n2 n3 d : Int} {b1 b2 R b4 : Nat} {w w1 w2 : World} (hb : Below w1.heap.size w1 w2) (h : K_I1 A B n0 n1 n2 n3 d b1 b2 R b4 w w1) : K_I1 A B n0 n1 n2 n3 d b1 b2 R b4 w w2 := KL.below hb h
theorem K_I1.draws {A B n0 n1 n2 n3 d : Int} {b1 b2 R b4 : Nat} {w w1 : World} (n : Nat) (h : K_I1 A B n0 n1 n2 n3 d b1 b2 R b4 w w1) : K_I1 A B n0 n1 n2 n3 d b1 b2 R b4 w (w1.drewN n) := KL.draws n h
theorem K_I1.drew {A B n0 n1 n2 n3 d : Int} {b1 b2 R b4 : Nat} {w w1 : World} (h : K_I1 A B n0 n1 n2 n3 d b1 b2 R b4 w w1) : K_I1 A B n0 n1 n2 n3 d b1 b2 R b4 w w1.drew := KL.draws 1 h
theorem K_I1.alloc {A B n0 n1 n2 n3 d : Int} {b1 b2 R b4 : Nat} {w w1 : World} (o : Obj) (h : K_I1 A B n0 n1 n2 n3 d b1 b2 R b4 w w1) : K_I1 A B n0 n1 n2 n3 d b1 b2 R b4 w (w1.alloc o) := KL.alloc o h
theorem K_I1.set {A B n0 n1 n2 n3 d : Int} {b1 b2 R b4 : Nat} {w w1 : World} (h : K_I1 A B n0 n1 n2 n3 d b1 b2 R b4 w w1) (b i : Nat) (v : Value) (hb : b ≠ b4 ∧ b ≠ b1 ∧ b ≠ b2 ∧ w.heap.size ≤ b) : K_I1 A B n0 n1 n2 n3 d b1 b2 R b4 w (w1.setCell ⟨b, i, none⟩ v) :=
  KL.set h b i v (by intro x hx; simp only [List.mem_cons, List.not_mem_nil, or_false] at hx; rcases hx with rfl | rfl | rfl | rfl | rfl | rfl | rfl | rfl | rfl | rfl | rfl <;> simp only [] <;> omega) (by omega)
theorem K_I1.bel {A B n0 n1 n2 n3 d : Int} {b1 b2 R b4 : Nat} {w w1 : World} (h : K_I1 A B n0 n1 n2 n3 d b1 b2 R b4 w w1) : Below w.heap.size w w1 := KL.bel h
theorem K_I1.cells {A B n0 n1 n2 n3 d : Int} {b1 b2 R b4 : Nat} {w w' : World} (h : K_I1 A B n0 n1 n2 n3 d b1 b2 R b4 w w') : w'.cell? ⟨b4, 0, none⟩ = some (.int .i64 n0) ∧ w'.cell? ⟨b4, 1, none⟩ = some (.int .i64 n1) ∧ w'.cell? ⟨b4, 2, none⟩ = some (.int .i64 n2) ∧ w'.cell? ⟨b4, 3, none⟩ = some (.int .i64 n3) ∧ w'.cell? ⟨b1, 0, none⟩ = some (.int .i64 A) ∧ w'.cell? ⟨b1, 1, none⟩ = some (.int .i64 B) ∧ w'.cell? ⟨b2, 0, none⟩ = some (.int .i64 n0) ∧ w'.cell? ⟨b2, 1, none⟩ = some (.int .i64 n1) ∧ w'.cell? ⟨b2, 2, none⟩ = some (.int .i64 n2) ∧ w'.cell? ⟨b2, 3, none⟩ = some (.int .i64 n3) ∧ w'.cell? ⟨b2, 4, none⟩ = some (.int .i64 d) ∧ w'.cell? ⟨R, 0, none⟩ = some (cv w' R 0) ∧ w'.frozen? ⟨R, 0, none⟩ = false ∧ w'.cell? ⟨R, 1, none⟩ = some (cv w' R 1) ∧ w'.frozen? ⟨R, 1, none⟩ = false ∧ w'.cell? ⟨R, 2, none⟩ = some (cv w' R 2) ∧ w'.frozen? ⟨R, 2, none⟩ = false ∧ w'.cell? ⟨R, 3, none⟩ = some (cv w' R 3) ∧ w'.frozen? ⟨R, 3, none⟩ = false ∧ w'.cell? ⟨R, 4, none⟩ = some (cv w' R 4) ∧ w'.frozen? ⟨R, 4, none⟩ = false := ⟨h.c (b4, 0, .int .i64 n0) (by simp), h.c (b4, 1, .int .i64 n1) (by simp), h.c (b4, 2, .int .i64 n2) (by simp), h.c (b4, 3, .int .i64 n3) (by simp), h.c (b1, 0, .int .i64 A) (by simp), h.c (b1, 1, .int .i64 B) (by simp), h.c (b2, 0, .int .i64 n0) (by simp), h.c (b2, 1, .int .i64 n1) (by simp), h.c (b2, 2, .int .i64 n2) (by simp), h.c (b2, 3, .int .i64 n3) (by simp), h.c (b2, 4, .int .i64 d) (by simp), h.d (R, 0) (by simp), h.f (R, 0) (by simp), h.d (R, 1) (by simp), h.f (R, 1) (by simp), h.d (R, 2) (by simp), h.f (R, 2) (by simp), h.d (R, 3) (by simp), h.f (R, 3) (by simp), h.d (R, 4) (by simp), h.f (R, 4) (by simp)⟩
theorem K_I1.zs {A B n0 n1 n2 n3 d : Int} {b1 b2 R b4 : Nat} {w w' : World} (h : K_I1 A B n0 n1 n2 n3 d b1 b2 R b4 w w') : b4 < w'.heap.size ∧ b1 < w'.heap.size ∧ b2 < w'.heap.size ∧ R < w'.heap.size ∧ True := ⟨KL.z h (x := (b4, 0, .int .i64 n0)) (by simp), KL.z h (x := (b1, 0, .int .i64 A)) (by simp), KL.z h (x := (b2, 0, .int .i64 n0)) (by simp), KL.zf h (x := (R, 0)) (by simp), trivial⟩
theorem K_I1.ks {A B n0 n1 n2 n3 d : Int} {b1 b2 R b4 : Nat} {w w' : World} (h : K_I1 A B n0 n1 n2 n3 d b1 b2 R b4 w w') : (w'.cell? ⟨b4, 0, none⟩ = some (.int .i64 n0) ∧ w'.cell? ⟨b4, 1, none⟩ = some (.int .i64 n1) ∧ w'.cell? ⟨b4, 2, none⟩ = some (.int .i64 n2) ∧ w'.cell? ⟨b4, 3, none⟩ = some (.int .i64 n3) ∧ w'.cell? ⟨b1, 0, none⟩ = some (.int .i64 A) ∧ w'.cell? ⟨b1, 1, none⟩ = some (.int .i64 B) ∧ w'.cell? ⟨b2, 0, none⟩ = some (.int .i64 n0) ∧ w'.cell? ⟨b2, 1, none⟩ = some (.int .i64 n1) ∧ w'.cell? ⟨b2, 2, none⟩ = some (.int .i64 n2) ∧ w'.cell? ⟨b2, 3, none⟩ = some (.int .i64 n3) ∧ w'.cell? ⟨b2, 4, none⟩ = some (.int .i64 d) ∧ w'.cell? ⟨R, 0, none⟩ = some (cv w' R 0) ∧ w'.frozen? ⟨R, 0, none⟩ = false ∧ w'.cell? ⟨R, 1, none⟩ = some (cv w' R 1) ∧ w'.frozen? ⟨R, 1, none⟩ = false ∧ w'.cell? ⟨R, 2, none⟩ = some (cv w' R 2) ∧ w'.frozen? ⟨R, 2, none⟩ = false ∧ w'.cell? ⟨R, 3, none⟩ = some (cv w' R 3) ∧ w'.frozen? ⟨R, 3, none⟩ = false ∧ w'.cell? ⟨R, 4, none⟩ = some (cv w' R 4) ∧ w'.frozen? ⟨R, 4, none⟩ = false) ∧ K_I1 A B n0 n1 n2 n3 d b1 b2 R b4 w w' := ⟨h.cells, h⟩
set_option maxHeartbeats 3200000 in
theorem inverse_v (A B n0 n1 n2 n3 d : Int) (w : World) (hA : chkA A B = 0) (hq : chkQ n0 n1 n2 n3 d = 0) :
    Calls Tryd.prog 72 #[.agg #[.int .i64 A, .int .i64 B], .agg #[.int .i64 n0, .int .i64 n1, .int .i64 n2, .int .i64 n3, .int .i64 d]] w fun e w' => e = .returned (.tuple #[.agg #[.int .i64 (invQ A B ⟨n0, n1, n2, n3, d⟩).w, .int .i64 (invQ A B ⟨n0, n1, n2, n3, d⟩).x, .int .i64 (invQ A B ⟨n0, n1, n2, n3, d⟩).y, .int .i64 (invQ A B ⟨n0, n1, n2, n3, d⟩).z, .int .i64 (invQ A B ⟨n0, n1, n2, n3, d⟩).d], .int .i64 (invE A B ⟨n0, n1, n2, n3, d⟩)]) ∧ Below w.heap.size w w' := by
  obtain ⟨a0, a1, a2, a3, a4, a5⟩ := qin_of hq
  have hd : Bn 1000000 d := ⟨by omega, by omega⟩
  have NN := Lib.hid (fun W => nnorm_any A B n0 n1 n2 n3 W (Bn_A hA).1 (Bn_A hA).2 a0 a1 a2 a3)
  have nb := nm_bd (Bn_A hA).1 (Bn_A hA).2 a0 a1 a2 a3
  have c1 : Bn 1000000 (-n1) := ⟨by omega, by omega⟩
  have c2 : Bn 1000000 (-n2) := ⟨by omega, by omega⟩
  have c3 : Bn 1000000 (-n3) := ⟨by omega, by omega⟩
  have p0 := Bn.mul 1000000000000 a0 hd rfl
  have p1 := Bn.mul 1000000000000 c1 hd rfl
  have p2 := Bn.mul 1000000000000 c2 hd rfl
  have p3 := Bn.mul 1000000000000 c3 hd rfl
  have CJ := Lib.hid (fun W => conjugate_any n0 n1 n2 n3 W (by omega) (by omega) (by omega) (by omega) (by omega) (by omega))
  have SC := Lib.hid (fun W => scaled_any n0 (-n1) (-n2) (-n3) d W (by omega) (by omega) (by omega) (by omega) (by omega) (by omega) (by omega) (by omega))
  by_cases hz : nm A B n0 n1 n2 n3 = 0
  · have HZ := Lib.hid hz
    have ht : (nm A B n0 n1 n2 n3 == 0) = true := by rw [beq_iff_eq]; exact hz
    rw [(invE_z hz).1, (invE_z hz).2]
    rw [hz] at NN
    clear hA hq a0 a1 a2 a3 a4 a5 hd nb c1 c2 c3 p0 p1 p2 p3 hz ht
    go_enter Tryd.func72, Tryd.ntmps72
    go_wp2_with fail
    refine (numeratorsOf_any _ _ _ _ _ _).mono ?_
    rintro e w1 ⟨rfl, hb⟩
    have hK : K_V A B n0 n1 n2 n3 d w.heap.size (w.heap.size + 1) (w.heap.size + 2) w w1 := K_V.below hb ⟨by simp [go_sem], by simp [go_sem], by simp [go_sem], by (repeat (first | (with_reducible exact Below.refl _ _) | (with_reducible exact HB.out) | (with_reducible refine below_draws ?_ _) | (with_reducible refine Below.alloc ?_ (by go_size) _) | (with_reducible refine Below.setCell ?_ (by go_size) _) | (with_reducible refine Below.alloc ?_ (by simp <;> omega) _) | (with_reducible refine Below.setCell ?_ (by simp <;> omega) _)))⟩
    clear hb
    obtain ⟨c0_, c1_, c2_, c3_, c4_, c5_, c6_, d0_, f0_, d1_, f1_, d2_, f2_, d3_, f3_, d4_, f4_⟩ := K_V.cells hK; obtain ⟨z0_, z1_, z2_, -⟩ := K_V.zs hK; have HK := Lib.hid hK; clear hK
    have zz : w.heap.size + 2 < w1.heap.size := by omega
    go_wp2_with fail
    refine (NN.out _).mono ?_
    rintro e w2 ⟨rfl, hb⟩
    clear c0_ c1_ c2_ c3_ c4_ c5_ c6_ d0_ f0_ d1_ f1_ d2_ f2_ d3_ f3_ d4_ f4_ z0_ z1_ z2_
    have hK : K_I1 A B n0 n1 n2 n3 d w.heap.size (w.heap.size + 1) (w.heap.size + 2) w1.heap.size w w2 := KL.below hb (KL.push4 HK.out n0 n1 n2 n3 _ _ rfl)
    clear hb HK
    obtain ⟨c0_, c1_, c2_, c3_, c4_, c5_, c6_, c7_, c8_, c9_, c10_, d0_, f0_, d1_, f1_, d2_, f2_, d3_, f3_, d4_, f4_⟩ := K_I1.cells hK; obtain ⟨z0_, z1_, z2_, z3_, -⟩ := K_I1.zs hK; have HK := Lib.hid hK; clear hK
    have HB := Lib.hid (K_I1.bel HK.out)
    go_wp2
    exact bodyPost_ret (v := .tuple #[.agg #[.int .i64 0, .int .i64 0, .int .i64 0, .int .i64 0, .int .i64 0], .int .i64 10]) (by simp [results, Tryd.results72, go_sem, c0_, c1_, c2_, c3_, c4_, c5_, c6_, c7_, c8_, c9_, c10_, d0_, f0_, d1_, f1_, d2_, f2_, d3_, f3_, d4_, f4_]) rfl ⟨rfl, by (repeat (first | (with_reducible exact Below.refl _ _) | (with_reducible exact HB.out) | (with_reducible refine below_draws ?_ _) | (with_reducible refine Below.alloc ?_ (by go_size) _) | (with_reducible refine Below.setCell ?_ (by go_size) _) | (with_reducible refine Below.alloc ?_ (by simp <;> omega) _) | (with_reducible refine Below.setCell ?_ (by simp <;> omega) _)))⟩
  · have OV := Lib.hid (fun W => over_any (n0 * d) (-n1 * d) (-n2 * d) (-n3 * d) (nm A B n0 n1 n2 n3) W (by omega) (by omega) (by omega) (by omega) (by omega) hz)
    have ht : (nm A B n0 n1 n2 n3 == 0) = false := by rw [beq_eq_false_iff_ne]; exact hz
    rw [(invE_n hz).1, (invE_n hz).2]
    obtain ⟨s, hs⟩ : ∃ s, fitQ ⟨n0 * d, -n1 * d, -n2 * d, -n3 * d, nm A B n0 n1 n2 n3⟩ = s := ⟨_, rfl⟩
    obtain ⟨t, hs'⟩ : ∃ t, fitE ⟨n0 * d, -n1 * d, -n2 * d, -n3 * d, nm A B n0 n1 n2 n3⟩ = t := ⟨_, rfl⟩
    rw [hs, hs'] at OV ⊢
    obtain ⟨N, hN⟩ : ∃ N, nm A B n0 n1 n2 n3 = N := ⟨_, rfl⟩
    rw [hN] at NN OV ht
    clear hA hq a0 a1 a2 a3 a4 a5 hd nb c1 c2 c3 p0 p1 p2 p3 hz hs hs' hN
    go_enter Tryd.func72, Tryd.ntmps72
    go_wp2_with fail
    refine (numeratorsOf_any _ _ _ _ _ _).mono ?_
    rintro e w1 ⟨rfl, hb⟩
    have hK : K_V A B n0 n1 n2 n3 d w.heap.size (w.heap.size + 1) (w.heap.size + 2) w w1 := K_V.below hb ⟨by simp [go_sem], by simp [go_sem], by simp [go_sem], by (repeat (first | (with_reducible exact Below.refl _ _) | (with_reducible exact HB.out) | (with_reducible refine below_draws ?_ _) | (with_reducible refine Below.alloc ?_ (by go_size) _) | (with_reducible refine Below.setCell ?_ (by go_size) _) | (with_reducible refine Below.alloc ?_ (by simp <;> omega) _) | (with_reducible refine Below.setCell ?_ (by simp <;> omega) _)))⟩
    clear hb
    obtain ⟨c0_, c1_, c2_, c3_, c4_, c5_, c6_, d0_, f0_, d1_, f1_, d2_, f2_, d3_, f3_, d4_, f4_⟩ := K_V.cells hK; obtain ⟨z0_, z1_, z2_, -⟩ := K_V.zs hK; have HK := Lib.hid hK; clear hK
    have zz : w.heap.size + 2 < w1.heap.size := by omega
    go_wp2_with fail
    refine (NN.out _).mono ?_
    rintro e w2 ⟨rfl, hb⟩
    clear c0_ c1_ c2_ c3_ c4_ c5_ c6_ d0_ f0_ d1_ f1_ d2_ f2_ d3_ f3_ d4_ f4_ z0_ z1_ z2_
    have hK : K_I1 A B n0 n1 n2 n3 d w.heap.size (w.heap.size + 1) (w.heap.size + 2) w1.heap.size w w2 := KL.below hb (KL.push4 HK.out n0 n1 n2 n3 _ _ rfl)
    clear hb HK
    obtain ⟨c0_, c1_, c2_, c3_, c4_, c5_, c6_, c7_, c8_, c9_, c10_, d0_, f0_, d1_, f1_, d2_, f2_, d3_, f3_, d4_, f4_⟩ := K_I1.cells hK; obtain ⟨z0_, z1_, z2_, z3_, -⟩ := K_I1.zs hK; have HK := Lib.hid hK; clear hK
    go_wp2_with fail
    have hk := HK.out
    clear c0_ c1_ c2_ c3_ c4_ c5_ c6_ c7_ c8_ c9_ c10_ d0_ f0_ d1_ f1_ d2_ f2_ d3_ f3_ d4_ f4_ z0_ z1_ z2_ z3_
    clear HK
    go_region_held3 (fun w' => (w'.cell? ⟨w1.heap.size, 0, none⟩ = some (.int .i64 n0) ∧ w'.cell? ⟨w1.heap.size, 1, none⟩ = some (.int .i64 n1) ∧ w'.cell? ⟨w1.heap.size, 2, none⟩ = some (.int .i64 n2) ∧ w'.cell? ⟨w1.heap.size, 3, none⟩ = some (.int .i64 n3) ∧ w'.cell? ⟨w.heap.size, 0, none⟩ = some (.int .i64 A) ∧ w'.cell? ⟨w.heap.size, 1, none⟩ = some (.int .i64 B) ∧ w'.cell? ⟨(w.heap.size + 1), 0, none⟩ = some (.int .i64 n0) ∧ w'.cell? ⟨(w.heap.size + 1), 1, none⟩ = some (.int .i64 n1) ∧ w'.cell? ⟨(w.heap.size + 1), 2, none⟩ = some (.int .i64 n2) ∧ w'.cell? ⟨(w.heap.size + 1), 3, none⟩ = some (.int .i64 n3) ∧ w'.cell? ⟨(w.heap.size + 1), 4, none⟩ = some (.int .i64 d) ∧ w'.cell? ⟨(w.heap.size + 2), 0, none⟩ = some (cv w' ((w.heap.size + 2)) 0) ∧ w'.frozen? ⟨(w.heap.size + 2), 0, none⟩ = false ∧ w'.cell? ⟨(w.heap.size + 2), 1, none⟩ = some (cv w' ((w.heap.size + 2)) 1) ∧ w'.frozen? ⟨(w.heap.size + 2), 1, none⟩ = false ∧ w'.cell? ⟨(w.heap.size + 2), 2, none⟩ = some (cv w' ((w.heap.size + 2)) 2) ∧ w'.frozen? ⟨(w.heap.size + 2), 2, none⟩ = false ∧ w'.cell? ⟨(w.heap.size + 2), 3, none⟩ = some (cv w' ((w.heap.size + 2)) 3) ∧ w'.frozen? ⟨(w.heap.size + 2), 3, none⟩ = false ∧ w'.cell? ⟨(w.heap.size + 2), 4, none⟩ = some (cv w' ((w.heap.size + 2)) 4) ∧ w'.frozen? ⟨(w.heap.size + 2), 4, none⟩ = false) ∧ K_I1 A B n0 n1 n2 n3 d w.heap.size (w.heap.size + 1) (w.heap.size + 2) w1.heap.size w w') ((refine K_I1.ks ?_; repeat (first | (with_reducible assumption) | (with_reducible refine K_I1.draws _ ?_) | (with_reducible refine K_I1.drew ?_) | (with_reducible refine K_I1.alloc _ ?_) | (with_reducible refine K_I1.set ?_ _ _ _ (by omega)))))
      (first
        | (go_at_call 63; (with_reducible refine (CJ.out _).mono ?_); rintro e w3 ⟨rfl, hbel⟩; have hk' := K_I1.below hbel (And.right (by assumption)); clear hbel)
        | (go_at_call 61; (with_reducible refine (SC.out _).mono ?_); rintro e w4 ⟨rfl, hbel⟩; have hk' := K_I1.below hbel (And.right (by assumption)); clear hbel)
        | (go_at_call 54; (with_reducible refine (OV.out _).mono ?_); rintro e w5 ⟨rfl, hbel⟩; have hk' := K_I1.below hbel (And.right (by assumption)); clear hbel))
    all_goals
      go_wp2
      (rename_i hh_; clear hh_; obtain ⟨c0_, c1_, c2_, c3_, c4_, c5_, c6_, c7_, c8_, c9_, c10_, d0_, f0_, d1_, f1_, d2_, f2_, d3_, f3_, d4_, f4_⟩ := K_I1.cells hk'; have HB := Lib.hid (K_I1.bel hk'))
      exact bodyPost_ret (v := .tuple #[.agg #[.int .i64 (s).w, .int .i64 (s).x, .int .i64 (s).y, .int .i64 (s).z, .int .i64 (s).d], .int .i64 t]) (by simp [results, Tryd.results72, go_sem, c0_, c1_, c2_, c3_, c4_, c5_, c6_, c7_, c8_, c9_, c10_, d0_, f0_, d1_, f1_, d2_, f2_, d3_, f3_, d4_, f4_]) rfl ⟨rfl, by (repeat (first | (with_reducible exact Below.refl _ _) | (with_reducible exact HB.out) | (with_reducible refine below_draws ?_ _) | (with_reducible refine Below.alloc ?_ (by go_size) _) | (with_reducible refine Below.setCell ?_ (by go_size) _) | (with_reducible refine Below.alloc ?_ (by simp <;> omega) _) | (with_reducible refine Below.setCell ?_ (by simp <;> omega) _)))⟩
set_option maxHeartbeats 3200000 in
theorem Inverse_v (A B n0 n1 n2 n3 d : Int) (w : World) (hA : chkA A B = 0) (hq : chkQ n0 n1 n2 n3 d = 0) :
    Calls Tryd.prog 40 #[.agg #[.int .i64 A, .int .i64 B], .agg #[.int .i64 n0, .int .i64 n1, .int .i64 n2, .int .i64 n3, .int .i64 d]] w fun e w' => e = .returned (.tuple #[.agg #[.int .i64 (invQ A B ⟨n0, n1, n2, n3, d⟩).w, .int .i64 (invQ A B ⟨n0, n1, n2, n3, d⟩).x, .int .i64 (invQ A B ⟨n0, n1, n2, n3, d⟩).y, .int .i64 (invQ A B ⟨n0, n1, n2, n3, d⟩).z, .int .i64 (invQ A B ⟨n0, n1, n2, n3, d⟩).d], .int .i64 (invE A B ⟨n0, n1, n2, n3, d⟩)]) ∧ Below w.heap.size w w' := by
  have IV := Lib.hid (fun W => inverse_v A B n0 n1 n2 n3 d W hA hq)
  have ok : (or2 (chkA A B) (chkQ n0 n1 n2 n3 d) != 0) = false := by rw [or2_ok hA hq]; rfl
  obtain ⟨s, hs⟩ : ∃ s, invQ A B ⟨n0, n1, n2, n3, d⟩ = s := ⟨_, rfl⟩
  obtain ⟨t, ht⟩ : ∃ s, invE A B ⟨n0, n1, n2, n3, d⟩ = s := ⟨_, rfl⟩
  rw [hs, ht] at IV ⊢
  clear hA hq hs ht
  go_enter Tryd.func40, Tryd.ntmps40
  go_wp2_with fail
  have hk : K_V A B n0 n1 n2 n3 d w.heap.size (w.heap.size + 1) (w.heap.size + 2) w (((w.alloc (.cells #[.int .i64 A, .int .i64 B] 23)).alloc (.cells #[.int .i64 n0, .int .i64 n1, .int .i64 n2, .int .i64 n3, .int .i64 d] 25)).alloc (.cells #[.int .i64 0, .int .i64 0, .int .i64 0, .int .i64 0, .int .i64 0] 25)) := ⟨by simp [go_sem], by simp [go_sem], by simp [go_sem], by (repeat (first | (with_reducible exact Below.refl _ _) | (with_reducible exact HB.out) | (with_reducible refine below_draws ?_ _) | (with_reducible refine Below.alloc ?_ (by go_size) _) | (with_reducible refine Below.setCell ?_ (by go_size) _) | (with_reducible refine Below.alloc ?_ (by simp <;> omega) _) | (with_reducible refine Below.setCell ?_ (by simp <;> omega) _)))⟩
  go_region_held3 (fun w' => (w'.cell? ⟨w.heap.size, 0, none⟩ = some (.int .i64 A) ∧ w'.cell? ⟨w.heap.size, 1, none⟩ = some (.int .i64 B) ∧ w'.cell? ⟨(w.heap.size + 1), 0, none⟩ = some (.int .i64 n0) ∧ w'.cell? ⟨(w.heap.size + 1), 1, none⟩ = some (.int .i64 n1) ∧ w'.cell? ⟨(w.heap.size + 1), 2, none⟩ = some (.int .i64 n2) ∧ w'.cell? ⟨(w.heap.size + 1), 3, none⟩ = some (.int .i64 n3) ∧ w'.cell? ⟨(w.heap.size + 1), 4, none⟩ = some (.int .i64 d) ∧ w'.cell? ⟨(w.heap.size + 2), 0, none⟩ = some (cv w' ((w.heap.size + 2)) 0) ∧ w'.frozen? ⟨(w.heap.size + 2), 0, none⟩ = false ∧ w'.cell? ⟨(w.heap.size + 2), 1, none⟩ = some (cv w' ((w.heap.size + 2)) 1) ∧ w'.frozen? ⟨(w.heap.size + 2), 1, none⟩ = false ∧ w'.cell? ⟨(w.heap.size + 2), 2, none⟩ = some (cv w' ((w.heap.size + 2)) 2) ∧ w'.frozen? ⟨(w.heap.size + 2), 2, none⟩ = false ∧ w'.cell? ⟨(w.heap.size + 2), 3, none⟩ = some (cv w' ((w.heap.size + 2)) 3) ∧ w'.frozen? ⟨(w.heap.size + 2), 3, none⟩ = false ∧ w'.cell? ⟨(w.heap.size + 2), 4, none⟩ = some (cv w' ((w.heap.size + 2)) 4) ∧ w'.frozen? ⟨(w.heap.size + 2), 4, none⟩ = false) ∧ K_V A B n0 n1 n2 n3 d w.heap.size (w.heap.size + 1) (w.heap.size + 2) w w') ((refine K_V.ks ?_; repeat (first | (with_reducible assumption) | (with_reducible refine K_V.draws _ ?_) | (with_reducible refine K_V.drew ?_) | (with_reducible refine K_V.alloc _ ?_) | (with_reducible refine K_V.set ?_ _ _ _ (by omega)))))
    (first
      | (go_at_call 15; (with_reducible refine (Check_any _ _ _).mono ?_); rintro e w' ⟨rfl, hbel⟩; have hk' := K_V.below hbel (And.right (by assumption)); clear hbel)
      | (go_at_call 17; (with_reducible refine (CheckQuat_any _ _ _ _ _ _).mono ?_); rintro e w' ⟨rfl, hbel⟩; have hk' := K_V.below hbel (And.right (by assumption)); clear hbel)
      | (go_at_call 64; (with_reducible refine (Or_new _ _ _ _ _ ?_).mono ?_); rfl; rintro e w'' ⟨rfl, rfl⟩))
  all_goals
    (rename_i hh_; clear hh_; obtain ⟨c0_, c1_, c2_, c3_, c4_, c5_, c6_, d0_, f0_, d1_, f1_, d2_, f2_, d3_, f3_, d4_, f4_⟩ := K_V.cells hk'; have HB := Lib.hid (K_V.bel hk'))
    have z1 : w.heap.size + 2 < w'.heap.size := World.block_lt_of_cell? w' ⟨w.heap.size + 2, 0, none⟩ d0_
    have y0 : w.heap.size < w'.heap.size := by omega
    have y1 : w.heap.size + 1 < w'.heap.size := by omega
    go_wp2_with fail
    refine (IV.out _).mono ?_
    rintro e w2 ⟨rfl, hb⟩
    have hK := K_V.below hb (K_V.alloc _ hk')
    clear hb c0_ c1_ c2_ c3_ c4_ c5_ c6_ d0_ f0_ d1_ f1_ d2_ f2_ d3_ f3_ d4_ f4_ HB
    obtain ⟨c0_, c1_, c2_, c3_, c4_, c5_, c6_, d0_, f0_, d1_, f1_, d2_, f2_, d3_, f3_, d4_, f4_⟩ := K_V.cells hK
    have HB := Lib.hid (K_V.bel hK)
    clear hK
    go_wp2
    exact bodyPost_ret (v := .tuple #[.agg #[.int .i64 (s).w, .int .i64 (s).x, .int .i64 (s).y, .int .i64 (s).z, .int .i64 (s).d], .int .i64 t]) (by simp [results, Tryd.results40, go_sem, c0_, c1_, c2_, c3_, c4_, c5_, c6_, d0_, f0_, d1_, f1_, d2_, f2_, d3_, f3_, d4_, f4_]) rfl ⟨rfl, by (repeat (first | (with_reducible exact Below.refl _ _) | (with_reducible exact HB.out) | (with_reducible refine below_draws ?_ _) | (with_reducible refine Below.alloc ?_ (by go_size) _) | (with_reducible refine Below.setCell ?_ (by go_size) _) | (with_reducible refine Below.alloc ?_ (by simp <;> omega) _) | (with_reducible refine Below.setCell ?_ (by simp <;> omega) _)))⟩
set_option maxHeartbeats 3200000 in
theorem Inverse_err (A B n0 n1 n2 n3 d : Int) (w : World) (h : or2 (chkA A B) (chkQ n0 n1 n2 n3 d) ≠ 0) :
    Calls Tryd.prog 40 #[.agg #[.int .i64 A, .int .i64 B], .agg #[.int .i64 n0, .int .i64 n1, .int .i64 n2, .int .i64 n3, .int .i64 d]] w fun e w' => e = .returned (.tuple #[.agg #[.int .i64 0, .int .i64 0, .int .i64 0, .int .i64 0, .int .i64 0], .int .i64 (or2 (chkA A B) (chkQ n0 n1 n2 n3 d))]) ∧ Below w.heap.size w w' := by
  have ok : (or2 (chkA A B) (chkQ n0 n1 n2 n3 d) != 0) = true := by rw [bne_iff_ne]; exact h
  clear h
  go_enter Tryd.func40, Tryd.ntmps40
  go_wp2_with fail
  have hk : K_V A B n0 n1 n2 n3 d w.heap.size (w.heap.size + 1) (w.heap.size + 2) w (((w.alloc (.cells #[.int .i64 A, .int .i64 B] 23)).alloc (.cells #[.int .i64 n0, .int .i64 n1, .int .i64 n2, .int .i64 n3, .int .i64 d] 25)).alloc (.cells #[.int .i64 0, .int .i64 0, .int .i64 0, .int .i64 0, .int .i64 0] 25)) := ⟨by simp [go_sem], by simp [go_sem], by simp [go_sem], by (repeat (first | (with_reducible exact Below.refl _ _) | (with_reducible exact HB.out) | (with_reducible refine below_draws ?_ _) | (with_reducible refine Below.alloc ?_ (by go_size) _) | (with_reducible refine Below.setCell ?_ (by go_size) _) | (with_reducible refine Below.alloc ?_ (by simp <;> omega) _) | (with_reducible refine Below.setCell ?_ (by simp <;> omega) _)))⟩
  go_region_held3 (fun w' => (w'.cell? ⟨w.heap.size, 0, none⟩ = some (.int .i64 A) ∧ w'.cell? ⟨w.heap.size, 1, none⟩ = some (.int .i64 B) ∧ w'.cell? ⟨(w.heap.size + 1), 0, none⟩ = some (.int .i64 n0) ∧ w'.cell? ⟨(w.heap.size + 1), 1, none⟩ = some (.int .i64 n1) ∧ w'.cell? ⟨(w.heap.size + 1), 2, none⟩ = some (.int .i64 n2) ∧ w'.cell? ⟨(w.heap.size + 1), 3, none⟩ = some (.int .i64 n3) ∧ w'.cell? ⟨(w.heap.size + 1), 4, none⟩ = some (.int .i64 d) ∧ w'.cell? ⟨(w.heap.size + 2), 0, none⟩ = some (cv w' ((w.heap.size + 2)) 0) ∧ w'.frozen? ⟨(w.heap.size + 2), 0, none⟩ = false ∧ w'.cell? ⟨(w.heap.size + 2), 1, none⟩ = some (cv w' ((w.heap.size + 2)) 1) ∧ w'.frozen? ⟨(w.heap.size + 2), 1, none⟩ = false ∧ w'.cell? ⟨(w.heap.size + 2), 2, none⟩ = some (cv w' ((w.heap.size + 2)) 2) ∧ w'.frozen? ⟨(w.heap.size + 2), 2, none⟩ = false ∧ w'.cell? ⟨(w.heap.size + 2), 3, none⟩ = some (cv w' ((w.heap.size + 2)) 3) ∧ w'.frozen? ⟨(w.heap.size + 2), 3, none⟩ = false ∧ w'.cell? ⟨(w.heap.size + 2), 4, none⟩ = some (cv w' ((w.heap.size + 2)) 4) ∧ w'.frozen? ⟨(w.heap.size + 2), 4, none⟩ = false) ∧ K_V A B n0 n1 n2 n3 d w.heap.size (w.heap.size + 1) (w.heap.size + 2) w w') ((refine K_V.ks ?_; repeat (first | (with_reducible assumption) | (with_reducible refine K_V.draws _ ?_) | (with_reducible refine K_V.drew ?_) | (with_reducible refine K_V.alloc _ ?_) | (with_reducible refine K_V.set ?_ _ _ _ (by omega)))))
    (first
      | (go_at_call 15; (with_reducible refine (Check_any _ _ _).mono ?_); rintro e w' ⟨rfl, hbel⟩; have hk' := K_V.below hbel (And.right (by assumption)); clear hbel)
      | (go_at_call 17; (with_reducible refine (CheckQuat_any _ _ _ _ _ _).mono ?_); rintro e w' ⟨rfl, hbel⟩; have hk' := K_V.below hbel (And.right (by assumption)); clear hbel)
      | (go_at_call 64; (with_reducible refine (Or_new _ _ _ _ _ ?_).mono ?_); rfl; rintro e w'' ⟨rfl, rfl⟩))
  all_goals
    (rename_i hh_; clear hh_; obtain ⟨c0_, c1_, c2_, c3_, c4_, c5_, c6_, d0_, f0_, d1_, f1_, d2_, f2_, d3_, f3_, d4_, f4_⟩ := K_V.cells hk'; have HB := Lib.hid (K_V.bel hk'))
    have z1 : w.heap.size + 2 < w'.heap.size := World.block_lt_of_cell? w' ⟨w.heap.size + 2, 0, none⟩ d0_
    have y0 : w.heap.size < w'.heap.size := by omega
    have y1 : w.heap.size + 1 < w'.heap.size := by omega
    go_wp2
    exact bodyPost_ret (v := .tuple #[.agg #[.int .i64 0, .int .i64 0, .int .i64 0, .int .i64 0, .int .i64 0], .int .i64 (or2 (chkA A B) (chkQ n0 n1 n2 n3 d))]) (by simp [results, Tryd.results40, go_sem, c0_, c1_, c2_, c3_, c4_, c5_, c6_, d0_, f0_, d1_, f1_, d2_, f2_, d3_, f3_, d4_, f4_, z1]) rfl ⟨rfl, by (repeat (first | (with_reducible exact Below.refl _ _) | (with_reducible exact HB.out) | (with_reducible refine below_draws ?_ _) | (with_reducible refine Below.alloc ?_ (by go_size) _) | (with_reducible refine Below.setCell ?_ (by go_size) _) | (with_reducible refine Below.alloc ?_ (by simp <;> omega) _) | (with_reducible refine Below.setCell ?_ (by simp <;> omega) _)))⟩
set_option maxHeartbeats 3200000 in
theorem Power_err (A B n0 n1 n2 n3 d n : Int) (w : World) (h : or2 (chkA A B) (chkQ n0 n1 n2 n3 d) ≠ 0) :
    Calls Tryd.prog 41 #[.agg #[.int .i64 A, .int .i64 B], .agg #[.int .i64 n0, .int .i64 n1, .int .i64 n2, .int .i64 n3, .int .i64 d], .int .i64 n] w fun e w' => e = .returned (.tuple #[.agg #[.int .i64 0, .int .i64 0, .int .i64 0, .int .i64 0, .int .i64 0], .int .i64 (or2 (chkA A B) (chkQ n0 n1 n2 n3 d))]) ∧ Below w.heap.size w w' := by
  have ok : (or2 (chkA A B) (chkQ n0 n1 n2 n3 d) != 0) = true := by rw [bne_iff_ne]; exact h
  clear h
  go_enter Tryd.func41, Tryd.ntmps41
  go_wp2_with fail
  have hk : K_V A B n0 n1 n2 n3 d w.heap.size (w.heap.size + 1) (w.heap.size + 2) w (((w.alloc (.cells #[.int .i64 A, .int .i64 B] 23)).alloc (.cells #[.int .i64 n0, .int .i64 n1, .int .i64 n2, .int .i64 n3, .int .i64 d] 25)).alloc (.cells #[.int .i64 0, .int .i64 0, .int .i64 0, .int .i64 0, .int .i64 0] 25)) := ⟨by simp [go_sem], by simp [go_sem], by simp [go_sem], by (repeat (first | (with_reducible exact Below.refl _ _) | (with_reducible exact HB.out) | (with_reducible refine below_draws ?_ _) | (with_reducible refine Below.alloc ?_ (by go_size) _) | (with_reducible refine Below.setCell ?_ (by go_size) _) | (with_reducible refine Below.alloc ?_ (by simp <;> omega) _) | (with_reducible refine Below.setCell ?_ (by simp <;> omega) _)))⟩
  go_region_held3 (fun w' => (w'.cell? ⟨w.heap.size, 0, none⟩ = some (.int .i64 A) ∧ w'.cell? ⟨w.heap.size, 1, none⟩ = some (.int .i64 B) ∧ w'.cell? ⟨(w.heap.size + 1), 0, none⟩ = some (.int .i64 n0) ∧ w'.cell? ⟨(w.heap.size + 1), 1, none⟩ = some (.int .i64 n1) ∧ w'.cell? ⟨(w.heap.size + 1), 2, none⟩ = some (.int .i64 n2) ∧ w'.cell? ⟨(w.heap.size + 1), 3, none⟩ = some (.int .i64 n3) ∧ w'.cell? ⟨(w.heap.size + 1), 4, none⟩ = some (.int .i64 d) ∧ w'.cell? ⟨(w.heap.size + 2), 0, none⟩ = some (cv w' ((w.heap.size + 2)) 0) ∧ w'.frozen? ⟨(w.heap.size + 2), 0, none⟩ = false ∧ w'.cell? ⟨(w.heap.size + 2), 1, none⟩ = some (cv w' ((w.heap.size + 2)) 1) ∧ w'.frozen? ⟨(w.heap.size + 2), 1, none⟩ = false ∧ w'.cell? ⟨(w.heap.size + 2), 2, none⟩ = some (cv w' ((w.heap.size + 2)) 2) ∧ w'.frozen? ⟨(w.heap.size + 2), 2, none⟩ = false ∧ w'.cell? ⟨(w.heap.size + 2), 3, none⟩ = some (cv w' ((w.heap.size + 2)) 3) ∧ w'.frozen? ⟨(w.heap.size + 2), 3, none⟩ = false ∧ w'.cell? ⟨(w.heap.size + 2), 4, none⟩ = some (cv w' ((w.heap.size + 2)) 4) ∧ w'.frozen? ⟨(w.heap.size + 2), 4, none⟩ = false) ∧ K_V A B n0 n1 n2 n3 d w.heap.size (w.heap.size + 1) (w.heap.size + 2) w w') ((refine K_V.ks ?_; repeat (first | (with_reducible assumption) | (with_reducible refine K_V.draws _ ?_) | (with_reducible refine K_V.drew ?_) | (with_reducible refine K_V.alloc _ ?_) | (with_reducible refine K_V.set ?_ _ _ _ (by omega)))))
    (first
      | (go_at_call 15; (with_reducible refine (Check_any _ _ _).mono ?_); rintro e w' ⟨rfl, hbel⟩; have hk' := K_V.below hbel (And.right (by assumption)); clear hbel)
      | (go_at_call 17; (with_reducible refine (CheckQuat_any _ _ _ _ _ _).mono ?_); rintro e w' ⟨rfl, hbel⟩; have hk' := K_V.below hbel (And.right (by assumption)); clear hbel)
      | (go_at_call 64; (with_reducible refine (Or_new _ _ _ _ _ ?_).mono ?_); rfl; rintro e w'' ⟨rfl, rfl⟩))
  all_goals
    (rename_i hh_; clear hh_; obtain ⟨c0_, c1_, c2_, c3_, c4_, c5_, c6_, d0_, f0_, d1_, f1_, d2_, f2_, d3_, f3_, d4_, f4_⟩ := K_V.cells hk'; have HB := Lib.hid (K_V.bel hk'))
    have z1 : w.heap.size + 2 < w'.heap.size := World.block_lt_of_cell? w' ⟨w.heap.size + 2, 0, none⟩ d0_
    have y0 : w.heap.size < w'.heap.size := by omega
    have y1 : w.heap.size + 1 < w'.heap.size := by omega
    go_wp2
    exact bodyPost_ret (v := .tuple #[.agg #[.int .i64 0, .int .i64 0, .int .i64 0, .int .i64 0, .int .i64 0], .int .i64 (or2 (chkA A B) (chkQ n0 n1 n2 n3 d))]) (by simp [results, Tryd.results41, go_sem, c0_, c1_, c2_, c3_, c4_, c5_, c6_, d0_, f0_, d1_, f1_, d2_, f2_, d3_, f3_, d4_, f4_, z1]) rfl ⟨rfl, by (repeat (first | (with_reducible exact Below.refl _ _) | (with_reducible exact HB.out) | (with_reducible refine below_draws ?_ _) | (with_reducible refine Below.alloc ?_ (by go_size) _) | (with_reducible refine Below.setCell ?_ (by go_size) _) | (with_reducible refine Below.alloc ?_ (by simp <;> omega) _) | (with_reducible refine Below.setCell ?_ (by simp <;> omega) _)))⟩
set_option maxHeartbeats 3200000 in
theorem Power_range (A B n0 n1 n2 n3 d n : Int) (w : World) (hA : chkA A B = 0) (hq : chkQ n0 n1 n2 n3 d = 0) (hn : withinB n (-60) 60 = false) :
    Calls Tryd.prog 41 #[.agg #[.int .i64 A, .int .i64 B], .agg #[.int .i64 n0, .int .i64 n1, .int .i64 n2, .int .i64 n3, .int .i64 d], .int .i64 n] w fun e w' => e = .returned (.tuple #[.agg #[.int .i64 0, .int .i64 0, .int .i64 0, .int .i64 0, .int .i64 0], .int .i64 2]) ∧ Below w.heap.size w w' := by
  have OK := Lib.hid (or2_ok hA hq)
  clear hA hq
  go_enter Tryd.func41, Tryd.ntmps41
  go_wp2_with fail
  have hk : K_V A B n0 n1 n2 n3 d w.heap.size (w.heap.size + 1) (w.heap.size + 2) w (((w.alloc (.cells #[.int .i64 A, .int .i64 B] 23)).alloc (.cells #[.int .i64 n0, .int .i64 n1, .int .i64 n2, .int .i64 n3, .int .i64 d] 25)).alloc (.cells #[.int .i64 0, .int .i64 0, .int .i64 0, .int .i64 0, .int .i64 0] 25)) := ⟨by simp [go_sem], by simp [go_sem], by simp [go_sem], by (repeat (first | (with_reducible exact Below.refl _ _) | (with_reducible exact HB.out) | (with_reducible refine below_draws ?_ _) | (with_reducible refine Below.alloc ?_ (by go_size) _) | (with_reducible refine Below.setCell ?_ (by go_size) _) | (with_reducible refine Below.alloc ?_ (by simp <;> omega) _) | (with_reducible refine Below.setCell ?_ (by simp <;> omega) _)))⟩
  go_region_held3 (fun w' => (w'.cell? ⟨w.heap.size, 0, none⟩ = some (.int .i64 A) ∧ w'.cell? ⟨w.heap.size, 1, none⟩ = some (.int .i64 B) ∧ w'.cell? ⟨(w.heap.size + 1), 0, none⟩ = some (.int .i64 n0) ∧ w'.cell? ⟨(w.heap.size + 1), 1, none⟩ = some (.int .i64 n1) ∧ w'.cell? ⟨(w.heap.size + 1), 2, none⟩ = some (.int .i64 n2) ∧ w'.cell? ⟨(w.heap.size + 1), 3, none⟩ = some (.int .i64 n3) ∧ w'.cell? ⟨(w.heap.size + 1), 4, none⟩ = some (.int .i64 d) ∧ w'.cell? ⟨(w.heap.size + 2), 0, none⟩ = some (cv w' ((w.heap.size + 2)) 0) ∧ w'.frozen? ⟨(w.heap.size + 2), 0, none⟩ = false ∧ w'.cell? ⟨(w.heap.size + 2), 1, none⟩ = some (cv w' ((w.heap.size + 2)) 1) ∧ w'.frozen? ⟨(w.heap.size + 2), 1, none⟩ = false ∧ w'.cell? ⟨(w.heap.size + 2), 2, none⟩ = some (cv w' ((w.heap.size + 2)) 2) ∧ w'.frozen? ⟨(w.heap.size + 2), 2, none⟩ = false ∧ w'.cell? ⟨(w.heap.size + 2), 3, none⟩ = some (cv w' ((w.heap.size + 2)) 3) ∧ w'.frozen? ⟨(w.heap.size + 2), 3, none⟩ = false ∧ w'.cell? ⟨(w.heap.size + 2), 4, none⟩ = some (cv w' ((w.heap.size + 2)) 4) ∧ w'.frozen? ⟨(w.heap.size + 2), 4, none⟩ = false) ∧ K_V A B n0 n1 n2 n3 d w.heap.size (w.heap.size + 1) (w.heap.size + 2) w w') ((refine K_V.ks ?_; repeat (first | (with_reducible assumption) | (with_reducible refine K_V.draws _ ?_) | (with_reducible refine K_V.drew ?_) | (with_reducible refine K_V.alloc _ ?_) | (with_reducible refine K_V.set ?_ _ _ _ (by omega)))))
    (first
      | (go_at_call 15; (with_reducible refine (Check_any _ _ _).mono ?_); rintro e w' ⟨rfl, hbel⟩; have hk' := K_V.below hbel (And.right (by assumption)); clear hbel)
      | (go_at_call 17; (with_reducible refine (CheckQuat_any _ _ _ _ _ _).mono ?_); rintro e w' ⟨rfl, hbel⟩; have hk' := K_V.below hbel (And.right (by assumption)); clear hbel)
      | (go_at_call 64; (with_reducible refine (Or_new _ _ _ _ _ ?_).mono ?_); rfl; rintro e w'' ⟨rfl, rfl⟩))
  all_goals
    (rename_i hh_; clear hh_; obtain ⟨c0_, c1_, c2_, c3_, c4_, c5_, c6_, d0_, f0_, d1_, f1_, d2_, f2_, d3_, f3_, d4_, f4_⟩ := K_V.cells hk'; have HB := Lib.hid (K_V.bel hk'))
    have z1 : w.heap.size + 2 < w'.heap.size := World.block_lt_of_cell? w' ⟨w.heap.size + 2, 0, none⟩ d0_
    have y0 : w.heap.size < w'.heap.size := by omega
    have y1 : w.heap.size + 1 < w'.heap.size := by omega
    rw [OK.out]
    go_wp2_with (go_at_call 57; refine (isWithin_any _ _ _ (by decide) (by decide)).mono ?_; rintro e w'' ⟨rfl, rfl⟩)
    exact bodyPost_ret (v := .tuple #[.agg #[.int .i64 0, .int .i64 0, .int .i64 0, .int .i64 0, .int .i64 0], .int .i64 2]) (by simp [results, Tryd.results41, go_sem, c0_, c1_, c2_, c3_, c4_, c5_, c6_, d0_, f0_, d1_, f1_, d2_, f2_, d3_, f3_, d4_, f4_, z1]) rfl ⟨rfl, by (repeat (first | (with_reducible exact Below.refl _ _) | (with_reducible exact HB.out) | (with_reducible refine below_draws ?_ _) | (with_reducible refine Below.alloc ?_ (by go_size) _) | (with_reducible refine Below.setCell ?_ (by go_size) _) | (with_reducible refine Below.alloc ?_ (by simp <;> omega) _) | (with_reducible refine Below.setCell ?_ (by simp <;> omega) _)))⟩
end Go.Proofs.YtjloanplhbbomaaDoor.Al
