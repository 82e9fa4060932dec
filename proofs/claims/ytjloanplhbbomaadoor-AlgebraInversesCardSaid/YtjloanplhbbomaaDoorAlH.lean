/-
  WALKS: the reference's powers.
-/
import Derived.Test.YtjloanplhbbomaaDoorAlG
namespace Go.Proofs.YtjloanplhbbomaaDoor.Al
open Go.RowKit
open Alm
set_option linter.unusedVariables false
set_option linter.unusedSimpArgs false
set_option maxRecDepth 100000
theorem rmul_yes {A B n0 n1 n2 n3 d m0 m1 m2 m3 f : Int} {w : World} (hA : chkA A B = 0) (h : chkQ n0 n1 n2 n3 d = 0) (h' : chkQ m0 m1 m2 m3 f = 0) (s : Q) (hs : (mulq A B ⟨n0, n1, n2, n3, d⟩ ⟨m0, m1, m2, m3, f⟩).low = s) (hq : qB s = true) :
    Calls Tryd.prog 30 #[.agg #[.int .i64 A, .int .i64 B], .agg #[.int .i64 n0, .int .i64 n1, .int .i64 n2, .int .i64 n3, .int .i64 d], .agg #[.int .i64 m0, .int .i64 m1, .int .i64 m2, .int .i64 m3, .int .i64 f]] w fun e w' => e = .returned (.tuple #[.agg #[.int .i64 (s).w, .int .i64 (s).x, .int .i64 (s).y, .int .i64 (s).z, .int .i64 (s).d], .int .i64 0]) ∧ Below w.heap.size w w' := by
  subst hs
  have := rMul_any A B n0 n1 n2 n3 d m0 m1 m2 m3 f w (by unfold err3; exact or2_ok hA (or2_ok h h'))
  rw [show fitQ (mulq A B ⟨n0, n1, n2, n3, d⟩ ⟨m0, m1, m2, m3, f⟩) = (mulq A B ⟨n0, n1, n2, n3, d⟩ ⟨m0, m1, m2, m3, f⟩).low from by unfold fitQ; rw [if_pos hq], show fitE (mulq A B ⟨n0, n1, n2, n3, d⟩ ⟨m0, m1, m2, m3, f⟩) = 0 from by unfold fitE; rw [if_pos hq]] at this
  exact this
theorem rmul_no {A B n0 n1 n2 n3 d m0 m1 m2 m3 f : Int} {w : World} (hA : chkA A B = 0) (h : chkQ n0 n1 n2 n3 d = 0) (h' : chkQ m0 m1 m2 m3 f = 0) (hq : qB (mulq A B ⟨n0, n1, n2, n3, d⟩ ⟨m0, m1, m2, m3, f⟩).low = false) :
    Calls Tryd.prog 30 #[.agg #[.int .i64 A, .int .i64 B], .agg #[.int .i64 n0, .int .i64 n1, .int .i64 n2, .int .i64 n3, .int .i64 d], .agg #[.int .i64 m0, .int .i64 m1, .int .i64 m2, .int .i64 m3, .int .i64 f]] w fun e w' => e = .returned (.tuple #[.agg #[.int .i64 0, .int .i64 0, .int .i64 0, .int .i64 0, .int .i64 0], .int .i64 8]) ∧ Below w.heap.size w w' := by
  have := rMul_any A B n0 n1 n2 n3 d m0 m1 m2 m3 f w (by unfold err3; exact or2_ok hA (or2_ok h h'))
  rw [show fitQ (mulq A B ⟨n0, n1, n2, n3, d⟩ ⟨m0, m1, m2, m3, f⟩) = ⟨0, 0, 0, 0, 0⟩ from by unfold fitQ; rw [if_neg (by rw [hq]; exact Bool.false_ne_true)], show fitE (mulq A B ⟨n0, n1, n2, n3, d⟩ ⟨m0, m1, m2, m3, f⟩) = 8 from by unfold fitE; rw [if_neg (by rw [hq]; exact Bool.false_ne_true)]] at this
  exact this
set_option maxHeartbeats 6400000 in
theorem rPower_nat (A B n0 n1 n2 n3 d : Int) (n : Nat) (w : World) (hn : n ≤ 60) (hA : chkA A B = 0) (hq : chkQ n0 n1 n2 n3 d = 0) :
    Calls Tryd.prog 44 #[.agg #[.int .i64 A, .int .i64 B], .agg #[.int .i64 n0, .int .i64 n1, .int .i64 n2, .int .i64 n3, .int .i64 d], .int .i64 n] w fun e w' => PwEnd A B n0 n1 n2 n3 d n w e w' := by
  have HA := Lib.hid hA
  have HQ := Lib.hid hq
  clear hA hq
  have hn0 : decide ((n : Int) < 0) = false := decide_eq_false (by omega)
  go_enter Tryd.func44, Tryd.ntmps44
  go_wp2_with fail
  refine (rOne_any _).mono ?_
  rintro e w1 ⟨rfl, hb⟩
  have hK : K_V A B n0 n1 n2 n3 d w.heap.size (w.heap.size + 1) (w.heap.size + 2) w w1 := K_V.below hb ⟨by simp [go_sem], by simp [go_sem], by simp [go_sem], by (repeat (first | (with_reducible exact Below.refl _ _) | (with_reducible exact HB.out) | (with_reducible refine below_draws ?_ _) | (with_reducible refine Below.alloc ?_ (by go_size) _) | (with_reducible refine Below.setCell ?_ (by go_size) _) | (with_reducible refine Below.alloc ?_ (by simp <;> omega) _) | (with_reducible refine Below.setCell ?_ (by simp <;> omega) _)))⟩
  clear hb
  obtain ⟨c0_, c1_, c2_, c3_, c4_, c5_, c6_, d0_, f0_, d1_, f1_, d2_, f2_, d3_, f3_, d4_, f4_⟩ := K_V.cells hK
  have HV := Lib.hid (K_V.bel hK)
  have z3 : w.heap.size + 2 < w1.heap.size := World.block_lt_of_cell? w1 ⟨w.heap.size + 2, 0, none⟩ d0_
  have y0 : w.heap.size < w1.heap.size := by omega
  have y1 : w.heap.size + 1 < w1.heap.size := by omega
  go_wp2_with fail
  go_loopw [11] (fun t11 wr => ∃ (k : Nat) (r : Q), (k ≤ n ∧ pwr A B ⟨n0, n1, n2, n3, d⟩ k = some r ∧ K_W A B n0 n1 n2 n3 d r.w r.x r.y r.z r.d w.heap.size (w.heap.size + 1) (w1.heap.size) (w.heap.size + 2) w wr) ∧ t11 = .int .i64 k) (fun t11 _ => n - (intOf t11).toNat)
  case atStart =>
    have y2 : w.heap.size < w1.heap.size := by omega
    have y3 : w.heap.size + 1 < w1.heap.size := by omega
    have y4 : w.heap.size + 2 < w1.heap.size := by omega
    exact ⟨0, ⟨1, 0, 0, 0, 1⟩, ⟨Nat.zero_le _, rfl, ⟨by simp [go_sem, c0_, c1_, c2_, c3_, c4_, c5_, c6_, d0_, f0_, d1_, f1_, d2_, f2_, d3_, f3_, d4_, f4_, z3, y0, y1, y2, y3, y4], by simp [go_sem, c0_, c1_, c2_, c3_, c4_, c5_, c6_, d0_, f0_, d1_, f1_, d2_, f2_, d3_, f3_, d4_, f4_, z3, y0, y1, y2, y3, y4], by simp [go_sem, c0_, c1_, c2_, c3_, c4_, c5_, c6_, d0_, f0_, d1_, f1_, d2_, f2_, d3_, f3_, d4_, f4_, z3, y0, y1, y2, y3, y4], by have HB := HV; (repeat (first | (with_reducible exact Below.refl _ _) | (with_reducible exact HB.out) | (with_reducible refine below_draws ?_ _) | (with_reducible refine Below.alloc ?_ (by go_size) _) | (with_reducible refine Below.setCell ?_ (by go_size) _) | (with_reducible refine Below.alloc ?_ (by simp <;> omega) _) | (with_reducible refine Below.setCell ?_ (by simp <;> omega) _)))⟩⟩, rfl⟩
  case round =>
    obtain ⟨k, r, ⟨hkn, hr, hK⟩, rfl⟩ := hrel
    clear c0_ c1_ c2_ c3_ c4_ c5_ c6_ d0_ f0_ d1_ f1_ d2_ f2_ d3_ f3_ d4_ f4_
    obtain ⟨wo, rfl⟩ : ∃ wo : World, wo = wr := ⟨_, rfl⟩
    obtain ⟨c0_, c1_, c2_, c3_, c4_, c5_, c6_, c7_, c8_, c9_, c10_, c11_, f0_, f1_, f2_, f3_, f4_, d5_, f5_, d6_, f6_, d7_, f7_, d8_, f8_, d9_, f9_⟩ := K_W.cells hK
    have HK := Lib.hid hK
    have HR := Lib.hid hr
    clear hK hr
    by_cases hlt : k < n
    · have hqr : chkQ r.w r.x r.y r.z r.d = 0 := by unfold chkQ; rw [if_pos (pwr_qB HR.out)]
      rcases hqb : qB (mulq A B r ⟨n0, n1, n2, n3, d⟩).low with _ | _
      · have MU := Lib.hid (fun W => rmul_no (A := A) (B := B) (w := W) HA.out hqr HQ.out hqb)
        have HS := Lib.hid (pwr_stop HR.out hqb n hlt)
        clear hqr hqb
        go_wp2_with fail
        refine (MU.out _).mono ?_
        rintro e w2 ⟨rfl, hb⟩
        have hK := K_W.below hb HK.out
        clear hb c0_ c1_ c2_ c3_ c4_ c5_ c6_ c7_ c8_ c9_ c10_ c11_ f0_ f1_ f2_ f3_ f4_ d5_ f5_ d6_ f6_ d7_ f7_ d8_ f8_ d9_ f9_
        obtain ⟨c0_, c1_, c2_, c3_, c4_, c5_, c6_, c7_, c8_, c9_, c10_, c11_, f0_, f1_, f2_, f3_, f4_, d5_, f5_, d6_, f6_, d7_, f7_, d8_, f8_, d9_, f9_⟩ := K_W.cells hK
        have HB := Lib.hid (K_W.bel hK)
        have z2 : w1.heap.size < w2.heap.size := World.block_lt_of_cell? w2 ⟨w1.heap.size, 0, none⟩ c7_
        have z3 : w.heap.size + 2 < w2.heap.size := World.block_lt_of_cell? w2 ⟨w.heap.size + 2, 0, none⟩ d5_
        have z4 : w.heap.size + 1 < w2.heap.size := by omega
        have z5 : w.heap.size < w2.heap.size := by omega
        clear hK
        go_wp2
        exact bodyPost_ret (v := .tuple #[.agg #[.int .i64 0, .int .i64 0, .int .i64 0, .int .i64 0, .int .i64 0], .int .i64 8]) (by simp [results, Tryd.results44, go_sem, c0_, c1_, c2_, c3_, c4_, c5_, c6_, c7_, c8_, c9_, c10_, c11_, f0_, f1_, f2_, f3_, f4_, d5_, f5_, d6_, f6_, d7_, f7_, d8_, f8_, d9_, f9_, z2, z3, z4, z5]) rfl ⟨by unfold pwrQ pwrE; rw [HS.out]; rfl, by (repeat (first | (with_reducible exact Below.refl _ _) | (with_reducible exact HB.out) | (with_reducible refine below_draws ?_ _) | (with_reducible refine Below.alloc ?_ (by go_size) _) | (with_reducible refine Below.setCell ?_ (by go_size) _) | (with_reducible refine Below.alloc ?_ (by simp <;> omega) _) | (with_reducible refine Below.setCell ?_ (by simp <;> omega) _)))⟩
      · obtain ⟨s, hs⟩ : ∃ s, (mulq A B r ⟨n0, n1, n2, n3, d⟩).low = s := ⟨_, rfl⟩
        have HN := Lib.hid (pwr_next HR.out hqb)
        have MU := Lib.hid (fun W => rmul_yes (A := A) (B := B) (w := W) HA.out hqr HQ.out s hs (hs ▸ hqb))
        have HS := Lib.hid hs
        clear hqr hqb hs
        go_wp2_with fail
        refine (MU.out _).mono ?_
        rintro e w2 ⟨rfl, hb⟩
        have hK := K_W.below hb HK.out
        clear hb c0_ c1_ c2_ c3_ c4_ c5_ c6_ c7_ c8_ c9_ c10_ c11_ f0_ f1_ f2_ f3_ f4_ d5_ f5_ d6_ f6_ d7_ f7_ d8_ f8_ d9_ f9_
        obtain ⟨c0_, c1_, c2_, c3_, c4_, c5_, c6_, c7_, c8_, c9_, c10_, c11_, f0_, f1_, f2_, f3_, f4_, d5_, f5_, d6_, f6_, d7_, f7_, d8_, f8_, d9_, f9_⟩ := K_W.cells hK
        have HB := Lib.hid (K_W.bel hK)
        have z2 : w1.heap.size < w2.heap.size := World.block_lt_of_cell? w2 ⟨w1.heap.size, 0, none⟩ c7_
        have z3 : w.heap.size + 2 < w2.heap.size := World.block_lt_of_cell? w2 ⟨w.heap.size + 2, 0, none⟩ d5_
        have z4 : w.heap.size + 1 < w2.heap.size := by omega
        have z5 : w.heap.size < w2.heap.size := by omega
        clear hK
        go_wp2
        have q1 : w1.heap.size ≠ w.heap.size := by omega
        have q2 : w1.heap.size ≠ w.heap.size := by omega
        have q3 : w1.heap.size ≠ w.heap.size + 1 := by omega
        have q4 : w.heap.size ≠ w1.heap.size := by omega
        have q5 : w.heap.size ≠ w1.heap.size := by omega
        have q6 : w.heap.size + 1 ≠ w1.heap.size := by omega
        go_roundw
        case rel => exact ⟨k + 1, s, ⟨by omega, by rw [HN.out, HS.out], ⟨by simp [go_sem, c0_, c1_, c2_, c3_, c4_, c5_, c6_, c7_, c8_, c9_, c10_, c11_, f0_, f1_, f2_, f3_, f4_, d5_, f5_, d6_, f6_, d7_, f7_, d8_, f8_, d9_, f9_, z2, z3, z4, z5, q1, q2, q3, q4, q5, q6], by simp [go_sem, c0_, c1_, c2_, c3_, c4_, c5_, c6_, c7_, c8_, c9_, c10_, c11_, f0_, f1_, f2_, f3_, f4_, d5_, f5_, d6_, f6_, d7_, f7_, d8_, f8_, d9_, f9_, z2, z3, z4, z5, q1, q2, q3, q4, q5, q6], by simp [go_sem, c0_, c1_, c2_, c3_, c4_, c5_, c6_, c7_, c8_, c9_, c10_, c11_, f0_, f1_, f2_, f3_, f4_, d5_, f5_, d6_, f6_, d7_, f7_, d8_, f8_, d9_, f9_, z2, z3, z4, z5, q1, q2, q3, q4, q5, q6], by (repeat (first | (with_reducible exact Below.refl _ _) | (with_reducible exact HB.out) | (with_reducible refine below_draws ?_ _) | (with_reducible refine Below.alloc ?_ (by go_size) _) | (with_reducible refine Below.setCell ?_ (by go_size) _) | (with_reducible refine Below.alloc ?_ (by simp <;> omega) _) | (with_reducible refine Below.setCell ?_ (by simp <;> omega) _)))⟩⟩, by go_num⟩
        case measure => simp [intOf]; omega
    · have hkn' : k = n := by omega
      have HN := Lib.hid hkn'
      have HB := Lib.hid (K_W.bel HK.out)
      have hlt' : decide (k < n) = false := decide_eq_false hlt
      clear hkn'
      go_wp2
      exact bodyPost_ret (v := .tuple #[.agg #[.int .i64 (r).w, .int .i64 (r).x, .int .i64 (r).y, .int .i64 (r).z, .int .i64 (r).d], .int .i64 0]) (by simp [results, Tryd.results44, go_sem, c0_, c1_, c2_, c3_, c4_, c5_, c6_, c7_, c8_, c9_, c10_, c11_, f0_, f1_, f2_, f3_, f4_, d5_, f5_, d6_, f6_, d7_, f7_, d8_, f8_, d9_, f9_]) rfl ⟨by unfold pwrQ pwrE; rw [← HN.out, HR.out]; rfl, by (repeat (first | (with_reducible exact Below.refl _ _) | (with_reducible exact HB.out) | (with_reducible refine below_draws ?_ _) | (with_reducible refine Below.alloc ?_ (by go_size) _) | (with_reducible refine Below.setCell ?_ (by go_size) _) | (with_reducible refine Below.alloc ?_ (by simp <;> omega) _) | (with_reducible refine Below.setCell ?_ (by simp <;> omega) _)))⟩
set_option maxHeartbeats 6400000 in
theorem rPower_negerr (A B n0 n1 n2 n3 d : Int) (N : Nat) (w : World) (hN : 0 < N) (hn : N ≤ 60) (hA : chkA A B = 0) (hq : chkQ n0 n1 n2 n3 d = 0) (hi : invE A B ⟨n0, n1, n2, n3, d⟩ ≠ 0) :
    Calls Tryd.prog 44 #[.agg #[.int .i64 A, .int .i64 B], .agg #[.int .i64 n0, .int .i64 n1, .int .i64 n2, .int .i64 n3, .int .i64 d], .int .i64 (-(N : Int))] w fun e w' => e = .returned (.tuple #[.agg #[.int .i64 0, .int .i64 0, .int .i64 0, .int .i64 0, .int .i64 0], .int .i64 (invE A B ⟨n0, n1, n2, n3, d⟩)]) ∧ Below w.heap.size w w' := by
  have IV := Lib.hid (fun W => rInverse_v A B n0 n1 n2 n3 d W hA hq)
  obtain ⟨s, hs⟩ : ∃ s, invQ A B ⟨n0, n1, n2, n3, d⟩ = s := ⟨_, rfl⟩
  obtain ⟨t, ht⟩ : ∃ s, invE A B ⟨n0, n1, n2, n3, d⟩ = s := ⟨_, rfl⟩
  rw [hs, ht] at IV
  rw [ht] at hi ⊢
  have ht0 : (t != 0) = true := by rw [bne_iff_ne]; exact hi
  have hn0 : decide (-(N : Int) < 0) = true := decide_eq_true (by omega)
  clear hA hq hs ht hi
  go_enter Tryd.func44, Tryd.ntmps44
  go_wp2_with fail
  refine (IV.out _).mono ?_
  rintro e w2 ⟨rfl, hb⟩
  have hK : K_V2 A B n0 n1 n2 n3 d w.heap.size (w.heap.size + 1) (w.heap.size + 2) w w2 := K_V2.below hb ⟨by simp [go_sem], by simp [go_sem], by simp [go_sem], by (repeat (first | (with_reducible exact Below.refl _ _) | (with_reducible exact HB.out) | (with_reducible refine below_draws ?_ _) | (with_reducible refine Below.alloc ?_ (by go_size) _) | (with_reducible refine Below.setCell ?_ (by go_size) _) | (with_reducible refine Below.alloc ?_ (by simp <;> omega) _) | (with_reducible refine Below.setCell ?_ (by simp <;> omega) _)))⟩
  clear hb
  obtain ⟨c0_, c1_, c2_, c3_, c4_, c5_, c6_, f0_, f1_, f2_, f3_, f4_, d5_, f5_, d6_, f6_, d7_, f7_, d8_, f8_, d9_, f9_⟩ := K_V2.cells hK
  have HB := Lib.hid (K_V2.bel hK)
  have z3 : w.heap.size + 2 < w2.heap.size := World.block_lt_of_cell? w2 ⟨w.heap.size + 2, 0, none⟩ d5_
  clear hK
  go_wp2
  exact bodyPost_ret (v := .tuple #[.agg #[.int .i64 0, .int .i64 0, .int .i64 0, .int .i64 0, .int .i64 0], .int .i64 t]) (by simp [results, Tryd.results44, go_sem, c0_, c1_, c2_, c3_, c4_, c5_, c6_, f0_, f1_, f2_, f3_, f4_, d5_, f5_, d6_, f6_, d7_, f7_, d8_, f8_, d9_, f9_, z3]) rfl ⟨rfl, by (repeat (first | (with_reducible exact Below.refl _ _) | (with_reducible exact HB.out) | (with_reducible refine below_draws ?_ _) | (with_reducible refine Below.alloc ?_ (by go_size) _) | (with_reducible refine Below.setCell ?_ (by go_size) _) | (with_reducible refine Below.alloc ?_ (by simp <;> omega) _) | (with_reducible refine Below.setCell ?_ (by simp <;> omega) _)))⟩
set_option maxHeartbeats 6400000 in
theorem rPower_neg (A B n0 n1 n2 n3 d : Int) (n : Nat) (w : World) (hN : 0 < n) (hn : n ≤ 60) (hA : chkA A B = 0) (hq : chkQ n0 n1 n2 n3 d = 0) (hi : invE A B ⟨n0, n1, n2, n3, d⟩ = 0) (u : Q) (hs : invQ A B ⟨n0, n1, n2, n3, d⟩ = u) :
    Calls Tryd.prog 44 #[.agg #[.int .i64 A, .int .i64 B], .agg #[.int .i64 n0, .int .i64 n1, .int .i64 n2, .int .i64 n3, .int .i64 d], .int .i64 (-(n : Int))] w fun e w' => PwEnd A B u.w u.x u.y u.z u.d n w e w' := by
  have HA := Lib.hid hA
  have hqs : chkQ u.w u.x u.y u.z u.d = 0 := by
    have := inv_chk hi
    rw [hs] at this
    unfold chkQ; rw [if_pos this]
  have HQ := Lib.hid hqs
  have IV := Lib.hid (fun W => rInverse_v A B n0 n1 n2 n3 d W hA hq)
  rw [hs, hi] at IV
  have hn0 : decide (-(n : Int) < 0) = true := decide_eq_true (by omega)
  clear hA hq hs hi hqs
  go_enter Tryd.func44, Tryd.ntmps44
  go_wp2_with fail
  refine (IV.out _).mono ?_
  rintro e w2 ⟨rfl, hb⟩
  have hK : K_V2 A B n0 n1 n2 n3 d w.heap.size (w.heap.size + 1) (w.heap.size + 2) w w2 := K_V2.below hb ⟨by simp [go_sem], by simp [go_sem], by simp [go_sem], by (repeat (first | (with_reducible exact Below.refl _ _) | (with_reducible exact HB.out) | (with_reducible refine below_draws ?_ _) | (with_reducible refine Below.alloc ?_ (by go_size) _) | (with_reducible refine Below.setCell ?_ (by go_size) _) | (with_reducible refine Below.alloc ?_ (by simp <;> omega) _) | (with_reducible refine Below.setCell ?_ (by simp <;> omega) _)))⟩
  clear hb
  obtain ⟨c0_, c1_, c2_, c3_, c4_, c5_, c6_, f0_, f1_, f2_, f3_, f4_, d5_, f5_, d6_, f6_, d7_, f7_, d8_, f8_, d9_, f9_⟩ := K_V2.cells hK
  have HV2 := Lib.hid (K_V2.bel hK)
  have z3 : w.heap.size + 2 < w2.heap.size := World.block_lt_of_cell? w2 ⟨w.heap.size + 2, 0, none⟩ d5_
  clear hK
  have q1 : w2.heap.size ≠ w.heap.size := by omega
  have q2 : w2.heap.size ≠ w.heap.size + 1 := by omega
  have q3 : w2.heap.size ≠ w.heap.size + 2 := by omega
  have y0 : w.heap.size < w2.heap.size := by omega
  have y1 : w.heap.size + 1 < w2.heap.size := by omega
  go_wp2_with fail
  refine (rOne_any _).mono ?_
  rintro e w1 ⟨rfl, hb⟩
  have hK : K_V A B u.w u.x u.y u.z u.d w.heap.size (w.heap.size + 1) (w.heap.size + 2) w w1 := K_V.below hb ⟨by simp [go_sem, c0_, c1_, c2_, c3_, c4_, c5_, c6_, f0_, f1_, f2_, f3_, f4_, d5_, f5_, d6_, f6_, d7_, f7_, d8_, f8_, d9_, f9_, q1, q2, q3, z3, y0, y1], by simp [go_sem, c0_, c1_, c2_, c3_, c4_, c5_, c6_, f0_, f1_, f2_, f3_, f4_, d5_, f5_, d6_, f6_, d7_, f7_, d8_, f8_, d9_, f9_, q1, q2, q3, z3, y0, y1], by simp [go_sem, c0_, c1_, c2_, c3_, c4_, c5_, c6_, f0_, f1_, f2_, f3_, f4_, d5_, f5_, d6_, f6_, d7_, f7_, d8_, f8_, d9_, f9_, q1, q2, q3, z3, y0, y1], by have HB := HV2; (repeat (first | (with_reducible exact Below.refl _ _) | (with_reducible exact HB.out) | (with_reducible refine below_draws ?_ _) | (with_reducible refine Below.alloc ?_ (by go_size) _) | (with_reducible refine Below.setCell ?_ (by go_size) _) | (with_reducible refine Below.alloc ?_ (by simp <;> omega) _) | (with_reducible refine Below.setCell ?_ (by simp <;> omega) _)))⟩
  clear hb c0_ c1_ c2_ c3_ c4_ c5_ c6_ f0_ f1_ f2_ f3_ f4_ d5_ f5_ d6_ f6_ d7_ f7_ d8_ f8_ d9_ f9_ HV2 q1 q2 q3 z3 y0 y1
  obtain ⟨c0_, c1_, c2_, c3_, c4_, c5_, c6_, d0_, f0_, d1_, f1_, d2_, f2_, d3_, f3_, d4_, f4_⟩ := K_V.cells hK
  have HV := Lib.hid (K_V.bel hK)
  have z3 : w.heap.size + 2 < w1.heap.size := World.block_lt_of_cell? w1 ⟨w.heap.size + 2, 0, none⟩ d0_
  have y0 : w.heap.size < w1.heap.size := by omega
  have y1 : w.heap.size + 1 < w1.heap.size := by omega
  go_wp2_with fail
  go_loopw [11] (fun t11 wr => ∃ (k : Nat) (r : Q), (k ≤ n ∧ pwr A B ⟨u.w, u.x, u.y, u.z, u.d⟩ k = some r ∧ K_W A B u.w u.x u.y u.z u.d r.w r.x r.y r.z r.d w.heap.size (w.heap.size + 1) (w1.heap.size) (w.heap.size + 2) w wr) ∧ t11 = .int .i64 k) (fun t11 _ => n - (intOf t11).toNat)
  case atStart =>
    have y2 : w.heap.size < w1.heap.size := by omega
    have y3 : w.heap.size + 1 < w1.heap.size := by omega
    have y4 : w.heap.size + 2 < w1.heap.size := by omega
    exact ⟨0, ⟨1, 0, 0, 0, 1⟩, ⟨Nat.zero_le _, rfl, ⟨by simp [go_sem, c0_, c1_, c2_, c3_, c4_, c5_, c6_, d0_, f0_, d1_, f1_, d2_, f2_, d3_, f3_, d4_, f4_, z3, y0, y1, y2, y3, y4], by simp [go_sem, c0_, c1_, c2_, c3_, c4_, c5_, c6_, d0_, f0_, d1_, f1_, d2_, f2_, d3_, f3_, d4_, f4_, z3, y0, y1, y2, y3, y4], by simp [go_sem, c0_, c1_, c2_, c3_, c4_, c5_, c6_, d0_, f0_, d1_, f1_, d2_, f2_, d3_, f3_, d4_, f4_, z3, y0, y1, y2, y3, y4], by have HB := HV; (repeat (first | (with_reducible exact Below.refl _ _) | (with_reducible exact HB.out) | (with_reducible refine below_draws ?_ _) | (with_reducible refine Below.alloc ?_ (by go_size) _) | (with_reducible refine Below.setCell ?_ (by go_size) _) | (with_reducible refine Below.alloc ?_ (by simp <;> omega) _) | (with_reducible refine Below.setCell ?_ (by simp <;> omega) _)))⟩⟩, rfl⟩
  case round =>
    obtain ⟨k, r, ⟨hkn, hr, hK⟩, rfl⟩ := hrel
    clear c0_ c1_ c2_ c3_ c4_ c5_ c6_ d0_ f0_ d1_ f1_ d2_ f2_ d3_ f3_ d4_ f4_
    obtain ⟨wo, rfl⟩ : ∃ wo : World, wo = wr := ⟨_, rfl⟩
    obtain ⟨c0_, c1_, c2_, c3_, c4_, c5_, c6_, c7_, c8_, c9_, c10_, c11_, f0_, f1_, f2_, f3_, f4_, d5_, f5_, d6_, f6_, d7_, f7_, d8_, f8_, d9_, f9_⟩ := K_W.cells hK
    have HK := Lib.hid hK
    have HR := Lib.hid hr
    clear hK hr
    by_cases hlt : k < n
    · have hqr : chkQ r.w r.x r.y r.z r.d = 0 := by unfold chkQ; rw [if_pos (pwr_qB HR.out)]
      rcases hqb : qB (mulq A B r ⟨u.w, u.x, u.y, u.z, u.d⟩).low with _ | _
      · have MU := Lib.hid (fun W => rmul_no (A := A) (B := B) (w := W) HA.out hqr HQ.out hqb)
        have HS := Lib.hid (pwr_stop HR.out hqb n hlt)
        clear hqr hqb
        go_wp2_with fail
        refine (MU.out _).mono ?_
        rintro e w5 ⟨rfl, hb⟩
        have hK := K_W.below hb HK.out
        clear hb c0_ c1_ c2_ c3_ c4_ c5_ c6_ c7_ c8_ c9_ c10_ c11_ f0_ f1_ f2_ f3_ f4_ d5_ f5_ d6_ f6_ d7_ f7_ d8_ f8_ d9_ f9_
        obtain ⟨c0_, c1_, c2_, c3_, c4_, c5_, c6_, c7_, c8_, c9_, c10_, c11_, f0_, f1_, f2_, f3_, f4_, d5_, f5_, d6_, f6_, d7_, f7_, d8_, f8_, d9_, f9_⟩ := K_W.cells hK
        have HB := Lib.hid (K_W.bel hK)
        have z2 : w1.heap.size < w5.heap.size := World.block_lt_of_cell? w5 ⟨w1.heap.size, 0, none⟩ c7_
        have z3 : w.heap.size + 2 < w5.heap.size := World.block_lt_of_cell? w5 ⟨w.heap.size + 2, 0, none⟩ d5_
        have z4 : w.heap.size + 1 < w5.heap.size := by omega
        have z5 : w.heap.size < w5.heap.size := by omega
        clear hK
        go_wp2
        exact bodyPost_ret (v := .tuple #[.agg #[.int .i64 0, .int .i64 0, .int .i64 0, .int .i64 0, .int .i64 0], .int .i64 8]) (by simp [results, Tryd.results44, go_sem, c0_, c1_, c2_, c3_, c4_, c5_, c6_, c7_, c8_, c9_, c10_, c11_, f0_, f1_, f2_, f3_, f4_, d5_, f5_, d6_, f6_, d7_, f7_, d8_, f8_, d9_, f9_, z2, z3, z4, z5]) rfl ⟨by unfold pwrQ pwrE; rw [HS.out]; rfl, by (repeat (first | (with_reducible exact Below.refl _ _) | (with_reducible exact HB.out) | (with_reducible refine below_draws ?_ _) | (with_reducible refine Below.alloc ?_ (by go_size) _) | (with_reducible refine Below.setCell ?_ (by go_size) _) | (with_reducible refine Below.alloc ?_ (by simp <;> omega) _) | (with_reducible refine Below.setCell ?_ (by simp <;> omega) _)))⟩
      · obtain ⟨s, hs⟩ : ∃ s, (mulq A B r ⟨u.w, u.x, u.y, u.z, u.d⟩).low = s := ⟨_, rfl⟩
        have HN := Lib.hid (pwr_next HR.out hqb)
        have MU := Lib.hid (fun W => rmul_yes (A := A) (B := B) (w := W) HA.out hqr HQ.out s hs (hs ▸ hqb))
        have HS := Lib.hid hs
        clear hqr hqb hs
        go_wp2_with fail
        refine (MU.out _).mono ?_
        rintro e w5 ⟨rfl, hb⟩
        have hK := K_W.below hb HK.out
        clear hb c0_ c1_ c2_ c3_ c4_ c5_ c6_ c7_ c8_ c9_ c10_ c11_ f0_ f1_ f2_ f3_ f4_ d5_ f5_ d6_ f6_ d7_ f7_ d8_ f8_ d9_ f9_
        obtain ⟨c0_, c1_, c2_, c3_, c4_, c5_, c6_, c7_, c8_, c9_, c10_, c11_, f0_, f1_, f2_, f3_, f4_, d5_, f5_, d6_, f6_, d7_, f7_, d8_, f8_, d9_, f9_⟩ := K_W.cells hK
        have HB := Lib.hid (K_W.bel hK)
        have z2 : w1.heap.size < w5.heap.size := World.block_lt_of_cell? w5 ⟨w1.heap.size, 0, none⟩ c7_
        have z3 : w.heap.size + 2 < w5.heap.size := World.block_lt_of_cell? w5 ⟨w.heap.size + 2, 0, none⟩ d5_
        have z4 : w.heap.size + 1 < w5.heap.size := by omega
        have z5 : w.heap.size < w5.heap.size := by omega
        clear hK
        go_wp2
        have q1 : w1.heap.size ≠ w.heap.size := by omega
        have q2 : w1.heap.size ≠ w.heap.size := by omega
        have q3 : w1.heap.size ≠ w.heap.size + 1 := by omega
        have q4 : w.heap.size ≠ w1.heap.size := by omega
        have q5 : w.heap.size ≠ w1.heap.size := by omega
        have q6 : w.heap.size + 1 ≠ w1.heap.size := by omega
        go_roundw
        case rel => exact ⟨k + 1, s, ⟨by omega, by rw [HN.out, HS.out], ⟨by simp [go_sem, c0_, c1_, c2_, c3_, c4_, c5_, c6_, c7_, c8_, c9_, c10_, c11_, f0_, f1_, f2_, f3_, f4_, d5_, f5_, d6_, f6_, d7_, f7_, d8_, f8_, d9_, f9_, z2, z3, z4, z5, q1, q2, q3, q4, q5, q6], by simp [go_sem, c0_, c1_, c2_, c3_, c4_, c5_, c6_, c7_, c8_, c9_, c10_, c11_, f0_, f1_, f2_, f3_, f4_, d5_, f5_, d6_, f6_, d7_, f7_, d8_, f8_, d9_, f9_, z2, z3, z4, z5, q1, q2, q3, q4, q5, q6], by simp [go_sem, c0_, c1_, c2_, c3_, c4_, c5_, c6_, c7_, c8_, c9_, c10_, c11_, f0_, f1_, f2_, f3_, f4_, d5_, f5_, d6_, f6_, d7_, f7_, d8_, f8_, d9_, f9_, z2, z3, z4, z5, q1, q2, q3, q4, q5, q6], by (repeat (first | (with_reducible exact Below.refl _ _) | (with_reducible exact HB.out) | (with_reducible refine below_draws ?_ _) | (with_reducible refine Below.alloc ?_ (by go_size) _) | (with_reducible refine Below.setCell ?_ (by go_size) _) | (with_reducible refine Below.alloc ?_ (by simp <;> omega) _) | (with_reducible refine Below.setCell ?_ (by simp <;> omega) _)))⟩⟩, by go_num⟩
        case measure => simp [intOf]; omega
    · have hkn' : k = n := by omega
      have HN := Lib.hid hkn'
      have HB := Lib.hid (K_W.bel HK.out)
      have hlt' : decide (k < n) = false := decide_eq_false hlt
      clear hkn'
      go_wp2
      exact bodyPost_ret (v := .tuple #[.agg #[.int .i64 (r).w, .int .i64 (r).x, .int .i64 (r).y, .int .i64 (r).z, .int .i64 (r).d], .int .i64 0]) (by simp [results, Tryd.results44, go_sem, c0_, c1_, c2_, c3_, c4_, c5_, c6_, c7_, c8_, c9_, c10_, c11_, f0_, f1_, f2_, f3_, f4_, d5_, f5_, d6_, f6_, d7_, f7_, d8_, f8_, d9_, f9_]) rfl ⟨by unfold pwrQ pwrE; rw [← HN.out, HR.out]; rfl, by (repeat (first | (with_reducible exact Below.refl _ _) | (with_reducible exact HB.out) | (with_reducible refine below_draws ?_ _) | (with_reducible refine Below.alloc ?_ (by go_size) _) | (with_reducible refine Below.setCell ?_ (by go_size) _) | (with_reducible refine Below.alloc ?_ (by simp <;> omega) _) | (with_reducible refine Below.setCell ?_ (by simp <;> omega) _)))⟩
end Go.Proofs.YtjloanplhbbomaaDoor.Al
