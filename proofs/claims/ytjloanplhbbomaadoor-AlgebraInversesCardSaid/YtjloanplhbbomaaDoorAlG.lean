/-
  WALKS: powers with negative exponents.
-/
import Derived.Test.YtjloanplhbbomaaDoorAlJ
namespace Go.Proofs.YtjloanplhbbomaaDoor.Al
open Go.RowKit
open Alm
set_option linter.unusedVariables false
set_option linter.unusedSimpArgs false
set_option maxRecDepth 100000
/-- what a walk keeps: cells, and that nothing that was there has turned -/
def K_V2 (A B n0 n1 n2 n3 d : Int) (b1 b2 R : Nat) (w w' : World) : Prop := KL w [(b1, 0, .int .i64 A), (b1, 1, .int .i64 B), (b2, 0, .int .i64 n0), (b2, 1, .int .i64 n1), (b2, 2, .int .i64 n2), (b2, 3, .int .i64 n3), (b2, 4, .int .i64 d)] [(b2, 0), (b2, 1), (b2, 2), (b2, 3), (b2, 4), (R, 0), (R, 1), (R, 2), (R, 3), (R, 4)] w'
theorem K_V2.below {A B n0 n1 n2 n3 d : Int} {b1 b2 R : Nat} {w w1 w2 : World} (hb : Below w1.heap.size w1 w2) (h : K_V2 A B n0 n1 n2 n3 d b1 b2 R w w1) : K_V2 A B n0 n1 n2 n3 d b1 b2 R w w2 := KL.below hb h
theorem K_V2.draws {A B n0 n1 n2 n3 d : Int} {b1 b2 R : Nat} {w w1 : World} (n : Nat) (h : K_V2 A B n0 n1 n2 n3 d b1 b2 R w w1) : K_V2 A B n0 n1 n2 n3 d b1 b2 R w (w1.drewN n) := KL.draws n h
theorem K_V2.drew {A B n0 n1 n2 n3 d : Int} {b1 b2 R : Nat} {w w1 : World} (h : K_V2 A B n0 n1 n2 n3 d b1 b2 R w w1) : K_V2 A B n0 n1 n2 n3 d b1 b2 R w w1.drew := KL.draws 1 h
theorem K_V2.alloc {A B n0 n1 n2 n3 d : Int} {b1 b2 R : Nat} {w w1 : World} (o : Obj) (h : K_V2 A B n0 n1 n2 n3 d b1 b2 R w w1) : K_V2 A B n0 n1 n2 n3 d b1 b2 R w (w1.alloc o) := KL.alloc o h
theorem K_V2.set {A B n0 n1 n2 n3 d : Int} {b1 b2 R : Nat} {w w1 : World} (h : K_V2 A B n0 n1 n2 n3 d b1 b2 R w w1) (b i : Nat) (v : Value) (hb : b ≠ b1 ∧ b ≠ b2 ∧ w.heap.size ≤ b) : K_V2 A B n0 n1 n2 n3 d b1 b2 R w (w1.setCell ⟨b, i, none⟩ v) :=
  KL.set h b i v (by intro x hx; simp only [List.mem_cons, List.not_mem_nil, or_false] at hx; rcases hx with rfl | rfl | rfl | rfl | rfl | rfl | rfl <;> simp only [] <;> omega) (by omega)
theorem K_V2.bel {A B n0 n1 n2 n3 d : Int} {b1 b2 R : Nat} {w w1 : World} (h : K_V2 A B n0 n1 n2 n3 d b1 b2 R w w1) : Below w.heap.size w w1 := KL.bel h
theorem K_V2.cells {A B n0 n1 n2 n3 d : Int} {b1 b2 R : Nat} {w w' : World} (h : K_V2 A B n0 n1 n2 n3 d b1 b2 R w w') : w'.cell? ⟨b1, 0, none⟩ = some (.int .i64 A) ∧ w'.cell? ⟨b1, 1, none⟩ = some (.int .i64 B) ∧ w'.cell? ⟨b2, 0, none⟩ = some (.int .i64 n0) ∧ w'.cell? ⟨b2, 1, none⟩ = some (.int .i64 n1) ∧ w'.cell? ⟨b2, 2, none⟩ = some (.int .i64 n2) ∧ w'.cell? ⟨b2, 3, none⟩ = some (.int .i64 n3) ∧ w'.cell? ⟨b2, 4, none⟩ = some (.int .i64 d) ∧ w'.frozen? ⟨b2, 0, none⟩ = false ∧ w'.frozen? ⟨b2, 1, none⟩ = false ∧ w'.frozen? ⟨b2, 2, none⟩ = false ∧ w'.frozen? ⟨b2, 3, none⟩ = false ∧ w'.frozen? ⟨b2, 4, none⟩ = false ∧ w'.cell? ⟨R, 0, none⟩ = some (cv w' R 0) ∧ w'.frozen? ⟨R, 0, none⟩ = false ∧ w'.cell? ⟨R, 1, none⟩ = some (cv w' R 1) ∧ w'.frozen? ⟨R, 1, none⟩ = false ∧ w'.cell? ⟨R, 2, none⟩ = some (cv w' R 2) ∧ w'.frozen? ⟨R, 2, none⟩ = false ∧ w'.cell? ⟨R, 3, none⟩ = some (cv w' R 3) ∧ w'.frozen? ⟨R, 3, none⟩ = false ∧ w'.cell? ⟨R, 4, none⟩ = some (cv w' R 4) ∧ w'.frozen? ⟨R, 4, none⟩ = false := ⟨h.c (b1, 0, .int .i64 A) (by simp), h.c (b1, 1, .int .i64 B) (by simp), h.c (b2, 0, .int .i64 n0) (by simp), h.c (b2, 1, .int .i64 n1) (by simp), h.c (b2, 2, .int .i64 n2) (by simp), h.c (b2, 3, .int .i64 n3) (by simp), h.c (b2, 4, .int .i64 d) (by simp), h.f (b2, 0) (by simp), h.f (b2, 1) (by simp), h.f (b2, 2) (by simp), h.f (b2, 3) (by simp), h.f (b2, 4) (by simp), h.d (R, 0) (by simp), h.f (R, 0) (by simp), h.d (R, 1) (by simp), h.f (R, 1) (by simp), h.d (R, 2) (by simp), h.f (R, 2) (by simp), h.d (R, 3) (by simp), h.f (R, 3) (by simp), h.d (R, 4) (by simp), h.f (R, 4) (by simp)⟩
theorem K_V2.zs {A B n0 n1 n2 n3 d : Int} {b1 b2 R : Nat} {w w' : World} (h : K_V2 A B n0 n1 n2 n3 d b1 b2 R w w') : b1 < w'.heap.size ∧ b2 < w'.heap.size ∧ R < w'.heap.size ∧ True := ⟨KL.z h (x := (b1, 0, .int .i64 A)) (by simp), KL.z h (x := (b2, 0, .int .i64 n0)) (by simp), KL.zf h (x := (R, 0)) (by simp), trivial⟩
theorem K_V2.ks {A B n0 n1 n2 n3 d : Int} {b1 b2 R : Nat} {w w' : World} (h : K_V2 A B n0 n1 n2 n3 d b1 b2 R w w') : (w'.cell? ⟨b1, 0, none⟩ = some (.int .i64 A) ∧ w'.cell? ⟨b1, 1, none⟩ = some (.int .i64 B) ∧ w'.cell? ⟨b2, 0, none⟩ = some (.int .i64 n0) ∧ w'.cell? ⟨b2, 1, none⟩ = some (.int .i64 n1) ∧ w'.cell? ⟨b2, 2, none⟩ = some (.int .i64 n2) ∧ w'.cell? ⟨b2, 3, none⟩ = some (.int .i64 n3) ∧ w'.cell? ⟨b2, 4, none⟩ = some (.int .i64 d) ∧ w'.frozen? ⟨b2, 0, none⟩ = false ∧ w'.frozen? ⟨b2, 1, none⟩ = false ∧ w'.frozen? ⟨b2, 2, none⟩ = false ∧ w'.frozen? ⟨b2, 3, none⟩ = false ∧ w'.frozen? ⟨b2, 4, none⟩ = false ∧ w'.cell? ⟨R, 0, none⟩ = some (cv w' R 0) ∧ w'.frozen? ⟨R, 0, none⟩ = false ∧ w'.cell? ⟨R, 1, none⟩ = some (cv w' R 1) ∧ w'.frozen? ⟨R, 1, none⟩ = false ∧ w'.cell? ⟨R, 2, none⟩ = some (cv w' R 2) ∧ w'.frozen? ⟨R, 2, none⟩ = false ∧ w'.cell? ⟨R, 3, none⟩ = some (cv w' R 3) ∧ w'.frozen? ⟨R, 3, none⟩ = false ∧ w'.cell? ⟨R, 4, none⟩ = some (cv w' R 4) ∧ w'.frozen? ⟨R, 4, none⟩ = false) ∧ K_V2 A B n0 n1 n2 n3 d b1 b2 R w w' := ⟨h.cells, h⟩
set_option maxHeartbeats 6400000 in
theorem Power_negerr (A B n0 n1 n2 n3 d : Int) (N : Nat) (w : World) (hN : 0 < N) (hn : N ≤ 60) (hA : chkA A B = 0) (hq : chkQ n0 n1 n2 n3 d = 0) (hi : invE A B ⟨n0, n1, n2, n3, d⟩ ≠ 0) :
    Calls Tryd.prog 41 #[.agg #[.int .i64 A, .int .i64 B], .agg #[.int .i64 n0, .int .i64 n1, .int .i64 n2, .int .i64 n3, .int .i64 d], .int .i64 (-(N : Int))] w fun e w' => e = .returned (.tuple #[.agg #[.int .i64 0, .int .i64 0, .int .i64 0, .int .i64 0, .int .i64 0], .int .i64 (invE A B ⟨n0, n1, n2, n3, d⟩)]) ∧ Below w.heap.size w w' := by
  have OK := Lib.hid (or2_ok hA hq)
  have IV := Lib.hid (fun W => inverse_v A B n0 n1 n2 n3 d W hA hq)
  have hwi : withinB (-(N : Int)) (-60) 60 = true := decide_eq_true (by omega)
  obtain ⟨s, hs⟩ : ∃ s, invQ A B ⟨n0, n1, n2, n3, d⟩ = s := ⟨_, rfl⟩
  obtain ⟨t, ht⟩ : ∃ s, invE A B ⟨n0, n1, n2, n3, d⟩ = s := ⟨_, rfl⟩
  rw [hs, ht] at IV
  rw [ht] at hi ⊢
  have ht0 : (t != 0) = true := by rw [bne_iff_ne]; exact hi
  clear hA hq hs ht hi
  go_enter Tryd.func41, Tryd.ntmps41
  go_wp2_with fail
  have hk : K_V2 A B n0 n1 n2 n3 d w.heap.size (w.heap.size + 1) (w.heap.size + 2) w (((w.alloc (.cells #[.int .i64 A, .int .i64 B] 23)).alloc (.cells #[.int .i64 n0, .int .i64 n1, .int .i64 n2, .int .i64 n3, .int .i64 d] 25)).alloc (.cells #[.int .i64 0, .int .i64 0, .int .i64 0, .int .i64 0, .int .i64 0] 25)) := ⟨by simp [go_sem], by simp [go_sem], by simp [go_sem], by (repeat (first | (with_reducible exact Below.refl _ _) | (with_reducible exact HB.out) | (with_reducible refine below_draws ?_ _) | (with_reducible refine Below.alloc ?_ (by go_size) _) | (with_reducible refine Below.setCell ?_ (by go_size) _) | (with_reducible refine Below.alloc ?_ (by simp <;> omega) _) | (with_reducible refine Below.setCell ?_ (by simp <;> omega) _)))⟩
  go_region_held3 (fun w' => (w'.cell? ⟨w.heap.size, 0, none⟩ = some (.int .i64 A) ∧ w'.cell? ⟨w.heap.size, 1, none⟩ = some (.int .i64 B) ∧ w'.cell? ⟨(w.heap.size + 1), 0, none⟩ = some (.int .i64 n0) ∧ w'.cell? ⟨(w.heap.size + 1), 1, none⟩ = some (.int .i64 n1) ∧ w'.cell? ⟨(w.heap.size + 1), 2, none⟩ = some (.int .i64 n2) ∧ w'.cell? ⟨(w.heap.size + 1), 3, none⟩ = some (.int .i64 n3) ∧ w'.cell? ⟨(w.heap.size + 1), 4, none⟩ = some (.int .i64 d) ∧ w'.frozen? ⟨(w.heap.size + 1), 0, none⟩ = false ∧ w'.frozen? ⟨(w.heap.size + 1), 1, none⟩ = false ∧ w'.frozen? ⟨(w.heap.size + 1), 2, none⟩ = false ∧ w'.frozen? ⟨(w.heap.size + 1), 3, none⟩ = false ∧ w'.frozen? ⟨(w.heap.size + 1), 4, none⟩ = false ∧ w'.cell? ⟨(w.heap.size + 2), 0, none⟩ = some (cv w' ((w.heap.size + 2)) 0) ∧ w'.frozen? ⟨(w.heap.size + 2), 0, none⟩ = false ∧ w'.cell? ⟨(w.heap.size + 2), 1, none⟩ = some (cv w' ((w.heap.size + 2)) 1) ∧ w'.frozen? ⟨(w.heap.size + 2), 1, none⟩ = false ∧ w'.cell? ⟨(w.heap.size + 2), 2, none⟩ = some (cv w' ((w.heap.size + 2)) 2) ∧ w'.frozen? ⟨(w.heap.size + 2), 2, none⟩ = false ∧ w'.cell? ⟨(w.heap.size + 2), 3, none⟩ = some (cv w' ((w.heap.size + 2)) 3) ∧ w'.frozen? ⟨(w.heap.size + 2), 3, none⟩ = false ∧ w'.cell? ⟨(w.heap.size + 2), 4, none⟩ = some (cv w' ((w.heap.size + 2)) 4) ∧ w'.frozen? ⟨(w.heap.size + 2), 4, none⟩ = false) ∧ K_V2 A B n0 n1 n2 n3 d w.heap.size (w.heap.size + 1) (w.heap.size + 2) w w') ((refine K_V2.ks ?_; repeat (first | (with_reducible assumption) | (with_reducible refine K_V2.draws _ ?_) | (with_reducible refine K_V2.drew ?_) | (with_reducible refine K_V2.alloc _ ?_) | (with_reducible refine K_V2.set ?_ _ _ _ (by omega)))))
    (first
      | (go_at_call 15; (with_reducible refine (Check_any _ _ _).mono ?_); rintro e w' ⟨rfl, hbel⟩; have hk' := K_V2.below hbel (And.right (by assumption)); clear hbel)
      | (go_at_call 17; (with_reducible refine (CheckQuat_any _ _ _ _ _ _).mono ?_); rintro e w' ⟨rfl, hbel⟩; have hk' := K_V2.below hbel (And.right (by assumption)); clear hbel)
      | (go_at_call 64; (with_reducible refine (Or_new _ _ _ _ _ ?_).mono ?_); rfl; rintro e w'' ⟨rfl, rfl⟩))
  all_goals
    (rename_i hh_; clear hh_; obtain ⟨c0_, c1_, c2_, c3_, c4_, c5_, c6_, f0_, f1_, f2_, f3_, f4_, d5_, f5_, d6_, f6_, d7_, f7_, d8_, f8_, d9_, f9_⟩ := K_V2.cells hk'; have HB := Lib.hid (K_V2.bel hk'))
    have z1 : w.heap.size + 2 < w'.heap.size := World.block_lt_of_cell? w' ⟨w.heap.size + 2, 0, none⟩ d5_
    have y0 : w.heap.size < w'.heap.size := by omega
    have y1 : w.heap.size + 1 < w'.heap.size := by omega
    rw [OK.out]
    go_wp2_with (go_at_call 57; refine (isWithin_any _ _ _ (by decide) (by decide)).mono ?_; rintro e w'' ⟨rfl, rfl⟩)
    refine (IV.out _).mono ?_
    rintro e w2 ⟨rfl, hb⟩
    have hK := K_V2.below hb (K_V2.alloc _ hk')
    clear hb c0_ c1_ c2_ c3_ c4_ c5_ c6_ f0_ f1_ f2_ f3_ f4_ d5_ f5_ d6_ f6_ d7_ f7_ d8_ f8_ d9_ f9_ HB
    obtain ⟨c0_, c1_, c2_, c3_, c4_, c5_, c6_, f0_, f1_, f2_, f3_, f4_, d5_, f5_, d6_, f6_, d7_, f7_, d8_, f8_, d9_, f9_⟩ := K_V2.cells hK
    have HB := Lib.hid (K_V2.bel hK)
    have z3 : w.heap.size + 2 < w2.heap.size := World.block_lt_of_cell? w2 ⟨w.heap.size + 2, 0, none⟩ d5_
    clear hK
    go_wp2
    exact bodyPost_ret (v := .tuple #[.agg #[.int .i64 0, .int .i64 0, .int .i64 0, .int .i64 0, .int .i64 0], .int .i64 t]) (by simp [results, Tryd.results41, go_sem, c0_, c1_, c2_, c3_, c4_, c5_, c6_, f0_, f1_, f2_, f3_, f4_, d5_, f5_, d6_, f6_, d7_, f7_, d8_, f8_, d9_, f9_, z3]) rfl ⟨rfl, by (repeat (first | (with_reducible exact Below.refl _ _) | (with_reducible exact HB.out) | (with_reducible refine below_draws ?_ _) | (with_reducible refine Below.alloc ?_ (by go_size) _) | (with_reducible refine Below.setCell ?_ (by go_size) _) | (with_reducible refine Below.alloc ?_ (by simp <;> omega) _) | (with_reducible refine Below.setCell ?_ (by simp <;> omega) _)))⟩
set_option maxHeartbeats 6400000 in
theorem Power_neg (A B n0 n1 n2 n3 d : Int) (n : Nat) (w : World) (hN : 0 < n) (hn : n ≤ 60) (hA : chkA A B = 0) (hq : chkQ n0 n1 n2 n3 d = 0) (hi : invE A B ⟨n0, n1, n2, n3, d⟩ = 0) (u : Q) (hs : invQ A B ⟨n0, n1, n2, n3, d⟩ = u) :
    Calls Tryd.prog 41 #[.agg #[.int .i64 A, .int .i64 B], .agg #[.int .i64 n0, .int .i64 n1, .int .i64 n2, .int .i64 n3, .int .i64 d], .int .i64 (-(n : Int))] w fun e w' => PwEnd A B u.w u.x u.y u.z u.d n w e w' := by
  have OK := Lib.hid (or2_ok hA hq)
  have HA := Lib.hid hA
  have hqs : chkQ u.w u.x u.y u.z u.d = 0 := by
    have := inv_chk hi
    rw [hs] at this
    unfold chkQ; rw [if_pos this]
  have HQ := Lib.hid hqs
  have IV := Lib.hid (fun W => inverse_v A B n0 n1 n2 n3 d W hA hq)
  rw [hs, hi] at IV
  have hwi : withinB (-(n : Int)) (-60) 60 = true := decide_eq_true (by omega)
  clear hA hq hs hi hqs
  go_enter Tryd.func41, Tryd.ntmps41
  go_wp2_with fail
  have hk : K_V2 A B n0 n1 n2 n3 d w.heap.size (w.heap.size + 1) (w.heap.size + 2) w (((w.alloc (.cells #[.int .i64 A, .int .i64 B] 23)).alloc (.cells #[.int .i64 n0, .int .i64 n1, .int .i64 n2, .int .i64 n3, .int .i64 d] 25)).alloc (.cells #[.int .i64 0, .int .i64 0, .int .i64 0, .int .i64 0, .int .i64 0] 25)) := ⟨by simp [go_sem], by simp [go_sem], by simp [go_sem], by (repeat (first | (with_reducible exact Below.refl _ _) | (with_reducible exact HB.out) | (with_reducible refine below_draws ?_ _) | (with_reducible refine Below.alloc ?_ (by go_size) _) | (with_reducible refine Below.setCell ?_ (by go_size) _) | (with_reducible refine Below.alloc ?_ (by simp <;> omega) _) | (with_reducible refine Below.setCell ?_ (by simp <;> omega) _)))⟩
  go_region_held3 (fun w' => (w'.cell? ⟨w.heap.size, 0, none⟩ = some (.int .i64 A) ∧ w'.cell? ⟨w.heap.size, 1, none⟩ = some (.int .i64 B) ∧ w'.cell? ⟨(w.heap.size + 1), 0, none⟩ = some (.int .i64 n0) ∧ w'.cell? ⟨(w.heap.size + 1), 1, none⟩ = some (.int .i64 n1) ∧ w'.cell? ⟨(w.heap.size + 1), 2, none⟩ = some (.int .i64 n2) ∧ w'.cell? ⟨(w.heap.size + 1), 3, none⟩ = some (.int .i64 n3) ∧ w'.cell? ⟨(w.heap.size + 1), 4, none⟩ = some (.int .i64 d) ∧ w'.frozen? ⟨(w.heap.size + 1), 0, none⟩ = false ∧ w'.frozen? ⟨(w.heap.size + 1), 1, none⟩ = false ∧ w'.frozen? ⟨(w.heap.size + 1), 2, none⟩ = false ∧ w'.frozen? ⟨(w.heap.size + 1), 3, none⟩ = false ∧ w'.frozen? ⟨(w.heap.size + 1), 4, none⟩ = false ∧ w'.cell? ⟨(w.heap.size + 2), 0, none⟩ = some (cv w' ((w.heap.size + 2)) 0) ∧ w'.frozen? ⟨(w.heap.size + 2), 0, none⟩ = false ∧ w'.cell? ⟨(w.heap.size + 2), 1, none⟩ = some (cv w' ((w.heap.size + 2)) 1) ∧ w'.frozen? ⟨(w.heap.size + 2), 1, none⟩ = false ∧ w'.cell? ⟨(w.heap.size + 2), 2, none⟩ = some (cv w' ((w.heap.size + 2)) 2) ∧ w'.frozen? ⟨(w.heap.size + 2), 2, none⟩ = false ∧ w'.cell? ⟨(w.heap.size + 2), 3, none⟩ = some (cv w' ((w.heap.size + 2)) 3) ∧ w'.frozen? ⟨(w.heap.size + 2), 3, none⟩ = false ∧ w'.cell? ⟨(w.heap.size + 2), 4, none⟩ = some (cv w' ((w.heap.size + 2)) 4) ∧ w'.frozen? ⟨(w.heap.size + 2), 4, none⟩ = false) ∧ K_V2 A B n0 n1 n2 n3 d w.heap.size (w.heap.size + 1) (w.heap.size + 2) w w') ((refine K_V2.ks ?_; repeat (first | (with_reducible assumption) | (with_reducible refine K_V2.draws _ ?_) | (with_reducible refine K_V2.drew ?_) | (with_reducible refine K_V2.alloc _ ?_) | (with_reducible refine K_V2.set ?_ _ _ _ (by omega)))))
    (first
      | (go_at_call 15; (with_reducible refine (Check_any _ _ _).mono ?_); rintro e w' ⟨rfl, hbel⟩; have hk' := K_V2.below hbel (And.right (by assumption)); clear hbel)
      | (go_at_call 17; (with_reducible refine (CheckQuat_any _ _ _ _ _ _).mono ?_); rintro e w' ⟨rfl, hbel⟩; have hk' := K_V2.below hbel (And.right (by assumption)); clear hbel)
      | (go_at_call 64; (with_reducible refine (Or_new _ _ _ _ _ ?_).mono ?_); rfl; rintro e w'' ⟨rfl, rfl⟩))
  all_goals
    (rename_i hh_; clear hh_; obtain ⟨c0_, c1_, c2_, c3_, c4_, c5_, c6_, f0_, f1_, f2_, f3_, f4_, d5_, f5_, d6_, f6_, d7_, f7_, d8_, f8_, d9_, f9_⟩ := K_V2.cells hk'; have HB := Lib.hid (K_V2.bel hk'))
    have z1 : w.heap.size + 2 < w'.heap.size := World.block_lt_of_cell? w' ⟨w.heap.size + 2, 0, none⟩ d5_
    have y0 : w.heap.size < w'.heap.size := by omega
    have y1 : w.heap.size + 1 < w'.heap.size := by omega
    rw [OK.out]
    go_wp2_with (go_at_call 57; refine (isWithin_any _ _ _ (by decide) (by decide)).mono ?_; rintro e w'' ⟨rfl, rfl⟩)
    refine (IV.out _).mono ?_
    rintro e w2 ⟨rfl, hb⟩
    have hK := K_V2.below hb (K_V2.alloc _ hk')
    clear hb c0_ c1_ c2_ c3_ c4_ c5_ c6_ f0_ f1_ f2_ f3_ f4_ d5_ f5_ d6_ f6_ d7_ f7_ d8_ f8_ d9_ f9_ HB z1 y0 y1
    obtain ⟨c0_, c1_, c2_, c3_, c4_, c5_, c6_, f0_, f1_, f2_, f3_, f4_, d5_, f5_, d6_, f6_, d7_, f7_, d8_, f8_, d9_, f9_⟩ := K_V2.cells hK
    have HV := Lib.hid (K_V2.bel hK)
    have z3 : w.heap.size + 2 < w2.heap.size := World.block_lt_of_cell? w2 ⟨w.heap.size + 2, 0, none⟩ d5_
    have y0 : w.heap.size < w2.heap.size := by omega
    have y1 : w.heap.size + 1 < w2.heap.size := by omega
    have q1 : w2.heap.size ≠ w.heap.size := by omega
    have q2 : w2.heap.size ≠ w.heap.size + 1 := by omega
    have q3 : w2.heap.size ≠ w.heap.size + 2 := by omega
    clear hK
    go_wp2_with fail
    go_loopw [45] (fun t45 wr => ∃ (k : Nat) (r : Q), (k ≤ n ∧ pwr A B ⟨u.w, u.x, u.y, u.z, u.d⟩ k = some r ∧ K_W A B u.w u.x u.y u.z u.d r.w r.x r.y r.z r.d w.heap.size (w.heap.size + 1) (w2.heap.size + 1) (w.heap.size + 2) w wr) ∧ t45 = .int .i64 k) (fun t45 _ => n - (intOf t45).toNat)
    case atStart =>
      have y2 : w.heap.size < w2.heap.size + 1 := by omega
      have y3 : w.heap.size + 1 < w2.heap.size + 1 := by omega
      have y4 : w.heap.size + 2 < w2.heap.size + 1 := by omega
      exact ⟨0, ⟨1, 0, 0, 0, 1⟩, ⟨Nat.zero_le _, rfl, ⟨by simp [go_sem, c0_, c1_, c2_, c3_, c4_, c5_, c6_, f0_, f1_, f2_, f3_, f4_, d5_, f5_, d6_, f6_, d7_, f7_, d8_, f8_, d9_, f9_, z3, q1, q2, q3, y0, y1, y2, y3, y4], by simp [go_sem, c0_, c1_, c2_, c3_, c4_, c5_, c6_, f0_, f1_, f2_, f3_, f4_, d5_, f5_, d6_, f6_, d7_, f7_, d8_, f8_, d9_, f9_, z3, q1, q2, q3, y0, y1, y2, y3, y4], by simp [go_sem, c0_, c1_, c2_, c3_, c4_, c5_, c6_, f0_, f1_, f2_, f3_, f4_, d5_, f5_, d6_, f6_, d7_, f7_, d8_, f8_, d9_, f9_, z3, q1, q2, q3, y0, y1, y2, y3, y4], by have HB := HV; (repeat (first | (with_reducible exact Below.refl _ _) | (with_reducible exact HB.out) | (with_reducible refine below_draws ?_ _) | (with_reducible refine Below.alloc ?_ (by go_size) _) | (with_reducible refine Below.setCell ?_ (by go_size) _) | (with_reducible refine Below.alloc ?_ (by simp <;> omega) _) | (with_reducible refine Below.setCell ?_ (by simp <;> omega) _)))⟩⟩, rfl⟩
    case round =>
      obtain ⟨k, r, ⟨hkn, hr, hK⟩, rfl⟩ := hrel
      clear c0_ c1_ c2_ c3_ c4_ c5_ c6_ f0_ f1_ f2_ f3_ f4_ d5_ f5_ d6_ f6_ d7_ f7_ d8_ f8_ d9_ f9_ hk'
      obtain ⟨wo, rfl⟩ : ∃ wo : World, wo = wr := ⟨_, rfl⟩
      obtain ⟨c0_, c1_, c2_, c3_, c4_, c5_, c6_, c7_, c8_, c9_, c10_, c11_, f0_, f1_, f2_, f3_, f4_, d5_, f5_, d6_, f6_, d7_, f7_, d8_, f8_, d9_, f9_⟩ := K_W.cells hK
      have HK := Lib.hid hK
      have HR := Lib.hid hr
      clear hK hr
      by_cases hlt : k < n
      · have hqr : chkQ r.w r.x r.y r.z r.d = 0 := by unfold chkQ; rw [if_pos (pwr_qB HR.out)]
        rcases hqb : qB (mulq A B r ⟨u.w, u.x, u.y, u.z, u.d⟩).low with _ | _
        · have MU := Lib.hid (fun W => mul_no (A := A) (B := B) (w := W) (Bn_A HA.out).1 (Bn_A HA.out).2 hqr HQ.out hqb)
          have HS := Lib.hid (pwr_stop HR.out hqb n hlt)
          clear hqr hqb
          go_wp2_with fail
          refine (MU.out _).mono ?_
          rintro e w5 ⟨rfl, hb⟩
          have hK := K_W.below hb HK.out
          clear hb c0_ c1_ c2_ c3_ c4_ c5_ c6_ c7_ c8_ c9_ c10_ c11_ f0_ f1_ f2_ f3_ f4_ d5_ f5_ d6_ f6_ d7_ f7_ d8_ f8_ d9_ f9_
          obtain ⟨c0_, c1_, c2_, c3_, c4_, c5_, c6_, c7_, c8_, c9_, c10_, c11_, f0_, f1_, f2_, f3_, f4_, d5_, f5_, d6_, f6_, d7_, f7_, d8_, f8_, d9_, f9_⟩ := K_W.cells hK
          have HB := Lib.hid (K_W.bel hK)
          have z2 : w2.heap.size + 1 < w5.heap.size := World.block_lt_of_cell? w5 ⟨w2.heap.size + 1, 0, none⟩ c7_
          have z3 : w.heap.size + 2 < w5.heap.size := World.block_lt_of_cell? w5 ⟨w.heap.size + 2, 0, none⟩ d5_
          have z4 : w.heap.size + 1 < w5.heap.size := by omega
          have z5 : w.heap.size < w5.heap.size := by omega
          clear hK
          go_wp2
          exact bodyPost_ret (v := .tuple #[.agg #[.int .i64 0, .int .i64 0, .int .i64 0, .int .i64 0, .int .i64 0], .int .i64 8]) (by simp [results, Tryd.results41, go_sem, c0_, c1_, c2_, c3_, c4_, c5_, c6_, c7_, c8_, c9_, c10_, c11_, f0_, f1_, f2_, f3_, f4_, d5_, f5_, d6_, f6_, d7_, f7_, d8_, f8_, d9_, f9_, z2, z3, z4, z5]) rfl ⟨by unfold pwrQ pwrE; rw [HS.out]; rfl, by (repeat (first | (with_reducible exact Below.refl _ _) | (with_reducible exact HB.out) | (with_reducible refine below_draws ?_ _) | (with_reducible refine Below.alloc ?_ (by go_size) _) | (with_reducible refine Below.setCell ?_ (by go_size) _) | (with_reducible refine Below.alloc ?_ (by simp <;> omega) _) | (with_reducible refine Below.setCell ?_ (by simp <;> omega) _)))⟩
        · obtain ⟨s, hs⟩ : ∃ s, (mulq A B r ⟨u.w, u.x, u.y, u.z, u.d⟩).low = s := ⟨_, rfl⟩
          have HN := Lib.hid (pwr_next HR.out hqb)
          have MU := Lib.hid (fun W => mul_yes (A := A) (B := B) (w := W) (Bn_A HA.out).1 (Bn_A HA.out).2 hqr HQ.out s hs (hs ▸ hqb))
          have HS := Lib.hid hs
          clear hqr hqb hs
          go_wp2_with fail
          refine (MU.out _).mono ?_
          rintro e w5 ⟨rfl, hb⟩
          have hK := K_W.below hb HK.out
          clear hb c0_ c1_ c2_ c3_ c4_ c5_ c6_ c7_ c8_ c9_ c10_ c11_ f0_ f1_ f2_ f3_ f4_ d5_ f5_ d6_ f6_ d7_ f7_ d8_ f8_ d9_ f9_
          obtain ⟨c0_, c1_, c2_, c3_, c4_, c5_, c6_, c7_, c8_, c9_, c10_, c11_, f0_, f1_, f2_, f3_, f4_, d5_, f5_, d6_, f6_, d7_, f7_, d8_, f8_, d9_, f9_⟩ := K_W.cells hK
          have HB := Lib.hid (K_W.bel hK)
          have z2 : w2.heap.size + 1 < w5.heap.size := World.block_lt_of_cell? w5 ⟨w2.heap.size + 1, 0, none⟩ c7_
          have z3 : w.heap.size + 2 < w5.heap.size := World.block_lt_of_cell? w5 ⟨w.heap.size + 2, 0, none⟩ d5_
          have z4 : w.heap.size + 1 < w5.heap.size := by omega
          have z5 : w.heap.size < w5.heap.size := by omega
          clear hK
          go_wp2
          have q1 : w2.heap.size ≠ w.heap.size := by omega
          have q2 : w2.heap.size + 1 ≠ w.heap.size := by omega
          have q3 : w2.heap.size ≠ w.heap.size + 1 := by omega
          have q4 : w.heap.size ≠ w2.heap.size := by omega
          have q5 : w.heap.size ≠ w2.heap.size + 1 := by omega
          have q6 : w.heap.size + 1 ≠ w2.heap.size := by omega
          go_roundw
          case rel => exact ⟨k + 1, s, ⟨by omega, by rw [HN.out, HS.out], ⟨by simp [go_sem, c0_, c1_, c2_, c3_, c4_, c5_, c6_, c7_, c8_, c9_, c10_, c11_, f0_, f1_, f2_, f3_, f4_, d5_, f5_, d6_, f6_, d7_, f7_, d8_, f8_, d9_, f9_, z2, z3, z4, z5, q1, q2, q3, q4, q5, q6], by simp [go_sem, c0_, c1_, c2_, c3_, c4_, c5_, c6_, c7_, c8_, c9_, c10_, c11_, f0_, f1_, f2_, f3_, f4_, d5_, f5_, d6_, f6_, d7_, f7_, d8_, f8_, d9_, f9_, z2, z3, z4, z5, q1, q2, q3, q4, q5, q6], by simp [go_sem, c0_, c1_, c2_, c3_, c4_, c5_, c6_, c7_, c8_, c9_, c10_, c11_, f0_, f1_, f2_, f3_, f4_, d5_, f5_, d6_, f6_, d7_, f7_, d8_, f8_, d9_, f9_, z2, z3, z4, z5, q1, q2, q3, q4, q5, q6], by (repeat (first | (with_reducible exact Below.refl _ _) | (with_reducible exact HB.out) | (with_reducible refine below_draws ?_ _) | (with_reducible refine Below.alloc ?_ (by go_size) _) | (with_reducible refine Below.setCell ?_ (by go_size) _) | (with_reducible refine Below.alloc ?_ (by simp <;> omega) _) | (with_reducible refine Below.setCell ?_ (by simp <;> omega) _)))⟩⟩, by go_num⟩
          case measure => simp [intOf]; omega
      · have hkn' : k = n := by omega
        have HN := Lib.hid hkn'
        have HB := Lib.hid (K_W.bel HK.out)
        have hlt' : decide (k < n) = false := decide_eq_false hlt
        clear hkn'
        go_wp2
        exact bodyPost_ret (v := .tuple #[.agg #[.int .i64 (r).w, .int .i64 (r).x, .int .i64 (r).y, .int .i64 (r).z, .int .i64 (r).d], .int .i64 0]) (by simp [results, Tryd.results41, go_sem, c0_, c1_, c2_, c3_, c4_, c5_, c6_, c7_, c8_, c9_, c10_, c11_, f0_, f1_, f2_, f3_, f4_, d5_, f5_, d6_, f6_, d7_, f7_, d8_, f8_, d9_, f9_]) rfl ⟨by unfold pwrQ pwrE; rw [← HN.out, HR.out]; rfl, by (repeat (first | (with_reducible exact Below.refl _ _) | (with_reducible exact HB.out) | (with_reducible refine below_draws ?_ _) | (with_reducible refine Below.alloc ?_ (by go_size) _) | (with_reducible refine Below.setCell ?_ (by go_size) _) | (with_reducible refine Below.alloc ?_ (by simp <;> omega) _) | (with_reducible refine Below.setCell ?_ (by simp <;> omega) _)))⟩
end Go.Proofs.YtjloanplhbbomaaDoor.Al
