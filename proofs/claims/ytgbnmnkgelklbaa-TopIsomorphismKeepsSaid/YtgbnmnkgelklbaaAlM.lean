/-
  WALKS: lists of elements and their errors; products with their errors; the reference's products and conjugates.
-/
import Derived.Test.YtgbnmnkgelklbaaAlP
import Derived.Test.YtgbnmnkgelklbaaLw0
namespace Go.Proofs.Ytgbnmnkgelklbaa.Al
open Go.RowKit
open Alm
set_option linter.unusedVariables false
set_option linter.unusedSimpArgs false
set_option maxRecDepth 100000
/-- what a walk keeps: cells, and that nothing that was there has turned -/
def K_TT (n0 n1 n2 n3 d m0 m1 m2 m3 f : Int) (bq : Nat) (w w' : World) : Prop := KL w [(bq, 0, .int .i64 n0), (bq, 1, .int .i64 n1), (bq, 2, .int .i64 n2), (bq, 3, .int .i64 n3), (bq, 4, .int .i64 d), (bq, 5, .int .i64 m0), (bq, 6, .int .i64 m1), (bq, 7, .int .i64 m2), (bq, 8, .int .i64 m3), (bq, 9, .int .i64 f)] [] w'
theorem K_TT.below {n0 n1 n2 n3 d m0 m1 m2 m3 f : Int} {bq : Nat} {w w1 w2 : World} (hb : Below w1.heap.size w1 w2) (h : K_TT n0 n1 n2 n3 d m0 m1 m2 m3 f bq w w1) : K_TT n0 n1 n2 n3 d m0 m1 m2 m3 f bq w w2 := KL.below hb h
theorem K_TT.draws {n0 n1 n2 n3 d m0 m1 m2 m3 f : Int} {bq : Nat} {w w1 : World} (n : Nat) (h : K_TT n0 n1 n2 n3 d m0 m1 m2 m3 f bq w w1) : K_TT n0 n1 n2 n3 d m0 m1 m2 m3 f bq w (w1.drewN n) := KL.draws n h
theorem K_TT.drew {n0 n1 n2 n3 d m0 m1 m2 m3 f : Int} {bq : Nat} {w w1 : World} (h : K_TT n0 n1 n2 n3 d m0 m1 m2 m3 f bq w w1) : K_TT n0 n1 n2 n3 d m0 m1 m2 m3 f bq w w1.drew := KL.draws 1 h
theorem K_TT.alloc {n0 n1 n2 n3 d m0 m1 m2 m3 f : Int} {bq : Nat} {w w1 : World} (o : Obj) (h : K_TT n0 n1 n2 n3 d m0 m1 m2 m3 f bq w w1) : K_TT n0 n1 n2 n3 d m0 m1 m2 m3 f bq w (w1.alloc o) := KL.alloc o h
theorem K_TT.set {n0 n1 n2 n3 d m0 m1 m2 m3 f : Int} {bq : Nat} {w w1 : World} (h : K_TT n0 n1 n2 n3 d m0 m1 m2 m3 f bq w w1) (b i : Nat) (v : Value) (hb : b ≠ bq ∧ w.heap.size ≤ b) : K_TT n0 n1 n2 n3 d m0 m1 m2 m3 f bq w (w1.setCell ⟨b, i, none⟩ v) :=
  KL.set h b i v (by intro x hx; simp only [List.mem_cons, List.not_mem_nil, or_false] at hx; rcases hx with rfl | rfl | rfl | rfl | rfl | rfl | rfl | rfl | rfl | rfl <;> simp only [] <;> omega) (by omega)
theorem K_TT.bel {n0 n1 n2 n3 d m0 m1 m2 m3 f : Int} {bq : Nat} {w w1 : World} (h : K_TT n0 n1 n2 n3 d m0 m1 m2 m3 f bq w w1) : Below w.heap.size w w1 := KL.bel h
theorem K_TT.cells {n0 n1 n2 n3 d m0 m1 m2 m3 f : Int} {bq : Nat} {w w' : World} (h : K_TT n0 n1 n2 n3 d m0 m1 m2 m3 f bq w w') : w'.cell? ⟨bq, 0, none⟩ = some (.int .i64 n0) ∧ w'.cell? ⟨bq, 1, none⟩ = some (.int .i64 n1) ∧ w'.cell? ⟨bq, 2, none⟩ = some (.int .i64 n2) ∧ w'.cell? ⟨bq, 3, none⟩ = some (.int .i64 n3) ∧ w'.cell? ⟨bq, 4, none⟩ = some (.int .i64 d) ∧ w'.cell? ⟨bq, 5, none⟩ = some (.int .i64 m0) ∧ w'.cell? ⟨bq, 6, none⟩ = some (.int .i64 m1) ∧ w'.cell? ⟨bq, 7, none⟩ = some (.int .i64 m2) ∧ w'.cell? ⟨bq, 8, none⟩ = some (.int .i64 m3) ∧ w'.cell? ⟨bq, 9, none⟩ = some (.int .i64 f) := ⟨h.c (bq, 0, .int .i64 n0) (by simp), h.c (bq, 1, .int .i64 n1) (by simp), h.c (bq, 2, .int .i64 n2) (by simp), h.c (bq, 3, .int .i64 n3) (by simp), h.c (bq, 4, .int .i64 d) (by simp), h.c (bq, 5, .int .i64 m0) (by simp), h.c (bq, 6, .int .i64 m1) (by simp), h.c (bq, 7, .int .i64 m2) (by simp), h.c (bq, 8, .int .i64 m3) (by simp), h.c (bq, 9, .int .i64 f) (by simp)⟩
theorem K_TT.zs {n0 n1 n2 n3 d m0 m1 m2 m3 f : Int} {bq : Nat} {w w' : World} (h : K_TT n0 n1 n2 n3 d m0 m1 m2 m3 f bq w w') : bq < w'.heap.size ∧ True := ⟨KL.z h (x := (bq, 0, .int .i64 n0)) (by simp), trivial⟩
theorem K_TT.ks {n0 n1 n2 n3 d m0 m1 m2 m3 f : Int} {bq : Nat} {w w' : World} (h : K_TT n0 n1 n2 n3 d m0 m1 m2 m3 f bq w w') : (w'.cell? ⟨bq, 0, none⟩ = some (.int .i64 n0) ∧ w'.cell? ⟨bq, 1, none⟩ = some (.int .i64 n1) ∧ w'.cell? ⟨bq, 2, none⟩ = some (.int .i64 n2) ∧ w'.cell? ⟨bq, 3, none⟩ = some (.int .i64 n3) ∧ w'.cell? ⟨bq, 4, none⟩ = some (.int .i64 d) ∧ w'.cell? ⟨bq, 5, none⟩ = some (.int .i64 m0) ∧ w'.cell? ⟨bq, 6, none⟩ = some (.int .i64 m1) ∧ w'.cell? ⟨bq, 7, none⟩ = some (.int .i64 m2) ∧ w'.cell? ⟨bq, 8, none⟩ = some (.int .i64 m3) ∧ w'.cell? ⟨bq, 9, none⟩ = some (.int .i64 f)) ∧ K_TT n0 n1 n2 n3 d m0 m1 m2 m3 f bq w w' := ⟨h.cells, h⟩
theorem or2_ne {x y : Int} (h : x ≠ 0) : or2 x y = x := by unfold or2; rw [if_neg h]
theorem or2_z {y : Int} : or2 0 y = y := by unfold or2; rw [if_pos rfl]
set_option maxHeartbeats 1600000 in
theorem checkQuats_two (n0 n1 n2 n3 d m0 m1 m2 m3 f : Int) (b c : Nat) (w : World) (h : K_TT n0 n1 n2 n3 d m0 m1 m2 m3 f b w w) (hc : 2 ≤ c) (hc' : c ≤ 9223372036854775807) :
    Calls Try.prog 45 #[.slice (some ⟨b, 0, none⟩) 2 c] w fun e w' => e = .returned (.int .i64 (or2 (chkQ n0 n1 n2 n3 d) (chkQ m0 m1 m2 m3 f))) ∧ Below w.heap.size w w' := by
  have hK := h
  clear h
  by_cases hp : chkQ n0 n1 n2 n3 d = 0
  · by_cases hq : chkQ m0 m1 m2 m3 f = 0
    · rw [hp, hq, or2_z]
      have HP := Lib.hid hp
      have HQ := Lib.hid hq
      clear hp hq
      obtain ⟨c0_, c1_, c2_, c3_, c4_, c5_, c6_, c7_, c8_, c9_⟩ := K_TT.cells hK; obtain ⟨z0_, -⟩ := K_TT.zs hK; have HK := Lib.hid hK; clear hK
      go_enter Try.func45, Try.ntmps45
      go_wp2
      refine wp_loop_rounds 3 ?_
      rw [rounds_succ]
      go_wp2_with fail
      refine (CheckQuat_any _ _ _ _ _ _).mono ?_
      rintro e w1 ⟨rfl, hb⟩
      rw [HP.out]
      clear c0_ c1_ c2_ c3_ c4_ c5_ c6_ c7_ c8_ c9_ z0_
      have hK := K_TT.below hb (K_TT.alloc _ HK.out)
      clear hb HK
      obtain ⟨c0_, c1_, c2_, c3_, c4_, c5_, c6_, c7_, c8_, c9_⟩ := K_TT.cells hK; obtain ⟨z0_, -⟩ := K_TT.zs hK; have HK := Lib.hid hK; clear hK
      go_wp2
      rw [rounds_succ]
      go_wp2_with fail
      refine (CheckQuat_any _ _ _ _ _ _).mono ?_
      rintro e w2 ⟨rfl, hb⟩
      rw [HQ.out]
      clear c0_ c1_ c2_ c3_ c4_ c5_ c6_ c7_ c8_ c9_ z0_
      have hK := K_TT.below hb (K_TT.alloc _ HK.out)
      clear hb HK
      obtain ⟨c0_, c1_, c2_, c3_, c4_, c5_, c6_, c7_, c8_, c9_⟩ := K_TT.cells hK; obtain ⟨z0_, -⟩ := K_TT.zs hK; have HK := Lib.hid hK; clear hK
      go_wp2
      rw [rounds_succ]
      go_wp2
      go_ret
      exact ⟨rfl, K_TT.bel HK.out⟩
    · rw [hp, or2_z]
      have HP := Lib.hid hp
      have ht : (chkQ m0 m1 m2 m3 f != 0) = true := by rw [bne_iff_ne]; exact hq
      clear hp hq
      obtain ⟨c0_, c1_, c2_, c3_, c4_, c5_, c6_, c7_, c8_, c9_⟩ := K_TT.cells hK; obtain ⟨z0_, -⟩ := K_TT.zs hK; have HK := Lib.hid hK; clear hK
      go_enter Try.func45, Try.ntmps45
      go_wp2
      refine wp_loop_rounds 2 ?_
      rw [rounds_succ]
      go_wp2_with fail
      refine (CheckQuat_any _ _ _ _ _ _).mono ?_
      rintro e w1 ⟨rfl, hb⟩
      rw [HP.out]
      clear c0_ c1_ c2_ c3_ c4_ c5_ c6_ c7_ c8_ c9_ z0_
      have hK := K_TT.below hb (K_TT.alloc _ HK.out)
      clear hb HK
      obtain ⟨c0_, c1_, c2_, c3_, c4_, c5_, c6_, c7_, c8_, c9_⟩ := K_TT.cells hK; obtain ⟨z0_, -⟩ := K_TT.zs hK; have HK := Lib.hid hK; clear hK
      go_wp2
      rw [rounds_succ]
      go_wp2_with fail
      refine (CheckQuat_any _ _ _ _ _ _).mono ?_
      rintro e w2 ⟨rfl, hb⟩
      clear c0_ c1_ c2_ c3_ c4_ c5_ c6_ c7_ c8_ c9_ z0_
      have hK := K_TT.below hb (K_TT.alloc _ HK.out)
      clear hb HK
      obtain ⟨c0_, c1_, c2_, c3_, c4_, c5_, c6_, c7_, c8_, c9_⟩ := K_TT.cells hK; obtain ⟨z0_, -⟩ := K_TT.zs hK; have HK := Lib.hid hK; clear hK
      go_wp2
      go_ret
      exact ⟨rfl, K_TT.bel HK.out⟩
  · rw [or2_ne hp]
    have ht : (chkQ n0 n1 n2 n3 d != 0) = true := by rw [bne_iff_ne]; exact hp
    clear hp
    obtain ⟨c0_, c1_, c2_, c3_, c4_, c5_, c6_, c7_, c8_, c9_⟩ := K_TT.cells hK; obtain ⟨z0_, -⟩ := K_TT.zs hK; have HK := Lib.hid hK; clear hK
    go_enter Try.func45, Try.ntmps45
    go_wp2
    refine wp_loop_rounds 1 ?_
    rw [rounds_succ]
    go_wp2_with fail
    refine (CheckQuat_any _ _ _ _ _ _).mono ?_
    rintro e w1 ⟨rfl, hb⟩
    clear c0_ c1_ c2_ c3_ c4_ c5_ c6_ c7_ c8_ c9_ z0_
    have hK := K_TT.below hb (K_TT.alloc _ HK.out)
    clear hb HK
    obtain ⟨c0_, c1_, c2_, c3_, c4_, c5_, c6_, c7_, c8_, c9_⟩ := K_TT.cells hK; obtain ⟨z0_, -⟩ := K_TT.zs hK; have HK := Lib.hid hK; clear hK
    go_wp2
    go_ret
    exact ⟨rfl, K_TT.bel HK.out⟩
theorem tt_new (n0 n1 n2 n3 d m0 m1 m2 m3 f : Int) (T : TypeId) (w : World) (n : Nat) (hn : n = w.heap.size) : K_TT n0 n1 n2 n3 d m0 m1 m2 m3 f n (w.alloc (.cells #[.int .i64 n0, .int .i64 n1, .int .i64 n2, .int .i64 n3, .int .i64 d, .int .i64 m0, .int .i64 m1, .int .i64 m2, .int .i64 m3, .int .i64 f] T)) (w.alloc (.cells #[.int .i64 n0, .int .i64 n1, .int .i64 n2, .int .i64 n3, .int .i64 d, .int .i64 m0, .int .i64 m1, .int .i64 m2, .int .i64 m3, .int .i64 f] T)) := by
  subst hn
  exact ⟨by simp [go_sem], by simp, by simp, Below.refl _ _⟩
theorem checkQuats_new (n0 n1 n2 n3 d m0 m1 m2 m3 f : Int) (T : TypeId) (w : World) (n : Nat) (hn : n = w.heap.size) :
    Calls Try.prog 45 #[.slice (some ⟨n, 0, none⟩) 2 2] (w.alloc (.cells #[.int .i64 n0, .int .i64 n1, .int .i64 n2, .int .i64 n3, .int .i64 d, .int .i64 m0, .int .i64 m1, .int .i64 m2, .int .i64 m3, .int .i64 f] T)) fun e w' => e = .returned (.int .i64 (or2 (chkQ n0 n1 n2 n3 d) (chkQ m0 m1 m2 m3 f))) ∧ Below (w.alloc (.cells #[.int .i64 n0, .int .i64 n1, .int .i64 n2, .int .i64 n3, .int .i64 d, .int .i64 m0, .int .i64 m1, .int .i64 m2, .int .i64 m3, .int .i64 f] T)).heap.size (w.alloc (.cells #[.int .i64 n0, .int .i64 n1, .int .i64 n2, .int .i64 n3, .int .i64 d, .int .i64 m0, .int .i64 m1, .int .i64 m2, .int .i64 m3, .int .i64 f] T)) w' :=
  checkQuats_two n0 n1 n2 n3 d m0 m1 m2 m3 f n 2 _ (tt_new _ _ _ _ _ _ _ _ _ _ _ _ _ hn) (by decide) (by decide)
theorem checkQuats_after {n0 n1 n2 n3 d m0 m1 m2 m3 f : Int} {T : TypeId} {w W : World} (hb : Below (w.alloc (.cells #[.int .i64 n0, .int .i64 n1, .int .i64 n2, .int .i64 n3, .int .i64 d, .int .i64 m0, .int .i64 m1, .int .i64 m2, .int .i64 m3, .int .i64 f] T)).drew.heap.size (w.alloc (.cells #[.int .i64 n0, .int .i64 n1, .int .i64 n2, .int .i64 n3, .int .i64 d, .int .i64 m0, .int .i64 m1, .int .i64 m2, .int .i64 m3, .int .i64 f] T)).drew W) (n : Nat) (hn : n = w.heap.size) :
    Calls Try.prog 45 #[.slice (some ⟨n, 0, none⟩) 2 2] W fun e w' => e = .returned (.int .i64 (or2 (chkQ n0 n1 n2 n3 d) (chkQ m0 m1 m2 m3 f))) ∧ Below W.heap.size W w' := by
  subst hn
  have h : KL _ _ _ W := KL.below hb (K_TT.drew (tt_new n0 n1 n2 n3 d m0 m1 m2 m3 f T w _ rfl))
  exact checkQuats_two n0 n1 n2 n3 d m0 m1 m2 m3 f w.heap.size 2 W ⟨h.c, h.g, h.f, Below.refl _ _⟩ (by decide) (by decide)
/-- the first error of an algebra and two elements -/
def err3 (A B n0 n1 n2 n3 d m0 m1 m2 m3 f : Int) : Int := or2 (chkA A B) (or2 (chkQ n0 n1 n2 n3 d) (chkQ m0 m1 m2 m3 f))
theorem or2_eq0 {x y : Int} (h : or2 x y = 0) : x = 0 ∧ y = 0 := by
  unfold or2 at h
  split at h
  · exact ⟨by assumption, h⟩
  · omega
set_option maxHeartbeats 3200000 in
theorem Mul_err (A B n0 n1 n2 n3 d m0 m1 m2 m3 f : Int) (w : World) (h : err3 A B n0 n1 n2 n3 d m0 m1 m2 m3 f ≠ 0) :
    Calls Try.prog 18 #[.agg #[.int .i64 A, .int .i64 B], .agg #[.int .i64 n0, .int .i64 n1, .int .i64 n2, .int .i64 n3, .int .i64 d], .agg #[.int .i64 m0, .int .i64 m1, .int .i64 m2, .int .i64 m3, .int .i64 f]] w fun e w' => e = .returned (.tuple #[.agg #[.int .i64 0, .int .i64 0, .int .i64 0, .int .i64 0, .int .i64 0], .int .i64 (err3 A B n0 n1 n2 n3 d m0 m1 m2 m3 f)]) ∧ Below w.heap.size w w' := by
  have ht : (or2 (chkA A B) (or2 (chkQ n0 n1 n2 n3 d) (chkQ m0 m1 m2 m3 f)) != 0) = true := by rw [bne_iff_ne]; exact h
  clear h
  go_enter Try.func18, Try.ntmps18
  go_wp2_with fail
  have hk : K_M A B n0 n1 n2 n3 d m0 m1 m2 m3 f w.heap.size (w.heap.size + 1) (w.heap.size + 2) (w.heap.size + 3) w ((((w.alloc (.cells #[.int .i64 A, .int .i64 B] 23)).alloc (.cells #[.int .i64 n0, .int .i64 n1, .int .i64 n2, .int .i64 n3, .int .i64 d] 35)).alloc (.cells #[.int .i64 m0, .int .i64 m1, .int .i64 m2, .int .i64 m3, .int .i64 f] 35)).alloc (.cells #[.int .i64 0, .int .i64 0, .int .i64 0, .int .i64 0, .int .i64 0] 35)) := ⟨by simp [go_sem], by simp [go_sem], by simp [go_sem], by (repeat (first | (with_reducible exact Below.refl _ _) | (with_reducible exact HB.out) | (with_reducible refine below_draws ?_ _) | (with_reducible refine Below.alloc ?_ (by go_size) _) | (with_reducible refine Below.setCell ?_ (by go_size) _) | (with_reducible refine Below.alloc ?_ (by simp <;> omega) _) | (with_reducible refine Below.setCell ?_ (by simp <;> omega) _)))⟩
  go_region_held3 (fun w' => (w'.cell? ⟨w.heap.size, 0, none⟩ = some (.int .i64 A) ∧ w'.cell? ⟨w.heap.size, 1, none⟩ = some (.int .i64 B) ∧ w'.cell? ⟨(w.heap.size + 1), 0, none⟩ = some (.int .i64 n0) ∧ w'.cell? ⟨(w.heap.size + 1), 1, none⟩ = some (.int .i64 n1) ∧ w'.cell? ⟨(w.heap.size + 1), 2, none⟩ = some (.int .i64 n2) ∧ w'.cell? ⟨(w.heap.size + 1), 3, none⟩ = some (.int .i64 n3) ∧ w'.cell? ⟨(w.heap.size + 1), 4, none⟩ = some (.int .i64 d) ∧ w'.cell? ⟨(w.heap.size + 2), 0, none⟩ = some (.int .i64 m0) ∧ w'.cell? ⟨(w.heap.size + 2), 1, none⟩ = some (.int .i64 m1) ∧ w'.cell? ⟨(w.heap.size + 2), 2, none⟩ = some (.int .i64 m2) ∧ w'.cell? ⟨(w.heap.size + 2), 3, none⟩ = some (.int .i64 m3) ∧ w'.cell? ⟨(w.heap.size + 2), 4, none⟩ = some (.int .i64 f) ∧ w'.cell? ⟨(w.heap.size + 3), 0, none⟩ = some (cv w' ((w.heap.size + 3)) 0) ∧ w'.frozen? ⟨(w.heap.size + 3), 0, none⟩ = false ∧ w'.cell? ⟨(w.heap.size + 3), 1, none⟩ = some (cv w' ((w.heap.size + 3)) 1) ∧ w'.frozen? ⟨(w.heap.size + 3), 1, none⟩ = false ∧ w'.cell? ⟨(w.heap.size + 3), 2, none⟩ = some (cv w' ((w.heap.size + 3)) 2) ∧ w'.frozen? ⟨(w.heap.size + 3), 2, none⟩ = false ∧ w'.cell? ⟨(w.heap.size + 3), 3, none⟩ = some (cv w' ((w.heap.size + 3)) 3) ∧ w'.frozen? ⟨(w.heap.size + 3), 3, none⟩ = false ∧ w'.cell? ⟨(w.heap.size + 3), 4, none⟩ = some (cv w' ((w.heap.size + 3)) 4) ∧ w'.frozen? ⟨(w.heap.size + 3), 4, none⟩ = false) ∧ K_M A B n0 n1 n2 n3 d m0 m1 m2 m3 f w.heap.size (w.heap.size + 1) (w.heap.size + 2) (w.heap.size + 3) w w') ((refine K_M.ks ?_; repeat (first | (with_reducible assumption) | (with_reducible refine K_M.draws _ ?_) | (with_reducible refine K_M.drew ?_) | (with_reducible refine K_M.alloc _ ?_) | (with_reducible refine K_M.set ?_ _ _ _ (by omega)))))
    (first
      | (go_at_call 27; (with_reducible refine (Check_any _ _ _).mono ?_); rintro e w' ⟨rfl, hbC⟩; have hk' := K_M.below hbC (And.right (by assumption)))
      | (go_at_call 45; (with_reducible refine (checkQuats_new _ _ _ _ _ _ _ _ _ _ _ _ _ ?_).mono ?_); rfl; rintro e w' ⟨rfl, hbel⟩; have hk' := K_M.below hbel (And.right (by assumption)); clear hbel)
      | (go_at_call 38; (with_reducible refine (Or_new _ _ _ _ _ ?_).mono ?_); rfl; rintro e w'' ⟨rfl, rfl⟩)
      | (go_at_call 45; have hq := fun n hn => checkQuats_after hbC n hn; replace hq := hq (w.heap.size + 1 + 1 + 1 + 1) (by simp); refine hq.mono ?_; rintro e w' ⟨rfl, hbel⟩; have hk' := K_M.below hbel (And.right (by assumption)); clear hbel hq))
  all_goals
    (rename_i hh_; clear hh_; obtain ⟨c0_, c1_, c2_, c3_, c4_, c5_, c6_, c7_, c8_, c9_, c10_, c11_, d0_, f0_, d1_, f1_, d2_, f2_, d3_, f3_, d4_, f4_⟩ := K_M.cells hk'; have HB := Lib.hid (K_M.bel hk'))
    have z1 : w.heap.size + 3 < w'.heap.size := World.block_lt_of_cell? w' ⟨w.heap.size + 3, 0, none⟩ d0_
    go_wp2
    exact bodyPost_ret (v := .tuple #[.agg #[.int .i64 0, .int .i64 0, .int .i64 0, .int .i64 0, .int .i64 0], .int .i64 (or2 (chkA A B) (or2 (chkQ n0 n1 n2 n3 d) (chkQ m0 m1 m2 m3 f)))]) (by simp [results, Try.results18, go_sem, c0_, c1_, c2_, c3_, c4_, c5_, c6_, c7_, c8_, c9_, c10_, c11_, d0_, f0_, d1_, f1_, d2_, f2_, d3_, f3_, d4_, f4_, z1]) rfl ⟨rfl, by (repeat (first | (with_reducible exact Below.refl _ _) | (with_reducible exact HB.out) | (with_reducible refine below_draws ?_ _) | (with_reducible refine Below.alloc ?_ (by go_size) _) | (with_reducible refine Below.setCell ?_ (by go_size) _) | (with_reducible refine Below.alloc ?_ (by simp <;> omega) _) | (with_reducible refine Below.setCell ?_ (by simp <;> omega) _)))⟩
set_option maxHeartbeats 3200000 in
theorem Mul_ok (A B n0 n1 n2 n3 d m0 m1 m2 m3 f : Int) (w : World) (h : err3 A B n0 n1 n2 n3 d m0 m1 m2 m3 f = 0) :
    Calls Try.prog 18 #[.agg #[.int .i64 A, .int .i64 B], .agg #[.int .i64 n0, .int .i64 n1, .int .i64 n2, .int .i64 n3, .int .i64 d], .agg #[.int .i64 m0, .int .i64 m1, .int .i64 m2, .int .i64 m3, .int .i64 f]] w fun e w' => e = .returned (.tuple #[.agg #[.int .i64 (fitQ (mulq A B ⟨n0, n1, n2, n3, d⟩ ⟨m0, m1, m2, m3, f⟩)).w, .int .i64 (fitQ (mulq A B ⟨n0, n1, n2, n3, d⟩ ⟨m0, m1, m2, m3, f⟩)).x, .int .i64 (fitQ (mulq A B ⟨n0, n1, n2, n3, d⟩ ⟨m0, m1, m2, m3, f⟩)).y, .int .i64 (fitQ (mulq A B ⟨n0, n1, n2, n3, d⟩ ⟨m0, m1, m2, m3, f⟩)).z, .int .i64 (fitQ (mulq A B ⟨n0, n1, n2, n3, d⟩ ⟨m0, m1, m2, m3, f⟩)).d], .int .i64 (fitE (mulq A B ⟨n0, n1, n2, n3, d⟩ ⟨m0, m1, m2, m3, f⟩))]) ∧ Below w.heap.size w w' := by
  obtain ⟨e1, e23⟩ := or2_eq0 h
  obtain ⟨e2, e3⟩ := or2_eq0 e23
  clear e23
  have MU := Lib.hid (fun W => mul_any A B n0 n1 n2 n3 d m0 m1 m2 m3 f W (Bn_A e1).1 (Bn_A e1).2 e2 e3)
  have H := Lib.hid h
  obtain ⟨s, hs⟩ : ∃ s, fitQ (mulq A B ⟨n0, n1, n2, n3, d⟩ ⟨m0, m1, m2, m3, f⟩) = s := ⟨_, rfl⟩
  obtain ⟨t, ht⟩ : ∃ t, fitE (mulq A B ⟨n0, n1, n2, n3, d⟩ ⟨m0, m1, m2, m3, f⟩) = t := ⟨_, rfl⟩
  rw [hs, ht] at MU ⊢
  clear h e1 e2 e3 hs ht
  go_enter Try.func18, Try.ntmps18
  go_wp2_with fail
  have hk : K_M A B n0 n1 n2 n3 d m0 m1 m2 m3 f w.heap.size (w.heap.size + 1) (w.heap.size + 2) (w.heap.size + 3) w ((((w.alloc (.cells #[.int .i64 A, .int .i64 B] 23)).alloc (.cells #[.int .i64 n0, .int .i64 n1, .int .i64 n2, .int .i64 n3, .int .i64 d] 35)).alloc (.cells #[.int .i64 m0, .int .i64 m1, .int .i64 m2, .int .i64 m3, .int .i64 f] 35)).alloc (.cells #[.int .i64 0, .int .i64 0, .int .i64 0, .int .i64 0, .int .i64 0] 35)) := ⟨by simp [go_sem], by simp [go_sem], by simp [go_sem], by (repeat (first | (with_reducible exact Below.refl _ _) | (with_reducible exact HB.out) | (with_reducible refine below_draws ?_ _) | (with_reducible refine Below.alloc ?_ (by go_size) _) | (with_reducible refine Below.setCell ?_ (by go_size) _) | (with_reducible refine Below.alloc ?_ (by simp <;> omega) _) | (with_reducible refine Below.setCell ?_ (by simp <;> omega) _)))⟩
  go_region_held3 (fun w' => (w'.cell? ⟨w.heap.size, 0, none⟩ = some (.int .i64 A) ∧ w'.cell? ⟨w.heap.size, 1, none⟩ = some (.int .i64 B) ∧ w'.cell? ⟨(w.heap.size + 1), 0, none⟩ = some (.int .i64 n0) ∧ w'.cell? ⟨(w.heap.size + 1), 1, none⟩ = some (.int .i64 n1) ∧ w'.cell? ⟨(w.heap.size + 1), 2, none⟩ = some (.int .i64 n2) ∧ w'.cell? ⟨(w.heap.size + 1), 3, none⟩ = some (.int .i64 n3) ∧ w'.cell? ⟨(w.heap.size + 1), 4, none⟩ = some (.int .i64 d) ∧ w'.cell? ⟨(w.heap.size + 2), 0, none⟩ = some (.int .i64 m0) ∧ w'.cell? ⟨(w.heap.size + 2), 1, none⟩ = some (.int .i64 m1) ∧ w'.cell? ⟨(w.heap.size + 2), 2, none⟩ = some (.int .i64 m2) ∧ w'.cell? ⟨(w.heap.size + 2), 3, none⟩ = some (.int .i64 m3) ∧ w'.cell? ⟨(w.heap.size + 2), 4, none⟩ = some (.int .i64 f) ∧ w'.cell? ⟨(w.heap.size + 3), 0, none⟩ = some (cv w' ((w.heap.size + 3)) 0) ∧ w'.frozen? ⟨(w.heap.size + 3), 0, none⟩ = false ∧ w'.cell? ⟨(w.heap.size + 3), 1, none⟩ = some (cv w' ((w.heap.size + 3)) 1) ∧ w'.frozen? ⟨(w.heap.size + 3), 1, none⟩ = false ∧ w'.cell? ⟨(w.heap.size + 3), 2, none⟩ = some (cv w' ((w.heap.size + 3)) 2) ∧ w'.frozen? ⟨(w.heap.size + 3), 2, none⟩ = false ∧ w'.cell? ⟨(w.heap.size + 3), 3, none⟩ = some (cv w' ((w.heap.size + 3)) 3) ∧ w'.frozen? ⟨(w.heap.size + 3), 3, none⟩ = false ∧ w'.cell? ⟨(w.heap.size + 3), 4, none⟩ = some (cv w' ((w.heap.size + 3)) 4) ∧ w'.frozen? ⟨(w.heap.size + 3), 4, none⟩ = false) ∧ K_M A B n0 n1 n2 n3 d m0 m1 m2 m3 f w.heap.size (w.heap.size + 1) (w.heap.size + 2) (w.heap.size + 3) w w') ((refine K_M.ks ?_; repeat (first | (with_reducible assumption) | (with_reducible refine K_M.draws _ ?_) | (with_reducible refine K_M.drew ?_) | (with_reducible refine K_M.alloc _ ?_) | (with_reducible refine K_M.set ?_ _ _ _ (by omega)))))
    (first
      | (go_at_call 27; (with_reducible refine (Check_any _ _ _).mono ?_); rintro e w' ⟨rfl, hbC⟩; have hk' := K_M.below hbC (And.right (by assumption)))
      | (go_at_call 45; (with_reducible refine (checkQuats_new _ _ _ _ _ _ _ _ _ _ _ _ _ ?_).mono ?_); rfl; rintro e w' ⟨rfl, hbel⟩; have hk' := K_M.below hbel (And.right (by assumption)); clear hbel)
      | (go_at_call 38; (with_reducible refine (Or_new _ _ _ _ _ ?_).mono ?_); rfl; rintro e w'' ⟨rfl, rfl⟩)
      | (go_at_call 45; have hq := fun n hn => checkQuats_after hbC n hn; replace hq := hq (w.heap.size + 1 + 1 + 1 + 1) (by simp); refine hq.mono ?_; rintro e w' ⟨rfl, hbel⟩; have hk' := K_M.below hbel (And.right (by assumption)); clear hbel hq))
  all_goals
    (rename_i hh_; clear hh_; obtain ⟨c0_, c1_, c2_, c3_, c4_, c5_, c6_, c7_, c8_, c9_, c10_, c11_, d0_, f0_, d1_, f1_, d2_, f2_, d3_, f3_, d4_, f4_⟩ := K_M.cells hk'; have HB := Lib.hid (K_M.bel hk'))
    have z1 : w.heap.size + 3 < w'.heap.size := World.block_lt_of_cell? w' ⟨w.heap.size + 3, 0, none⟩ d0_
    have y0 : w.heap.size < w'.heap.size := by omega
    have y1 : w.heap.size + 1 < w'.heap.size := by omega
    have y2 : w.heap.size + 2 < w'.heap.size := by omega
    have ok : (or2 (chkA A B) (or2 (chkQ n0 n1 n2 n3 d) (chkQ m0 m1 m2 m3 f)) != 0) = false := by rw [show or2 (chkA A B) (or2 (chkQ n0 n1 n2 n3 d) (chkQ m0 m1 m2 m3 f)) = 0 from H.out]; rfl
    go_wp2_with fail
    refine (MU.out _).mono ?_
    rintro e w2 ⟨rfl, hb⟩
    have hK := K_M.below hb (K_M.alloc _ hk')
    clear hb c0_ c1_ c2_ c3_ c4_ c5_ c6_ c7_ c8_ c9_ c10_ c11_ d0_ f0_ d1_ f1_ d2_ f2_ d3_ f3_ d4_ f4_ HB
    obtain ⟨c0_, c1_, c2_, c3_, c4_, c5_, c6_, c7_, c8_, c9_, c10_, c11_, d0_, f0_, d1_, f1_, d2_, f2_, d3_, f3_, d4_, f4_⟩ := K_M.cells hK
    have HB := Lib.hid (K_M.bel hK)
    clear hK
    go_wp2
    exact bodyPost_ret (v := .tuple #[.agg #[.int .i64 (s).w, .int .i64 (s).x, .int .i64 (s).y, .int .i64 (s).z, .int .i64 (s).d], .int .i64 t]) (by simp [results, Try.results18, go_sem, c0_, c1_, c2_, c3_, c4_, c5_, c6_, c7_, c8_, c9_, c10_, c11_, d0_, f0_, d1_, f1_, d2_, f2_, d3_, f3_, d4_, f4_]) rfl ⟨rfl, by (repeat (first | (with_reducible exact Below.refl _ _) | (with_reducible exact HB.out) | (with_reducible refine below_draws ?_ _) | (with_reducible refine Below.alloc ?_ (by go_size) _) | (with_reducible refine Below.setCell ?_ (by go_size) _) | (with_reducible refine Below.alloc ?_ (by simp <;> omega) _) | (with_reducible refine Below.setCell ?_ (by simp <;> omega) _)))⟩
end Go.Proofs.Ytgbnmnkgelklbaa.Al
