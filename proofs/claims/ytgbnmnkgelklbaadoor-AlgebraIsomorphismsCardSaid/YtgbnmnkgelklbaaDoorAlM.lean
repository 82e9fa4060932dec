/-
  WALKS: lists of elements and their errors; products with their errors; the reference's products and conjugates.
-/
import Derived.Test.YtgbnmnkgelklbaaDoorAlP
import Derived.Test.YtgbnmnkgelklbaaDoorLw0
namespace Go.Proofs.YtgbnmnkgelklbaaDoor.Al
open Go.RowKit
open Alm
set_option linter.unusedVariables false
set_option linter.unusedSimpArgs false
set_option maxRecDepth 100000
/-- what a walk keeps: cells, and that nothing that was there has turned -/
def K_TT (n0 n1 n2 n3 d m0 m1 m2 m3 f : Int) (bq : Nat) (w w' : World) : Prop := KL w [(bq, 0, .int .i64 n0), (bq, 1, .int .i64 n1), (bq, 2, .int .i64 n2), (bq, 3, .int .i64 n3), (bq, 4, .int .i64 d), (bq, 5, .int .i64 m0), (bq, 6, .int .i64 m1), (bq, 7, .int .i64 m2), (bq, 8, .int .i64 m3), (bq, 9, .int .i64 f)] [] w'
theorem K_TT.below {n0 n1 n2 n3 d m0 m1 m2 m3 f : Int} {bq : Nat} {w w1 w2 : World} (hb : Below w1.heap.size w1 w2) (h : K_TT n0 n1 n2 n3 d m0 m1 m2 m3 f bq w w1) : K_TT n0 n1 n2 n3 d m0 m1 m2 m3 f bq w w2 := KL.below hb h
theorem K_TT.draws {n0 n1 n2 n3 d m0 m1 m2 m3 f : Int} {bq : Nat} {w w1 : World} (n : Nat) (h : K_TT n0 n1 n2 n3 d m0 m1 m2 m3 f bq w w1) : K_TT n0 n1 n2 n3 d m0 m1 m2 m3 f bq w (w1.drewN n) := KL.draws n h
theorem K_TT.drew {n0 n1 n2 n3 d m0 m1 m2 m3 f : Int} {bq : Nat} {w w1 : World} (h : K_TT n0 n1 n2 n3 d m0 m1 m2 m3 f bq w w1) : K_TT n0 n1 n2 n3 d m0 m1 m2 m3 f bq w w1.drew := KL.draws 1 h
theorem K_TT.alloc {n0 n1 n2 n3 d m0 m1 m2 m3 f : Int} {bq : Nat} {w w1 : World} (o : Obj) (h : K_TT n0 n1 n2 n3 d m0 m1 m2 m3 f bq w w1) : K_TT n0 n1 n2 n3 d m0 m1 m2 m3 f bq w (w1.alloc o) := KL.alloc o h
theorem K_TT.set {n0 n1 n2 n3 d m0 m1 m2 m3 f : Int} {bq : Nat} {w w1 : World} (h : K_TT n0 n1 n2 n3 d m0 m1 m2 m3 f bq w w1) (b i : Nat) (v : Value) (hb : b ≠ bq ∧ w.heap.size ≤ b) : K_TT n0 n1 n2 n3 d m0 m1 m2 m3 f bq w (w1.setCell ⟨b, i, none⟩ v) :=
  KL.set h b i v (by intro x hx; simp only [List.mem_cons, List.not_mem_nil, or_false] at hx; rcases hx with rfl | rfl | rfl | rfl | rfl | rfl | rfl | rfl | rfl | rfl <;> simp only [] <;> omega) (by omega)
theorem K_TT.bel {n0 n1 n2 n3 d m0 m1 m2 m3 f : Int} {bq : Nat} {w w1 : World} (h : K_TT n0 n1 n2 n3 d m0 m1 m2 m3 f bq w w1) : Below w.heap.size w w1 := KL.bel h
theorem K_TT.cells {n0 n1 n2 n3 d m0 m1 m2 m3 f : Int} {bq : Nat} {w w' : World} (h : K_TT n0 n1 n2 n3 d m0 m1 m2 m3 f bq w w') : w'.cell? ⟨bq, 0, none⟩ = some (.int .i64 n0) ∧ w'.cell? ⟨bq, 1, none⟩ = some (.int .i64 n1) ∧ w'.cell? ⟨bq, 2, none⟩ = some (.int .i64 n2) ∧ w'.cell? ⟨bq, 3, none⟩ = some (.int .i64 n3) ∧ w'.cell? ⟨bq, 4, none⟩ = some (.int .i64 d) ∧ w'.cell? ⟨bq, 5, none⟩ = some (.int .i64 m0) ∧ w'.cell? ⟨bq, 6, none⟩ = some (.int .i64 m1) ∧ w'.cell? ⟨bq, 7, none⟩ = some (.int .i64 m2) ∧ w'.cell? ⟨bq, 8, none⟩ = some (.int .i64 m3) ∧ w'.cell? ⟨bq, 9, none⟩ = some (.int .i64 f) := ⟨h.c (bq, 0, .int .i64 n0) (by simp), h.c (bq, 1, .int .i64 n1) (by simp), h.c (bq, 2, .int .i64 n2) (by simp), h.c (bq, 3, .int .i64 n3) (by simp), h.c (bq, 4, .int .i64 d) (by simp), h.c (bq, 5, .int .i64 m0) (by simp), h.c (bq, 6, .int .i64 m1) (by simp), h.c (bq, 7, .int .i64 m2) (by simp), h.c (bq, 8, .int .i64 m3) (by simp), h.c (bq, 9, .int .i64 f) (by simp)⟩
theorem K_TT.zs {n0 n1 n2 n3 d m0 m1 m2 m3 f : Int} {bq : Nat} {w w' : World} (h : K_TT n0 n1 n2 n3 d m0 m1 m2 m3 f bq w w') : bq < w'.heap.size ∧ True := ⟨KL.z h (x := (bq, 0, .int .i64 n0)) (by simp), trivial⟩
theorem K_TT.ks {n0 n1 n2 n3 d m0 m1 m2 m3 f : Int} {bq : Nat} {w w' : World} (h : K_TT n0 n1 n2 n3 d m0 m1 m2 m3 f bq w w') : (w'.cell? ⟨bq, 0, none⟩ = some (.int .i64 n0) ∧ w'.cell? ⟨bq, 1, none⟩ = some (.int .i64 n1) ∧ w'.cell? ⟨bq, 2, none⟩ = some (.int .i64 n2) ∧ w'.cell? ⟨bq, 3, none⟩ = some (.int .i64 n3) ∧ w'.cell? ⟨bq, 4, none⟩ = some (.int .i64 d) ∧ w'.cell? ⟨bq, 5, none⟩ = some (.int .i64 m0) ∧ w'.cell? ⟨bq, 6, none⟩ = some (.int .i64 m1) ∧ w'.cell? ⟨bq, 7, none⟩ = some (.int .i64 m2) ∧ w'.cell? ⟨bq, 8, none⟩ = some (.int .i64 m3) ∧ w'.cell? ⟨bq, 9, none⟩ = some (.int .i64 f)) ∧ K_TT n0 n1 n2 n3 d m0 m1 m2 m3 f bq w w' := ⟨h.cells, h⟩
theorem or2_ne {x y : Int} (h : x ≠ 0) : or2 x y = x := by unfold or2; rw [if_neg h]
theorem or2_z {y : Int} : or2 0 y = y := by unfold or2; rw [if_pos rfl]
set_option maxHeartbeats 1600000 in
theorem checkQuats_two (n0 n1 n2 n3 d m0 m1 m2 m3 f : Int) (b c : Nat) (w : World) (h : K_TT n0 n1 n2 n3 d m0 m1 m2 m3 f b w w) (hc : 2 ≤ c) (hc' : c ≤ 9223372036854775807) :
    Calls Tryd.prog 38 #[.slice (some ⟨b, 0, none⟩) 2 c] w fun e w' => e = .returned (.int .i64 (or2 (chkQ n0 n1 n2 n3 d) (chkQ m0 m1 m2 m3 f))) ∧ Below w.heap.size w w' := by
  have hK := h
  clear h
  by_cases hp : chkQ n0 n1 n2 n3 d = 0
  · by_cases hq : chkQ m0 m1 m2 m3 f = 0
    · rw [hp, hq, or2_z]
      have HP := Lib.hid hp
      have HQ := Lib.hid hq
      clear hp hq
      obtain ⟨c0_, c1_, c2_, c3_, c4_, c5_, c6_, c7_, c8_, c9_⟩ := K_TT.cells hK; obtain ⟨z0_, -⟩ := K_TT.zs hK; have HK := Lib.hid hK; clear hK
      go_enter Tryd.func38, Tryd.ntmps38
      go_wp2
      refine wp_loop_rounds 3 ?_
      rw [rounds_succ]
      go_wp2_with fail
      refine (CheckQuat_any _ _ _ _ _ _).mono ?_
      rintro e w1 ⟨rfl, hb⟩
      rw [HP.out]
      clear c0_ c1_ c2_ c3_ c4_ c5_ c6_ c7_ c8_ c9_ z0_
      have hK := K_TT.below hb (K_TT.alloc _ HK.out)
      clear hb HK
      obtain ⟨c0_, c1_, c2_, c3_, c4_, c5_, c6_, c7_, c8_, c9_⟩ := K_TT.cells hK; obtain ⟨z0_, -⟩ := K_TT.zs hK; have HK := Lib.hid hK; clear hK
      go_wp2
      rw [rounds_succ]
      go_wp2_with fail
      refine (CheckQuat_any _ _ _ _ _ _).mono ?_
      rintro e w2 ⟨rfl, hb⟩
      rw [HQ.out]
      clear c0_ c1_ c2_ c3_ c4_ c5_ c6_ c7_ c8_ c9_ z0_
      have hK := K_TT.below hb (K_TT.alloc _ HK.out)
      clear hb HK
      obtain ⟨c0_, c1_, c2_, c3_, c4_, c5_, c6_, c7_, c8_, c9_⟩ := K_TT.cells hK; obtain ⟨z0_, -⟩ := K_TT.zs hK; have HK := Lib.hid hK; clear hK
      go_wp2
      rw [rounds_succ]
      go_wp2
      go_ret
      exact ⟨rfl, K_TT.bel HK.out⟩
    · rw [hp, or2_z]
      have HP := Lib.hid hp
      have ht : (chkQ m0 m1 m2 m3 f != 0) = true := by rw [bne_iff_ne]; exact hq
      clear hp hq
      obtain ⟨c0_, c1_, c2_, c3_, c4_, c5_, c6_, c7_, c8_, c9_⟩ := K_TT.cells hK; obtain ⟨z0_, -⟩ := K_TT.zs hK; have HK := Lib.hid hK; clear hK
      go_enter Tryd.func38, Tryd.ntmps38
      go_wp2
      refine wp_loop_rounds 2 ?_
      rw [rounds_succ]
      go_wp2_with fail
      refine (CheckQuat_any _ _ _ _ _ _).mono ?_
      rintro e w1 ⟨rfl, hb⟩
      rw [HP.out]
      clear c0_ c1_ c2_ c3_ c4_ c5_ c6_ c7_ c8_ c9_ z0_
      have hK := K_TT.below hb (K_TT.alloc _ HK.out)
      clear hb HK
      obtain ⟨c0_, c1_, c2_, c3_, c4_, c5_, c6_, c7_, c8_, c9_⟩ := K_TT.cells hK; obtain ⟨z0_, -⟩ := K_TT.zs hK; have HK := Lib.hid hK; clear hK
      go_wp2
      rw [rounds_succ]
      go_wp2_with fail
      refine (CheckQuat_any _ _ _ _ _ _).mono ?_
      rintro e w2 ⟨rfl, hb⟩
      clear c0_ c1_ c2_ c3_ c4_ c5_ c6_ c7_ c8_ c9_ z0_
      have hK := K_TT.below hb (K_TT.alloc _ HK.out)
      clear hb HK
      obtain ⟨c0_, c1_, c2_, c3_, c4_, c5_, c6_, c7_, c8_, c9_⟩ := K_TT.cells hK; obtain ⟨z0_, -⟩ := K_TT.zs hK; have HK := Lib.hid hK; clear hK
      go_wp2
      go_ret
      exact ⟨rfl, K_TT.bel HK.out⟩
  · rw [or2_ne hp]
    have ht : (chkQ n0 n1 n2 n3 d != 0) = true := by rw [bne_iff_ne]; exact hp
    clear hp
    obtain ⟨c0_, c1_, c2_, c3_, c4_, c5_, c6_, c7_, c8_, c9_⟩ := K_TT.cells hK; obtain ⟨z0_, -⟩ := K_TT.zs hK; have HK := Lib.hid hK; clear hK
    go_enter Tryd.func38, Tryd.ntmps38
    go_wp2
    refine wp_loop_rounds 1 ?_
    rw [rounds_succ]
    go_wp2_with fail
    refine (CheckQuat_any _ _ _ _ _ _).mono ?_
    rintro e w1 ⟨rfl, hb⟩
    clear c0_ c1_ c2_ c3_ c4_ c5_ c6_ c7_ c8_ c9_ z0_
    have hK := K_TT.below hb (K_TT.alloc _ HK.out)
    clear hb HK
    obtain ⟨c0_, c1_, c2_, c3_, c4_, c5_, c6_, c7_, c8_, c9_⟩ := K_TT.cells hK; obtain ⟨z0_, -⟩ := K_TT.zs hK; have HK := Lib.hid hK; clear hK
    go_wp2
    go_ret
    exact ⟨rfl, K_TT.bel HK.out⟩
theorem tt_new (n0 n1 n2 n3 d m0 m1 m2 m3 f : Int) (T : TypeId) (w : World) (n : Nat) (hn : n = w.heap.size) : K_TT n0 n1 n2 n3 d m0 m1 m2 m3 f n (w.alloc (.cells #[.int .i64 n0, .int .i64 n1, .int .i64 n2, .int .i64 n3, .int .i64 d, .int .i64 m0, .int .i64 m1, .int .i64 m2, .int .i64 m3, .int .i64 f] T)) (w.alloc (.cells #[.int .i64 n0, .int .i64 n1, .int .i64 n2, .int .i64 n3, .int .i64 d, .int .i64 m0, .int .i64 m1, .int .i64 m2, .int .i64 m3, .int .i64 f] T)) := by
  subst hn
  exact ⟨by simp [go_sem], by simp, by simp, Below.refl _ _⟩
theorem checkQuats_new (n0 n1 n2 n3 d m0 m1 m2 m3 f : Int) (T : TypeId) (w : World) (n : Nat) (hn : n = w.heap.size) :
    Calls Tryd.prog 38 #[.slice (some ⟨n, 0, none⟩) 2 2] (w.alloc (.cells #[.int .i64 n0, .int .i64 n1, .int .i64 n2, .int .i64 n3, .int .i64 d, .int .i64 m0, .int .i64 m1, .int .i64 m2, .int .i64 m3, .int .i64 f] T)) fun e w' => e = .returned (.int .i64 (or2 (chkQ n0 n1 n2 n3 d) (chkQ m0 m1 m2 m3 f))) ∧ Below (w.alloc (.cells #[.int .i64 n0, .int .i64 n1, .int .i64 n2, .int .i64 n3, .int .i64 d, .int .i64 m0, .int .i64 m1, .int .i64 m2, .int .i64 m3, .int .i64 f] T)).heap.size (w.alloc (.cells #[.int .i64 n0, .int .i64 n1, .int .i64 n2, .int .i64 n3, .int .i64 d, .int .i64 m0, .int .i64 m1, .int .i64 m2, .int .i64 m3, .int .i64 f] T)) w' :=
  checkQuats_two n0 n1 n2 n3 d m0 m1 m2 m3 f n 2 _ (tt_new _ _ _ _ _ _ _ _ _ _ _ _ _ hn) (by decide) (by decide)
theorem checkQuats_after {n0 n1 n2 n3 d m0 m1 m2 m3 f : Int} {T : TypeId} {w W : World} (hb : Below (w.alloc (.cells #[.int .i64 n0, .int .i64 n1, .int .i64 n2, .int .i64 n3, .int .i64 d, .int .i64 m0, .int .i64 m1, .int .i64 m2, .int .i64 m3, .int .i64 f] T)).drew.heap.size (w.alloc (.cells #[.int .i64 n0, .int .i64 n1, .int .i64 n2, .int .i64 n3, .int .i64 d, .int .i64 m0, .int .i64 m1, .int .i64 m2, .int .i64 m3, .int .i64 f] T)).drew W) (n : Nat) (hn : n = w.heap.size) :
    Calls Tryd.prog 38 #[.slice (some ⟨n, 0, none⟩) 2 2] W fun e w' => e = .returned (.int .i64 (or2 (chkQ n0 n1 n2 n3 d) (chkQ m0 m1 m2 m3 f))) ∧ Below W.heap.size W w' := by
  subst hn
  have h : KL _ _ _ W := KL.below hb (K_TT.drew (tt_new n0 n1 n2 n3 d m0 m1 m2 m3 f T w _ rfl))
  exact checkQuats_two n0 n1 n2 n3 d m0 m1 m2 m3 f w.heap.size 2 W ⟨h.c, h.g, h.f, Below.refl _ _⟩ (by decide) (by decide)
/-- the first error of an algebra and two elements -/
def err3 (A B n0 n1 n2 n3 d m0 m1 m2 m3 f : Int) : Int := or2 (chkA A B) (or2 (chkQ n0 n1 n2 n3 d) (chkQ m0 m1 m2 m3 f))
theorem or2_eq0 {x y : Int} (h : or2 x y = 0) : x = 0 ∧ y = 0 := by
  unfold or2 at h
  split at h
  · exact ⟨by assumption, h⟩
  · omega
end Go.Proofs.YtgbnmnkgelklbaaDoor.Al
