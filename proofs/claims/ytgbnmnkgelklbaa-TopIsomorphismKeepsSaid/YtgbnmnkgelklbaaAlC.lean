/-
  WALKS: lists of two elements that lie anywhere.
-/
import Derived.Test.YtgbnmnkgelklbaaAlM
namespace Go.Proofs.Ytgbnmnkgelklbaa.Al
open Go.RowKit
open Alm
set_option linter.unusedVariables false
set_option linter.unusedSimpArgs false
set_option maxRecDepth 100000
/-- what a walk keeps: cells, and that nothing that was there has turned -/
def K_U2 (n0 n1 n2 n3 d m0 m1 m2 m3 f : Int) (bu ou : Nat) (w w' : World) : Prop := KL w [(bu, ou, .int .i64 n0), (bu, ou + 1, .int .i64 n1), (bu, ou + 2, .int .i64 n2), (bu, ou + 3, .int .i64 n3), (bu, ou + 4, .int .i64 d), (bu, ou + 5, .int .i64 m0), (bu, ou + 6, .int .i64 m1), (bu, ou + 7, .int .i64 m2), (bu, ou + 8, .int .i64 m3), (bu, ou + 9, .int .i64 f)] [] w'
theorem K_U2.below {n0 n1 n2 n3 d m0 m1 m2 m3 f : Int} {bu ou : Nat} {w w1 w2 : World} (hb : Below w1.heap.size w1 w2) (h : K_U2 n0 n1 n2 n3 d m0 m1 m2 m3 f bu ou w w1) : K_U2 n0 n1 n2 n3 d m0 m1 m2 m3 f bu ou w w2 := KL.below hb h
theorem K_U2.draws {n0 n1 n2 n3 d m0 m1 m2 m3 f : Int} {bu ou : Nat} {w w1 : World} (n : Nat) (h : K_U2 n0 n1 n2 n3 d m0 m1 m2 m3 f bu ou w w1) : K_U2 n0 n1 n2 n3 d m0 m1 m2 m3 f bu ou w (w1.drewN n) := KL.draws n h
theorem K_U2.drew {n0 n1 n2 n3 d m0 m1 m2 m3 f : Int} {bu ou : Nat} {w w1 : World} (h : K_U2 n0 n1 n2 n3 d m0 m1 m2 m3 f bu ou w w1) : K_U2 n0 n1 n2 n3 d m0 m1 m2 m3 f bu ou w w1.drew := KL.draws 1 h
theorem K_U2.alloc {n0 n1 n2 n3 d m0 m1 m2 m3 f : Int} {bu ou : Nat} {w w1 : World} (o : Obj) (h : K_U2 n0 n1 n2 n3 d m0 m1 m2 m3 f bu ou w w1) : K_U2 n0 n1 n2 n3 d m0 m1 m2 m3 f bu ou w (w1.alloc o) := KL.alloc o h
theorem K_U2.set {n0 n1 n2 n3 d m0 m1 m2 m3 f : Int} {bu ou : Nat} {w w1 : World} (h : K_U2 n0 n1 n2 n3 d m0 m1 m2 m3 f bu ou w w1) (b i : Nat) (v : Value) (hb : b ≠ bu ∧ w.heap.size ≤ b) : K_U2 n0 n1 n2 n3 d m0 m1 m2 m3 f bu ou w (w1.setCell ⟨b, i, none⟩ v) :=
  KL.set h b i v (by intro x hx; simp only [List.mem_cons, List.not_mem_nil, or_false] at hx; rcases hx with rfl | rfl | rfl | rfl | rfl | rfl | rfl | rfl | rfl | rfl <;> simp only [] <;> omega) (by omega)
theorem K_U2.bel {n0 n1 n2 n3 d m0 m1 m2 m3 f : Int} {bu ou : Nat} {w w1 : World} (h : K_U2 n0 n1 n2 n3 d m0 m1 m2 m3 f bu ou w w1) : Below w.heap.size w w1 := KL.bel h
theorem K_U2.cells {n0 n1 n2 n3 d m0 m1 m2 m3 f : Int} {bu ou : Nat} {w w' : World} (h : K_U2 n0 n1 n2 n3 d m0 m1 m2 m3 f bu ou w w') : w'.cell? ⟨bu, ou, none⟩ = some (.int .i64 n0) ∧ w'.cell? ⟨bu, ou + 1, none⟩ = some (.int .i64 n1) ∧ w'.cell? ⟨bu, ou + 2, none⟩ = some (.int .i64 n2) ∧ w'.cell? ⟨bu, ou + 3, none⟩ = some (.int .i64 n3) ∧ w'.cell? ⟨bu, ou + 4, none⟩ = some (.int .i64 d) ∧ w'.cell? ⟨bu, ou + 5, none⟩ = some (.int .i64 m0) ∧ w'.cell? ⟨bu, ou + 6, none⟩ = some (.int .i64 m1) ∧ w'.cell? ⟨bu, ou + 7, none⟩ = some (.int .i64 m2) ∧ w'.cell? ⟨bu, ou + 8, none⟩ = some (.int .i64 m3) ∧ w'.cell? ⟨bu, ou + 9, none⟩ = some (.int .i64 f) := ⟨h.c (bu, ou, .int .i64 n0) (by simp), h.c (bu, ou + 1, .int .i64 n1) (by simp), h.c (bu, ou + 2, .int .i64 n2) (by simp), h.c (bu, ou + 3, .int .i64 n3) (by simp), h.c (bu, ou + 4, .int .i64 d) (by simp), h.c (bu, ou + 5, .int .i64 m0) (by simp), h.c (bu, ou + 6, .int .i64 m1) (by simp), h.c (bu, ou + 7, .int .i64 m2) (by simp), h.c (bu, ou + 8, .int .i64 m3) (by simp), h.c (bu, ou + 9, .int .i64 f) (by simp)⟩
theorem K_U2.zs {n0 n1 n2 n3 d m0 m1 m2 m3 f : Int} {bu ou : Nat} {w w' : World} (h : K_U2 n0 n1 n2 n3 d m0 m1 m2 m3 f bu ou w w') : bu < w'.heap.size ∧ True := ⟨KL.z h (x := (bu, ou, .int .i64 n0)) (by simp), trivial⟩
theorem K_U2.ks {n0 n1 n2 n3 d m0 m1 m2 m3 f : Int} {bu ou : Nat} {w w' : World} (h : K_U2 n0 n1 n2 n3 d m0 m1 m2 m3 f bu ou w w') : (w'.cell? ⟨bu, ou, none⟩ = some (.int .i64 n0) ∧ w'.cell? ⟨bu, ou + 1, none⟩ = some (.int .i64 n1) ∧ w'.cell? ⟨bu, ou + 2, none⟩ = some (.int .i64 n2) ∧ w'.cell? ⟨bu, ou + 3, none⟩ = some (.int .i64 n3) ∧ w'.cell? ⟨bu, ou + 4, none⟩ = some (.int .i64 d) ∧ w'.cell? ⟨bu, ou + 5, none⟩ = some (.int .i64 m0) ∧ w'.cell? ⟨bu, ou + 6, none⟩ = some (.int .i64 m1) ∧ w'.cell? ⟨bu, ou + 7, none⟩ = some (.int .i64 m2) ∧ w'.cell? ⟨bu, ou + 8, none⟩ = some (.int .i64 m3) ∧ w'.cell? ⟨bu, ou + 9, none⟩ = some (.int .i64 f)) ∧ K_U2 n0 n1 n2 n3 d m0 m1 m2 m3 f bu ou w w' := ⟨h.cells, h⟩
set_option maxHeartbeats 3200000 in
theorem checkQuats_off (n0 n1 n2 n3 d m0 m1 m2 m3 f : Int) (b o c : Nat) (w : World) (h : K_U2 n0 n1 n2 n3 d m0 m1 m2 m3 f b o w w) (hc : 2 ≤ c) (hc' : c ≤ 9223372036854775807) :
    Calls Try.prog 45 #[.slice (some ⟨b, o, none⟩) 2 c] w fun e w' => e = .returned (.int .i64 (or2 (chkQ n0 n1 n2 n3 d) (chkQ m0 m1 m2 m3 f))) ∧ Below w.heap.size w w' := by
  have hK := h
  clear h
  by_cases hp : chkQ n0 n1 n2 n3 d = 0
  · by_cases hq : chkQ m0 m1 m2 m3 f = 0
    · rw [hp, hq, or2_z]
      have HP := Lib.hid hp
      have HQ := Lib.hid hq
      clear hp hq
      obtain ⟨c0_, c1_, c2_, c3_, c4_, c5_, c6_, c7_, c8_, c9_⟩ := K_U2.cells hK; obtain ⟨z0_, -⟩ := K_U2.zs hK; have HK := Lib.hid hK; clear hK
      go_enter Try.func45, Try.ntmps45
      go_wp2
      refine wp_loop_rounds 3 ?_
      rw [rounds_succ]
      go_wp2_with fail
      refine (CheckQuat_any _ _ _ _ _ _).mono ?_
      rintro e w1 ⟨rfl, hb⟩
      rw [HP.out]
      clear c0_ c1_ c2_ c3_ c4_ c5_ c6_ c7_ c8_ c9_ z0_
      have hK := K_U2.below hb (K_U2.alloc _ HK.out)
      clear hb HK
      obtain ⟨c0_, c1_, c2_, c3_, c4_, c5_, c6_, c7_, c8_, c9_⟩ := K_U2.cells hK; obtain ⟨z0_, -⟩ := K_U2.zs hK; have HK := Lib.hid hK; clear hK
      go_wp2
      rw [rounds_succ]
      go_wp2_with fail
      refine (CheckQuat_any _ _ _ _ _ _).mono ?_
      rintro e w2 ⟨rfl, hb⟩
      rw [HQ.out]
      clear c0_ c1_ c2_ c3_ c4_ c5_ c6_ c7_ c8_ c9_ z0_
      have hK := K_U2.below hb (K_U2.alloc _ HK.out)
      clear hb HK
      obtain ⟨c0_, c1_, c2_, c3_, c4_, c5_, c6_, c7_, c8_, c9_⟩ := K_U2.cells hK; obtain ⟨z0_, -⟩ := K_U2.zs hK; have HK := Lib.hid hK; clear hK
      go_wp2
      rw [rounds_succ]
      go_wp2
      go_ret
      exact ⟨rfl, K_U2.bel HK.out⟩
    · rw [hp, or2_z]
      have HP := Lib.hid hp
      have ht : (chkQ m0 m1 m2 m3 f != 0) = true := by rw [bne_iff_ne]; exact hq
      clear hp hq
      obtain ⟨c0_, c1_, c2_, c3_, c4_, c5_, c6_, c7_, c8_, c9_⟩ := K_U2.cells hK; obtain ⟨z0_, -⟩ := K_U2.zs hK; have HK := Lib.hid hK; clear hK
      go_enter Try.func45, Try.ntmps45
      go_wp2
      refine wp_loop_rounds 2 ?_
      rw [rounds_succ]
      go_wp2_with fail
      refine (CheckQuat_any _ _ _ _ _ _).mono ?_
      rintro e w1 ⟨rfl, hb⟩
      rw [HP.out]
      clear c0_ c1_ c2_ c3_ c4_ c5_ c6_ c7_ c8_ c9_ z0_
      have hK := K_U2.below hb (K_U2.alloc _ HK.out)
      clear hb HK
      obtain ⟨c0_, c1_, c2_, c3_, c4_, c5_, c6_, c7_, c8_, c9_⟩ := K_U2.cells hK; obtain ⟨z0_, -⟩ := K_U2.zs hK; have HK := Lib.hid hK; clear hK
      go_wp2
      rw [rounds_succ]
      go_wp2_with fail
      refine (CheckQuat_any _ _ _ _ _ _).mono ?_
      rintro e w2 ⟨rfl, hb⟩
      clear c0_ c1_ c2_ c3_ c4_ c5_ c6_ c7_ c8_ c9_ z0_
      have hK := K_U2.below hb (K_U2.alloc _ HK.out)
      clear hb HK
      obtain ⟨c0_, c1_, c2_, c3_, c4_, c5_, c6_, c7_, c8_, c9_⟩ := K_U2.cells hK; obtain ⟨z0_, -⟩ := K_U2.zs hK; have HK := Lib.hid hK; clear hK
      go_wp2
      go_ret
      exact ⟨rfl, K_U2.bel HK.out⟩
  · rw [or2_ne hp]
    have ht : (chkQ n0 n1 n2 n3 d != 0) = true := by rw [bne_iff_ne]; exact hp
    clear hp
    obtain ⟨c0_, c1_, c2_, c3_, c4_, c5_, c6_, c7_, c8_, c9_⟩ := K_U2.cells hK; obtain ⟨z0_, -⟩ := K_U2.zs hK; have HK := Lib.hid hK; clear hK
    go_enter Try.func45, Try.ntmps45
    go_wp2
    refine wp_loop_rounds 1 ?_
    rw [rounds_succ]
    go_wp2_with fail
    refine (CheckQuat_any _ _ _ _ _ _).mono ?_
    rintro e w1 ⟨rfl, hb⟩
    clear c0_ c1_ c2_ c3_ c4_ c5_ c6_ c7_ c8_ c9_ z0_
    have hK := K_U2.below hb (K_U2.alloc _ HK.out)
    clear hb HK
    obtain ⟨c0_, c1_, c2_, c3_, c4_, c5_, c6_, c7_, c8_, c9_⟩ := K_U2.cells hK; obtain ⟨z0_, -⟩ := K_U2.zs hK; have HK := Lib.hid hK; clear hK
    go_wp2
    go_ret
    exact ⟨rfl, K_U2.bel HK.out⟩
end Go.Proofs.Ytgbnmnkgelklbaa.Al
