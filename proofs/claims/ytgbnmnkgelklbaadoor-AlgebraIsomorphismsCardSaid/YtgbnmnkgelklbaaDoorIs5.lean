/-
  WALKS: Isomorphic; Isomorphism where there is none.
-/
import Derived.Test.YtgbnmnkgelklbaaDoorIs4
import Derived.Test.YtgbnmnkgelklbaaDoorAlD
namespace Go.Proofs.YtgbnmnkgelklbaaDoor.Iso
open Go.RowKit
open Alm Al
set_option linter.unusedVariables false
set_option linter.unusedSimpArgs false
set_option maxRecDepth 100000
/-- what a walk keeps: cells, and that nothing that was there has turned -/
def K_Sr (A B C D : Int) (b1 b2 R S : Nat) (w w' : World) : Prop := KL w [(b1, 0, .int .i64 A), (b1, 1, .int .i64 B), (b2, 0, .int .i64 C), (b2, 1, .int .i64 D)] [(R, 0), (R, 1), (R, 2), (R, 3), (R, 4), (S, 0), (S, 1), (S, 2), (S, 3), (S, 4)] w'
theorem K_Sr.below {A B C D : Int} {b1 b2 R S : Nat} {w w1 w2 : World} (hb : Below w1.heap.size w1 w2) (h : K_Sr A B C D b1 b2 R S w w1) : K_Sr A B C D b1 b2 R S w w2 := KL.below hb h
theorem K_Sr.draws {A B C D : Int} {b1 b2 R S : Nat} {w w1 : World} (n : Nat) (h : K_Sr A B C D b1 b2 R S w w1) : K_Sr A B C D b1 b2 R S w (w1.drewN n) := KL.draws n h
theorem K_Sr.drew {A B C D : Int} {b1 b2 R S : Nat} {w w1 : World} (h : K_Sr A B C D b1 b2 R S w w1) : K_Sr A B C D b1 b2 R S w w1.drew := KL.draws 1 h
theorem K_Sr.alloc {A B C D : Int} {b1 b2 R S : Nat} {w w1 : World} (o : Obj) (h : K_Sr A B C D b1 b2 R S w w1) : K_Sr A B C D b1 b2 R S w (w1.alloc o) := KL.alloc o h
theorem K_Sr.set {A B C D : Int} {b1 b2 R S : Nat} {w w1 : World} (h : K_Sr A B C D b1 b2 R S w w1) (b i : Nat) (v : Value) (hb : b ≠ b1 ∧ b ≠ b2 ∧ w.heap.size ≤ b) : K_Sr A B C D b1 b2 R S w (w1.setCell ⟨b, i, none⟩ v) :=
  KL.set h b i v (by intro x hx; simp only [List.mem_cons, List.not_mem_nil, or_false] at hx; rcases hx with rfl | rfl | rfl | rfl <;> simp only [] <;> omega) (by omega)
theorem K_Sr.bel {A B C D : Int} {b1 b2 R S : Nat} {w w1 : World} (h : K_Sr A B C D b1 b2 R S w w1) : Below w.heap.size w w1 := KL.bel h
theorem K_Sr.cells {A B C D : Int} {b1 b2 R S : Nat} {w w' : World} (h : K_Sr A B C D b1 b2 R S w w') : w'.cell? ⟨b1, 0, none⟩ = some (.int .i64 A) ∧ w'.cell? ⟨b1, 1, none⟩ = some (.int .i64 B) ∧ w'.cell? ⟨b2, 0, none⟩ = some (.int .i64 C) ∧ w'.cell? ⟨b2, 1, none⟩ = some (.int .i64 D) ∧ w'.cell? ⟨R, 0, none⟩ = some (cv w' R 0) ∧ w'.frozen? ⟨R, 0, none⟩ = false ∧ w'.cell? ⟨R, 1, none⟩ = some (cv w' R 1) ∧ w'.frozen? ⟨R, 1, none⟩ = false ∧ w'.cell? ⟨R, 2, none⟩ = some (cv w' R 2) ∧ w'.frozen? ⟨R, 2, none⟩ = false ∧ w'.cell? ⟨R, 3, none⟩ = some (cv w' R 3) ∧ w'.frozen? ⟨R, 3, none⟩ = false ∧ w'.cell? ⟨R, 4, none⟩ = some (cv w' R 4) ∧ w'.frozen? ⟨R, 4, none⟩ = false ∧ w'.cell? ⟨S, 0, none⟩ = some (cv w' S 0) ∧ w'.frozen? ⟨S, 0, none⟩ = false ∧ w'.cell? ⟨S, 1, none⟩ = some (cv w' S 1) ∧ w'.frozen? ⟨S, 1, none⟩ = false ∧ w'.cell? ⟨S, 2, none⟩ = some (cv w' S 2) ∧ w'.frozen? ⟨S, 2, none⟩ = false ∧ w'.cell? ⟨S, 3, none⟩ = some (cv w' S 3) ∧ w'.frozen? ⟨S, 3, none⟩ = false ∧ w'.cell? ⟨S, 4, none⟩ = some (cv w' S 4) ∧ w'.frozen? ⟨S, 4, none⟩ = false := ⟨h.c (b1, 0, .int .i64 A) (by simp), h.c (b1, 1, .int .i64 B) (by simp), h.c (b2, 0, .int .i64 C) (by simp), h.c (b2, 1, .int .i64 D) (by simp), h.d (R, 0) (by simp), h.f (R, 0) (by simp), h.d (R, 1) (by simp), h.f (R, 1) (by simp), h.d (R, 2) (by simp), h.f (R, 2) (by simp), h.d (R, 3) (by simp), h.f (R, 3) (by simp), h.d (R, 4) (by simp), h.f (R, 4) (by simp), h.d (S, 0) (by simp), h.f (S, 0) (by simp), h.d (S, 1) (by simp), h.f (S, 1) (by simp), h.d (S, 2) (by simp), h.f (S, 2) (by simp), h.d (S, 3) (by simp), h.f (S, 3) (by simp), h.d (S, 4) (by simp), h.f (S, 4) (by simp)⟩
theorem K_Sr.zs {A B C D : Int} {b1 b2 R S : Nat} {w w' : World} (h : K_Sr A B C D b1 b2 R S w w') : b1 < w'.heap.size ∧ b2 < w'.heap.size ∧ R < w'.heap.size ∧ S < w'.heap.size ∧ True := ⟨KL.z h (x := (b1, 0, .int .i64 A)) (by simp), KL.z h (x := (b2, 0, .int .i64 C)) (by simp), KL.zf h (x := (R, 0)) (by simp), KL.zf h (x := (S, 0)) (by simp), trivial⟩
theorem K_Sr.ks {A B C D : Int} {b1 b2 R S : Nat} {w w' : World} (h : K_Sr A B C D b1 b2 R S w w') : (w'.cell? ⟨b1, 0, none⟩ = some (.int .i64 A) ∧ w'.cell? ⟨b1, 1, none⟩ = some (.int .i64 B) ∧ w'.cell? ⟨b2, 0, none⟩ = some (.int .i64 C) ∧ w'.cell? ⟨b2, 1, none⟩ = some (.int .i64 D) ∧ w'.cell? ⟨R, 0, none⟩ = some (cv w' R 0) ∧ w'.frozen? ⟨R, 0, none⟩ = false ∧ w'.cell? ⟨R, 1, none⟩ = some (cv w' R 1) ∧ w'.frozen? ⟨R, 1, none⟩ = false ∧ w'.cell? ⟨R, 2, none⟩ = some (cv w' R 2) ∧ w'.frozen? ⟨R, 2, none⟩ = false ∧ w'.cell? ⟨R, 3, none⟩ = some (cv w' R 3) ∧ w'.frozen? ⟨R, 3, none⟩ = false ∧ w'.cell? ⟨R, 4, none⟩ = some (cv w' R 4) ∧ w'.frozen? ⟨R, 4, none⟩ = false ∧ w'.cell? ⟨S, 0, none⟩ = some (cv w' S 0) ∧ w'.frozen? ⟨S, 0, none⟩ = false ∧ w'.cell? ⟨S, 1, none⟩ = some (cv w' S 1) ∧ w'.frozen? ⟨S, 1, none⟩ = false ∧ w'.cell? ⟨S, 2, none⟩ = some (cv w' S 2) ∧ w'.frozen? ⟨S, 2, none⟩ = false ∧ w'.cell? ⟨S, 3, none⟩ = some (cv w' S 3) ∧ w'.frozen? ⟨S, 3, none⟩ = false ∧ w'.cell? ⟨S, 4, none⟩ = some (cv w' S 4) ∧ w'.frozen? ⟨S, 4, none⟩ = false) ∧ K_Sr A B C D b1 b2 R S w w' := ⟨h.cells, h⟩
set_option maxHeartbeats 3200000 in
theorem Isc_err (A B C D : Int) (w : World) (h : or2 (chkA A B) (chkA C D) ≠ 0) :
    Calls Tryd.prog 15 #[.agg #[.int .i64 A, .int .i64 B], .agg #[.int .i64 C, .int .i64 D]] w fun e w' => e = .returned (.tuple #[.bool false, .int .i64 (or2 (chkA A B) (chkA C D))]) ∧ Below w.heap.size w w' := by
  have ok : (or2 (chkA A B) (chkA C D) != 0) = true := by rw [bne_iff_ne]; exact h
  clear h
  go_enter Tryd.func15, Tryd.ntmps15
  go_wp2_with fail
  have hk : K_X0 A B C D w.heap.size (w.heap.size + 1) w ((w.alloc (.cells #[.int .i64 A, .int .i64 B] 23)).alloc (.cells #[.int .i64 C, .int .i64 D] 23)) := ⟨by simp [go_sem], by simp [go_sem], by simp [go_sem], by (repeat (first | (with_reducible exact Below.refl _ _) | (with_reducible exact HB.out) | (with_reducible refine below_draws ?_ _) | (with_reducible refine Below.alloc ?_ (by go_size) _) | (with_reducible refine Below.setCell ?_ (by go_size) _) | (with_reducible refine Below.alloc ?_ (by simp <;> omega) _) | (with_reducible refine Below.setCell ?_ (by simp <;> omega) _)))⟩
  go_region_held3 (fun w' => (w'.cell? ⟨w.heap.size, 0, none⟩ = some (.int .i64 A) ∧ w'.cell? ⟨w.heap.size, 1, none⟩ = some (.int .i64 B) ∧ w'.cell? ⟨(w.heap.size + 1), 0, none⟩ = some (.int .i64 C) ∧ w'.cell? ⟨(w.heap.size + 1), 1, none⟩ = some (.int .i64 D)) ∧ K_X0 A B C D w.heap.size (w.heap.size + 1) w w') ((refine K_X0.ks ?_; repeat (first | (with_reducible assumption) | (with_reducible refine K_X0.draws _ ?_) | (with_reducible refine K_X0.drew ?_) | (with_reducible refine K_X0.alloc _ ?_) | (with_reducible refine K_X0.set ?_ _ _ _ (by omega)))))
    (first
      | (go_at_call 25; (with_reducible refine (Check_any _ _ _).mono ?_); rintro e w' ⟨rfl, hbel⟩; have hk' := K_X0.below hbel (And.right (by assumption)); clear hbel)
      | (go_at_call 31; (with_reducible refine (Or_new _ _ _ _ _ ?_).mono ?_); rfl; rintro e w'' ⟨rfl, rfl⟩))
  all_goals
    go_wp2
    go_ret2
    exact ⟨rfl, K_X0.bel (K_X0.alloc _ hk')⟩
set_option maxHeartbeats 3200000 in
theorem Isc_ok (A B C D : Int) (w : World) (hA : chkA A B = 0) (hC : chkA C D = 0) :
    Calls Tryd.prog 15 #[.agg #[.int .i64 A, .int .i64 B], .agg #[.int .i64 C, .int .i64 D]] w fun e w' => e = .returned (.tuple #[.bool (isoB A B C D), .int .i64 0]) ∧ Below w.heap.size w w' := by
  have OK := Lib.hid (or2_ok hA hC)
  have II := Lib.hid (fun W => isIso_any A B C D W hA hC)
  clear hA hC
  go_enter Tryd.func15, Tryd.ntmps15
  go_wp2_with fail
  have hk : K_X0 A B C D w.heap.size (w.heap.size + 1) w ((w.alloc (.cells #[.int .i64 A, .int .i64 B] 23)).alloc (.cells #[.int .i64 C, .int .i64 D] 23)) := ⟨by simp [go_sem], by simp [go_sem], by simp [go_sem], by (repeat (first | (with_reducible exact Below.refl _ _) | (with_reducible exact HB.out) | (with_reducible refine below_draws ?_ _) | (with_reducible refine Below.alloc ?_ (by go_size) _) | (with_reducible refine Below.setCell ?_ (by go_size) _) | (with_reducible refine Below.alloc ?_ (by simp <;> omega) _) | (with_reducible refine Below.setCell ?_ (by simp <;> omega) _)))⟩
  go_region_held3 (fun w' => (w'.cell? ⟨w.heap.size, 0, none⟩ = some (.int .i64 A) ∧ w'.cell? ⟨w.heap.size, 1, none⟩ = some (.int .i64 B) ∧ w'.cell? ⟨(w.heap.size + 1), 0, none⟩ = some (.int .i64 C) ∧ w'.cell? ⟨(w.heap.size + 1), 1, none⟩ = some (.int .i64 D)) ∧ K_X0 A B C D w.heap.size (w.heap.size + 1) w w') ((refine K_X0.ks ?_; repeat (first | (with_reducible assumption) | (with_reducible refine K_X0.draws _ ?_) | (with_reducible refine K_X0.drew ?_) | (with_reducible refine K_X0.alloc _ ?_) | (with_reducible refine K_X0.set ?_ _ _ _ (by omega)))))
    (first
      | (go_at_call 25; (with_reducible refine (Check_any _ _ _).mono ?_); rintro e w' ⟨rfl, hbel⟩; have hk' := K_X0.below hbel (And.right (by assumption)); clear hbel)
      | (go_at_call 31; (with_reducible refine (Or_new _ _ _ _ _ ?_).mono ?_); rfl; rintro e w'' ⟨rfl, rfl⟩))
  all_goals
    rw [OK.out]
    rename_i hh
    clear hh hk
    have hK := K_X0.alloc (.cells #[.int .i64 (chkA A B), .int .i64 (chkA C D)] 26) hk'
    clear hk'
    obtain ⟨c0_, c1_, c2_, c3_⟩ := K_X0.cells hK; obtain ⟨z0_, z1_, -⟩ := K_X0.zs hK; have HK := Lib.hid hK; clear hK
    go_wp2_with fail
    refine (II.out _).mono ?_
    rintro e w3 ⟨rfl, hb⟩
    clear c0_ c1_ c2_ c3_ z0_ z1_
    have hK := K_X0.below hb HK.out
    clear hb HK
    go_wp2
    go_ret2
    exact ⟨rfl, K_X0.bel hK⟩
set_option maxHeartbeats 3200000 in
theorem Ism_err (A B C D : Int) (w : World) (h : or2 (chkA A B) (chkA C D) ≠ 0) :
    Calls Tryd.prog 16 #[.agg #[.int .i64 A, .int .i64 B], .agg #[.int .i64 C, .int .i64 D]] w fun e w' => e = .returned (.tuple #[.agg #[.int .i64 0, .int .i64 0, .int .i64 0, .int .i64 0, .int .i64 0], .agg #[.int .i64 0, .int .i64 0, .int .i64 0, .int .i64 0, .int .i64 0], .int .i64 (or2 (chkA A B) (chkA C D))]) ∧ Below w.heap.size w w' := by
  have ok : (or2 (chkA A B) (chkA C D) != 0) = true := by rw [bne_iff_ne]; exact h
  clear h
  go_enter Tryd.func16, Tryd.ntmps16
  go_wp2_with fail
  have hk : K_Sr A B C D w.heap.size (w.heap.size + 1) (w.heap.size + 2) (w.heap.size + 3) w ((((w.alloc (.cells #[.int .i64 A, .int .i64 B] 23)).alloc (.cells #[.int .i64 C, .int .i64 D] 23)).alloc (.cells #[.int .i64 0, .int .i64 0, .int .i64 0, .int .i64 0, .int .i64 0] 39)).alloc (.cells #[.int .i64 0, .int .i64 0, .int .i64 0, .int .i64 0, .int .i64 0] 39)) := ⟨by simp [go_sem], by simp [go_sem], by simp [go_sem], by (repeat (first | (with_reducible exact Below.refl _ _) | (with_reducible exact HB.out) | (with_reducible refine below_draws ?_ _) | (with_reducible refine Below.alloc ?_ (by go_size) _) | (with_reducible refine Below.setCell ?_ (by go_size) _) | (with_reducible refine Below.alloc ?_ (by simp <;> omega) _) | (with_reducible refine Below.setCell ?_ (by simp <;> omega) _)))⟩
  generalize ((((w.alloc (.cells #[.int .i64 A, .int .i64 B] 23)).alloc (.cells #[.int .i64 C, .int .i64 D] 23)).alloc (.cells #[.int .i64 0, .int .i64 0, .int .i64 0, .int .i64 0, .int .i64 0] 39)).alloc (.cells #[.int .i64 0, .int .i64 0, .int .i64 0, .int .i64 0, .int .i64 0] 39)) = wq at hk ⊢
  go_region_held3 (fun w' => (w'.cell? ⟨w.heap.size, 0, none⟩ = some (.int .i64 A) ∧ w'.cell? ⟨w.heap.size, 1, none⟩ = some (.int .i64 B) ∧ w'.cell? ⟨(w.heap.size + 1), 0, none⟩ = some (.int .i64 C) ∧ w'.cell? ⟨(w.heap.size + 1), 1, none⟩ = some (.int .i64 D) ∧ w'.cell? ⟨(w.heap.size + 2), 0, none⟩ = some (cv w' ((w.heap.size + 2)) 0) ∧ w'.frozen? ⟨(w.heap.size + 2), 0, none⟩ = false ∧ w'.cell? ⟨(w.heap.size + 2), 1, none⟩ = some (cv w' ((w.heap.size + 2)) 1) ∧ w'.frozen? ⟨(w.heap.size + 2), 1, none⟩ = false ∧ w'.cell? ⟨(w.heap.size + 2), 2, none⟩ = some (cv w' ((w.heap.size + 2)) 2) ∧ w'.frozen? ⟨(w.heap.size + 2), 2, none⟩ = false ∧ w'.cell? ⟨(w.heap.size + 2), 3, none⟩ = some (cv w' ((w.heap.size + 2)) 3) ∧ w'.frozen? ⟨(w.heap.size + 2), 3, none⟩ = false ∧ w'.cell? ⟨(w.heap.size + 2), 4, none⟩ = some (cv w' ((w.heap.size + 2)) 4) ∧ w'.frozen? ⟨(w.heap.size + 2), 4, none⟩ = false ∧ w'.cell? ⟨(w.heap.size + 3), 0, none⟩ = some (cv w' ((w.heap.size + 3)) 0) ∧ w'.frozen? ⟨(w.heap.size + 3), 0, none⟩ = false ∧ w'.cell? ⟨(w.heap.size + 3), 1, none⟩ = some (cv w' ((w.heap.size + 3)) 1) ∧ w'.frozen? ⟨(w.heap.size + 3), 1, none⟩ = false ∧ w'.cell? ⟨(w.heap.size + 3), 2, none⟩ = some (cv w' ((w.heap.size + 3)) 2) ∧ w'.frozen? ⟨(w.heap.size + 3), 2, none⟩ = false ∧ w'.cell? ⟨(w.heap.size + 3), 3, none⟩ = some (cv w' ((w.heap.size + 3)) 3) ∧ w'.frozen? ⟨(w.heap.size + 3), 3, none⟩ = false ∧ w'.cell? ⟨(w.heap.size + 3), 4, none⟩ = some (cv w' ((w.heap.size + 3)) 4) ∧ w'.frozen? ⟨(w.heap.size + 3), 4, none⟩ = false) ∧ K_Sr A B C D w.heap.size (w.heap.size + 1) (w.heap.size + 2) (w.heap.size + 3) w w') ((refine K_Sr.ks ?_; repeat (first | (with_reducible assumption) | (with_reducible refine K_Sr.draws _ ?_) | (with_reducible refine K_Sr.drew ?_) | (with_reducible refine K_Sr.alloc _ ?_) | (with_reducible refine K_Sr.set ?_ _ _ _ (by omega)))))
    (first
      | (go_at_call 25; (with_reducible refine (Check_any _ _ _).mono ?_); rintro e w' ⟨rfl, hbel⟩; have hk' := K_Sr.below hbel (And.right (by assumption)); clear hbel)
      | (go_at_call 31; (with_reducible refine (Or_new _ _ _ _ _ ?_).mono ?_); rfl; rintro e w'' ⟨rfl, rfl⟩))
  all_goals
    rename_i hh
    clear hh hk
    have hK := K_Sr.alloc (.cells #[.int .i64 (chkA A B), .int .i64 (chkA C D)] 26) hk'
    clear hk'
    obtain ⟨c0_, c1_, c2_, c3_, d0_, f0_, d1_, f1_, d2_, f2_, d3_, f3_, d4_, f4_, d5_, f5_, d6_, f6_, d7_, f7_, d8_, f8_, d9_, f9_⟩ := K_Sr.cells hK
    have HB := Lib.hid (K_Sr.bel hK)
    clear hK
    go_wp2
    exact bodyPost_ret (v := .tuple #[.agg #[.int .i64 0, .int .i64 0, .int .i64 0, .int .i64 0, .int .i64 0], .agg #[.int .i64 0, .int .i64 0, .int .i64 0, .int .i64 0, .int .i64 0], .int .i64 (or2 (chkA A B) (chkA C D))]) (by simp [results, Tryd.results16, go_sem, c0_, c1_, c2_, c3_, d0_, f0_, d1_, f1_, d2_, f2_, d3_, f3_, d4_, f4_, d5_, f5_, d6_, f6_, d7_, f7_, d8_, f8_, d9_, f9_]) rfl ⟨rfl, by (repeat (first | (with_reducible exact Below.refl _ _) | (with_reducible exact HB.out) | (with_reducible refine below_draws ?_ _) | (with_reducible refine Below.alloc ?_ (by go_size) _) | (with_reducible refine Below.setCell ?_ (by go_size) _) | (with_reducible refine Below.alloc ?_ (by simp <;> omega) _) | (with_reducible refine Below.setCell ?_ (by simp <;> omega) _)))⟩
set_option maxHeartbeats 3200000 in
theorem Ism_none (A B C D : Int) (w : World) (hA : chkA A B = 0) (hC : chkA C D = 0) (hI : isoB A B C D = false) :
    Calls Tryd.prog 16 #[.agg #[.int .i64 A, .int .i64 B], .agg #[.int .i64 C, .int .i64 D]] w fun e w' => e = .returned (.tuple #[.agg #[.int .i64 0, .int .i64 0, .int .i64 0, .int .i64 0, .int .i64 0], .agg #[.int .i64 0, .int .i64 0, .int .i64 0, .int .i64 0, .int .i64 0], .int .i64 12]) ∧ Below w.heap.size w w' := by
  have OK := Lib.hid (or2_ok hA hC)
  have II := Lib.hid (fun W => isIso_any A B C D W hA hC)
  rw [hI] at II
  clear hA hC hI
  go_enter Tryd.func16, Tryd.ntmps16
  go_wp2_with fail
  have hk : K_Sr A B C D w.heap.size (w.heap.size + 1) (w.heap.size + 2) (w.heap.size + 3) w ((((w.alloc (.cells #[.int .i64 A, .int .i64 B] 23)).alloc (.cells #[.int .i64 C, .int .i64 D] 23)).alloc (.cells #[.int .i64 0, .int .i64 0, .int .i64 0, .int .i64 0, .int .i64 0] 39)).alloc (.cells #[.int .i64 0, .int .i64 0, .int .i64 0, .int .i64 0, .int .i64 0] 39)) := ⟨by simp [go_sem], by simp [go_sem], by simp [go_sem], by (repeat (first | (with_reducible exact Below.refl _ _) | (with_reducible exact HB.out) | (with_reducible refine below_draws ?_ _) | (with_reducible refine Below.alloc ?_ (by go_size) _) | (with_reducible refine Below.setCell ?_ (by go_size) _) | (with_reducible refine Below.alloc ?_ (by simp <;> omega) _) | (with_reducible refine Below.setCell ?_ (by simp <;> omega) _)))⟩
  generalize ((((w.alloc (.cells #[.int .i64 A, .int .i64 B] 23)).alloc (.cells #[.int .i64 C, .int .i64 D] 23)).alloc (.cells #[.int .i64 0, .int .i64 0, .int .i64 0, .int .i64 0, .int .i64 0] 39)).alloc (.cells #[.int .i64 0, .int .i64 0, .int .i64 0, .int .i64 0, .int .i64 0] 39)) = wq at hk ⊢
  go_region_held3 (fun w' => (w'.cell? ⟨w.heap.size, 0, none⟩ = some (.int .i64 A) ∧ w'.cell? ⟨w.heap.size, 1, none⟩ = some (.int .i64 B) ∧ w'.cell? ⟨(w.heap.size + 1), 0, none⟩ = some (.int .i64 C) ∧ w'.cell? ⟨(w.heap.size + 1), 1, none⟩ = some (.int .i64 D) ∧ w'.cell? ⟨(w.heap.size + 2), 0, none⟩ = some (cv w' ((w.heap.size + 2)) 0) ∧ w'.frozen? ⟨(w.heap.size + 2), 0, none⟩ = false ∧ w'.cell? ⟨(w.heap.size + 2), 1, none⟩ = some (cv w' ((w.heap.size + 2)) 1) ∧ w'.frozen? ⟨(w.heap.size + 2), 1, none⟩ = false ∧ w'.cell? ⟨(w.heap.size + 2), 2, none⟩ = some (cv w' ((w.heap.size + 2)) 2) ∧ w'.frozen? ⟨(w.heap.size + 2), 2, none⟩ = false ∧ w'.cell? ⟨(w.heap.size + 2), 3, none⟩ = some (cv w' ((w.heap.size + 2)) 3) ∧ w'.frozen? ⟨(w.heap.size + 2), 3, none⟩ = false ∧ w'.cell? ⟨(w.heap.size + 2), 4, none⟩ = some (cv w' ((w.heap.size + 2)) 4) ∧ w'.frozen? ⟨(w.heap.size + 2), 4, none⟩ = false ∧ w'.cell? ⟨(w.heap.size + 3), 0, none⟩ = some (cv w' ((w.heap.size + 3)) 0) ∧ w'.frozen? ⟨(w.heap.size + 3), 0, none⟩ = false ∧ w'.cell? ⟨(w.heap.size + 3), 1, none⟩ = some (cv w' ((w.heap.size + 3)) 1) ∧ w'.frozen? ⟨(w.heap.size + 3), 1, none⟩ = false ∧ w'.cell? ⟨(w.heap.size + 3), 2, none⟩ = some (cv w' ((w.heap.size + 3)) 2) ∧ w'.frozen? ⟨(w.heap.size + 3), 2, none⟩ = false ∧ w'.cell? ⟨(w.heap.size + 3), 3, none⟩ = some (cv w' ((w.heap.size + 3)) 3) ∧ w'.frozen? ⟨(w.heap.size + 3), 3, none⟩ = false ∧ w'.cell? ⟨(w.heap.size + 3), 4, none⟩ = some (cv w' ((w.heap.size + 3)) 4) ∧ w'.frozen? ⟨(w.heap.size + 3), 4, none⟩ = false) ∧ K_Sr A B C D w.heap.size (w.heap.size + 1) (w.heap.size + 2) (w.heap.size + 3) w w') ((refine K_Sr.ks ?_; repeat (first | (with_reducible assumption) | (with_reducible refine K_Sr.draws _ ?_) | (with_reducible refine K_Sr.drew ?_) | (with_reducible refine K_Sr.alloc _ ?_) | (with_reducible refine K_Sr.set ?_ _ _ _ (by omega)))))
    (first
      | (go_at_call 25; (with_reducible refine (Check_any _ _ _).mono ?_); rintro e w' ⟨rfl, hbel⟩; have hk' := K_Sr.below hbel (And.right (by assumption)); clear hbel)
      | (go_at_call 31; (with_reducible refine (Or_new _ _ _ _ _ ?_).mono ?_); rfl; rintro e w'' ⟨rfl, rfl⟩))
  all_goals
    rw [OK.out]
    rename_i hh
    clear hh hk
    have hK := K_Sr.alloc (.cells #[.int .i64 (chkA A B), .int .i64 (chkA C D)] 26) hk'
    clear hk'
    obtain ⟨c0_, c1_, c2_, c3_, d0_, f0_, d1_, f1_, d2_, f2_, d3_, f3_, d4_, f4_, d5_, f5_, d6_, f6_, d7_, f7_, d8_, f8_, d9_, f9_⟩ := K_Sr.cells hK; obtain ⟨z0_, z1_, z2_, z3_, -⟩ := K_Sr.zs hK; have HK := Lib.hid hK; clear hK
    go_wp2_with fail
    refine (II.out _).mono ?_
    rintro e w3 ⟨rfl, hb⟩
    clear c0_ c1_ c2_ c3_ d0_ f0_ d1_ f1_ d2_ f2_ d3_ f3_ d4_ f4_ d5_ f5_ d6_ f6_ d7_ f7_ d8_ f8_ d9_ f9_ z0_ z1_ z2_ z3_
    have hK := K_Sr.below hb HK.out
    clear hb HK
    obtain ⟨c0_, c1_, c2_, c3_, d0_, f0_, d1_, f1_, d2_, f2_, d3_, f3_, d4_, f4_, d5_, f5_, d6_, f6_, d7_, f7_, d8_, f8_, d9_, f9_⟩ := K_Sr.cells hK
    have HB := Lib.hid (K_Sr.bel hK)
    clear hK
    go_wp2
    exact bodyPost_ret (v := .tuple #[.agg #[.int .i64 0, .int .i64 0, .int .i64 0, .int .i64 0, .int .i64 0], .agg #[.int .i64 0, .int .i64 0, .int .i64 0, .int .i64 0, .int .i64 0], .int .i64 12]) (by simp [results, Tryd.results16, go_sem, c0_, c1_, c2_, c3_, d0_, f0_, d1_, f1_, d2_, f2_, d3_, f3_, d4_, f4_, d5_, f5_, d6_, f6_, d7_, f7_, d8_, f8_, d9_, f9_]) rfl ⟨rfl, by (repeat (first | (with_reducible exact Below.refl _ _) | (with_reducible exact HB.out) | (with_reducible refine below_draws ?_ _) | (with_reducible refine Below.alloc ?_ (by go_size) _) | (with_reducible refine Below.setCell ?_ (by go_size) _) | (with_reducible refine Below.alloc ?_ (by simp <;> omega) _) | (with_reducible refine Below.setCell ?_ (by simp <;> omega) _)))⟩
end Go.Proofs.YtgbnmnkgelklbaaDoor.Iso
