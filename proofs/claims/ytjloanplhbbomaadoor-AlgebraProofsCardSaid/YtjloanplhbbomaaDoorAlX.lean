/-
  WALKS: minimal polynomials.
-/
import Derived.Test.YtjloanplhbbomaaDoorAlE
namespace Go.Proofs.YtjloanplhbbomaaDoor.Al
open Go.RowKit
open Alm
set_option linter.unusedVariables false
set_option linter.unusedSimpArgs false
set_option maxRecDepth 100000
/-- what a walk keeps: cells, and that nothing that was there has turned -/
def K_Pr (A B n0 n1 n2 n3 d o1 o2 r0 r1 r2 r3 : Int) (b1 b2 b3 b4 : Nat) (w w' : World) : Prop := KL w [(b4, 0, .int .i64 r0), (b4, 1, .int .i64 r1), (b4, 2, .int .i64 r2), (b4, 3, .int .i64 r3), (b3, 0, .int .i64 o1), (b3, 1, .int .i64 o2), (b1, 0, .int .i64 A), (b1, 1, .int .i64 B), (b2, 0, .int .i64 n0), (b2, 1, .int .i64 n1), (b2, 2, .int .i64 n2), (b2, 3, .int .i64 n3), (b2, 4, .int .i64 d)] [] w'
theorem K_Pr.below {A B n0 n1 n2 n3 d o1 o2 r0 r1 r2 r3 : Int} {b1 b2 b3 b4 : Nat} {w w1 w2 : World} (hb : Below w1.heap.size w1 w2) (h : K_Pr A B n0 n1 n2 n3 d o1 o2 r0 r1 r2 r3 b1 b2 b3 b4 w w1) : K_Pr A B n0 n1 n2 n3 d o1 o2 r0 r1 r2 r3 b1 b2 b3 b4 w w2 := KL.below hb h
theorem K_Pr.draws {A B n0 n1 n2 n3 d o1 o2 r0 r1 r2 r3 : Int} {b1 b2 b3 b4 : Nat} {w w1 : World} (n : Nat) (h : K_Pr A B n0 n1 n2 n3 d o1 o2 r0 r1 r2 r3 b1 b2 b3 b4 w w1) : K_Pr A B n0 n1 n2 n3 d o1 o2 r0 r1 r2 r3 b1 b2 b3 b4 w (w1.drewN n) := KL.draws n h
theorem K_Pr.drew {A B n0 n1 n2 n3 d o1 o2 r0 r1 r2 r3 : Int} {b1 b2 b3 b4 : Nat} {w w1 : World} (h : K_Pr A B n0 n1 n2 n3 d o1 o2 r0 r1 r2 r3 b1 b2 b3 b4 w w1) : K_Pr A B n0 n1 n2 n3 d o1 o2 r0 r1 r2 r3 b1 b2 b3 b4 w w1.drew := KL.draws 1 h
theorem K_Pr.alloc {A B n0 n1 n2 n3 d o1 o2 r0 r1 r2 r3 : Int} {b1 b2 b3 b4 : Nat} {w w1 : World} (o : Obj) (h : K_Pr A B n0 n1 n2 n3 d o1 o2 r0 r1 r2 r3 b1 b2 b3 b4 w w1) : K_Pr A B n0 n1 n2 n3 d o1 o2 r0 r1 r2 r3 b1 b2 b3 b4 w (w1.alloc o) := KL.alloc o h
theorem K_Pr.set {A B n0 n1 n2 n3 d o1 o2 r0 r1 r2 r3 : Int} {b1 b2 b3 b4 : Nat} {w w1 : World} (h : K_Pr A B n0 n1 n2 n3 d o1 o2 r0 r1 r2 r3 b1 b2 b3 b4 w w1) (b i : Nat) (v : Value) (hb : b ≠ b4 ∧ b ≠ b3 ∧ b ≠ b1 ∧ b ≠ b2 ∧ w.heap.size ≤ b) : K_Pr A B n0 n1 n2 n3 d o1 o2 r0 r1 r2 r3 b1 b2 b3 b4 w (w1.setCell ⟨b, i, none⟩ v) :=
  KL.set h b i v (by intro x hx; simp only [List.mem_cons, List.not_mem_nil, or_false] at hx; rcases hx with rfl | rfl | rfl | rfl | rfl | rfl | rfl | rfl | rfl | rfl | rfl | rfl | rfl <;> simp only [] <;> omega) (by omega)
theorem K_Pr.bel {A B n0 n1 n2 n3 d o1 o2 r0 r1 r2 r3 : Int} {b1 b2 b3 b4 : Nat} {w w1 : World} (h : K_Pr A B n0 n1 n2 n3 d o1 o2 r0 r1 r2 r3 b1 b2 b3 b4 w w1) : Below w.heap.size w w1 := KL.bel h
theorem K_Pr.cells {A B n0 n1 n2 n3 d o1 o2 r0 r1 r2 r3 : Int} {b1 b2 b3 b4 : Nat} {w w' : World} (h : K_Pr A B n0 n1 n2 n3 d o1 o2 r0 r1 r2 r3 b1 b2 b3 b4 w w') : w'.cell? ⟨b4, 0, none⟩ = some (.int .i64 r0) ∧ w'.cell? ⟨b4, 1, none⟩ = some (.int .i64 r1) ∧ w'.cell? ⟨b4, 2, none⟩ = some (.int .i64 r2) ∧ w'.cell? ⟨b4, 3, none⟩ = some (.int .i64 r3) ∧ w'.cell? ⟨b3, 0, none⟩ = some (.int .i64 o1) ∧ w'.cell? ⟨b3, 1, none⟩ = some (.int .i64 o2) ∧ w'.cell? ⟨b1, 0, none⟩ = some (.int .i64 A) ∧ w'.cell? ⟨b1, 1, none⟩ = some (.int .i64 B) ∧ w'.cell? ⟨b2, 0, none⟩ = some (.int .i64 n0) ∧ w'.cell? ⟨b2, 1, none⟩ = some (.int .i64 n1) ∧ w'.cell? ⟨b2, 2, none⟩ = some (.int .i64 n2) ∧ w'.cell? ⟨b2, 3, none⟩ = some (.int .i64 n3) ∧ w'.cell? ⟨b2, 4, none⟩ = some (.int .i64 d) := ⟨h.c (b4, 0, .int .i64 r0) (by simp), h.c (b4, 1, .int .i64 r1) (by simp), h.c (b4, 2, .int .i64 r2) (by simp), h.c (b4, 3, .int .i64 r3) (by simp), h.c (b3, 0, .int .i64 o1) (by simp), h.c (b3, 1, .int .i64 o2) (by simp), h.c (b1, 0, .int .i64 A) (by simp), h.c (b1, 1, .int .i64 B) (by simp), h.c (b2, 0, .int .i64 n0) (by simp), h.c (b2, 1, .int .i64 n1) (by simp), h.c (b2, 2, .int .i64 n2) (by simp), h.c (b2, 3, .int .i64 n3) (by simp), h.c (b2, 4, .int .i64 d) (by simp)⟩
theorem K_Pr.zs {A B n0 n1 n2 n3 d o1 o2 r0 r1 r2 r3 : Int} {b1 b2 b3 b4 : Nat} {w w' : World} (h : K_Pr A B n0 n1 n2 n3 d o1 o2 r0 r1 r2 r3 b1 b2 b3 b4 w w') : b4 < w'.heap.size ∧ b3 < w'.heap.size ∧ b1 < w'.heap.size ∧ b2 < w'.heap.size ∧ True := ⟨KL.z h (x := (b4, 0, .int .i64 r0)) (by simp), KL.z h (x := (b3, 0, .int .i64 o1)) (by simp), KL.z h (x := (b1, 0, .int .i64 A)) (by simp), KL.z h (x := (b2, 0, .int .i64 n0)) (by simp), trivial⟩
theorem K_Pr.ks {A B n0 n1 n2 n3 d o1 o2 r0 r1 r2 r3 : Int} {b1 b2 b3 b4 : Nat} {w w' : World} (h : K_Pr A B n0 n1 n2 n3 d o1 o2 r0 r1 r2 r3 b1 b2 b3 b4 w w') : (w'.cell? ⟨b4, 0, none⟩ = some (.int .i64 r0) ∧ w'.cell? ⟨b4, 1, none⟩ = some (.int .i64 r1) ∧ w'.cell? ⟨b4, 2, none⟩ = some (.int .i64 r2) ∧ w'.cell? ⟨b4, 3, none⟩ = some (.int .i64 r3) ∧ w'.cell? ⟨b3, 0, none⟩ = some (.int .i64 o1) ∧ w'.cell? ⟨b3, 1, none⟩ = some (.int .i64 o2) ∧ w'.cell? ⟨b1, 0, none⟩ = some (.int .i64 A) ∧ w'.cell? ⟨b1, 1, none⟩ = some (.int .i64 B) ∧ w'.cell? ⟨b2, 0, none⟩ = some (.int .i64 n0) ∧ w'.cell? ⟨b2, 1, none⟩ = some (.int .i64 n1) ∧ w'.cell? ⟨b2, 2, none⟩ = some (.int .i64 n2) ∧ w'.cell? ⟨b2, 3, none⟩ = some (.int .i64 n3) ∧ w'.cell? ⟨b2, 4, none⟩ = some (.int .i64 d)) ∧ K_Pr A B n0 n1 n2 n3 d o1 o2 r0 r1 r2 r3 b1 b2 b3 b4 w w' := ⟨h.cells, h⟩
theorem KL.push4 {w0 : World} {cs : List (Nat × Nat × Value)} {fs : List (Nat × Nat)} {w : World} (h : KL w0 cs fs w) (a b c d : Int) (T : TypeId) (p : Nat) (hp : p = w.heap.size) : KL w0 ((p, 0, .int .i64 a) :: (p, 1, .int .i64 b) :: (p, 2, .int .i64 c) :: (p, 3, .int .i64 d) :: cs) fs (w.alloc (.cells #[.int .i64 a, .int .i64 b, .int .i64 c, .int .i64 d] T)) := by
  subst hp
  have h1 := h.alloc (.cells #[.int .i64 a, .int .i64 b, .int .i64 c, .int .i64 d] T)
  refine ⟨fun x hx => ?_, h1.g, h1.f, h1.bel⟩
  simp only [List.mem_cons] at hx
  rcases hx with rfl | rfl | rfl | rfl | hx
  · simp [go_sem]
  · simp [go_sem]
  · simp [go_sem]
  · simp [go_sem]
  · exact h1.c x hx
theorem KL.sub1 {w0 : World} {cs : List (Nat × Nat × Value)} {fs : List (Nat × Nat)} {w : World} (h : KL w0 cs fs w) : KL w0 [] [] w := ⟨by simp, by simp, by simp, h.bel⟩
set_option maxHeartbeats 3200000 in
theorem Poly_err (A B n0 n1 n2 n3 d : Int) (w : World) (h : or2 (chkA A B) (chkQ n0 n1 n2 n3 d) ≠ 0) :
    Calls Tryd.prog 34 #[.agg #[.int .i64 A, .int .i64 B], .agg #[.int .i64 n0, .int .i64 n1, .int .i64 n2, .int .i64 n3, .int .i64 d]] w fun e w' => e = .returned (.tuple #[.slice none 0 0, .int .i64 (or2 (chkA A B) (chkQ n0 n1 n2 n3 d))]) ∧ Below w.heap.size w w' := by
  have ok : (or2 (chkA A B) (chkQ n0 n1 n2 n3 d) != 0) = true := by rw [bne_iff_ne]; exact h
  clear h
  go_enter Tryd.func34, Tryd.ntmps34
  go_wp2_with fail
  have hk : K_Nd A B n0 n1 n2 n3 d w.heap.size (w.heap.size + 1) w ((w.alloc (.cells #[.int .i64 A, .int .i64 B] 23)).alloc (.cells #[.int .i64 n0, .int .i64 n1, .int .i64 n2, .int .i64 n3, .int .i64 d] 25)) := ⟨by simp [go_sem], by simp [go_sem], by simp [go_sem], by (repeat (first | (with_reducible exact Below.refl _ _) | (with_reducible exact HB.out) | (with_reducible refine below_draws ?_ _) | (with_reducible refine Below.alloc ?_ (by go_size) _) | (with_reducible refine Below.setCell ?_ (by go_size) _) | (with_reducible refine Below.alloc ?_ (by simp <;> omega) _) | (with_reducible refine Below.setCell ?_ (by simp <;> omega) _)))⟩
  go_region_held3 (fun w' => (w'.cell? ⟨w.heap.size, 0, none⟩ = some (.int .i64 A) ∧ w'.cell? ⟨w.heap.size, 1, none⟩ = some (.int .i64 B) ∧ w'.cell? ⟨(w.heap.size + 1), 0, none⟩ = some (.int .i64 n0) ∧ w'.cell? ⟨(w.heap.size + 1), 1, none⟩ = some (.int .i64 n1) ∧ w'.cell? ⟨(w.heap.size + 1), 2, none⟩ = some (.int .i64 n2) ∧ w'.cell? ⟨(w.heap.size + 1), 3, none⟩ = some (.int .i64 n3) ∧ w'.cell? ⟨(w.heap.size + 1), 4, none⟩ = some (.int .i64 d)) ∧ K_Nd A B n0 n1 n2 n3 d w.heap.size (w.heap.size + 1) w w') ((refine K_Nd.ks ?_; repeat (first | (with_reducible assumption) | (with_reducible refine K_Nd.draws _ ?_) | (with_reducible refine K_Nd.drew ?_) | (with_reducible refine K_Nd.alloc _ ?_) | (with_reducible refine K_Nd.set ?_ _ _ _ (by omega)))))
    (first
      | (go_at_call 15; (with_reducible refine (Check_any _ _ _).mono ?_); rintro e w' ⟨rfl, hbel⟩; have hk' := K_Nd.below hbel (And.right (by assumption)); clear hbel)
      | (go_at_call 17; (with_reducible refine (CheckQuat_any _ _ _ _ _ _).mono ?_); rintro e w' ⟨rfl, hbel⟩; have hk' := K_Nd.below hbel (And.right (by assumption)); clear hbel)
      | (go_at_call 64; (with_reducible refine (Or_new _ _ _ _ _ ?_).mono ?_); rfl; rintro e w'' ⟨rfl, rfl⟩))
  all_goals
    (rename_i hh_; clear hh_)
    go_wp2
    exact bodyPost_ret (v := .tuple #[.slice none 0 0, .int .i64 (or2 (chkA A B) (chkQ n0 n1 n2 n3 d))]) (by simp [results, Tryd.results34, go_sem]) rfl ⟨rfl, K_Nd.bel (K_Nd.alloc _ hk')⟩
set_option maxHeartbeats 6400000 in
theorem Poly_rat (A B n0 d : Int) (w : World) (hA : chkA A B = 0) (hq : chkQ n0 0 0 0 d = 0) :
    Calls Tryd.prog 34 #[.agg #[.int .i64 A, .int .i64 B], .agg #[.int .i64 n0, .int .i64 0, .int .i64 0, .int .i64 0, .int .i64 d]] w fun e w' => ∃ b, e = .returned (.tuple #[.slice (some ⟨b, 0, none⟩) 2 2, .int .i64 0]) ∧ KL w [(b, 0, .int .i64 (fn (-n0) d)), (b, 1, .int .i64 (fd (-n0) d)), (b, 2, .int .i64 1), (b, 3, .int .i64 1)] [] w' := by
  obtain ⟨a0, a1, a2, a3, a4, a5⟩ := qin_of hq
  have FR := Lib.hid (fun W => fraction_any (-n0) d W ⟨by omega, by omega⟩ ⟨by omega, by omega⟩)
  have ok : (or2 (chkA A B) (chkQ n0 0 0 0 d) != 0) = false := by rw [or2_ok hA hq]; rfl
  have EF := Lib.hid (IntWalk.i64_in (-n0) (by omega))
  obtain ⟨k0, hk0⟩ : ∃ k, fn (-n0) d = k := ⟨_, rfl⟩
  obtain ⟨k1, hk1⟩ : ∃ k, fd (-n0) d = k := ⟨_, rfl⟩
  rw [hk0, hk1] at FR ⊢
  clear hA hq a0 a1 a2 a3 a4 a5 hk0 hk1
  go_enter Tryd.func34, Tryd.ntmps34
  go_wp2_with fail
  have hk : K_Nd A B n0 0 0 0 d w.heap.size (w.heap.size + 1) w ((w.alloc (.cells #[.int .i64 A, .int .i64 B] 23)).alloc (.cells #[.int .i64 n0, .int .i64 0, .int .i64 0, .int .i64 0, .int .i64 d] 25)) := ⟨by simp [go_sem], by simp [go_sem], by simp [go_sem], by (repeat (first | (with_reducible exact Below.refl _ _) | (with_reducible exact HB.out) | (with_reducible refine below_draws ?_ _) | (with_reducible refine Below.alloc ?_ (by go_size) _) | (with_reducible refine Below.setCell ?_ (by go_size) _) | (with_reducible refine Below.alloc ?_ (by simp <;> omega) _) | (with_reducible refine Below.setCell ?_ (by simp <;> omega) _)))⟩
  go_region_held3 (fun w' => (w'.cell? ⟨w.heap.size, 0, none⟩ = some (.int .i64 A) ∧ w'.cell? ⟨w.heap.size, 1, none⟩ = some (.int .i64 B) ∧ w'.cell? ⟨(w.heap.size + 1), 0, none⟩ = some (.int .i64 n0) ∧ w'.cell? ⟨(w.heap.size + 1), 1, none⟩ = some (.int .i64 0) ∧ w'.cell? ⟨(w.heap.size + 1), 2, none⟩ = some (.int .i64 0) ∧ w'.cell? ⟨(w.heap.size + 1), 3, none⟩ = some (.int .i64 0) ∧ w'.cell? ⟨(w.heap.size + 1), 4, none⟩ = some (.int .i64 d)) ∧ K_Nd A B n0 0 0 0 d w.heap.size (w.heap.size + 1) w w') ((refine K_Nd.ks ?_; repeat (first | (with_reducible assumption) | (with_reducible refine K_Nd.draws _ ?_) | (with_reducible refine K_Nd.drew ?_) | (with_reducible refine K_Nd.alloc _ ?_) | (with_reducible refine K_Nd.set ?_ _ _ _ (by omega)))))
    (first
      | (go_at_call 15; (with_reducible refine (Check_any _ _ _).mono ?_); rintro e w' ⟨rfl, hbel⟩; have hk' := K_Nd.below hbel (And.right (by assumption)); clear hbel)
      | (go_at_call 17; (with_reducible refine (CheckQuat_any _ _ _ _ _ _).mono ?_); rintro e w' ⟨rfl, hbel⟩; have hk' := K_Nd.below hbel (And.right (by assumption)); clear hbel)
      | (go_at_call 64; (with_reducible refine (Or_new _ _ _ _ _ ?_).mono ?_); rfl; rintro e w'' ⟨rfl, rfl⟩))
  all_goals
    (rename_i hh_; clear hh_; obtain ⟨c0_, c1_, c2_, c3_, c4_, c5_, c6_⟩ := K_Nd.cells hk')
    obtain ⟨z0, z1, -⟩ := K_Nd.zs hk'
    have hold := hk'
    rename World => wa
    have eq := Try.eq4 n0 0 0 0 n0 0 0 0
    clear hk
    go_wp2_with fail
    have hk : K_Pr A B n0 0 0 0 d 1 1 n0 0 0 0 w.heap.size (w.heap.size + 1) (wa.heap.size + 1) (wa.heap.size + 2) w (((wa.alloc (.cells #[.int .i64 (chkA A B), .int .i64 (chkQ n0 0 0 0 d)] 27)).alloc (.cells #[.int .i64 1, .int .i64 1] 38)).alloc (.cells #[.int .i64 n0, .int .i64 0, .int .i64 0, .int .i64 0] 84)) := KL.push4 (KL.push2 (KL.alloc _ hold) 1 1 _ _ (by simp)) n0 0 0 0 _ _ (by simp)
    clear hk' hold c0_ c1_ c2_ c3_ c4_ c5_ c6_
    go_region_held3 (fun w' => (w'.cell? ⟨(wa.heap.size + 2), 0, none⟩ = some (.int .i64 n0) ∧ w'.cell? ⟨(wa.heap.size + 2), 1, none⟩ = some (.int .i64 0) ∧ w'.cell? ⟨(wa.heap.size + 2), 2, none⟩ = some (.int .i64 0) ∧ w'.cell? ⟨(wa.heap.size + 2), 3, none⟩ = some (.int .i64 0) ∧ w'.cell? ⟨(wa.heap.size + 1), 0, none⟩ = some (.int .i64 1) ∧ w'.cell? ⟨(wa.heap.size + 1), 1, none⟩ = some (.int .i64 1) ∧ w'.cell? ⟨w.heap.size, 0, none⟩ = some (.int .i64 A) ∧ w'.cell? ⟨w.heap.size, 1, none⟩ = some (.int .i64 B) ∧ w'.cell? ⟨(w.heap.size + 1), 0, none⟩ = some (.int .i64 n0) ∧ w'.cell? ⟨(w.heap.size + 1), 1, none⟩ = some (.int .i64 0) ∧ w'.cell? ⟨(w.heap.size + 1), 2, none⟩ = some (.int .i64 0) ∧ w'.cell? ⟨(w.heap.size + 1), 3, none⟩ = some (.int .i64 0) ∧ w'.cell? ⟨(w.heap.size + 1), 4, none⟩ = some (.int .i64 d)) ∧ K_Pr A B n0 0 0 0 d 1 1 n0 0 0 0 w.heap.size (w.heap.size + 1) (wa.heap.size + 1) (wa.heap.size + 2) w w') ((refine K_Pr.ks ?_; repeat (first | (with_reducible assumption) | (with_reducible refine K_Pr.draws _ ?_) | (with_reducible refine K_Pr.drew ?_) | (with_reducible refine K_Pr.alloc _ ?_) | (with_reducible refine K_Pr.set ?_ _ _ _ (by omega)))))
      (first
        | (go_at_call 53; (with_reducible refine (numeratorsOf_any _ _ _ _ _ _).mono ?_); rintro e wq ⟨rfl, hbel⟩; have hk' := K_Pr.below hbel (And.right (by assumption)); clear hbel))
    all_goals
      rename_i hh
      clear hh
      clear hk eq z0 z1
      have hk := hk'
      clear hk'
      have ef := EF.out
      go_wp2_with fail
      go_region_held3 (fun w' => (w'.cell? ⟨(wa.heap.size + 2), 0, none⟩ = some (.int .i64 n0) ∧ w'.cell? ⟨(wa.heap.size + 2), 1, none⟩ = some (.int .i64 0) ∧ w'.cell? ⟨(wa.heap.size + 2), 2, none⟩ = some (.int .i64 0) ∧ w'.cell? ⟨(wa.heap.size + 2), 3, none⟩ = some (.int .i64 0) ∧ w'.cell? ⟨(wa.heap.size + 1), 0, none⟩ = some (.int .i64 1) ∧ w'.cell? ⟨(wa.heap.size + 1), 1, none⟩ = some (.int .i64 1) ∧ w'.cell? ⟨w.heap.size, 0, none⟩ = some (.int .i64 A) ∧ w'.cell? ⟨w.heap.size, 1, none⟩ = some (.int .i64 B) ∧ w'.cell? ⟨(w.heap.size + 1), 0, none⟩ = some (.int .i64 n0) ∧ w'.cell? ⟨(w.heap.size + 1), 1, none⟩ = some (.int .i64 0) ∧ w'.cell? ⟨(w.heap.size + 1), 2, none⟩ = some (.int .i64 0) ∧ w'.cell? ⟨(w.heap.size + 1), 3, none⟩ = some (.int .i64 0) ∧ w'.cell? ⟨(w.heap.size + 1), 4, none⟩ = some (.int .i64 d)) ∧ K_Pr A B n0 0 0 0 d 1 1 n0 0 0 0 w.heap.size (w.heap.size + 1) (wa.heap.size + 1) (wa.heap.size + 2) w w') ((refine K_Pr.ks ?_; repeat (first | (with_reducible assumption) | (with_reducible refine K_Pr.draws _ ?_) | (with_reducible refine K_Pr.drew ?_) | (with_reducible refine K_Pr.alloc _ ?_) | (with_reducible refine K_Pr.set ?_ _ _ _ (by omega)))))
        (first
          | (go_at_call 69; (with_reducible refine (FR.out _).mono ?_); rintro e wf ⟨rfl, hbel⟩; have hk' := K_Pr.below hbel (And.right (by assumption)); clear hbel))
      all_goals
        rename_i hh
        clear hh ef
        go_wp2
        exact bodyPost_ret (v := .tuple #[.slice (some ⟨wf.heap.size, 0, none⟩) 2 2, .int .i64 0]) (by simp [results, Tryd.results34, go_sem]) rfl ⟨wf.heap.size, rfl, KL.push4 (KL.sub1 hk') k0 k1 1 1 _ _ rfl⟩
end Go.Proofs.YtjloanplhbbomaaDoor.Al
