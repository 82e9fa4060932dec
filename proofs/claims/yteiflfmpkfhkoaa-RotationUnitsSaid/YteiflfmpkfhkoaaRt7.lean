/-
  WALKS: canonical associates, results, quotients by left divisors, the program's.
-/
import Derived.Test.YteiflfmpkfhkoaaRt6
import Derived.Test.YteiflfmpkfhkoaaHwo
namespace Go.Proofs.Yteiflfmpkfhkoaa.Rt
open Go.RowKit
open Alm Hwm Al
set_option linter.unusedVariables false
set_option linter.unusedSimpArgs false
set_option maxRecDepth 100000
/-- what a walk keeps: cells, and that nothing that was there has turned -/
def K_Hp (a0 a1 a2 a3 : Int) (p R : Nat) (w w' : World) : Prop := KL w [(p, 0, .int .i64 a0), (p, 1, .int .i64 a1), (p, 2, .int .i64 a2), (p, 3, .int .i64 a3)] [(R, 0), (R, 1), (R, 2), (R, 3)] w'
theorem K_Hp.below {a0 a1 a2 a3 : Int} {p R : Nat} {w w1 w2 : World} (hb : Below w1.heap.size w1 w2) (h : K_Hp a0 a1 a2 a3 p R w w1) : K_Hp a0 a1 a2 a3 p R w w2 := KL.below hb h
theorem K_Hp.draws {a0 a1 a2 a3 : Int} {p R : Nat} {w w1 : World} (n : Nat) (h : K_Hp a0 a1 a2 a3 p R w w1) : K_Hp a0 a1 a2 a3 p R w (w1.drewN n) := KL.draws n h
theorem K_Hp.drew {a0 a1 a2 a3 : Int} {p R : Nat} {w w1 : World} (h : K_Hp a0 a1 a2 a3 p R w w1) : K_Hp a0 a1 a2 a3 p R w w1.drew := KL.draws 1 h
theorem K_Hp.alloc {a0 a1 a2 a3 : Int} {p R : Nat} {w w1 : World} (o : Obj) (h : K_Hp a0 a1 a2 a3 p R w w1) : K_Hp a0 a1 a2 a3 p R w (w1.alloc o) := KL.alloc o h
theorem K_Hp.set {a0 a1 a2 a3 : Int} {p R : Nat} {w w1 : World} (h : K_Hp a0 a1 a2 a3 p R w w1) (b i : Nat) (v : Value) (hb : b ≠ p ∧ w.heap.size ≤ b) : K_Hp a0 a1 a2 a3 p R w (w1.setCell ⟨b, i, none⟩ v) :=
  KL.set h b i v (by intro x hx; simp only [List.mem_cons, List.not_mem_nil, or_false] at hx; rcases hx with rfl | rfl | rfl | rfl <;> simp only [] <;> omega) (by omega)
theorem K_Hp.bel {a0 a1 a2 a3 : Int} {p R : Nat} {w w1 : World} (h : K_Hp a0 a1 a2 a3 p R w w1) : Below w.heap.size w w1 := KL.bel h
theorem K_Hp.cells {a0 a1 a2 a3 : Int} {p R : Nat} {w w' : World} (h : K_Hp a0 a1 a2 a3 p R w w') : w'.cell? ⟨p, 0, none⟩ = some (.int .i64 a0) ∧ w'.cell? ⟨p, 1, none⟩ = some (.int .i64 a1) ∧ w'.cell? ⟨p, 2, none⟩ = some (.int .i64 a2) ∧ w'.cell? ⟨p, 3, none⟩ = some (.int .i64 a3) ∧ w'.cell? ⟨R, 0, none⟩ = some (cv w' R 0) ∧ w'.frozen? ⟨R, 0, none⟩ = false ∧ w'.cell? ⟨R, 1, none⟩ = some (cv w' R 1) ∧ w'.frozen? ⟨R, 1, none⟩ = false ∧ w'.cell? ⟨R, 2, none⟩ = some (cv w' R 2) ∧ w'.frozen? ⟨R, 2, none⟩ = false ∧ w'.cell? ⟨R, 3, none⟩ = some (cv w' R 3) ∧ w'.frozen? ⟨R, 3, none⟩ = false := ⟨h.c (p, 0, .int .i64 a0) (by simp), h.c (p, 1, .int .i64 a1) (by simp), h.c (p, 2, .int .i64 a2) (by simp), h.c (p, 3, .int .i64 a3) (by simp), h.d (R, 0) (by simp), h.f (R, 0) (by simp), h.d (R, 1) (by simp), h.f (R, 1) (by simp), h.d (R, 2) (by simp), h.f (R, 2) (by simp), h.d (R, 3) (by simp), h.f (R, 3) (by simp)⟩
theorem K_Hp.zs {a0 a1 a2 a3 : Int} {p R : Nat} {w w' : World} (h : K_Hp a0 a1 a2 a3 p R w w') : p < w'.heap.size ∧ R < w'.heap.size ∧ True := ⟨KL.z h (x := (p, 0, .int .i64 a0)) (by simp), KL.zf h (x := (R, 0)) (by simp), trivial⟩
theorem K_Hp.ks {a0 a1 a2 a3 : Int} {p R : Nat} {w w' : World} (h : K_Hp a0 a1 a2 a3 p R w w') : (w'.cell? ⟨p, 0, none⟩ = some (.int .i64 a0) ∧ w'.cell? ⟨p, 1, none⟩ = some (.int .i64 a1) ∧ w'.cell? ⟨p, 2, none⟩ = some (.int .i64 a2) ∧ w'.cell? ⟨p, 3, none⟩ = some (.int .i64 a3) ∧ w'.cell? ⟨R, 0, none⟩ = some (cv w' R 0) ∧ w'.frozen? ⟨R, 0, none⟩ = false ∧ w'.cell? ⟨R, 1, none⟩ = some (cv w' R 1) ∧ w'.frozen? ⟨R, 1, none⟩ = false ∧ w'.cell? ⟨R, 2, none⟩ = some (cv w' R 2) ∧ w'.frozen? ⟨R, 2, none⟩ = false ∧ w'.cell? ⟨R, 3, none⟩ = some (cv w' R 3) ∧ w'.frozen? ⟨R, 3, none⟩ = false) ∧ K_Hp a0 a1 a2 a3 p R w w' := ⟨h.cells, h⟩
theorem U24_hb : ∀ u ∈ U24, HB 100000000 u := fun u hu => by
  have := nn_bd (a := u) (n := 2) (by omega) (by rw [(U24_mem u).1 hu]; omega)
  obtain ⟨h0, h1, h2, h3⟩ := this
  exact ⟨by omega, by omega, by omega, by omega⟩
set_option maxHeartbeats 1600000 in
theorem canonical_h (x : H) (w : World) (hx : HB 100000000 x) :
    Calls Try.prog 69 #[.agg #[.int .i64 (x).w, .int .i64 (x).x, .int .i64 (x).y, .int .i64 (x).z]] w fun e w' => e = .returned (.agg #[.int .i64 (can x).w, .int .i64 (can x).x, .int .i64 (can x).y, .int .i64 (can x).z]) ∧ Below w.heap.size w w' := by
  have GA := Lib.hid (fun B A c W h => greatest_any x U24 B A c W hx h U24_hb)
  unfold can
  obtain ⟨g, hg⟩ : ∃ g, gre x U24 = g := ⟨_, rfl⟩
  rw [hg] at GA ⊢
  clear hx hg
  obtain ⟨a0, a1, a2, a3⟩ := x
  obtain ⟨g0, g1, g2, g3⟩ := g
  simp only [] at GA ⊢
  go_enter Try.func69, Try.ntmps69
  go_wp2_with fail
  have hk : K_Hp a0 a1 a2 a3 w.heap.size (w.heap.size + 1) w ((w.alloc (.cells #[.int .i64 a0, .int .i64 a1, .int .i64 a2, .int .i64 a3] 97)).alloc (.cells #[.int .i64 0, .int .i64 0, .int .i64 0, .int .i64 0] 97)) := ⟨by simp [go_sem], by simp [go_sem], by simp [go_sem], by (repeat (first | (with_reducible exact Below.refl _ _) | (with_reducible exact HB.out) | (with_reducible refine below_draws ?_ _) | (with_reducible refine Below.alloc ?_ (by go_size) _) | (with_reducible refine Below.setCell ?_ (by go_size) _) | (with_reducible refine Below.alloc ?_ (by simp <;> omega) _) | (with_reducible refine Below.setCell ?_ (by simp <;> omega) _)))⟩
  go_region_held3 (fun w' => (w'.cell? ⟨w.heap.size, 0, none⟩ = some (.int .i64 a0) ∧ w'.cell? ⟨w.heap.size, 1, none⟩ = some (.int .i64 a1) ∧ w'.cell? ⟨w.heap.size, 2, none⟩ = some (.int .i64 a2) ∧ w'.cell? ⟨w.heap.size, 3, none⟩ = some (.int .i64 a3) ∧ w'.cell? ⟨(w.heap.size + 1), 0, none⟩ = some (cv w' ((w.heap.size + 1)) 0) ∧ w'.frozen? ⟨(w.heap.size + 1), 0, none⟩ = false ∧ w'.cell? ⟨(w.heap.size + 1), 1, none⟩ = some (cv w' ((w.heap.size + 1)) 1) ∧ w'.frozen? ⟨(w.heap.size + 1), 1, none⟩ = false ∧ w'.cell? ⟨(w.heap.size + 1), 2, none⟩ = some (cv w' ((w.heap.size + 1)) 2) ∧ w'.frozen? ⟨(w.heap.size + 1), 2, none⟩ = false ∧ w'.cell? ⟨(w.heap.size + 1), 3, none⟩ = some (cv w' ((w.heap.size + 1)) 3) ∧ w'.frozen? ⟨(w.heap.size + 1), 3, none⟩ = false) ∧ K_Hp a0 a1 a2 a3 w.heap.size (w.heap.size + 1) w w') ((refine K_Hp.ks ?_; repeat (first | (with_reducible assumption) | (with_reducible refine K_Hp.draws _ ?_) | (with_reducible refine K_Hp.drew ?_) | (with_reducible refine K_Hp.alloc _ ?_) | (with_reducible refine K_Hp.set ?_ _ _ _ (by omega)))))
    (first
      | (go_at_call 79; (with_reducible refine (units_any _).mono ?_); rintro e w' ⟨v, rfl, hown, hbel⟩; obtain ⟨Aa, cc, rfl, hLH, hc, hlc⟩ := LH.of hown; have hk' := K_Hp.below hbel (And.right (by assumption)); clear hbel hown)
      | (go_at_call 120; (with_reducible refine (GA.out _ _ _ _ hLH hc hlc).mono ?_); rintro e w'' ⟨rfl, hbel⟩; have hk'' := K_Hp.below hbel hk'; clear hbel))
  all_goals
    go_wp2
    obtain ⟨c0_, c1_, c2_, c3_, d0_, f0_, d1_, f1_, d2_, f2_, d3_, f3_⟩ := K_Hp.cells hk''
    have HB := Lib.hid (K_Hp.bel hk'')
    exact bodyPost_ret (v := .agg #[.int .i64 g0, .int .i64 g1, .int .i64 g2, .int .i64 g3]) (by simp [results, Try.results69, go_sem, c0_, c1_, c2_, c3_, d0_, f0_, d1_, f1_, d2_, f2_, d3_, f3_]) rfl ⟨rfl, by (repeat (first | (with_reducible exact Below.refl _ _) | (with_reducible exact HB.out) | (with_reducible refine below_draws ?_ _) | (with_reducible refine Below.alloc ?_ (by go_size) _) | (with_reducible refine Below.setCell ?_ (by go_size) _) | (with_reducible refine Below.alloc ?_ (by simp <;> omega) _) | (with_reducible refine Below.setCell ?_ (by simp <;> omega) _)))⟩
theorem whole_h (n : Int) (w : World) (h : Bn 1000000000 n) :
    Calls Try.prog 90 #[.int .i64 n] w fun e w' => e = .returned (.agg #[.int .i64 (2 * n), .int .i64 0, .int .i64 0, .int .i64 0]) ∧ Below w.heap.size w w' := by
  obtain ⟨h1, h2⟩ := h
  go_enter Try.func90, Try.ntmps90
  go_wp2
  exact bodyPost_ret (v := .agg #[.int .i64 (2 * n), .int .i64 0, .int .i64 0, .int .i64 0]) (by simp [results, Try.results90, go_sem]) rfl ⟨rfl, by go_grown⟩
/-- what a walk keeps: cells, and that nothing that was there has turned -/
def K_Q5 (R : Nat) (w w' : World) : Prop := KL w [] [(R, 0), (R, 1), (R, 2), (R, 3), (R, 4)] w'
theorem K_Q5.below {R : Nat} {w w1 w2 : World} (hb : Below w1.heap.size w1 w2) (h : K_Q5 R w w1) : K_Q5 R w w2 := KL.below hb h
theorem K_Q5.draws {R : Nat} {w w1 : World} (n : Nat) (h : K_Q5 R w w1) : K_Q5 R w (w1.drewN n) := KL.draws n h
theorem K_Q5.drew {R : Nat} {w w1 : World} (h : K_Q5 R w w1) : K_Q5 R w w1.drew := KL.draws 1 h
theorem K_Q5.alloc {R : Nat} {w w1 : World} (o : Obj) (h : K_Q5 R w w1) : K_Q5 R w (w1.alloc o) := KL.alloc o h
theorem K_Q5.set {R : Nat} {w w1 : World} (h : K_Q5 R w w1) (b i : Nat) (v : Value) (hb : w.heap.size ≤ b) : K_Q5 R w (w1.setCell ⟨b, i, none⟩ v) :=
  KL.set h b i v (by intro x hx; simp at hx) (by omega)
theorem K_Q5.bel {R : Nat} {w w1 : World} (h : K_Q5 R w w1) : Below w.heap.size w w1 := KL.bel h
theorem K_Q5.cells {R : Nat} {w w' : World} (h : K_Q5 R w w') : w'.cell? ⟨R, 0, none⟩ = some (cv w' R 0) ∧ w'.frozen? ⟨R, 0, none⟩ = false ∧ w'.cell? ⟨R, 1, none⟩ = some (cv w' R 1) ∧ w'.frozen? ⟨R, 1, none⟩ = false ∧ w'.cell? ⟨R, 2, none⟩ = some (cv w' R 2) ∧ w'.frozen? ⟨R, 2, none⟩ = false ∧ w'.cell? ⟨R, 3, none⟩ = some (cv w' R 3) ∧ w'.frozen? ⟨R, 3, none⟩ = false ∧ w'.cell? ⟨R, 4, none⟩ = some (cv w' R 4) ∧ w'.frozen? ⟨R, 4, none⟩ = false := ⟨h.d (R, 0) (by simp), h.f (R, 0) (by simp), h.d (R, 1) (by simp), h.f (R, 1) (by simp), h.d (R, 2) (by simp), h.f (R, 2) (by simp), h.d (R, 3) (by simp), h.f (R, 3) (by simp), h.d (R, 4) (by simp), h.f (R, 4) (by simp)⟩
theorem K_Q5.zs {R : Nat} {w w' : World} (h : K_Q5 R w w') : R < w'.heap.size ∧ True := ⟨KL.zf h (x := (R, 0)) (by simp), trivial⟩
theorem K_Q5.ks {R : Nat} {w w' : World} (h : K_Q5 R w w') : (w'.cell? ⟨R, 0, none⟩ = some (cv w' R 0) ∧ w'.frozen? ⟨R, 0, none⟩ = false ∧ w'.cell? ⟨R, 1, none⟩ = some (cv w' R 1) ∧ w'.frozen? ⟨R, 1, none⟩ = false ∧ w'.cell? ⟨R, 2, none⟩ = some (cv w' R 2) ∧ w'.frozen? ⟨R, 2, none⟩ = false ∧ w'.cell? ⟨R, 3, none⟩ = some (cv w' R 3) ∧ w'.frozen? ⟨R, 3, none⟩ = false ∧ w'.cell? ⟨R, 4, none⟩ = some (cv w' R 4) ∧ w'.frozen? ⟨R, 4, none⟩ = false) ∧ K_Q5 R w w' := ⟨h.cells, h⟩
set_option maxHeartbeats 1600000 in
theorem result_h (x : H) (w : World) (hx : HB 100000000000000000 x) :
    Calls Try.prog 70 #[.agg #[.int .i64 (x).w, .int .i64 (x).x, .int .i64 (x).y, .int .i64 (x).z]] w fun e w' => e = .returned (.agg #[.int .i64 (toQ x).w, .int .i64 (toQ x).x, .int .i64 (toQ x).y, .int .i64 (toQ x).z, .int .i64 (toQ x).d]) ∧ Below w.heap.size w w' := by
  obtain ⟨⟨q0, q0'⟩, ⟨q1, q1'⟩, ⟨q2, q2'⟩, ⟨q3, q3'⟩⟩ := hx
  by_cases h : x.w.tmod 2 = 0
  · have t : (x.w.tmod 2 != 0) = false := by rw [h]; rfl
    have O2 := Lib.hid (fun W => over_f x.w x.x x.y x.z 2 W ⟨by omega, by omega⟩ ⟨by omega, by omega⟩ ⟨by omega, by omega⟩ ⟨by omega, by omega⟩ (by decide))
    rw [toQ_even h]
    have e0 := IntWalk.i64_in (x.w.tmod 2) (by have := tmod2_bd x.w; omega)
    clear h
    obtain ⟨a0, a1, a2, a3⟩ := x
    simp only [] at O2 t e0 q0 q0' ⊢
    go_enter Try.func70, Try.ntmps70
    go_wp2_with fail
    refine (O2.out _).mono ?_
    rintro e w1 ⟨rfl, hb⟩
    have hK : K_Q5 (w.heap.size + 1) w w1 := K_Q5.below hb ⟨by simp, by simp [go_sem], by simp [go_sem], by (repeat (first | (with_reducible exact Below.refl _ _) | (with_reducible exact HB.out) | (with_reducible refine below_draws ?_ _) | (with_reducible refine Below.alloc ?_ (by go_size) _) | (with_reducible refine Below.setCell ?_ (by go_size) _) | (with_reducible refine Below.alloc ?_ (by simp <;> omega) _) | (with_reducible refine Below.setCell ?_ (by simp <;> omega) _)))⟩
    clear hb
    obtain ⟨d0_, f0_, d1_, f1_, d2_, f2_, d3_, f3_, d4_, f4_⟩ := K_Q5.cells hK; obtain ⟨z0_, -⟩ := K_Q5.zs hK; have HK := Lib.hid hK; clear hK
    have HB := Lib.hid (K_Q5.bel HK.out)
    have zz : w.heap.size + 1 ≠ w1.heap.size := by omega
    go_wp2
    exact bodyPost_ret (v := .agg #[.int .i64 (a0.tdiv 2), .int .i64 (a1.tdiv 2), .int .i64 (a2.tdiv 2), .int .i64 (a3.tdiv 2), .int .i64 1]) (by simp [results, Try.results70, go_sem, d0_, f0_, d1_, f1_, d2_, f2_, d3_, f3_, d4_, f4_, z0_]) rfl ⟨rfl, by (repeat (first | (with_reducible exact Below.refl _ _) | (with_reducible exact HB.out) | (with_reducible refine below_draws ?_ _) | (with_reducible refine Below.alloc ?_ (by go_size) _) | (with_reducible refine Below.setCell ?_ (by go_size) _) | (with_reducible refine Below.alloc ?_ (by simp <;> omega) _) | (with_reducible refine Below.setCell ?_ (by simp <;> omega) _)))⟩
  · have t : (x.w.tmod 2 != 0) = true := by rw [bne_iff_ne]; exact h
    rw [toQ_odd h]
    have e0 := IntWalk.i64_in (x.w.tmod 2) (by have := tmod2_bd x.w; omega)
    clear h
    obtain ⟨a0, a1, a2, a3⟩ := x
    simp only [] at t e0 q0 q0' ⊢
    go_enter Try.func70, Try.ntmps70
    go_wp2
    exact bodyPost_ret (v := .agg #[.int .i64 a0, .int .i64 a1, .int .i64 a2, .int .i64 a3, .int .i64 2]) (by simp [results, Try.results70, go_sem]) rfl ⟨rfl, by (repeat (first | (with_reducible exact Below.refl _ _) | (with_reducible exact HB.out) | (with_reducible refine below_draws ?_ _) | (with_reducible refine Below.alloc ?_ (by go_size) _) | (with_reducible refine Below.setCell ?_ (by go_size) _) | (with_reducible refine Below.alloc ?_ (by simp <;> omega) _) | (with_reducible refine Below.setCell ?_ (by simp <;> omega) _)))⟩
/-- what a walk keeps: cells, and that nothing that was there has turned -/
def K_Wo (a0 a1 a2 a3 b0 b1 b2 b3 : Int) (p q R : Nat) (w w' : World) : Prop := KL w [(p, 0, .int .i64 a0), (p, 1, .int .i64 a1), (p, 2, .int .i64 a2), (p, 3, .int .i64 a3), (q, 0, .int .i64 b0), (q, 1, .int .i64 b1), (q, 2, .int .i64 b2), (q, 3, .int .i64 b3)] [(R, 0), (R, 1), (R, 2), (R, 3)] w'
theorem K_Wo.below {a0 a1 a2 a3 b0 b1 b2 b3 : Int} {p q R : Nat} {w w1 w2 : World} (hb : Below w1.heap.size w1 w2) (h : K_Wo a0 a1 a2 a3 b0 b1 b2 b3 p q R w w1) : K_Wo a0 a1 a2 a3 b0 b1 b2 b3 p q R w w2 := KL.below hb h
theorem K_Wo.draws {a0 a1 a2 a3 b0 b1 b2 b3 : Int} {p q R : Nat} {w w1 : World} (n : Nat) (h : K_Wo a0 a1 a2 a3 b0 b1 b2 b3 p q R w w1) : K_Wo a0 a1 a2 a3 b0 b1 b2 b3 p q R w (w1.drewN n) := KL.draws n h
theorem K_Wo.drew {a0 a1 a2 a3 b0 b1 b2 b3 : Int} {p q R : Nat} {w w1 : World} (h : K_Wo a0 a1 a2 a3 b0 b1 b2 b3 p q R w w1) : K_Wo a0 a1 a2 a3 b0 b1 b2 b3 p q R w w1.drew := KL.draws 1 h
theorem K_Wo.alloc {a0 a1 a2 a3 b0 b1 b2 b3 : Int} {p q R : Nat} {w w1 : World} (o : Obj) (h : K_Wo a0 a1 a2 a3 b0 b1 b2 b3 p q R w w1) : K_Wo a0 a1 a2 a3 b0 b1 b2 b3 p q R w (w1.alloc o) := KL.alloc o h
theorem K_Wo.set {a0 a1 a2 a3 b0 b1 b2 b3 : Int} {p q R : Nat} {w w1 : World} (h : K_Wo a0 a1 a2 a3 b0 b1 b2 b3 p q R w w1) (b i : Nat) (v : Value) (hb : b ≠ p ∧ b ≠ q ∧ w.heap.size ≤ b) : K_Wo a0 a1 a2 a3 b0 b1 b2 b3 p q R w (w1.setCell ⟨b, i, none⟩ v) :=
  KL.set h b i v (by intro x hx; simp only [List.mem_cons, List.not_mem_nil, or_false] at hx; rcases hx with rfl | rfl | rfl | rfl | rfl | rfl | rfl | rfl <;> simp only [] <;> omega) (by omega)
theorem K_Wo.bel {a0 a1 a2 a3 b0 b1 b2 b3 : Int} {p q R : Nat} {w w1 : World} (h : K_Wo a0 a1 a2 a3 b0 b1 b2 b3 p q R w w1) : Below w.heap.size w w1 := KL.bel h
theorem K_Wo.cells {a0 a1 a2 a3 b0 b1 b2 b3 : Int} {p q R : Nat} {w w' : World} (h : K_Wo a0 a1 a2 a3 b0 b1 b2 b3 p q R w w') : w'.cell? ⟨p, 0, none⟩ = some (.int .i64 a0) ∧ w'.cell? ⟨p, 1, none⟩ = some (.int .i64 a1) ∧ w'.cell? ⟨p, 2, none⟩ = some (.int .i64 a2) ∧ w'.cell? ⟨p, 3, none⟩ = some (.int .i64 a3) ∧ w'.cell? ⟨q, 0, none⟩ = some (.int .i64 b0) ∧ w'.cell? ⟨q, 1, none⟩ = some (.int .i64 b1) ∧ w'.cell? ⟨q, 2, none⟩ = some (.int .i64 b2) ∧ w'.cell? ⟨q, 3, none⟩ = some (.int .i64 b3) ∧ w'.cell? ⟨R, 0, none⟩ = some (cv w' R 0) ∧ w'.frozen? ⟨R, 0, none⟩ = false ∧ w'.cell? ⟨R, 1, none⟩ = some (cv w' R 1) ∧ w'.frozen? ⟨R, 1, none⟩ = false ∧ w'.cell? ⟨R, 2, none⟩ = some (cv w' R 2) ∧ w'.frozen? ⟨R, 2, none⟩ = false ∧ w'.cell? ⟨R, 3, none⟩ = some (cv w' R 3) ∧ w'.frozen? ⟨R, 3, none⟩ = false := ⟨h.c (p, 0, .int .i64 a0) (by simp), h.c (p, 1, .int .i64 a1) (by simp), h.c (p, 2, .int .i64 a2) (by simp), h.c (p, 3, .int .i64 a3) (by simp), h.c (q, 0, .int .i64 b0) (by simp), h.c (q, 1, .int .i64 b1) (by simp), h.c (q, 2, .int .i64 b2) (by simp), h.c (q, 3, .int .i64 b3) (by simp), h.d (R, 0) (by simp), h.f (R, 0) (by simp), h.d (R, 1) (by simp), h.f (R, 1) (by simp), h.d (R, 2) (by simp), h.f (R, 2) (by simp), h.d (R, 3) (by simp), h.f (R, 3) (by simp)⟩
theorem K_Wo.zs {a0 a1 a2 a3 b0 b1 b2 b3 : Int} {p q R : Nat} {w w' : World} (h : K_Wo a0 a1 a2 a3 b0 b1 b2 b3 p q R w w') : p < w'.heap.size ∧ q < w'.heap.size ∧ R < w'.heap.size ∧ True := ⟨KL.z h (x := (p, 0, .int .i64 a0)) (by simp), KL.z h (x := (q, 0, .int .i64 b0)) (by simp), KL.zf h (x := (R, 0)) (by simp), trivial⟩
theorem K_Wo.ks {a0 a1 a2 a3 b0 b1 b2 b3 : Int} {p q R : Nat} {w w' : World} (h : K_Wo a0 a1 a2 a3 b0 b1 b2 b3 p q R w w') : (w'.cell? ⟨p, 0, none⟩ = some (.int .i64 a0) ∧ w'.cell? ⟨p, 1, none⟩ = some (.int .i64 a1) ∧ w'.cell? ⟨p, 2, none⟩ = some (.int .i64 a2) ∧ w'.cell? ⟨p, 3, none⟩ = some (.int .i64 a3) ∧ w'.cell? ⟨q, 0, none⟩ = some (.int .i64 b0) ∧ w'.cell? ⟨q, 1, none⟩ = some (.int .i64 b1) ∧ w'.cell? ⟨q, 2, none⟩ = some (.int .i64 b2) ∧ w'.cell? ⟨q, 3, none⟩ = some (.int .i64 b3) ∧ w'.cell? ⟨R, 0, none⟩ = some (cv w' R 0) ∧ w'.frozen? ⟨R, 0, none⟩ = false ∧ w'.cell? ⟨R, 1, none⟩ = some (cv w' R 1) ∧ w'.frozen? ⟨R, 1, none⟩ = false ∧ w'.cell? ⟨R, 2, none⟩ = some (cv w' R 2) ∧ w'.frozen? ⟨R, 2, none⟩ = false ∧ w'.cell? ⟨R, 3, none⟩ = some (cv w' R 3) ∧ w'.frozen? ⟨R, 3, none⟩ = false) ∧ K_Wo a0 a1 a2 a3 b0 b1 b2 b3 p q R w w' := ⟨h.cells, h⟩
set_option maxHeartbeats 1600000 in
theorem without_h (x d : H) (w : World) (hx : HB 100000000 x) (hd : HB 100000000 d) (h0 : N d ≠ 0) (hN : N d ≤ 1000000000) :
    Calls Try.prog 91 #[.agg #[.int .i64 (x).w, .int .i64 (x).x, .int .i64 (x).y, .int .i64 (x).z], .agg #[.int .i64 (d).w, .int .i64 (d).x, .int .i64 (d).y, .int .i64 (d).z]] w fun e w' => e = .returned (.agg #[.int .i64 (wo x d).w, .int .i64 (wo x d).x, .int .i64 (wo x d).y, .int .i64 (wo x d).z]) ∧ Below w.heap.size w w' := by
  have hcj : HB 100000000 d.conj := by obtain ⟨h1, h2, h3, h4⟩ := hd; unfold H.conj; exact ⟨h1, by simp only; omega, by simp only; omega, by simp only; omega⟩
  have PB := P_bd hcj hx
  have CJ := Lib.hid (fun W => conj_f d.w d.x d.y d.z W hd.2.1 hd.2.2.1 hd.2.2.2)
  have TM := Lib.hid (fun W => times_f d.w (-d.x) (-d.y) (-d.z) x.w x.x x.y x.z W hcj.1 hcj.2.1 hcj.2.2.1 hcj.2.2.2 hx.1 hx.2.1 hx.2.2.1 hx.2.2.2)
  have NM := Lib.hid (fun W => norm_f d.w d.x d.y d.z W hd.1 hd.2.1 hd.2.2.1 hd.2.2.2)
  have hNn := N_nonneg d
  have OV := Lib.hid (fun W => over_f (P d.conj x).w (P d.conj x).x (P d.conj x).y (P d.conj x).z (2 * N d) W ⟨by have := PB.1.1; omega, by have := PB.1.2; omega⟩ ⟨by have := PB.2.1.1; omega, by have := PB.2.1.2; omega⟩ ⟨by have := PB.2.2.1.1; omega, by have := PB.2.2.1.2; omega⟩ ⟨by have := PB.2.2.2.1; omega, by have := PB.2.2.2.2; omega⟩ (by omega))
  unfold wo H.ov
  rw [show (H.mk d.w d.x d.y d.z) = d from rfl] at NM
  rw [show (H.mk d.w (-d.x) (-d.y) (-d.z)) = d.conj from rfl, show (H.mk x.w x.x x.y x.z) = x from rfl] at TM
  generalize P d.conj x = p at *
  generalize N d = m at *
  have ef := IntWalk.i64_in (2 * m) (by omega)
  clear hcj PB hx hd
  obtain ⟨a0, a1, a2, a3⟩ := x
  obtain ⟨b0, b1, b2, b3⟩ := d
  obtain ⟨p0, p1, p2, p3⟩ := p
  simp only [] at CJ TM NM OV ⊢
  go_enter Try.func91, Try.ntmps91
  go_wp2_with fail
  have hk : K_Wo a0 a1 a2 a3 b0 b1 b2 b3 w.heap.size (w.heap.size + 1) (w.heap.size + 2) w (((w.alloc (.cells #[.int .i64 a0, .int .i64 a1, .int .i64 a2, .int .i64 a3] 97)).alloc (.cells #[.int .i64 b0, .int .i64 b1, .int .i64 b2, .int .i64 b3] 97)).alloc (.cells #[.int .i64 0, .int .i64 0, .int .i64 0, .int .i64 0] 97)) := ⟨by simp [go_sem], by simp [go_sem], by simp [go_sem], by (repeat (first | (with_reducible exact Below.refl _ _) | (with_reducible exact HB.out) | (with_reducible refine below_draws ?_ _) | (with_reducible refine Below.alloc ?_ (by go_size) _) | (with_reducible refine Below.setCell ?_ (by go_size) _) | (with_reducible refine Below.alloc ?_ (by simp <;> omega) _) | (with_reducible refine Below.setCell ?_ (by simp <;> omega) _)))⟩
  go_region_held3 (fun w' => (w'.cell? ⟨w.heap.size, 0, none⟩ = some (.int .i64 a0) ∧ w'.cell? ⟨w.heap.size, 1, none⟩ = some (.int .i64 a1) ∧ w'.cell? ⟨w.heap.size, 2, none⟩ = some (.int .i64 a2) ∧ w'.cell? ⟨w.heap.size, 3, none⟩ = some (.int .i64 a3) ∧ w'.cell? ⟨(w.heap.size + 1), 0, none⟩ = some (.int .i64 b0) ∧ w'.cell? ⟨(w.heap.size + 1), 1, none⟩ = some (.int .i64 b1) ∧ w'.cell? ⟨(w.heap.size + 1), 2, none⟩ = some (.int .i64 b2) ∧ w'.cell? ⟨(w.heap.size + 1), 3, none⟩ = some (.int .i64 b3) ∧ w'.cell? ⟨(w.heap.size + 2), 0, none⟩ = some (cv w' ((w.heap.size + 2)) 0) ∧ w'.frozen? ⟨(w.heap.size + 2), 0, none⟩ = false ∧ w'.cell? ⟨(w.heap.size + 2), 1, none⟩ = some (cv w' ((w.heap.size + 2)) 1) ∧ w'.frozen? ⟨(w.heap.size + 2), 1, none⟩ = false ∧ w'.cell? ⟨(w.heap.size + 2), 2, none⟩ = some (cv w' ((w.heap.size + 2)) 2) ∧ w'.frozen? ⟨(w.heap.size + 2), 2, none⟩ = false ∧ w'.cell? ⟨(w.heap.size + 2), 3, none⟩ = some (cv w' ((w.heap.size + 2)) 3) ∧ w'.frozen? ⟨(w.heap.size + 2), 3, none⟩ = false) ∧ K_Wo a0 a1 a2 a3 b0 b1 b2 b3 w.heap.size (w.heap.size + 1) (w.heap.size + 2) w w') ((refine K_Wo.ks ?_; repeat (first | (with_reducible assumption) | (with_reducible refine K_Wo.draws _ ?_) | (with_reducible refine K_Wo.drew ?_) | (with_reducible refine K_Wo.alloc _ ?_) | (with_reducible refine K_Wo.set ?_ _ _ _ (by omega)))))
    (first
      | (go_at_call 128; (with_reducible refine (CJ.out _).mono ?_); rintro e w' ⟨rfl, hbel⟩; have hk' := K_Wo.below hbel (And.right (by assumption)); clear hbel)
      | (go_at_call 126; (with_reducible refine (TM.out _).mono ?_); rintro e w' ⟨rfl, hbel⟩; have hk' := K_Wo.below hbel (And.right (by assumption)); clear hbel)
      | (go_at_call 68; (with_reducible refine (NM.out _).mono ?_); rintro e w' ⟨rfl, hbel⟩; have hk' := K_Wo.below hbel (And.right (by assumption)); clear hbel)
      | (go_at_call 121; (with_reducible refine (OV.out _).mono ?_); rintro e w' ⟨rfl, hbel⟩; have hk' := K_Wo.below hbel (And.right (by assumption)); clear hbel))
  all_goals
    clear ef
    go_wp2
    (rename_i hh_; clear hh_; obtain ⟨c0_, c1_, c2_, c3_, c4_, c5_, c6_, c7_, d0_, f0_, d1_, f1_, d2_, f2_, d3_, f3_⟩ := K_Wo.cells hk'; have HB := Lib.hid (K_Wo.bel hk'))
    exact bodyPost_ret (v := .agg #[.int .i64 (p0.tdiv (2 * m)), .int .i64 (p1.tdiv (2 * m)), .int .i64 (p2.tdiv (2 * m)), .int .i64 (p3.tdiv (2 * m))]) (by simp [results, Try.results91, go_sem, c0_, c1_, c2_, c3_, c4_, c5_, c6_, c7_, d0_, f0_, d1_, f1_, d2_, f2_, d3_, f3_]) rfl ⟨rfl, by (repeat (first | (with_reducible exact Below.refl _ _) | (with_reducible exact HB.out) | (with_reducible refine below_draws ?_ _) | (with_reducible refine Below.alloc ?_ (by go_size) _) | (with_reducible refine Below.setCell ?_ (by go_size) _) | (with_reducible refine Below.alloc ?_ (by simp <;> omega) _) | (with_reducible refine Below.setCell ?_ (by simp <;> omega) _)))⟩
end Go.Proofs.Yteiflfmpkfhkoaa.Rt
