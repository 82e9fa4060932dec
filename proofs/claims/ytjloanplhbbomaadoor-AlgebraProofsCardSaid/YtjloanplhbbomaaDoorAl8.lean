/-
  WALKS: what fits; equality with the reference; conjugates.
-/
import Derived.Test.YtjloanplhbbomaaDoorAl6
import Derived.Test.YtjloanplhbbomaaDoorAl7
namespace Go.Proofs.YtjloanplhbbomaaDoor.Al
open Go.RowKit
open Alm
set_option linter.unusedVariables false
set_option linter.unusedSimpArgs false
set_option maxRecDepth 100000
/-- what a walk keeps: cells, and that nothing that was there has turned -/
def K_F (B R : Nat) (w w' : World) : Prop := KL w [] [(B, 0), (B, 1), (B, 2), (B, 3), (B, 4), (R, 0), (R, 1), (R, 2), (R, 3), (R, 4)] w'
theorem K_F.below {B R : Nat} {w w1 w2 : World} (hb : Below w1.heap.size w1 w2) (h : K_F B R w w1) : K_F B R w w2 := KL.below hb h
theorem K_F.draws {B R : Nat} {w w1 : World} (n : Nat) (h : K_F B R w w1) : K_F B R w (w1.drewN n) := KL.draws n h
theorem K_F.drew {B R : Nat} {w w1 : World} (h : K_F B R w w1) : K_F B R w w1.drew := KL.draws 1 h
theorem K_F.alloc {B R : Nat} {w w1 : World} (o : Obj) (h : K_F B R w w1) : K_F B R w (w1.alloc o) := KL.alloc o h
theorem K_F.set {B R : Nat} {w w1 : World} (h : K_F B R w w1) (b i : Nat) (v : Value) (hb : w.heap.size ≤ b) : K_F B R w (w1.setCell ⟨b, i, none⟩ v) :=
  KL.set h b i v (by intro x hx; simp at hx) (by omega)
theorem K_F.bel {B R : Nat} {w w1 : World} (h : K_F B R w w1) : Below w.heap.size w w1 := KL.bel h
theorem K_F.cells {B R : Nat} {w w' : World} (h : K_F B R w w') : w'.cell? ⟨B, 0, none⟩ = some (cv w' B 0) ∧ w'.frozen? ⟨B, 0, none⟩ = false ∧ w'.cell? ⟨B, 1, none⟩ = some (cv w' B 1) ∧ w'.frozen? ⟨B, 1, none⟩ = false ∧ w'.cell? ⟨B, 2, none⟩ = some (cv w' B 2) ∧ w'.frozen? ⟨B, 2, none⟩ = false ∧ w'.cell? ⟨B, 3, none⟩ = some (cv w' B 3) ∧ w'.frozen? ⟨B, 3, none⟩ = false ∧ w'.cell? ⟨B, 4, none⟩ = some (cv w' B 4) ∧ w'.frozen? ⟨B, 4, none⟩ = false ∧ w'.cell? ⟨R, 0, none⟩ = some (cv w' R 0) ∧ w'.frozen? ⟨R, 0, none⟩ = false ∧ w'.cell? ⟨R, 1, none⟩ = some (cv w' R 1) ∧ w'.frozen? ⟨R, 1, none⟩ = false ∧ w'.cell? ⟨R, 2, none⟩ = some (cv w' R 2) ∧ w'.frozen? ⟨R, 2, none⟩ = false ∧ w'.cell? ⟨R, 3, none⟩ = some (cv w' R 3) ∧ w'.frozen? ⟨R, 3, none⟩ = false ∧ w'.cell? ⟨R, 4, none⟩ = some (cv w' R 4) ∧ w'.frozen? ⟨R, 4, none⟩ = false := ⟨h.d (B, 0) (by simp), h.f (B, 0) (by simp), h.d (B, 1) (by simp), h.f (B, 1) (by simp), h.d (B, 2) (by simp), h.f (B, 2) (by simp), h.d (B, 3) (by simp), h.f (B, 3) (by simp), h.d (B, 4) (by simp), h.f (B, 4) (by simp), h.d (R, 0) (by simp), h.f (R, 0) (by simp), h.d (R, 1) (by simp), h.f (R, 1) (by simp), h.d (R, 2) (by simp), h.f (R, 2) (by simp), h.d (R, 3) (by simp), h.f (R, 3) (by simp), h.d (R, 4) (by simp), h.f (R, 4) (by simp)⟩
theorem K_F.zs {B R : Nat} {w w' : World} (h : K_F B R w w') : B < w'.heap.size ∧ R < w'.heap.size ∧ True := ⟨KL.zf h (x := (B, 0)) (by simp), KL.zf h (x := (R, 0)) (by simp), trivial⟩
theorem K_F.ks {B R : Nat} {w w' : World} (h : K_F B R w w') : (w'.cell? ⟨B, 0, none⟩ = some (cv w' B 0) ∧ w'.frozen? ⟨B, 0, none⟩ = false ∧ w'.cell? ⟨B, 1, none⟩ = some (cv w' B 1) ∧ w'.frozen? ⟨B, 1, none⟩ = false ∧ w'.cell? ⟨B, 2, none⟩ = some (cv w' B 2) ∧ w'.frozen? ⟨B, 2, none⟩ = false ∧ w'.cell? ⟨B, 3, none⟩ = some (cv w' B 3) ∧ w'.frozen? ⟨B, 3, none⟩ = false ∧ w'.cell? ⟨B, 4, none⟩ = some (cv w' B 4) ∧ w'.frozen? ⟨B, 4, none⟩ = false ∧ w'.cell? ⟨R, 0, none⟩ = some (cv w' R 0) ∧ w'.frozen? ⟨R, 0, none⟩ = false ∧ w'.cell? ⟨R, 1, none⟩ = some (cv w' R 1) ∧ w'.frozen? ⟨R, 1, none⟩ = false ∧ w'.cell? ⟨R, 2, none⟩ = some (cv w' R 2) ∧ w'.frozen? ⟨R, 2, none⟩ = false ∧ w'.cell? ⟨R, 3, none⟩ = some (cv w' R 3) ∧ w'.frozen? ⟨R, 3, none⟩ = false ∧ w'.cell? ⟨R, 4, none⟩ = some (cv w' R 4) ∧ w'.frozen? ⟨R, 4, none⟩ = false) ∧ K_F B R w w' := ⟨h.cells, h⟩
set_option maxHeartbeats 800000 in
theorem Fits_any (n0 n1 n2 n3 d : Int) (w : World) (h0 : -9223372036854775807 ≤ n0 ∧ n0 ≤ 9223372036854775807) (h1 : -9223372036854775807 ≤ n1 ∧ n1 ≤ 9223372036854775807) (h2 : -9223372036854775807 ≤ n2 ∧ n2 ≤ 9223372036854775807) (h3 : -9223372036854775807 ≤ n3 ∧ n3 ≤ 9223372036854775807) (h4 : -9223372036854775807 ≤ d ∧ d ≤ 9223372036854775807) (hd : d ≠ 0) :
    Calls Tryd.prog 62 #[.agg #[.int .i64 n0, .int .i64 n1, .int .i64 n2, .int .i64 n3, .int .i64 d]] w fun e w' => e = .returned (.tuple #[.agg #[.int .i64 (fitQ ⟨n0, n1, n2, n3, d⟩).w, .int .i64 (fitQ ⟨n0, n1, n2, n3, d⟩).x, .int .i64 (fitQ ⟨n0, n1, n2, n3, d⟩).y, .int .i64 (fitQ ⟨n0, n1, n2, n3, d⟩).z, .int .i64 (fitQ ⟨n0, n1, n2, n3, d⟩).d], .int .i64 (fitE ⟨n0, n1, n2, n3, d⟩)]) ∧ Below w.heap.size w w' := by
  have C := Lib.hid (fun W => rNormal_any n0 n1 n2 n3 d W h0 h1 h2 h3 h4 hd)
  clear h0 h1 h2 h3 h4 hd
  rw [show fitQ ⟨n0, n1, n2, n3, d⟩ = (if qB (Q.mk n0 n1 n2 n3 d).low then (Q.mk n0 n1 n2 n3 d).low else ⟨0, 0, 0, 0, 0⟩) from rfl, show fitE ⟨n0, n1, n2, n3, d⟩ = (if qB (Q.mk n0 n1 n2 n3 d).low then 0 else 8) from rfl]
  generalize (Q.mk n0 n1 n2 n3 d).low = q at C ⊢
  rcases hq : qB q with _ | _
  · rw [if_neg Bool.false_ne_true, if_neg Bool.false_ne_true]
    have HQ := Lib.hid hq
    clear hq
    go_enter Tryd.func62, Tryd.ntmps62
    go_wp2_with fail
    refine (C.out _).mono ?_
    rintro e w1 ⟨rfl, hb⟩
    clear C
    have hK : K_F w.heap.size (w.heap.size + 1) w w1 := K_F.below hb ⟨by simp, by simp [go_sem], by simp [go_sem], by (repeat (first | (with_reducible exact Below.refl _ _) | (with_reducible exact HB.out) | (with_reducible refine below_draws ?_ _) | (with_reducible refine Below.alloc ?_ (by go_size) _) | (with_reducible refine Below.setCell ?_ (by go_size) _) | (with_reducible refine Below.alloc ?_ (by simp <;> omega) _) | (with_reducible refine Below.setCell ?_ (by simp <;> omega) _)))⟩
    clear hb
    obtain ⟨d0_, f0_, d1_, f1_, d2_, f2_, d3_, f3_, d4_, f4_, d5_, f5_, d6_, f6_, d7_, f7_, d8_, f8_, d9_, f9_⟩ := K_F.cells hK
    have HK := Lib.hid hK
    clear hK
    go_wp2_with fail
    refine (rCheckQuat_bad q.w q.x q.y q.z q.d _ HQ.out).mono ?_
    rintro e w2 ⟨rfl, hb2⟩
    have hK : K_N q.w q.x q.y q.z q.d w.heap.size (w.heap.size + 1) w w2 := K_N.below hb2 ⟨by simp [go_sem, d0_, f0_, d1_, f1_, d2_, f2_, d3_, f3_, d4_, f4_, d5_, f5_, d6_, f6_, d7_, f7_, d8_, f8_, d9_, f9_], by simp [go_sem, d0_, f0_, d1_, f1_, d2_, f2_, d3_, f3_, d4_, f4_, d5_, f5_, d6_, f6_, d7_, f7_, d8_, f8_, d9_, f9_], by simp [go_sem, d0_, f0_, d1_, f1_, d2_, f2_, d3_, f3_, d4_, f4_, d5_, f5_, d6_, f6_, d7_, f7_, d8_, f8_, d9_, f9_], by have HB := Lib.hid (K_F.bel HK.out); (repeat (first | (with_reducible exact Below.refl _ _) | (with_reducible exact HB.out) | (with_reducible refine below_draws ?_ _) | (with_reducible refine Below.alloc ?_ (by go_size) _) | (with_reducible refine Below.setCell ?_ (by go_size) _) | (with_reducible refine Below.alloc ?_ (by simp <;> omega) _) | (with_reducible refine Below.setCell ?_ (by simp <;> omega) _)))⟩
    clear hb2 d0_ f0_ d1_ f1_ d2_ f2_ d3_ f3_ d4_ f4_ d5_ f5_ d6_ f6_ d7_ f7_ d8_ f8_ d9_ f9_
    obtain ⟨c0_, c1_, c2_, c3_, c4_, d0_, f0_, d1_, f1_, d2_, f2_, d3_, f3_, d4_, f4_⟩ := K_N.cells hK
    have HB := Lib.hid (K_N.bel hK)
    clear hK
    go_wp2
    exact bodyPost_ret (v := .tuple #[.agg #[.int .i64 0, .int .i64 0, .int .i64 0, .int .i64 0, .int .i64 0], .int .i64 8]) (by simp [results, Tryd.results62, go_sem, c0_, c1_, c2_, c3_, c4_, d0_, f0_, d1_, f1_, d2_, f2_, d3_, f3_, d4_, f4_]) rfl ⟨rfl, by (repeat (first | (with_reducible exact Below.refl _ _) | (with_reducible exact HB.out) | (with_reducible refine below_draws ?_ _) | (with_reducible refine Below.alloc ?_ (by go_size) _) | (with_reducible refine Below.setCell ?_ (by go_size) _) | (with_reducible refine Below.alloc ?_ (by simp <;> omega) _) | (with_reducible refine Below.setCell ?_ (by simp <;> omega) _)))⟩
  · rw [if_pos rfl, if_pos rfl]
    have HQ := Lib.hid hq
    clear hq
    go_enter Tryd.func62, Tryd.ntmps62
    go_wp2_with fail
    refine (C.out _).mono ?_
    rintro e w1 ⟨rfl, hb⟩
    clear C
    have hK : K_F w.heap.size (w.heap.size + 1) w w1 := K_F.below hb ⟨by simp, by simp [go_sem], by simp [go_sem], by (repeat (first | (with_reducible exact Below.refl _ _) | (with_reducible exact HB.out) | (with_reducible refine below_draws ?_ _) | (with_reducible refine Below.alloc ?_ (by go_size) _) | (with_reducible refine Below.setCell ?_ (by go_size) _) | (with_reducible refine Below.alloc ?_ (by simp <;> omega) _) | (with_reducible refine Below.setCell ?_ (by simp <;> omega) _)))⟩
    clear hb
    obtain ⟨d0_, f0_, d1_, f1_, d2_, f2_, d3_, f3_, d4_, f4_, d5_, f5_, d6_, f6_, d7_, f7_, d8_, f8_, d9_, f9_⟩ := K_F.cells hK
    have HK := Lib.hid hK
    clear hK
    go_wp2_with fail
    refine (rCheckQuat_ok q.w q.x q.y q.z q.d _ HQ.out).mono ?_
    rintro e w2 ⟨rfl, hb2⟩
    have hK : K_N q.w q.x q.y q.z q.d w.heap.size (w.heap.size + 1) w w2 := K_N.below hb2 ⟨by simp [go_sem, d0_, f0_, d1_, f1_, d2_, f2_, d3_, f3_, d4_, f4_, d5_, f5_, d6_, f6_, d7_, f7_, d8_, f8_, d9_, f9_], by simp [go_sem, d0_, f0_, d1_, f1_, d2_, f2_, d3_, f3_, d4_, f4_, d5_, f5_, d6_, f6_, d7_, f7_, d8_, f8_, d9_, f9_], by simp [go_sem, d0_, f0_, d1_, f1_, d2_, f2_, d3_, f3_, d4_, f4_, d5_, f5_, d6_, f6_, d7_, f7_, d8_, f8_, d9_, f9_], by have HB := Lib.hid (K_F.bel HK.out); (repeat (first | (with_reducible exact Below.refl _ _) | (with_reducible exact HB.out) | (with_reducible refine below_draws ?_ _) | (with_reducible refine Below.alloc ?_ (by go_size) _) | (with_reducible refine Below.setCell ?_ (by go_size) _) | (with_reducible refine Below.alloc ?_ (by simp <;> omega) _) | (with_reducible refine Below.setCell ?_ (by simp <;> omega) _)))⟩
    clear hb2 d0_ f0_ d1_ f1_ d2_ f2_ d3_ f3_ d4_ f4_ d5_ f5_ d6_ f6_ d7_ f7_ d8_ f8_ d9_ f9_
    obtain ⟨c0_, c1_, c2_, c3_, c4_, d0_, f0_, d1_, f1_, d2_, f2_, d3_, f3_, d4_, f4_⟩ := K_N.cells hK
    have HB := Lib.hid (K_N.bel hK)
    clear hK
    go_wp2
    exact bodyPost_ret (v := .tuple #[.agg #[.int .i64 (q).w, .int .i64 (q).x, .int .i64 (q).y, .int .i64 (q).z, .int .i64 (q).d], .int .i64 0]) (by simp [results, Tryd.results62, go_sem, c0_, c1_, c2_, c3_, c4_, d0_, f0_, d1_, f1_, d2_, f2_, d3_, f3_, d4_, f4_]) rfl ⟨rfl, by (repeat (first | (with_reducible exact Below.refl _ _) | (with_reducible exact HB.out) | (with_reducible refine below_draws ?_ _) | (with_reducible refine Below.alloc ?_ (by go_size) _) | (with_reducible refine Below.setCell ?_ (by go_size) _) | (with_reducible refine Below.alloc ?_ (by simp <;> omega) _) | (with_reducible refine Below.setCell ?_ (by simp <;> omega) _)))⟩
theorem same_refl (n0 n1 n2 n3 d e : Int) (w : World) :
    Calls Tryd.prog 18 #[.agg #[.int .i64 n0, .int .i64 n1, .int .i64 n2, .int .i64 n3, .int .i64 d], .int .i64 e, .agg #[.int .i64 n0, .int .i64 n1, .int .i64 n2, .int .i64 n3, .int .i64 d], .int .i64 e] w fun e w' => e = .returned (.bool true) ∧ Below w.heap.size w w' := by
  go_enter Tryd.func18, Tryd.ntmps18
  go_wp2
  go_ret
  exact ⟨rfl, by (repeat (first | (with_reducible exact Below.refl _ _) | (with_reducible exact HB.out) | (with_reducible refine below_draws ?_ _) | (with_reducible refine Below.alloc ?_ (by go_size) _) | (with_reducible refine Below.setCell ?_ (by go_size) _) | (with_reducible refine Below.alloc ?_ (by simp <;> omega) _) | (with_reducible refine Below.setCell ?_ (by simp <;> omega) _)))⟩
end Go.Proofs.YtjloanplhbbomaaDoor.Al
