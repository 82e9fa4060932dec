/-
  What a walk keeps over calls that make memory; Normal walked.
-/
import Derived.Test.YteiflfmpkfhkoaaAl4
import Derived.Deep.RegionHeld3
namespace Go.Proofs.Yteiflfmpkfhkoaa.Al
open Go.RowKit
open Alm
set_option linter.unusedVariables false
set_option linter.unusedSimpArgs false
set_option maxRecDepth 100000
/-- what a cell holds -/
@[irreducible] def cv (w : World) (b i : Nat) : Value := (w.cell? ⟨b, i, none⟩).getD undef
theorem cv_of {w : World} {b i : Nat} (h : (w.cell? ⟨b, i, none⟩).isSome = true) : w.cell? ⟨b, i, none⟩ = some (cv w b i) := by
  unfold cv
  obtain ⟨v, hv⟩ := Option.isSome_iff_exists.1 h
  rw [hv]; rfl
/-- cells that are known, cells that may be written, nothing that was there turned -/
structure KL (w0 : World) (cs : List (Nat × Nat × Value)) (fs : List (Nat × Nat)) (w : World) : Prop where
  c : ∀ x ∈ cs, w.cell? ⟨x.1, x.2.1, none⟩ = some x.2.2
  g : ∀ x ∈ fs, (w.cell? ⟨x.1, x.2, none⟩).isSome = true
  f : ∀ x ∈ fs, w.frozen? ⟨x.1, x.2, none⟩ = false
  bel : Below w0.heap.size w0 w
section
variable {w0 : World} {cs : List (Nat × Nat × Value)} {fs : List (Nat × Nat)} {w w' : World}
theorem KL.d (h : KL w0 cs fs w) (x : Nat × Nat) (hx : x ∈ fs) : w.cell? ⟨x.1, x.2, none⟩ = some (cv w x.1 x.2) := cv_of (h.g x hx)
theorem KL.z (h : KL w0 cs fs w) {x : Nat × Nat × Value} (hx : x ∈ cs) : x.1 < w.heap.size := World.block_lt_of_cell? w ⟨x.1, x.2.1, none⟩ (h.c x hx)
theorem KL.zf (h : KL w0 cs fs w) {x : Nat × Nat} (hx : x ∈ fs) : x.1 < w.heap.size := World.block_lt_of_cell? w ⟨x.1, x.2, none⟩ (h.d x hx)
theorem KL.below (hb : Below w.heap.size w w') (h : KL w0 cs fs w) : KL w0 cs fs w' :=
  ⟨fun x hx => (hb.cell (p := ⟨x.1, x.2.1, none⟩) (h.z hx)).trans (h.c x hx), fun x hx => by rw [hb.cell (p := ⟨x.1, x.2, none⟩) (h.zf hx)]; exact h.g x hx,
    fun x hx => (hb.frozen (p := ⟨x.1, x.2, none⟩) (h.zf hx)).trans (h.f x hx), h.bel.trans (hb.mono h.bel.size)⟩
theorem KL.draws (n : Nat) (h : KL w0 cs fs w) : KL w0 cs fs (w.drewN n) := h.below (below_draws (Below.refl _ _) n)
theorem KL.alloc (o : Obj) (h : KL w0 cs fs w) : KL w0 cs fs (w.alloc o) := h.below ((Below.refl _ _).alloc (Nat.le_refl _) o)
theorem KL.set (h : KL w0 cs fs w) (b i : Nat) (v : Value) (hb : ∀ x ∈ cs, b ≠ x.1) (h0 : w0.heap.size ≤ b) : KL w0 cs fs (w.setCell ⟨b, i, none⟩ v) := by
  refine ⟨fun x hx => ?_, fun x hx => ?_, fun x hx => ?_, h.bel.setCell h0 _⟩
  · rw [World.cell?_setCell_other _ _ _ _ (fun e => hb x hx (by injection e))]; exact h.c x hx
  · obtain ⟨u, hu⟩ := cell?_setCell_some (p := ⟨b, i, none⟩) (x := v) (h.d x hx)
    rw [hu]; rfl
  · rw [World.frozen?_setCell]; exact h.f x hx
end
theorem Normal_bad (n0 n1 n2 n3 d : Int) (w : World) (h : qB ⟨n0, n1, n2, n3, d⟩ = false) :
    Calls Try.prog 122 #[.agg #[.int .i64 n0, .int .i64 n1, .int .i64 n2, .int .i64 n3, .int .i64 d]] w fun e w' => e = .returned (.tuple #[.agg #[.int .i64 0, .int .i64 0, .int .i64 0, .int .i64 0, .int .i64 0], .int .i64 3]) ∧ Below w.heap.size w w' := by
  go_enter Try.func122, Try.ntmps122
  go_wp2_with fail
  refine (CheckQuat_bad _ _ _ _ _ _ h).mono ?_
  rintro e w1 ⟨rfl, hb⟩
  obtain ⟨hc, hf⟩ := bcell hb
  have HB := Lib.hid (below_up (B := w.heap.size) (w := w) hb (by (repeat (first | (with_reducible exact Below.refl _ _) | (with_reducible exact HB.out) | (with_reducible refine below_draws ?_ _) | (with_reducible refine Below.alloc ?_ (by go_size) _) | (with_reducible refine Below.setCell ?_ (by go_size) _) | (with_reducible refine Below.alloc ?_ (by simp <;> omega) _) | (with_reducible refine Below.setCell ?_ (by simp <;> omega) _)))) (by simp; omega))
  clear hb
  go_wp2
  exact bodyPost_ret (v := .tuple #[.agg #[.int .i64 0, .int .i64 0, .int .i64 0, .int .i64 0, .int .i64 0], .int .i64 3]) (by simp [results, Try.results122, go_sem, hc, hf]) rfl ⟨rfl, by (repeat (first | (with_reducible exact Below.refl _ _) | (with_reducible exact HB.out) | (with_reducible refine below_draws ?_ _) | (with_reducible refine Below.alloc ?_ (by go_size) _) | (with_reducible refine Below.setCell ?_ (by go_size) _) | (with_reducible refine Below.alloc ?_ (by simp <;> omega) _) | (with_reducible refine Below.setCell ?_ (by simp <;> omega) _)))⟩
theorem qin_bd {n0 n1 n2 n3 d : Int} (h : qB ⟨n0, n1, n2, n3, d⟩ = true) : (-1000000 ≤ n0 ∧ n0 ≤ 1000000) ∧ (-1000000 ≤ n1 ∧ n1 ≤ 1000000) ∧ (-1000000 ≤ n2 ∧ n2 ≤ 1000000) ∧ (-1000000 ≤ n3 ∧ n3 ≤ 1000000) ∧ (1 ≤ d ∧ d ≤ 1000000) := qB_of h
/-- what a walk keeps: cells, and that nothing that was there has turned -/
def K_N (n0 n1 n2 n3 d : Int) (B R : Nat) (w w' : World) : Prop := KL w [(B, 0, .int .i64 n0), (B, 1, .int .i64 n1), (B, 2, .int .i64 n2), (B, 3, .int .i64 n3), (B, 4, .int .i64 d)] [(R, 0), (R, 1), (R, 2), (R, 3), (R, 4)] w'
theorem K_N.below {n0 n1 n2 n3 d : Int} {B R : Nat} {w w1 w2 : World} (hb : Below w1.heap.size w1 w2) (h : K_N n0 n1 n2 n3 d B R w w1) : K_N n0 n1 n2 n3 d B R w w2 := KL.below hb h
theorem K_N.draws {n0 n1 n2 n3 d : Int} {B R : Nat} {w w1 : World} (n : Nat) (h : K_N n0 n1 n2 n3 d B R w w1) : K_N n0 n1 n2 n3 d B R w (w1.drewN n) := KL.draws n h
theorem K_N.drew {n0 n1 n2 n3 d : Int} {B R : Nat} {w w1 : World} (h : K_N n0 n1 n2 n3 d B R w w1) : K_N n0 n1 n2 n3 d B R w w1.drew := KL.draws 1 h
theorem K_N.alloc {n0 n1 n2 n3 d : Int} {B R : Nat} {w w1 : World} (o : Obj) (h : K_N n0 n1 n2 n3 d B R w w1) : K_N n0 n1 n2 n3 d B R w (w1.alloc o) := KL.alloc o h
theorem K_N.set {n0 n1 n2 n3 d : Int} {B R : Nat} {w w1 : World} (h : K_N n0 n1 n2 n3 d B R w w1) (b i : Nat) (v : Value) (hb : b ≠ B ∧ w.heap.size ≤ b) : K_N n0 n1 n2 n3 d B R w (w1.setCell ⟨b, i, none⟩ v) :=
  KL.set h b i v (by intro x hx; simp only [List.mem_cons, List.not_mem_nil, or_false] at hx; rcases hx with rfl | rfl | rfl | rfl | rfl <;> simp only [] <;> omega) (by omega)
theorem K_N.bel {n0 n1 n2 n3 d : Int} {B R : Nat} {w w1 : World} (h : K_N n0 n1 n2 n3 d B R w w1) : Below w.heap.size w w1 := KL.bel h
theorem K_N.cells {n0 n1 n2 n3 d : Int} {B R : Nat} {w w' : World} (h : K_N n0 n1 n2 n3 d B R w w') : w'.cell? ⟨B, 0, none⟩ = some (.int .i64 n0) ∧ w'.cell? ⟨B, 1, none⟩ = some (.int .i64 n1) ∧ w'.cell? ⟨B, 2, none⟩ = some (.int .i64 n2) ∧ w'.cell? ⟨B, 3, none⟩ = some (.int .i64 n3) ∧ w'.cell? ⟨B, 4, none⟩ = some (.int .i64 d) ∧ w'.cell? ⟨R, 0, none⟩ = some (cv w' R 0) ∧ w'.frozen? ⟨R, 0, none⟩ = false ∧ w'.cell? ⟨R, 1, none⟩ = some (cv w' R 1) ∧ w'.frozen? ⟨R, 1, none⟩ = false ∧ w'.cell? ⟨R, 2, none⟩ = some (cv w' R 2) ∧ w'.frozen? ⟨R, 2, none⟩ = false ∧ w'.cell? ⟨R, 3, none⟩ = some (cv w' R 3) ∧ w'.frozen? ⟨R, 3, none⟩ = false ∧ w'.cell? ⟨R, 4, none⟩ = some (cv w' R 4) ∧ w'.frozen? ⟨R, 4, none⟩ = false := ⟨h.c (B, 0, .int .i64 n0) (by simp), h.c (B, 1, .int .i64 n1) (by simp), h.c (B, 2, .int .i64 n2) (by simp), h.c (B, 3, .int .i64 n3) (by simp), h.c (B, 4, .int .i64 d) (by simp), h.d (R, 0) (by simp), h.f (R, 0) (by simp), h.d (R, 1) (by simp), h.f (R, 1) (by simp), h.d (R, 2) (by simp), h.f (R, 2) (by simp), h.d (R, 3) (by simp), h.f (R, 3) (by simp), h.d (R, 4) (by simp), h.f (R, 4) (by simp)⟩
theorem K_N.zs {n0 n1 n2 n3 d : Int} {B R : Nat} {w w' : World} (h : K_N n0 n1 n2 n3 d B R w w') : B < w'.heap.size ∧ R < w'.heap.size ∧ True := ⟨KL.z h (x := (B, 0, .int .i64 n0)) (by simp), KL.zf h (x := (R, 0)) (by simp), trivial⟩
theorem K_N.ks {n0 n1 n2 n3 d : Int} {B R : Nat} {w w' : World} (h : K_N n0 n1 n2 n3 d B R w w') : (w'.cell? ⟨B, 0, none⟩ = some (.int .i64 n0) ∧ w'.cell? ⟨B, 1, none⟩ = some (.int .i64 n1) ∧ w'.cell? ⟨B, 2, none⟩ = some (.int .i64 n2) ∧ w'.cell? ⟨B, 3, none⟩ = some (.int .i64 n3) ∧ w'.cell? ⟨B, 4, none⟩ = some (.int .i64 d) ∧ w'.cell? ⟨R, 0, none⟩ = some (cv w' R 0) ∧ w'.frozen? ⟨R, 0, none⟩ = false ∧ w'.cell? ⟨R, 1, none⟩ = some (cv w' R 1) ∧ w'.frozen? ⟨R, 1, none⟩ = false ∧ w'.cell? ⟨R, 2, none⟩ = some (cv w' R 2) ∧ w'.frozen? ⟨R, 2, none⟩ = false ∧ w'.cell? ⟨R, 3, none⟩ = some (cv w' R 3) ∧ w'.frozen? ⟨R, 3, none⟩ = false ∧ w'.cell? ⟨R, 4, none⟩ = some (cv w' R 4) ∧ w'.frozen? ⟨R, 4, none⟩ = false) ∧ K_N n0 n1 n2 n3 d B R w w' := ⟨h.cells, h⟩
set_option maxHeartbeats 4000000 in
theorem Normal_ok (n0 n1 n2 n3 d : Int) (w : World) (h : qB ⟨n0, n1, n2, n3, d⟩ = true) :
    Calls Try.prog 122 #[.agg #[.int .i64 n0, .int .i64 n1, .int .i64 n2, .int .i64 n3, .int .i64 d]] w fun e w' => e = .returned (.tuple #[.agg #[.int .i64 (fitQ ⟨n0, n1, n2, n3, d⟩).w, .int .i64 (fitQ ⟨n0, n1, n2, n3, d⟩).x, .int .i64 (fitQ ⟨n0, n1, n2, n3, d⟩).y, .int .i64 (fitQ ⟨n0, n1, n2, n3, d⟩).z, .int .i64 (fitQ ⟨n0, n1, n2, n3, d⟩).d], .int .i64 (fitE ⟨n0, n1, n2, n3, d⟩)]) ∧ Below w.heap.size w w' := by
  have H := Lib.hid h
  clear h
  go_enter Try.func122, Try.ntmps122
  go_wp2_with fail
  refine (CheckQuat_ok _ _ _ _ _ _ H.out).mono ?_
  rintro e w1 ⟨rfl, hb⟩
  have hK : K_N n0 n1 n2 n3 d w.heap.size (w.heap.size + 1) w w1 := K_N.below hb ⟨by simp [go_sem], by simp [go_sem], by simp [go_sem], by (repeat (first | (with_reducible exact Below.refl _ _) | (with_reducible exact HB.out) | (with_reducible refine below_draws ?_ _) | (with_reducible refine Below.alloc ?_ (by go_size) _) | (with_reducible refine Below.setCell ?_ (by go_size) _) | (with_reducible refine Below.alloc ?_ (by simp <;> omega) _) | (with_reducible refine Below.setCell ?_ (by simp <;> omega) _)))⟩
  have HK := Lib.hid hK
  clear hb hK
  go_wp2_with fail
  have OV := Lib.hid (fun W => over_any n0 n1 n2 n3 d W (by have := qin_bd H.out; omega) (by have := qin_bd H.out; omega) (by have := qin_bd H.out; omega) (by have := qin_bd H.out; omega) (by have := qin_bd H.out; omega) (by have := qin_bd H.out; omega))
  have hk := HK.out
  clear HK
  go_region_held3 (fun w' => (w'.cell? ⟨w.heap.size, 0, none⟩ = some (.int .i64 n0) ∧ w'.cell? ⟨w.heap.size, 1, none⟩ = some (.int .i64 n1) ∧ w'.cell? ⟨w.heap.size, 2, none⟩ = some (.int .i64 n2) ∧ w'.cell? ⟨w.heap.size, 3, none⟩ = some (.int .i64 n3) ∧ w'.cell? ⟨w.heap.size, 4, none⟩ = some (.int .i64 d) ∧ w'.cell? ⟨(w.heap.size + 1), 0, none⟩ = some (cv w' ((w.heap.size + 1)) 0) ∧ w'.frozen? ⟨(w.heap.size + 1), 0, none⟩ = false ∧ w'.cell? ⟨(w.heap.size + 1), 1, none⟩ = some (cv w' ((w.heap.size + 1)) 1) ∧ w'.frozen? ⟨(w.heap.size + 1), 1, none⟩ = false ∧ w'.cell? ⟨(w.heap.size + 1), 2, none⟩ = some (cv w' ((w.heap.size + 1)) 2) ∧ w'.frozen? ⟨(w.heap.size + 1), 2, none⟩ = false ∧ w'.cell? ⟨(w.heap.size + 1), 3, none⟩ = some (cv w' ((w.heap.size + 1)) 3) ∧ w'.frozen? ⟨(w.heap.size + 1), 3, none⟩ = false ∧ w'.cell? ⟨(w.heap.size + 1), 4, none⟩ = some (cv w' ((w.heap.size + 1)) 4) ∧ w'.frozen? ⟨(w.heap.size + 1), 4, none⟩ = false) ∧ K_N n0 n1 n2 n3 d w.heap.size (w.heap.size + 1) w w') ((refine K_N.ks ?_; repeat (first | (with_reducible assumption) | (with_reducible refine K_N.draws _ ?_) | (with_reducible refine K_N.drew ?_) | (with_reducible refine K_N.alloc _ ?_) | (with_reducible refine K_N.set ?_ _ _ _ (by omega)))))
    (first
      | (go_at_call 136; (with_reducible refine (numeratorsOf_any _ _ _ _ _ _).mono ?_); rintro e w' ⟨rfl, hbel⟩; have hk' := K_N.below hbel (And.right (by assumption)); clear hbel)
      | (go_at_call 138; (with_reducible refine (OV.out _).mono ?_); rintro e w' ⟨rfl, hbel⟩; have hk' := K_N.below hbel (And.right (by assumption)); clear hbel))
  go_wp2
  (rename_i hh_; clear hh_; obtain ⟨c0_, c1_, c2_, c3_, c4_, d0_, f0_, d1_, f1_, d2_, f2_, d3_, f3_, d4_, f4_⟩ := K_N.cells hk'; have HB := Lib.hid (K_N.bel hk'))
  exact bodyPost_ret (v := .tuple #[.agg #[.int .i64 (fitQ ⟨n0, n1, n2, n3, d⟩).w, .int .i64 (fitQ ⟨n0, n1, n2, n3, d⟩).x, .int .i64 (fitQ ⟨n0, n1, n2, n3, d⟩).y, .int .i64 (fitQ ⟨n0, n1, n2, n3, d⟩).z, .int .i64 (fitQ ⟨n0, n1, n2, n3, d⟩).d], .int .i64 (fitE ⟨n0, n1, n2, n3, d⟩)]) (by simp [results, Try.results122, go_sem, c0_, c1_, c2_, c3_, c4_, d0_, f0_, d1_, f1_, d2_, f2_, d3_, f3_, d4_, f4_]) rfl ⟨rfl, by (repeat (first | (with_reducible exact Below.refl _ _) | (with_reducible exact HB.out) | (with_reducible refine below_draws ?_ _) | (with_reducible refine Below.alloc ?_ (by go_size) _) | (with_reducible refine Below.setCell ?_ (by go_size) _) | (with_reducible refine Below.alloc ?_ (by simp <;> omega) _) | (with_reducible refine Below.setCell ?_ (by simp <;> omega) _)))⟩
end Go.Proofs.Yteiflfmpkfhkoaa.Al
