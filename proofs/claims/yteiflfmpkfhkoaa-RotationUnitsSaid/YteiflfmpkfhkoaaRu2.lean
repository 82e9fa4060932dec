/-
  WALKS: reduced quaternions of rotations, the program's.
-/
import Derived.Test.YteiflfmpkfhkoaaRu1
import Derived.Test.YteiflfmpkfhkoaaHdt
import Derived.Test.YteiflfmpkfhkoaaRtB
import Derived.Test.YteiflfmpkfhkoaaRt8
namespace Go.Proofs.Yteiflfmpkfhkoaa.Rt
open Go.RowKit
open Alm Hwm Al
set_option linter.unusedVariables false
set_option linter.unusedSimpArgs false
set_option maxRecDepth 100000
theorem ns_four (w : World) (a b c d : Int) (T : TypeId) (n : Nat) (hn : n = w.heap.size) : Ns (w.alloc (.cells #[.int .i64 a, .int .i64 b, .int .i64 c, .int .i64 d] T)) (some ⟨n, 0, none⟩) [a, b, c, d] := by
  subst hn
  intro _
  refine ⟨_, rfl, ?_⟩
  intro j hj
  match j, hj with
  | 0, _ => simp [go_sem]
  | 1, _ => simp [go_sem]
  | 2, _ => simp [go_sem]
  | 3, _ => simp [go_sem]
def g4 (a b c d : Int) : Int := (cdl [a, b, c, d] : Int)
theorem ns_drew {w : World} {A : Option Addr} {xs : List Int} (h : Ns w A xs) : Ns w.drew A xs := h
theorem rcd_four (a b c d : Int) (k : Nat) (W : World) (hN : Ns W (some ⟨k, 0, none⟩) [a, b, c, d]) (h0 : Bn 9223372036854775807 a) (h1 : Bn 9223372036854775807 b) (h2 : Bn 9223372036854775807 c) (h3 : Bn 9223372036854775807 d) :
    Calls Try.prog 94 #[.slice (some ⟨k, 0, none⟩) 4 4] W fun e w' => e = .returned (.int .i64 (g4 a b c d)) ∧ Below W.heap.size W w' := by
  refine (rcd_any [a, b, c, d] _ _ _ (by simp) (by simp) (by decide) hN ?_).mono ?_
  · intro j hj
    match j, hj with
    | 0, _ => exact h0
    | 1, _ => exact h1
    | 2, _ => exact h2
    | 3, _ => exact h3
  · rintro e w' ⟨rfl, m, rfl⟩
    exact ⟨rfl, below_draws (Below.refl _ _) m⟩
theorem g4_pos {a b c d : Int} (h : a ≠ 0 ∨ b ≠ 0 ∨ c ≠ 0 ∨ d ≠ 0) : 0 < g4 a b c d := by
  unfold g4
  simp only [cdl, List.foldl_cons, List.foldl_nil, Nat.gcd_zero_left]
  have : 0 < Nat.gcd (Nat.gcd (Nat.gcd a.natAbs b.natAbs) c.natAbs) d.natAbs := by
    refine Nat.pos_of_ne_zero fun e => ?_
    obtain ⟨e1, e2⟩ := Nat.gcd_eq_zero_iff.1 e
    obtain ⟨e3, e4⟩ := Nat.gcd_eq_zero_iff.1 e1
    obtain ⟨e5, e6⟩ := Nat.gcd_eq_zero_iff.1 e3
    omega
  omega
theorem g4_le {a b c d : Int} {m : Nat} (h0 : Bn m a) (h1 : Bn m b) (h2 : Bn m c) (h3 : Bn m d) : 0 ≤ g4 a b c d ∧ g4 a b c d ≤ m := by
  unfold g4
  obtain ⟨h0, h0'⟩ := h0
  obtain ⟨h1, h1'⟩ := h1
  obtain ⟨h2, h2'⟩ := h2
  obtain ⟨h3, h3'⟩ := h3
  refine ⟨by omega, ?_⟩
  simp only [cdl, List.foldl_cons, List.foldl_nil, Nat.gcd_zero_left]
  by_cases e : d = 0
  · subst e
    by_cases e : c = 0
    · subst e
      by_cases e : b = 0
      · subst e
        simp; omega
      · simp
        have := Nat.gcd_le_right a.natAbs (show 0 < b.natAbs by omega)
        omega
    · simp
      have := Nat.gcd_le_right (Nat.gcd a.natAbs b.natAbs) (show 0 < c.natAbs by omega)
      omega
  · have := Nat.gcd_le_right (Nat.gcd (Nat.gcd a.natAbs b.natAbs) c.natAbs) (show 0 < d.natAbs by omega)
    omega
/-- in lowest terms, by the greatest common divisor -/
def tlow (n : H) : H := n.ov (g4 n.w n.x n.y n.z)
/-- the reduced quaternion of a rotation -/
def trn (n : H) : H := if cmpH (tlow n) H.zero < 0 then (tlow n).sc (-1) else tlow n
theorem tlow_hb {n : H} {m : Nat} (h : HB m n) : HB m (tlow n) := by
  unfold tlow H.ov
  obtain ⟨⟨a0, a0'⟩, ⟨a1, a1'⟩, ⟨a2, a2'⟩, ⟨a3, a3'⟩⟩ := h
  have t0 := tdiv_bd n.w (g4 n.w n.x n.y n.z)
  have t1 := tdiv_bd n.x (g4 n.w n.x n.y n.z)
  have t2 := tdiv_bd n.y (g4 n.w n.x n.y n.z)
  have t3 := tdiv_bd n.z (g4 n.w n.x n.y n.z)
  refine ⟨⟨?_, ?_⟩, ⟨?_, ?_⟩, ⟨?_, ?_⟩, ⟨?_, ?_⟩⟩ <;> simp only <;> omega
theorem trn_hb {n : H} {m : Nat} (h : HB m n) : HB m (trn n) := by
  have h' := tlow_hb h
  unfold trn
  split
  · unfold H.sc
    obtain ⟨h0, h1, h2, h3⟩ := h'
    exact ⟨by simp only; omega, by simp only; omega, by simp only; omega, by simp only; omega⟩
  · exact h'
/-- what a walk keeps: cells, and that nothing that was there has turned -/
def K_To (n0 n1 n2 n3 : Int) (p R : Nat) (w w' : World) : Prop := KL w [(p, 0, .int .i64 n0), (p, 1, .int .i64 n1), (p, 2, .int .i64 n2), (p, 3, .int .i64 n3)] [(p, 0), (p, 1), (p, 2), (p, 3), (R, 0), (R, 1), (R, 2), (R, 3)] w'
theorem K_To.below {n0 n1 n2 n3 : Int} {p R : Nat} {w w1 w2 : World} (hb : Below w1.heap.size w1 w2) (h : K_To n0 n1 n2 n3 p R w w1) : K_To n0 n1 n2 n3 p R w w2 := KL.below hb h
theorem K_To.draws {n0 n1 n2 n3 : Int} {p R : Nat} {w w1 : World} (n : Nat) (h : K_To n0 n1 n2 n3 p R w w1) : K_To n0 n1 n2 n3 p R w (w1.drewN n) := KL.draws n h
theorem K_To.drew {n0 n1 n2 n3 : Int} {p R : Nat} {w w1 : World} (h : K_To n0 n1 n2 n3 p R w w1) : K_To n0 n1 n2 n3 p R w w1.drew := KL.draws 1 h
theorem K_To.alloc {n0 n1 n2 n3 : Int} {p R : Nat} {w w1 : World} (o : Obj) (h : K_To n0 n1 n2 n3 p R w w1) : K_To n0 n1 n2 n3 p R w (w1.alloc o) := KL.alloc o h
theorem K_To.set {n0 n1 n2 n3 : Int} {p R : Nat} {w w1 : World} (h : K_To n0 n1 n2 n3 p R w w1) (b i : Nat) (v : Value) (hb : b ≠ p ∧ w.heap.size ≤ b) : K_To n0 n1 n2 n3 p R w (w1.setCell ⟨b, i, none⟩ v) :=
  KL.set h b i v (by intro x hx; simp only [List.mem_cons, List.not_mem_nil, or_false] at hx; rcases hx with rfl | rfl | rfl | rfl <;> simp only [] <;> omega) (by omega)
theorem K_To.bel {n0 n1 n2 n3 : Int} {p R : Nat} {w w1 : World} (h : K_To n0 n1 n2 n3 p R w w1) : Below w.heap.size w w1 := KL.bel h
theorem K_To.cells {n0 n1 n2 n3 : Int} {p R : Nat} {w w' : World} (h : K_To n0 n1 n2 n3 p R w w') : w'.cell? ⟨p, 0, none⟩ = some (.int .i64 n0) ∧ w'.cell? ⟨p, 1, none⟩ = some (.int .i64 n1) ∧ w'.cell? ⟨p, 2, none⟩ = some (.int .i64 n2) ∧ w'.cell? ⟨p, 3, none⟩ = some (.int .i64 n3) ∧ w'.frozen? ⟨p, 0, none⟩ = false ∧ w'.frozen? ⟨p, 1, none⟩ = false ∧ w'.frozen? ⟨p, 2, none⟩ = false ∧ w'.frozen? ⟨p, 3, none⟩ = false ∧ w'.cell? ⟨R, 0, none⟩ = some (cv w' R 0) ∧ w'.frozen? ⟨R, 0, none⟩ = false ∧ w'.cell? ⟨R, 1, none⟩ = some (cv w' R 1) ∧ w'.frozen? ⟨R, 1, none⟩ = false ∧ w'.cell? ⟨R, 2, none⟩ = some (cv w' R 2) ∧ w'.frozen? ⟨R, 2, none⟩ = false ∧ w'.cell? ⟨R, 3, none⟩ = some (cv w' R 3) ∧ w'.frozen? ⟨R, 3, none⟩ = false := ⟨h.c (p, 0, .int .i64 n0) (by simp), h.c (p, 1, .int .i64 n1) (by simp), h.c (p, 2, .int .i64 n2) (by simp), h.c (p, 3, .int .i64 n3) (by simp), h.f (p, 0) (by simp), h.f (p, 1) (by simp), h.f (p, 2) (by simp), h.f (p, 3) (by simp), h.d (R, 0) (by simp), h.f (R, 0) (by simp), h.d (R, 1) (by simp), h.f (R, 1) (by simp), h.d (R, 2) (by simp), h.f (R, 2) (by simp), h.d (R, 3) (by simp), h.f (R, 3) (by simp)⟩
theorem K_To.zs {n0 n1 n2 n3 : Int} {p R : Nat} {w w' : World} (h : K_To n0 n1 n2 n3 p R w w') : p < w'.heap.size ∧ R < w'.heap.size ∧ True := ⟨KL.z h (x := (p, 0, .int .i64 n0)) (by simp), KL.zf h (x := (R, 0)) (by simp), trivial⟩
theorem K_To.ks {n0 n1 n2 n3 : Int} {p R : Nat} {w w' : World} (h : K_To n0 n1 n2 n3 p R w w') : (w'.cell? ⟨p, 0, none⟩ = some (.int .i64 n0) ∧ w'.cell? ⟨p, 1, none⟩ = some (.int .i64 n1) ∧ w'.cell? ⟨p, 2, none⟩ = some (.int .i64 n2) ∧ w'.cell? ⟨p, 3, none⟩ = some (.int .i64 n3) ∧ w'.frozen? ⟨p, 0, none⟩ = false ∧ w'.frozen? ⟨p, 1, none⟩ = false ∧ w'.frozen? ⟨p, 2, none⟩ = false ∧ w'.frozen? ⟨p, 3, none⟩ = false ∧ w'.cell? ⟨R, 0, none⟩ = some (cv w' R 0) ∧ w'.frozen? ⟨R, 0, none⟩ = false ∧ w'.cell? ⟨R, 1, none⟩ = some (cv w' R 1) ∧ w'.frozen? ⟨R, 1, none⟩ = false ∧ w'.cell? ⟨R, 2, none⟩ = some (cv w' R 2) ∧ w'.frozen? ⟨R, 2, none⟩ = false ∧ w'.cell? ⟨R, 3, none⟩ = some (cv w' R 3) ∧ w'.frozen? ⟨R, 3, none⟩ = false) ∧ K_To n0 n1 n2 n3 p R w w' := ⟨h.cells, h⟩
/-- what a walk keeps: cells, and that nothing that was there has turned -/
def K_To2 (p R : Nat) (w w' : World) : Prop := KL w [] [(p, 0), (p, 1), (p, 2), (p, 3), (R, 0), (R, 1), (R, 2), (R, 3)] w'
theorem K_To2.below {p R : Nat} {w w1 w2 : World} (hb : Below w1.heap.size w1 w2) (h : K_To2 p R w w1) : K_To2 p R w w2 := KL.below hb h
theorem K_To2.draws {p R : Nat} {w w1 : World} (n : Nat) (h : K_To2 p R w w1) : K_To2 p R w (w1.drewN n) := KL.draws n h
theorem K_To2.drew {p R : Nat} {w w1 : World} (h : K_To2 p R w w1) : K_To2 p R w w1.drew := KL.draws 1 h
theorem K_To2.alloc {p R : Nat} {w w1 : World} (o : Obj) (h : K_To2 p R w w1) : K_To2 p R w (w1.alloc o) := KL.alloc o h
theorem K_To2.set {p R : Nat} {w w1 : World} (h : K_To2 p R w w1) (b i : Nat) (v : Value) (hb : w.heap.size ≤ b) : K_To2 p R w (w1.setCell ⟨b, i, none⟩ v) :=
  KL.set h b i v (by intro x hx; simp at hx) (by omega)
theorem K_To2.bel {p R : Nat} {w w1 : World} (h : K_To2 p R w w1) : Below w.heap.size w w1 := KL.bel h
theorem K_To2.cells {p R : Nat} {w w' : World} (h : K_To2 p R w w') : w'.cell? ⟨p, 0, none⟩ = some (cv w' p 0) ∧ w'.frozen? ⟨p, 0, none⟩ = false ∧ w'.cell? ⟨p, 1, none⟩ = some (cv w' p 1) ∧ w'.frozen? ⟨p, 1, none⟩ = false ∧ w'.cell? ⟨p, 2, none⟩ = some (cv w' p 2) ∧ w'.frozen? ⟨p, 2, none⟩ = false ∧ w'.cell? ⟨p, 3, none⟩ = some (cv w' p 3) ∧ w'.frozen? ⟨p, 3, none⟩ = false ∧ w'.cell? ⟨R, 0, none⟩ = some (cv w' R 0) ∧ w'.frozen? ⟨R, 0, none⟩ = false ∧ w'.cell? ⟨R, 1, none⟩ = some (cv w' R 1) ∧ w'.frozen? ⟨R, 1, none⟩ = false ∧ w'.cell? ⟨R, 2, none⟩ = some (cv w' R 2) ∧ w'.frozen? ⟨R, 2, none⟩ = false ∧ w'.cell? ⟨R, 3, none⟩ = some (cv w' R 3) ∧ w'.frozen? ⟨R, 3, none⟩ = false := ⟨h.d (p, 0) (by simp), h.f (p, 0) (by simp), h.d (p, 1) (by simp), h.f (p, 1) (by simp), h.d (p, 2) (by simp), h.f (p, 2) (by simp), h.d (p, 3) (by simp), h.f (p, 3) (by simp), h.d (R, 0) (by simp), h.f (R, 0) (by simp), h.d (R, 1) (by simp), h.f (R, 1) (by simp), h.d (R, 2) (by simp), h.f (R, 2) (by simp), h.d (R, 3) (by simp), h.f (R, 3) (by simp)⟩
theorem K_To2.zs {p R : Nat} {w w' : World} (h : K_To2 p R w w') : p < w'.heap.size ∧ R < w'.heap.size ∧ True := ⟨KL.zf h (x := (p, 0)) (by simp), KL.zf h (x := (R, 0)) (by simp), trivial⟩
theorem K_To2.ks {p R : Nat} {w w' : World} (h : K_To2 p R w w') : (w'.cell? ⟨p, 0, none⟩ = some (cv w' p 0) ∧ w'.frozen? ⟨p, 0, none⟩ = false ∧ w'.cell? ⟨p, 1, none⟩ = some (cv w' p 1) ∧ w'.frozen? ⟨p, 1, none⟩ = false ∧ w'.cell? ⟨p, 2, none⟩ = some (cv w' p 2) ∧ w'.frozen? ⟨p, 2, none⟩ = false ∧ w'.cell? ⟨p, 3, none⟩ = some (cv w' p 3) ∧ w'.frozen? ⟨p, 3, none⟩ = false ∧ w'.cell? ⟨R, 0, none⟩ = some (cv w' R 0) ∧ w'.frozen? ⟨R, 0, none⟩ = false ∧ w'.cell? ⟨R, 1, none⟩ = some (cv w' R 1) ∧ w'.frozen? ⟨R, 1, none⟩ = false ∧ w'.cell? ⟨R, 2, none⟩ = some (cv w' R 2) ∧ w'.frozen? ⟨R, 2, none⟩ = false ∧ w'.cell? ⟨R, 3, none⟩ = some (cv w' R 3) ∧ w'.frozen? ⟨R, 3, none⟩ = false) ∧ K_To2 p R w w' := ⟨h.cells, h⟩
theorem over_t (n : H) (w : World) (h : HB 100000000 n) (hz : g4 n.w n.x n.y n.z ≠ 0) :
    Calls Try.prog 121 #[.agg #[.int .i64 (n).w, .int .i64 (n).x, .int .i64 (n).y, .int .i64 (n).z], .int .i64 (g4 n.w n.x n.y n.z)] w fun e w' => e = .returned (.agg #[.int .i64 (tlow n).w, .int .i64 (tlow n).x, .int .i64 (tlow n).y, .int .i64 (tlow n).z]) ∧ Below w.heap.size w w' :=
  over_f n.w n.x n.y n.z (g4 n.w n.x n.y n.z) w ⟨by have := h.1; omega, by have := h.1; omega⟩ ⟨by have := h.2.1; omega, by have := h.2.1; omega⟩ ⟨by have := h.2.2.1; omega, by have := h.2.2.1; omega⟩ ⟨by have := h.2.2.2; omega, by have := h.2.2.2; omega⟩ hz
set_option maxHeartbeats 6400000 in
theorem turnOf_any (n : H) (w : World) (h : HB 100000000 n) (hz : n ≠ H.zero) :
    Calls Try.prog 105 #[.agg #[.int .i64 (n).w, .int .i64 (n).x, .int .i64 (n).y, .int .i64 (n).z]] w fun e w' => e = .returned (.agg #[.int .i64 (trn n).w, .int .i64 (trn n).x, .int .i64 (trn n).y, .int .i64 (trn n).z]) ∧ Below w.heap.size w w' := by
  have hg : 0 < g4 n.w n.x n.y n.z := g4_pos (by
    rcases Decidable.em (n.w = 0) with a | a
    · rcases Decidable.em (n.x = 0) with b | b
      · rcases Decidable.em (n.y = 0) with c | c
        · rcases Decidable.em (n.z = 0) with d | d
          · exact absurd (H.ext' a b c d) hz
          · exact .inr (.inr (.inr d))
        · exact .inr (.inr (.inl c))
      · exact .inr (.inl b)
    · exact .inl a)
  have tb := tlow_hb h
  have CD := Lib.hid (fun k W hk => rcd_four n.w n.x n.y n.z k W hk ⟨by have := h.1; omega, by have := h.1; omega⟩ ⟨by have := h.2.1; omega, by have := h.2.1; omega⟩ ⟨by have := h.2.2.1; omega, by have := h.2.2.1; omega⟩ ⟨by have := h.2.2.2; omega, by have := h.2.2.2; omega⟩)
  have OV := Lib.hid (fun W => over_t n W h (by omega))
  have CP := Lib.hid (fun W => fcompare_any (tlow n).w (tlow n).x (tlow n).y (tlow n).z 0 0 0 0 W)
  have SC := Lib.hid (fun W => scaled_f (tlow n).w (tlow n).x (tlow n).y (tlow n).z (-1) W tb.1 tb.2.1 tb.2.2.1 tb.2.2.2 ⟨by decide, by decide⟩)
  rw [show (H.mk 0 0 0 0) = H.zero from rfl, show ∀ q : H, H.mk q.w q.x q.y q.z = q from fun _ => rfl] at CP
  clear h hz tb
  generalize g4 n.w n.x n.y n.z = g at *
  by_cases hc : cmpH (tlow n) H.zero < 0
  · rw [show trn n = (tlow n).sc (-1) from if_pos hc]
    have t1 : decide (cmpH (tlow n) H.zero < 0) = true := decide_eq_true hc
    unfold H.sc
    generalize cmpH (tlow n) H.zero = c at *
    generalize tlow n = m at *
    obtain ⟨n0, n1, n2, n3⟩ := n
    obtain ⟨m0, m1, m2, m3⟩ := m
    simp only [] at CD OV CP SC ⊢
    clear hc
    go_enter Try.func105, Try.ntmps105
    go_wp2_with fail
    have hk : K_To n0 n1 n2 n3 w.heap.size (w.heap.size + 1) w ((w.alloc (.cells #[.int .i64 n0, .int .i64 n1, .int .i64 n2, .int .i64 n3] 95)).alloc (.cells #[.int .i64 0, .int .i64 0, .int .i64 0, .int .i64 0] 129)) := ⟨by simp [go_sem], by simp [go_sem], by simp [go_sem], by (repeat (first | (with_reducible exact Below.refl _ _) | (with_reducible exact HB.out) | (with_reducible refine below_draws ?_ _) | (with_reducible refine Below.alloc ?_ (by go_size) _) | (with_reducible refine Below.setCell ?_ (by go_size) _) | (with_reducible refine Below.alloc ?_ (by simp <;> omega) _) | (with_reducible refine Below.setCell ?_ (by simp <;> omega) _)))⟩
    generalize ((w.alloc (.cells #[.int .i64 n0, .int .i64 n1, .int .i64 n2, .int .i64 n3] 95)).alloc (.cells #[.int .i64 0, .int .i64 0, .int .i64 0, .int .i64 0] 129)) = W0 at hk ⊢
    obtain ⟨c0_, c1_, c2_, c3_, f0_, f1_, f2_, f3_, d4_, f4_, d5_, f5_, d6_, f6_, d7_, f7_⟩ := K_To.cells hk
    obtain ⟨zz1, zz2, -⟩ := K_To.zs hk
    refine Hdt.region_T (S := (fun w' => (w'.cell? ⟨w.heap.size, 0, none⟩ = some (.int .i64 n0) ∧ w'.cell? ⟨w.heap.size, 1, none⟩ = some (.int .i64 n1) ∧ w'.cell? ⟨w.heap.size, 2, none⟩ = some (.int .i64 n2) ∧ w'.cell? ⟨w.heap.size, 3, none⟩ = some (.int .i64 n3) ∧ w'.frozen? ⟨w.heap.size, 0, none⟩ = false ∧ w'.frozen? ⟨w.heap.size, 1, none⟩ = false ∧ w'.frozen? ⟨w.heap.size, 2, none⟩ = false ∧ w'.frozen? ⟨w.heap.size, 3, none⟩ = false ∧ w'.cell? ⟨(w.heap.size + 1), 0, none⟩ = some (cv w' ((w.heap.size + 1)) 0) ∧ w'.frozen? ⟨(w.heap.size + 1), 0, none⟩ = false ∧ w'.cell? ⟨(w.heap.size + 1), 1, none⟩ = some (cv w' ((w.heap.size + 1)) 1) ∧ w'.frozen? ⟨(w.heap.size + 1), 1, none⟩ = false ∧ w'.cell? ⟨(w.heap.size + 1), 2, none⟩ = some (cv w' ((w.heap.size + 1)) 2) ∧ w'.frozen? ⟨(w.heap.size + 1), 2, none⟩ = false ∧ w'.cell? ⟨(w.heap.size + 1), 3, none⟩ = some (cv w' ((w.heap.size + 1)) 3) ∧ w'.frozen? ⟨(w.heap.size + 1), 3, none⟩ = false) ∧ K_To n0 n1 n2 n3 w.heap.size (w.heap.size + 1) w w')) 12 (by kernel_rfl) ?_ (fun hHeld => ?_)
    · ((refine K_To.ks ?_; repeat (first | (with_reducible assumption) | (with_reducible refine K_To.draws _ ?_) | (with_reducible refine K_To.drew ?_) | (with_reducible refine K_To.alloc _ ?_) | (with_reducible refine K_To.set ?_ _ _ _ (by omega)))))
    (refine Hdt.T_take (i := 0) (oi := _) (v := ?_) rfl (by kernel_rfl) (by kernel_rfl) (by kernel_rfl) (by kernel_rfl) (fun _ _ _ h => h) (Or.inl ⟨by rfl, fun wx hSw => ?_⟩) (by assumption) ?_; rotate_left 1; focus ((try dsimp only at hSw); go_simp; (try with_reducible rfl)); (try simp only [Act.put, List.setIfInBounds_toArray, List.set_cons_zero, List.set_cons_succ, List.getElem_toArray, List.getElem_cons_zero, List.getElem_cons_succ]))
    (refine Hdt.T_take (i := 1) (oi := _) (v := ?_) rfl (by kernel_rfl) (by kernel_rfl) (by kernel_rfl) (by kernel_rfl) (fun _ _ _ h => h) (Or.inl ⟨by rfl, fun wx hSw => ?_⟩) (by assumption) ?_; rotate_left 1; focus ((try dsimp only at hSw); go_simp; (try with_reducible rfl)); (try simp only [Act.put, List.setIfInBounds_toArray, List.set_cons_zero, List.set_cons_succ, List.getElem_toArray, List.getElem_cons_zero, List.getElem_cons_succ]))
    (refine Hdt.T_take (i := 2) (oi := _) (v := ?_) rfl (by kernel_rfl) (by kernel_rfl) (by kernel_rfl) (by kernel_rfl) (fun _ _ _ h => h) (Or.inl ⟨by rfl, fun wx hSw => ?_⟩) (by assumption) ?_; rotate_left 1; focus ((try dsimp only at hSw); go_simp; (try with_reducible rfl)); (try simp only [Act.put, List.setIfInBounds_toArray, List.set_cons_zero, List.set_cons_succ, List.getElem_toArray, List.getElem_cons_zero, List.getElem_cons_succ]))
    (refine Hdt.T_take (i := 3) (oi := _) (v := ?_) rfl (by kernel_rfl) (by kernel_rfl) (by kernel_rfl) (by kernel_rfl) (fun _ _ _ h => h) (Or.inl ⟨by rfl, fun wx hSw => ?_⟩) (by assumption) ?_; rotate_left 1; focus ((try dsimp only at hSw); go_simp; (try with_reducible rfl)); (try simp only [Act.put, List.setIfInBounds_toArray, List.set_cons_zero, List.set_cons_succ, List.getElem_toArray, List.getElem_cons_zero, List.getElem_cons_succ]))
    (refine Hdt.T_take (i := 4) (oi := _) (v := ?_) rfl (by kernel_rfl) (by kernel_rfl) (by kernel_rfl) (by kernel_rfl) (fun _ _ _ h => h) (Or.inl ⟨by rfl, fun wx hSw => ?_⟩) (by assumption) ?_; rotate_left 1; focus ((try dsimp only at hSw); go_simp; (try with_reducible rfl)); (try simp only [Act.put, List.setIfInBounds_toArray, List.set_cons_zero, List.set_cons_succ, List.getElem_toArray, List.getElem_cons_zero, List.getElem_cons_succ]))
    (refine Hdt.T_take (i := 5) (oi := _) (v := ?_) rfl (by kernel_rfl) (by kernel_rfl) (by kernel_rfl) (by kernel_rfl) (fun _ _ _ h => h) (Or.inl ⟨by rfl, fun wx hSw => ?_⟩) (by assumption) ?_; rotate_left 1; focus ((try dsimp only at hSw); go_simp; (try with_reducible rfl)); (try simp only [Act.put, List.setIfInBounds_toArray, List.set_cons_zero, List.set_cons_succ, List.getElem_toArray, List.getElem_cons_zero, List.getElem_cons_succ]))
    (refine Hdt.T_take (i := 6) (oi := _) (v := ?_) rfl (by kernel_rfl) (by kernel_rfl) (by kernel_rfl) (by kernel_rfl) (fun _ _ _ h => h) (Or.inl ⟨by rfl, fun wx hSw => ?_⟩) (by assumption) ?_; rotate_left 1; focus ((try dsimp only at hSw); go_simp; (try with_reducible rfl)); (try simp only [Act.put, List.setIfInBounds_toArray, List.set_cons_zero, List.set_cons_succ, List.getElem_toArray, List.getElem_cons_zero, List.getElem_cons_succ]))
    (refine Hdt.T_take (i := 7) (oi := _) (v := ?_) rfl (by kernel_rfl) (by kernel_rfl) (by kernel_rfl) (by kernel_rfl) (fun _ _ _ h => h) (Or.inl ⟨by rfl, fun wx hSw => ?_⟩) (by assumption) ?_; rotate_left 1; focus ((try dsimp only at hSw); go_simp; (try with_reducible rfl)); (try simp only [Act.put, List.setIfInBounds_toArray, List.set_cons_zero, List.set_cons_succ, List.getElem_toArray, List.getElem_cons_zero, List.getElem_cons_succ]))
    (refine Hdt.T_take (i := 8) (oi := _) (v := ?_) rfl (by kernel_rfl) (by kernel_rfl) (by kernel_rfl) (by kernel_rfl) (fun _ _ _ h => h) (Or.inl ⟨by rfl, fun wx hSw => ?_⟩) (by assumption) ?_; rotate_left 1; focus ((try dsimp only at hSw); go_simp; (try with_reducible rfl)); (try simp only [Act.put, List.setIfInBounds_toArray, List.set_cons_zero, List.set_cons_succ, List.getElem_toArray, List.getElem_cons_zero, List.getElem_cons_succ]))
    (refine Hdt.T_one (i := 9) (o := _) (by kernel_rfl) rfl (fun K hK => ?_); go_simp)
    refine hK.out _ _ (fun _ => (by ((refine K_To.ks ?_; repeat (first | (with_reducible assumption) | (with_reducible refine K_To.draws _ ?_) | (with_reducible refine K_To.drew ?_) | (with_reducible refine K_To.alloc _ ?_) | (with_reducible refine K_To.set ?_ _ _ _ (by omega))))))) ?_
    clear hK K
    (try simp only [Act.put, List.setIfInBounds_toArray, List.set_cons_zero, List.set_cons_succ, List.getElem_toArray, List.getElem_cons_zero, List.getElem_cons_succ])
    (refine Hdt.T_one (i := 10) (o := _) (by kernel_rfl) rfl (fun K hK => ?_); go_simp)
    go_at_call 94
    refine (CD.out _ _ (ns_drew (ns_four _ _ _ _ _ _ _ rfl))).mono ?_
    rintro e w' ⟨rfl, hbel⟩
    have hk' := K_To.below hbel (K_To.drew (K_To.alloc _ hk))
    refine hK.out _ _ (fun _ => K_To.ks hk') ?_
    clear hK K hbel
    (try simp only [Act.put, List.setIfInBounds_toArray, List.set_cons_zero, List.set_cons_succ, List.getElem_toArray, List.getElem_cons_zero, List.getElem_cons_succ])
    (refine Hdt.T_one (i := 11) (o := _) (by kernel_rfl) rfl (fun K hK => ?_); go_simp)
    go_at_call 121
    refine (OV.out _).mono ?_
    rintro e w'' ⟨rfl, hbel⟩
    have hk'' := K_To.below hbel hk'
    refine hK.out _ _ (fun _ => K_To.ks hk'') ?_
    clear hK K hbel
    (try simp only [Act.put, List.setIfInBounds_toArray, List.set_cons_zero, List.set_cons_succ, List.getElem_toArray, List.getElem_cons_zero, List.getElem_cons_succ])
    clear c0_ c1_ c2_ c3_ f0_ f1_ f2_ f3_ d4_ f4_ d5_ f5_ d6_ f6_ d7_ f7_
    obtain ⟨c0_, c1_, c2_, c3_, f0_, f1_, f2_, f3_, d4_, f4_, d5_, f5_, d6_, f6_, d7_, f7_⟩ := K_To.cells hk''
    (refine Hdt.T_one (i := 12) (o := _) (by kernel_rfl) rfl (fun K hK => ?_); go_simp)
    refine hK.out _ _ (fun h => absurd rfl h) ?_
    clear hK K
    (try simp only [Act.put, List.setIfInBounds_toArray, List.set_cons_zero, List.set_cons_succ, List.getElem_toArray, List.getElem_cons_zero, List.getElem_cons_succ])
    refine Hdt.T_done (by kernel_rfl) ?_ _
    have hA : K_To m0 m1 m2 m3 w.heap.size (w.heap.size + 1) w _ := KL.put4n (p := w.heap.size) (KL.sub (cs' := []) (fs' := [(w.heap.size, 0), (w.heap.size, 1), (w.heap.size, 2), (w.heap.size, 3), (w.heap.size + 1, 0), (w.heap.size + 1, 1), (w.heap.size + 1, 2), (w.heap.size + 1, 3)]) hk'' (fun x hx => by simp at hx) (fun x hx => hx)) (by simp) (by intro x hx; simp at hx) (by omega) m0 m1 m2 m3
    clear hk hk' hk'' hHeld zz1 zz2 c0_ c1_ c2_ c3_ f0_ f1_ f2_ f3_ d4_ f4_ d5_ f5_ d6_ f6_ d7_ f7_
    have hK := hA
    clear hA
    generalize ((((w''.setCell ⟨w.heap.size, 0, none⟩ (.int .i64 m0)).setCell ⟨w.heap.size, 1, none⟩ (.int .i64 m1)).setCell ⟨w.heap.size, 2, none⟩ (.int .i64 m2)).setCell ⟨w.heap.size, 3, none⟩ (.int .i64 m3)) = W1 at hK ⊢
    obtain ⟨c0_, c1_, c2_, c3_, f0_, f1_, f2_, f3_, d4_, f4_, d5_, f5_, d6_, f6_, d7_, f7_⟩ := K_To.cells hK; obtain ⟨z0_, z1_, -⟩ := K_To.zs hK; have HK := Lib.hid hK; clear hK
    go_wp2_with fail
    refine (CP.out _).mono ?_
    rintro e w3 ⟨rfl, hb⟩
    clear c0_ c1_ c2_ c3_ f0_ f1_ f2_ f3_ d4_ f4_ d5_ f5_ d6_ f6_ d7_ f7_ z0_ z1_
    have hK := K_To.below hb HK.out
    clear hb HK
    obtain ⟨c0_, c1_, c2_, c3_, f0_, f1_, f2_, f3_, d4_, f4_, d5_, f5_, d6_, f6_, d7_, f7_⟩ := K_To.cells hK; obtain ⟨z0_, z1_, -⟩ := K_To.zs hK; have HK := Lib.hid hK; clear hK
    go_wp2_with fail
    refine (SC.out _).mono ?_
    rintro e w4 ⟨rfl, hb⟩
    clear c0_ c1_ c2_ c3_ f0_ f1_ f2_ f3_ d4_ f4_ d5_ f5_ d6_ f6_ d7_ f7_ z0_ z1_
    have hK := K_To.below hb HK.out
    clear hb HK
    obtain ⟨c0_, c1_, c2_, c3_, f0_, f1_, f2_, f3_, d4_, f4_, d5_, f5_, d6_, f6_, d7_, f7_⟩ := K_To.cells hK; obtain ⟨z0_, z1_, -⟩ := K_To.zs hK; have HK := Lib.hid hK; clear hK
    have HB := Lib.hid (K_To.bel HK.out)
    go_wp2
    exact bodyPost_ret (v := .agg #[.int .i64 (m0 * -1), .int .i64 (m1 * -1), .int .i64 (m2 * -1), .int .i64 (m3 * -1)]) (by simp [results, Try.results105, go_sem, c0_, c1_, c2_, c3_, f0_, f1_, f2_, f3_, d4_, f4_, d5_, f5_, d6_, f6_, d7_, f7_, z0_, z1_]) rfl ⟨rfl, by (repeat (first | (with_reducible exact Below.refl _ _) | (with_reducible exact HB.out) | (with_reducible refine below_draws ?_ _) | (with_reducible refine Below.alloc ?_ (by go_size) _) | (with_reducible refine Below.setCell ?_ (by go_size) _) | (with_reducible refine Below.alloc ?_ (by simp <;> omega) _) | (with_reducible refine Below.setCell ?_ (by simp <;> omega) _)))⟩
  · rw [show trn n = tlow n from if_neg hc]
    have t1 : decide (cmpH (tlow n) H.zero < 0) = false := decide_eq_false hc
    clear SC
    generalize cmpH (tlow n) H.zero = c at *
    generalize tlow n = m at *
    obtain ⟨n0, n1, n2, n3⟩ := n
    obtain ⟨m0, m1, m2, m3⟩ := m
    simp only [] at CD OV CP ⊢
    clear hc
    go_enter Try.func105, Try.ntmps105
    go_wp2_with fail
    have hk : K_To n0 n1 n2 n3 w.heap.size (w.heap.size + 1) w ((w.alloc (.cells #[.int .i64 n0, .int .i64 n1, .int .i64 n2, .int .i64 n3] 95)).alloc (.cells #[.int .i64 0, .int .i64 0, .int .i64 0, .int .i64 0] 129)) := ⟨by simp [go_sem], by simp [go_sem], by simp [go_sem], by (repeat (first | (with_reducible exact Below.refl _ _) | (with_reducible exact HB.out) | (with_reducible refine below_draws ?_ _) | (with_reducible refine Below.alloc ?_ (by go_size) _) | (with_reducible refine Below.setCell ?_ (by go_size) _) | (with_reducible refine Below.alloc ?_ (by simp <;> omega) _) | (with_reducible refine Below.setCell ?_ (by simp <;> omega) _)))⟩
    generalize ((w.alloc (.cells #[.int .i64 n0, .int .i64 n1, .int .i64 n2, .int .i64 n3] 95)).alloc (.cells #[.int .i64 0, .int .i64 0, .int .i64 0, .int .i64 0] 129)) = W0 at hk ⊢
    obtain ⟨c0_, c1_, c2_, c3_, f0_, f1_, f2_, f3_, d4_, f4_, d5_, f5_, d6_, f6_, d7_, f7_⟩ := K_To.cells hk
    obtain ⟨zz1, zz2, -⟩ := K_To.zs hk
    refine Hdt.region_T (S := (fun w' => (w'.cell? ⟨w.heap.size, 0, none⟩ = some (.int .i64 n0) ∧ w'.cell? ⟨w.heap.size, 1, none⟩ = some (.int .i64 n1) ∧ w'.cell? ⟨w.heap.size, 2, none⟩ = some (.int .i64 n2) ∧ w'.cell? ⟨w.heap.size, 3, none⟩ = some (.int .i64 n3) ∧ w'.frozen? ⟨w.heap.size, 0, none⟩ = false ∧ w'.frozen? ⟨w.heap.size, 1, none⟩ = false ∧ w'.frozen? ⟨w.heap.size, 2, none⟩ = false ∧ w'.frozen? ⟨w.heap.size, 3, none⟩ = false ∧ w'.cell? ⟨(w.heap.size + 1), 0, none⟩ = some (cv w' ((w.heap.size + 1)) 0) ∧ w'.frozen? ⟨(w.heap.size + 1), 0, none⟩ = false ∧ w'.cell? ⟨(w.heap.size + 1), 1, none⟩ = some (cv w' ((w.heap.size + 1)) 1) ∧ w'.frozen? ⟨(w.heap.size + 1), 1, none⟩ = false ∧ w'.cell? ⟨(w.heap.size + 1), 2, none⟩ = some (cv w' ((w.heap.size + 1)) 2) ∧ w'.frozen? ⟨(w.heap.size + 1), 2, none⟩ = false ∧ w'.cell? ⟨(w.heap.size + 1), 3, none⟩ = some (cv w' ((w.heap.size + 1)) 3) ∧ w'.frozen? ⟨(w.heap.size + 1), 3, none⟩ = false) ∧ K_To n0 n1 n2 n3 w.heap.size (w.heap.size + 1) w w')) 12 (by kernel_rfl) ?_ (fun hHeld => ?_)
    · ((refine K_To.ks ?_; repeat (first | (with_reducible assumption) | (with_reducible refine K_To.draws _ ?_) | (with_reducible refine K_To.drew ?_) | (with_reducible refine K_To.alloc _ ?_) | (with_reducible refine K_To.set ?_ _ _ _ (by omega)))))
    (refine Hdt.T_take (i := 0) (oi := _) (v := ?_) rfl (by kernel_rfl) (by kernel_rfl) (by kernel_rfl) (by kernel_rfl) (fun _ _ _ h => h) (Or.inl ⟨by rfl, fun wx hSw => ?_⟩) (by assumption) ?_; rotate_left 1; focus ((try dsimp only at hSw); go_simp; (try with_reducible rfl)); (try simp only [Act.put, List.setIfInBounds_toArray, List.set_cons_zero, List.set_cons_succ, List.getElem_toArray, List.getElem_cons_zero, List.getElem_cons_succ]))
    (refine Hdt.T_take (i := 1) (oi := _) (v := ?_) rfl (by kernel_rfl) (by kernel_rfl) (by kernel_rfl) (by kernel_rfl) (fun _ _ _ h => h) (Or.inl ⟨by rfl, fun wx hSw => ?_⟩) (by assumption) ?_; rotate_left 1; focus ((try dsimp only at hSw); go_simp; (try with_reducible rfl)); (try simp only [Act.put, List.setIfInBounds_toArray, List.set_cons_zero, List.set_cons_succ, List.getElem_toArray, List.getElem_cons_zero, List.getElem_cons_succ]))
    (refine Hdt.T_take (i := 2) (oi := _) (v := ?_) rfl (by kernel_rfl) (by kernel_rfl) (by kernel_rfl) (by kernel_rfl) (fun _ _ _ h => h) (Or.inl ⟨by rfl, fun wx hSw => ?_⟩) (by assumption) ?_; rotate_left 1; focus ((try dsimp only at hSw); go_simp; (try with_reducible rfl)); (try simp only [Act.put, List.setIfInBounds_toArray, List.set_cons_zero, List.set_cons_succ, List.getElem_toArray, List.getElem_cons_zero, List.getElem_cons_succ]))
    (refine Hdt.T_take (i := 3) (oi := _) (v := ?_) rfl (by kernel_rfl) (by kernel_rfl) (by kernel_rfl) (by kernel_rfl) (fun _ _ _ h => h) (Or.inl ⟨by rfl, fun wx hSw => ?_⟩) (by assumption) ?_; rotate_left 1; focus ((try dsimp only at hSw); go_simp; (try with_reducible rfl)); (try simp only [Act.put, List.setIfInBounds_toArray, List.set_cons_zero, List.set_cons_succ, List.getElem_toArray, List.getElem_cons_zero, List.getElem_cons_succ]))
    (refine Hdt.T_take (i := 4) (oi := _) (v := ?_) rfl (by kernel_rfl) (by kernel_rfl) (by kernel_rfl) (by kernel_rfl) (fun _ _ _ h => h) (Or.inl ⟨by rfl, fun wx hSw => ?_⟩) (by assumption) ?_; rotate_left 1; focus ((try dsimp only at hSw); go_simp; (try with_reducible rfl)); (try simp only [Act.put, List.setIfInBounds_toArray, List.set_cons_zero, List.set_cons_succ, List.getElem_toArray, List.getElem_cons_zero, List.getElem_cons_succ]))
    (refine Hdt.T_take (i := 5) (oi := _) (v := ?_) rfl (by kernel_rfl) (by kernel_rfl) (by kernel_rfl) (by kernel_rfl) (fun _ _ _ h => h) (Or.inl ⟨by rfl, fun wx hSw => ?_⟩) (by assumption) ?_; rotate_left 1; focus ((try dsimp only at hSw); go_simp; (try with_reducible rfl)); (try simp only [Act.put, List.setIfInBounds_toArray, List.set_cons_zero, List.set_cons_succ, List.getElem_toArray, List.getElem_cons_zero, List.getElem_cons_succ]))
    (refine Hdt.T_take (i := 6) (oi := _) (v := ?_) rfl (by kernel_rfl) (by kernel_rfl) (by kernel_rfl) (by kernel_rfl) (fun _ _ _ h => h) (Or.inl ⟨by rfl, fun wx hSw => ?_⟩) (by assumption) ?_; rotate_left 1; focus ((try dsimp only at hSw); go_simp; (try with_reducible rfl)); (try simp only [Act.put, List.setIfInBounds_toArray, List.set_cons_zero, List.set_cons_succ, List.getElem_toArray, List.getElem_cons_zero, List.getElem_cons_succ]))
    (refine Hdt.T_take (i := 7) (oi := _) (v := ?_) rfl (by kernel_rfl) (by kernel_rfl) (by kernel_rfl) (by kernel_rfl) (fun _ _ _ h => h) (Or.inl ⟨by rfl, fun wx hSw => ?_⟩) (by assumption) ?_; rotate_left 1; focus ((try dsimp only at hSw); go_simp; (try with_reducible rfl)); (try simp only [Act.put, List.setIfInBounds_toArray, List.set_cons_zero, List.set_cons_succ, List.getElem_toArray, List.getElem_cons_zero, List.getElem_cons_succ]))
    (refine Hdt.T_take (i := 8) (oi := _) (v := ?_) rfl (by kernel_rfl) (by kernel_rfl) (by kernel_rfl) (by kernel_rfl) (fun _ _ _ h => h) (Or.inl ⟨by rfl, fun wx hSw => ?_⟩) (by assumption) ?_; rotate_left 1; focus ((try dsimp only at hSw); go_simp; (try with_reducible rfl)); (try simp only [Act.put, List.setIfInBounds_toArray, List.set_cons_zero, List.set_cons_succ, List.getElem_toArray, List.getElem_cons_zero, List.getElem_cons_succ]))
    (refine Hdt.T_one (i := 9) (o := _) (by kernel_rfl) rfl (fun K hK => ?_); go_simp)
    refine hK.out _ _ (fun _ => (by ((refine K_To.ks ?_; repeat (first | (with_reducible assumption) | (with_reducible refine K_To.draws _ ?_) | (with_reducible refine K_To.drew ?_) | (with_reducible refine K_To.alloc _ ?_) | (with_reducible refine K_To.set ?_ _ _ _ (by omega))))))) ?_
    clear hK K
    (try simp only [Act.put, List.setIfInBounds_toArray, List.set_cons_zero, List.set_cons_succ, List.getElem_toArray, List.getElem_cons_zero, List.getElem_cons_succ])
    (refine Hdt.T_one (i := 10) (o := _) (by kernel_rfl) rfl (fun K hK => ?_); go_simp)
    go_at_call 94
    refine (CD.out _ _ (ns_drew (ns_four _ _ _ _ _ _ _ rfl))).mono ?_
    rintro e w' ⟨rfl, hbel⟩
    have hk' := K_To.below hbel (K_To.drew (K_To.alloc _ hk))
    refine hK.out _ _ (fun _ => K_To.ks hk') ?_
    clear hK K hbel
    (try simp only [Act.put, List.setIfInBounds_toArray, List.set_cons_zero, List.set_cons_succ, List.getElem_toArray, List.getElem_cons_zero, List.getElem_cons_succ])
    (refine Hdt.T_one (i := 11) (o := _) (by kernel_rfl) rfl (fun K hK => ?_); go_simp)
    go_at_call 121
    refine (OV.out _).mono ?_
    rintro e w'' ⟨rfl, hbel⟩
    have hk'' := K_To.below hbel hk'
    refine hK.out _ _ (fun _ => K_To.ks hk'') ?_
    clear hK K hbel
    (try simp only [Act.put, List.setIfInBounds_toArray, List.set_cons_zero, List.set_cons_succ, List.getElem_toArray, List.getElem_cons_zero, List.getElem_cons_succ])
    clear c0_ c1_ c2_ c3_ f0_ f1_ f2_ f3_ d4_ f4_ d5_ f5_ d6_ f6_ d7_ f7_
    obtain ⟨c0_, c1_, c2_, c3_, f0_, f1_, f2_, f3_, d4_, f4_, d5_, f5_, d6_, f6_, d7_, f7_⟩ := K_To.cells hk''
    (refine Hdt.T_one (i := 12) (o := _) (by kernel_rfl) rfl (fun K hK => ?_); go_simp)
    refine hK.out _ _ (fun h => absurd rfl h) ?_
    clear hK K
    (try simp only [Act.put, List.setIfInBounds_toArray, List.set_cons_zero, List.set_cons_succ, List.getElem_toArray, List.getElem_cons_zero, List.getElem_cons_succ])
    refine Hdt.T_done (by kernel_rfl) ?_ _
    have hA : K_To m0 m1 m2 m3 w.heap.size (w.heap.size + 1) w _ := KL.put4n (p := w.heap.size) (KL.sub (cs' := []) (fs' := [(w.heap.size, 0), (w.heap.size, 1), (w.heap.size, 2), (w.heap.size, 3), (w.heap.size + 1, 0), (w.heap.size + 1, 1), (w.heap.size + 1, 2), (w.heap.size + 1, 3)]) hk'' (fun x hx => by simp at hx) (fun x hx => hx)) (by simp) (by intro x hx; simp at hx) (by omega) m0 m1 m2 m3
    clear hk hk' hk'' hHeld zz1 zz2 c0_ c1_ c2_ c3_ f0_ f1_ f2_ f3_ d4_ f4_ d5_ f5_ d6_ f6_ d7_ f7_
    have hK := hA
    clear hA
    generalize ((((w''.setCell ⟨w.heap.size, 0, none⟩ (.int .i64 m0)).setCell ⟨w.heap.size, 1, none⟩ (.int .i64 m1)).setCell ⟨w.heap.size, 2, none⟩ (.int .i64 m2)).setCell ⟨w.heap.size, 3, none⟩ (.int .i64 m3)) = W1 at hK ⊢
    obtain ⟨c0_, c1_, c2_, c3_, f0_, f1_, f2_, f3_, d4_, f4_, d5_, f5_, d6_, f6_, d7_, f7_⟩ := K_To.cells hK; obtain ⟨z0_, z1_, -⟩ := K_To.zs hK; have HK := Lib.hid hK; clear hK
    go_wp2_with fail
    refine (CP.out _).mono ?_
    rintro e w3 ⟨rfl, hb⟩
    clear c0_ c1_ c2_ c3_ f0_ f1_ f2_ f3_ d4_ f4_ d5_ f5_ d6_ f6_ d7_ f7_ z0_ z1_
    have hK := K_To.below hb HK.out
    clear hb HK
    obtain ⟨c0_, c1_, c2_, c3_, f0_, f1_, f2_, f3_, d4_, f4_, d5_, f5_, d6_, f6_, d7_, f7_⟩ := K_To.cells hK; obtain ⟨z0_, z1_, -⟩ := K_To.zs hK; have HK := Lib.hid hK; clear hK
    have HB := Lib.hid (K_To.bel HK.out)
    go_wp2
    exact bodyPost_ret (v := .agg #[.int .i64 m0, .int .i64 m1, .int .i64 m2, .int .i64 m3]) (by simp [results, Try.results105, go_sem, c0_, c1_, c2_, c3_, f0_, f1_, f2_, f3_, d4_, f4_, d5_, f5_, d6_, f6_, d7_, f7_, z0_, z1_]) rfl ⟨rfl, by (repeat (first | (with_reducible exact Below.refl _ _) | (with_reducible exact HB.out) | (with_reducible refine below_draws ?_ _) | (with_reducible refine Below.alloc ?_ (by go_size) _) | (with_reducible refine Below.setCell ?_ (by go_size) _) | (with_reducible refine Below.alloc ?_ (by simp <;> omega) _) | (with_reducible refine Below.setCell ?_ (by simp <;> omega) _)))⟩
end Go.Proofs.Yteiflfmpkfhkoaa.Rt
