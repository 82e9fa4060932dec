/-
  WALKS: division with remainder, the program's.
-/
import Derived.Test.YteiflfmpkfhkoaaRt7
namespace Go.Proofs.Yteiflfmpkfhkoaa.Rt
open Go.RowKit
open Alm Hwm Al
set_option linter.unusedVariables false
set_option linter.unusedSimpArgs false
set_option maxRecDepth 100000
theorem small_mul {d k t : Int} (hd : 0 < d) (h : d * k = t) (h1 : -d < t) (h2 : t < d) : k = 0 := by
  rcases Int.lt_trichotomy k 0 with hk | hk | hk
  · exfalso
    have := Int.mul_le_mul_of_nonneg_left (show k ≤ -1 by omega) (show 0 ≤ d by omega)
    omega
  · exact hk
  · exfalso
    have := Int.mul_le_mul_of_nonneg_left (show 1 ≤ k by omega) (show 0 ≤ d by omega)
    omega
/-- a division rounded to 0, corrected to a division rounded down -/
theorem floor_ways (n : Int) {d : Int} (hd : 0 < d) : ((n < n.tdiv d * d ∧ n.tdiv d - 1 = n / d) ∨ (¬ n < n.tdiv d * d ∧ n.tdiv d = n / d)) ∧ -(n.natAbs : Int) ≤ n.tdiv d * d ∧ n.tdiv d * d ≤ n.natAbs := by
  have h1 := Int.tdiv_mul_add_tmod n d
  have h2 := Int.natAbs_tmod n d
  have h3 : n.natAbs % d.natAbs < d.natAbs := Nat.mod_lt _ (by omega)
  have h4 := Int.emod_add_mul_ediv n d
  have h5 := Int.emod_nonneg n (show d ≠ 0 by omega)
  have h6 := Int.emod_lt_of_pos n hd
  have h7 : (n.tdiv d * d).natAbs ≤ n.natAbs := by
    rw [Int.natAbs_mul, Int.natAbs_tdiv]; exact Nat.div_mul_le_self _ _
  refine ⟨?_, by omega, by omega⟩
  generalize n.tdiv d = q at *
  generalize n.tmod d = r at *
  generalize n % d = m at *
  generalize n / d = e at *
  by_cases h : n < q * d
  · refine .inl ⟨h, ?_⟩
    have e1 : d * (q - 1 - e) = m - r - d := by
      have : d * (q - 1 - e) = q * d - d - d * e := by grind
      omega
    have := small_mul hd e1 (by omega) (by omega)
    omega
  · refine .inr ⟨h, ?_⟩
    have e1 : d * (q - e) = m - r := by
      have : d * (q - e) = q * d - d * e := by grind
      omega
    have := small_mul hd e1 (by omega) (by omega)
    omega
theorem floor_any (n d : Int) (w : World) (hn : Bn 1000000000000000000 n) (hd : 0 < d) :
    Calls Try.prog 140 #[.int .i64 n, .int .i64 d] w fun e w' => e = .returned (.int .i64 (n / d)) ∧ w = w' := by
  have hz : (d == 0) = false := by rw [beq_eq_false_iff_ne]; omega
  have hz' : ¬ d = 0 := by omega
  obtain ⟨ways, b1, b2⟩ := floor_ways n hd
  have b3 := tdiv_bd n d
  obtain ⟨n1, n2⟩ := hn
  have e0 := IntWalk.i64_in (n.tdiv d) (by omega)
  have e1 := IntWalk.i64_in (n.tdiv d * d) (by omega)
  have e2 := IntWalk.i64_in (n.tdiv d - 1) (by omega)
  clear b1 b2 b3 hd
  rcases ways with ⟨h, he⟩ | ⟨h, he⟩
  · have t : decide (n.tdiv d * d > n) = true := decide_eq_true h
    have t' : decide (n < n.tdiv d * d) = true := decide_eq_true h
    have HE := Lib.hid he
    clear h he
    go_enter Try.func140, Try.ntmps140
    go_wp2
    go_ret
    exact ⟨by rw [← HE.out]; rfl, rfl⟩
  · have t : decide (n.tdiv d * d > n) = false := decide_eq_false h
    have t' : decide (n < n.tdiv d * d) = false := decide_eq_false h
    have HE := Lib.hid he
    clear h he
    go_enter Try.func140, Try.ntmps140
    go_wp2
    go_ret
    exact ⟨by rw [← HE.out]; rfl, rfl⟩
theorem ediv_bd (a : Int) {d : Int} (hd : 0 < d) : -(a.natAbs : Int) - 1 ≤ a / d ∧ a / d ≤ a.natAbs := by
  obtain ⟨ways, b1, b2⟩ := floor_ways a hd
  have b3 := tdiv_bd a d
  rcases ways with ⟨-, h⟩ | ⟨-, h⟩ <;> omega
theorem near_any (c d : Int) (b : Nat) (w : World) (hb : w.cell? ⟨b, 0, none⟩ = some (.int .i64 d)) (hd : 0 < d) (hd' : d ≤ 100000000000000000) (hc : Bn 100000000000000000 c) :
    Calls Try.prog 139 #[.int .i64 c, .pointer (some ⟨b, 0, none⟩)] w fun e w' => e = .returned (.int .i64 (2 * ((2 * c + d) / (2 * d)))) ∧ w = w' := by
  obtain ⟨c1, c2⟩ := hc
  have FL := Lib.hid (fun W => floor_any (2 * c + d) (2 * d) W ⟨by omega, by omega⟩ (by omega))
  have bd := ediv_bd (2 * c + d) (show 0 < 2 * d by omega)
  have e0 := IntWalk.i64_in (2 * ((2 * c + d) / (2 * d))) (by omega)
  clear bd
  go_enter Try.func139, Try.ntmps139
  go_wp2_with fail
  refine (FL.out _).mono ?_
  rintro e w1 ⟨rfl, rfl⟩
  go_wp2
  go_ret
  exact ⟨rfl, rfl⟩
theorem middle_any (c d : Int) (b : Nat) (w : World) (hb : w.cell? ⟨b, 0, none⟩ = some (.int .i64 d)) (hd : 0 < d) (hd' : d ≤ 100000000000000000) (hc : Bn 100000000000000000 c) :
    Calls Try.prog 141 #[.int .i64 c, .pointer (some ⟨b, 0, none⟩)] w fun e w' => e = .returned (.int .i64 (2 * (c / d) + 1)) ∧ w = w' := by
  obtain ⟨c1, c2⟩ := hc
  have FL := Lib.hid (fun W => floor_any c d W ⟨by omega, by omega⟩ hd)
  have bd := ediv_bd c hd
  have e0 := IntWalk.i64_in (2 * (c / d)) (by omega)
  have e1 := IntWalk.i64_in (2 * (c / d) + 1) (by omega)
  clear bd
  go_enter Try.func141, Try.ntmps141
  go_wp2_with fail
  refine (FL.out _).mono ?_
  rintro e w1 ⟨rfl, rfl⟩
  go_wp2
  go_ret
  exact ⟨rfl, rfl⟩
theorem KL.put4n {w0 : World} {cs : List (Nat × Nat × Value)} {fs : List (Nat × Nat)} {w : World} {p : Nat} (h : KL w0 cs fs w) (hf : (p, 0) ∈ fs ∧ (p, 1) ∈ fs ∧ (p, 2) ∈ fs ∧ (p, 3) ∈ fs) (hp : ∀ x ∈ cs, p ≠ x.1) (hw : w0.heap.size ≤ p) (a' b' c' d' : Int) :
    KL w0 ((p, 0, .int .i64 a') :: (p, 1, .int .i64 b') :: (p, 2, .int .i64 c') :: (p, 3, .int .i64 d') :: cs) fs ((((w.setCell ⟨p, 0, none⟩ (.int .i64 a')).setCell ⟨p, 1, none⟩ (.int .i64 b')).setCell ⟨p, 2, none⟩ (.int .i64 c')).setCell ⟨p, 3, none⟩ (.int .i64 d')) := by
  have c0 := h.d (p, 0) hf.1
  have c1 := h.d (p, 1) hf.2.1
  have c2 := h.d (p, 2) hf.2.2.1
  have c3 := h.d (p, 3) hf.2.2.2
  have f0 := h.f (p, 0) hf.1
  have f1 := h.f (p, 1) hf.2.1
  have f2 := h.f (p, 2) hf.2.2.1
  have f3 := h.f (p, 3) hf.2.2.2
  simp only [] at c0 c1 c2 c3 f0 f1 f2 f3
  have h1 := (((h.set p 0 (.int .i64 a') hp hw).set p 1 (.int .i64 b') hp hw).set p 2 (.int .i64 c') hp hw).set p 3 (.int .i64 d') hp hw
  refine ⟨fun x hx => ?_, h1.g, h1.f, h1.bel⟩
  simp only [List.mem_cons] at hx
  rcases hx with rfl | rfl | rfl | rfl | hx
  · simp [go_sem, c0, c1, c2, c3, f0, f1, f2, f3]
  · simp [go_sem, c0, c1, c2, c3, f0, f1, f2, f3]
  · simp [go_sem, c0, c1, c2, c3, f0, f1, f2, f3]
  · simp [go_sem, c0, c1, c2, c3, f0, f1, f2, f3]
  · exact h1.c x hx
theorem to_below {f : FuncId} {args : Array Value} {w : World} {v : Value} (h : Calls Try.prog f args w fun e w' => e = .returned v ∧ w = w') : Calls Try.prog f args w fun e w' => e = .returned v ∧ Below w.heap.size w w' :=
  h.mono fun e w' ⟨he, hw⟩ => ⟨he, by rw [← hw]; exact Below.refl _ _⟩
theorem merge_w {Goal : Prop} {K : World → Prop} (G : World → Prop) (main : Hid (∀ w, K w → G w) → Goal) (rest : ∀ w, K w → G w) : Goal := main (Lib.hid rest)
/-- what a walk keeps: cells, and that nothing that was there has turned -/
def K_Qt (n0 n1 n2 n3 d : Int) (p c R S : Nat) (w w' : World) : Prop := KL w [(p, 0, .int .i64 n0), (p, 1, .int .i64 n1), (p, 2, .int .i64 n2), (p, 3, .int .i64 n3), (c, 0, .int .i64 d)] [(R, 0), (R, 1), (R, 2), (R, 3), (S, 0), (S, 1), (S, 2), (S, 3)] w'
theorem K_Qt.below {n0 n1 n2 n3 d : Int} {p c R S : Nat} {w w1 w2 : World} (hb : Below w1.heap.size w1 w2) (h : K_Qt n0 n1 n2 n3 d p c R S w w1) : K_Qt n0 n1 n2 n3 d p c R S w w2 := KL.below hb h
theorem K_Qt.draws {n0 n1 n2 n3 d : Int} {p c R S : Nat} {w w1 : World} (n : Nat) (h : K_Qt n0 n1 n2 n3 d p c R S w w1) : K_Qt n0 n1 n2 n3 d p c R S w (w1.drewN n) := KL.draws n h
theorem K_Qt.drew {n0 n1 n2 n3 d : Int} {p c R S : Nat} {w w1 : World} (h : K_Qt n0 n1 n2 n3 d p c R S w w1) : K_Qt n0 n1 n2 n3 d p c R S w w1.drew := KL.draws 1 h
theorem K_Qt.alloc {n0 n1 n2 n3 d : Int} {p c R S : Nat} {w w1 : World} (o : Obj) (h : K_Qt n0 n1 n2 n3 d p c R S w w1) : K_Qt n0 n1 n2 n3 d p c R S w (w1.alloc o) := KL.alloc o h
theorem K_Qt.set {n0 n1 n2 n3 d : Int} {p c R S : Nat} {w w1 : World} (h : K_Qt n0 n1 n2 n3 d p c R S w w1) (b i : Nat) (v : Value) (hb : b ≠ p ∧ b ≠ c ∧ w.heap.size ≤ b) : K_Qt n0 n1 n2 n3 d p c R S w (w1.setCell ⟨b, i, none⟩ v) :=
  KL.set h b i v (by intro x hx; simp only [List.mem_cons, List.not_mem_nil, or_false] at hx; rcases hx with rfl | rfl | rfl | rfl | rfl <;> simp only [] <;> omega) (by omega)
theorem K_Qt.bel {n0 n1 n2 n3 d : Int} {p c R S : Nat} {w w1 : World} (h : K_Qt n0 n1 n2 n3 d p c R S w w1) : Below w.heap.size w w1 := KL.bel h
theorem K_Qt.cells {n0 n1 n2 n3 d : Int} {p c R S : Nat} {w w' : World} (h : K_Qt n0 n1 n2 n3 d p c R S w w') : w'.cell? ⟨p, 0, none⟩ = some (.int .i64 n0) ∧ w'.cell? ⟨p, 1, none⟩ = some (.int .i64 n1) ∧ w'.cell? ⟨p, 2, none⟩ = some (.int .i64 n2) ∧ w'.cell? ⟨p, 3, none⟩ = some (.int .i64 n3) ∧ w'.cell? ⟨c, 0, none⟩ = some (.int .i64 d) ∧ w'.cell? ⟨R, 0, none⟩ = some (cv w' R 0) ∧ w'.frozen? ⟨R, 0, none⟩ = false ∧ w'.cell? ⟨R, 1, none⟩ = some (cv w' R 1) ∧ w'.frozen? ⟨R, 1, none⟩ = false ∧ w'.cell? ⟨R, 2, none⟩ = some (cv w' R 2) ∧ w'.frozen? ⟨R, 2, none⟩ = false ∧ w'.cell? ⟨R, 3, none⟩ = some (cv w' R 3) ∧ w'.frozen? ⟨R, 3, none⟩ = false ∧ w'.cell? ⟨S, 0, none⟩ = some (cv w' S 0) ∧ w'.frozen? ⟨S, 0, none⟩ = false ∧ w'.cell? ⟨S, 1, none⟩ = some (cv w' S 1) ∧ w'.frozen? ⟨S, 1, none⟩ = false ∧ w'.cell? ⟨S, 2, none⟩ = some (cv w' S 2) ∧ w'.frozen? ⟨S, 2, none⟩ = false ∧ w'.cell? ⟨S, 3, none⟩ = some (cv w' S 3) ∧ w'.frozen? ⟨S, 3, none⟩ = false := ⟨h.c (p, 0, .int .i64 n0) (by simp), h.c (p, 1, .int .i64 n1) (by simp), h.c (p, 2, .int .i64 n2) (by simp), h.c (p, 3, .int .i64 n3) (by simp), h.c (c, 0, .int .i64 d) (by simp), h.d (R, 0) (by simp), h.f (R, 0) (by simp), h.d (R, 1) (by simp), h.f (R, 1) (by simp), h.d (R, 2) (by simp), h.f (R, 2) (by simp), h.d (R, 3) (by simp), h.f (R, 3) (by simp), h.d (S, 0) (by simp), h.f (S, 0) (by simp), h.d (S, 1) (by simp), h.f (S, 1) (by simp), h.d (S, 2) (by simp), h.f (S, 2) (by simp), h.d (S, 3) (by simp), h.f (S, 3) (by simp)⟩
theorem K_Qt.zs {n0 n1 n2 n3 d : Int} {p c R S : Nat} {w w' : World} (h : K_Qt n0 n1 n2 n3 d p c R S w w') : p < w'.heap.size ∧ c < w'.heap.size ∧ R < w'.heap.size ∧ S < w'.heap.size ∧ True := ⟨KL.z h (x := (p, 0, .int .i64 n0)) (by simp), KL.z h (x := (c, 0, .int .i64 d)) (by simp), KL.zf h (x := (R, 0)) (by simp), KL.zf h (x := (S, 0)) (by simp), trivial⟩
theorem K_Qt.ks {n0 n1 n2 n3 d : Int} {p c R S : Nat} {w w' : World} (h : K_Qt n0 n1 n2 n3 d p c R S w w') : (w'.cell? ⟨p, 0, none⟩ = some (.int .i64 n0) ∧ w'.cell? ⟨p, 1, none⟩ = some (.int .i64 n1) ∧ w'.cell? ⟨p, 2, none⟩ = some (.int .i64 n2) ∧ w'.cell? ⟨p, 3, none⟩ = some (.int .i64 n3) ∧ w'.cell? ⟨c, 0, none⟩ = some (.int .i64 d) ∧ w'.cell? ⟨R, 0, none⟩ = some (cv w' R 0) ∧ w'.frozen? ⟨R, 0, none⟩ = false ∧ w'.cell? ⟨R, 1, none⟩ = some (cv w' R 1) ∧ w'.frozen? ⟨R, 1, none⟩ = false ∧ w'.cell? ⟨R, 2, none⟩ = some (cv w' R 2) ∧ w'.frozen? ⟨R, 2, none⟩ = false ∧ w'.cell? ⟨R, 3, none⟩ = some (cv w' R 3) ∧ w'.frozen? ⟨R, 3, none⟩ = false ∧ w'.cell? ⟨S, 0, none⟩ = some (cv w' S 0) ∧ w'.frozen? ⟨S, 0, none⟩ = false ∧ w'.cell? ⟨S, 1, none⟩ = some (cv w' S 1) ∧ w'.frozen? ⟨S, 1, none⟩ = false ∧ w'.cell? ⟨S, 2, none⟩ = some (cv w' S 2) ∧ w'.frozen? ⟨S, 2, none⟩ = false ∧ w'.cell? ⟨S, 3, none⟩ = some (cv w' S 3) ∧ w'.frozen? ⟨S, 3, none⟩ = false) ∧ K_Qt n0 n1 n2 n3 d p c R S w w' := ⟨h.cells, h⟩
/-- what a walk keeps: cells, and that nothing that was there has turned -/
def K_Qu (r0 r1 r2 r3 n0 n1 n2 n3 d : Int) (p c R S : Nat) (w w' : World) : Prop := KL w [(R, 0, .int .i64 r0), (R, 1, .int .i64 r1), (R, 2, .int .i64 r2), (R, 3, .int .i64 r3), (p, 0, .int .i64 n0), (p, 1, .int .i64 n1), (p, 2, .int .i64 n2), (p, 3, .int .i64 n3), (c, 0, .int .i64 d)] [(R, 0), (R, 1), (R, 2), (R, 3), (S, 0), (S, 1), (S, 2), (S, 3)] w'
theorem K_Qu.below {r0 r1 r2 r3 n0 n1 n2 n3 d : Int} {p c R S : Nat} {w w1 w2 : World} (hb : Below w1.heap.size w1 w2) (h : K_Qu r0 r1 r2 r3 n0 n1 n2 n3 d p c R S w w1) : K_Qu r0 r1 r2 r3 n0 n1 n2 n3 d p c R S w w2 := KL.below hb h
theorem K_Qu.draws {r0 r1 r2 r3 n0 n1 n2 n3 d : Int} {p c R S : Nat} {w w1 : World} (n : Nat) (h : K_Qu r0 r1 r2 r3 n0 n1 n2 n3 d p c R S w w1) : K_Qu r0 r1 r2 r3 n0 n1 n2 n3 d p c R S w (w1.drewN n) := KL.draws n h
theorem K_Qu.drew {r0 r1 r2 r3 n0 n1 n2 n3 d : Int} {p c R S : Nat} {w w1 : World} (h : K_Qu r0 r1 r2 r3 n0 n1 n2 n3 d p c R S w w1) : K_Qu r0 r1 r2 r3 n0 n1 n2 n3 d p c R S w w1.drew := KL.draws 1 h
theorem K_Qu.alloc {r0 r1 r2 r3 n0 n1 n2 n3 d : Int} {p c R S : Nat} {w w1 : World} (o : Obj) (h : K_Qu r0 r1 r2 r3 n0 n1 n2 n3 d p c R S w w1) : K_Qu r0 r1 r2 r3 n0 n1 n2 n3 d p c R S w (w1.alloc o) := KL.alloc o h
theorem K_Qu.set {r0 r1 r2 r3 n0 n1 n2 n3 d : Int} {p c R S : Nat} {w w1 : World} (h : K_Qu r0 r1 r2 r3 n0 n1 n2 n3 d p c R S w w1) (b i : Nat) (v : Value) (hb : b ≠ R ∧ b ≠ p ∧ b ≠ c ∧ w.heap.size ≤ b) : K_Qu r0 r1 r2 r3 n0 n1 n2 n3 d p c R S w (w1.setCell ⟨b, i, none⟩ v) :=
  KL.set h b i v (by intro x hx; simp only [List.mem_cons, List.not_mem_nil, or_false] at hx; rcases hx with rfl | rfl | rfl | rfl | rfl | rfl | rfl | rfl | rfl <;> simp only [] <;> omega) (by omega)
theorem K_Qu.bel {r0 r1 r2 r3 n0 n1 n2 n3 d : Int} {p c R S : Nat} {w w1 : World} (h : K_Qu r0 r1 r2 r3 n0 n1 n2 n3 d p c R S w w1) : Below w.heap.size w w1 := KL.bel h
theorem K_Qu.cells {r0 r1 r2 r3 n0 n1 n2 n3 d : Int} {p c R S : Nat} {w w' : World} (h : K_Qu r0 r1 r2 r3 n0 n1 n2 n3 d p c R S w w') : w'.cell? ⟨R, 0, none⟩ = some (.int .i64 r0) ∧ w'.cell? ⟨R, 1, none⟩ = some (.int .i64 r1) ∧ w'.cell? ⟨R, 2, none⟩ = some (.int .i64 r2) ∧ w'.cell? ⟨R, 3, none⟩ = some (.int .i64 r3) ∧ w'.cell? ⟨p, 0, none⟩ = some (.int .i64 n0) ∧ w'.cell? ⟨p, 1, none⟩ = some (.int .i64 n1) ∧ w'.cell? ⟨p, 2, none⟩ = some (.int .i64 n2) ∧ w'.cell? ⟨p, 3, none⟩ = some (.int .i64 n3) ∧ w'.cell? ⟨c, 0, none⟩ = some (.int .i64 d) ∧ w'.frozen? ⟨R, 0, none⟩ = false ∧ w'.frozen? ⟨R, 1, none⟩ = false ∧ w'.frozen? ⟨R, 2, none⟩ = false ∧ w'.frozen? ⟨R, 3, none⟩ = false ∧ w'.cell? ⟨S, 0, none⟩ = some (cv w' S 0) ∧ w'.frozen? ⟨S, 0, none⟩ = false ∧ w'.cell? ⟨S, 1, none⟩ = some (cv w' S 1) ∧ w'.frozen? ⟨S, 1, none⟩ = false ∧ w'.cell? ⟨S, 2, none⟩ = some (cv w' S 2) ∧ w'.frozen? ⟨S, 2, none⟩ = false ∧ w'.cell? ⟨S, 3, none⟩ = some (cv w' S 3) ∧ w'.frozen? ⟨S, 3, none⟩ = false := ⟨h.c (R, 0, .int .i64 r0) (by simp), h.c (R, 1, .int .i64 r1) (by simp), h.c (R, 2, .int .i64 r2) (by simp), h.c (R, 3, .int .i64 r3) (by simp), h.c (p, 0, .int .i64 n0) (by simp), h.c (p, 1, .int .i64 n1) (by simp), h.c (p, 2, .int .i64 n2) (by simp), h.c (p, 3, .int .i64 n3) (by simp), h.c (c, 0, .int .i64 d) (by simp), h.f (R, 0) (by simp), h.f (R, 1) (by simp), h.f (R, 2) (by simp), h.f (R, 3) (by simp), h.d (S, 0) (by simp), h.f (S, 0) (by simp), h.d (S, 1) (by simp), h.f (S, 1) (by simp), h.d (S, 2) (by simp), h.f (S, 2) (by simp), h.d (S, 3) (by simp), h.f (S, 3) (by simp)⟩
theorem K_Qu.zs {r0 r1 r2 r3 n0 n1 n2 n3 d : Int} {p c R S : Nat} {w w' : World} (h : K_Qu r0 r1 r2 r3 n0 n1 n2 n3 d p c R S w w') : R < w'.heap.size ∧ p < w'.heap.size ∧ c < w'.heap.size ∧ S < w'.heap.size ∧ True := ⟨KL.z h (x := (R, 0, .int .i64 r0)) (by simp), KL.z h (x := (p, 0, .int .i64 n0)) (by simp), KL.z h (x := (c, 0, .int .i64 d)) (by simp), KL.zf h (x := (S, 0)) (by simp), trivial⟩
theorem K_Qu.ks {r0 r1 r2 r3 n0 n1 n2 n3 d : Int} {p c R S : Nat} {w w' : World} (h : K_Qu r0 r1 r2 r3 n0 n1 n2 n3 d p c R S w w') : (w'.cell? ⟨R, 0, none⟩ = some (.int .i64 r0) ∧ w'.cell? ⟨R, 1, none⟩ = some (.int .i64 r1) ∧ w'.cell? ⟨R, 2, none⟩ = some (.int .i64 r2) ∧ w'.cell? ⟨R, 3, none⟩ = some (.int .i64 r3) ∧ w'.cell? ⟨p, 0, none⟩ = some (.int .i64 n0) ∧ w'.cell? ⟨p, 1, none⟩ = some (.int .i64 n1) ∧ w'.cell? ⟨p, 2, none⟩ = some (.int .i64 n2) ∧ w'.cell? ⟨p, 3, none⟩ = some (.int .i64 n3) ∧ w'.cell? ⟨c, 0, none⟩ = some (.int .i64 d) ∧ w'.frozen? ⟨R, 0, none⟩ = false ∧ w'.frozen? ⟨R, 1, none⟩ = false ∧ w'.frozen? ⟨R, 2, none⟩ = false ∧ w'.frozen? ⟨R, 3, none⟩ = false ∧ w'.cell? ⟨S, 0, none⟩ = some (cv w' S 0) ∧ w'.frozen? ⟨S, 0, none⟩ = false ∧ w'.cell? ⟨S, 1, none⟩ = some (cv w' S 1) ∧ w'.frozen? ⟨S, 1, none⟩ = false ∧ w'.cell? ⟨S, 2, none⟩ = some (cv w' S 2) ∧ w'.frozen? ⟨S, 2, none⟩ = false ∧ w'.cell? ⟨S, 3, none⟩ = some (cv w' S 3) ∧ w'.frozen? ⟨S, 3, none⟩ = false) ∧ K_Qu r0 r1 r2 r3 n0 n1 n2 n3 d p c R S w w' := ⟨h.cells, h⟩
/-- what a walk keeps: cells, and that nothing that was there has turned -/
def K_Qv (m0 m1 m2 m3 r0 r1 r2 r3 n0 n1 n2 n3 d : Int) (p c R S : Nat) (w w' : World) : Prop := KL w [(S, 0, .int .i64 m0), (S, 1, .int .i64 m1), (S, 2, .int .i64 m2), (S, 3, .int .i64 m3), (R, 0, .int .i64 r0), (R, 1, .int .i64 r1), (R, 2, .int .i64 r2), (R, 3, .int .i64 r3), (p, 0, .int .i64 n0), (p, 1, .int .i64 n1), (p, 2, .int .i64 n2), (p, 3, .int .i64 n3), (c, 0, .int .i64 d)] [(S, 0), (S, 1), (S, 2), (S, 3), (R, 0), (R, 1), (R, 2), (R, 3)] w'
theorem K_Qv.below {m0 m1 m2 m3 r0 r1 r2 r3 n0 n1 n2 n3 d : Int} {p c R S : Nat} {w w1 w2 : World} (hb : Below w1.heap.size w1 w2) (h : K_Qv m0 m1 m2 m3 r0 r1 r2 r3 n0 n1 n2 n3 d p c R S w w1) : K_Qv m0 m1 m2 m3 r0 r1 r2 r3 n0 n1 n2 n3 d p c R S w w2 := KL.below hb h
theorem K_Qv.draws {m0 m1 m2 m3 r0 r1 r2 r3 n0 n1 n2 n3 d : Int} {p c R S : Nat} {w w1 : World} (n : Nat) (h : K_Qv m0 m1 m2 m3 r0 r1 r2 r3 n0 n1 n2 n3 d p c R S w w1) : K_Qv m0 m1 m2 m3 r0 r1 r2 r3 n0 n1 n2 n3 d p c R S w (w1.drewN n) := KL.draws n h
theorem K_Qv.drew {m0 m1 m2 m3 r0 r1 r2 r3 n0 n1 n2 n3 d : Int} {p c R S : Nat} {w w1 : World} (h : K_Qv m0 m1 m2 m3 r0 r1 r2 r3 n0 n1 n2 n3 d p c R S w w1) : K_Qv m0 m1 m2 m3 r0 r1 r2 r3 n0 n1 n2 n3 d p c R S w w1.drew := KL.draws 1 h
theorem K_Qv.alloc {m0 m1 m2 m3 r0 r1 r2 r3 n0 n1 n2 n3 d : Int} {p c R S : Nat} {w w1 : World} (o : Obj) (h : K_Qv m0 m1 m2 m3 r0 r1 r2 r3 n0 n1 n2 n3 d p c R S w w1) : K_Qv m0 m1 m2 m3 r0 r1 r2 r3 n0 n1 n2 n3 d p c R S w (w1.alloc o) := KL.alloc o h
theorem K_Qv.set {m0 m1 m2 m3 r0 r1 r2 r3 n0 n1 n2 n3 d : Int} {p c R S : Nat} {w w1 : World} (h : K_Qv m0 m1 m2 m3 r0 r1 r2 r3 n0 n1 n2 n3 d p c R S w w1) (b i : Nat) (v : Value) (hb : b ≠ S ∧ b ≠ R ∧ b ≠ p ∧ b ≠ c ∧ w.heap.size ≤ b) : K_Qv m0 m1 m2 m3 r0 r1 r2 r3 n0 n1 n2 n3 d p c R S w (w1.setCell ⟨b, i, none⟩ v) :=
  KL.set h b i v (by intro x hx; simp only [List.mem_cons, List.not_mem_nil, or_false] at hx; rcases hx with rfl | rfl | rfl | rfl | rfl | rfl | rfl | rfl | rfl | rfl | rfl | rfl | rfl <;> simp only [] <;> omega) (by omega)
theorem K_Qv.bel {m0 m1 m2 m3 r0 r1 r2 r3 n0 n1 n2 n3 d : Int} {p c R S : Nat} {w w1 : World} (h : K_Qv m0 m1 m2 m3 r0 r1 r2 r3 n0 n1 n2 n3 d p c R S w w1) : Below w.heap.size w w1 := KL.bel h
theorem K_Qv.cells {m0 m1 m2 m3 r0 r1 r2 r3 n0 n1 n2 n3 d : Int} {p c R S : Nat} {w w' : World} (h : K_Qv m0 m1 m2 m3 r0 r1 r2 r3 n0 n1 n2 n3 d p c R S w w') : w'.cell? ⟨S, 0, none⟩ = some (.int .i64 m0) ∧ w'.cell? ⟨S, 1, none⟩ = some (.int .i64 m1) ∧ w'.cell? ⟨S, 2, none⟩ = some (.int .i64 m2) ∧ w'.cell? ⟨S, 3, none⟩ = some (.int .i64 m3) ∧ w'.cell? ⟨R, 0, none⟩ = some (.int .i64 r0) ∧ w'.cell? ⟨R, 1, none⟩ = some (.int .i64 r1) ∧ w'.cell? ⟨R, 2, none⟩ = some (.int .i64 r2) ∧ w'.cell? ⟨R, 3, none⟩ = some (.int .i64 r3) ∧ w'.cell? ⟨p, 0, none⟩ = some (.int .i64 n0) ∧ w'.cell? ⟨p, 1, none⟩ = some (.int .i64 n1) ∧ w'.cell? ⟨p, 2, none⟩ = some (.int .i64 n2) ∧ w'.cell? ⟨p, 3, none⟩ = some (.int .i64 n3) ∧ w'.cell? ⟨c, 0, none⟩ = some (.int .i64 d) ∧ w'.frozen? ⟨S, 0, none⟩ = false ∧ w'.frozen? ⟨S, 1, none⟩ = false ∧ w'.frozen? ⟨S, 2, none⟩ = false ∧ w'.frozen? ⟨S, 3, none⟩ = false ∧ w'.frozen? ⟨R, 0, none⟩ = false ∧ w'.frozen? ⟨R, 1, none⟩ = false ∧ w'.frozen? ⟨R, 2, none⟩ = false ∧ w'.frozen? ⟨R, 3, none⟩ = false := ⟨h.c (S, 0, .int .i64 m0) (by simp), h.c (S, 1, .int .i64 m1) (by simp), h.c (S, 2, .int .i64 m2) (by simp), h.c (S, 3, .int .i64 m3) (by simp), h.c (R, 0, .int .i64 r0) (by simp), h.c (R, 1, .int .i64 r1) (by simp), h.c (R, 2, .int .i64 r2) (by simp), h.c (R, 3, .int .i64 r3) (by simp), h.c (p, 0, .int .i64 n0) (by simp), h.c (p, 1, .int .i64 n1) (by simp), h.c (p, 2, .int .i64 n2) (by simp), h.c (p, 3, .int .i64 n3) (by simp), h.c (c, 0, .int .i64 d) (by simp), h.f (S, 0) (by simp), h.f (S, 1) (by simp), h.f (S, 2) (by simp), h.f (S, 3) (by simp), h.f (R, 0) (by simp), h.f (R, 1) (by simp), h.f (R, 2) (by simp), h.f (R, 3) (by simp)⟩
theorem K_Qv.zs {m0 m1 m2 m3 r0 r1 r2 r3 n0 n1 n2 n3 d : Int} {p c R S : Nat} {w w' : World} (h : K_Qv m0 m1 m2 m3 r0 r1 r2 r3 n0 n1 n2 n3 d p c R S w w') : S < w'.heap.size ∧ R < w'.heap.size ∧ p < w'.heap.size ∧ c < w'.heap.size ∧ True := ⟨KL.z h (x := (S, 0, .int .i64 m0)) (by simp), KL.z h (x := (R, 0, .int .i64 r0)) (by simp), KL.z h (x := (p, 0, .int .i64 n0)) (by simp), KL.z h (x := (c, 0, .int .i64 d)) (by simp), trivial⟩
theorem K_Qv.ks {m0 m1 m2 m3 r0 r1 r2 r3 n0 n1 n2 n3 d : Int} {p c R S : Nat} {w w' : World} (h : K_Qv m0 m1 m2 m3 r0 r1 r2 r3 n0 n1 n2 n3 d p c R S w w') : (w'.cell? ⟨S, 0, none⟩ = some (.int .i64 m0) ∧ w'.cell? ⟨S, 1, none⟩ = some (.int .i64 m1) ∧ w'.cell? ⟨S, 2, none⟩ = some (.int .i64 m2) ∧ w'.cell? ⟨S, 3, none⟩ = some (.int .i64 m3) ∧ w'.cell? ⟨R, 0, none⟩ = some (.int .i64 r0) ∧ w'.cell? ⟨R, 1, none⟩ = some (.int .i64 r1) ∧ w'.cell? ⟨R, 2, none⟩ = some (.int .i64 r2) ∧ w'.cell? ⟨R, 3, none⟩ = some (.int .i64 r3) ∧ w'.cell? ⟨p, 0, none⟩ = some (.int .i64 n0) ∧ w'.cell? ⟨p, 1, none⟩ = some (.int .i64 n1) ∧ w'.cell? ⟨p, 2, none⟩ = some (.int .i64 n2) ∧ w'.cell? ⟨p, 3, none⟩ = some (.int .i64 n3) ∧ w'.cell? ⟨c, 0, none⟩ = some (.int .i64 d) ∧ w'.frozen? ⟨S, 0, none⟩ = false ∧ w'.frozen? ⟨S, 1, none⟩ = false ∧ w'.frozen? ⟨S, 2, none⟩ = false ∧ w'.frozen? ⟨S, 3, none⟩ = false ∧ w'.frozen? ⟨R, 0, none⟩ = false ∧ w'.frozen? ⟨R, 1, none⟩ = false ∧ w'.frozen? ⟨R, 2, none⟩ = false ∧ w'.frozen? ⟨R, 3, none⟩ = false) ∧ K_Qv m0 m1 m2 m3 r0 r1 r2 r3 n0 n1 n2 n3 d p c R S w w' := ⟨h.cells, h⟩
set_option maxHeartbeats 3200000 in
theorem quotients_any (n : H) (d : Int) (w : World) (hn : HB 100000000000000000 n) (hd : 0 < d) (hd' : d ≤ 100000000000000000) :
    Calls Try.prog 127 #[.agg #[.int .i64 (n).w, .int .i64 (n).x, .int .i64 (n).y, .int .i64 (n).z], .int .i64 d] w fun e w' => e = .returned (.tuple #[.agg #[.int .i64 (qi n d).w, .int .i64 (qi n d).x, .int .i64 (qi n d).y, .int .i64 (qi n d).z], .agg #[.int .i64 (qh n d).w, .int .i64 (qh n d).x, .int .i64 (qh n d).y, .int .i64 (qh n d).z]]) ∧ Below w.heap.size w w' := by
  obtain ⟨hn0, hn1, hn2, hn3⟩ := hn
  obtain ⟨n0, n1, n2, n3⟩ := n
  simp only [] at hn0 hn1 hn2 hn3
  have NA := Lib.hid (fun c b W hb hc => to_below (near_any c d b W hb hd hd' hc))
  have MA := Lib.hid (fun c b W hb hc => to_below (middle_any c d b W hb hd hd' hc))
  have B0 := Lib.hid hn0
  have B1 := Lib.hid hn1
  have B2 := Lib.hid hn2
  have B3 := Lib.hid hn3
  unfold qi qh
  simp only []
  clear hn0 hn1 hn2 hn3 hd hd'
  have hmf : ∀ (fn : Fn) (first cap : Array Value) (w : World), (Instr.makeFunc fn first cap).run Try.prog w = .ok (.func fn first cap) w := fun _ _ _ _ => rfl
  go_enter Try.func127, Try.ntmps127
  go_wp2_with fail
  have hk : K_Qt n0 n1 n2 n3 d w.heap.size (w.heap.size + 1) (w.heap.size + 2) (w.heap.size + 3) w ((((w.alloc (.cells #[.int .i64 n0, .int .i64 n1, .int .i64 n2, .int .i64 n3] 95)).alloc (.cells #[.int .i64 d] 3)).alloc (.cells #[.int .i64 0, .int .i64 0, .int .i64 0, .int .i64 0] 97)).alloc (.cells #[.int .i64 0, .int .i64 0, .int .i64 0, .int .i64 0] 97)) := ⟨by simp [go_sem], by simp [go_sem], by simp [go_sem], by (repeat (first | (with_reducible exact Below.refl _ _) | (with_reducible exact HB.out) | (with_reducible refine below_draws ?_ _) | (with_reducible refine Below.alloc ?_ (by go_size) _) | (with_reducible refine Below.setCell ?_ (by go_size) _) | (with_reducible refine Below.alloc ?_ (by simp <;> omega) _) | (with_reducible refine Below.setCell ?_ (by simp <;> omega) _)))⟩
  generalize ((((w.alloc (.cells #[.int .i64 n0, .int .i64 n1, .int .i64 n2, .int .i64 n3] 95)).alloc (.cells #[.int .i64 d] 3)).alloc (.cells #[.int .i64 0, .int .i64 0, .int .i64 0, .int .i64 0] 97)).alloc (.cells #[.int .i64 0, .int .i64 0, .int .i64 0, .int .i64 0] 97)) = wa at hk ⊢
  refine merge_w (K := fun w9 => K_Qu (2 * ((2 * n0 + d) / (2 * d))) (2 * ((2 * n1 + d) / (2 * d))) (2 * ((2 * n2 + d) / (2 * d))) (2 * ((2 * n3 + d) / (2 * d))) n0 n1 n2 n3 d w.heap.size (w.heap.size + 1) (w.heap.size + 2) (w.heap.size + 3) w w9) ?G ?main ?rest
  case main =>
    intro REST
    go_region_held3 (fun w' => (w'.cell? ⟨w.heap.size, 0, none⟩ = some (.int .i64 n0) ∧ w'.cell? ⟨w.heap.size, 1, none⟩ = some (.int .i64 n1) ∧ w'.cell? ⟨w.heap.size, 2, none⟩ = some (.int .i64 n2) ∧ w'.cell? ⟨w.heap.size, 3, none⟩ = some (.int .i64 n3) ∧ w'.cell? ⟨(w.heap.size + 1), 0, none⟩ = some (.int .i64 d) ∧ w'.cell? ⟨(w.heap.size + 2), 0, none⟩ = some (cv w' ((w.heap.size + 2)) 0) ∧ w'.frozen? ⟨(w.heap.size + 2), 0, none⟩ = false ∧ w'.cell? ⟨(w.heap.size + 2), 1, none⟩ = some (cv w' ((w.heap.size + 2)) 1) ∧ w'.frozen? ⟨(w.heap.size + 2), 1, none⟩ = false ∧ w'.cell? ⟨(w.heap.size + 2), 2, none⟩ = some (cv w' ((w.heap.size + 2)) 2) ∧ w'.frozen? ⟨(w.heap.size + 2), 2, none⟩ = false ∧ w'.cell? ⟨(w.heap.size + 2), 3, none⟩ = some (cv w' ((w.heap.size + 2)) 3) ∧ w'.frozen? ⟨(w.heap.size + 2), 3, none⟩ = false ∧ w'.cell? ⟨(w.heap.size + 3), 0, none⟩ = some (cv w' ((w.heap.size + 3)) 0) ∧ w'.frozen? ⟨(w.heap.size + 3), 0, none⟩ = false ∧ w'.cell? ⟨(w.heap.size + 3), 1, none⟩ = some (cv w' ((w.heap.size + 3)) 1) ∧ w'.frozen? ⟨(w.heap.size + 3), 1, none⟩ = false ∧ w'.cell? ⟨(w.heap.size + 3), 2, none⟩ = some (cv w' ((w.heap.size + 3)) 2) ∧ w'.frozen? ⟨(w.heap.size + 3), 2, none⟩ = false ∧ w'.cell? ⟨(w.heap.size + 3), 3, none⟩ = some (cv w' ((w.heap.size + 3)) 3) ∧ w'.frozen? ⟨(w.heap.size + 3), 3, none⟩ = false) ∧ K_Qt n0 n1 n2 n3 d w.heap.size (w.heap.size + 1) (w.heap.size + 2) (w.heap.size + 3) w w') ((refine K_Qt.ks ?_; repeat (first | (with_reducible assumption) | (with_reducible refine K_Qt.draws _ ?_) | (with_reducible refine K_Qt.drew ?_) | (with_reducible refine K_Qt.alloc _ ?_) | (with_reducible refine K_Qt.set ?_ _ _ _ (by omega)))))
      (first
        | (go_at_call 139; (with_reducible refine (NA.out _ _ _ (by have hh : _ ∧ K_Qt n0 n1 n2 n3 d w.heap.size (w.heap.size + 1) (w.heap.size + 2) (w.heap.size + 3) w _ := (by assumption); exact (K_Qt.cells hh.2).2.2.2.2.1) (by first | exact B0.out | exact B1.out | exact B2.out | exact B3.out)).mono ?_); rintro e w' ⟨rfl, hbel⟩; have hk' := K_Qt.below hbel (And.right (by assumption)); clear hbel))
    all_goals exact REST.out _ (KL.put4n hk' (by simp) (by intro x hx; simp only [List.mem_cons, List.not_mem_nil, or_false] at hx; rcases hx with rfl | rfl | rfl | rfl | rfl <;> simp) (by omega) _ _ _ _)
  case rest =>
    intro wb hkb
    clear hk
    go_wp2_with fail
    refine merge_w (K := fun w9 => K_Qv (2 * (n0 / d) + 1) (2 * (n1 / d) + 1) (2 * (n2 / d) + 1) (2 * (n3 / d) + 1) (2 * ((2 * n0 + d) / (2 * d))) (2 * ((2 * n1 + d) / (2 * d))) (2 * ((2 * n2 + d) / (2 * d))) (2 * ((2 * n3 + d) / (2 * d))) n0 n1 n2 n3 d w.heap.size (w.heap.size + 1) (w.heap.size + 2) (w.heap.size + 3) w w9) ?G2 ?main2 ?rest2
    case main2 =>
      intro REST
      go_region_held3 (fun w' => (w'.cell? ⟨(w.heap.size + 2), 0, none⟩ = some (.int .i64 (2 * ((2 * n0 + d) / (2 * d)))) ∧ w'.cell? ⟨(w.heap.size + 2), 1, none⟩ = some (.int .i64 (2 * ((2 * n1 + d) / (2 * d)))) ∧ w'.cell? ⟨(w.heap.size + 2), 2, none⟩ = some (.int .i64 (2 * ((2 * n2 + d) / (2 * d)))) ∧ w'.cell? ⟨(w.heap.size + 2), 3, none⟩ = some (.int .i64 (2 * ((2 * n3 + d) / (2 * d)))) ∧ w'.cell? ⟨w.heap.size, 0, none⟩ = some (.int .i64 n0) ∧ w'.cell? ⟨w.heap.size, 1, none⟩ = some (.int .i64 n1) ∧ w'.cell? ⟨w.heap.size, 2, none⟩ = some (.int .i64 n2) ∧ w'.cell? ⟨w.heap.size, 3, none⟩ = some (.int .i64 n3) ∧ w'.cell? ⟨(w.heap.size + 1), 0, none⟩ = some (.int .i64 d) ∧ w'.frozen? ⟨(w.heap.size + 2), 0, none⟩ = false ∧ w'.frozen? ⟨(w.heap.size + 2), 1, none⟩ = false ∧ w'.frozen? ⟨(w.heap.size + 2), 2, none⟩ = false ∧ w'.frozen? ⟨(w.heap.size + 2), 3, none⟩ = false ∧ w'.cell? ⟨(w.heap.size + 3), 0, none⟩ = some (cv w' ((w.heap.size + 3)) 0) ∧ w'.frozen? ⟨(w.heap.size + 3), 0, none⟩ = false ∧ w'.cell? ⟨(w.heap.size + 3), 1, none⟩ = some (cv w' ((w.heap.size + 3)) 1) ∧ w'.frozen? ⟨(w.heap.size + 3), 1, none⟩ = false ∧ w'.cell? ⟨(w.heap.size + 3), 2, none⟩ = some (cv w' ((w.heap.size + 3)) 2) ∧ w'.frozen? ⟨(w.heap.size + 3), 2, none⟩ = false ∧ w'.cell? ⟨(w.heap.size + 3), 3, none⟩ = some (cv w' ((w.heap.size + 3)) 3) ∧ w'.frozen? ⟨(w.heap.size + 3), 3, none⟩ = false) ∧ K_Qu (2 * ((2 * n0 + d) / (2 * d))) (2 * ((2 * n1 + d) / (2 * d))) (2 * ((2 * n2 + d) / (2 * d))) (2 * ((2 * n3 + d) / (2 * d))) n0 n1 n2 n3 d w.heap.size (w.heap.size + 1) (w.heap.size + 2) (w.heap.size + 3) w w') ((refine K_Qu.ks ?_; repeat (first | (with_reducible assumption) | (with_reducible refine K_Qu.draws _ ?_) | (with_reducible refine K_Qu.drew ?_) | (with_reducible refine K_Qu.alloc _ ?_) | (with_reducible refine K_Qu.set ?_ _ _ _ (by omega)))))
        (first
          | (go_at_call 141; (with_reducible refine (MA.out _ _ _ (by have hh : _ ∧ K_Qu (2 * ((2 * n0 + d) / (2 * d))) (2 * ((2 * n1 + d) / (2 * d))) (2 * ((2 * n2 + d) / (2 * d))) (2 * ((2 * n3 + d) / (2 * d))) n0 n1 n2 n3 d w.heap.size (w.heap.size + 1) (w.heap.size + 2) (w.heap.size + 3) w _ := (by assumption); exact (K_Qu.cells hh.2).2.2.2.2.2.2.2.2.1) (by first | exact B0.out | exact B1.out | exact B2.out | exact B3.out)).mono ?_); rintro e w' ⟨rfl, hbel⟩; have hk' := K_Qu.below hbel (And.right (by assumption)); clear hbel))
      all_goals exact REST.out _ (KL.sub (KL.put4n (p := w.heap.size + 3) hk' (by simp) (by intro x hx; simp only [List.mem_cons, List.not_mem_nil, or_false] at hx; rcases hx with rfl | rfl | rfl | rfl | rfl | rfl | rfl | rfl | rfl <;> simp) (by omega) _ _ _ _) (fun x hx => hx) (fun x hx => by simp only [List.mem_cons, List.not_mem_nil, or_false] at hx ⊢; rcases hx with rfl | rfl | rfl | rfl | rfl | rfl | rfl | rfl <;> simp))
    case rest2 =>
      intro wc hkc
      have hK := hkc
      clear hkc
      obtain ⟨c0_, c1_, c2_, c3_, c4_, c5_, c6_, c7_, c8_, c9_, c10_, c11_, c12_, f0_, f1_, f2_, f3_, f4_, f5_, f6_, f7_⟩ := K_Qv.cells hK; obtain ⟨z0_, z1_, z2_, z3_, -⟩ := K_Qv.zs hK; have HK := Lib.hid hK; clear hK
      have HB := Lib.hid (K_Qv.bel HK.out)
      go_wp2
      go_region
      all_goals
        go_wp2
        exact bodyPost_ret (v := .tuple #[.agg #[.int .i64 ((2 * ((2 * n0 + d) / (2 * d)))), .int .i64 ((2 * ((2 * n1 + d) / (2 * d)))), .int .i64 ((2 * ((2 * n2 + d) / (2 * d)))), .int .i64 ((2 * ((2 * n3 + d) / (2 * d))))], .agg #[.int .i64 ((2 * (n0 / d) + 1)), .int .i64 ((2 * (n1 / d) + 1)), .int .i64 ((2 * (n2 / d) + 1)), .int .i64 ((2 * (n3 / d) + 1))]]) (by simp [results, Try.results127, go_sem, c0_, c1_, c2_, c3_, c4_, c5_, c6_, c7_, c8_, c9_, c10_, c11_, c12_, f0_, f1_, f2_, f3_, f4_, f5_, f6_, f7_, z0_, z1_, z2_, z3_]) rfl ⟨rfl, below_draws (by (repeat (first | (with_reducible exact Below.refl _ _) | (with_reducible exact HB.out) | (with_reducible refine below_draws ?_ _) | (with_reducible refine Below.alloc ?_ (by go_size) _) | (with_reducible refine Below.setCell ?_ (by go_size) _) | (with_reducible refine Below.alloc ?_ (by simp <;> omega) _) | (with_reducible refine Below.setCell ?_ (by simp <;> omega) _)))) 1⟩
end Go.Proofs.Yteiflfmpkfhkoaa.Rt
