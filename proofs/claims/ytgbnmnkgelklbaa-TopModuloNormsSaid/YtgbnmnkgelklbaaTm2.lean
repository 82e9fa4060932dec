/-
  WALK of the law TopModuloNorms: it returns true for all arguments.
-/
import Derived.Test.YtgbnmnkgelklbaaTm1
import Derived.Test.YtgbnmnkgelklbaaMgMo
namespace Go.Proofs.Ytgbnmnkgelklbaa.Tm
open Go.RowKit
open Nt (Pr)
open Al
open Alm
open Rm (chk_bds)
open Mo (mdE mdE_no Modulo_ok MdEnd CheckModulus_any)
set_option linter.unusedVariables false
set_option linter.unusedSimpArgs false
set_option maxRecDepth 100000
def Cg (p a b : Int) : Prop := p ∣ a - b
theorem Cg.rfl {p a : Int} : Cg p a a := ⟨0, by omega⟩
theorem Cg.trans {p a b c : Int} (h : Cg p a b) (k : Cg p b c) : Cg p a c := by
  obtain ⟨x, hx⟩ := h; obtain ⟨y, hy⟩ := k
  exact ⟨x + y, by rw [Int.mul_add]; omega⟩
theorem Cg.add {p a b c d : Int} (h : Cg p a b) (k : Cg p c d) : Cg p (a + c) (b + d) := by
  obtain ⟨x, hx⟩ := h; obtain ⟨y, hy⟩ := k
  exact ⟨x + y, by rw [Int.mul_add]; omega⟩
theorem Cg.sub {p a b c d : Int} (h : Cg p a b) (k : Cg p c d) : Cg p (a - c) (b - d) := by
  obtain ⟨x, hx⟩ := h; obtain ⟨y, hy⟩ := k
  exact ⟨x - y, by rw [Int.mul_sub]; omega⟩
theorem Cg.mul {p a b c d : Int} (h : Cg p a b) (k : Cg p c d) : Cg p (a * c) (b * d) := by
  obtain ⟨x, hx⟩ := h; obtain ⟨y, hy⟩ := k
  refine ⟨x * c + b * y, ?_⟩
  have h1 : a = b + p * x := by omega
  have h2 : c = d + p * y := by omega
  rw [h1, h2]; grind
theorem Cg.md {p : Int} (a : Int) : Cg p (a % p) a := ⟨-(a / p), by rw [Int.emod_def]; grind⟩
theorem Cg.eq {p a b c : Int} (h : Cg p a b) (e : b = c) : Cg p a c := e ▸ h
theorem Cg.zero {p a : Int} (h : Cg p a 0) : a % p = 0 := by
  obtain ⟨k, hk⟩ := h
  have : a = p * k := by omega
  rw [this, Int.mul_emod_right]
theorem dets {A B p u v n0 n1 n2 n3 : Int} (h : p ∣ u * u - (A * v * v + B)) {x y z r0 r1 r2 r3 s0 s1 s2 s3 : Int}
    (hx : A % p = x) (hy : -A * v % p = y) (hz : -u % p = z)
    (e0 : (0 * u + x * v) % p = r0) (e1 : (0 * y + x * z) % p = r1) (e2 : (1 * u + 0 * v) % p = r2) (e3 : (1 * y + 0 * z) % p = r3)
    (f0 : (n0 + n1 * 0 + n2 * u + n3 * r0) % p = s0) (f1 : (n1 * x + n2 * y + n3 * r1) % p = s1) (f2 : (n1 * 1 + n2 * v + n3 * r2) % p = s2) (f3 : (n0 + n1 * 0 + n2 * z + n3 * r3) % p = s3) :
    (s0 * s3 - s1 * s2 - (n0 * n0 - A * n1 * n1 - B * n2 * n2 + A * B * n3 * n3)) % p = 0 ∧ (s0 + s3 - 2 * n0) % p = 0 := by
  have cx : Cg p x A := hx ▸ Cg.md A
  have cy : Cg p y (-A * v) := hy ▸ Cg.md _
  have cz : Cg p z (-u) := hz ▸ Cg.md _
  have c0 : Cg p r0 (0 * u + A * v) := e0 ▸ (Cg.md _).trans (Cg.add Cg.rfl (cx.mul Cg.rfl))
  have c1 : Cg p r1 (0 * (-A * v) + A * -u) := e1 ▸ (Cg.md _).trans (Cg.add (Cg.rfl.mul cy) (cx.mul cz))
  have c2 : Cg p r2 (1 * u + 0 * v) := e2 ▸ Cg.md _
  have c3 : Cg p r3 (1 * (-A * v) + 0 * -u) := e3 ▸ (Cg.md _).trans (Cg.add (Cg.rfl.mul cy) (Cg.rfl.mul cz))
  have d0 : Cg p s0 (n0 + n1 * 0 + n2 * u + n3 * (0 * u + A * v)) := f0 ▸ (Cg.md _).trans (Cg.add Cg.rfl (Cg.rfl.mul c0))
  have d1 : Cg p s1 (n1 * A + n2 * (-A * v) + n3 * (0 * (-A * v) + A * -u)) := f1 ▸ (Cg.md _).trans (Cg.add (Cg.add (Cg.rfl.mul cx) (Cg.rfl.mul cy)) (Cg.rfl.mul c1))
  have d2 : Cg p s2 (n1 * 1 + n2 * v + n3 * (1 * u + 0 * v)) := f2 ▸ (Cg.md _).trans (Cg.add Cg.rfl (Cg.rfl.mul c2))
  have d3 : Cg p s3 (n0 + n1 * 0 + n2 * -u + n3 * (1 * (-A * v) + 0 * -u)) := f3 ▸ (Cg.md _).trans (Cg.add (Cg.add Cg.rfl (Cg.rfl.mul cz)) (Cg.rfl.mul c3))
  have hu : Cg p ((A * n3 * n3 - n2 * n2) * (u * u - (A * v * v + B))) ((A * n3 * n3 - n2 * n2) * 0) := Cg.rfl.mul (by obtain ⟨k, hk⟩ := h; exact ⟨k, by omega⟩)
  refine ⟨Cg.zero ?_, Cg.zero ?_⟩
  · refine (((d0.mul d3).sub (d1.mul d2)).sub Cg.rfl).trans (Cg.eq (Cg.trans (Cg.eq Cg.rfl ?_) hu) ?_)
    · grind
    · grind
  · refine ((d0.add d3).sub Cg.rfl).eq ?_
    grind

theorem KL.q4 {w0 : World} {cs : List (Nat × Nat × Value)} {fs : List (Nat × Nat)} {w : World} (h : KL w0 cs fs w) (a b c d : Int) (T : TypeId) (p : Nat) (hp : p = w.heap.size) : KL w0 ((p, 0, .int .i64 a) :: (p, 1, .int .i64 b) :: (p, 2, .int .i64 c) :: (p, 3, .int .i64 d) :: cs) fs (w.alloc (.cells #[.int .i64 a, .int .i64 b, .int .i64 c, .int .i64 d] T)) := by
  subst hp
  have h1 := h.alloc (.cells #[.int .i64 a, .int .i64 b, .int .i64 c, .int .i64 d] T)
  refine ⟨fun x hx => ?_, h1.g, h1.f, h1.bel⟩
  simp only [List.mem_cons] at hx
  rcases hx with rfl | rfl | rfl | rfl | hx
  · simp [go_sem]
  · simp [go_sem]
  · simp [go_sem]
  · simp [go_sem]
  · exact h1.c x hx
theorem fg_one (a : Int) : fn a 1 = a ∧ fd a 1 = 1 := by
  have h1 := fd_mul a 1
  have h2 := fd_pos (a := a) (b := 1) (by omega)
  have h3 := fn_mul a 1
  have hg : fg a 1 = 1 := by
    have hd : fg a 1 ∣ 1 := (fn_dvd a 1).2
    have h4 := Int.le_of_dvd (by omega) hd
    rcases (show fg a 1 < 1 ∨ 1 ≤ fg a 1 by omega) with h5 | h5
    · exfalso
      have : fd a 1 * fg a 1 ≤ 0 := Int.mul_nonpos_of_nonneg_of_nonpos (by omega) (by omega)
      omega
    · omega
  rw [hg] at h1 h3
  omega
/-- what a walk keeps: cells, and that nothing that was there has turned -/
def K_Ta (A B n0 n1 n2 n3 n4 : Int) (b1 b2 : Nat) (w w' : World) : Prop := KL w [(b1, 0, .int .i64 A), (b1, 1, .int .i64 B), (b2, 0, .int .i64 n0), (b2, 1, .int .i64 n1), (b2, 2, .int .i64 n2), (b2, 3, .int .i64 n3), (b2, 4, .int .i64 n4)] [] w'
theorem K_Ta.below {A B n0 n1 n2 n3 n4 : Int} {b1 b2 : Nat} {w w1 w2 : World} (hb : Below w1.heap.size w1 w2) (h : K_Ta A B n0 n1 n2 n3 n4 b1 b2 w w1) : K_Ta A B n0 n1 n2 n3 n4 b1 b2 w w2 := KL.below hb h
theorem K_Ta.draws {A B n0 n1 n2 n3 n4 : Int} {b1 b2 : Nat} {w w1 : World} (n : Nat) (h : K_Ta A B n0 n1 n2 n3 n4 b1 b2 w w1) : K_Ta A B n0 n1 n2 n3 n4 b1 b2 w (w1.drewN n) := KL.draws n h
theorem K_Ta.drew {A B n0 n1 n2 n3 n4 : Int} {b1 b2 : Nat} {w w1 : World} (h : K_Ta A B n0 n1 n2 n3 n4 b1 b2 w w1) : K_Ta A B n0 n1 n2 n3 n4 b1 b2 w w1.drew := KL.draws 1 h
theorem K_Ta.alloc {A B n0 n1 n2 n3 n4 : Int} {b1 b2 : Nat} {w w1 : World} (o : Obj) (h : K_Ta A B n0 n1 n2 n3 n4 b1 b2 w w1) : K_Ta A B n0 n1 n2 n3 n4 b1 b2 w (w1.alloc o) := KL.alloc o h
theorem K_Ta.set {A B n0 n1 n2 n3 n4 : Int} {b1 b2 : Nat} {w w1 : World} (h : K_Ta A B n0 n1 n2 n3 n4 b1 b2 w w1) (b i : Nat) (v : Value) (hb : b ≠ b1 ∧ b ≠ b2 ∧ w.heap.size ≤ b) : K_Ta A B n0 n1 n2 n3 n4 b1 b2 w (w1.setCell ⟨b, i, none⟩ v) :=
  KL.set h b i v (by intro x hx; simp only [List.mem_cons, List.not_mem_nil, or_false] at hx; rcases hx with rfl | rfl | rfl | rfl | rfl | rfl | rfl <;> simp only [] <;> omega) (by omega)
theorem K_Ta.bel {A B n0 n1 n2 n3 n4 : Int} {b1 b2 : Nat} {w w1 : World} (h : K_Ta A B n0 n1 n2 n3 n4 b1 b2 w w1) : Below w.heap.size w w1 := KL.bel h
theorem K_Ta.cells {A B n0 n1 n2 n3 n4 : Int} {b1 b2 : Nat} {w w' : World} (h : K_Ta A B n0 n1 n2 n3 n4 b1 b2 w w') : w'.cell? ⟨b1, 0, none⟩ = some (.int .i64 A) ∧ w'.cell? ⟨b1, 1, none⟩ = some (.int .i64 B) ∧ w'.cell? ⟨b2, 0, none⟩ = some (.int .i64 n0) ∧ w'.cell? ⟨b2, 1, none⟩ = some (.int .i64 n1) ∧ w'.cell? ⟨b2, 2, none⟩ = some (.int .i64 n2) ∧ w'.cell? ⟨b2, 3, none⟩ = some (.int .i64 n3) ∧ w'.cell? ⟨b2, 4, none⟩ = some (.int .i64 n4) := ⟨h.c (b1, 0, .int .i64 A) (by simp), h.c (b1, 1, .int .i64 B) (by simp), h.c (b2, 0, .int .i64 n0) (by simp), h.c (b2, 1, .int .i64 n1) (by simp), h.c (b2, 2, .int .i64 n2) (by simp), h.c (b2, 3, .int .i64 n3) (by simp), h.c (b2, 4, .int .i64 n4) (by simp)⟩
theorem K_Ta.zs {A B n0 n1 n2 n3 n4 : Int} {b1 b2 : Nat} {w w' : World} (h : K_Ta A B n0 n1 n2 n3 n4 b1 b2 w w') : b1 < w'.heap.size ∧ b2 < w'.heap.size ∧ True := ⟨KL.z h (x := (b1, 0, .int .i64 A)) (by simp), KL.z h (x := (b2, 0, .int .i64 n0)) (by simp), trivial⟩
theorem K_Ta.ks {A B n0 n1 n2 n3 n4 : Int} {b1 b2 : Nat} {w w' : World} (h : K_Ta A B n0 n1 n2 n3 n4 b1 b2 w w') : (w'.cell? ⟨b1, 0, none⟩ = some (.int .i64 A) ∧ w'.cell? ⟨b1, 1, none⟩ = some (.int .i64 B) ∧ w'.cell? ⟨b2, 0, none⟩ = some (.int .i64 n0) ∧ w'.cell? ⟨b2, 1, none⟩ = some (.int .i64 n1) ∧ w'.cell? ⟨b2, 2, none⟩ = some (.int .i64 n2) ∧ w'.cell? ⟨b2, 3, none⟩ = some (.int .i64 n3) ∧ w'.cell? ⟨b2, 4, none⟩ = some (.int .i64 n4)) ∧ K_Ta A B n0 n1 n2 n3 n4 b1 b2 w w' := ⟨h.cells, h⟩
/-- what a walk keeps: cells, and that nothing that was there has turned -/
def K_Tj (A B n0 n1 n2 n3 n4 xa ua ya va za : Int) (b1 b2 R S : Nat) (w w' : World) : Prop := KL w [(S, 0, .int .i64 ua), (S, 1, .int .i64 ya), (S, 2, .int .i64 va), (S, 3, .int .i64 za), (R, 0, .int .i64 0), (R, 1, .int .i64 xa), (R, 2, .int .i64 1), (R, 3, .int .i64 0), (b1, 0, .int .i64 A), (b1, 1, .int .i64 B), (b2, 0, .int .i64 n0), (b2, 1, .int .i64 n1), (b2, 2, .int .i64 n2), (b2, 3, .int .i64 n3), (b2, 4, .int .i64 n4)] [] w'
theorem K_Tj.below {A B n0 n1 n2 n3 n4 xa ua ya va za : Int} {b1 b2 R S : Nat} {w w1 w2 : World} (hb : Below w1.heap.size w1 w2) (h : K_Tj A B n0 n1 n2 n3 n4 xa ua ya va za b1 b2 R S w w1) : K_Tj A B n0 n1 n2 n3 n4 xa ua ya va za b1 b2 R S w w2 := KL.below hb h
theorem K_Tj.draws {A B n0 n1 n2 n3 n4 xa ua ya va za : Int} {b1 b2 R S : Nat} {w w1 : World} (n : Nat) (h : K_Tj A B n0 n1 n2 n3 n4 xa ua ya va za b1 b2 R S w w1) : K_Tj A B n0 n1 n2 n3 n4 xa ua ya va za b1 b2 R S w (w1.drewN n) := KL.draws n h
theorem K_Tj.drew {A B n0 n1 n2 n3 n4 xa ua ya va za : Int} {b1 b2 R S : Nat} {w w1 : World} (h : K_Tj A B n0 n1 n2 n3 n4 xa ua ya va za b1 b2 R S w w1) : K_Tj A B n0 n1 n2 n3 n4 xa ua ya va za b1 b2 R S w w1.drew := KL.draws 1 h
theorem K_Tj.alloc {A B n0 n1 n2 n3 n4 xa ua ya va za : Int} {b1 b2 R S : Nat} {w w1 : World} (o : Obj) (h : K_Tj A B n0 n1 n2 n3 n4 xa ua ya va za b1 b2 R S w w1) : K_Tj A B n0 n1 n2 n3 n4 xa ua ya va za b1 b2 R S w (w1.alloc o) := KL.alloc o h
theorem K_Tj.set {A B n0 n1 n2 n3 n4 xa ua ya va za : Int} {b1 b2 R S : Nat} {w w1 : World} (h : K_Tj A B n0 n1 n2 n3 n4 xa ua ya va za b1 b2 R S w w1) (b i : Nat) (v : Value) (hb : b ≠ S ∧ b ≠ R ∧ b ≠ b1 ∧ b ≠ b2 ∧ w.heap.size ≤ b) : K_Tj A B n0 n1 n2 n3 n4 xa ua ya va za b1 b2 R S w (w1.setCell ⟨b, i, none⟩ v) :=
  KL.set h b i v (by intro x hx; simp only [List.mem_cons, List.not_mem_nil, or_false] at hx; rcases hx with rfl | rfl | rfl | rfl | rfl | rfl | rfl | rfl | rfl | rfl | rfl | rfl | rfl | rfl | rfl <;> simp only [] <;> omega) (by omega)
theorem K_Tj.bel {A B n0 n1 n2 n3 n4 xa ua ya va za : Int} {b1 b2 R S : Nat} {w w1 : World} (h : K_Tj A B n0 n1 n2 n3 n4 xa ua ya va za b1 b2 R S w w1) : Below w.heap.size w w1 := KL.bel h
theorem K_Tj.cells {A B n0 n1 n2 n3 n4 xa ua ya va za : Int} {b1 b2 R S : Nat} {w w' : World} (h : K_Tj A B n0 n1 n2 n3 n4 xa ua ya va za b1 b2 R S w w') : w'.cell? ⟨S, 0, none⟩ = some (.int .i64 ua) ∧ w'.cell? ⟨S, 1, none⟩ = some (.int .i64 ya) ∧ w'.cell? ⟨S, 2, none⟩ = some (.int .i64 va) ∧ w'.cell? ⟨S, 3, none⟩ = some (.int .i64 za) ∧ w'.cell? ⟨R, 0, none⟩ = some (.int .i64 0) ∧ w'.cell? ⟨R, 1, none⟩ = some (.int .i64 xa) ∧ w'.cell? ⟨R, 2, none⟩ = some (.int .i64 1) ∧ w'.cell? ⟨R, 3, none⟩ = some (.int .i64 0) ∧ w'.cell? ⟨b1, 0, none⟩ = some (.int .i64 A) ∧ w'.cell? ⟨b1, 1, none⟩ = some (.int .i64 B) ∧ w'.cell? ⟨b2, 0, none⟩ = some (.int .i64 n0) ∧ w'.cell? ⟨b2, 1, none⟩ = some (.int .i64 n1) ∧ w'.cell? ⟨b2, 2, none⟩ = some (.int .i64 n2) ∧ w'.cell? ⟨b2, 3, none⟩ = some (.int .i64 n3) ∧ w'.cell? ⟨b2, 4, none⟩ = some (.int .i64 n4) := ⟨h.c (S, 0, .int .i64 ua) (by simp), h.c (S, 1, .int .i64 ya) (by simp), h.c (S, 2, .int .i64 va) (by simp), h.c (S, 3, .int .i64 za) (by simp), h.c (R, 0, .int .i64 0) (by simp), h.c (R, 1, .int .i64 xa) (by simp), h.c (R, 2, .int .i64 1) (by simp), h.c (R, 3, .int .i64 0) (by simp), h.c (b1, 0, .int .i64 A) (by simp), h.c (b1, 1, .int .i64 B) (by simp), h.c (b2, 0, .int .i64 n0) (by simp), h.c (b2, 1, .int .i64 n1) (by simp), h.c (b2, 2, .int .i64 n2) (by simp), h.c (b2, 3, .int .i64 n3) (by simp), h.c (b2, 4, .int .i64 n4) (by simp)⟩
theorem K_Tj.zs {A B n0 n1 n2 n3 n4 xa ua ya va za : Int} {b1 b2 R S : Nat} {w w' : World} (h : K_Tj A B n0 n1 n2 n3 n4 xa ua ya va za b1 b2 R S w w') : S < w'.heap.size ∧ R < w'.heap.size ∧ b1 < w'.heap.size ∧ b2 < w'.heap.size ∧ True := ⟨KL.z h (x := (S, 0, .int .i64 ua)) (by simp), KL.z h (x := (R, 0, .int .i64 0)) (by simp), KL.z h (x := (b1, 0, .int .i64 A)) (by simp), KL.z h (x := (b2, 0, .int .i64 n0)) (by simp), trivial⟩
theorem K_Tj.ks {A B n0 n1 n2 n3 n4 xa ua ya va za : Int} {b1 b2 R S : Nat} {w w' : World} (h : K_Tj A B n0 n1 n2 n3 n4 xa ua ya va za b1 b2 R S w w') : (w'.cell? ⟨S, 0, none⟩ = some (.int .i64 ua) ∧ w'.cell? ⟨S, 1, none⟩ = some (.int .i64 ya) ∧ w'.cell? ⟨S, 2, none⟩ = some (.int .i64 va) ∧ w'.cell? ⟨S, 3, none⟩ = some (.int .i64 za) ∧ w'.cell? ⟨R, 0, none⟩ = some (.int .i64 0) ∧ w'.cell? ⟨R, 1, none⟩ = some (.int .i64 xa) ∧ w'.cell? ⟨R, 2, none⟩ = some (.int .i64 1) ∧ w'.cell? ⟨R, 3, none⟩ = some (.int .i64 0) ∧ w'.cell? ⟨b1, 0, none⟩ = some (.int .i64 A) ∧ w'.cell? ⟨b1, 1, none⟩ = some (.int .i64 B) ∧ w'.cell? ⟨b2, 0, none⟩ = some (.int .i64 n0) ∧ w'.cell? ⟨b2, 1, none⟩ = some (.int .i64 n1) ∧ w'.cell? ⟨b2, 2, none⟩ = some (.int .i64 n2) ∧ w'.cell? ⟨b2, 3, none⟩ = some (.int .i64 n3) ∧ w'.cell? ⟨b2, 4, none⟩ = some (.int .i64 n4)) ∧ K_Tj A B n0 n1 n2 n3 n4 xa ua ya va za b1 b2 R S w w' := ⟨h.cells, h⟩
/-- what a walk keeps: cells, and that nothing that was there has turned -/
def K_Tn (A B n0 n1 n2 n3 n4 xa ua ya va za kn kd : Int) (b1 b2 R S N : Nat) (w w' : World) : Prop := KL w [(N, 0, .int .i64 kn), (N, 1, .int .i64 kd), (S, 0, .int .i64 ua), (S, 1, .int .i64 ya), (S, 2, .int .i64 va), (S, 3, .int .i64 za), (R, 0, .int .i64 0), (R, 1, .int .i64 xa), (R, 2, .int .i64 1), (R, 3, .int .i64 0), (b1, 0, .int .i64 A), (b1, 1, .int .i64 B), (b2, 0, .int .i64 n0), (b2, 1, .int .i64 n1), (b2, 2, .int .i64 n2), (b2, 3, .int .i64 n3), (b2, 4, .int .i64 n4)] [] w'
theorem K_Tn.below {A B n0 n1 n2 n3 n4 xa ua ya va za kn kd : Int} {b1 b2 R S N : Nat} {w w1 w2 : World} (hb : Below w1.heap.size w1 w2) (h : K_Tn A B n0 n1 n2 n3 n4 xa ua ya va za kn kd b1 b2 R S N w w1) : K_Tn A B n0 n1 n2 n3 n4 xa ua ya va za kn kd b1 b2 R S N w w2 := KL.below hb h
theorem K_Tn.draws {A B n0 n1 n2 n3 n4 xa ua ya va za kn kd : Int} {b1 b2 R S N : Nat} {w w1 : World} (n : Nat) (h : K_Tn A B n0 n1 n2 n3 n4 xa ua ya va za kn kd b1 b2 R S N w w1) : K_Tn A B n0 n1 n2 n3 n4 xa ua ya va za kn kd b1 b2 R S N w (w1.drewN n) := KL.draws n h
theorem K_Tn.drew {A B n0 n1 n2 n3 n4 xa ua ya va za kn kd : Int} {b1 b2 R S N : Nat} {w w1 : World} (h : K_Tn A B n0 n1 n2 n3 n4 xa ua ya va za kn kd b1 b2 R S N w w1) : K_Tn A B n0 n1 n2 n3 n4 xa ua ya va za kn kd b1 b2 R S N w w1.drew := KL.draws 1 h
theorem K_Tn.alloc {A B n0 n1 n2 n3 n4 xa ua ya va za kn kd : Int} {b1 b2 R S N : Nat} {w w1 : World} (o : Obj) (h : K_Tn A B n0 n1 n2 n3 n4 xa ua ya va za kn kd b1 b2 R S N w w1) : K_Tn A B n0 n1 n2 n3 n4 xa ua ya va za kn kd b1 b2 R S N w (w1.alloc o) := KL.alloc o h
theorem K_Tn.set {A B n0 n1 n2 n3 n4 xa ua ya va za kn kd : Int} {b1 b2 R S N : Nat} {w w1 : World} (h : K_Tn A B n0 n1 n2 n3 n4 xa ua ya va za kn kd b1 b2 R S N w w1) (b i : Nat) (v : Value) (hb : b ≠ N ∧ b ≠ S ∧ b ≠ R ∧ b ≠ b1 ∧ b ≠ b2 ∧ w.heap.size ≤ b) : K_Tn A B n0 n1 n2 n3 n4 xa ua ya va za kn kd b1 b2 R S N w (w1.setCell ⟨b, i, none⟩ v) :=
  KL.set h b i v (by intro x hx; simp only [List.mem_cons, List.not_mem_nil, or_false] at hx; rcases hx with rfl | rfl | rfl | rfl | rfl | rfl | rfl | rfl | rfl | rfl | rfl | rfl | rfl | rfl | rfl | rfl | rfl <;> simp only [] <;> omega) (by omega)
theorem K_Tn.bel {A B n0 n1 n2 n3 n4 xa ua ya va za kn kd : Int} {b1 b2 R S N : Nat} {w w1 : World} (h : K_Tn A B n0 n1 n2 n3 n4 xa ua ya va za kn kd b1 b2 R S N w w1) : Below w.heap.size w w1 := KL.bel h
theorem K_Tn.cells {A B n0 n1 n2 n3 n4 xa ua ya va za kn kd : Int} {b1 b2 R S N : Nat} {w w' : World} (h : K_Tn A B n0 n1 n2 n3 n4 xa ua ya va za kn kd b1 b2 R S N w w') : w'.cell? ⟨N, 0, none⟩ = some (.int .i64 kn) ∧ w'.cell? ⟨N, 1, none⟩ = some (.int .i64 kd) ∧ w'.cell? ⟨S, 0, none⟩ = some (.int .i64 ua) ∧ w'.cell? ⟨S, 1, none⟩ = some (.int .i64 ya) ∧ w'.cell? ⟨S, 2, none⟩ = some (.int .i64 va) ∧ w'.cell? ⟨S, 3, none⟩ = some (.int .i64 za) ∧ w'.cell? ⟨R, 0, none⟩ = some (.int .i64 0) ∧ w'.cell? ⟨R, 1, none⟩ = some (.int .i64 xa) ∧ w'.cell? ⟨R, 2, none⟩ = some (.int .i64 1) ∧ w'.cell? ⟨R, 3, none⟩ = some (.int .i64 0) ∧ w'.cell? ⟨b1, 0, none⟩ = some (.int .i64 A) ∧ w'.cell? ⟨b1, 1, none⟩ = some (.int .i64 B) ∧ w'.cell? ⟨b2, 0, none⟩ = some (.int .i64 n0) ∧ w'.cell? ⟨b2, 1, none⟩ = some (.int .i64 n1) ∧ w'.cell? ⟨b2, 2, none⟩ = some (.int .i64 n2) ∧ w'.cell? ⟨b2, 3, none⟩ = some (.int .i64 n3) ∧ w'.cell? ⟨b2, 4, none⟩ = some (.int .i64 n4) := ⟨h.c (N, 0, .int .i64 kn) (by simp), h.c (N, 1, .int .i64 kd) (by simp), h.c (S, 0, .int .i64 ua) (by simp), h.c (S, 1, .int .i64 ya) (by simp), h.c (S, 2, .int .i64 va) (by simp), h.c (S, 3, .int .i64 za) (by simp), h.c (R, 0, .int .i64 0) (by simp), h.c (R, 1, .int .i64 xa) (by simp), h.c (R, 2, .int .i64 1) (by simp), h.c (R, 3, .int .i64 0) (by simp), h.c (b1, 0, .int .i64 A) (by simp), h.c (b1, 1, .int .i64 B) (by simp), h.c (b2, 0, .int .i64 n0) (by simp), h.c (b2, 1, .int .i64 n1) (by simp), h.c (b2, 2, .int .i64 n2) (by simp), h.c (b2, 3, .int .i64 n3) (by simp), h.c (b2, 4, .int .i64 n4) (by simp)⟩
theorem K_Tn.zs {A B n0 n1 n2 n3 n4 xa ua ya va za kn kd : Int} {b1 b2 R S N : Nat} {w w' : World} (h : K_Tn A B n0 n1 n2 n3 n4 xa ua ya va za kn kd b1 b2 R S N w w') : N < w'.heap.size ∧ S < w'.heap.size ∧ R < w'.heap.size ∧ b1 < w'.heap.size ∧ b2 < w'.heap.size ∧ True := ⟨KL.z h (x := (N, 0, .int .i64 kn)) (by simp), KL.z h (x := (S, 0, .int .i64 ua)) (by simp), KL.z h (x := (R, 0, .int .i64 0)) (by simp), KL.z h (x := (b1, 0, .int .i64 A)) (by simp), KL.z h (x := (b2, 0, .int .i64 n0)) (by simp), trivial⟩
theorem K_Tn.ks {A B n0 n1 n2 n3 n4 xa ua ya va za kn kd : Int} {b1 b2 R S N : Nat} {w w' : World} (h : K_Tn A B n0 n1 n2 n3 n4 xa ua ya va za kn kd b1 b2 R S N w w') : (w'.cell? ⟨N, 0, none⟩ = some (.int .i64 kn) ∧ w'.cell? ⟨N, 1, none⟩ = some (.int .i64 kd) ∧ w'.cell? ⟨S, 0, none⟩ = some (.int .i64 ua) ∧ w'.cell? ⟨S, 1, none⟩ = some (.int .i64 ya) ∧ w'.cell? ⟨S, 2, none⟩ = some (.int .i64 va) ∧ w'.cell? ⟨S, 3, none⟩ = some (.int .i64 za) ∧ w'.cell? ⟨R, 0, none⟩ = some (.int .i64 0) ∧ w'.cell? ⟨R, 1, none⟩ = some (.int .i64 xa) ∧ w'.cell? ⟨R, 2, none⟩ = some (.int .i64 1) ∧ w'.cell? ⟨R, 3, none⟩ = some (.int .i64 0) ∧ w'.cell? ⟨b1, 0, none⟩ = some (.int .i64 A) ∧ w'.cell? ⟨b1, 1, none⟩ = some (.int .i64 B) ∧ w'.cell? ⟨b2, 0, none⟩ = some (.int .i64 n0) ∧ w'.cell? ⟨b2, 1, none⟩ = some (.int .i64 n1) ∧ w'.cell? ⟨b2, 2, none⟩ = some (.int .i64 n2) ∧ w'.cell? ⟨b2, 3, none⟩ = some (.int .i64 n3) ∧ w'.cell? ⟨b2, 4, none⟩ = some (.int .i64 n4)) ∧ K_Tn A B n0 n1 n2 n3 n4 xa ua ya va za kn kd b1 b2 R S N w w' := ⟨h.cells, h⟩
/-- what a walk keeps: cells, and that nothing that was there has turned -/
def K_Tt (A B n0 n1 n2 n3 n4 xa ua ya va za kn kd tn td : Int) (b1 b2 R S N T : Nat) (w w' : World) : Prop := KL w [(T, 0, .int .i64 tn), (T, 1, .int .i64 td), (N, 0, .int .i64 kn), (N, 1, .int .i64 kd), (S, 0, .int .i64 ua), (S, 1, .int .i64 ya), (S, 2, .int .i64 va), (S, 3, .int .i64 za), (R, 0, .int .i64 0), (R, 1, .int .i64 xa), (R, 2, .int .i64 1), (R, 3, .int .i64 0), (b1, 0, .int .i64 A), (b1, 1, .int .i64 B), (b2, 0, .int .i64 n0), (b2, 1, .int .i64 n1), (b2, 2, .int .i64 n2), (b2, 3, .int .i64 n3), (b2, 4, .int .i64 n4)] [] w'
theorem K_Tt.below {A B n0 n1 n2 n3 n4 xa ua ya va za kn kd tn td : Int} {b1 b2 R S N T : Nat} {w w1 w2 : World} (hb : Below w1.heap.size w1 w2) (h : K_Tt A B n0 n1 n2 n3 n4 xa ua ya va za kn kd tn td b1 b2 R S N T w w1) : K_Tt A B n0 n1 n2 n3 n4 xa ua ya va za kn kd tn td b1 b2 R S N T w w2 := KL.below hb h
theorem K_Tt.draws {A B n0 n1 n2 n3 n4 xa ua ya va za kn kd tn td : Int} {b1 b2 R S N T : Nat} {w w1 : World} (n : Nat) (h : K_Tt A B n0 n1 n2 n3 n4 xa ua ya va za kn kd tn td b1 b2 R S N T w w1) : K_Tt A B n0 n1 n2 n3 n4 xa ua ya va za kn kd tn td b1 b2 R S N T w (w1.drewN n) := KL.draws n h
theorem K_Tt.drew {A B n0 n1 n2 n3 n4 xa ua ya va za kn kd tn td : Int} {b1 b2 R S N T : Nat} {w w1 : World} (h : K_Tt A B n0 n1 n2 n3 n4 xa ua ya va za kn kd tn td b1 b2 R S N T w w1) : K_Tt A B n0 n1 n2 n3 n4 xa ua ya va za kn kd tn td b1 b2 R S N T w w1.drew := KL.draws 1 h
theorem K_Tt.alloc {A B n0 n1 n2 n3 n4 xa ua ya va za kn kd tn td : Int} {b1 b2 R S N T : Nat} {w w1 : World} (o : Obj) (h : K_Tt A B n0 n1 n2 n3 n4 xa ua ya va za kn kd tn td b1 b2 R S N T w w1) : K_Tt A B n0 n1 n2 n3 n4 xa ua ya va za kn kd tn td b1 b2 R S N T w (w1.alloc o) := KL.alloc o h
theorem K_Tt.set {A B n0 n1 n2 n3 n4 xa ua ya va za kn kd tn td : Int} {b1 b2 R S N T : Nat} {w w1 : World} (h : K_Tt A B n0 n1 n2 n3 n4 xa ua ya va za kn kd tn td b1 b2 R S N T w w1) (b i : Nat) (v : Value) (hb : b ≠ T ∧ b ≠ N ∧ b ≠ S ∧ b ≠ R ∧ b ≠ b1 ∧ b ≠ b2 ∧ w.heap.size ≤ b) : K_Tt A B n0 n1 n2 n3 n4 xa ua ya va za kn kd tn td b1 b2 R S N T w (w1.setCell ⟨b, i, none⟩ v) :=
  KL.set h b i v (by intro x hx; simp only [List.mem_cons, List.not_mem_nil, or_false] at hx; rcases hx with rfl | rfl | rfl | rfl | rfl | rfl | rfl | rfl | rfl | rfl | rfl | rfl | rfl | rfl | rfl | rfl | rfl | rfl | rfl <;> simp only [] <;> omega) (by omega)
theorem K_Tt.bel {A B n0 n1 n2 n3 n4 xa ua ya va za kn kd tn td : Int} {b1 b2 R S N T : Nat} {w w1 : World} (h : K_Tt A B n0 n1 n2 n3 n4 xa ua ya va za kn kd tn td b1 b2 R S N T w w1) : Below w.heap.size w w1 := KL.bel h
theorem K_Tt.cells {A B n0 n1 n2 n3 n4 xa ua ya va za kn kd tn td : Int} {b1 b2 R S N T : Nat} {w w' : World} (h : K_Tt A B n0 n1 n2 n3 n4 xa ua ya va za kn kd tn td b1 b2 R S N T w w') : w'.cell? ⟨T, 0, none⟩ = some (.int .i64 tn) ∧ w'.cell? ⟨T, 1, none⟩ = some (.int .i64 td) ∧ w'.cell? ⟨N, 0, none⟩ = some (.int .i64 kn) ∧ w'.cell? ⟨N, 1, none⟩ = some (.int .i64 kd) ∧ w'.cell? ⟨S, 0, none⟩ = some (.int .i64 ua) ∧ w'.cell? ⟨S, 1, none⟩ = some (.int .i64 ya) ∧ w'.cell? ⟨S, 2, none⟩ = some (.int .i64 va) ∧ w'.cell? ⟨S, 3, none⟩ = some (.int .i64 za) ∧ w'.cell? ⟨R, 0, none⟩ = some (.int .i64 0) ∧ w'.cell? ⟨R, 1, none⟩ = some (.int .i64 xa) ∧ w'.cell? ⟨R, 2, none⟩ = some (.int .i64 1) ∧ w'.cell? ⟨R, 3, none⟩ = some (.int .i64 0) ∧ w'.cell? ⟨b1, 0, none⟩ = some (.int .i64 A) ∧ w'.cell? ⟨b1, 1, none⟩ = some (.int .i64 B) ∧ w'.cell? ⟨b2, 0, none⟩ = some (.int .i64 n0) ∧ w'.cell? ⟨b2, 1, none⟩ = some (.int .i64 n1) ∧ w'.cell? ⟨b2, 2, none⟩ = some (.int .i64 n2) ∧ w'.cell? ⟨b2, 3, none⟩ = some (.int .i64 n3) ∧ w'.cell? ⟨b2, 4, none⟩ = some (.int .i64 n4) := ⟨h.c (T, 0, .int .i64 tn) (by simp), h.c (T, 1, .int .i64 td) (by simp), h.c (N, 0, .int .i64 kn) (by simp), h.c (N, 1, .int .i64 kd) (by simp), h.c (S, 0, .int .i64 ua) (by simp), h.c (S, 1, .int .i64 ya) (by simp), h.c (S, 2, .int .i64 va) (by simp), h.c (S, 3, .int .i64 za) (by simp), h.c (R, 0, .int .i64 0) (by simp), h.c (R, 1, .int .i64 xa) (by simp), h.c (R, 2, .int .i64 1) (by simp), h.c (R, 3, .int .i64 0) (by simp), h.c (b1, 0, .int .i64 A) (by simp), h.c (b1, 1, .int .i64 B) (by simp), h.c (b2, 0, .int .i64 n0) (by simp), h.c (b2, 1, .int .i64 n1) (by simp), h.c (b2, 2, .int .i64 n2) (by simp), h.c (b2, 3, .int .i64 n3) (by simp), h.c (b2, 4, .int .i64 n4) (by simp)⟩
theorem K_Tt.zs {A B n0 n1 n2 n3 n4 xa ua ya va za kn kd tn td : Int} {b1 b2 R S N T : Nat} {w w' : World} (h : K_Tt A B n0 n1 n2 n3 n4 xa ua ya va za kn kd tn td b1 b2 R S N T w w') : T < w'.heap.size ∧ N < w'.heap.size ∧ S < w'.heap.size ∧ R < w'.heap.size ∧ b1 < w'.heap.size ∧ b2 < w'.heap.size ∧ True := ⟨KL.z h (x := (T, 0, .int .i64 tn)) (by simp), KL.z h (x := (N, 0, .int .i64 kn)) (by simp), KL.z h (x := (S, 0, .int .i64 ua)) (by simp), KL.z h (x := (R, 0, .int .i64 0)) (by simp), KL.z h (x := (b1, 0, .int .i64 A)) (by simp), KL.z h (x := (b2, 0, .int .i64 n0)) (by simp), trivial⟩
theorem K_Tt.ks {A B n0 n1 n2 n3 n4 xa ua ya va za kn kd tn td : Int} {b1 b2 R S N T : Nat} {w w' : World} (h : K_Tt A B n0 n1 n2 n3 n4 xa ua ya va za kn kd tn td b1 b2 R S N T w w') : (w'.cell? ⟨T, 0, none⟩ = some (.int .i64 tn) ∧ w'.cell? ⟨T, 1, none⟩ = some (.int .i64 td) ∧ w'.cell? ⟨N, 0, none⟩ = some (.int .i64 kn) ∧ w'.cell? ⟨N, 1, none⟩ = some (.int .i64 kd) ∧ w'.cell? ⟨S, 0, none⟩ = some (.int .i64 ua) ∧ w'.cell? ⟨S, 1, none⟩ = some (.int .i64 ya) ∧ w'.cell? ⟨S, 2, none⟩ = some (.int .i64 va) ∧ w'.cell? ⟨S, 3, none⟩ = some (.int .i64 za) ∧ w'.cell? ⟨R, 0, none⟩ = some (.int .i64 0) ∧ w'.cell? ⟨R, 1, none⟩ = some (.int .i64 xa) ∧ w'.cell? ⟨R, 2, none⟩ = some (.int .i64 1) ∧ w'.cell? ⟨R, 3, none⟩ = some (.int .i64 0) ∧ w'.cell? ⟨b1, 0, none⟩ = some (.int .i64 A) ∧ w'.cell? ⟨b1, 1, none⟩ = some (.int .i64 B) ∧ w'.cell? ⟨b2, 0, none⟩ = some (.int .i64 n0) ∧ w'.cell? ⟨b2, 1, none⟩ = some (.int .i64 n1) ∧ w'.cell? ⟨b2, 2, none⟩ = some (.int .i64 n2) ∧ w'.cell? ⟨b2, 3, none⟩ = some (.int .i64 n3) ∧ w'.cell? ⟨b2, 4, none⟩ = some (.int .i64 n4)) ∧ K_Tt A B n0 n1 n2 n3 n4 xa ua ya va za kn kd tn td b1 b2 R S N T w w' := ⟨h.cells, h⟩
/-- what a walk keeps: cells, and that nothing that was there has turned -/
def K_Tm (A B n0 n1 n2 n3 n4 xa ua ya va za kn kd tn td s0 s1 s2 s3 : Int) (b1 b2 R S N T M : Nat) (w w' : World) : Prop := KL w [(M, 0, .int .i64 s0), (M, 1, .int .i64 s1), (M, 2, .int .i64 s2), (M, 3, .int .i64 s3), (T, 0, .int .i64 tn), (T, 1, .int .i64 td), (N, 0, .int .i64 kn), (N, 1, .int .i64 kd), (S, 0, .int .i64 ua), (S, 1, .int .i64 ya), (S, 2, .int .i64 va), (S, 3, .int .i64 za), (R, 0, .int .i64 0), (R, 1, .int .i64 xa), (R, 2, .int .i64 1), (R, 3, .int .i64 0), (b1, 0, .int .i64 A), (b1, 1, .int .i64 B), (b2, 0, .int .i64 n0), (b2, 1, .int .i64 n1), (b2, 2, .int .i64 n2), (b2, 3, .int .i64 n3), (b2, 4, .int .i64 n4)] [] w'
theorem K_Tm.below {A B n0 n1 n2 n3 n4 xa ua ya va za kn kd tn td s0 s1 s2 s3 : Int} {b1 b2 R S N T M : Nat} {w w1 w2 : World} (hb : Below w1.heap.size w1 w2) (h : K_Tm A B n0 n1 n2 n3 n4 xa ua ya va za kn kd tn td s0 s1 s2 s3 b1 b2 R S N T M w w1) : K_Tm A B n0 n1 n2 n3 n4 xa ua ya va za kn kd tn td s0 s1 s2 s3 b1 b2 R S N T M w w2 := KL.below hb h
theorem K_Tm.draws {A B n0 n1 n2 n3 n4 xa ua ya va za kn kd tn td s0 s1 s2 s3 : Int} {b1 b2 R S N T M : Nat} {w w1 : World} (n : Nat) (h : K_Tm A B n0 n1 n2 n3 n4 xa ua ya va za kn kd tn td s0 s1 s2 s3 b1 b2 R S N T M w w1) : K_Tm A B n0 n1 n2 n3 n4 xa ua ya va za kn kd tn td s0 s1 s2 s3 b1 b2 R S N T M w (w1.drewN n) := KL.draws n h
theorem K_Tm.drew {A B n0 n1 n2 n3 n4 xa ua ya va za kn kd tn td s0 s1 s2 s3 : Int} {b1 b2 R S N T M : Nat} {w w1 : World} (h : K_Tm A B n0 n1 n2 n3 n4 xa ua ya va za kn kd tn td s0 s1 s2 s3 b1 b2 R S N T M w w1) : K_Tm A B n0 n1 n2 n3 n4 xa ua ya va za kn kd tn td s0 s1 s2 s3 b1 b2 R S N T M w w1.drew := KL.draws 1 h
theorem K_Tm.alloc {A B n0 n1 n2 n3 n4 xa ua ya va za kn kd tn td s0 s1 s2 s3 : Int} {b1 b2 R S N T M : Nat} {w w1 : World} (o : Obj) (h : K_Tm A B n0 n1 n2 n3 n4 xa ua ya va za kn kd tn td s0 s1 s2 s3 b1 b2 R S N T M w w1) : K_Tm A B n0 n1 n2 n3 n4 xa ua ya va za kn kd tn td s0 s1 s2 s3 b1 b2 R S N T M w (w1.alloc o) := KL.alloc o h
theorem K_Tm.set {A B n0 n1 n2 n3 n4 xa ua ya va za kn kd tn td s0 s1 s2 s3 : Int} {b1 b2 R S N T M : Nat} {w w1 : World} (h : K_Tm A B n0 n1 n2 n3 n4 xa ua ya va za kn kd tn td s0 s1 s2 s3 b1 b2 R S N T M w w1) (b i : Nat) (v : Value) (hb : b ≠ M ∧ b ≠ T ∧ b ≠ N ∧ b ≠ S ∧ b ≠ R ∧ b ≠ b1 ∧ b ≠ b2 ∧ w.heap.size ≤ b) : K_Tm A B n0 n1 n2 n3 n4 xa ua ya va za kn kd tn td s0 s1 s2 s3 b1 b2 R S N T M w (w1.setCell ⟨b, i, none⟩ v) :=
  KL.set h b i v (by intro x hx; simp only [List.mem_cons, List.not_mem_nil, or_false] at hx; rcases hx with rfl | rfl | rfl | rfl | rfl | rfl | rfl | rfl | rfl | rfl | rfl | rfl | rfl | rfl | rfl | rfl | rfl | rfl | rfl | rfl | rfl | rfl | rfl <;> simp only [] <;> omega) (by omega)
theorem K_Tm.bel {A B n0 n1 n2 n3 n4 xa ua ya va za kn kd tn td s0 s1 s2 s3 : Int} {b1 b2 R S N T M : Nat} {w w1 : World} (h : K_Tm A B n0 n1 n2 n3 n4 xa ua ya va za kn kd tn td s0 s1 s2 s3 b1 b2 R S N T M w w1) : Below w.heap.size w w1 := KL.bel h
theorem K_Tm.cells {A B n0 n1 n2 n3 n4 xa ua ya va za kn kd tn td s0 s1 s2 s3 : Int} {b1 b2 R S N T M : Nat} {w w' : World} (h : K_Tm A B n0 n1 n2 n3 n4 xa ua ya va za kn kd tn td s0 s1 s2 s3 b1 b2 R S N T M w w') : w'.cell? ⟨M, 0, none⟩ = some (.int .i64 s0) ∧ w'.cell? ⟨M, 1, none⟩ = some (.int .i64 s1) ∧ w'.cell? ⟨M, 2, none⟩ = some (.int .i64 s2) ∧ w'.cell? ⟨M, 3, none⟩ = some (.int .i64 s3) ∧ w'.cell? ⟨T, 0, none⟩ = some (.int .i64 tn) ∧ w'.cell? ⟨T, 1, none⟩ = some (.int .i64 td) ∧ w'.cell? ⟨N, 0, none⟩ = some (.int .i64 kn) ∧ w'.cell? ⟨N, 1, none⟩ = some (.int .i64 kd) ∧ w'.cell? ⟨S, 0, none⟩ = some (.int .i64 ua) ∧ w'.cell? ⟨S, 1, none⟩ = some (.int .i64 ya) ∧ w'.cell? ⟨S, 2, none⟩ = some (.int .i64 va) ∧ w'.cell? ⟨S, 3, none⟩ = some (.int .i64 za) ∧ w'.cell? ⟨R, 0, none⟩ = some (.int .i64 0) ∧ w'.cell? ⟨R, 1, none⟩ = some (.int .i64 xa) ∧ w'.cell? ⟨R, 2, none⟩ = some (.int .i64 1) ∧ w'.cell? ⟨R, 3, none⟩ = some (.int .i64 0) ∧ w'.cell? ⟨b1, 0, none⟩ = some (.int .i64 A) ∧ w'.cell? ⟨b1, 1, none⟩ = some (.int .i64 B) ∧ w'.cell? ⟨b2, 0, none⟩ = some (.int .i64 n0) ∧ w'.cell? ⟨b2, 1, none⟩ = some (.int .i64 n1) ∧ w'.cell? ⟨b2, 2, none⟩ = some (.int .i64 n2) ∧ w'.cell? ⟨b2, 3, none⟩ = some (.int .i64 n3) ∧ w'.cell? ⟨b2, 4, none⟩ = some (.int .i64 n4) := ⟨h.c (M, 0, .int .i64 s0) (by simp), h.c (M, 1, .int .i64 s1) (by simp), h.c (M, 2, .int .i64 s2) (by simp), h.c (M, 3, .int .i64 s3) (by simp), h.c (T, 0, .int .i64 tn) (by simp), h.c (T, 1, .int .i64 td) (by simp), h.c (N, 0, .int .i64 kn) (by simp), h.c (N, 1, .int .i64 kd) (by simp), h.c (S, 0, .int .i64 ua) (by simp), h.c (S, 1, .int .i64 ya) (by simp), h.c (S, 2, .int .i64 va) (by simp), h.c (S, 3, .int .i64 za) (by simp), h.c (R, 0, .int .i64 0) (by simp), h.c (R, 1, .int .i64 xa) (by simp), h.c (R, 2, .int .i64 1) (by simp), h.c (R, 3, .int .i64 0) (by simp), h.c (b1, 0, .int .i64 A) (by simp), h.c (b1, 1, .int .i64 B) (by simp), h.c (b2, 0, .int .i64 n0) (by simp), h.c (b2, 1, .int .i64 n1) (by simp), h.c (b2, 2, .int .i64 n2) (by simp), h.c (b2, 3, .int .i64 n3) (by simp), h.c (b2, 4, .int .i64 n4) (by simp)⟩
theorem K_Tm.zs {A B n0 n1 n2 n3 n4 xa ua ya va za kn kd tn td s0 s1 s2 s3 : Int} {b1 b2 R S N T M : Nat} {w w' : World} (h : K_Tm A B n0 n1 n2 n3 n4 xa ua ya va za kn kd tn td s0 s1 s2 s3 b1 b2 R S N T M w w') : M < w'.heap.size ∧ T < w'.heap.size ∧ N < w'.heap.size ∧ S < w'.heap.size ∧ R < w'.heap.size ∧ b1 < w'.heap.size ∧ b2 < w'.heap.size ∧ True := ⟨KL.z h (x := (M, 0, .int .i64 s0)) (by simp), KL.z h (x := (T, 0, .int .i64 tn)) (by simp), KL.z h (x := (N, 0, .int .i64 kn)) (by simp), KL.z h (x := (S, 0, .int .i64 ua)) (by simp), KL.z h (x := (R, 0, .int .i64 0)) (by simp), KL.z h (x := (b1, 0, .int .i64 A)) (by simp), KL.z h (x := (b2, 0, .int .i64 n0)) (by simp), trivial⟩
theorem K_Tm.ks {A B n0 n1 n2 n3 n4 xa ua ya va za kn kd tn td s0 s1 s2 s3 : Int} {b1 b2 R S N T M : Nat} {w w' : World} (h : K_Tm A B n0 n1 n2 n3 n4 xa ua ya va za kn kd tn td s0 s1 s2 s3 b1 b2 R S N T M w w') : (w'.cell? ⟨M, 0, none⟩ = some (.int .i64 s0) ∧ w'.cell? ⟨M, 1, none⟩ = some (.int .i64 s1) ∧ w'.cell? ⟨M, 2, none⟩ = some (.int .i64 s2) ∧ w'.cell? ⟨M, 3, none⟩ = some (.int .i64 s3) ∧ w'.cell? ⟨T, 0, none⟩ = some (.int .i64 tn) ∧ w'.cell? ⟨T, 1, none⟩ = some (.int .i64 td) ∧ w'.cell? ⟨N, 0, none⟩ = some (.int .i64 kn) ∧ w'.cell? ⟨N, 1, none⟩ = some (.int .i64 kd) ∧ w'.cell? ⟨S, 0, none⟩ = some (.int .i64 ua) ∧ w'.cell? ⟨S, 1, none⟩ = some (.int .i64 ya) ∧ w'.cell? ⟨S, 2, none⟩ = some (.int .i64 va) ∧ w'.cell? ⟨S, 3, none⟩ = some (.int .i64 za) ∧ w'.cell? ⟨R, 0, none⟩ = some (.int .i64 0) ∧ w'.cell? ⟨R, 1, none⟩ = some (.int .i64 xa) ∧ w'.cell? ⟨R, 2, none⟩ = some (.int .i64 1) ∧ w'.cell? ⟨R, 3, none⟩ = some (.int .i64 0) ∧ w'.cell? ⟨b1, 0, none⟩ = some (.int .i64 A) ∧ w'.cell? ⟨b1, 1, none⟩ = some (.int .i64 B) ∧ w'.cell? ⟨b2, 0, none⟩ = some (.int .i64 n0) ∧ w'.cell? ⟨b2, 1, none⟩ = some (.int .i64 n1) ∧ w'.cell? ⟨b2, 2, none⟩ = some (.int .i64 n2) ∧ w'.cell? ⟨b2, 3, none⟩ = some (.int .i64 n3) ∧ w'.cell? ⟨b2, 4, none⟩ = some (.int .i64 n4)) ∧ K_Tm A B n0 n1 n2 n3 n4 xa ua ya va za kn kd tn td s0 s1 s2 s3 b1 b2 R S N T M w w' := ⟨h.cells, h⟩
theorem skip_ways (A B p : Int) (c t : Bool) (n4 : Int) (h : ¬ (chkA A B = 0 ∧ mdE A B p = 0 ∧ t = true ∧ n4 = 1)) : (chkA A B != 0) = true ∨ (chkA A B != 0) = false ∧ ((mdE A B p != 0) = true ∨ (mdE A B p != 0) = false ∧ (t = false ∨ t = true ∧ (n4 != 1) = true)) := by
  by_cases h1 : chkA A B = 0
  · refine .inr ⟨by rw [h1]; rfl, ?_⟩
    by_cases h2 : mdE A B p = 0
    · refine .inr ⟨by rw [h2]; rfl, ?_⟩
      cases t
      · exact .inl rfl
      · refine .inr ⟨rfl, ?_⟩
        rw [bne_iff_ne]; intro h4; exact h ⟨h1, h2, rfl, h4⟩
    · exact .inl (by rw [bne_iff_ne]; exact h2)
  · exact .inl (by rw [bne_iff_ne]; exact h1)
set_option maxHeartbeats 6400000 in
theorem tm_skip (A B p n0 n1 n2 n3 n4 : Int) (w : World) (h : ¬ (chkA A B = 0 ∧ mdE A B p = 0 ∧ tnyB n0 n1 n2 n3 n4 = true ∧ n4 = 1)) :
    Calls Try.prog 5 #[.agg #[.int .i64 A, .int .i64 B], .int .i64 p, .agg #[.int .i64 n0, .int .i64 n1, .int .i64 n2, .int .i64 n3, .int .i64 n4]] w fun e w' => e = .returned (.bool true) ∧ Below w.heap.size w w' := by
  have h' := skip_ways A B p true (tnyB n0 n1 n2 n3 n4) n4 h
  clear h
  have RC := Lib.hid (fun W => rCheck_any A B W)
  have CM := Lib.hid (fun W => CheckModulus_any A B p W)
  have TY := Lib.hid (fun W => tiny_any n0 n1 n2 n3 n4 W)
  generalize chkA A B = d1 at *
  generalize mdE A B p = d2 at *
  generalize tnyB n0 n1 n2 n3 n4 = t at *
  rcases h' with e1 | ⟨e1, e2 | ⟨e2, rfl | ⟨rfl, e3⟩⟩⟩

  · go_enter Try.func5, Try.ntmps5
    go_wp2_with fail
    refine (ramifies_any _).mono ?_
    rintro e w1 ⟨rfl, hb⟩
    have hK : K_Ta A B n0 n1 n2 n3 n4 w.heap.size (w.heap.size + 1) w w1 := K_Ta.below hb ⟨by simp [go_sem], by simp, by simp, by (repeat (first | (with_reducible exact Below.refl _ _) | (with_reducible exact HB.out) | (with_reducible refine below_draws ?_ _) | (with_reducible refine Below.alloc ?_ (by go_size) _) | (with_reducible refine Below.setCell ?_ (by go_size) _) | (with_reducible refine Below.alloc ?_ (by simp <;> omega) _) | (with_reducible refine Below.setCell ?_ (by simp <;> omega) _)))⟩
    clear hb
    obtain ⟨c0_, c1_, c2_, c3_, c4_, c5_, c6_⟩ := K_Ta.cells hK; obtain ⟨z0_, z1_, -⟩ := K_Ta.zs hK; have HK := Lib.hid hK; clear hK
    go_wp2_with fail
    refine (RC.out _).mono ?_
    rintro e w2 ⟨rfl, hb⟩
    clear c0_ c1_ c2_ c3_ c4_ c5_ c6_ z0_ z1_
    have hK := K_Ta.below hb HK.out
    clear hb HK
    obtain ⟨c0_, c1_, c2_, c3_, c4_, c5_, c6_⟩ := K_Ta.cells hK; obtain ⟨z0_, z1_, -⟩ := K_Ta.zs hK; have HK := Lib.hid hK; clear hK
    go_wp2
    go_ret
    exact ⟨by simp, K_Ta.bel HK.out⟩
  · go_enter Try.func5, Try.ntmps5
    go_wp2_with fail
    refine (ramifies_any _).mono ?_
    rintro e w1 ⟨rfl, hb⟩
    have hK : K_Ta A B n0 n1 n2 n3 n4 w.heap.size (w.heap.size + 1) w w1 := K_Ta.below hb ⟨by simp [go_sem], by simp, by simp, by (repeat (first | (with_reducible exact Below.refl _ _) | (with_reducible exact HB.out) | (with_reducible refine below_draws ?_ _) | (with_reducible refine Below.alloc ?_ (by go_size) _) | (with_reducible refine Below.setCell ?_ (by go_size) _) | (with_reducible refine Below.alloc ?_ (by simp <;> omega) _) | (with_reducible refine Below.setCell ?_ (by simp <;> omega) _)))⟩
    clear hb
    obtain ⟨c0_, c1_, c2_, c3_, c4_, c5_, c6_⟩ := K_Ta.cells hK; obtain ⟨z0_, z1_, -⟩ := K_Ta.zs hK; have HK := Lib.hid hK; clear hK
    go_wp2_with fail
    refine (RC.out _).mono ?_
    rintro e w2 ⟨rfl, hb⟩
    clear c0_ c1_ c2_ c3_ c4_ c5_ c6_ z0_ z1_
    have hK := K_Ta.below hb HK.out
    clear hb HK
    obtain ⟨c0_, c1_, c2_, c3_, c4_, c5_, c6_⟩ := K_Ta.cells hK; obtain ⟨z0_, z1_, -⟩ := K_Ta.zs hK; have HK := Lib.hid hK; clear hK
    go_wp2_with fail
    refine (CM.out _).mono ?_
    rintro e w3 ⟨rfl, hb⟩
    clear c0_ c1_ c2_ c3_ c4_ c5_ c6_ z0_ z1_
    have hK := K_Ta.below hb HK.out
    clear hb HK
    obtain ⟨c0_, c1_, c2_, c3_, c4_, c5_, c6_⟩ := K_Ta.cells hK; obtain ⟨z0_, z1_, -⟩ := K_Ta.zs hK; have HK := Lib.hid hK; clear hK
    go_wp2
    go_ret
    exact ⟨by simp, K_Ta.bel HK.out⟩
  · go_enter Try.func5, Try.ntmps5
    go_wp2_with fail
    refine (ramifies_any _).mono ?_
    rintro e w1 ⟨rfl, hb⟩
    have hK : K_Ta A B n0 n1 n2 n3 n4 w.heap.size (w.heap.size + 1) w w1 := K_Ta.below hb ⟨by simp [go_sem], by simp, by simp, by (repeat (first | (with_reducible exact Below.refl _ _) | (with_reducible exact HB.out) | (with_reducible refine below_draws ?_ _) | (with_reducible refine Below.alloc ?_ (by go_size) _) | (with_reducible refine Below.setCell ?_ (by go_size) _) | (with_reducible refine Below.alloc ?_ (by simp <;> omega) _) | (with_reducible refine Below.setCell ?_ (by simp <;> omega) _)))⟩
    clear hb
    obtain ⟨c0_, c1_, c2_, c3_, c4_, c5_, c6_⟩ := K_Ta.cells hK; obtain ⟨z0_, z1_, -⟩ := K_Ta.zs hK; have HK := Lib.hid hK; clear hK
    go_wp2_with fail
    refine (RC.out _).mono ?_
    rintro e w2 ⟨rfl, hb⟩
    clear c0_ c1_ c2_ c3_ c4_ c5_ c6_ z0_ z1_
    have hK := K_Ta.below hb HK.out
    clear hb HK
    obtain ⟨c0_, c1_, c2_, c3_, c4_, c5_, c6_⟩ := K_Ta.cells hK; obtain ⟨z0_, z1_, -⟩ := K_Ta.zs hK; have HK := Lib.hid hK; clear hK
    go_wp2_with fail
    refine (CM.out _).mono ?_
    rintro e w3 ⟨rfl, hb⟩
    clear c0_ c1_ c2_ c3_ c4_ c5_ c6_ z0_ z1_
    have hK := K_Ta.below hb HK.out
    clear hb HK
    obtain ⟨c0_, c1_, c2_, c3_, c4_, c5_, c6_⟩ := K_Ta.cells hK; obtain ⟨z0_, z1_, -⟩ := K_Ta.zs hK; have HK := Lib.hid hK; clear hK
    go_wp2_with fail
    refine (TY.out _).mono ?_
    rintro e w4 ⟨rfl, hb⟩
    clear c0_ c1_ c2_ c3_ c4_ c5_ c6_ z0_ z1_
    have hK := K_Ta.below hb HK.out
    clear hb HK
    obtain ⟨c0_, c1_, c2_, c3_, c4_, c5_, c6_⟩ := K_Ta.cells hK; obtain ⟨z0_, z1_, -⟩ := K_Ta.zs hK; have HK := Lib.hid hK; clear hK
    go_wp2
    go_ret
    exact ⟨by simp, K_Ta.bel HK.out⟩
  · go_enter Try.func5, Try.ntmps5
    go_wp2_with fail
    refine (ramifies_any _).mono ?_
    rintro e w1 ⟨rfl, hb⟩
    have hK : K_Ta A B n0 n1 n2 n3 n4 w.heap.size (w.heap.size + 1) w w1 := K_Ta.below hb ⟨by simp [go_sem], by simp, by simp, by (repeat (first | (with_reducible exact Below.refl _ _) | (with_reducible exact HB.out) | (with_reducible refine below_draws ?_ _) | (with_reducible refine Below.alloc ?_ (by go_size) _) | (with_reducible refine Below.setCell ?_ (by go_size) _) | (with_reducible refine Below.alloc ?_ (by simp <;> omega) _) | (with_reducible refine Below.setCell ?_ (by simp <;> omega) _)))⟩
    clear hb
    obtain ⟨c0_, c1_, c2_, c3_, c4_, c5_, c6_⟩ := K_Ta.cells hK; obtain ⟨z0_, z1_, -⟩ := K_Ta.zs hK; have HK := Lib.hid hK; clear hK
    go_wp2_with fail
    refine (RC.out _).mono ?_
    rintro e w2 ⟨rfl, hb⟩
    clear c0_ c1_ c2_ c3_ c4_ c5_ c6_ z0_ z1_
    have hK := K_Ta.below hb HK.out
    clear hb HK
    obtain ⟨c0_, c1_, c2_, c3_, c4_, c5_, c6_⟩ := K_Ta.cells hK; obtain ⟨z0_, z1_, -⟩ := K_Ta.zs hK; have HK := Lib.hid hK; clear hK
    go_wp2_with fail
    refine (CM.out _).mono ?_
    rintro e w3 ⟨rfl, hb⟩
    clear c0_ c1_ c2_ c3_ c4_ c5_ c6_ z0_ z1_
    have hK := K_Ta.below hb HK.out
    clear hb HK
    obtain ⟨c0_, c1_, c2_, c3_, c4_, c5_, c6_⟩ := K_Ta.cells hK; obtain ⟨z0_, z1_, -⟩ := K_Ta.zs hK; have HK := Lib.hid hK; clear hK
    go_wp2_with fail
    refine (TY.out _).mono ?_
    rintro e w4 ⟨rfl, hb⟩
    clear c0_ c1_ c2_ c3_ c4_ c5_ c6_ z0_ z1_
    have hK := K_Ta.below hb HK.out
    clear hb HK
    obtain ⟨c0_, c1_, c2_, c3_, c4_, c5_, c6_⟩ := K_Ta.cells hK; obtain ⟨z0_, z1_, -⟩ := K_Ta.zs hK; have HK := Lib.hid hK; clear hK
    go_wp2
    go_ret
    exact ⟨by simp, K_Ta.bel HK.out⟩
set_option maxHeartbeats 12800000 in
theorem tm_main (A B p n0 n1 n2 n3 : Int) (w : World) (h : chkA A B = 0) (hm : mdE A B p = 0) (ht : tnyB n0 n1 n2 n3 1 = true) :
    Calls Try.prog 5 #[.agg #[.int .i64 A, .int .i64 B], .int .i64 p, .agg #[.int .i64 n0, .int .i64 n1, .int .i64 n2, .int .i64 n3, .int .i64 1]] w fun e w' => e = .returned (.bool true) ∧ Below w.heap.size w w' := by
  obtain ⟨b1, b2, b3, b4⟩ := chk_bds h
  have hk : (3 ≤ p ∧ p ≤ 10000) ∧ prB p = true ∧ (A.tmod p == 0) = false ∧ (B.tmod p == 0) = false := by
    apply Classical.byContradiction; intro hn
    rw [mdE_no hn] at hm; exact absurd hm (by decide)
  obtain ⟨p3, p4⟩ := hk.1
  clear hk
  have htt := ht
  unfold tnyB at htt
  simp only [Bool.and_eq_true] at htt
  have m0 := Al.withinB_of htt.1
  have m1 := Al.withinB_of htt.2.1
  have m2 := Al.withinB_of htt.2.2.1
  have m3 := Al.withinB_of htt.2.2.2.1
  clear htt
  have hq : chkQ n0 n1 n2 n3 1 = 0 := if_pos (decide_eq_true (by unfold qin; simp only []; omega))
  have RC := Lib.hid (fun W => rCheck_any A B W)
  have CM := Lib.hid (fun W => CheckModulus_any A B p W)
  have TY := Lib.hid (fun W => tiny_any n0 n1 n2 n3 1 W)
  rw [h] at RC
  rw [hm] at CM
  rw [ht] at TY
  have MO := Lib.hid (fun W => Modulo_ok A B p p.toNat (by omega) W h hm)
  have NV := Lib.hid (fun W => Norm_v A B n0 n1 n2 n3 1 W h hq)
  have TV := Lib.hid (fun W => Trace_v n0 n1 n2 n3 1 W hq)
  rw [show (1 : Int) * 1 = 1 from rfl, (fg_one _).1, (fg_one _).2] at NV
  rw [(fg_one _).1, (fg_one _).2] at TV
  have hpp : (0 : Int) < p := by omega
  have R : ∀ t : Int, 0 ≤ t % p ∧ t % p < p := fun t => ⟨Int.emod_nonneg _ (by omega), Int.emod_lt_of_pos t hpp⟩
  have SQ : ∀ t : Int, -3 ≤ t ∧ t ≤ 3 → 0 ≤ t * t ∧ t * t ≤ 9 := fun t h => by
    have h1 : t = -3 ∨ t = -2 ∨ t = -1 ∨ t = 0 ∨ t = 1 ∨ t = 2 ∨ t = 3 := by omega
    rcases h1 with rfl | rfl | rfl | rfl | rfl | rfl | rfl <;> decide
  have nb : -20000000 ≤ nm A B n0 n1 n2 n3 ∧ nm A B n0 n1 n2 n3 ≤ 20000000 := by
    have a1 := mulp (X := 1000) (Y := 9) b3 (y := n1 * n1) (SQ n1 m1)
    have a2 := mulp (X := 1000) (Y := 9) b4 (y := n2 * n2) (SQ n2 m2)
    have a3 := mulp (X := 1000) (Y := 9) b3 (y := n3 * n3) (SQ n3 m3)
    have a4 := mulp (X := 9000) (Y := 1000) a3 (y := 1000) (by omega)
    have a5 := SQ n0 m0
    have a6 : -9000000 ≤ A * B * n3 * n3 ∧ A * B * n3 * n3 ≤ 9000000 := by
      have e : A * B * n3 * n3 = B * (A * (n3 * n3)) := by grind
      rw [e]
      have hB : B.natAbs ≤ 1000 := by omega
      have hA : (A * (n3 * n3)).natAbs ≤ 9000 := by omega
      have e2 : (B * (A * (n3 * n3))).natAbs = B.natAbs * (A * (n3 * n3)).natAbs := Int.natAbs_mul _ _
      have e3 : B.natAbs * (A * (n3 * n3)).natAbs ≤ 1000 * 9000 := Nat.mul_le_mul hB hA
      omega
    unfold nm
    have e1 : A * n1 * n1 = A * (n1 * n1) := Int.mul_assoc _ _ _
    have e2 : B * n2 * n2 = B * (n2 * n2) := Int.mul_assoc _ _ _
    omega
  clear h hm ht hq b1 b2
  have WY : ∀ {t : Int}, 0 ≤ t ∧ t < p → Al.withinB t 0 p = true := fun h => decide_eq_true (by omega)
  have HH := Lib.hid (And.intro R (And.intro nb (And.intro b3 (And.intro b4 (And.intro m0 (And.intro m1 (And.intro m2 (And.intro m3 hpp))))))))
  have HW : Hid (∀ t : Int, 0 ≤ t ∧ t < p → Al.withinB t 0 p = true) := Lib.hid (fun t h => WY h)
  clear SQ R WY nb b3 b4 m0 m1 m2 m3 hpp
  go_enter Try.func5, Try.ntmps5
  go_wp2_with fail
  refine (ramifies_any _).mono ?_
  rintro e w1 ⟨rfl, hb⟩
  have hK : K_Ta A B n0 n1 n2 n3 1 w.heap.size (w.heap.size + 1) w w1 := K_Ta.below hb ⟨by simp [go_sem], by simp, by simp, by (repeat (first | (with_reducible exact Below.refl _ _) | (with_reducible exact HB.out) | (with_reducible refine below_draws ?_ _) | (with_reducible refine Below.alloc ?_ (by go_size) _) | (with_reducible refine Below.setCell ?_ (by go_size) _) | (with_reducible refine Below.alloc ?_ (by simp <;> omega) _) | (with_reducible refine Below.setCell ?_ (by simp <;> omega) _)))⟩
  clear hb
  obtain ⟨c0_, c1_, c2_, c3_, c4_, c5_, c6_⟩ := K_Ta.cells hK; obtain ⟨z0_, z1_, -⟩ := K_Ta.zs hK; have HK := Lib.hid hK; clear hK
  go_wp2_with fail
  refine (RC.out _).mono ?_
  rintro e w2 ⟨rfl, hb⟩
  clear c0_ c1_ c2_ c3_ c4_ c5_ c6_ z0_ z1_
  have hK := K_Ta.below hb HK.out
  clear hb HK
  obtain ⟨c0_, c1_, c2_, c3_, c4_, c5_, c6_⟩ := K_Ta.cells hK; obtain ⟨z0_, z1_, -⟩ := K_Ta.zs hK; have HK := Lib.hid hK; clear hK
  go_wp2_with fail
  refine (CM.out _).mono ?_
  rintro e w3 ⟨rfl, hb⟩
  clear c0_ c1_ c2_ c3_ c4_ c5_ c6_ z0_ z1_
  have hK := K_Ta.below hb HK.out
  clear hb HK
  obtain ⟨c0_, c1_, c2_, c3_, c4_, c5_, c6_⟩ := K_Ta.cells hK; obtain ⟨z0_, z1_, -⟩ := K_Ta.zs hK; have HK := Lib.hid hK; clear hK
  go_wp2_with fail
  refine (TY.out _).mono ?_
  rintro e w4 ⟨rfl, hb⟩
  clear c0_ c1_ c2_ c3_ c4_ c5_ c6_ z0_ z1_
  have hK := K_Ta.below hb HK.out
  clear hb HK
  obtain ⟨c0_, c1_, c2_, c3_, c4_, c5_, c6_⟩ := K_Ta.cells hK; obtain ⟨z0_, z1_, -⟩ := K_Ta.zs hK; have HK := Lib.hid hK; clear hK
  go_wp2_with fail
  refine (MO.out _).mono ?_
  rintro e w5 ⟨⟨u, v, rfl, hu, hv, hd⟩, hb⟩
  clear c0_ c1_ c2_ c3_ c4_ c5_ c6_ z0_ z1_
  have hK := K_Ta.below hb HK.out
  clear hb HK
  obtain ⟨c0_, c1_, c2_, c3_, c4_, c5_, c6_⟩ := K_Ta.cells hK; obtain ⟨z0_, z1_, -⟩ := K_Ta.zs hK; have HK := Lib.hid hK; clear hK
  have HDV := Lib.hid hd
  clear hd
  obtain ⟨R, nb, b3, b4, m0, m1, m2, m3, hpp⟩ := HH.out
  have hd := HDV.out
  have hu' : 0 ≤ (u : Int) ∧ (u : Int) < p := ⟨by omega, hu⟩
  have hv' : 0 ≤ (v : Int) ∧ (v : Int) < p := ⟨by omega, hv⟩
  generalize (u : Int) = u at *
  generalize (v : Int) = v at *
  obtain ⟨x, hx⟩ : ∃ t, A % p = t := ⟨_, rfl⟩
  obtain ⟨y, hy⟩ : ∃ t, -A * v % p = t := ⟨_, rfl⟩
  obtain ⟨z, hz⟩ : ∃ t, -u % p = t := ⟨_, rfl⟩
  rw [hx, hy, hz]
  have rx := R A
  have ry := R (-A * v)
  have rz := R (-u)
  rw [hx] at rx
  rw [hy] at ry
  rw [hz] at rz
  have ML := Lib.hid (fun W => modulo_any n0 n1 n2 n3 1 0 x 1 0 u y v z p W p3 p4 m0 m1 m2 m3 ⟨by omega, by omega⟩ rx ⟨by omega, by omega⟩ ⟨by omega, by omega⟩ hu' ry hv' rz)
  obtain ⟨s0, f0⟩ : ∃ t, (n0 + n1 * 0 + n2 * u + n3 * ((0 * u + x * v) % p)) % p = t := ⟨_, rfl⟩
  obtain ⟨s1, f1⟩ : ∃ t, (n1 * x + n2 * y + n3 * ((0 * y + x * z) % p)) % p = t := ⟨_, rfl⟩
  obtain ⟨s2, f2⟩ : ∃ t, (n1 * 1 + n2 * v + n3 * ((1 * u + 0 * v) % p)) % p = t := ⟨_, rfl⟩
  obtain ⟨s3, f3⟩ : ∃ t, (n0 + n1 * 0 + n2 * z + n3 * ((1 * y + 0 * z) % p)) % p = t := ⟨_, rfl⟩
  obtain ⟨D1, D2⟩ := dets (n0 := n0) (n1 := n1) (n2 := n2) (n3 := n3) hd hx hy hz rfl rfl rfl rfl f0 f1 f2 f3
  rw [f0, f1, f2, f3] at ML
  have g0 := R (n0 + n1 * 0 + n2 * u + n3 * ((0 * u + x * v) % p))
  have g1 := R (n1 * x + n2 * y + n3 * ((0 * y + x * z) % p))
  have g2 := R (n1 * 1 + n2 * v + n3 * ((1 * u + 0 * v) % p))
  have g3 := R (n0 + n1 * 0 + n2 * z + n3 * ((1 * y + 0 * z) % p))
  rw [f0] at g0
  rw [f1] at g1
  rw [f2] at g2
  rw [f3] at g3
  have M1 := mulp (X := 10000) (Y := 10000) (x := s0) (y := s3) ⟨by omega, by omega⟩ ⟨by omega, by omega⟩
  have M2 := mulp (X := 10000) (Y := 10000) (x := s1) (y := s2) ⟨by omega, by omega⟩ ⟨by omega, by omega⟩
  change (s0 * s3 - s1 * s2 - nm A B n0 n1 n2 n3) % p = 0 at D1
  generalize nm A B n0 n1 n2 n3 = kn at *
  have WA := HW.out _ hu'
  have WB := HW.out _ hv'
  have WC := HW.out _ rx
  have WD := HW.out _ ry
  have WE := HW.out _ rz
  have WF : Al.withinB 0 0 p = true := decide_eq_true (by omega)
  have WG : Al.withinB 1 0 p = true := decide_eq_true (by omega)
  have F1 := Lib.hid (IntWalk.i64_in (s0 * s3) (by omega))
  have F2 := Lib.hid (IntWalk.i64_in (s1 * s2) (by omega))
  have F3 := Lib.hid (IntWalk.i64_in (s0 * s3 - s1 * s2) (by omega))
  have F4 := Lib.hid (IntWalk.i64_in (s0 * s3 - s1 * s2 - kn) (by omega))
  have F5 := Lib.hid (IntWalk.i64_in (s0 + s3) (by omega))
  have F6 := Lib.hid (IntWalk.i64_in (s0 + s3 - 2 * n0) (by omega))
  have BX := Lib.hid (fun W => bMod_big (s0 * s3 - s1 * s2 - kn) p W hpp p4 (by omega) (by omega))
  have BY := Lib.hid (fun W => bMod_big (s0 + s3 - 2 * n0) p W hpp p4 (by omega) (by omega))
  rw [D1] at BX
  rw [D2] at BY
  obtain ⟨tn, htn⟩ : ∃ t, 2 * n0 = t := ⟨_, rfl⟩
  rw [htn] at TV BY F6
  clear hu hv hd hu' hv' hx hy hz rx ry rz f0 f1 f2 f3 g0 g1 g2 g3 M1 M2 D1 D2 R nb m0 m1 m2 m3 b3 b4 hpp htn HH HDV HW
  go_wp2_with fail
  have hK : K_Tj A B n0 n1 n2 n3 1 x u y v z w.heap.size (w.heap.size + 1) w5.heap.size (w5.heap.size + 1) w ((w5.alloc (.cells #[.int .i64 0, .int .i64 x, .int .i64 1, .int .i64 0] 57)).alloc (.cells #[.int .i64 u, .int .i64 y, .int .i64 v, .int .i64 z] 57)) := KL.q4 (KL.q4 HK.out 0 x 1 0 _ _ rfl) u y v z _ _ (by simp)
  clear c0_ c1_ c2_ c3_ c4_ c5_ c6_ z0_ z1_
  clear HK
  generalize ((w5.alloc (.cells #[.int .i64 0, .int .i64 x, .int .i64 1, .int .i64 0] 57)).alloc (.cells #[.int .i64 u, .int .i64 y, .int .i64 v, .int .i64 z] 57)) = w6 at hK ⊢
  refine (NV.out _).mono ?_
  rintro e w7 ⟨rfl, hb⟩
  have hK := K_Tj.below hb hK
  clear hb
  obtain ⟨c0_, c1_, c2_, c3_, c4_, c5_, c6_, c7_, c8_, c9_, c10_, c11_, c12_, c13_, c14_⟩ := K_Tj.cells hK; obtain ⟨z0_, z1_, z2_, z3_, -⟩ := K_Tj.zs hK; have HK := Lib.hid hK; clear hK
  go_wp2_with fail
  have hK : K_Tn A B n0 n1 n2 n3 1 x u y v z kn 1 w.heap.size (w.heap.size + 1) w5.heap.size (w5.heap.size + 1) w7.heap.size w (w7.alloc (.cells #[.int .i64 kn, .int .i64 1] 39)) := KL.push2 HK.out kn 1 _ _ rfl
  clear c0_ c1_ c2_ c3_ c4_ c5_ c6_ c7_ c8_ c9_ c10_ c11_ c12_ c13_ c14_ z0_ z1_ z2_ z3_
  clear HK
  generalize w7.alloc (.cells #[.int .i64 kn, .int .i64 1] 39) = w8 at hK ⊢
  refine (TV.out _).mono ?_
  rintro e w9 ⟨rfl, hb⟩
  have hK := K_Tn.below hb hK
  clear hb
  obtain ⟨c0_, c1_, c2_, c3_, c4_, c5_, c6_, c7_, c8_, c9_, c10_, c11_, c12_, c13_, c14_, c15_, c16_⟩ := K_Tn.cells hK; obtain ⟨z0_, z1_, z2_, z3_, z4_, -⟩ := K_Tn.zs hK; have HK := Lib.hid hK; clear hK
  go_wp2_with (go_at_call 23; refine (Within_any _ _ _ _).mono ?_; rintro e w' ⟨rfl, rfl⟩)
  have hK : K_Tt A B n0 n1 n2 n3 1 x u y v z kn 1 tn 1 w.heap.size (w.heap.size + 1) w5.heap.size (w5.heap.size + 1) w7.heap.size w9.heap.size w (w9.alloc (.cells #[.int .i64 tn, .int .i64 1] 39)) := KL.push2 HK.out tn 1 _ _ rfl
  clear c0_ c1_ c2_ c3_ c4_ c5_ c6_ c7_ c8_ c9_ c10_ c11_ c12_ c13_ c14_ c15_ c16_ z0_ z1_ z2_ z3_ z4_
  clear HK
  generalize w9.alloc (.cells #[.int .i64 tn, .int .i64 1] 39) = w10 at hK ⊢
  refine (ML.out _).mono ?_
  rintro e w11 ⟨rfl, hb⟩
  have hK := K_Tt.below hb hK
  clear hb WA WB WC WD WE WF WG
  have hK : K_Tm A B n0 n1 n2 n3 1 x u y v z kn 1 tn 1 s0 s1 s2 s3 w.heap.size (w.heap.size + 1) w5.heap.size (w5.heap.size + 1) w7.heap.size w9.heap.size w11.heap.size w (w11.alloc (.cells #[.int .i64 s0, .int .i64 s1, .int .i64 s2, .int .i64 s3] 62)) := KL.q4 hK s0 s1 s2 s3 _ _ rfl
  obtain ⟨c0_, c1_, c2_, c3_, c4_, c5_, c6_, c7_, c8_, c9_, c10_, c11_, c12_, c13_, c14_, c15_, c16_, c17_, c18_, c19_, c20_, c21_, c22_⟩ := K_Tm.cells hK; obtain ⟨z0_, z1_, z2_, z3_, z4_, z5_, z6_, -⟩ := K_Tm.zs hK; have HK := Lib.hid hK; clear hK
  have f1 := F1.out
  have f2 := F2.out
  have f3 := F3.out
  have f4 := F4.out
  have f5 := F5.out
  have f6 := F6.out
  go_wp2_with (first | (go_at_call 25; (with_reducible refine (BX.out _).mono ?_); rintro e w' ⟨rfl, rfl⟩) | (go_at_call 25; (with_reducible refine (BY.out _).mono ?_); rintro e w' ⟨rfl, rfl⟩))
  go_ret
  exact ⟨by simp, K_Tm.bel HK.out⟩
theorem walk_tm (A B p n0 n1 n2 n3 n4 : Int) (w : World) : Calls Try.prog 5 #[.agg #[.int .i64 A, .int .i64 B], .int .i64 p, .agg #[.int .i64 n0, .int .i64 n1, .int .i64 n2, .int .i64 n3, .int .i64 n4]] w fun e w' => e = .returned (.bool true) ∧ Below w.heap.size w w' := by
  by_cases h : chkA A B = 0 ∧ mdE A B p = 0 ∧ tnyB n0 n1 n2 n3 n4 = true ∧ n4 = 1
  · obtain ⟨h1, h2, h3, rfl⟩ := h
    exact tm_main A B p n0 n1 n2 n3 w h1 h2 h3
  · exact tm_skip A B p n0 n1 n2 n3 n4 w h
end Go.Proofs.Ytgbnmnkgelklbaa.Tm
