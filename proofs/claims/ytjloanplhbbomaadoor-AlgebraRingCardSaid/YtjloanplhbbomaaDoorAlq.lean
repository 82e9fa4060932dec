/-
  Plain mathematics of the law AlgebraRing.
-/
import Derived.Test.YtjloanplhbbomaaDoorLwR
namespace Go.Proofs.YtjloanplhbbomaaDoor.Al
open Alm
set_option linter.unusedVariables false
set_option linter.unusedSimpArgs false
theorem low_mul_l {A B : Int} {p q : Q} (hp : 0 < p.d) (hq : 0 < q.d) : (mulq A B p.low q).low = (mulq A B p q).low := by
  obtain ⟨b, hb, e⟩ := p.lows hp
  have h2 := p.low_pos (by omega)
  rw [← Q.low_mulc (mulq A B p.low q) (Int.ne_of_gt (Int.mul_pos h2 hq)) hb]
  congr 1
  conv => rhs; rw [e]
  generalize p.low = R
  apply Q.ext' <;> simp only [mulq, Q.mulc, pw, px, py, pz] <;> grind
theorem ring_assoc {A B : Int} {p q r : Q} (hp : 0 < p.d) (hq : 0 < q.d) (hr : 0 < r.d) : (mulq A B p (mulq A B q r).low).low = (mulq A B (mulq A B p q).low r).low := by
  rw [low_mul_r hp (q := mulq A B q r) (Int.mul_pos hq hr), low_mul_l (p := mulq A B p q) (Int.mul_pos hp hq) hr, mul_assoc]
theorem ring_dist {A B : Int} {p q r : Q} (hp : 0 < p.d) (hq : 0 < q.d) (hr : 0 < r.d) : (addq (mulq A B p q).low (mulq A B p r).low).low = (mulq A B p (addq q r).low).low := by
  rw [low_mul_r hp (q := addq q r) (Int.mul_pos hq hr), low_add (p := mulq A B p q) (q := mulq A B p r) (Int.mul_pos hp hq) (Int.mul_pos hp hr)]
  rw [← Q.low_mulc (mulq A B p (addq q r)) (Int.ne_of_gt (Int.mul_pos hp (Int.mul_pos hq hr))) hp]
  congr 1
  apply Q.ext' <;> simp only [mulq, addq, Q.mulc, pw, px, py, pz] <;> grind
theorem low_zz : (Q.mk 0 0 0 0 1).low = ⟨0, 0, 0, 0, 1⟩ := by kernel_rfl
theorem low_zero {q : Q} (h0 : q.w = 0) (h1 : q.x = 0) (h2 : q.y = 0) (h3 : q.z = 0) (hd : 0 < q.d) : q.low = ⟨0, 0, 0, 0, 1⟩ := by
  have : q = (Q.mk 0 0 0 0 1).mulc q.d := by
    apply Q.ext' <;> simp only [Q.mulc] <;> omega
  rw [this, Q.low_mulc _ (by decide) hd]
  exact low_zz
theorem low_one : (Q.mk 1 0 0 0 1).low = ⟨1, 0, 0, 0, 1⟩ := by kernel_rfl
theorem sc_one (a b : Int) : scaleq ⟨1, 0, 0, 0, 1⟩ a b = ⟨a, 0, 0, 0, b⟩ := by
  apply Q.ext' <;> simp only [scaleq] <;> omega
theorem sc_low {a b : Int} (hb : 0 < b) : (scaleq ⟨1, 0, 0, 0, 1⟩ (fn a b) (fd a b)).low = (Q.mk a 0 0 0 b).low := by
  rw [sc_one, ← low_two, Q.low_low _ hb]
theorem mul_zero_low {A B : Int} {p : Q} (hp : 0 < p.d) : (mulq A B ⟨0, 0, 0, 0, 1⟩ p).low = ⟨0, 0, 0, 0, 1⟩ :=
  low_zero (by simp [mulq, pw]) (by simp [mulq, px]) (by simp [mulq, py]) (by simp [mulq, pz]) (by simpa [mulq] using hp)
theorem mul_one_low {A B : Int} {p : Q} : mulq A B ⟨1, 0, 0, 0, 1⟩ p = p := by
  apply Q.ext' <;> simp [mulq, pw, px, py, pz]
theorem add_zero_one : (addq ⟨0, 0, 0, 0, 1⟩ ⟨1, 0, 0, 0, 1⟩).low = ⟨1, 0, 0, 0, 1⟩ := by kernel_rfl
/-- an element is a root of its minimal polynomial -/
theorem ring_root {A B : Int} {p : Q} (hp : 0 < p.d) :
    (addq (mulq A B (addq p.low (Q.mk (-2 * p.w) 0 0 0 p.d).low).low p).low (Q.mk (nm A B p.w p.x p.y p.z) 0 0 0 (p.d * p.d)).low).low = ⟨0, 0, 0, 0, 1⟩ := by
  have h2 : 0 < (addq p (Q.mk (-2 * p.w) 0 0 0 p.d)).d := Int.mul_pos hp hp
  rw [low_add (q := Q.mk (-2 * p.w) 0 0 0 p.d) hp hp, low_mul_l h2 hp, low_add (Int.mul_pos h2 hp) (q := Q.mk (nm A B p.w p.x p.y p.z) 0 0 0 (p.d * p.d)) (Int.mul_pos hp hp)]
  refine low_zero ?_ ?_ ?_ ?_ (Int.mul_pos (Int.mul_pos h2 hp) (Int.mul_pos hp hp)) <;> simp only [mulq, addq, nm, pw, px, py, pz] <;> grind
theorem ring_root_rat {n0 d : Int} (hp : 0 < d) : (addq (Q.mk n0 0 0 0 d).low (Q.mk (-n0) 0 0 0 d).low).low = ⟨0, 0, 0, 0, 1⟩ := by
  rw [low_add (p := Q.mk n0 0 0 0 d) (q := Q.mk (-n0) 0 0 0 d) hp hp]
  refine low_zero ?_ ?_ ?_ ?_ (Int.mul_pos hp hp) <;> simp only [addq] <;> grind
/-- numbers of at most K, a denominator of at most D -/
def tB (K D : Nat) (q : Q) : Prop := Bn K q.w ∧ Bn K q.x ∧ Bn K q.y ∧ Bn K q.z ∧ 1 ≤ q.d ∧ q.d ≤ D
theorem tB_low {K D : Nat} {q : Q} (h : tB K D q) : tB K D q.low := by
  obtain ⟨h0, h1, h2, h3, h4, h5⟩ := h
  have hp := q.low_pos (by omega)
  have b0 := tdiv_bd q.w (gs q.w q.x q.y q.z q.d)
  have b1 := tdiv_bd q.x (gs q.w q.x q.y q.z q.d)
  have b2 := tdiv_bd q.y (gs q.w q.x q.y q.z q.d)
  have b3 := tdiv_bd q.z (gs q.w q.x q.y q.z q.d)
  have b4 := tdiv_bd q.d (gs q.w q.x q.y q.z q.d)
  unfold tB
  unfold Q.low at hp ⊢
  simp only [] at hp ⊢
  refine ⟨⟨?_, ?_⟩, ⟨?_, ?_⟩, ⟨?_, ?_⟩, ⟨?_, ?_⟩, ?_, ?_⟩ <;> omega
theorem tB_qB {K D : Nat} {q : Q} (h : tB K D q) (hK : K ≤ 1000000) (hD : D ≤ 1000000) : qB q = true := by
  obtain ⟨h0, h1, h2, h3, h4, h5⟩ := h
  refine decide_eq_true ?_
  unfold qin
  omega
theorem tB_chk {K D : Nat} {q : Q} (h : tB K D q) (hK : K ≤ 1000000) (hD : D ≤ 1000000) : chkQ q.w q.x q.y q.z q.d = 0 := by
  unfold chkQ; rw [if_pos (tB_qB h hK hD)]
theorem tB_mul {A B : Int} {p q : Q} {K D : Nat} (hA : Bn 20 A) (hB : Bn 20 B) (hp : tB 3 3 p) (hq : tB K D q) : tB (1323 * K) (3 * D) (mulq A B p q) ∧ tB (1323 * K) (3 * D) (mulq A B q p) := by
  obtain ⟨h0, h1, h2, h3, h4, h5⟩ := hp
  obtain ⟨k0, k1, k2, k3, k4, k5⟩ := hq
  have a1 := Bn.mul _ h0 k0 rfl
  have a3 := Bn.mul _ (Bn.mul 60 hA h1 rfl) k1 rfl
  have a5 := Bn.mul _ (Bn.mul 60 hB h2 rfl) k2 rfl
  have a8 := Bn.mul _ (Bn.mul 1200 (Bn.mul 400 hA hB rfl) h3 rfl) k3 rfl
  have b1 := Bn.mul _ h0 k1 rfl
  have b2 := Bn.mul _ h1 k0 rfl
  have b3 := Bn.mul _ h3 k2 rfl
  have b4 := Bn.mul _ h2 k3 rfl
  have t5 : Bn (6 * K) (p.z * q.y - p.y * q.z) := ⟨by omega, by omega⟩
  have b5 := Bn.mul _ hB t5 rfl
  have c1 := Bn.mul _ h0 k2 rfl
  have c2 := Bn.mul _ h2 k0 rfl
  have c3 := Bn.mul _ h1 k3 rfl
  have c4 := Bn.mul _ h3 k1 rfl
  have t6 : Bn (6 * K) (p.x * q.z - p.z * q.x) := ⟨by omega, by omega⟩
  have c5 := Bn.mul _ hA t6 rfl
  have d1 := Bn.mul _ h0 k3 rfl
  have d2 := Bn.mul _ h3 k0 rfl
  have d3 := Bn.mul _ h1 k2 rfl
  have d4 := Bn.mul _ h2 k1 rfl
  have dd := Bn.mul (m := 3) (n := D) (a := p.d) (b := q.d) _ ⟨by omega, by omega⟩ ⟨by omega, by omega⟩ rfl
  have dp : 0 < p.d * q.d := Int.mul_pos (by omega) (by omega)
  have ew : pw A B q.w q.x q.y q.z p.w p.x p.y p.z = pw A B p.w p.x p.y p.z q.w q.x q.y q.z := by unfold pw; grind
  have ex : px B q.w q.x q.y q.z p.w p.x p.y p.z = p.w * q.x + p.x * q.w - B * (p.z * q.y - p.y * q.z) := by unfold px; grind
  have ey : py A q.w q.x q.y q.z p.w p.x p.y p.z = p.w * q.y + p.y * q.w - A * (p.x * q.z - p.z * q.x) := by unfold py; grind
  have ez : pz q.w q.x q.y q.z p.w p.x p.y p.z = p.w * q.z + p.z * q.w - p.x * q.y + p.y * q.x := by unfold pz; grind
  have ed : q.d * p.d = p.d * q.d := Int.mul_comm _ _
  constructor
  · unfold tB mulq pw px py pz
    simp only []
    refine ⟨⟨?_, ?_⟩, ⟨?_, ?_⟩, ⟨?_, ?_⟩, ⟨?_, ?_⟩, ?_, ?_⟩ <;> omega
  · unfold tB mulq
    simp only []
    rw [ew, ex, ey, ez, ed]
    unfold pw
    refine ⟨⟨?_, ?_⟩, ⟨?_, ?_⟩, ⟨?_, ?_⟩, ⟨?_, ?_⟩, ?_, ?_⟩ <;> omega
theorem tB_add {p q : Q} {K D L E : Nat} (k : Nat) (hk : K * E + L * D = k) (e : Nat) (he : D * E = e) (hp : tB K D p) (hq : tB L E q) : tB k e (addq p q) := by
  obtain ⟨h0, h1, h2, h3, h4, h5⟩ := hp
  obtain ⟨k0, k1, k2, k3, k4, k5⟩ := hq
  have hd : Bn D p.d := ⟨by omega, by omega⟩
  have hf : Bn E q.d := ⟨by omega, by omega⟩
  have a0 := Bn.mul _ h0 hf rfl
  have a1 := Bn.mul _ h1 hf rfl
  have a2 := Bn.mul _ h2 hf rfl
  have a3 := Bn.mul _ h3 hf rfl
  have b0 := Bn.mul _ k0 hd rfl
  have b1 := Bn.mul _ k1 hd rfl
  have b2 := Bn.mul _ k2 hd rfl
  have b3 := Bn.mul _ k3 hd rfl
  have dd := Bn.mul _ hd hf rfl
  have dp : 0 < p.d * q.d := Int.mul_pos (by omega) (by omega)
  subst hk
  subst he
  unfold tB addq
  simp only []
  generalize K * E = u at *
  generalize L * D = v at *
  generalize D * E = z at *
  refine ⟨⟨?_, ?_⟩, ⟨?_, ?_⟩, ⟨?_, ?_⟩, ⟨?_, ?_⟩, ?_, ?_⟩ <;> omega
/-- the size of a product of two -/
def midB (q : Q) : Prop := Bn 3969 q.w ∧ Bn 378 q.x ∧ Bn 378 q.y ∧ Bn 36 q.z ∧ 1 ≤ q.d ∧ q.d ≤ 9
theorem mid_low {q : Q} (h : midB q) : midB q.low := by
  obtain ⟨h0, h1, h2, h3, h4, h5⟩ := h
  have hp := q.low_pos (by omega)
  have b0 := tdiv_bd q.w (gs q.w q.x q.y q.z q.d)
  have b1 := tdiv_bd q.x (gs q.w q.x q.y q.z q.d)
  have b2 := tdiv_bd q.y (gs q.w q.x q.y q.z q.d)
  have b3 := tdiv_bd q.z (gs q.w q.x q.y q.z q.d)
  have b4 := tdiv_bd q.d (gs q.w q.x q.y q.z q.d)
  unfold midB
  unfold Q.low at hp ⊢
  simp only [] at hp ⊢
  refine ⟨⟨?_, ?_⟩, ⟨?_, ?_⟩, ⟨?_, ?_⟩, ⟨?_, ?_⟩, ?_, ?_⟩ <;> omega
theorem mid_mk {A B : Int} {p q : Q} (hA : Bn 20 A) (hB : Bn 20 B) (hp : tB 3 3 p) (hq : tB 3 3 q) : midB (mulq A B p q) := by
  obtain ⟨h0, h1, h2, h3, h4, h5⟩ := hp
  obtain ⟨k0, k1, k2, k3, k4, k5⟩ := hq
  have a1 := Bn.mul 9 h0 k0 rfl
  have a3 := Bn.mul 180 (Bn.mul 60 hA h1 rfl) k1 rfl
  have a5 := Bn.mul 180 (Bn.mul 60 hB h2 rfl) k2 rfl
  have a8 := Bn.mul 3600 (Bn.mul 1200 (Bn.mul 400 hA hB rfl) h3 rfl) k3 rfl
  have b1 := Bn.mul 9 h0 k1 rfl
  have b2 := Bn.mul 9 h1 k0 rfl
  have b3 := Bn.mul 9 h3 k2 rfl
  have b4 := Bn.mul 9 h2 k3 rfl
  have t5 : Bn 18 (p.z * q.y - p.y * q.z) := ⟨by omega, by omega⟩
  have b5 := Bn.mul 360 hB t5 rfl
  have c1 := Bn.mul 9 h0 k2 rfl
  have c2 := Bn.mul 9 h2 k0 rfl
  have c3 := Bn.mul 9 h1 k3 rfl
  have c4 := Bn.mul 9 h3 k1 rfl
  have t6 : Bn 18 (p.x * q.z - p.z * q.x) := ⟨by omega, by omega⟩
  have c5 := Bn.mul 360 hA t6 rfl
  have d1 := Bn.mul 9 h0 k3 rfl
  have d2 := Bn.mul 9 h3 k0 rfl
  have d3 := Bn.mul 9 h1 k2 rfl
  have d4 := Bn.mul 9 h2 k1 rfl
  have dd := Bn.mul (m := 3) (n := 3) (a := p.d) (b := q.d) 9 ⟨by omega, by omega⟩ ⟨by omega, by omega⟩ rfl
  have dp : 0 < p.d * q.d := Int.mul_pos (by omega) (by omega)
  unfold midB mulq pw px py pz
  simp only []
  refine ⟨⟨?_, ?_⟩, ⟨?_, ?_⟩, ⟨?_, ?_⟩, ⟨?_, ?_⟩, ?_, ?_⟩ <;> omega
theorem mid_tB {q : Q} (h : midB q) : tB 3969 9 q := by
  obtain ⟨h0, h1, h2, h3, h4, h5⟩ := h
  refine ⟨⟨?_, ?_⟩, ⟨?_, ?_⟩, ⟨?_, ?_⟩, ⟨?_, ?_⟩, ?_, ?_⟩ <;> omega
theorem mid_mul {A B : Int} {p q : Q} (hA : Bn 20 A) (hB : Bn 20 B) (hp : tB 3 3 p) (hq : midB q) : qB (mulq A B p q) = true ∧ qB (mulq A B q p) = true := by
  obtain ⟨h0, h1, h2, h3, h4, h5⟩ := hp
  obtain ⟨k0, k1, k2, k3, k4, k5⟩ := hq
  have a1 := Bn.mul _ h0 k0 rfl
  have a3 := Bn.mul _ (Bn.mul 60 hA h1 rfl) k1 rfl
  have a5 := Bn.mul _ (Bn.mul 60 hB h2 rfl) k2 rfl
  have a8 := Bn.mul _ (Bn.mul 1200 (Bn.mul 400 hA hB rfl) h3 rfl) k3 rfl
  have b1 := Bn.mul _ h0 k1 rfl
  have b2 := Bn.mul _ h1 k0 rfl
  have b3 := Bn.mul _ h3 k2 rfl
  have b4 := Bn.mul _ h2 k3 rfl
  have t5 : Bn 1300 (p.z * q.y - p.y * q.z) := ⟨by omega, by omega⟩
  have b5 := Bn.mul _ hB t5 rfl
  have c1 := Bn.mul _ h0 k2 rfl
  have c2 := Bn.mul _ h2 k0 rfl
  have c3 := Bn.mul _ h1 k3 rfl
  have c4 := Bn.mul _ h3 k1 rfl
  have t6 : Bn 1300 (p.x * q.z - p.z * q.x) := ⟨by omega, by omega⟩
  have c5 := Bn.mul _ hA t6 rfl
  have d1 := Bn.mul _ h0 k3 rfl
  have d2 := Bn.mul _ h3 k0 rfl
  have d3 := Bn.mul _ h1 k2 rfl
  have d4 := Bn.mul _ h2 k1 rfl
  have dd := Bn.mul (m := 3) (n := 9) (a := p.d) (b := q.d) _ ⟨by omega, by omega⟩ ⟨by omega, by omega⟩ rfl
  have dp : 0 < p.d * q.d := Int.mul_pos (by omega) (by omega)
  have ew : pw A B q.w q.x q.y q.z p.w p.x p.y p.z = pw A B p.w p.x p.y p.z q.w q.x q.y q.z := by unfold pw; grind
  have ex : px B q.w q.x q.y q.z p.w p.x p.y p.z = p.w * q.x + p.x * q.w - B * (p.z * q.y - p.y * q.z) := by unfold px; grind
  have ey : py A q.w q.x q.y q.z p.w p.x p.y p.z = p.w * q.y + p.y * q.w - A * (p.x * q.z - p.z * q.x) := by unfold py; grind
  have ez : pz q.w q.x q.y q.z p.w p.x p.y p.z = p.w * q.z + p.z * q.w - p.x * q.y + p.y * q.x := by unfold pz; grind
  have ed : q.d * p.d = p.d * q.d := Int.mul_comm _ _
  constructor
  · refine decide_eq_true ?_
    unfold qin mulq pw px py pz
    simp only []
    omega
  · refine decide_eq_true ?_
    unfold qin mulq
    simp only []
    rw [ew, ex, ey, ez, ed]
    unfold pw
    omega
end Go.Proofs.YtjloanplhbbomaaDoor.Al
