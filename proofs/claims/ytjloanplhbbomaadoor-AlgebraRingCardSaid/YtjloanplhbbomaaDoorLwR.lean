/-
  WALK of the law AlgebraMultiplies: it returns true for all arguments.
-/
import Derived.Test.YtjloanplhbbomaaDoorLwM
import Derived.Test.YtjloanplhbbomaaDoorAln
import Derived.Test.YtjloanplhbbomaaDoorAlN
namespace Go.Proofs.YtjloanplhbbomaaDoor.Al
open Go.RowKit
open Alm
set_option linter.unusedVariables false
set_option linter.unusedSimpArgs false
set_option maxRecDepth 100000
def tiny (q : Q) : Prop := Bn 3 q.w ∧ Bn 3 q.x ∧ Bn 3 q.y ∧ Bn 3 q.z ∧ 1 ≤ q.d ∧ q.d ≤ 3
theorem tiny_chk {q : Q} (h : tiny q) : chkQ q.w q.x q.y q.z q.d = 0 := by
  obtain ⟨h0, h1, h2, h3, h4, h5⟩ := h
  unfold chkQ
  rw [if_pos]
  refine decide_eq_true ?_
  unfold qin
  simp only []
  omega
theorem tiny_low {q : Q} (h : tiny q) : tiny q.low := by
  obtain ⟨h0, h1, h2, h3, h4, h5⟩ := h
  have hp := q.low_pos (by omega)
  have b0 := tdiv_bd q.w (gs q.w q.x q.y q.z q.d)
  have b1 := tdiv_bd q.x (gs q.w q.x q.y q.z q.d)
  have b2 := tdiv_bd q.y (gs q.w q.x q.y q.z q.d)
  have b3 := tdiv_bd q.z (gs q.w q.x q.y q.z q.d)
  have b4 := tdiv_bd q.d (gs q.w q.x q.y q.z q.d)
  unfold tiny
  unfold Q.low at hp ⊢
  simp only [] at hp ⊢
  refine ⟨⟨?_, ?_⟩, ⟨?_, ?_⟩, ⟨?_, ?_⟩, ⟨?_, ?_⟩, ?_, ?_⟩ <;> omega
theorem tiny_conj {q : Q} (h : tiny q) : tiny (conjq q) := by
  obtain ⟨h0, h1, h2, h3, h4, h5⟩ := h
  unfold tiny conjq
  simp only []
  refine ⟨h0, ⟨?_, ?_⟩, ⟨?_, ?_⟩, ⟨?_, ?_⟩, h4, h5⟩ <;> omega
theorem tiny_mul {A B : Int} {p q : Q} (hA : Bn 20 A) (hB : Bn 20 B) (hp : tiny p) (hq : tiny q) : qB (mulq A B p q) = true := by
  obtain ⟨h0, h1, h2, h3, h4, h5⟩ := hp
  obtain ⟨k0, k1, k2, k3, k4, k5⟩ := hq
  have a1 := Bn.mul 9 h0 k0 rfl
  have a3 := Bn.mul 180 (Bn.mul 60 hA h1 rfl) k1 rfl
  have a5 := Bn.mul 180 (Bn.mul 60 hB h2 rfl) k2 rfl
  have a8 := Bn.mul 3600 (Bn.mul 1200 (Bn.mul 400 hA hB rfl) h3 rfl) k3 rfl
  have b1 := Bn.mul 9 h0 k1 rfl
  have b2 := Bn.mul 9 h1 k0 rfl
  have b3 := Bn.mul 9 h3 k2 rfl
  have b4 := Bn.mul 9 h2 k3 rfl
  have t5 : Bn 18 (p.z * q.y - p.y * q.z) := ⟨by omega, by omega⟩
  have b5 := Bn.mul 360 hB t5 rfl
  have c1 := Bn.mul 9 h0 k2 rfl
  have c2 := Bn.mul 9 h2 k0 rfl
  have c3 := Bn.mul 9 h1 k3 rfl
  have c4 := Bn.mul 9 h3 k1 rfl
  have t6 : Bn 18 (p.x * q.z - p.z * q.x) := ⟨by omega, by omega⟩
  have c5 := Bn.mul 360 hA t6 rfl
  have d1 := Bn.mul 9 h0 k3 rfl
  have d2 := Bn.mul 9 h3 k0 rfl
  have d3 := Bn.mul 9 h1 k2 rfl
  have d4 := Bn.mul 9 h2 k1 rfl
  have dd := Bn.mul (m := 3) (n := 3) (a := p.d) (b := q.d) 9 ⟨by omega, by omega⟩ ⟨by omega, by omega⟩ rfl
  have dp : 0 < p.d * q.d := Int.mul_pos (by omega) (by omega)
  refine decide_eq_true ?_
  unfold qin mulq pw px py pz
  simp only []
  omega
theorem Mul_low {A B : Int} {p q : Q} (w : World) (hA : chkA A B = 0) (hp : chkQ p.w p.x p.y p.z p.d = 0) (hq : chkQ q.w q.x q.y q.z q.d = 0) (hm : qB (mulq A B p q) = true) (s : Q) (hs : (mulq A B p q).low = s) :
    Calls Tryd.prog 28 #[.agg #[.int .i64 A, .int .i64 B], .agg #[.int .i64 (p).w, .int .i64 (p).x, .int .i64 (p).y, .int .i64 (p).z, .int .i64 (p).d], .agg #[.int .i64 (q).w, .int .i64 (q).x, .int .i64 (q).y, .int .i64 (q).z, .int .i64 (q).d]] w fun e w' => e = .returned (.tuple #[.agg #[.int .i64 (s).w, .int .i64 (s).x, .int .i64 (s).y, .int .i64 (s).z, .int .i64 (s).d], .int .i64 0]) ∧ Below w.heap.size w w' := by
  have he : err3 A B p.w p.x p.y p.z p.d q.w q.x q.y q.z q.d = 0 := by unfold err3; exact or2_ok hA (or2_ok hp hq)
  have h := Mul_ok A B p.w p.x p.y p.z p.d q.w q.x q.y q.z q.d w he
  have h1 : fitQ (mulq A B ⟨p.w, p.x, p.y, p.z, p.d⟩ ⟨q.w, q.x, q.y, q.z, q.d⟩) = s := (fit_low hm).1.trans hs
  have h2 : fitE (mulq A B ⟨p.w, p.x, p.y, p.z, p.d⟩ ⟨q.w, q.x, q.y, q.z, q.d⟩) = 0 := (fit_low hm).2
  rw [h1, h2] at h
  exact h
theorem fd_small {a b : Int} (hb : 0 < b) : 0 < fd a b ∧ fd a b ≤ b := by
  refine ⟨fd_pos hb, ?_⟩
  have := tdiv_bd b (fg a b)
  unfold fd; omega
theorem fn_small (a b : Int) : -(a.natAbs : Int) ≤ fn a b ∧ fn a b ≤ a.natAbs := tdiv_bd a (fg a b)
theorem nm_small {A B : Int} {q : Q} (hA : Bn 20 A) (hB : Bn 20 B) (h : tiny q) : Bn 4000 (nm A B q.w q.x q.y q.z) := by
  obtain ⟨h0, h1, h2, h3, h4, h5⟩ := h
  have a1 := Bn.mul 9 h0 h0 rfl
  have a3 := Bn.mul 180 (Bn.mul 60 hA h1 rfl) h1 rfl
  have a5 := Bn.mul 180 (Bn.mul 60 hB h2 rfl) h2 rfl
  have a8 := Bn.mul 3600 (Bn.mul 1200 (Bn.mul 400 hA hB rfl) h3 rfl) h3 rfl
  unfold nm Bn
  omega
theorem walk_multiplies (A B n0 n1 n2 n3 d m0 m1 m2 m3 f : Int) (w : World) : Calls Tryd.prog 9 #[.agg #[.int .i64 A, .int .i64 B], .agg #[.int .i64 n0, .int .i64 n1, .int .i64 n2, .int .i64 n3, .int .i64 d], .agg #[.int .i64 m0, .int .i64 m1, .int .i64 m2, .int .i64 m3, .int .i64 f]] w fun e w' => e = .returned (.bool true) ∧ Below w.heap.size w w' := by
  rcases hl : litB A B with _ | _
  · exact mult_not_little A B n0 n1 n2 n3 d m0 m1 m2 m3 f w hl
  rcases hs : (smB n0 n1 n2 n3 d && smB m0 m1 m2 m3 f) with _ | _
  · exact mult_not_small A B n0 n1 n2 n3 d m0 m1 m2 m3 f w hl hs
  have hl' := hl
  unfold litB at hl'
  simp only [Bool.and_eq_true, beq_iff_eq] at hl'
  obtain ⟨hA, hA20, hB20⟩ := hl'
  have hA20 : Bn 20 A := withinB_of hA20
  have hB20 : Bn 20 B := withinB_of hB20
  have hs' := hs
  rw [Bool.and_eq_true] at hs'
  obtain ⟨sp, sq⟩ := hs'
  obtain ⟨p0, p1, p2, p3, p4⟩ := smB_yes sp
  obtain ⟨q0, q1, q2, q3, q4⟩ := smB_yes sq
  have tp : tiny ⟨n0, n1, n2, n3, d⟩ := ⟨withinB_of p0, withinB_of p1, withinB_of p2, withinB_of p3, (withinB_of p4).1, (withinB_of p4).2⟩
  have tq : tiny ⟨m0, m1, m2, m3, f⟩ := ⟨withinB_of q0, withinB_of q1, withinB_of q2, withinB_of q3, (withinB_of q4).1, (withinB_of q4).2⟩
  clear sp sq p0 p1 p2 p3 p4 q0 q1 q2 q3 q4
  have cp := tiny_chk tp
  have cq := tiny_chk tq
  have tcp := tiny_low (tiny_conj tp)
  have tcq := tiny_low (tiny_conj tq)
  have mq := tiny_mul hA20 hB20 tp tq
  have my := tiny_mul hA20 hB20 tcq tcp
  have mp := tiny_mul hA20 hB20 tp tcp
  obtain ⟨s, hsE⟩ : ∃ s, (mulq A B ⟨n0, n1, n2, n3, d⟩ ⟨m0, m1, m2, m3, f⟩).low = s := ⟨_, rfl⟩
  have cs : chkQ s.w s.x s.y s.z s.d = 0 := by
    have := low_fits mq
    rw [hsE] at this
    unfold chkQ; rw [if_pos this]
  have dp : (0 : Int) < d := by have := tp.2.2.2.2.1; simp only [] at this; omega
  have dq : (0 : Int) < f := by have := tq.2.2.2.2.1; simp only [] at this; omega
  obtain ⟨x, hx⟩ : ∃ x, (conjq ⟨n0, n1, n2, n3, d⟩).low = x := ⟨_, rfl⟩
  obtain ⟨y, hy⟩ : ∃ y, (conjq ⟨m0, m1, m2, m3, f⟩).low = y := ⟨_, rfl⟩
  obtain ⟨r, hr⟩ : ∃ r, (conjq s).low = r := ⟨_, rfl⟩
  have hyx : (mulq A B y x).low = r := by
    rw [← hy, ← hx, ← hr, ← hsE]
    exact mult_yx (p := ⟨n0, n1, n2, n3, d⟩) (q := ⟨m0, m1, m2, m3, f⟩) dp dq
  have hpx := mult_px (A := A) (B := B) (p := ⟨n0, n1, n2, n3, d⟩) dp
  rw [hx] at hpx
  rw [hx] at tcp mp my
  rw [hy] at tcq my
  obtain ⟨u0, hu0⟩ : ∃ u, fn (nm A B n0 n1 n2 n3) (d * d) = u := ⟨_, rfl⟩
  obtain ⟨u1, hu1⟩ : ∃ u, fd (nm A B n0 n1 n2 n3) (d * d) = u := ⟨_, rfl⟩
  obtain ⟨v0, hv0⟩ : ∃ u, fn (nm A B m0 m1 m2 m3) (f * f) = u := ⟨_, rfl⟩
  obtain ⟨v1, hv1⟩ : ∃ u, fd (nm A B m0 m1 m2 m3) (f * f) = u := ⟨_, rfl⟩
  obtain ⟨k0, hk0⟩ : ∃ u, fn (nm A B s.w s.x s.y s.z) (s.d * s.d) = u := ⟨_, rfl⟩
  obtain ⟨k1, hk1⟩ : ∃ u, fd (nm A B s.w s.x s.y s.z) (s.d * s.d) = u := ⟨_, rfl⟩
  have hnm := mult_nm (A := A) (B := B) (p := ⟨n0, n1, n2, n3, d⟩) (q := ⟨m0, m1, m2, m3, f⟩) dp dq hu0 hu1 hv0 hv1 s hsE
  rw [hk0, hk1] at hnm
  simp only [] at hpx
  rw [hu0, hu1] at hpx
  have nu := nm_small hA20 hB20 tp
  have nv := nm_small hA20 hB20 tq
  simp only [] at nu nv
  have fu := fn_small (nm A B n0 n1 n2 n3) (d * d)
  have fv := fn_small (nm A B m0 m1 m2 m3) (f * f)
  have du : d * d ≤ 9 := by have := (Bn.mul (m := 3) (n := 3) (a := d) (b := d) 9 ⟨by omega, tp.2.2.2.2.2⟩ ⟨by omega, tp.2.2.2.2.2⟩ rfl).2; simpa using this
  have dv : f * f ≤ 9 := by have := (Bn.mul (m := 3) (n := 3) (a := f) (b := f) 9 ⟨by omega, tq.2.2.2.2.2⟩ ⟨by omega, tq.2.2.2.2.2⟩ rfl).2; simpa using this
  have gu := fd_small (a := nm A B n0 n1 n2 n3) (b := d * d) (Int.mul_pos dp dp)
  have gv := fd_small (a := nm A B m0 m1 m2 m3) (b := f * f) (Int.mul_pos dq dq)
  rw [hu0] at fu
  rw [hv0] at fv
  rw [hu1] at gu
  rw [hv1] at gv
  have b0 : Bn 16000000 (u0 * v0) := Bn.mul (m := 4000) (n := 4000) 16000000 ⟨by omega, by omega⟩ ⟨by omega, by omega⟩ rfl
  have b1 : Bn 81 (u1 * v1) := Bn.mul (m := 9) (n := 9) 81 ⟨by omega, by omega⟩ ⟨by omega, by omega⟩ rfl
  have b2 : 0 < u1 * v1 := Int.mul_pos gu.1 gv.1
  have e1 := Lib.hid (IntWalk.i64_in (u0 * v0) ⟨by omega, by omega⟩)
  have e2 := Lib.hid (IntWalk.i64_in (u1 * v1) ⟨by omega, by omega⟩)
  refine mult_main A B n0 n1 n2 n3 d m0 m1 m2 m3 f s.w s.x s.y s.z s.d u0 u1 v0 v1 k0 k1 x.w x.x x.y x.z x.d y.w y.x y.y y.z y.d r.w r.x r.y r.z r.d w hl hs ?_ ?_ ?_ ?_ ?_ ?_ ?_ ?_ ?_ ?_ (by rw [beq_eq_false_iff_ne]; omega) (by rw [beq_eq_false_iff_ne]; omega) e1 e2
  · exact Lib.hid fun W => Mul_low (p := ⟨n0, n1, n2, n3, d⟩) (q := ⟨m0, m1, m2, m3, f⟩) W hA cp cq mq s hsE
  · have := Lib.hid fun W => Norm_v A B n0 n1 n2 n3 d W hA cp
    rw [hu0, hu1] at this; exact this
  · have := Lib.hid fun W => Norm_v A B m0 m1 m2 m3 f W hA cq
    rw [hv0, hv1] at this; exact this
  · have := Lib.hid fun W => Norm_v A B s.w s.x s.y s.z s.d W hA cs
    rw [hk0, hk1] at this; exact this
  · have := Lib.hid fun W => Conj_v n0 n1 n2 n3 d W cp
    rw [show (Q.mk n0 (-n1) (-n2) (-n3) d).low = x from hx] at this; exact this
  · have := Lib.hid fun W => Conj_v m0 m1 m2 m3 f W cq
    rw [show (Q.mk m0 (-m1) (-m2) (-m3) f).low = y from hy] at this; exact this
  · exact Lib.hid fun W => Mul_low (p := y) (q := x) W hA (tiny_chk tcq) (tiny_chk tcp) my r hyx
  · have := Lib.hid fun W => Conj_v s.w s.x s.y s.z s.d W cs
    rw [show (Q.mk s.w (-s.x) (-s.y) (-s.z) s.d).low = r from hr] at this; exact this
  · exact Lib.hid fun W => Mul_low (p := ⟨n0, n1, n2, n3, d⟩) (q := x) W hA cp (tiny_chk tcp) mp ⟨u0, 0, 0, 0, u1⟩ hpx
  · have := Lib.hid fun W => Lowest_any (u0 * v0) (u1 * v1) W ⟨by omega, by omega⟩ ⟨b2, by omega⟩
    rw [hnm.1, hnm.2] at this; exact this
end Go.Proofs.YtjloanplhbbomaaDoor.Al
