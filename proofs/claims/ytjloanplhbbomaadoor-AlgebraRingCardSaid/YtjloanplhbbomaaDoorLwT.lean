/-
  WALK of the law AlgebraRing: it returns true for all arguments.
-/
import Derived.Test.YtjloanplhbbomaaDoorLwQ
import Derived.Test.YtjloanplhbbomaaDoorLwU
import Derived.Test.YtjloanplhbbomaaDoorAlq
namespace Go.Proofs.YtjloanplhbbomaaDoor.Al
open Go.RowKit
open Alm
set_option linter.unusedVariables false
set_option linter.unusedSimpArgs false
set_option maxRecDepth 100000
set_option maxHeartbeats 1600000 in
theorem ring_not_little (A B p0 p1 p2 p3 p4 q0 q1 q2 q3 q4 r0 r1 r2 r3 r4 : Int) (w : World) (hl : litB A B = false) : Calls Tryd.prog 10 #[.agg #[.int .i64 A, .int .i64 B], .agg #[.int .i64 p0, .int .i64 p1, .int .i64 p2, .int .i64 p3, .int .i64 p4, .int .i64 q0, .int .i64 q1, .int .i64 q2, .int .i64 q3, .int .i64 q4, .int .i64 r0, .int .i64 r1, .int .i64 r2, .int .i64 r3, .int .i64 r4]] w fun e w' => e = .returned (.bool true) ∧ Below w.heap.size w w' := by
  have HL := Lib.hid hl
  clear hl
  go_enter Tryd.func10, Tryd.ntmps10
  go_wp2_with fail
  refine (awake_any _).mono ?_
  rintro e w1 ⟨rfl, hb⟩
  have hK : K_Rg0 p0 p1 p2 p3 p4 q0 q1 q2 q3 q4 r0 r1 r2 r3 r4 A B (w.heap.size + 1) w.heap.size w w1 := KL.below hb (((KL.nil w).push2 A B _ _ rfl).push15 p0 p1 p2 p3 p4 q0 q1 q2 q3 q4 r0 r1 r2 r3 r4 _ _ (by simp))
  clear hb
  obtain ⟨c0_, c1_, c2_, c3_, c4_, c5_, c6_, c7_, c8_, c9_, c10_, c11_, c12_, c13_, c14_, c15_, c16_⟩ := K_Rg0.cells hK; obtain ⟨z0_, z1_, -⟩ := K_Rg0.zs hK; have HK := Lib.hid hK; clear hK
  go_wp2_with fail
  refine (little_any _ _ _).mono ?_
  rintro e w2 ⟨rfl, hb⟩
  rw [HL.out]
  clear c0_ c1_ c2_ c3_ c4_ c5_ c6_ c7_ c8_ c9_ c10_ c11_ c12_ c13_ c14_ c15_ c16_ z0_ z1_
  have hK := K_Rg0.below hb HK.out
  clear hb HK
  obtain ⟨c0_, c1_, c2_, c3_, c4_, c5_, c6_, c7_, c8_, c9_, c10_, c11_, c12_, c13_, c14_, c15_, c16_⟩ := K_Rg0.cells hK; obtain ⟨z0_, z1_, -⟩ := K_Rg0.zs hK; have HK := Lib.hid hK; clear hK
  go_wp2
  go_ret
  exact ⟨rfl, K_Rg0.bel HK.out⟩
set_option maxHeartbeats 1600000 in
theorem ring_not_small (A B p0 p1 p2 p3 p4 q0 q1 q2 q3 q4 r0 r1 r2 r3 r4 : Int) (w : World) (hl : litB A B = true) (hs : (smB p0 p1 p2 p3 p4 && (smB q0 q1 q2 q3 q4 && smB r0 r1 r2 r3 r4)) = false) : Calls Tryd.prog 10 #[.agg #[.int .i64 A, .int .i64 B], .agg #[.int .i64 p0, .int .i64 p1, .int .i64 p2, .int .i64 p3, .int .i64 p4, .int .i64 q0, .int .i64 q1, .int .i64 q2, .int .i64 q3, .int .i64 q4, .int .i64 r0, .int .i64 r1, .int .i64 r2, .int .i64 r3, .int .i64 r4]] w fun e w' => e = .returned (.bool true) ∧ Below w.heap.size w w' := by
  have HL := Lib.hid hl
  have HS := Lib.hid hs
  clear hl hs
  go_enter Tryd.func10, Tryd.ntmps10
  go_wp2_with fail
  refine (awake_any _).mono ?_
  rintro e w1 ⟨rfl, hb⟩
  have hK : K_Rg0 p0 p1 p2 p3 p4 q0 q1 q2 q3 q4 r0 r1 r2 r3 r4 A B (w.heap.size + 1) w.heap.size w w1 := KL.below hb (((KL.nil w).push2 A B _ _ rfl).push15 p0 p1 p2 p3 p4 q0 q1 q2 q3 q4 r0 r1 r2 r3 r4 _ _ (by simp))
  clear hb
  obtain ⟨c0_, c1_, c2_, c3_, c4_, c5_, c6_, c7_, c8_, c9_, c10_, c11_, c12_, c13_, c14_, c15_, c16_⟩ := K_Rg0.cells hK; obtain ⟨z0_, z1_, -⟩ := K_Rg0.zs hK; have HK := Lib.hid hK; clear hK
  go_wp2_with fail
  refine (little_any _ _ _).mono ?_
  rintro e w2 ⟨rfl, hb⟩
  rw [HL.out]
  clear c0_ c1_ c2_ c3_ c4_ c5_ c6_ c7_ c8_ c9_ c10_ c11_ c12_ c13_ c14_ c15_ c16_ z0_ z1_
  have hK := K_Rg0.below hb HK.out
  clear hb HK
  obtain ⟨c0_, c1_, c2_, c3_, c4_, c5_, c6_, c7_, c8_, c9_, c10_, c11_, c12_, c13_, c14_, c15_, c16_⟩ := K_Rg0.cells hK; obtain ⟨z0_, z1_, -⟩ := K_Rg0.zs hK; have HK := Lib.hid hK; clear hK
  go_wp2_with fail
  refine (small3_new _ _ _ _ _ _ _ _ _ _ _ _ _ _ _ _ _ _ rfl).mono ?_
  rintro e w3 ⟨rfl, hb⟩
  rw [HS.out]
  clear c0_ c1_ c2_ c3_ c4_ c5_ c6_ c7_ c8_ c9_ c10_ c11_ c12_ c13_ c14_ c15_ c16_ z0_ z1_
  have hK := K_Rg0.below hb (K_Rg0.alloc _ HK.out)
  clear hb HK
  go_wp2
  go_ret
  exact ⟨rfl, K_Rg0.bel hK⟩
theorem Add_low {p q : Q} (w : World) (hp : chkQ p.w p.x p.y p.z p.d = 0) (hq : chkQ q.w q.x q.y q.z q.d = 0) (hm : qB (addq p q) = true) (s : Q) (hs : (addq p q).low = s) :
    Calls Tryd.prog 19 #[.agg #[.int .i64 (p).w, .int .i64 (p).x, .int .i64 (p).y, .int .i64 (p).z, .int .i64 (p).d], .agg #[.int .i64 (q).w, .int .i64 (q).x, .int .i64 (q).y, .int .i64 (q).z, .int .i64 (q).d]] w fun e w' => e = .returned (.tuple #[.agg #[.int .i64 (s).w, .int .i64 (s).x, .int .i64 (s).y, .int .i64 (s).z, .int .i64 (s).d], .int .i64 0]) ∧ Below w.heap.size w w' := by
  have h := Add_ok p.w p.x p.y p.z p.d q.w q.x q.y q.z q.d w hp hq
  have h1 : fitQ (addq ⟨p.w, p.x, p.y, p.z, p.d⟩ ⟨q.w, q.x, q.y, q.z, q.d⟩) = s := (fit_low hm).1.trans hs
  have h2 : fitE (addq ⟨p.w, p.x, p.y, p.z, p.d⟩ ⟨q.w, q.x, q.y, q.z, q.d⟩) = 0 := (fit_low hm).2
  rw [h1, h2] at h
  exact h
theorem Scale_low {a b : Int} (w : World) (hf : frB a b = true) (hm : qB (scaleq ⟨1, 0, 0, 0, 1⟩ a b) = true) (s : Q) (hs : (scaleq ⟨1, 0, 0, 0, 1⟩ a b).low = s) :
    Calls Tryd.prog 21 #[.agg #[.int .i64 1, .int .i64 0, .int .i64 0, .int .i64 0, .int .i64 1], .agg #[.int .i64 a, .int .i64 b]] w fun e w' => e = .returned (.tuple #[.agg #[.int .i64 (s).w, .int .i64 (s).x, .int .i64 (s).y, .int .i64 (s).z, .int .i64 (s).d], .int .i64 0]) ∧ Below w.heap.size w w' := by
  have h := Scale_ok 1 0 0 0 1 a b w (by decide) hf
  rw [(fit_low hm).1, (fit_low hm).2, hs] at h
  exact h
theorem sc_fit {a b : Int} (ha : Bn 4000 a) (hb : 1 ≤ b) (hb' : b ≤ 9) : frB (fn a b) (fd a b) = true ∧ qB (scaleq ⟨1, 0, 0, 0, 1⟩ (fn a b) (fd a b)) = true := by
  have f1 := fn_small a b
  have f2 := fd_small (a := a) (b := b) (by omega)
  constructor
  · unfold frB withinB
    simp only [Bool.and_eq_true, bne_iff_ne, decide_eq_true_eq]
    omega
  · rw [sc_one]
    refine decide_eq_true ?_
    unfold qin
    simp only []
    omega
theorem Bn_0 (K : Nat) : Bn K 0 := ⟨by omega, by omega⟩
theorem tB_qd {K D : Nat} {q : Q} (h : tB K D q) : 0 < q.d := by have := h.2.2.2.2.1; omega
set_option maxHeartbeats 1600000 in
theorem ring_gen (A B p0 p1 p2 p3 p4 q0 q1 q2 q3 q4 r0 r1 r2 r3 r4 : Int) (w : World) (hl : litB A B = true) (hs : (smB p0 p1 p2 p3 p4 && (smB q0 q1 q2 q3 q4 && smB r0 r1 r2 r3 r4)) = true) (hr : (p1 == 0 && (p2 == 0 && p3 == 0)) = false) : Calls Tryd.prog 10 #[.agg #[.int .i64 A, .int .i64 B], .agg #[.int .i64 p0, .int .i64 p1, .int .i64 p2, .int .i64 p3, .int .i64 p4, .int .i64 q0, .int .i64 q1, .int .i64 q2, .int .i64 q3, .int .i64 q4, .int .i64 r0, .int .i64 r1, .int .i64 r2, .int .i64 r3, .int .i64 r4]] w fun e w' => e = .returned (.bool true) ∧ Below w.heap.size w w' := by
  have hl' := hl
  unfold litB at hl'
  simp only [Bool.and_eq_true, beq_iff_eq] at hl'
  obtain ⟨hA, hA20, hB20⟩ := hl'
  have hA20 : Bn 20 A := withinB_of hA20
  have hB20 : Bn 20 B := withinB_of hB20
  have hs' := hs
  rw [Bool.and_eq_true, Bool.and_eq_true] at hs'
  obtain ⟨sp, sq, sr⟩ := hs'
  obtain ⟨pb0, pb1, pb2, pb3, pb4⟩ := smB_yes sp
  have tp : tB 3 3 ⟨p0, p1, p2, p3, p4⟩ := ⟨withinB_of pb0, withinB_of pb1, withinB_of pb2, withinB_of pb3, (withinB_of pb4).1, (withinB_of pb4).2⟩
  have cp := tB_chk tp (by decide) (by decide)
  have dp := tB_qd tp
  obtain ⟨qb0, qb1, qb2, qb3, qb4⟩ := smB_yes sq
  have tq : tB 3 3 ⟨q0, q1, q2, q3, q4⟩ := ⟨withinB_of qb0, withinB_of qb1, withinB_of qb2, withinB_of qb3, (withinB_of qb4).1, (withinB_of qb4).2⟩
  have cq := tB_chk tq (by decide) (by decide)
  have dq := tB_qd tq
  obtain ⟨rb0, rb1, rb2, rb3, rb4⟩ := smB_yes sr
  have tr : tB 3 3 ⟨r0, r1, r2, r3, r4⟩ := ⟨withinB_of rb0, withinB_of rb1, withinB_of rb2, withinB_of rb3, (withinB_of rb4).1, (withinB_of rb4).2⟩
  have cr := tB_chk tr (by decide) (by decide)
  have dr := tB_qd tr
  clear sp sq sr pb0 pb1 pb2 pb3 pb4 qb0 qb1 qb2 qb3 qb4 rb0 rb1 rb2 rb3 rb4
  have ms := mid_mk hA20 hB20 tp tq
  have mt := mid_mk hA20 hB20 tq tr
  have mv := mid_mk hA20 hB20 tp tr
  have ms' := mid_low ms
  have mt' := mid_low mt
  have mv' := mid_low mv
  obtain ⟨s, hsE⟩ : ∃ zz, (mulq A B ⟨p0, p1, p2, p3, p4⟩ ⟨q0, q1, q2, q3, q4⟩).low = zz := ⟨_, rfl⟩
  obtain ⟨t, ht⟩ : ∃ zz, (mulq A B ⟨q0, q1, q2, q3, q4⟩ ⟨r0, r1, r2, r3, r4⟩).low = zz := ⟨_, rfl⟩
  obtain ⟨v, hv⟩ : ∃ zz, (mulq A B ⟨p0, p1, p2, p3, p4⟩ ⟨r0, r1, r2, r3, r4⟩).low = zz := ⟨_, rfl⟩
  have as' := ring_assoc (A := A) (B := B) dp dq dr
  have ds' := ring_dist (A := A) (B := B) dp dq dr
  have ta := tB_add 18 rfl 9 rfl tq tr
  have ta' := tB_low ta
  obtain ⟨a, ha⟩ : ∃ zz, (addq ⟨q0, q1, q2, q3, q4⟩ ⟨r0, r1, r2, r3, r4⟩).low = zz := ⟨_, rfl⟩
  rw [hsE] at ms' as' ds'
  rw [ht] at mt' as'
  rw [hv] at mv' ds'
  rw [ha] at ta' ds'
  obtain ⟨x, hx⟩ : ∃ zz, (mulq A B s ⟨r0, r1, r2, r3, r4⟩).low = zz := ⟨_, rfl⟩
  obtain ⟨u, hu⟩ : ∃ zz, (mulq A B ⟨p0, p1, p2, p3, p4⟩ a).low = zz := ⟨_, rfl⟩
  rw [hx] at as'
  rw [hu] at ds'
  have tps := tB_low tp
  obtain ⟨g, hg⟩ : ∃ zz, (Q.mk p0 p1 p2 p3 p4).low = zz := ⟨_, rfl⟩
  rw [hg] at tps
  have nb := nm_small (q := ⟨p0, p1, p2, p3, p4⟩) hA20 hB20 tp
  have du : p4 * p4 ≤ 9 := by have := (Bn.mul (m := 3) (n := 3) (a := p4) (b := p4) 9 ⟨by have := tp.2.2.2.2.1; simp only [] at this; omega, tp.2.2.2.2.2⟩ ⟨by have := tp.2.2.2.2.1; simp only [] at this; omega, tp.2.2.2.2.2⟩ rfl).2; simpa using this
  have dv : 1 ≤ p4 * p4 := Int.mul_pos dp dp
  simp only [] at nb dp
  have p4b : p4 ≤ 3 := tp.2.2.2.2.2
  have p0b : Bn 3 p0 := tp.1
  have tc : tB 6 3 ⟨-2 * p0, 0, 0, 0, p4⟩ := ⟨⟨by show -((6 : Nat) : Int) ≤ -2 * p0; omega, by show -2 * p0 ≤ ((6 : Nat) : Int); omega⟩, Bn_0 _, Bn_0 _, Bn_0 _, dp, p4b⟩
  have td : tB 4000 9 ⟨nm A B p0 p1 p2 p3, 0, 0, 0, p4 * p4⟩ := ⟨nb, Bn_0 _, Bn_0 _, Bn_0 _, dv, du⟩
  have tc' := tB_low tc
  have td' := tB_low td
  have rt := ring_root (A := A) (B := B) (p := ⟨p0, p1, p2, p3, p4⟩) dp
  simp only [] at rt
  have sc1 := sc_low (a := -2 * p0) (b := p4) dp
  have sc2 := sc_low (a := nm A B p0 p1 p2 p3) (b := p4 * p4) (by omega)
  have sf1 := sc_fit (a := -2 * p0) (b := p4) ⟨by omega, by omega⟩ (by omega) (by omega)
  have sf2 := sc_fit (a := nm A B p0 p1 p2 p3) (b := p4 * p4) nb dv du
  obtain ⟨c, hc⟩ : ∃ zz, (Q.mk (-2 * p0) 0 0 0 p4).low = zz := ⟨_, rfl⟩
  obtain ⟨d, hd⟩ : ∃ zz, (Q.mk (nm A B p0 p1 p2 p3) 0 0 0 (p4 * p4)).low = zz := ⟨_, rfl⟩
  rw [hc] at tc' rt sc1
  rw [hd] at td' rt sc2
  rw [hg] at rt
  have tm := tB_add 27 rfl 9 rfl tps tc'
  have tm' := tB_low tm
  obtain ⟨m, hm⟩ : ∃ zz, (addq g c).low = zz := ⟨_, rfl⟩
  rw [hm] at tm' rt
  have th := (tB_mul hA20 hB20 tp tm').2
  have th' := tB_low th
  obtain ⟨h, hh⟩ : ∃ zz, (mulq A B m ⟨p0, p1, p2, p3, p4⟩).low = zz := ⟨_, rfl⟩
  rw [hh] at th' rt
  have tz := tB_add 429489 rfl 243 rfl th' td'
  have PO := Lib.hid fun W => Poly_gen A B p0 p1 p2 p3 p4 W hA cp hr
  obtain ⟨l0, hl0⟩ : ∃ zz, fn (nm A B p0 p1 p2 p3) (p4 * p4) = zz := ⟨_, rfl⟩
  obtain ⟨l1, hl1⟩ : ∃ zz, fd (nm A B p0 p1 p2 p3) (p4 * p4) = zz := ⟨_, rfl⟩
  obtain ⟨l2, hl2⟩ : ∃ zz, fn (-2 * p0) p4 = zz := ⟨_, rfl⟩
  obtain ⟨l3, hl3⟩ : ∃ zz, fd (-2 * p0) p4 = zz := ⟨_, rfl⟩
  rw [hl0, hl1, hl2, hl3] at PO
  rw [hl2, hl3] at sc1 sf1
  rw [hl0, hl1] at sc2 sf2
  refine Rg_main A B p0 p1 p2 p3 p4 q0 q1 q2 q3 q4 r0 r1 r2 r3 r4 s.w s.x s.y s.z s.d t.w t.x t.y t.z t.d x.w x.x x.y x.z x.d a.w a.x a.y a.z a.d u.w u.x u.y u.z u.d v.w v.x v.y v.z v.d m.w m.x m.y m.z m.d c.w c.x c.y c.z c.d d.w d.x d.y d.z d.d g.w g.x g.y g.z g.d h.w h.x h.y h.z h.d l0 l1 l2 l3 w hl hs ?_ ?_ ?_ ?_ ?_ ?_ ?_ ?_ ?_ ?_ ?_ ?_ ?_ ?_ ?_ ?_ ?_ ?_
  · exact Lib.hid fun W => Mul_low (p := ⟨p0, p1, p2, p3, p4⟩) (q := ⟨q0, q1, q2, q3, q4⟩) W hA cp cq (tB_qB (mid_tB ms) (by decide) (by decide)) s hsE
  · exact Lib.hid fun W => Mul_low (p := ⟨q0, q1, q2, q3, q4⟩) (q := ⟨r0, r1, r2, r3, r4⟩) W hA cq cr (tB_qB (mid_tB mt) (by decide) (by decide)) t ht
  · exact Lib.hid fun W => Mul_low (p := s) (q := ⟨r0, r1, r2, r3, r4⟩) W hA (tB_chk (mid_tB ms') (by decide) (by decide)) cr (mid_mul hA20 hB20 tr ms').2 x hx
  · exact Lib.hid fun W => Mul_low (p := ⟨p0, p1, p2, p3, p4⟩) (q := t) W hA cp (tB_chk (mid_tB mt') (by decide) (by decide)) (mid_mul hA20 hB20 tp mt').1 x as'
  · exact Lib.hid fun W => Add_low (p := ⟨q0, q1, q2, q3, q4⟩) (q := ⟨r0, r1, r2, r3, r4⟩) W cq cr (tB_qB ta (by decide) (by decide)) a ha
  · exact Lib.hid fun W => Mul_low (p := ⟨p0, p1, p2, p3, p4⟩) (q := a) W hA cp (tB_chk ta' (by decide) (by decide)) (tB_qB (tB_mul hA20 hB20 tp ta').1 (by decide) (by decide)) u hu
  · exact Lib.hid fun W => Mul_low (p := ⟨p0, p1, p2, p3, p4⟩) (q := ⟨r0, r1, r2, r3, r4⟩) W hA cp cr (tB_qB (mid_tB mv) (by decide) (by decide)) v hv
  · exact Lib.hid fun W => Add_low (p := s) (q := v) W (tB_chk (mid_tB ms') (by decide) (by decide)) (tB_chk (mid_tB mv') (by decide) (by decide)) (tB_qB (tB_add 71442 rfl 81 rfl (mid_tB ms') (mid_tB mv')) (by decide) (by decide)) u ds'
  · exact PO
  · exact Lib.hid fun W => Scale_low (a := 1) (b := 1) W (by decide) (by decide) ⟨1, 0, 0, 0, 1⟩ (by rw [sc_one]; exact low_one)
  · exact Lib.hid fun W => Mul_low (p := ⟨0, 0, 0, 0, 1⟩) (q := ⟨p0, p1, p2, p3, p4⟩) W hA (by decide) cp (tB_qB (tB_mul hA20 hB20 tp (⟨Bn_0 _, Bn_0 _, Bn_0 _, Bn_0 _, by decide, by decide⟩ : tB 0 1 ⟨0, 0, 0, 0, 1⟩)).2 (by decide) (by decide)) ⟨0, 0, 0, 0, 1⟩ (mul_zero_low dp)
  · exact Lib.hid fun W => Add_low (p := ⟨0, 0, 0, 0, 1⟩) (q := ⟨1, 0, 0, 0, 1⟩) W (by decide) (by decide) (by decide) ⟨1, 0, 0, 0, 1⟩ add_zero_one
  · exact Lib.hid fun W => Scale_low W sf1.1 sf1.2 c sc1
  · exact Lib.hid fun W => Mul_low (p := ⟨1, 0, 0, 0, 1⟩) (q := ⟨p0, p1, p2, p3, p4⟩) W hA (by decide) cp (by rw [mul_one_low]; exact tB_qB tp (by decide) (by decide)) g (by rw [mul_one_low]; exact hg)
  · exact Lib.hid fun W => Add_low (p := g) (q := c) W (tB_chk tps (by decide) (by decide)) (tB_chk tc' (by decide) (by decide)) (tB_qB tm (by decide) (by decide)) m hm
  · exact Lib.hid fun W => Scale_low W sf2.1 sf2.2 d sc2
  · exact Lib.hid fun W => Mul_low (p := m) (q := ⟨p0, p1, p2, p3, p4⟩) W hA (tB_chk tm' (by decide) (by decide)) cp (tB_qB th (by decide) (by decide)) h hh
  · exact Lib.hid fun W => Add_low (p := h) (q := d) W (tB_chk th' (by decide) (by decide)) (tB_chk td' (by decide) (by decide)) (tB_qB tz (by decide) (by decide)) ⟨0, 0, 0, 0, 1⟩ rt
set_option maxHeartbeats 1600000 in
theorem ring_rat (A B p0 p4 q0 q1 q2 q3 q4 r0 r1 r2 r3 r4 : Int) (w : World) (hl : litB A B = true) (hs : (smB p0 0 0 0 p4 && (smB q0 q1 q2 q3 q4 && smB r0 r1 r2 r3 r4)) = true) : Calls Tryd.prog 10 #[.agg #[.int .i64 A, .int .i64 B], .agg #[.int .i64 p0, .int .i64 0, .int .i64 0, .int .i64 0, .int .i64 p4, .int .i64 q0, .int .i64 q1, .int .i64 q2, .int .i64 q3, .int .i64 q4, .int .i64 r0, .int .i64 r1, .int .i64 r2, .int .i64 r3, .int .i64 r4]] w fun e w' => e = .returned (.bool true) ∧ Below w.heap.size w w' := by
  have hl' := hl
  unfold litB at hl'
  simp only [Bool.and_eq_true, beq_iff_eq] at hl'
  obtain ⟨hA, hA20, hB20⟩ := hl'
  have hA20 : Bn 20 A := withinB_of hA20
  have hB20 : Bn 20 B := withinB_of hB20
  have hs' := hs
  rw [Bool.and_eq_true, Bool.and_eq_true] at hs'
  obtain ⟨sp, sq, sr⟩ := hs'
  obtain ⟨pb0, pb1, pb2, pb3, pb4⟩ := smB_yes sp
  have tp : tB 3 3 ⟨p0, 0, 0, 0, p4⟩ := ⟨withinB_of pb0, withinB_of pb1, withinB_of pb2, withinB_of pb3, (withinB_of pb4).1, (withinB_of pb4).2⟩
  have cp := tB_chk tp (by decide) (by decide)
  have dp := tB_qd tp
  obtain ⟨qb0, qb1, qb2, qb3, qb4⟩ := smB_yes sq
  have tq : tB 3 3 ⟨q0, q1, q2, q3, q4⟩ := ⟨withinB_of qb0, withinB_of qb1, withinB_of qb2, withinB_of qb3, (withinB_of qb4).1, (withinB_of qb4).2⟩
  have cq := tB_chk tq (by decide) (by decide)
  have dq := tB_qd tq
  obtain ⟨rb0, rb1, rb2, rb3, rb4⟩ := smB_yes sr
  have tr : tB 3 3 ⟨r0, r1, r2, r3, r4⟩ := ⟨withinB_of rb0, withinB_of rb1, withinB_of rb2, withinB_of rb3, (withinB_of rb4).1, (withinB_of rb4).2⟩
  have cr := tB_chk tr (by decide) (by decide)
  have dr := tB_qd tr
  clear sp sq sr pb0 pb1 pb2 pb3 pb4 qb0 qb1 qb2 qb3 qb4 rb0 rb1 rb2 rb3 rb4
  have ms := mid_mk hA20 hB20 tp tq
  have mt := mid_mk hA20 hB20 tq tr
  have mv := mid_mk hA20 hB20 tp tr
  have ms' := mid_low ms
  have mt' := mid_low mt
  have mv' := mid_low mv
  obtain ⟨s, hsE⟩ : ∃ zz, (mulq A B ⟨p0, 0, 0, 0, p4⟩ ⟨q0, q1, q2, q3, q4⟩).low = zz := ⟨_, rfl⟩
  obtain ⟨t, ht⟩ : ∃ zz, (mulq A B ⟨q0, q1, q2, q3, q4⟩ ⟨r0, r1, r2, r3, r4⟩).low = zz := ⟨_, rfl⟩
  obtain ⟨v, hv⟩ : ∃ zz, (mulq A B ⟨p0, 0, 0, 0, p4⟩ ⟨r0, r1, r2, r3, r4⟩).low = zz := ⟨_, rfl⟩
  have as' := ring_assoc (A := A) (B := B) dp dq dr
  have ds' := ring_dist (A := A) (B := B) dp dq dr
  have ta := tB_add 18 rfl 9 rfl tq tr
  have ta' := tB_low ta
  obtain ⟨a, ha⟩ : ∃ zz, (addq ⟨q0, q1, q2, q3, q4⟩ ⟨r0, r1, r2, r3, r4⟩).low = zz := ⟨_, rfl⟩
  rw [hsE] at ms' as' ds'
  rw [ht] at mt' as'
  rw [hv] at mv' ds'
  rw [ha] at ta' ds'
  obtain ⟨x, hx⟩ : ∃ zz, (mulq A B s ⟨r0, r1, r2, r3, r4⟩).low = zz := ⟨_, rfl⟩
  obtain ⟨u, hu⟩ : ∃ zz, (mulq A B ⟨p0, 0, 0, 0, p4⟩ a).low = zz := ⟨_, rfl⟩
  rw [hx] at as'
  rw [hu] at ds'
  have tps := tB_low tp
  obtain ⟨g, hg⟩ : ∃ zz, (Q.mk p0 0 0 0 p4).low = zz := ⟨_, rfl⟩
  rw [hg] at tps
  simp only [] at dp
  have p4b : p4 ≤ 3 := tp.2.2.2.2.2
  have p0b : Bn 3 p0 := tp.1
  have tc : tB 3 3 ⟨-p0, 0, 0, 0, p4⟩ := ⟨⟨by show -((3 : Nat) : Int) ≤ -p0; omega, by show -p0 ≤ ((3 : Nat) : Int); omega⟩, Bn_0 _, Bn_0 _, Bn_0 _, dp, p4b⟩
  have tc' := tB_low tc
  have rt := ring_root_rat (n0 := p0) (d := p4) dp
  have sc1 := sc_low (a := -p0) (b := p4) dp
  have sf1 := sc_fit (a := -p0) (b := p4) ⟨by omega, by omega⟩ (by omega) (by omega)
  obtain ⟨c, hc⟩ : ∃ zz, (Q.mk (-p0) 0 0 0 p4).low = zz := ⟨_, rfl⟩
  rw [hc] at tc' rt sc1
  rw [hg] at rt
  have tz := tB_add 18 rfl 9 rfl tps tc'
  have PO := Lib.hid fun W => Poly_rat A B p0 p4 W hA cp
  obtain ⟨l0, hl0⟩ : ∃ zz, fn (-p0) p4 = zz := ⟨_, rfl⟩
  obtain ⟨l1, hl1⟩ : ∃ zz, fd (-p0) p4 = zz := ⟨_, rfl⟩
  rw [hl0, hl1] at PO
  rw [hl0, hl1] at sc1 sf1
  refine Rr_main A B p0 0 0 0 p4 q0 q1 q2 q3 q4 r0 r1 r2 r3 r4 s.w s.x s.y s.z s.d t.w t.x t.y t.z t.d x.w x.x x.y x.z x.d a.w a.x a.y a.z a.d u.w u.x u.y u.z u.d v.w v.x v.y v.z v.d c.w c.x c.y c.z c.d g.w g.x g.y g.z g.d l0 l1 w hl hs ?_ ?_ ?_ ?_ ?_ ?_ ?_ ?_ ?_ ?_ ?_ ?_ ?_ ?_ ?_
  · exact Lib.hid fun W => Mul_low (p := ⟨p0, 0, 0, 0, p4⟩) (q := ⟨q0, q1, q2, q3, q4⟩) W hA cp cq (tB_qB (mid_tB ms) (by decide) (by decide)) s hsE
  · exact Lib.hid fun W => Mul_low (p := ⟨q0, q1, q2, q3, q4⟩) (q := ⟨r0, r1, r2, r3, r4⟩) W hA cq cr (tB_qB (mid_tB mt) (by decide) (by decide)) t ht
  · exact Lib.hid fun W => Mul_low (p := s) (q := ⟨r0, r1, r2, r3, r4⟩) W hA (tB_chk (mid_tB ms') (by decide) (by decide)) cr (mid_mul hA20 hB20 tr ms').2 x hx
  · exact Lib.hid fun W => Mul_low (p := ⟨p0, 0, 0, 0, p4⟩) (q := t) W hA cp (tB_chk (mid_tB mt') (by decide) (by decide)) (mid_mul hA20 hB20 tp mt').1 x as'
  · exact Lib.hid fun W => Add_low (p := ⟨q0, q1, q2, q3, q4⟩) (q := ⟨r0, r1, r2, r3, r4⟩) W cq cr (tB_qB ta (by decide) (by decide)) a ha
  · exact Lib.hid fun W => Mul_low (p := ⟨p0, 0, 0, 0, p4⟩) (q := a) W hA cp (tB_chk ta' (by decide) (by decide)) (tB_qB (tB_mul hA20 hB20 tp ta').1 (by decide) (by decide)) u hu
  · exact Lib.hid fun W => Mul_low (p := ⟨p0, 0, 0, 0, p4⟩) (q := ⟨r0, r1, r2, r3, r4⟩) W hA cp cr (tB_qB (mid_tB mv) (by decide) (by decide)) v hv
  · exact Lib.hid fun W => Add_low (p := s) (q := v) W (tB_chk (mid_tB ms') (by decide) (by decide)) (tB_chk (mid_tB mv') (by decide) (by decide)) (tB_qB (tB_add 71442 rfl 81 rfl (mid_tB ms') (mid_tB mv')) (by decide) (by decide)) u ds'
  · exact PO
  · exact Lib.hid fun W => Scale_low (a := 1) (b := 1) W (by decide) (by decide) ⟨1, 0, 0, 0, 1⟩ (by rw [sc_one]; exact low_one)
  · exact Lib.hid fun W => Mul_low (p := ⟨0, 0, 0, 0, 1⟩) (q := ⟨p0, 0, 0, 0, p4⟩) W hA (by decide) cp (tB_qB (tB_mul hA20 hB20 tp (⟨Bn_0 _, Bn_0 _, Bn_0 _, Bn_0 _, by decide, by decide⟩ : tB 0 1 ⟨0, 0, 0, 0, 1⟩)).2 (by decide) (by decide)) ⟨0, 0, 0, 0, 1⟩ (mul_zero_low dp)
  · exact Lib.hid fun W => Add_low (p := ⟨0, 0, 0, 0, 1⟩) (q := ⟨1, 0, 0, 0, 1⟩) W (by decide) (by decide) (by decide) ⟨1, 0, 0, 0, 1⟩ add_zero_one
  · exact Lib.hid fun W => Scale_low W sf1.1 sf1.2 c sc1
  · exact Lib.hid fun W => Mul_low (p := ⟨1, 0, 0, 0, 1⟩) (q := ⟨p0, 0, 0, 0, p4⟩) W hA (by decide) cp (by rw [mul_one_low]; exact tB_qB tp (by decide) (by decide)) g (by rw [mul_one_low]; exact hg)
  · exact Lib.hid fun W => Add_low (p := g) (q := c) W (tB_chk tps (by decide) (by decide)) (tB_chk tc' (by decide) (by decide)) (tB_qB tz (by decide) (by decide)) ⟨0, 0, 0, 0, 1⟩ rt
theorem walk_ring (A B p0 p1 p2 p3 p4 q0 q1 q2 q3 q4 r0 r1 r2 r3 r4 : Int) (w : World) : Calls Tryd.prog 10 #[.agg #[.int .i64 A, .int .i64 B], .agg #[.int .i64 p0, .int .i64 p1, .int .i64 p2, .int .i64 p3, .int .i64 p4, .int .i64 q0, .int .i64 q1, .int .i64 q2, .int .i64 q3, .int .i64 q4, .int .i64 r0, .int .i64 r1, .int .i64 r2, .int .i64 r3, .int .i64 r4]] w fun e w' => e = .returned (.bool true) ∧ Below w.heap.size w w' := by
  rcases hl : litB A B with _ | _
  · exact ring_not_little A B p0 p1 p2 p3 p4 q0 q1 q2 q3 q4 r0 r1 r2 r3 r4 w hl
  rcases hs : (smB p0 p1 p2 p3 p4 && (smB q0 q1 q2 q3 q4 && smB r0 r1 r2 r3 r4)) with _ | _
  · exact ring_not_small A B p0 p1 p2 p3 p4 q0 q1 q2 q3 q4 r0 r1 r2 r3 r4 w hl hs
  rcases hr : (p1 == 0 && (p2 == 0 && p3 == 0))
  · exact ring_gen A B p0 p1 p2 p3 p4 q0 q1 q2 q3 q4 r0 r1 r2 r3 r4 w hl hs hr
  · simp only [Bool.and_eq_true, beq_iff_eq] at hr
    obtain ⟨e1, e2, e3⟩ := hr
    subst e1; subst e2; subst e3
    exact ring_rat A B p0 p4 q0 q1 q2 q3 q4 r0 r1 r2 r3 r4 w hl hs
end Go.Proofs.YtjloanplhbbomaaDoor.Al
