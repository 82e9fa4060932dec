/-
  The walk of the law IntegerArithmetic.
-/
import Derived.Test.YtcbdnnboddahkaaTwo
import Derived.Test.YtcbdnnboddahkaaAwake
import Derived.Test.YtcbdnnboddahkaaGc
namespace Go.Proofs.Ytcbdnnboddahkaa.Ws
open Go.RowKit
set_option linter.unusedVariables false
set_option maxRecDepth 100000
set_option maxHeartbeats 8000000 in
theorem walk_arith (nx ny : Bool) (X Y : Option Addr) (c d : Nat) (xs ys : List Nat) (w : World) (hx : Sl w .u32 X c xs) (hy : Sl w .u32 Y d ys) (bx : ∀ x ∈ xs, x < 4294967296) (bz : ∀ x ∈ ys, x < 4294967296) :
    Calls Try.prog 4 #[.agg #[.bool nx, .slice X xs.length c], .agg #[.bool ny, .slice Y ys.length d]] w fun e w' => e = .returned (.bool true) ∧ Below w.heap.size w w' := by
  have hlx := hx.le
  have hmx := hx.max
  have hly := hy.le
  have hmy := hy.max
  have HX := Lib.hid hx
  have HY := Lib.hid hy
  have BX := Lib.hid bx
  have BY := Lib.hid bz
  clear hx hy bx bz
  have H2 := Lib.hid (two_mk w nx ny X Y c d xs ys)
  cases hf : fewB [xs.length, ys.length] with
  | false =>
    have HF := Lib.hid hf
    clear hf
    go_enter Try.func4, Try.ntmps4
    go_wp2_with fail
    refine (short_any (w.heap.size + 1 + 1) [xs.length, ys.length] _ H2.out.args (by simp) (by simp; omega)).mono ?_
    rw [HF.out]
    rintro e w1 ⟨rfl, rfl⟩
    go_wp2_with fail
    refine (awake_any _).mono ?_
    rintro e w2 ⟨rfl, hb⟩
    have HB := Lib.hid (H2.out.bel.trans (hb.mono H2.out.bel.size))
    clear hb
    go_wp2
    go_ret
    exact ⟨rfl, HB.out⟩
  | true =>
    obtain ⟨hl6, hm6⟩ := few2_yes hf
    have HF := Lib.hid hf
    clear hf
    have hix : IntIn w nx X c xs := ⟨HX.out, BX.out, by omega⟩
    have hiy : IntIn w ny Y d ys := ⟨HY.out, BY.out, by omega⟩
    have HIX := Lib.hid hix
    have HIY := Lib.hid hiy
    have hwx : (W (iv nx xs).natAbs).length ≤ 6 := Nat.le_trans hix.wlen hl6
    have hwy : (W (iv ny ys).natAbs).length ≤ 6 := Nat.le_trans hiy.wlen hm6
    have hdx : (D (iv nx xs).natAbs).length ≤ 12 := D_len_in hix hl6
    have hdy : (D (iv ny ys).natAbs).length ≤ 12 := D_len_in hiy hm6
    have h1 : (W (iv nx xs + iv ny ys).natAbs).length ≤ 7 := W_len_pm hwx hwy (by omega)
    have h2 : (W (iv nx xs - iv ny ys).natAbs).length ≤ 7 := W_len_pm hwx hwy (by omega)
    have h3 : (W (iv nx xs * iv ny ys).natAbs).length ≤ 12 := by rw [Int.natAbs_mul]; have := W_len_mul (iv nx xs).natAbs (iv ny ys).natAbs; omega
    have h4 : (W ((Nat.gcd (iv nx xs).natAbs (iv ny ys).natAbs : Nat) : Int).natAbs).length ≤ 7 := W_len_pm hwx hwy (by rw [Int.natAbs_natCast]; exact gcd_le_add _ _)
    have h5 : (W (iv nx xs / iv ny ys).natAbs).length ≤ 6 := Nat.le_trans (W_len_mono (Int.natAbs_ediv_le_natAbs _ _)) hwx
    have h6 : (W (dmR (iv nx xs) (iv ny ys)).natAbs).length ≤ 6 := by
      unfold dmR
      split
      · exact Nat.zero_le _
      · refine Nat.le_trans (W_len_mono ?_) hwy
        have e1 := Int.emod_nonneg (iv nx xs) (b := iv ny ys) (by assumption)
        have e2 := Int.emod_lt (iv nx xs) (b := iv ny ys) (by assumption)
        omega
    clear hix hiy
    go_enter Try.func4, Try.ntmps4
    go_wp2_with fail
    refine (short_any (w.heap.size + 1 + 1) [xs.length, ys.length] _ H2.out.args (by simp) (by simp; omega)).mono ?_
    rw [HF.out]
    rintro e w1 ⟨rfl, rfl⟩
    have HK0 := Lib.hid H2.out.k
    have HB3 := Lib.hid H2.out.bel
    clear H2
    generalize (((w.alloc (Obj.cells #[Value.bool nx, Value.slice X xs.length c] 24)).alloc (Obj.cells #[Value.bool ny, Value.slice Y ys.length d] 24)).alloc (Obj.cells #[Value.bool nx, Value.slice X xs.length c, Value.bool ny, Value.slice Y ys.length d] 24)) = W0 at *
    go_wp2_with fail
    have hk0 := HK0.out
    go_region_held3 (fun w' => (w'.cell? ⟨w.heap.size, 0, none⟩ = some (.bool nx) ∧ w'.cell? ⟨w.heap.size, 1, none⟩ = some (.slice X xs.length c) ∧ w'.cell? ⟨w.heap.size + 1, 0, none⟩ = some (.bool ny) ∧ w'.cell? ⟨w.heap.size + 1, 1, none⟩ = some (.slice Y ys.length d)) ∧ K2 W0 w.heap.size nx X xs.length c (w.heap.size + 1) ny Y ys.length d w') (first | exact K2.ks (by assumption) | exact K2.ks (K2.draws 1 (by assumption)))
      (first
        | (go_at_call 30; ((with_reducible refine (Add_any nx ny X Y c d xs ys _ ?_ ?_).mono ?_)); (exact HIX.out.below (HB3.out.trans ((K2.bel (And.right (by assumption))).mono HB3.out.size))); (exact HIY.out.below (HB3.out.trans ((K2.bel (And.right (by assumption))).mono HB3.out.size))); rintro e w' ⟨u1, rfl, hu1, hbel⟩; have hk' := K2.below hbel (And.right (by assumption)); clear hbel)
        | (go_at_call 31; ((with_reducible refine (rAdd_any nx ny X Y c d xs ys _ ?_ ?_ (by omega) (by omega)).mono ?_)); (exact HIX.out.below (HB3.out.trans ((K2.bel (And.right (by assumption))).mono HB3.out.size))); (exact HIY.out.below (HB3.out.trans ((K2.bel (And.right (by assumption))).mono HB3.out.size))); rintro e w' ⟨u2, rfl, hu2, hbel⟩; have hu1b := IntIs.below hu1 hbel; have hk' := K2.below hbel (And.right (by assumption)); clear hbel hu1)
        | (go_at_call 32; ((with_reducible refine (Sub_any nx ny X Y c d xs ys _ ?_ ?_).mono ?_)); (exact HIX.out.below (HB3.out.trans ((K2.bel (And.right (by assumption))).mono HB3.out.size))); (exact HIY.out.below (HB3.out.trans ((K2.bel (And.right (by assumption))).mono HB3.out.size))); rintro e w' ⟨u1, rfl, hu1, hbel⟩; have hk' := K2.below hbel (And.right (by assumption)); clear hbel)
        | (go_at_call 33; ((with_reducible refine (rSub_any nx ny X Y c d xs ys _ ?_ ?_ (by omega) (by omega)).mono ?_)); (exact HIX.out.below (HB3.out.trans ((K2.bel (And.right (by assumption))).mono HB3.out.size))); (exact HIY.out.below (HB3.out.trans ((K2.bel (And.right (by assumption))).mono HB3.out.size))); rintro e w' ⟨u2, rfl, hu2, hbel⟩; have hu1b := IntIs.below hu1 hbel; have hk' := K2.below hbel (And.right (by assumption)); clear hbel hu1)
        | (go_at_call 34; ((with_reducible refine (Mul_any nx ny X Y c d xs ys _ ?_ ?_).mono ?_)); (exact HIX.out.below (HB3.out.trans ((K2.bel (And.right (by assumption))).mono HB3.out.size))); (exact HIY.out.below (HB3.out.trans ((K2.bel (And.right (by assumption))).mono HB3.out.size))); rintro e w' ⟨u1, rfl, hu1, hbel⟩; have hk' := K2.below hbel (And.right (by assumption)); clear hbel)
        | (go_at_call 35; ((with_reducible refine (rMul_any nx ny X Y c d xs ys _ ?_ ?_ (by omega) (by omega)).mono ?_)); (exact HIX.out.below (HB3.out.trans ((K2.bel (And.right (by assumption))).mono HB3.out.size))); (exact HIY.out.below (HB3.out.trans ((K2.bel (And.right (by assumption))).mono HB3.out.size))); rintro e w' ⟨u2, rfl, hu2, hbel⟩; have hu1b := IntIs.below hu1 hbel; have hk' := K2.below hbel (And.right (by assumption)); clear hbel hu1)
        | (go_at_call 36; ((with_reducible refine (Gcd_any nx ny X Y c d xs ys _ ?_ ?_).mono ?_)); (exact HIX.out.below (HB3.out.trans ((K2.bel (And.right (by assumption))).mono HB3.out.size))); (exact HIY.out.below (HB3.out.trans ((K2.bel (And.right (by assumption))).mono HB3.out.size))); rintro e w' ⟨u1, rfl, hu1, hbel⟩; have hk' := K2.below hbel (And.right (by assumption)); clear hbel)
        | (go_at_call 37; ((with_reducible refine (rGcd_any nx ny X Y c d xs ys _ ?_ ?_).mono ?_)); (exact HIX.out.below (HB3.out.trans ((K2.bel (And.right (by assumption))).mono HB3.out.size))); (exact HIY.out.below (HB3.out.trans ((K2.bel (And.right (by assumption))).mono HB3.out.size))); rintro e w' ⟨u2, rfl, hu2, hbel⟩; have hu1b := IntIs.below hu1 hbel; have hk' := K2.below hbel (And.right (by assumption)); clear hbel hu1)
        | (go_at_call 24; ((with_reducible refine (same_any _ _ _ _ hu1b hu2 (by omega)).mono ?_)); rintro e w' ⟨rfl, hbel⟩; have hk' := K2.below hbel (And.right (by assumption)); clear hbel hu1b hu2))
    have HK1 := Lib.hid hk'
    clear hk' hk0
    try clear hHeld
    obtain ⟨⟨x0, x1, -, -⟩, ⟨y0, y1, -, -⟩, -, -, -⟩ := HK1.out
    go_wp2_with fail
    refine (DivMod_any nx ny X Y c d xs ys _ (HIX.out.below (HB3.out.trans (HK1.out.bel.mono HB3.out.size))) (HIY.out.below (HB3.out.trans (HK1.out.bel.mono HB3.out.size)))).mono ?_
    rintro e w5 ⟨u, v, rfl, hu, hv, hb5⟩
    obtain ⟨b1, A1, n1, c1, rfl, hu'⟩ := hu.form
    obtain ⟨b2, A2, n2, c2, rfl, hv'⟩ := hv.form
    have hbw : Below w5.heap.size w5 ((w5.alloc (Obj.cells #[Value.bool b1, Value.slice A1 n1 c1] 24)).alloc (Obj.cells #[Value.bool b2, Value.slice A2 n2 c2] 24)) := by go_grown
    have hcq : Cl ((w5.alloc (Obj.cells #[Value.bool b1, Value.slice A1 n1 c1] 24)).alloc (Obj.cells #[Value.bool b2, Value.slice A2 n2 c2] 24)) w5.heap.size b1 A1 n1 c1 :=
      ⟨by simp [go_sem], by simp [go_sem], by simp [go_sem], by simp [go_sem]⟩
    have hcr : Cl ((w5.alloc (Obj.cells #[Value.bool b1, Value.slice A1 n1 c1] 24)).alloc (Obj.cells #[Value.bool b2, Value.slice A2 n2 c2] 24)) (w5.heap.size + 1) b2 A2 n2 c2 :=
      ⟨by simp [go_sem], by simp [go_sem], by simp [go_sem], by simp [go_sem]⟩
    have hz6 : ((w5.alloc (Obj.cells #[Value.bool b1, Value.slice A1 n1 c1] 24)).alloc (Obj.cells #[Value.bool b2, Value.slice A2 n2 c2] 24)).heap.size = w5.heap.size + 2 := by simp
    have HU6 := Lib.hid (hu'.below hbw)
    have HV6 := Lib.hid (hv'.below hbw)
    have HK6 := Lib.hid ((HK1.out.below hb5).below hbw)
    have HCQ := Lib.hid hcq
    have HCR := Lib.hid hcr
    have HZ6 := Lib.hid hz6
    clear hu hv hu' hv' hb5 x0 x1 y0 y1 HK1 hbw hcq hcr hz6
    obtain ⟨⟨x0, x1, -, -⟩, ⟨y0, y1, -, -⟩, -, -, -⟩ := HK6.out
    go_wp2_with fail
    generalize ((w5.alloc (Obj.cells #[Value.bool b1, Value.slice A1 n1 c1] 24)).alloc (Obj.cells #[Value.bool b2, Value.slice A2 n2 c2] 24)) = W6 at *
    refine (rDivMod_any nx ny X Y c d xs ys _ (HIX.out.below (HB3.out.trans (HK6.out.bel.mono HB3.out.size))) (HIY.out.below (HB3.out.trans (HK6.out.bel.mono HB3.out.size)))).mono ?_
    rintro e w7 ⟨u3, v3, rfl, hu, hv, hb7⟩
    obtain ⟨b3, A3, n3, c3, rfl, hu'⟩ := hu.form
    obtain ⟨b4, A4, n4, c4, rfl, hv'⟩ := hv.form
    have hbw : Below w7.heap.size w7 ((w7.alloc (Obj.cells #[Value.bool b3, Value.slice A3 n3 c3] 24)).alloc (Obj.cells #[Value.bool b4, Value.slice A4 n4 c4] 24)) := by go_grown
    have hcs : Cl ((w7.alloc (Obj.cells #[Value.bool b3, Value.slice A3 n3 c3] 24)).alloc (Obj.cells #[Value.bool b4, Value.slice A4 n4 c4] 24)) w7.heap.size b3 A3 n3 c3 :=
      ⟨by simp [go_sem], by simp [go_sem], by simp [go_sem], by simp [go_sem]⟩
    have hct : Cl ((w7.alloc (Obj.cells #[Value.bool b3, Value.slice A3 n3 c3] 24)).alloc (Obj.cells #[Value.bool b4, Value.slice A4 n4 c4] 24)) (w7.heap.size + 1) b4 A4 n4 c4 :=
      ⟨by simp [go_sem], by simp [go_sem], by simp [go_sem], by simp [go_sem]⟩
    have hz8 : ((w7.alloc (Obj.cells #[Value.bool b3, Value.slice A3 n3 c3] 24)).alloc (Obj.cells #[Value.bool b4, Value.slice A4 n4 c4] 24)).heap.size = w7.heap.size + 2 := by simp
    have HU8 := Lib.hid (hu'.below hbw)
    have HV8 := Lib.hid (hv'.below hbw)
    have HU6b := Lib.hid ((HU6.out.below hb7).below hbw)
    have HV6b := Lib.hid ((HV6.out.below hb7).below hbw)
    have HK8 := Lib.hid ((HK6.out.below hb7).below hbw)
    have h76 := hb7.size
    have HCQ8 := Lib.hid (((HCQ.out.below hb7 (by rw [HZ6.out]; omega)).below hbw (by have := HZ6.out; omega)))
    have HCR8 := Lib.hid (((HCR.out.below hb7 (by rw [HZ6.out]; omega)).below hbw (by have := HZ6.out; omega)))
    have HCS := Lib.hid hcs
    have HCT := Lib.hid hct
    have HZ8 := Lib.hid hz8
    clear hu hv hu' hv' hb7 x0 x1 y0 y1 HK6 HU6 HV6 HCQ HCR hbw hcs hct hz8
    obtain ⟨q0, q1, -, -⟩ := HCQ8.out
    obtain ⟨s0, s1, -, -⟩ := HCS.out
    go_wp2_with fail
    generalize ((w7.alloc (Obj.cells #[Value.bool b3, Value.slice A3 n3 c3] 24)).alloc (Obj.cells #[Value.bool b4, Value.slice A4 n4 c4] 24)) = W8 at *
    refine (same_any _ _ _ _ HU6b.out HU8.out (by omega)).mono ?_
    rintro e w9 ⟨rfl, hb9⟩
    have hs78 : W8.heap.size = w7.heap.size + 2 := HZ8.out
    obtain ⟨r0, r1, -, -⟩ := HCR8.out.below hb9 (by have := HZ6.out; omega)
    obtain ⟨t0, t1, -, -⟩ := HCT.out.below hb9 (by omega)
    have HV6c := Lib.hid (HV6b.out.below hb9)
    have HV8c := Lib.hid (HV8.out.below hb9)
    have HK9 := Lib.hid (HK8.out.below hb9)
    clear hb9 q0 q1 s0 s1 HU6b HU8 HV6b HV8 HCQ8 HCR8 HCS HCT
    go_wp2_with fail
    refine (same_any _ _ _ _ HV6c.out HV8c.out (by omega)).mono ?_
    rintro e w10 ⟨rfl, hb10⟩
    have HK10 := Lib.hid (HK9.out.below hb10)
    clear hb10 r0 r1 t0 t1
    generalize dmE (iv ny ys) = ee at *
    go_wp2_with fail
    refine (awake_any _).mono ?_
    rintro e w11 ⟨rfl, hb11⟩
    have HK11 := Lib.hid (HK10.out.below hb11)
    clear hb11
    go_wp2
    go_ret
    exact ⟨rfl, HB3.out.trans (HK11.out.bel.mono HB3.out.size)⟩
end Go.Proofs.Ytcbdnnboddahkaa.Ws
