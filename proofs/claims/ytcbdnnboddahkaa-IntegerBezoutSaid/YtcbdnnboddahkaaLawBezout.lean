/-
  Proved: the law IntegerBezout returns true for all machine integers a, b and m, and changes nothing that was there. No condition.
-/
import Derived.Test.YtcbdnnboddahkaaRows
import Derived.WalkKit
import Derived.ProofKit
import Derived.OpenShut
import Derived.ShutString
import Derived.ChangeOld
import Derived.Below
import Derived.Test.YtcbdnnboddahkaaClosed
import Derived.Test.YtcbdnnboddahkaaAwake
import Derived.Test.YtcbdnnboddahkaaBezQ
namespace Go.Proofs.Ytcbdnnboddahkaa.integerBezout
open Go.ChangeShapes Go.WideShapes Go.ChangeAt Go.RowKit
open Go.ChangeMaps (open_string shut_string)
set_option linter.unusedVariables false
set_option maxRecDepth 100000
/-! the facts that the law asks -/
theorem bz_facts {a b g x y f : Int} (h : BzRes a b g x y f) : (f = 2 ∨ f = 10) ∨ (f = 0 ∧ 1 ≤ g ∧ g ≤ 1000000000 ∧ (-1000000000000000000 ≤ a * x ∧ a * x ≤ 1000000000000000000) ∧ b * y = g - a * x ∧ a.tmod g = 0 ∧ b.tmod g = 0) := by
  rcases h with ⟨a1, rfl, rfl, rfl, rfl⟩ | ⟨a1, a2, a3, rfl, rfl, rfl, rfl⟩ | ⟨a1, a2, a3, rfl, rfl, rfl, rfl⟩ | ⟨a1, a2, rfl, a3, rfl, rfl⟩
  · exact .inl (.inl rfl)
  · exact .inl (.inr rfl)
  · subst a3
    rw [Bool.and_eq_true] at a1
    obtain ⟨q1, q2⟩ := withinB_of a1.1
    refine .inr ⟨rfl, by omega, by omega, ?_, ?_, Int.tmod_eq_zero_of_dvd (Int.natAbs_dvd.2 (Int.dvd_refl a)), by simp⟩
    · rcases ifs_any a with e | e <;> rw [e] <;> omega
    · by_cases hn : a < 0
      · rw [if_pos hn]; omega
      · rw [if_neg hn]; omega
  · rw [Bool.and_eq_true] at a1
    obtain ⟨q1, q2⟩ := withinB_of a1.1
    obtain ⟨q3, q4⟩ := withinB_of a1.2
    have g1 : 0 < Int.gcd a b := Int.gcd_pos_of_ne_zero_right a a2
    have g2 := Nat.le_of_dvd (by omega) (Int.gcd_dvd_natAbs_right a b)
    have hx1 : x ≤ 1000000000 := by
      have := Int.ediv_le_self (Int.gcd a b) (a := (b.natAbs : Int)) (by omega)
      have := a3.2.1; omega
    have hp := sm_bd (a := a) (x := x) (M := 1000000000) (N := 1000000000) (by omega) (by omega) a3.1 hx1 (by omega)
    refine .inr ⟨rfl, by omega, by omega, by omega, ?_, Int.tmod_eq_zero_of_dvd (Int.gcd_dvd_left a b), Int.tmod_eq_zero_of_dvd (Int.gcd_dvd_right a b)⟩
    refine Int.mul_tdiv_cancel' ?_
    have h3 := Int.dvd_trans (Int.dvd_natAbs.2 (Int.dvd_refl b)) a3.2.2
    have e : (Int.gcd a b : Int) - a * x = -(a * x - Int.gcd a b) := by omega
    rw [e]; exact Int.dvd_neg.2 h3
theorem inv_facts {a m i l : Int} (h : InvRes a m i l) : (l = 2 ∨ l = 12) ∨ (l = 0 ∧ 1 ≤ m ∧ m ≤ 1000000000 ∧ (0 ≤ a % m * i ∧ a % m * i ≤ 1000000000000000000) ∧ (a % m * i - 1) % m = 0) := by
  rcases h with ⟨a1, rfl, rfl⟩ | ⟨a1, a2, rfl, rfl⟩ | ⟨a1, a2, rfl, a3⟩
  · exact .inl (.inl rfl)
  · exact .inl (.inr rfl)
  · obtain ⟨m1, m2⟩ := modB_of a1
    refine .inr ⟨rfl, m1, m2, mul_bd (Int.emod_nonneg _ (by omega)) (Int.emod_lt_of_pos _ (by omega)) a3.1 a3.2.1 m2, ?_⟩
    apply Int.emod_eq_zero_of_dvd
    have e : a % m * i - 1 = (a * i - 1) - m * (a / m * i) := by have := Int.mul_ediv_add_emod a m; grind
    rw [e]; exact Int.dvd_sub a3.2.2 (Int.dvd_mul_right _ _)

/-! ### STEP 1: THE WALK -/
set_option maxHeartbeats 2000000 in
theorem walk (a0 : Int) (a1 : Int) (a2 : Int) (w0 : (Lit.int .i64 a0).wf = true) (w1 : (Lit.int .i64 a1).wf = true) (w2 : (Lit.int .i64 a2).wf = true) (w : World) :
    Calls Try.prog 8 #[.int .i64 a0, .int .i64 a1, .int .i64 a2] w fun e w' => e = .returned (.bool true) ∧ Below w.heap.size w w' := by
  clear w0 w1 w2
  go_enter Try.func8, Try.ntmps8
  go_wp2_with fail
  refine (bez46 a0 a1 w).mono ?_
  rintro e w' ⟨⟨g, x, y, f, rfl, hr⟩, n, rfl⟩
  have HR := Lib.hid hr; clear hr
  go_wp2_with fail
  refine (bez47 a0 a1 _).mono ?_
  rintro e w' ⟨⟨g', x', y', f', rfl, hr'⟩, n', rfl⟩
  obtain ⟨rfl, rfl, rfl, rfl⟩ := HR.out.unique hr'
  clear hr'
  go_wp2_with fail
  refine (inv48 a0 a2 _).mono ?_
  rintro e w' ⟨⟨i, l, rfl, hi⟩, rfl⟩
  have HI := Lib.hid hi; clear hi
  go_wp2_with fail
  refine (rinv49 a0 a2 _).mono ?_
  rintro e w' ⟨⟨i', l', rfl, hi'⟩, rfl⟩
  obtain ⟨rfl, rfl⟩ := HI.out.unique hi'
  clear hi'
  have hB : Below w.heap.size w (w.drewN (n + n')) := below_draws (Below.refl _ _) _
  have HB := Lib.hid hB; clear hB
  rcases bz_facts HR.out with hf | ⟨hf, g1, g2, ⟨p1, p2⟩, p3, p4, p5⟩ <;> rcases inv_facts HI.out with hl | ⟨hl, m1, m2, ⟨q1, q2⟩, q3⟩
  · have t1 : (f != 0) = true := by rw [bne_iff_ne]; omega
    have t2 : (l != 0) = true := by rw [bne_iff_ne]; omega
    clear hf hl
    go_wp2_with (first | (go_at_call 20; refine (awake_any _).mono ?_; rintro e w' ⟨rfl, hA⟩) | (go_at_call 50; refine (bmod_any _ _ _ (by omega) (by omega)).mono ?_; rintro e w' ⟨rfl, rfl⟩))
    go_ret
    exact ⟨rfl, HB.out.trans (hA.mono HB.out.size)⟩
  · have t1 : (f != 0) = true := by rw [bne_iff_ne]; omega
    have t2 : (l != 0) = false := by rw [hl]; rfl
    clear hf hl
    have hq : -1 ≤ a0 % a2 * i - 1 := by omega
    have d3 : ((a0 % a2 * i - 1) % a2 == 0) = true := by rw [q3]; rfl
    clear q3
    go_wp2_with (first | (go_at_call 20; refine (awake_any _).mono ?_; rintro e w' ⟨rfl, hA⟩) | (go_at_call 50; refine (bmod_any _ _ _ (by omega) (by omega)).mono ?_; rintro e w' ⟨rfl, rfl⟩))
    go_ret
    exact ⟨rfl, HB.out.trans (hA.mono HB.out.size)⟩
  · have t1 : (f != 0) = false := by rw [hf]; rfl
    have t2 : (l != 0) = true := by rw [bne_iff_ne]; omega
    clear hf hl
    have e1 : IntKind.i64.wrap (a0 * x) = a0 * x := IntWalk.i64_in _ (by omega)
    have e3 : wrap64 (a0 * x) = a0 * x := IntWalk.wrap64_in _ (by omega)
    have hby : -2000000000000000000 ≤ a1 * y ∧ a1 * y ≤ 2000000000000000000 := by omega
    have hs : a0 * x + a1 * y = g := by omega
    have hs1 : ((a0 * x + a1 * y) == g) = true := by rw [hs]; simp
    have d1 : (a0.tmod g == 0) = true := by rw [p4]; rfl
    have d2 : (a1.tmod g == 0) = true := by rw [p5]; rfl
    clear hs p3 p4 p5 e1 e3
    go_wp2_with (first | (go_at_call 20; refine (awake_any _).mono ?_; rintro e w' ⟨rfl, hA⟩) | (go_at_call 50; refine (bmod_any _ _ _ (by omega) (by omega)).mono ?_; rintro e w' ⟨rfl, rfl⟩))
    go_ret
    exact ⟨rfl, HB.out.trans (hA.mono HB.out.size)⟩
  · have t1 : (f != 0) = false := by rw [hf]; rfl
    have t2 : (l != 0) = false := by rw [hl]; rfl
    clear hf hl
    have e1 : IntKind.i64.wrap (a0 * x) = a0 * x := IntWalk.i64_in _ (by omega)
    have e3 : wrap64 (a0 * x) = a0 * x := IntWalk.wrap64_in _ (by omega)
    have hby : -2000000000000000000 ≤ a1 * y ∧ a1 * y ≤ 2000000000000000000 := by omega
    have hs : a0 * x + a1 * y = g := by omega
    have hs1 : ((a0 * x + a1 * y) == g) = true := by rw [hs]; simp
    have d1 : (a0.tmod g == 0) = true := by rw [p4]; rfl
    have d2 : (a1.tmod g == 0) = true := by rw [p5]; rfl
    clear hs p3 p4 p5 e1 e3
    have hq : -1 ≤ a0 % a2 * i - 1 := by omega
    have d3 : ((a0 % a2 * i - 1) % a2 == 0) = true := by rw [q3]; rfl
    clear q3
    go_wp2_with (first | (go_at_call 20; refine (awake_any _).mono ?_; rintro e w' ⟨rfl, hA⟩) | (go_at_call 50; refine (bmod_any _ _ _ (by omega) (by omega)).mono ?_; rintro e w' ⟨rfl, rfl⟩))
    go_ret
    exact ⟨rfl, HB.out.trans (hA.mono HB.out.size)⟩


/-! ### THE ROW's STEP -/
theorem lifted (os : Os) (started : os.Started) (H : Type) (enc : TypeId × Value → H) :
    ReturnsInHanded {} Try.checked os 8 .any (Rows.integerBezoutSpec.pre6 enc Try.prog Try.f8 Rows.integerBezoutRow.domain false) (Rows.integerBezoutSpec.post enc Try.prog Try.f8 false true false false) := by
  refine returnsInHanded_of_change (C := Try.checked) Closed.own started (by kernel_rfl) Try.func8
    (ChangeSpec.witness6 (enc := enc) (C := Try.checked) false ⟨#[], #[.int .i64 0, .int .i64 0, .int .i64 0], []⟩ 8 (by kernel_rfl) (by kernel_rfl) (by kernel_rfl) (by kernel_rfl)) ?_
  intro W base args ds gs before hval0 hW hcnd _
  have hval : ∀ (j : Nat) t v, Try.f8.params[j]? = some t → args[j]? = some v → Value.okWide Try.prog W .any base t v := hval0
  have hW' := hW
  obtain ⟨p, q, hA0, hV, rfl, hfz, hnd⟩ := hW
  have hA : DataW.TrodAll enc Try.prog W 0 (fun _ => true) true Try.f8.params.toList args.toList ds p := hA0
  rw [Try.params8] at hA hval
  obtain ⟨v0, vs0, d0, ds0, p0, q0, hargs, rfl, rfl, h0, r0⟩ := trodAll_cons hA
  obtain ⟨v1, vs1, d1, ds1, p1, q1, rfl, rfl, rfl, h1, r1⟩ := trodAll_cons r0
  obtain ⟨v2, vs2, d2, ds2, p2, q2, rfl, rfl, rfl, h2, r2⟩ := trodAll_cons r1
  obtain ⟨rfl, rfl, rfl⟩ := trodAll_nil r2
  obtain rfl : args = #[v0, v1, v2] := by cases args; simp_all
  obtain ⟨rfl, rfl⟩ := trodVars_none hV
  obtain ⟨a0, rfl, rfl, rfl, w0⟩ := open_int Try.underlying3 (hval 0 3 v0 rfl rfl) h0
  obtain ⟨a1, rfl, rfl, rfl, w1⟩ := open_int Try.underlying3 (hval 1 3 v1 rfl rfl) h1
  obtain ⟨a2, rfl, rfl, rfl, w2⟩ := open_int Try.underlying3 (hval 2 3 v2 rfl rfl) h2
  clear hA0 hval0
  refine (walk a0 a1 a2 w0 w1 w2 W).mono fun e W' ⟨he, bel⟩ => ?_
  subst he
  exact ⟨_, rfl, _, _, _, [], _, [], hW', trodAll_mk1 (shut_bool Try.underlying4 _), (trodAll_cons_mk (shut_int Try.underlying3 w0) (trodAll_cons_mk (shut_int Try.underlying3 w1) (trodAll_cons_mk (shut_int Try.underlying3 w2) trodAll_mk0))), rfl, bel.frame _, fun h => by cases h⟩
set_option maxHeartbeats 4000000 in
theorem closed : joinedFacts Try.prog 8 Try.f8 Rows.integerBezoutSpec Rows.integerBezoutRow = true :=
  Bool.and_eq_true_iff.2 ⟨Bool.and_eq_true_iff.2 ⟨Bool.and_eq_true_iff.2 ⟨Bool.and_eq_true_iff.2 ⟨Bool.and_eq_true_iff.2 ⟨Bool.and_eq_true_iff.2 ⟨Bool.and_eq_true_iff.2 ⟨Bool.and_eq_true_iff.2 ⟨Bool.and_eq_true_iff.2 ⟨Bool.and_eq_true_iff.2 ⟨Bool.and_eq_true_iff.2 ⟨Bool.and_eq_true_iff.2 ⟨Bool.and_eq_true_iff.2 ⟨Bool.and_eq_true_iff.2 ⟨Bool.and_eq_true_iff.2 ⟨Bool.and_eq_true_iff.2 ⟨Bool.and_eq_true_iff.2 ⟨Bool.and_eq_true_iff.2 ⟨Bool.and_eq_true_iff.2 ⟨Bool.and_eq_true_iff.2 ⟨Bool.and_eq_true_iff.2 ⟨Bool.and_eq_true_iff.2 ⟨Bool.and_eq_true_iff.2 ⟨Bool.and_eq_true_iff.2 ⟨Bool.and_eq_true_iff.2 ⟨Bool.and_eq_true_iff.2 ⟨Bool.and_eq_true_iff.2 ⟨Bool.and_eq_true_iff.2 ⟨Bool.and_eq_true_iff.2 ⟨Bool.and_eq_true_iff.2 ⟨Bool.and_eq_true_iff.2 ⟨(by as_aux_lemma => kernel_rfl), Closed.k1⟩, Closed.k2⟩, (by as_aux_lemma => kernel_rfl)⟩, (by as_aux_lemma => kernel_rfl)⟩, (by as_aux_lemma => kernel_rfl)⟩, Closed.k6⟩, (by as_aux_lemma => kernel_rfl)⟩, Closed.k8⟩, (by as_aux_lemma => kernel_rfl)⟩, (by as_aux_lemma => kernel_rfl)⟩, (by as_aux_lemma => kernel_rfl)⟩, (by as_aux_lemma => kernel_rfl)⟩, (by as_aux_lemma => kernel_rfl)⟩, (by as_aux_lemma => kernel_rfl)⟩, (by as_aux_lemma => kernel_rfl)⟩, (by as_aux_lemma => kernel_rfl)⟩, (by as_aux_lemma => kernel_rfl)⟩, (by as_aux_lemma => kernel_rfl)⟩, (by as_aux_lemma => kernel_rfl)⟩, (by as_aux_lemma => kernel_rfl)⟩, (by as_aux_lemma => kernel_rfl)⟩, Closed.k22⟩, (by as_aux_lemma => kernel_rfl)⟩, Closed.k24⟩, Closed.k25⟩, Closed.k26⟩, Closed.k27⟩, (by as_aux_lemma => kernel_rfl)⟩, (by as_aux_lemma => kernel_rfl)⟩, (by as_aux_lemma => kernel_rfl)⟩, (by as_aux_lemma => kernel_rfl)⟩
theorem named : Try.prog.funcNamed Rows.integerBezoutRow.func = some 8 := by kernel_rfl
theorem inst : Try.f8.isInstance Try.prog Rows.integerBezoutRow.origin Rows.integerBezoutRow.targs := of_decide_eq_true (by kernel_rfl)
theorem wrap : Try.f8.isWrapper Try.prog Rows.integerBezoutRow.wrapper Rows.integerBezoutRow.mainSum := by
  unfold Func.isWrapper; first | (rw [if_pos (by decide +kernel)]; kernel_rfl) | (rw [if_neg (by decide +kernel)]; exact ⟨rfl, rfl⟩)
theorem over : Rows.integerBezoutRow.holds Try.pinned (OpenSpec.ofChange Rows.integerBezoutSpec) :=
  OpenClaim.holds_of_wide 8 Try.f8 rfl rfl rfl rfl rfl rfl rfl ⟨rfl, rfl, rfl, rfl, rfl⟩ rfl rfl rfl rfl rfl named Try.func8 closed inst wrap
    (fun os started H enc _ => lifted os started H enc)
theorem proved : Rows.IntegerBezoutSaid := over
#print axioms proved
end Go.Proofs.Ytcbdnnboddahkaa.integerBezout
