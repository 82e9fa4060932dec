/-
  WALKS: an integer of words as a machine integer.
-/
import Derived.Test.YtcbdnnboddahkaaMulI
import Derived.Laws.BitsAllLaws
namespace Go.Proofs.Ytcbdnnboddahkaa.Ws
open Go.RowKit
set_option linter.unusedVariables false
set_option maxRecDepth 100000
/-- what Small hands back -/
def smV (z : Int) : Int := if -9223372036854775808 ≤ z ∧ z ≤ 9223372036854775807 then z else 0
def smB (z : Int) : Bool := decide (-9223372036854775808 ≤ z ∧ z ≤ 9223372036854775807)
theorem or_zero (x : Nat) (hx : x < 4294967296) : bits BinOp.or IntKind.u64 0 (x : Int) = (x : Int) := by
  have h := u64_or_nat 0 x (by omega) (by omega)
  rw [Nat.zero_or] at h
  exact h
theorem or_word2 (x r : Nat) (hr : r < 4294967296) (hx : x < 4294967296) : bits BinOp.or IntKind.u64 (x : Int) ((r : Int) * 4294967296) = (r : Int) * 4294967296 + x := by
  have h := u64_or_nat x (r * 4294967296) (by omega) (by omega)
  rw [Nat.or_comm, nat_join 32 (r * 4294967296) x (by omega) (by omega)] at h
  rw [show ((r : Int) * 4294967296) = ((r * 4294967296 : Nat) : Int) from by omega, h]
  omega
theorem W_small (n : Nat) (h : (W n).length ≤ 2) : (W n = [] ∧ n = 0) ∨ (∃ a, W n = [a] ∧ a < 4294967296 ∧ n = a) ∨ (∃ a b, W n = [a, b] ∧ a < 4294967296 ∧ b < 4294967296 ∧ n = a + b * 4294967296) := by
  have hv := val_W n
  have hb := W_lt n
  match hw : W n, h with
  | [], _ => left; exact ⟨rfl, by rw [hw] at hv; simpa [val] using hv.symm⟩
  | [a], _ => right; left; rw [hw] at hv hb; exact ⟨a, rfl, hb a (by simp), by simp [val] at hv; omega⟩
  | [a, b], _ => right; right; rw [hw] at hv hb; exact ⟨a, b, rfl, hb a (by simp), hb b (by simp), by simp [val] at hv; omega⟩
  | a :: b :: c :: t, h => simp at h
theorem W_large (n : Nat) (h : 2 < (W n).length) : 18446744073709551616 ≤ n := by
  rcases Nat.lt_or_ge n 18446744073709551616 with h1 | h1
  · have := dgs_length_le 4294967296 (by decide) 2 n (by rw [show 4294967296 ^ 2 = 18446744073709551616 from by decide]; exact h1)
    unfold W at h; omega
  · exact h1
set_option maxHeartbeats 2000000 in
theorem small_large (neg : Bool) (A : Option Addr) (c : Nat) (xs : List Nat) (w : World) (h : IntIn w neg A c xs) (hl : 2 < (W (iv neg xs).natAbs).length) :
    Calls Try.prog 21 #[.agg #[.bool neg, .slice A xs.length c]] w fun e w' => e = .returned (.tuple #[.int .i64 0, .bool false]) ∧ Below w.heap.size w w' := by
  have hcm := h.sl.max
  have hlc := h.sl.le
  have hB : Below w.heap.size w (w.alloc (.cells #[.bool neg, .slice A xs.length c] 24)) := (Below.refl _ _).alloc (Nat.le_refl _) _
  have HB := Lib.hid hB
  have HX := Lib.hid h
  clear h hB
  go_enter Try.func21, Try.ntmps21
  go_wp2_with fail
  refine (trim_in (w0 := w) HX.out HB.out).mono ?_
  rintro e w1 ⟨rfl, hs, rfl⟩
  have HS := Lib.hid hs
  clear hs
  go_wp2
  go_ret2
  exact ⟨rfl, HB.out⟩
set_option maxHeartbeats 4000000 in
theorem small_two (neg : Bool) (A : Option Addr) (c : Nat) (xs : List Nat) (w : World) (a b : Nat) (ha : a < 4294967296) (hb : b < 4294967296) (h : IntIn w neg A c xs) (hw : W (iv neg xs).natAbs = [a, b]) (S : Nat) (hS : S = a + b * 4294967296) (hn : (iv neg xs).natAbs = S) (v : Int) (ok : Bool) (hvv : v = smV (iv neg xs)) (hoo : ok = smB (iv neg xs)) :
    Calls Try.prog 21 #[.agg #[.bool neg, .slice A xs.length c]] w fun e w' => e = .returned (.tuple #[.int .i64 v, .bool ok]) ∧ Below w.heap.size w w' := by
  have hcm := h.sl.max
  have hlc := h.sl.le
  have hz := iv_eq neg xs
  rw [hn] at hz
  have hB : Below w.heap.size w (w.alloc (.cells #[.bool neg, .slice A xs.length c] 24)) := (Below.refl _ _).alloc (Nat.le_refl _) _
  have hdg := h.dg hB
  rw [hw] at hdg
  have hc2 := hdg.le
  have hc3 := hdg.max
  simp only [List.length_cons, List.length_nil] at hc2
  obtain ⟨p, o, e, hcell⟩ := hdg.rd (by simp)
  subst e
  have hc0 := hcell 0 (by simp)
  have hc1 := hcell 1 (by simp)
  simp only [List.getD_cons_zero, List.getD_cons_succ, Nat.add_zero] at hc0 hc1
  have o0 := or_zero a ha
  have o1 : bits BinOp.or IntKind.u64 (a : Int) ((b : Int) * 4294967296) = (S : Int) := by rw [or_word2 a b hb ha, hS]; omega
  clear hcell
  have hSb : S ≤ 18446744073709551615 := by omega
  have HB := Lib.hid hB
  have HX := Lib.hid h
  have HW := Lib.hid hw
  have hcase : (neg = true ∧ S ≤ 9223372036854775808 ∧ v = -(S : Int) ∧ ok = true) ∨ (neg = false ∧ S ≤ 9223372036854775807 ∧ v = (S : Int) ∧ ok = true) ∨ (neg = true ∧ 9223372036854775809 ≤ S ∧ v = 0 ∧ ok = false) ∨ (neg = false ∧ 9223372036854775808 ≤ S ∧ v = 0 ∧ ok = false) := by
    rw [hvv, hoo, hz]
    unfold smV smB
    cases neg
    · by_cases h5 : S ≤ 9223372036854775807
      · right; left; simp; omega
      · right; right; right; simp; omega
    · by_cases h5 : S ≤ 9223372036854775808
      · left; simp; omega
      · right; right; left; simp; omega
  clear h hB hdg hw hz hn hvv hoo hS
  rcases hcase with ⟨hn, h1, h2, h3⟩ | ⟨hn, h1, h2, h3⟩ | ⟨hn, h1, h2, h3⟩ | ⟨hn, h1, h2, h3⟩
  · have hwr : IntKind.i64.wrap (IntKind.u64.wrap (-(S : Int))) = -(S : Int) := by simp only [IntKind.wrap_u64, IntKind.wrap_i64]; omega
    have H2 := Lib.hid h2
    subst hn h3
    clear h2
    go_enter Try.func21, Try.ntmps21
    go_wp2_with fail
    refine (trim_in (w0 := w) HX.out HB.out).mono ?_
    rw [HW.out]
    rintro e w1 ⟨rfl, hs, rfl⟩
    clear hs
    simp only [List.length_cons, List.length_nil]
    go_wp2
    refine wp_loop_rounds 3 ?_
    rw [rounds_succ]
    go_wp2
    rw [rounds_succ]
    go_wp2
    rw [rounds_succ]
    go_wp2
    go_ret2
    exact ⟨by rw [H2.out]; rfl, HB.out⟩
  · have hd : decide ((S : Int) < 9223372036854775808) = true := by rw [decide_eq_true_iff]; omega
    have H2 := Lib.hid h2
    subst hn h3
    clear h2
    go_enter Try.func21, Try.ntmps21
    go_wp2_with fail
    refine (trim_in (w0 := w) HX.out HB.out).mono ?_
    rw [HW.out]
    rintro e w1 ⟨rfl, hs, rfl⟩
    clear hs
    simp only [List.length_cons, List.length_nil]
    go_wp2
    refine wp_loop_rounds 3 ?_
    rw [rounds_succ]
    go_wp2
    rw [rounds_succ]
    go_wp2
    rw [rounds_succ]
    go_wp2
    go_ret2
    exact ⟨by rw [H2.out]; rfl, HB.out⟩
  · have hd : decide ((S : Int) < 9223372036854775808) = false := by rw [decide_eq_false_iff_not]; omega
    have hd2 : decide ((S : Int) ≤ 9223372036854775808) = false := by rw [decide_eq_false_iff_not]; omega
    have H2 := Lib.hid h2
    subst hn h3
    clear h2
    go_enter Try.func21, Try.ntmps21
    go_wp2_with fail
    refine (trim_in (w0 := w) HX.out HB.out).mono ?_
    rw [HW.out]
    rintro e w1 ⟨rfl, hs, rfl⟩
    clear hs
    simp only [List.length_cons, List.length_nil]
    go_wp2
    refine wp_loop_rounds 3 ?_
    rw [rounds_succ]
    go_wp2
    rw [rounds_succ]
    go_wp2
    rw [rounds_succ]
    go_wp2
    go_ret2
    exact ⟨by rw [H2.out]; rfl, HB.out⟩
  · have hd : decide ((S : Int) < 9223372036854775808) = false := by rw [decide_eq_false_iff_not]; omega
    have H2 := Lib.hid h2
    subst hn h3
    clear h2
    go_enter Try.func21, Try.ntmps21
    go_wp2_with fail
    refine (trim_in (w0 := w) HX.out HB.out).mono ?_
    rw [HW.out]
    rintro e w1 ⟨rfl, hs, rfl⟩
    clear hs
    simp only [List.length_cons, List.length_nil]
    go_wp2
    refine wp_loop_rounds 3 ?_
    rw [rounds_succ]
    go_wp2
    rw [rounds_succ]
    go_wp2
    rw [rounds_succ]
    go_wp2
    go_ret2
    exact ⟨by rw [H2.out]; rfl, HB.out⟩
set_option maxHeartbeats 4000000 in
theorem small_one (neg : Bool) (A : Option Addr) (c : Nat) (xs : List Nat) (w : World) (a : Nat) (ha : a < 4294967296) (h : IntIn w neg A c xs) (hw : W (iv neg xs).natAbs = [a]) (S : Nat) (hS : S = a) (hn : (iv neg xs).natAbs = S) (v : Int) (ok : Bool) (hvv : v = smV (iv neg xs)) (hoo : ok = smB (iv neg xs)) :
    Calls Try.prog 21 #[.agg #[.bool neg, .slice A xs.length c]] w fun e w' => e = .returned (.tuple #[.int .i64 v, .bool ok]) ∧ Below w.heap.size w w' := by
  have hcm := h.sl.max
  have hlc := h.sl.le
  have hz := iv_eq neg xs
  rw [hn] at hz
  have hB : Below w.heap.size w (w.alloc (.cells #[.bool neg, .slice A xs.length c] 24)) := (Below.refl _ _).alloc (Nat.le_refl _) _
  have hdg := h.dg hB
  rw [hw] at hdg
  have hc2 := hdg.le
  have hc3 := hdg.max
  simp only [List.length_cons, List.length_nil] at hc2
  obtain ⟨p, o, e, hcell⟩ := hdg.rd (by simp)
  subst e
  have hc0 := hcell 0 (by simp)
  simp only [List.getD_cons_zero, Nat.add_zero] at hc0
  have o0 : bits BinOp.or IntKind.u64 0 (a : Int) = (S : Int) := by rw [or_zero a ha, hS]
  clear hcell
  have hSb : S ≤ 18446744073709551615 := by omega
  have HB := Lib.hid hB
  have HX := Lib.hid h
  have HW := Lib.hid hw
  have hcase : (neg = true ∧ S ≤ 9223372036854775808 ∧ v = -(S : Int) ∧ ok = true) ∨ (neg = false ∧ S ≤ 9223372036854775807 ∧ v = (S : Int) ∧ ok = true) ∨ (neg = true ∧ 9223372036854775809 ≤ S ∧ v = 0 ∧ ok = false) ∨ (neg = false ∧ 9223372036854775808 ≤ S ∧ v = 0 ∧ ok = false) := by
    rw [hvv, hoo, hz]
    unfold smV smB
    cases neg
    · by_cases h5 : S ≤ 9223372036854775807
      · right; left; simp; omega
      · right; right; right; simp; omega
    · by_cases h5 : S ≤ 9223372036854775808
      · left; simp; omega
      · right; right; left; simp; omega
  clear h hB hdg hw hz hn hvv hoo hS
  rcases hcase with ⟨hn, h1, h2, h3⟩ | ⟨hn, h1, h2, h3⟩ | ⟨hn, h1, h2, h3⟩ | ⟨hn, h1, h2, h3⟩
  · have hwr : IntKind.i64.wrap (IntKind.u64.wrap (-(S : Int))) = -(S : Int) := by simp only [IntKind.wrap_u64, IntKind.wrap_i64]; omega
    have H2 := Lib.hid h2
    subst hn h3
    clear h2
    go_enter Try.func21, Try.ntmps21
    go_wp2_with fail
    refine (trim_in (w0 := w) HX.out HB.out).mono ?_
    rw [HW.out]
    rintro e w1 ⟨rfl, hs, rfl⟩
    clear hs
    simp only [List.length_cons, List.length_nil]
    go_wp2
    refine wp_loop_rounds 2 ?_
    rw [rounds_succ]
    go_wp2
    rw [rounds_succ]
    go_wp2
    go_ret2
    exact ⟨by rw [H2.out]; rfl, HB.out⟩
  · have hd : decide ((S : Int) < 9223372036854775808) = true := by rw [decide_eq_true_iff]; omega
    have H2 := Lib.hid h2
    subst hn h3
    clear h2
    go_enter Try.func21, Try.ntmps21
    go_wp2_with fail
    refine (trim_in (w0 := w) HX.out HB.out).mono ?_
    rw [HW.out]
    rintro e w1 ⟨rfl, hs, rfl⟩
    clear hs
    simp only [List.length_cons, List.length_nil]
    go_wp2
    refine wp_loop_rounds 2 ?_
    rw [rounds_succ]
    go_wp2
    rw [rounds_succ]
    go_wp2
    go_ret2
    exact ⟨by rw [H2.out]; rfl, HB.out⟩
  · have hd : decide ((S : Int) < 9223372036854775808) = false := by rw [decide_eq_false_iff_not]; omega
    have hd2 : decide ((S : Int) ≤ 9223372036854775808) = false := by rw [decide_eq_false_iff_not]; omega
    have H2 := Lib.hid h2
    subst hn h3
    clear h2
    go_enter Try.func21, Try.ntmps21
    go_wp2_with fail
    refine (trim_in (w0 := w) HX.out HB.out).mono ?_
    rw [HW.out]
    rintro e w1 ⟨rfl, hs, rfl⟩
    clear hs
    simp only [List.length_cons, List.length_nil]
    go_wp2
    refine wp_loop_rounds 2 ?_
    rw [rounds_succ]
    go_wp2
    rw [rounds_succ]
    go_wp2
    go_ret2
    exact ⟨by rw [H2.out]; rfl, HB.out⟩
  · have hd : decide ((S : Int) < 9223372036854775808) = false := by rw [decide_eq_false_iff_not]; omega
    have H2 := Lib.hid h2
    subst hn h3
    clear h2
    go_enter Try.func21, Try.ntmps21
    go_wp2_with fail
    refine (trim_in (w0 := w) HX.out HB.out).mono ?_
    rw [HW.out]
    rintro e w1 ⟨rfl, hs, rfl⟩
    clear hs
    simp only [List.length_cons, List.length_nil]
    go_wp2
    refine wp_loop_rounds 2 ?_
    rw [rounds_succ]
    go_wp2
    rw [rounds_succ]
    go_wp2
    go_ret2
    exact ⟨by rw [H2.out]; rfl, HB.out⟩
set_option maxHeartbeats 2000000 in
theorem small_zero (neg : Bool) (A : Option Addr) (c : Nat) (xs : List Nat) (w : World) (h : IntIn w neg A c xs) (hw : W (iv neg xs).natAbs = []) :
    Calls Try.prog 21 #[.agg #[.bool neg, .slice A xs.length c]] w fun e w' => e = .returned (.tuple #[.int .i64 0, .bool true]) ∧ Below w.heap.size w w' := by
  have hcm := h.sl.max
  have hlc := h.sl.le
  have hB : Below w.heap.size w (w.alloc (.cells #[.bool neg, .slice A xs.length c] 24)) := (Below.refl _ _).alloc (Nat.le_refl _) _
  have HB := Lib.hid hB
  have HX := Lib.hid h
  have HW := Lib.hid hw
  clear h hB hw
  cases neg
  all_goals
    go_enter Try.func21, Try.ntmps21
    go_wp2_with fail
    refine (trim_in (w0 := w) HX.out HB.out).mono ?_
    rw [HW.out]
    rintro e w1 ⟨rfl, hs, rfl⟩
    clear hs
    simp only [List.length_nil]
    go_wp2
    refine wp_loop_rounds 1 ?_
    rw [rounds_succ]
    go_wp2
    go_ret2
    exact ⟨rfl, HB.out⟩
def SmEnd (z : Int) (w : World) (e : Ending) (w' : World) : Prop := e = .returned (.tuple #[.int .i64 (smV z), .bool (smB z)]) ∧ Below w.heap.size w w'
theorem small_any (neg : Bool) (A : Option Addr) (c : Nat) (xs : List Nat) (w : World) (h : IntIn w neg A c xs) :
    Calls Try.prog 21 #[.agg #[.bool neg, .slice A xs.length c]] w fun e w' => SmEnd (iv neg xs) w e w' := by
  rcases Nat.lt_or_ge 2 (W (iv neg xs).natAbs).length with hl | hl
  · refine (small_large neg A c xs w h hl).mono fun e w' ⟨he, hb⟩ => ⟨?_, hb⟩
    have := W_large _ hl
    have h1 : smV (iv neg xs) = 0 := by unfold smV; rw [if_neg (by omega)]
    have h2 : smB (iv neg xs) = false := by unfold smB; rw [decide_eq_false_iff_not]; omega
    rw [h1, h2]; exact he
  · rcases W_small _ hl with ⟨hw, h0⟩ | ⟨a, hw, ha, h0⟩ | ⟨a, b, hw, ha, hb, h0⟩
    · refine (small_zero neg A c xs w h hw).mono fun e w' ⟨he, hb⟩ => ⟨?_, hb⟩
      have h3 : iv neg xs = 0 := by omega
      rw [h3]; exact he
    · exact small_one neg A c xs w a ha h hw a rfl h0 _ _ rfl rfl
    · exact small_two neg A c xs w a b ha hb h hw _ rfl h0 _ _ rfl rfl
end Go.Proofs.Ytcbdnnboddahkaa.Ws
