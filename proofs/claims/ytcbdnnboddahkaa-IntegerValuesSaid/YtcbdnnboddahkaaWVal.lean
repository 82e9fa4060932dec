/-
  The walk of the law IntegerValues.
-/
import Derived.Test.YtcbdnnboddahkaaRsm
import Derived.Test.YtcbdnnboddahkaaArgI
import Derived.Test.YtcbdnnboddahkaaAwake
namespace Go.Proofs.Ytcbdnnboddahkaa.Ws
open Go.RowKit
set_option linter.unusedVariables false
set_option maxRecDepth 100000
set_option maxHeartbeats 4000000 in
theorem walk_values (nx ny : Bool) (X Y : Option Addr) (c d : Nat) (xs ys : List Nat) (n : Int) (w : World) (hx : Sl w .u32 X c xs) (hy : Sl w .u32 Y d ys) (bx : ∀ x ∈ xs, x < 4294967296) (bz : ∀ x ∈ ys, x < 4294967296) (hn1 : -9223372036854775808 ≤ n) (hn2 : n ≤ 9223372036854775807) :
    Calls Try.prog 3 #[.agg #[.bool nx, .slice X xs.length c], .agg #[.bool ny, .slice Y ys.length d], .int .i64 n] w fun e w' => e = .returned (.bool true) ∧ Below w.heap.size w w' := by
  have hlx := hx.le
  have hmx := hx.max
  have hly := hy.le
  have hmy := hy.max
  have HX := Lib.hid hx
  have HY := Lib.hid hy
  have BX := Lib.hid bx
  have BY := Lib.hid bz
  clear hx hy bx bz
  have hB2 : Below w.heap.size w ((w.alloc (Obj.cells #[Value.bool nx, Value.slice X xs.length c] 24)).alloc (Obj.cells #[Value.bool ny, Value.slice Y ys.length d] 24)) := by go_grown
  have hA := args2 (w := (w.alloc (Obj.cells #[Value.bool nx, Value.slice X xs.length c] 24)).alloc (Obj.cells #[Value.bool ny, Value.slice Y ys.length d] 24)) (g := w.heap.size + 1 + 1) (nx := nx) (ny := ny) (X := X) (Y := Y) (l := xs.length) (m := ys.length) (c := c) (d := d) 24 (by simp)
  have HARG := Lib.hid hA
  have hcx : Cl (((w.alloc (Obj.cells #[Value.bool nx, Value.slice X xs.length c] 24)).alloc (Obj.cells #[Value.bool ny, Value.slice Y ys.length d] 24)).alloc (Obj.cells #[Value.bool nx, Value.slice X xs.length c, Value.bool ny, Value.slice Y ys.length d] 24)) w.heap.size nx X xs.length c :=
    ⟨by simp [go_sem], by simp [go_sem], by simp [go_sem], by simp [go_sem]⟩
  have hcy : Cl (((w.alloc (Obj.cells #[Value.bool nx, Value.slice X xs.length c] 24)).alloc (Obj.cells #[Value.bool ny, Value.slice Y ys.length d] 24)).alloc (Obj.cells #[Value.bool nx, Value.slice X xs.length c, Value.bool ny, Value.slice Y ys.length d] 24)) (w.heap.size + 1) ny Y ys.length d :=
    ⟨by simp [go_sem], by simp [go_sem], by simp [go_sem], by simp [go_sem]⟩
  have hzz : (((w.alloc (Obj.cells #[Value.bool nx, Value.slice X xs.length c] 24)).alloc (Obj.cells #[Value.bool ny, Value.slice Y ys.length d] 24)).alloc (Obj.cells #[Value.bool nx, Value.slice X xs.length c, Value.bool ny, Value.slice Y ys.length d] 24)).heap.size = w.heap.size + 3 := by simp
  have hB3 : Below w.heap.size w (((w.alloc (Obj.cells #[Value.bool nx, Value.slice X xs.length c] 24)).alloc (Obj.cells #[Value.bool ny, Value.slice Y ys.length d] 24)).alloc (Obj.cells #[Value.bool nx, Value.slice X xs.length c, Value.bool ny, Value.slice Y ys.length d] 24)) := by go_grown
  have HK0 := Lib.hid (K2.mk' hcx hcy (by rw [hzz]; omega) (by rw [hzz]; omega))
  have HB3 := Lib.hid hB3
  clear hB2 hA hcx hcy hzz hB3
  cases hf : fewB [xs.length, ys.length] with
  | false =>
    have HF := Lib.hid hf
    clear hf
    go_enter Try.func3, Try.ntmps3
    go_wp2_with fail
    refine (short_any (w.heap.size + 1 + 1) [xs.length, ys.length] _ HARG.out (by simp) (by simp; omega)).mono ?_
    rw [HF.out]
    rintro e w1 ⟨rfl, rfl⟩
    go_wp2_with fail
    refine (awake_any _).mono ?_
    rintro e w2 ⟨rfl, hb⟩
    have HB := Lib.hid (HB3.out.trans (hb.mono HB3.out.size))
    clear hb
    go_wp2
    go_ret
    exact ⟨rfl, HB.out⟩
  | true =>
    obtain ⟨hl6, hm6⟩ := few2_yes hf
    have HF := Lib.hid hf
    clear hf
    have HIX : Hid (IntIn w nx X c xs) := Lib.hid ⟨HX.out, BX.out, by omega⟩
    have HIY : Hid (IntIn w ny Y d ys) := Lib.hid ⟨HY.out, BY.out, by omega⟩
    have hwn : (W n.natAbs).length ≤ 2 := W_len_lt (by omega)
    have hwx : (W (iv nx xs).natAbs).length ≤ 6 := Nat.le_trans HIX.out.wlen hl6
    have hsv : smV n = n := by unfold smV; rw [if_pos ⟨hn1, hn2⟩]
    have hsb : smB n = true := by unfold smB; exact decide_eq_true ⟨hn1, hn2⟩
    have HSV := Lib.hid hsv
    have HSB := Lib.hid hsb
    clear hsv hsb
    go_enter Try.func3, Try.ntmps3
    go_wp2_with fail
    refine (short_any (w.heap.size + 1 + 1) [xs.length, ys.length] _ HARG.out (by simp) (by simp; omega)).mono ?_
    rw [HF.out]
    rintro e w1 ⟨rfl, rfl⟩
    generalize (((w.alloc (Obj.cells #[Value.bool nx, Value.slice X xs.length c] 24)).alloc (Obj.cells #[Value.bool ny, Value.slice Y ys.length d] 24)).alloc (Obj.cells #[Value.bool nx, Value.slice X xs.length c, Value.bool ny, Value.slice Y ys.length d] 24)) = W0 at *
    obtain ⟨q0, q1, -, -⟩ := HK0.out.x
    go_wp2_with fail
    refine (small_any nx X c xs _ (HIX.out.below HB3.out)).mono ?_
    rintro e w2 ⟨rfl, hb⟩
    have HK2 := Lib.hid (HK0.out.below hb)
    obtain ⟨r0, r1, -, -⟩ := HK2.out.x
    clear hb q0 q1
    go_wp2_with fail
    refine (rSmall_any nx X c xs _ (HIX.out.below (HB3.out.trans (HK2.out.bel.mono HB3.out.size))) (by omega)).mono ?_
    rintro e w3 ⟨rfl, hb⟩
    have HK3 := Lib.hid (HK2.out.below hb)
    clear hb r0 r1
    go_wp2_with fail
    refine (of_any n _ hn1 hn2).mono ?_
    rintro e w4 ⟨v4, rfl, hi4, hb⟩
    obtain ⟨n4, A4, c4, zs4, rfl, hin4, hiv4, -⟩ := hi4.in_ (by omega)
    have HIN4 := Lib.hid hin4
    have HIV4 := Lib.hid hiv4
    have HK4 := Lib.hid (HK3.out.below hb)
    clear hb hi4 hin4 hiv4
    go_wp2_with fail
    refine (small_any n4 A4 c4 zs4 _ HIN4.out).mono ?_
    rw [HIV4.out]
    unfold SmEnd
    rw [HSV.out, HSB.out]
    rintro e w5 ⟨rfl, hb⟩
    have HK5 := Lib.hid (HK4.out.below hb)
    clear hb
    go_wp2_with fail
    generalize smV (iv nx xs) = sv at *
    generalize smB (iv nx xs) = sb at *
    have hk0 := HK5.out
    clear HK2 HK3 HK4 HIN4 HIV4
    go_region_held3 (fun w' => (w'.cell? ⟨w.heap.size, 0, none⟩ = some (.bool nx) ∧ w'.cell? ⟨w.heap.size, 1, none⟩ = some (.slice X xs.length c) ∧ w'.cell? ⟨w.heap.size + 1, 0, none⟩ = some (.bool ny) ∧ w'.cell? ⟨w.heap.size + 1, 1, none⟩ = some (.slice Y ys.length d)) ∧ K2 W0 w.heap.size nx X xs.length c (w.heap.size + 1) ny Y ys.length d w') (first | exact K2.ks (by assumption) | exact K2.ks (K2.draws 1 (by assumption)))
      (first
        | (go_at_call 23; ((with_reducible refine (of_any n _ hn1 hn2).mono ?_)); rintro e w' ⟨u1, rfl, hu1, hbel⟩; have hk' := K2.below hbel (And.right (by assumption)); clear hbel)
        | (go_at_call 25; ((with_reducible refine (rOf_any n _ hn1 hn2).mono ?_)); rintro e w' ⟨u2, rfl, hu2, hbel⟩; have hu1b := IntIs.below hu1 hbel; have hk' := K2.below hbel (And.right (by assumption)); clear hbel hu1)
        | (go_at_call 24; ((with_reducible refine (same_any n _ _ _ hu1b hu2 (by omega)).mono ?_)); rintro e w' ⟨rfl, hbel⟩; have hk' := K2.below hbel (And.right (by assumption)); clear hbel hu1b hu2)
        | (go_at_call 26; ((with_reducible refine (normal_any nx X c xs _ ?_).mono ?_)); (exact HIX.out.below (HB3.out.trans ((K2.bel (And.right (by assumption))).mono HB3.out.size))); rintro e w' ⟨t1, rfl, ht1, hbel⟩; have hk' := K2.below hbel (And.right (by assumption)); clear hbel)
        | (go_at_call 27; ((with_reducible refine (rNormal_any nx X c xs _ ?_).mono ?_)); (exact HIX.out.below (HB3.out.trans ((K2.bel (And.right (by assumption))).mono HB3.out.size))); rintro e w' ⟨t2, rfl, ht2, hbel⟩; have ht1b := IntIs.below ht1 hbel; have hk' := K2.below hbel (And.right (by assumption)); clear hbel ht1)
        | (go_at_call 24; ((with_reducible refine (same_any (iv nx xs) _ _ _ ht1b ht2 (by omega)).mono ?_)); rintro e w' ⟨rfl, hbel⟩; have hk' := K2.below hbel (And.right (by assumption)); clear hbel ht1b ht2)
        | (go_at_call 28; ((with_reducible refine (Cmp_any nx ny X Y c d xs ys _ ?_ ?_).mono ?_)); (exact HIX.out.below (HB3.out.trans ((K2.bel (And.right (by assumption))).mono HB3.out.size))); (exact HIY.out.below (HB3.out.trans ((K2.bel (And.right (by assumption))).mono HB3.out.size))); rintro e w' ⟨rfl, hbel⟩; have hk' := K2.below hbel (And.right (by assumption)); clear hbel)
        | (go_at_call 29; ((with_reducible refine (rCmp_any nx ny X Y c d xs ys _ ?_ ?_ (by omega) (by omega)).mono ?_)); (exact HIX.out.below (HB3.out.trans ((K2.bel (And.right (by assumption))).mono HB3.out.size))); (exact HIY.out.below (HB3.out.trans ((K2.bel (And.right (by assumption))).mono HB3.out.size))); rintro e w' ⟨rfl, hbel⟩; have hk' := K2.below hbel (And.right (by assumption)); clear hbel)
        | (go_at_call 20; ((with_reducible refine (awake_any _).mono ?_)); rintro e w' ⟨rfl, hbel⟩; have hk' := K2.below hbel (And.right (by assumption)); clear hbel))
    all_goals go_wp2
    all_goals go_ret
    all_goals exact ⟨rfl, HB3.out.trans (hk'.bel.mono HB3.out.size)⟩
end Go.Proofs.Ytcbdnnboddahkaa.Ws
