/-
  WALKS of the reference: differences, signs, comparisons of integers of words.
-/
import Derived.Test.YtcbdnnboddahkaaRaddI
namespace Go.Proofs.Ytcbdnnboddahkaa.Ws
open Go.RowKit
set_option linter.unusedVariables false
set_option maxRecDepth 100000
theorem W_len_lt {n k : Nat} (h : n < 4294967296 ^ k) : (W n).length ≤ k := dgs_length_le _ (by decide) _ _ h
theorem W_pow (n : Nat) : n < 4294967296 ^ (W n).length := dgs_length_lt _ (by decide) n
theorem pow_mono {a b : Nat} (h : a ≤ b) : 4294967296 ^ a ≤ 4294967296 ^ b := Nat.pow_le_pow_right (by decide) h
/-- lengths of sums and differences -/
theorem W_len_pm {a b z : Int} {k : Nat} (ha : (W a.natAbs).length ≤ k) (hb : (W b.natAbs).length ≤ k) (hz : z.natAbs ≤ a.natAbs + b.natAbs) : (W z.natAbs).length ≤ k + 1 := by
  refine W_len_lt ?_
  have h1 := W_pow a.natAbs
  have h2 := W_pow b.natAbs
  have h3 := pow_mono ha
  have h4 := pow_mono hb
  rw [Nat.pow_succ]
  omega
theorem IntIn.wlen {neg : Bool} {A : Option Addr} {c : Nat} {xs : List Nat} {w : World} (h : IntIn w neg A c xs) : (W (iv neg xs).natAbs).length ≤ xs.length := by
  rw [← trimL_W neg h.lt]; exact trimL_length xs
theorem D_len_in {neg : Bool} {A : Option Addr} {c k : Nat} {xs : List Nat} {w : World} (h : IntIn w neg A c xs) (hl : xs.length ≤ k) : (D (iv neg xs).natAbs).length ≤ 2 * k := by
  have h1 := D_len_W (iv neg xs).natAbs
  have := h.wlen
  omega
set_option maxHeartbeats 4000000 in
theorem rSub_any (nx ny : Bool) (X Y : Option Addr) (c d : Nat) (xs ys : List Nat) (w : World) (hx : IntIn w nx X c xs) (hy : IntIn w ny Y d ys) (hlx : xs.length ≤ 400000) (hly : ys.length ≤ 400000) :
    Calls Try.prog 33 #[.agg #[.bool nx, .slice X xs.length c], .agg #[.bool ny, .slice Y ys.length d]] w fun e w' => IntOut w (iv nx xs - iv ny ys) e w' := by
  have hB : Below w.heap.size w (((w.alloc (Obj.cells #[Value.bool nx, Value.slice X xs.length c] 24)).alloc (Obj.cells #[Value.bool ny, Value.slice Y ys.length d] 24)).alloc (Obj.cells #[Value.bool false, Value.slice none 0 0] 24)) := by go_grown
  have hC : Cl (((w.alloc (Obj.cells #[Value.bool nx, Value.slice X xs.length c] 24)).alloc (Obj.cells #[Value.bool ny, Value.slice Y ys.length d] 24)).alloc (Obj.cells #[Value.bool false, Value.slice none 0 0] 24)) w.heap.size nx X xs.length c :=
    ⟨by simp [go_sem], by simp [go_sem], by simp [go_sem], by simp [go_sem]⟩
  have hD : Cl (((w.alloc (Obj.cells #[Value.bool nx, Value.slice X xs.length c] 24)).alloc (Obj.cells #[Value.bool ny, Value.slice Y ys.length d] 24)).alloc (Obj.cells #[Value.bool false, Value.slice none 0 0] 24)) (w.heap.size + 1) ny Y ys.length d :=
    ⟨by simp [go_sem], by simp [go_sem], by simp [go_sem], by simp [go_sem]⟩
  have hR : Cl (((w.alloc (Obj.cells #[Value.bool nx, Value.slice X xs.length c] 24)).alloc (Obj.cells #[Value.bool ny, Value.slice Y ys.length d] 24)).alloc (Obj.cells #[Value.bool false, Value.slice none 0 0] 24)) (w.heap.size + 1 + 1) false none 0 0 :=
    ⟨by simp [go_sem], by simp [go_sem], by simp [go_sem], by simp [go_sem]⟩
  have hz : (((w.alloc (Obj.cells #[Value.bool nx, Value.slice X xs.length c] 24)).alloc (Obj.cells #[Value.bool ny, Value.slice Y ys.length d] 24)).alloc (Obj.cells #[Value.bool false, Value.slice none 0 0] 24)).heap.size = w.heap.size + 3 := by simp
  have hl1 := hx.dlen
  have hl2 := hy.dlen
  have HX := Lib.hid hx
  have HY := Lib.hid hy
  have HB := Lib.hid hB
  have HC := Lib.hid hC
  have HD := Lib.hid hD
  have HR := Lib.hid hR
  have HZ := Lib.hid hz
  have hw1 : (W (-iv ny ys).natAbs).length ≤ 1000000 := by rw [Int.natAbs_neg]; have := hy.wlen; omega
  have hd1 : (D (iv nx xs).natAbs).length ≤ 1000000 := by have := D_len_in hx hlx; omega
  have hd2 : (D (-iv ny ys).natAbs).length ≤ 1000000 := by rw [Int.natAbs_neg]; have := D_len_in hy hly; omega
  clear hx hy hB hC hD hR hz
  go_enter Try.func33, Try.ntmps33
  go_wp2_with fail
  generalize (((w.alloc (Obj.cells #[Value.bool nx, Value.slice X xs.length c] 24)).alloc (Obj.cells #[Value.bool ny, Value.slice Y ys.length d] 24)).alloc (Obj.cells #[Value.bool false, Value.slice none 0 0] 24)) = W0 at *
  have hk0 : N2 W0 w.heap.size nx X xs.length c ny Y ys.length d W0 := N2.mk' HC.out HD.out HR.out (by have := HZ.out; omega)
  go_region_held3 (fun w' => (w'.cell? ⟨w.heap.size, 0, none⟩ = some (.bool nx) ∧ w'.cell? ⟨w.heap.size, 1, none⟩ = some (.slice X xs.length c) ∧ w'.cell? ⟨w.heap.size + 1, 0, none⟩ = some (.bool ny) ∧ w'.cell? ⟨w.heap.size + 1, 1, none⟩ = some (.slice Y ys.length d)) ∧ N2 W0 w.heap.size nx X xs.length c ny Y ys.length d w') (first | exact N2.ks (by assumption) | exact N2.ks (N2.draws 1 (by assumption)) | exact N2.ks (N2.stored _ _ _ _ (by assumption)))
    (first
      | (go_at_call 102; ((with_reducible refine (rNeg_any ny Y d ys _ ?_).mono ?_)); (exact HY.out.below (HB.out.trans ((N2.bel (And.right (by assumption))).mono (by omega)))); rintro e w' ⟨v, rfl, hi1, hbel⟩; have hk' := N2.below hbel (And.right (by assumption)); obtain ⟨nn, A1, c1, zs, rfl, hin, hiv, -⟩ := hi1.in_ hw1; have HIN := Lib.hid hin; have HIV := Lib.hid hiv; clear hbel hin hiv hi1)
      | (go_at_call 31; ((with_reducible refine (rAdd_any nx _ X _ c _ xs _ _ ?_ HIN.out ?_ ?_).mono ?_)); (exact HX.out.below (HB.out.trans ((N2.bel (And.right (by assumption))).mono (by omega)))); (exact hd1); (rw [HIV.out]; exact hd2); rintro e w' ⟨v, rfl, hi1, hbel⟩; have hk' := N2.below hbel (And.right (by assumption)); rw [HIV.out] at hi1; have hi2 := Lib.hid hi1; obtain ⟨A4, c4, rfl, -⟩ := hi1; obtain ⟨b0, A0, n0, c0, hcl⟩ := hk'.r; obtain ⟨q1, q2, q3, q4⟩ := hcl; clear hbel))
  go_wp2
  refine bodyPost_ret (v := .agg #[.bool (decide (iv nx xs + -iv ny ys < 0)), .slice A4 (W (iv nx xs + -iv ny ys).natAbs).length c4]) (by simp [results, Try.results33, go_sem, q1, q2]) rfl ?_
  rw [Int.sub_eq_add_neg]
  exact Cl.stored ⟨q1, q2, q3, q4⟩ hi2.out (HB.out.trans (hk'.bel.mono (by omega))) (by omega)
set_option maxHeartbeats 400000 in
theorem rSign_any (neg : Bool) (A : Option Addr) (c : Nat) (xs : List Nat) (w : World) (h : IntIn w neg A c xs) :
    Calls Try.prog 96 #[.agg #[.bool neg, .slice A xs.length c]] w fun e w' => e = .returned (.int .i64 (iv neg xs).sign) ∧ Below w.heap.size w w' := by
  have hC : w.heap.size < (w.alloc (.cells #[.bool neg, .slice A xs.length c] 24)).heap.size := by simp
  have HI := Lib.hid (h.below ((Below.refl _ _).alloc (Nat.le_refl _) (.cells #[.bool neg, .slice A xs.length c] 24)))
  have hcl : Cl (w.alloc (.cells #[.bool neg, .slice A xs.length c] 24)) w.heap.size neg A xs.length c :=
    ⟨by simp [go_sem], by simp [go_sem], by simp [go_sem], by simp [go_sem]⟩
  have HC := Lib.hid hcl
  have HL := Lib.hid h.lt
  clear h hcl
  have hcase : ((D (iv neg xs).natAbs).length = 0 ∧ iv neg xs = 0) ∨ (0 < (D (iv neg xs).natAbs).length ∧ (iv neg xs).sign = if neg then -1 else 1) := by
    rcases Nat.eq_zero_or_pos (D (iv neg xs).natAbs).length with h | h
    · left; refine ⟨h, ?_⟩
      have := D_nil.1 (List.eq_nil_of_length_eq_zero h)
      omega
    · right; refine ⟨h, ?_⟩
      have hp : (iv neg xs).natAbs ≠ 0 := fun h0 => by rw [h0] at h; simp [D, dgs_zero] at h
      have := iv_eq neg xs
      cases neg
      · simp at this ⊢; omega
      · simp at this ⊢; omega
  rcases hcase with ⟨h0, hz⟩ | ⟨h0, hz⟩
  · have ht : (((D (iv neg xs).natAbs).length : Int) == 0) = true := by simp [h0]
    have HZ := Lib.hid hz
    clear h0 hz
    go_enter Try.func96, Try.ntmps96
    go_wp2_with fail
    refine (rdigits_any neg A c xs _ HI.out).mono ?_
    rintro e w1 ⟨A1, c1, rfl, hs1, hbel⟩
    have HB := Lib.hid (((Below.refl w.heap.size w).alloc (Nat.le_refl _) (.cells #[.bool neg, .slice A xs.length c] 24)).trans (hbel.mono (by simp)))
    clear hs1 hbel
    go_wp2
    go_ret
    exact ⟨retk (by rw [HZ.out]; rfl), HB.out⟩
  · have ht : (((D (iv neg xs).natAbs).length : Int) == 0) = false := by simp; intro h; simp [h] at h0
    have HZ := Lib.hid hz
    clear h0 hz
    cases neg
    all_goals
      go_enter Try.func96, Try.ntmps96
      go_wp2_with fail
      refine (rdigits_any _ A c xs _ HI.out).mono ?_
      rintro e w1 ⟨A1, c1, rfl, hs1, hbel⟩
      have HB := Lib.hid (((Below.refl w.heap.size w).alloc (Nat.le_refl _) (.cells #[.bool _, .slice A xs.length c] 24)).trans (hbel.mono (by simp)))
      obtain ⟨q1, q2, q3, q4⟩ := HC.out.below hbel hC
      clear hs1 hbel
      go_wp2
      go_ret
      exact ⟨retk HZ.out.symm, HB.out⟩
theorem cmpI_sub (a b : Int) : (a - b).sign = cmpI a b := by
  unfold cmpI
  split
  · rw [Int.sign_eq_neg_one_iff_neg]; omega
  · split
    · rw [Int.sign_eq_one_iff_pos]; omega
    · rw [Int.sign_eq_zero_iff_zero]; omega
set_option maxHeartbeats 400000 in
theorem rCmp_any (nx ny : Bool) (X Y : Option Addr) (c d : Nat) (xs ys : List Nat) (w : World) (hx : IntIn w nx X c xs) (hy : IntIn w ny Y d ys) (hlx : xs.length ≤ 400000) (hly : ys.length ≤ 400000) :
    Calls Try.prog 29 #[.agg #[.bool nx, .slice X xs.length c], .agg #[.bool ny, .slice Y ys.length d]] w fun e w' => e = .returned (.int .i64 (cmpI (iv nx xs) (iv ny ys))) ∧ Below w.heap.size w w' := by
  have hB : Below w.heap.size w ((w.alloc (Obj.cells #[Value.bool nx, Value.slice X xs.length c] 24)).alloc (Obj.cells #[Value.bool ny, Value.slice Y ys.length d] 24)) := by go_grown
  have HX := Lib.hid (hx.below hB)
  have HY := Lib.hid (hy.below hB)
  have HB := Lib.hid hB
  have hwl : (W (iv nx xs - iv ny ys).natAbs).length ≤ 1000000 := by
    have h1 := hx.wlen; have h2 := hy.wlen
    have := W_len_pm (k := 400000) (a := iv nx xs) (b := iv ny ys) (z := iv nx xs - iv ny ys) (by omega) (by omega) (by omega)
    omega
  clear hx hy hB
  go_enter Try.func29, Try.ntmps29
  go_wp2_with fail
  refine (rSub_any nx ny X Y c d xs ys _ HX.out HY.out hlx hly).mono ?_
  rintro e w1 ⟨v, rfl, hi1, hbel⟩
  obtain ⟨nn, A1, c1, zs, rfl, hin, hiv, -⟩ := hi1.in_ hwl
  have HIN := Lib.hid hin
  have HIV := Lib.hid hiv
  have HB1 := Lib.hid (HB.out.trans (hbel.mono HB.out.size))
  clear hi1 hin hiv hbel
  go_wp2_with fail
  refine (rSign_any nn A1 c1 zs _ HIN.out).mono ?_
  rintro e w2 ⟨rfl, hbel⟩
  have HB2 := Lib.hid (HB1.out.trans (hbel.mono HB1.out.size))
  clear hbel
  go_wp2
  go_ret
  exact ⟨retk (by rw [HIV.out, cmpI_sub]), HB2.out⟩
end Go.Proofs.Ytcbdnnboddahkaa.Ws
