/-
  WALKS: two integers of words are compared.
-/
import Derived.Test.YtcbdnnboddahkaaOf
namespace Go.Proofs.Ytcbdnnboddahkaa.Ws
open Go.RowKit
set_option linter.unusedVariables false
set_option maxRecDepth 100000
theorem sign_cases (a : Int) : a.sign = -1 ∨ a.sign = 0 ∨ a.sign = 1 := by
  rcases Int.lt_trichotomy a 0 with h | h | h
  · exact .inl (Int.sign_eq_neg_one_iff_neg.2 h)
  · subst h; exact .inr (.inl rfl)
  · exact .inr (.inr (Int.sign_eq_one_iff_pos.2 h))
theorem sign_pos_iff (a : Int) : a.sign = 1 ↔ 0 < a := Int.sign_eq_one_iff_pos
theorem sign_neg_iff (a : Int) : a.sign = -1 ↔ a < 0 := Int.sign_eq_neg_one_iff_neg
theorem sign_zero_iff (a : Int) : a.sign = 0 ↔ a = 0 := Int.sign_eq_zero_iff_zero
theorem cmpI_cases (a b : Int) : cmpI a b = -1 ∨ cmpI a b = 0 ∨ cmpI a b = 1 := by
  unfold cmpI; split
  · exact .inl rfl
  · split
    · exact .inr (.inr rfl)
    · exact .inr (.inl rfl)
theorem cmpI_eq (a b c d : Int) (h1 : a < b ↔ c < d) (h2 : b < a ↔ d < c) : cmpI a b = cmpI c d := by
  unfold cmpI; simp only [h1, h2]
theorem cmpI_sign (a b : Int) (h : a.sign ≠ b.sign) : cmpI a.sign b.sign = cmpI a b := by
  have a1 := sign_pos_iff a; have a2 := sign_neg_iff a; have a3 := sign_zero_iff a
  have b1 := sign_pos_iff b; have b2 := sign_neg_iff b; have b3 := sign_zero_iff b
  rcases sign_cases a with h1 | h1 | h1 <;> rcases sign_cases b with h2 | h2 | h2 <;> rw [h1, h2] at h ⊢ <;> first | (exact absurd rfl h) | (rw [h1] at a1 a2 a3; rw [h2] at b1 b2 b3; simp at a1 a2 a3 b1 b2 b3; apply cmpI_eq <;> omega)
theorem cmpI_same (a b : Int) (h : a.sign = b.sign) : a.sign * cmpI (a.natAbs : Int) b.natAbs = cmpI a b := by
  have a1 := sign_pos_iff a; have a2 := sign_neg_iff a; have a3 := sign_zero_iff a
  have b1 := sign_pos_iff b; have b2 := sign_neg_iff b; have b3 := sign_zero_iff b
  rcases sign_cases a with h1 | h1 | h1
  · rw [h1] at h
    have ha := a2.1 h1; have hb := b2.1 h.symm
    rw [h1]
    have e1 : (a.natAbs : Int) = -a := by omega
    have e2 : (b.natAbs : Int) = -b := by omega
    rw [e1, e2]
    unfold cmpI
    split
    · rw [if_neg (by omega), if_pos (by omega)]; rfl
    · split
      · rw [if_pos (by omega)]; rfl
      · rw [if_neg (by omega), if_neg (by omega)]; rfl
  · rw [h1] at h
    have ha := a3.1 h1; have hb := b3.1 h.symm
    rw [ha, hb]; rfl
  · rw [h1] at h
    have ha := a1.1 h1; have hb := b1.1 h.symm
    rw [h1, Int.one_mul]
    apply cmpI_eq <;> omega
/-- what stays beside two boxed arguments -/
structure C2 (W0 : World) (g : Nat) (nx : Bool) (X : Option Addr) (l c : Nat) (ny : Bool) (Y : Option Addr) (m d : Nat) (w : World) : Prop where
  x : Cl w g nx X l c
  y : Cl w (g + 1) ny Y m d
  lr : g + 1 < W0.heap.size
  bel : Below W0.heap.size W0 w
section
variable {W0 w w' : World} {g : Nat} {nx ny : Bool} {X Y : Option Addr} {l c m d : Nat}
theorem C2.below (hb : Below w.heap.size w w') (h : C2 W0 g nx X l c ny Y m d w) : C2 W0 g nx X l c ny Y m d w' := by
  have := h.lr; have := h.bel.size
  exact ⟨h.x.below hb (by omega), h.y.below hb (by omega), h.lr, h.bel.trans (hb.mono h.bel.size)⟩
theorem C2.draws (n : Nat) (h : C2 W0 g nx X l c ny Y m d w) : C2 W0 g nx X l c ny Y m d (w.drewN n) := h.below (below_drawn (Below.refl _ _) n)
theorem C2.ks (h : C2 W0 g nx X l c ny Y m d w) : (w.cell? ⟨g, 0, none⟩ = some (.bool nx) ∧ w.cell? ⟨g, 1, none⟩ = some (.slice X l c) ∧ w.cell? ⟨g + 1, 0, none⟩ = some (.bool ny) ∧ w.cell? ⟨g + 1, 1, none⟩ = some (.slice Y m d)) ∧ C2 W0 g nx X l c ny Y m d w :=
  ⟨⟨h.x.c0, h.x.c1, h.y.c0, h.y.c1⟩, h⟩
end
theorem trimL_W {xs : List Nat} (neg : Bool) (h : ∀ x ∈ xs, x < 4294967296) : trimL xs = W (iv neg xs).natAbs := by rw [iv_natAbs, trim_W h]
/-- trim of an argument: the digits of its size -/
theorem trim_in {neg : Bool} {A : Option Addr} {c : Nat} {xs : List Nat} {w0 w : World} (h : IntIn w0 neg A c xs) (hb : Below w0.heap.size w0 w) :
    Calls Try.prog 88 #[.slice A xs.length c] w fun e w' => e = .returned (.slice A (W (iv neg xs).natAbs).length c) ∧ Sl w .u32 A c (W (iv neg xs).natAbs) ∧ w = w' := by
  refine (trim_any A c xs w (h.below hb).sl).mono ?_
  rintro e w' ⟨rfl, rfl⟩
  rw [trimL_W neg h.lt]
  refine ⟨rfl, ?_, rfl⟩
  rw [← trimL_W neg h.lt, trimL_take xs]
  exact (h.below hb).sl.take_ _
theorem IntIn.dg {neg : Bool} {A : Option Addr} {c : Nat} {xs : List Nat} {w0 w : World} (h : IntIn w0 neg A c xs) (hb : Below w0.heap.size w0 w) : Sl w .u32 A c (W (iv neg xs).natAbs) := by
  rw [← trimL_W neg h.lt, trimL_take xs]
  exact (h.below hb).sl.take_ _
theorem mul_sign_wrap (s z : Int) (hs : s = -1 ∨ s = 0 ∨ s = 1) (hz : z = -1 ∨ z = 0 ∨ z = 1) : IntKind.i64.wrap (s * z) = s * z := by
  rcases hs with rfl | rfl | rfl <;> rcases hz with rfl | rfl | rfl <;> decide
set_option maxHeartbeats 4000000 in
theorem Cmp_any (nx ny : Bool) (X Y : Option Addr) (c d : Nat) (xs ys : List Nat) (w : World) (hx : IntIn w nx X c xs) (hy : IntIn w ny Y d ys) :
    Calls Try.prog 28 #[.agg #[.bool nx, .slice X xs.length c], .agg #[.bool ny, .slice Y ys.length d]] w fun e w' => e = .returned (.int .i64 (cmpI (iv nx xs) (iv ny ys))) ∧ Below w.heap.size w w' := by
  have hB : Below w.heap.size w ((w.alloc (.cells #[.bool nx, .slice X xs.length c] 24)).alloc (.cells #[.bool ny, .slice Y ys.length d] 24)) := by go_grown
  have hC : Cl ((w.alloc (.cells #[.bool nx, .slice X xs.length c] 24)).alloc (.cells #[.bool ny, .slice Y ys.length d] 24)) w.heap.size nx X xs.length c :=
    ⟨by simp [go_sem], by simp [go_sem], by simp [go_sem], by simp [go_sem]⟩
  have hD : Cl ((w.alloc (.cells #[.bool nx, .slice X xs.length c] 24)).alloc (.cells #[.bool ny, .slice Y ys.length d] 24)) (w.heap.size + 1) ny Y ys.length d :=
    ⟨by simp [go_sem], by simp [go_sem], by simp [go_sem], by simp [go_sem]⟩
  have hz : ((w.alloc (.cells #[.bool nx, .slice X xs.length c] 24)).alloc (.cells #[.bool ny, .slice Y ys.length d] 24)).heap.size = w.heap.size + 2 := by simp
  have HX := Lib.hid hx
  have HY := Lib.hid hy
  have HB := Lib.hid hB
  have HC := Lib.hid hC
  have HD := Lib.hid hD
  have HZ := Lib.hid hz
  obtain ⟨s, hs⟩ : ∃ s, s = (iv nx xs).sign := ⟨_, rfl⟩
  obtain ⟨t, ht⟩ : ∃ t, t = (iv ny ys).sign := ⟨_, rfl⟩
  have HS := Lib.hid hs
  have HT := Lib.hid ht
  have sc : s = -1 ∨ s = 0 ∨ s = 1 := by rw [hs]; exact sign_cases _
  have SC := Lib.hid sc
  have hfin : if s = t then s * cmpI ((iv nx xs).natAbs : Int) (iv ny ys).natAbs = cmpI (iv nx xs) (iv ny ys) else cmpI s t = cmpI (iv nx xs) (iv ny ys) := by
    split
    · rename_i h; rw [hs]; exact cmpI_same _ _ (by rw [← hs, ← ht, h])
    · rename_i h; rw [hs, ht]; exact cmpI_sign _ _ (by rw [← hs, ← ht]; exact h)
  have HF := Lib.hid hfin
  clear hx hy hB hC hD hz hs ht sc hfin
  by_cases hst : s = t
  · have hne : (s != t) = false := by simp [hst]
    have hf := HF.out
    rw [if_pos hst] at hf
    have HF2 := Lib.hid hf
    have hmw := mul_sign_wrap s (cmpI ((iv nx xs).natAbs : Int) (iv ny ys).natAbs) SC.out (cmpI_cases _ _)
    clear hst hf HF
    go_enter Try.func28, Try.ntmps28
    go_wp2_with fail
    generalize ((w.alloc (Obj.cells #[Value.bool nx, Value.slice X xs.length c] 24)).alloc (Obj.cells #[Value.bool ny, Value.slice Y ys.length d] 24)) = W0 at *
    have hk0 : C2 W0 w.heap.size nx X xs.length c ny Y ys.length d W0 := ⟨HC.out, HD.out, by have := HZ.out; omega, Below.refl _ _⟩
    go_region_held3 (fun w' => (w'.cell? ⟨w.heap.size, 0, none⟩ = some (.bool nx) ∧ w'.cell? ⟨w.heap.size, 1, none⟩ = some (.slice X xs.length c) ∧ w'.cell? ⟨w.heap.size + 1, 0, none⟩ = some (.bool ny) ∧ w'.cell? ⟨w.heap.size + 1, 1, none⟩ = some (.slice Y ys.length d)) ∧ C2 W0 w.heap.size nx X xs.length c ny Y ys.length d w') (first | exact C2.ks (by assumption) | exact C2.ks (C2.draws 1 (by assumption)))
      (first
        | (go_at_call 93; ((with_reducible refine (sign_any nx X c xs _ ?_ HX.out.lt).mono ?_)); (exact (HX.out.below (HB.out.trans ((C2.bel (And.right (by assumption))).mono (by have := HZ.out; omega)))).sl); rintro e w' ⟨rfl, hbel⟩; have hk' := C2.below hbel (And.right (by assumption)); clear hbel)
        | (go_at_call 93; ((with_reducible refine (sign_any ny Y d ys _ ?_ HY.out.lt).mono ?_)); (exact (HY.out.below (HB.out.trans ((C2.bel (And.right (by assumption))).mono (by have := HZ.out; omega)))).sl); rintro e w' ⟨rfl, hbel⟩; have hk' := C2.below hbel (And.right (by assumption)); clear hbel))
    all_goals rw [← HS.out, ← HT.out]
    go_wp2_with fail
    go_region_held3 (fun w' => (w'.cell? ⟨w.heap.size, 0, none⟩ = some (.bool nx) ∧ w'.cell? ⟨w.heap.size, 1, none⟩ = some (.slice X xs.length c) ∧ w'.cell? ⟨w.heap.size + 1, 0, none⟩ = some (.bool ny) ∧ w'.cell? ⟨w.heap.size + 1, 1, none⟩ = some (.slice Y ys.length d)) ∧ C2 W0 w.heap.size nx X xs.length c ny Y ys.length d w') (first | exact C2.ks (by assumption) | exact C2.ks (C2.draws 1 (by assumption)))
      (first
        | (go_at_call 88; ((with_reducible refine (trim_in (w0 := w) HX.out ?_).mono ?_)); (exact (HB.out.trans ((C2.bel (And.right (by assumption))).mono (by have := HZ.out; omega)))); rintro e w' ⟨rfl, -, rfl⟩)
        | (go_at_call 88; ((with_reducible refine (trim_in (w0 := w) HY.out ?_).mono ?_)); (exact (HB.out.trans ((C2.bel (And.right (by assumption))).mono (by have := HZ.out; omega)))); rintro e w' ⟨rfl, -, rfl⟩)
        | (go_at_call 95; ((with_reducible refine (cmpw_any X Y c d _ _ _ ?_ ?_).mono ?_)); (exact HX.out.dg (HB.out.trans ((C2.bel (And.right (by assumption))).mono (by have := HZ.out; omega)))); (exact HY.out.dg (HB.out.trans ((C2.bel (And.right (by assumption))).mono (by have := HZ.out; omega)))); rintro e w' ⟨rfl, hdr⟩; have hk' := C2.below hdr.below (And.right (by assumption)); clear hdr))
    go_wp2
    go_ret
    exact ⟨retk HF2.out, HB.out.trans (hk'.bel.mono (by have := HZ.out; omega))⟩
  · have hne : (s != t) = true := by rw [bne_iff_ne]; exact hst
    have hf := HF.out
    rw [if_neg hst] at hf
    have HF2 := Lib.hid hf
    clear hst hf HF
    go_enter Try.func28, Try.ntmps28
    go_wp2_with fail
    generalize ((w.alloc (Obj.cells #[Value.bool nx, Value.slice X xs.length c] 24)).alloc (Obj.cells #[Value.bool ny, Value.slice Y ys.length d] 24)) = W0 at *
    have hk0 : C2 W0 w.heap.size nx X xs.length c ny Y ys.length d W0 := ⟨HC.out, HD.out, by have := HZ.out; omega, Below.refl _ _⟩
    go_region_held3 (fun w' => (w'.cell? ⟨w.heap.size, 0, none⟩ = some (.bool nx) ∧ w'.cell? ⟨w.heap.size, 1, none⟩ = some (.slice X xs.length c) ∧ w'.cell? ⟨w.heap.size + 1, 0, none⟩ = some (.bool ny) ∧ w'.cell? ⟨w.heap.size + 1, 1, none⟩ = some (.slice Y ys.length d)) ∧ C2 W0 w.heap.size nx X xs.length c ny Y ys.length d w') (first | exact C2.ks (by assumption) | exact C2.ks (C2.draws 1 (by assumption)))
      (first
        | (go_at_call 93; ((with_reducible refine (sign_any nx X c xs _ ?_ HX.out.lt).mono ?_)); (exact (HX.out.below (HB.out.trans ((C2.bel (And.right (by assumption))).mono (by have := HZ.out; omega)))).sl); rintro e w' ⟨rfl, hbel⟩; have hk' := C2.below hbel (And.right (by assumption)); clear hbel)
        | (go_at_call 93; ((with_reducible refine (sign_any ny Y d ys _ ?_ HY.out.lt).mono ?_)); (exact (HY.out.below (HB.out.trans ((C2.bel (And.right (by assumption))).mono (by have := HZ.out; omega)))).sl); rintro e w' ⟨rfl, hbel⟩; have hk' := C2.below hbel (And.right (by assumption)); clear hbel))
    all_goals rw [← HS.out, ← HT.out]
    go_wp2_with (go_at_call 94; refine (cmp64_any _ _ _).mono ?_; rintro e w' ⟨rfl, rfl⟩)
    go_ret
    exact ⟨retk HF2.out, HB.out.trans (hk'.bel.mono (by have := HZ.out; omega))⟩
end Go.Proofs.Ytcbdnnboddahkaa.Ws
