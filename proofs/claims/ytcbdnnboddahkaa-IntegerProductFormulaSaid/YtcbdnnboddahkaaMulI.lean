/-
  WALKS: integers of words subtracted, multiplied.
-/
import Derived.Test.YtcbdnnboddahkaaAddI
namespace Go.Proofs.Ytcbdnnboddahkaa.Ws
open Go.RowKit
set_option linter.unusedVariables false
set_option maxRecDepth 100000
theorem IntIn.below' {w w' : World} {neg neg' : Bool} {A : Option Addr} {c : Nat} {xs : List Nat} (h : IntIn w neg A c xs) (hb : Below w.heap.size w w') : IntIn w' neg' A c xs := ⟨h.sl.below hb, h.lt, h.len⟩
set_option maxHeartbeats 4000000 in
theorem Sub_any (nx ny : Bool) (X Y : Option Addr) (c d : Nat) (xs ys : List Nat) (w : World) (hx : IntIn w nx X c xs) (hy : IntIn w ny Y d ys) :
    Calls Try.prog 32 #[.agg #[.bool nx, .slice X xs.length c], .agg #[.bool ny, .slice Y ys.length d]] w fun e w' => IntOut w (iv nx xs - iv ny ys) e w' := by
  have hB : Below w.heap.size w (((w.alloc (Obj.cells #[Value.bool nx, Value.slice X xs.length c] 24)).alloc (Obj.cells #[Value.bool ny, Value.slice Y ys.length d] 24)).alloc (Obj.cells #[Value.bool false, Value.slice none 0 0] 24)) := by go_grown
  have hC : Cl (((w.alloc (Obj.cells #[Value.bool nx, Value.slice X xs.length c] 24)).alloc (Obj.cells #[Value.bool ny, Value.slice Y ys.length d] 24)).alloc (Obj.cells #[Value.bool false, Value.slice none 0 0] 24)) w.heap.size nx X xs.length c :=
    ⟨by simp [go_sem], by simp [go_sem], by simp [go_sem], by simp [go_sem]⟩
  have hD : Cl (((w.alloc (Obj.cells #[Value.bool nx, Value.slice X xs.length c] 24)).alloc (Obj.cells #[Value.bool ny, Value.slice Y ys.length d] 24)).alloc (Obj.cells #[Value.bool false, Value.slice none 0 0] 24)) (w.heap.size + 1) ny Y ys.length d :=
    ⟨by simp [go_sem], by simp [go_sem], by simp [go_sem], by simp [go_sem]⟩
  have hR : Cl (((w.alloc (Obj.cells #[Value.bool nx, Value.slice X xs.length c] 24)).alloc (Obj.cells #[Value.bool ny, Value.slice Y ys.length d] 24)).alloc (Obj.cells #[Value.bool false, Value.slice none 0 0] 24)) (w.heap.size + 1 + 1) false none 0 0 :=
    ⟨by simp [go_sem], by simp [go_sem], by simp [go_sem], by simp [go_sem]⟩
  have hz : (((w.alloc (Obj.cells #[Value.bool nx, Value.slice X xs.length c] 24)).alloc (Obj.cells #[Value.bool ny, Value.slice Y ys.length d] 24)).alloc (Obj.cells #[Value.bool false, Value.slice none 0 0] 24)).heap.size = w.heap.size + 3 := by simp
  have hl1 : (W (iv nx xs).natAbs).length ≤ 4294967296 := by rw [← trimL_W nx hx.lt]; have := trimL_length xs; have := hx.len; omega
  have hl2 : (W (iv ny ys).natAbs).length ≤ 4294967296 := by rw [← trimL_W ny hy.lt]; have := trimL_length ys; have := hy.len; omega
  have HX := Lib.hid hx
  have HY := Lib.hid hy
  have HB := Lib.hid hB
  have HC := Lib.hid hC
  have HD := Lib.hid hD
  have HR := Lib.hid hR
  have HZ := Lib.hid hz
  have he : iv nx xs + iv (!ny) ys = iv nx xs - iv ny ys := by cases ny <;> simp [iv] <;> omega
  have HE := Lib.hid he
  clear he hx hy hB hC hD hR hz
  go_enter Try.func32, Try.ntmps32
  go_wp2_with fail
  generalize (((w.alloc (Obj.cells #[Value.bool nx, Value.slice X xs.length c] 24)).alloc (Obj.cells #[Value.bool ny, Value.slice Y ys.length d] 24)).alloc (Obj.cells #[Value.bool false, Value.slice none 0 0] 24)) = W0 at *
  have hk0 : N2 W0 w.heap.size nx X xs.length c ny Y ys.length d W0 := N2.mk' HC.out HD.out HR.out (by have := HZ.out; omega)
  have hyn : IntIn W0 (!ny) Y d ys := HY.out.below' HB.out
  have hxn : IntIn W0 nx X c xs := HX.out.below' HB.out
  have HYN := Lib.hid hyn
  have HXN := Lib.hid hxn
  have HK := Lib.hid hk0
  clear hyn hxn hk0
  refine (Add_any nx (!ny) X Y c d xs ys _ HXN.out HYN.out).mono ?_
  rintro e w' ⟨v, rfl, hi1, hbel⟩
  have hk' := HK.out.below hbel
  rw [HE.out] at hi1
  have hi2 := Lib.hid hi1
  obtain ⟨A2, c2, rfl, -⟩ := hi1
  have HK' := Lib.hid hk'
  obtain ⟨b0, A0, n0, c0, hcl⟩ := hk'.r
  obtain ⟨q1, q2, q3, q4⟩ := hcl
  clear hbel hk'
  go_wp2
  refine bodyPost_ret (v := .agg #[.bool (decide (iv nx xs - iv ny ys < 0)), .slice A2 (W (iv nx xs - iv ny ys).natAbs).length c2]) (by simp [results, Try.results32, go_sem, q1, q2]) rfl ?_
  exact Cl.stored ⟨q1, q2, q3, q4⟩ hi2.out (HB.out.trans (HK'.out.bel.mono (by omega))) (by omega)
theorem iv_mul (nx ny : Bool) (xs ys : List Nat) : iv (!nx == ny) (W ((iv nx xs).natAbs * (iv ny ys).natAbs)) = iv nx xs * iv ny ys := by
  rw [iv_W]
  have e1 := iv_eq nx xs
  have e2 := iv_eq ny ys
  generalize (iv nx xs).natAbs = a at *
  generalize (iv ny ys).natAbs = b at *
  rw [e1, e2]
  cases nx <;> cases ny <;> simp [Int.mul_neg, Int.neg_mul]
set_option maxHeartbeats 4000000 in
theorem Mul_any (nx ny : Bool) (X Y : Option Addr) (c d : Nat) (xs ys : List Nat) (w : World) (hx : IntIn w nx X c xs) (hy : IntIn w ny Y d ys) :
    Calls Try.prog 34 #[.agg #[.bool nx, .slice X xs.length c], .agg #[.bool ny, .slice Y ys.length d]] w fun e w' => IntOut w (iv nx xs * iv ny ys) e w' := by
  have hB : Below w.heap.size w (((w.alloc (Obj.cells #[Value.bool nx, Value.slice X xs.length c] 24)).alloc (Obj.cells #[Value.bool ny, Value.slice Y ys.length d] 24)).alloc (Obj.cells #[Value.bool false, Value.slice none 0 0] 24)) := by go_grown
  have hC : Cl (((w.alloc (Obj.cells #[Value.bool nx, Value.slice X xs.length c] 24)).alloc (Obj.cells #[Value.bool ny, Value.slice Y ys.length d] 24)).alloc (Obj.cells #[Value.bool false, Value.slice none 0 0] 24)) w.heap.size nx X xs.length c :=
    ⟨by simp [go_sem], by simp [go_sem], by simp [go_sem], by simp [go_sem]⟩
  have hD : Cl (((w.alloc (Obj.cells #[Value.bool nx, Value.slice X xs.length c] 24)).alloc (Obj.cells #[Value.bool ny, Value.slice Y ys.length d] 24)).alloc (Obj.cells #[Value.bool false, Value.slice none 0 0] 24)) (w.heap.size + 1) ny Y ys.length d :=
    ⟨by simp [go_sem], by simp [go_sem], by simp [go_sem], by simp [go_sem]⟩
  have hR : Cl (((w.alloc (Obj.cells #[Value.bool nx, Value.slice X xs.length c] 24)).alloc (Obj.cells #[Value.bool ny, Value.slice Y ys.length d] 24)).alloc (Obj.cells #[Value.bool false, Value.slice none 0 0] 24)) (w.heap.size + 1 + 1) false none 0 0 :=
    ⟨by simp [go_sem], by simp [go_sem], by simp [go_sem], by simp [go_sem]⟩
  have hz : (((w.alloc (Obj.cells #[Value.bool nx, Value.slice X xs.length c] 24)).alloc (Obj.cells #[Value.bool ny, Value.slice Y ys.length d] 24)).alloc (Obj.cells #[Value.bool false, Value.slice none 0 0] 24)).heap.size = w.heap.size + 3 := by simp
  have hl1 : (W (iv nx xs).natAbs).length ≤ 4294967296 := by rw [← trimL_W nx hx.lt]; have := trimL_length xs; have := hx.len; omega
  have hl2 : (W (iv ny ys).natAbs).length ≤ 4294967296 := by rw [← trimL_W ny hy.lt]; have := trimL_length ys; have := hy.len; omega
  have HX := Lib.hid hx
  have HY := Lib.hid hy
  have HB := Lib.hid hB
  have HC := Lib.hid hC
  have HD := Lib.hid hD
  have HR := Lib.hid hR
  have HZ := Lib.hid hz
  have HE := Lib.hid (iv_mul nx ny xs ys)
  clear hx hy hB hC hD hR hz
  go_enter Try.func34, Try.ntmps34
  go_wp2_with fail
  generalize (((w.alloc (Obj.cells #[Value.bool nx, Value.slice X xs.length c] 24)).alloc (Obj.cells #[Value.bool ny, Value.slice Y ys.length d] 24)).alloc (Obj.cells #[Value.bool false, Value.slice none 0 0] 24)) = W0 at *
  have hk0 : N2 W0 w.heap.size nx X xs.length c ny Y ys.length d W0 := N2.mk' HC.out HD.out HR.out (by have := HZ.out; omega)
  go_region_held3 (fun w' => (w'.cell? ⟨w.heap.size, 0, none⟩ = some (.bool nx) ∧ w'.cell? ⟨w.heap.size, 1, none⟩ = some (.slice X xs.length c) ∧ w'.cell? ⟨w.heap.size + 1, 0, none⟩ = some (.bool ny) ∧ w'.cell? ⟨w.heap.size + 1, 1, none⟩ = some (.slice Y ys.length d)) ∧ N2 W0 w.heap.size nx X xs.length c ny Y ys.length d w') (first | exact N2.ks (by assumption) | exact N2.ks (N2.draws 1 (by assumption)) | exact N2.ks (N2.stored _ _ _ _ (by assumption)))
    (first
        | (go_at_call 88; ((with_reducible refine (trim_in (w0 := w) HX.out ?_).mono ?_)); (exact (HB.out.trans ((N2.bel (And.right (by assumption))).mono (by omega)))); rintro e w' ⟨rfl, -, rfl⟩)
        | (go_at_call 88; ((with_reducible refine (trim_in (w0 := w) HY.out ?_).mono ?_)); (exact (HB.out.trans ((N2.bel (And.right (by assumption))).mono (by omega)))); rintro e w' ⟨rfl, -, rfl⟩)
        | (go_at_call 103; ((with_reducible refine (mulW ?_ ?_ hl1 hl2).mono ?_)); (exact HX.out.dg (HB.out.trans ((N2.bel (And.right (by assumption))).mono (by omega)))); (exact HY.out.dg (HB.out.trans ((N2.bel (And.right (by assumption))).mono (by omega)))); rintro e w' ⟨A1, c1, rfl, hs1, hbel⟩; have hk' := N2.below hbel (And.right (by assumption)); clear hbel)
        | (go_at_call 90; ((with_reducible refine (signed_any _ _ _ (W ((iv nx xs).natAbs * (iv ny ys).natAbs)) _ ?_ (W_lt _)).mono ?_)); assumption; rintro e w' ⟨v, rfl, hi1, hbel⟩; have hk' := N2.below hbel (And.right (by assumption)); have hi2 := Lib.hid hi1; obtain ⟨A2, c2, rfl, -⟩ := hi1; obtain ⟨b0, A0, n0, c0, hcl⟩ := hk'.r; obtain ⟨q1, q2, q3, q4⟩ := hcl; clear hbel))
  go_wp2
  rw [← HE.out]
  refine bodyPost_ret (v := .agg #[.bool (decide (iv (!nx == ny) (W ((iv nx xs).natAbs * (iv ny ys).natAbs)) < 0)), .slice A2 (W (iv (!nx == ny) (W ((iv nx xs).natAbs * (iv ny ys).natAbs))).natAbs).length c2]) (by simp [results, Try.results34, go_sem, q1, q2]) rfl ?_
  exact Cl.stored ⟨q1, q2, q3, q4⟩ hi2.out (HB.out.trans (hk'.bel.mono (by omega))) (by omega)
end Go.Proofs.Ytcbdnnboddahkaa.Ws
