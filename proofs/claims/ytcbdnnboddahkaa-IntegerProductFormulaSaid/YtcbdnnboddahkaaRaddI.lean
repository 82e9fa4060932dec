/-
  WALKS of the reference: integers of words, their normal forms, opposites, sums.
-/
import Derived.Test.YtcbdnnboddahkaaRmade
import Derived.Test.YtcbdnnboddahkaaMulI
namespace Go.Proofs.Ytcbdnnboddahkaa.Ws
open Go.RowKit
set_option linter.unusedVariables false
set_option maxRecDepth 100000
theorem madeD {neg : Bool} {A : Option Addr} {c n : Nat} {w : World} (h : Sl w .i64 A c (D n)) (hl : (D n).length ≤ 3000000) :
    Calls Try.prog 91 #[.bool neg, .slice A (D n).length c] w fun e w' => IntOut w (if neg then -(n : Int) else n) e w' :=
  rmade_any neg A c (D n) n w h hl (D_lt n) (val_D n)
theorem D_len_W (n : Nat) : (D n).length ≤ 2 * (W n).length := by
  refine dgs_length_le 65536 (by decide) _ _ ?_
  have := dgs_length_lt 4294967296 (by decide) n
  rw [Nat.pow_mul, show 65536 ^ 2 = 4294967296 from by decide]
  exact this
theorem IntIn.dlen {neg : Bool} {A : Option Addr} {c : Nat} {xs : List Nat} {w : World} (h : IntIn w neg A c xs) : (D (iv neg xs).natAbs).length ≤ 2000000 := by
  have h1 := D_len_W (iv neg xs).natAbs
  have h2 := trimL_length xs
  rw [trimL_W neg h.lt] at h2
  have := h.len
  omega
theorem iv_neg' (neg : Bool) (xs : List Nat) : (if neg then -(((iv neg xs).natAbs : Nat) : Int) else ((iv neg xs).natAbs : Nat)) = iv neg xs := (iv_eq neg xs).symm
theorem iv_neg2 (neg : Bool) (xs : List Nat) : (if (!neg) then -(((iv neg xs).natAbs : Nat) : Int) else ((iv neg xs).natAbs : Nat)) = -iv neg xs := by
  have := iv_eq neg xs
  cases neg <;> simp at this ⊢ <;> omega
set_option maxHeartbeats 2000000 in
theorem rNormal_any (neg : Bool) (A : Option Addr) (c : Nat) (xs : List Nat) (w : World) (h : IntIn w neg A c xs) :
    Calls Try.prog 27 #[.agg #[.bool neg, .slice A xs.length c]] w fun e w' => IntOut w (iv neg xs) e w' := by
  have hlen := h.len
  have hdl := h.dlen
  have HI := Lib.hid h
  have hB : Below w.heap.size w ((w.alloc (.cells #[.bool neg, .slice A xs.length c] 24)).alloc (.cells #[.bool false, .slice none 0 0] 24)) := by go_grown
  have hC : Cl ((w.alloc (.cells #[.bool neg, .slice A xs.length c] 24)).alloc (.cells #[.bool false, .slice none 0 0] 24)) w.heap.size neg A xs.length c :=
    ⟨by simp [go_sem], by simp [go_sem], by simp [go_sem], by simp [go_sem]⟩
  have hD : Cl ((w.alloc (.cells #[.bool neg, .slice A xs.length c] 24)).alloc (.cells #[.bool false, .slice none 0 0] 24)) (w.heap.size + 1) false none 0 0 := by
    have := cl_new1 (w.alloc (.cells #[.bool neg, .slice A xs.length c] 24))
    rw [World.size_alloc] at this; exact this
  have hz : ((w.alloc (.cells #[.bool neg, .slice A xs.length c] 24)).alloc (.cells #[.bool false, .slice none 0 0] 24)).heap.size = w.heap.size + 2 := by simp
  have HB := Lib.hid hB
  have HC := Lib.hid hC
  have HD := Lib.hid hD
  have HZ := Lib.hid hz
  obtain ⟨z, hzz⟩ : ∃ z : Int, z = iv neg xs := ⟨_, rfl⟩
  have he := (iv_neg' neg xs).trans hzz.symm
  rw [← hzz]
  have HE := Lib.hid he
  clear he hzz
  clear h hB hC hD hz
  go_enter Try.func27, Try.ntmps27
  go_wp2_with fail
  generalize ((w.alloc (Obj.cells #[Value.bool neg, Value.slice A xs.length c] 24)).alloc (Obj.cells #[Value.bool false, Value.slice none 0 0] 24)) = W0 at *
  have hk0 : NS W0 w.heap.size neg A xs.length c W0 := NS.mk' HC.out HD.out (by have := HZ.out; omega)
  go_region_held3 (fun w' => (w'.cell? ⟨w.heap.size, 0, none⟩ = some (.bool neg) ∧ w'.cell? ⟨w.heap.size, 1, none⟩ = some (.slice A xs.length c)) ∧ NS W0 w.heap.size neg A xs.length c w') (first | exact NS.ks (by assumption) | exact NS.ks (NS.draws 1 (by assumption)) | exact NS.ks (NS.stored _ _ _ _ (by assumption)))
    (first
      | (go_at_call 89; ((with_reducible refine (rdigits_any neg A c xs _ ?_).mono ?_)); (exact HI.out.below (HB.out.trans ((NS.bel (And.right (by assumption))).mono (by omega)))); rintro e w' ⟨A1, c1, rfl, hs1, hbel⟩; have hk' := NS.below hbel (And.right (by assumption)); clear hbel)
      | (go_at_call 91; ((with_reducible refine (madeD (n := (iv neg xs).natAbs) ?_ (by omega)).mono ?_)); assumption; rintro e w' ⟨v, rfl, hi1, hbel⟩; have hk' := NS.below hbel (And.right (by assumption)); rw [HE.out] at hi1; have hi2 := Lib.hid hi1; obtain ⟨A2, c2, rfl, -⟩ := hi1; obtain ⟨b0, A0, n0, c0, hcl⟩ := hk'.r; obtain ⟨q1, q2, q3, q4⟩ := hcl; clear hbel))
  go_wp2
  refine bodyPost_ret (v := .agg #[.bool (decide (z < 0)), .slice A2 (W z.natAbs).length c2]) (by simp [results, Try.results27, go_sem, q1, q2]) rfl ?_
  exact Cl.stored ⟨q1, q2, q3, q4⟩ hi2.out (HB.out.trans (hk'.bel.mono (by omega))) (by omega)
set_option maxHeartbeats 2000000 in
theorem rNeg_any (neg : Bool) (A : Option Addr) (c : Nat) (xs : List Nat) (w : World) (h : IntIn w neg A c xs) :
    Calls Try.prog 102 #[.agg #[.bool neg, .slice A xs.length c]] w fun e w' => IntOut w (-iv neg xs) e w' := by
  have hlen := h.len
  have hdl := h.dlen
  have HI := Lib.hid h
  have hB : Below w.heap.size w ((w.alloc (.cells #[.bool neg, .slice A xs.length c] 24)).alloc (.cells #[.bool false, .slice none 0 0] 24)) := by go_grown
  have hC : Cl ((w.alloc (.cells #[.bool neg, .slice A xs.length c] 24)).alloc (.cells #[.bool false, .slice none 0 0] 24)) w.heap.size neg A xs.length c :=
    ⟨by simp [go_sem], by simp [go_sem], by simp [go_sem], by simp [go_sem]⟩
  have hD : Cl ((w.alloc (.cells #[.bool neg, .slice A xs.length c] 24)).alloc (.cells #[.bool false, .slice none 0 0] 24)) (w.heap.size + 1) false none 0 0 := by
    have := cl_new1 (w.alloc (.cells #[.bool neg, .slice A xs.length c] 24))
    rw [World.size_alloc] at this; exact this
  have hz : ((w.alloc (.cells #[.bool neg, .slice A xs.length c] 24)).alloc (.cells #[.bool false, .slice none 0 0] 24)).heap.size = w.heap.size + 2 := by simp
  have HB := Lib.hid hB
  have HC := Lib.hid hC
  have HD := Lib.hid hD
  have HZ := Lib.hid hz
  obtain ⟨z, hzz⟩ : ∃ z : Int, z = -iv neg xs := ⟨_, rfl⟩
  have he := (iv_neg2 neg xs).trans hzz.symm
  rw [← hzz]
  have HE := Lib.hid he
  clear he hzz
  clear h hB hC hD hz
  go_enter Try.func102, Try.ntmps102
  go_wp2_with fail
  generalize ((w.alloc (Obj.cells #[Value.bool neg, Value.slice A xs.length c] 24)).alloc (Obj.cells #[Value.bool false, Value.slice none 0 0] 24)) = W0 at *
  have hk0 : NS W0 w.heap.size neg A xs.length c W0 := NS.mk' HC.out HD.out (by have := HZ.out; omega)
  go_region_held3 (fun w' => (w'.cell? ⟨w.heap.size, 0, none⟩ = some (.bool neg) ∧ w'.cell? ⟨w.heap.size, 1, none⟩ = some (.slice A xs.length c)) ∧ NS W0 w.heap.size neg A xs.length c w') (first | exact NS.ks (by assumption) | exact NS.ks (NS.draws 1 (by assumption)) | exact NS.ks (NS.stored _ _ _ _ (by assumption)))
    (first
      | (go_at_call 89; ((with_reducible refine (rdigits_any neg A c xs _ ?_).mono ?_)); (exact HI.out.below (HB.out.trans ((NS.bel (And.right (by assumption))).mono (by omega)))); rintro e w' ⟨A1, c1, rfl, hs1, hbel⟩; have hk' := NS.below hbel (And.right (by assumption)); clear hbel)
      | (go_at_call 91; ((with_reducible refine (madeD (n := (iv neg xs).natAbs) ?_ (by omega)).mono ?_)); assumption; rintro e w' ⟨v, rfl, hi1, hbel⟩; have hk' := NS.below hbel (And.right (by assumption)); rw [HE.out] at hi1; have hi2 := Lib.hid hi1; obtain ⟨A2, c2, rfl, -⟩ := hi1; obtain ⟨b0, A0, n0, c0, hcl⟩ := hk'.r; obtain ⟨q1, q2, q3, q4⟩ := hcl; clear hbel))
  go_wp2
  refine bodyPost_ret (v := .agg #[.bool (decide (z < 0)), .slice A2 (W z.natAbs).length c2]) (by simp [results, Try.results102, go_sem, q1, q2]) rfl ?_
  exact Cl.stored ⟨q1, q2, q3, q4⟩ hi2.out (HB.out.trans (hk'.bel.mono (by omega))) (by omega)
theorem D_len_add (a b : Nat) : (D (a + b)).length ≤ (D a).length + (D b).length + 1 := by
  refine dgs_length_le 65536 (by decide) _ _ ?_
  have h1 := dgs_length_lt 65536 (by decide) a
  have h2 := dgs_length_lt 65536 (by decide) b
  have h3 : 65536 ^ (dgs 65536 a).length ≤ 65536 ^ ((D a).length + (D b).length) := Nat.pow_le_pow_right (by decide) (by unfold D; omega)
  have h4 : 65536 ^ (dgs 65536 b).length ≤ 65536 ^ ((D a).length + (D b).length) := Nat.pow_le_pow_right (by decide) (by unfold D; omega)
  rw [Nat.pow_succ]
  omega
set_option maxHeartbeats 4000000 in
theorem rAdd_any (nx ny : Bool) (X Y : Option Addr) (c d : Nat) (xs ys : List Nat) (w : World) (hx : IntIn w nx X c xs) (hy : IntIn w ny Y d ys) (hlx : (D (iv nx xs).natAbs).length ≤ 1000000) (hly : (D (iv ny ys).natAbs).length ≤ 1000000) :
    Calls Try.prog 31 #[.agg #[.bool nx, .slice X xs.length c], .agg #[.bool ny, .slice Y ys.length d]] w fun e w' => IntOut w (iv nx xs + iv ny ys) e w' := by
  have hB : Below w.heap.size w (((w.alloc (Obj.cells #[Value.bool nx, Value.slice X xs.length c] 24)).alloc (Obj.cells #[Value.bool ny, Value.slice Y ys.length d] 24)).alloc (Obj.cells #[Value.bool false, Value.slice none 0 0] 24)) := by go_grown
  have hC : Cl (((w.alloc (Obj.cells #[Value.bool nx, Value.slice X xs.length c] 24)).alloc (Obj.cells #[Value.bool ny, Value.slice Y ys.length d] 24)).alloc (Obj.cells #[Value.bool false, Value.slice none 0 0] 24)) w.heap.size nx X xs.length c :=
    ⟨by simp [go_sem], by simp [go_sem], by simp [go_sem], by simp [go_sem]⟩
  have hD : Cl (((w.alloc (Obj.cells #[Value.bool nx, Value.slice X xs.length c] 24)).alloc (Obj.cells #[Value.bool ny, Value.slice Y ys.length d] 24)).alloc (Obj.cells #[Value.bool false, Value.slice none 0 0] 24)) (w.heap.size + 1) ny Y ys.length d :=
    ⟨by simp [go_sem], by simp [go_sem], by simp [go_sem], by simp [go_sem]⟩
  have hR : Cl (((w.alloc (Obj.cells #[Value.bool nx, Value.slice X xs.length c] 24)).alloc (Obj.cells #[Value.bool ny, Value.slice Y ys.length d] 24)).alloc (Obj.cells #[Value.bool false, Value.slice none 0 0] 24)) (w.heap.size + 1 + 1) false none 0 0 :=
    ⟨by simp [go_sem], by simp [go_sem], by simp [go_sem], by simp [go_sem]⟩
  have hz : (((w.alloc (Obj.cells #[Value.bool nx, Value.slice X xs.length c] 24)).alloc (Obj.cells #[Value.bool ny, Value.slice Y ys.length d] 24)).alloc (Obj.cells #[Value.bool false, Value.slice none 0 0] 24)).heap.size = w.heap.size + 3 := by simp
  have hl1 := hx.dlen
  have hl2 := hy.dlen
  have HX := Lib.hid hx
  have HY := Lib.hid hy
  have HB := Lib.hid hB
  have HC := Lib.hid hC
  have HD := Lib.hid hD
  have HR := Lib.hid hR
  have HZ := Lib.hid hz
  by_cases hnn : nx = ny
  · have hbb : (nx == ny) = true := by simp [hnn]
    have he : (if nx then -(((iv nx xs).natAbs + (iv ny ys).natAbs : Nat) : Int) else (((iv nx xs).natAbs + (iv ny ys).natAbs : Nat) : Int)) = iv nx xs + iv ny ys := by
      have e1 := iv_eq nx xs; have e2 := iv_eq ny ys; subst hnn; cases nx <;> simp at e1 e2 ⊢ <;> omega
    have HE := Lib.hid he
    have hln : (D ((iv nx xs).natAbs + (iv ny ys).natAbs)).length ≤ 3000000 := by have := D_len_add (iv nx xs).natAbs (iv ny ys).natAbs; omega
    clear hnn he hx hy hB hC hD hR hz
    go_enter Try.func31, Try.ntmps31
    go_wp2_with fail
    generalize (((w.alloc (Obj.cells #[Value.bool nx, Value.slice X xs.length c] 24)).alloc (Obj.cells #[Value.bool ny, Value.slice Y ys.length d] 24)).alloc (Obj.cells #[Value.bool false, Value.slice none 0 0] 24)) = W0 at *
    have hk0 : N2 W0 w.heap.size nx X xs.length c ny Y ys.length d W0 := N2.mk' HC.out HD.out HR.out (by have := HZ.out; omega)
    go_region_held3 (fun w' => (w'.cell? ⟨w.heap.size, 0, none⟩ = some (.bool nx) ∧ w'.cell? ⟨w.heap.size, 1, none⟩ = some (.slice X xs.length c) ∧ w'.cell? ⟨w.heap.size + 1, 0, none⟩ = some (.bool ny) ∧ w'.cell? ⟨w.heap.size + 1, 1, none⟩ = some (.slice Y ys.length d)) ∧ N2 W0 w.heap.size nx X xs.length c ny Y ys.length d w') (first | exact N2.ks (by assumption) | exact N2.ks (N2.draws 1 (by assumption)) | exact N2.ks (N2.stored _ _ _ _ (by assumption)))
      (first
        | (go_at_call 89; ((with_reducible refine (rdigits_any nx X c xs _ ?_).mono ?_)); (exact HX.out.below (HB.out.trans ((N2.bel (And.right (by assumption))).mono (by omega)))); rintro e w' ⟨A1, c1, rfl, hs1, hbel⟩; have hk' := N2.below hbel (And.right (by assumption)); clear hbel)
        | (go_at_call 89; ((with_reducible refine (rdigits_any ny Y d ys _ ?_).mono ?_)); (exact HY.out.below (HB.out.trans ((N2.bel (And.right (by assumption))).mono (by omega)))); rintro e w' ⟨A2, c2, rfl, hs2, hbel⟩; have hk2 := N2.below hbel (And.right (by assumption)); have hs1' := Sl.below (show Sl _ .i64 _ _ (D (iv nx xs).natAbs) from by assumption) hbel; clear hbel)
)
    have HSX := Lib.hid hs1'
    have HSY := Lib.hid hs2
    obtain ⟨⟨p1, p2, p3, p4⟩, -⟩ := N2.ks hk2
    have HK2 := Lib.hid hk2
    clear hs1' hs2
    go_wp2_with fail
    go_region_held3 (fun w' => (w'.cell? ⟨w.heap.size, 0, none⟩ = some (.bool nx) ∧ w'.cell? ⟨w.heap.size, 1, none⟩ = some (.slice X xs.length c) ∧ w'.cell? ⟨w.heap.size + 1, 0, none⟩ = some (.bool ny) ∧ w'.cell? ⟨w.heap.size + 1, 1, none⟩ = some (.slice Y ys.length d)) ∧ N2 W0 w.heap.size nx X xs.length c ny Y ys.length d w') (first | exact N2.ks (by assumption) | exact N2.ks (N2.draws 1 (by assumption)) | exact N2.ks (N2.stored _ _ _ _ (by assumption)))
      (first
        | (go_at_call 99; ((with_reducible refine (rplusD ?_ ?_ (by omega) (by omega)).mono ?_)); (exact HSX.out.drewN 1); (exact HSY.out.drewN 1); rintro e w' ⟨A3, c3, rfl, hs3, hbel⟩; have hk' := N2.below hbel (And.right (by assumption)); clear hbel)
        | (go_at_call 91; ((with_reducible refine (madeD (n := (iv nx xs).natAbs + (iv ny ys).natAbs) ?_ hln).mono ?_)); assumption; rintro e w' ⟨v, rfl, hi1, hbel⟩; have hk' := N2.below hbel (And.right (by assumption)); rw [HE.out] at hi1; have hi2 := Lib.hid hi1; obtain ⟨A4, c4, rfl, -⟩ := hi1; obtain ⟨b0, A0, n0, c0, hcl⟩ := hk'.r; obtain ⟨q1, q2, q3, q4⟩ := hcl; clear hbel))
    go_wp2
    refine bodyPost_ret (v := .agg #[.bool (decide (iv nx xs + iv ny ys < 0)), .slice A4 (W (iv nx xs + iv ny ys).natAbs).length c4]) (by simp [results, Try.results31, go_sem, q1, q2]) rfl ?_
    exact Cl.stored ⟨q1, q2, q3, q4⟩ hi2.out (HB.out.trans (hk'.bel.mono (by omega))) (by omega)
  · have hbb : (nx == ny) = false := by simp [hnn]
    by_cases hlt : (iv nx xs).natAbs < (iv ny ys).natAbs
    · have hdt : decide ((iv nx xs).natAbs < (iv ny ys).natAbs) = true := by simp [hlt]
      have he : (if ny then -(((iv ny ys).natAbs - (iv nx xs).natAbs : Nat) : Int) else (((iv ny ys).natAbs - (iv nx xs).natAbs : Nat) : Int)) = iv nx xs + iv ny ys := by
        have e1 := iv_eq nx xs; have e2 := iv_eq ny ys; cases nx <;> cases ny <;> simp at hnn e1 e2 ⊢ <;> omega
      have HE := Lib.hid he
      have hln : (D ((iv ny ys).natAbs - (iv nx xs).natAbs)).length ≤ 3000000 := by have := D_len_mono (Nat.sub_le (iv ny ys).natAbs (iv nx xs).natAbs); omega
      have hle2 : (iv nx xs).natAbs ≤ (iv ny ys).natAbs := by omega
      clear hnn he hx hy hB hC hD hR hz
      go_enter Try.func31, Try.ntmps31
      go_wp2_with fail
      generalize (((w.alloc (Obj.cells #[Value.bool nx, Value.slice X xs.length c] 24)).alloc (Obj.cells #[Value.bool ny, Value.slice Y ys.length d] 24)).alloc (Obj.cells #[Value.bool false, Value.slice none 0 0] 24)) = W0 at *
      have hk0 : N2 W0 w.heap.size nx X xs.length c ny Y ys.length d W0 := N2.mk' HC.out HD.out HR.out (by have := HZ.out; omega)
      go_region_held3 (fun w' => (w'.cell? ⟨w.heap.size, 0, none⟩ = some (.bool nx) ∧ w'.cell? ⟨w.heap.size, 1, none⟩ = some (.slice X xs.length c) ∧ w'.cell? ⟨w.heap.size + 1, 0, none⟩ = some (.bool ny) ∧ w'.cell? ⟨w.heap.size + 1, 1, none⟩ = some (.slice Y ys.length d)) ∧ N2 W0 w.heap.size nx X xs.length c ny Y ys.length d w') (first | exact N2.ks (by assumption) | exact N2.ks (N2.draws 1 (by assumption)) | exact N2.ks (N2.stored _ _ _ _ (by assumption)))
        (first
          | (go_at_call 89; ((with_reducible refine (rdigits_any nx X c xs _ ?_).mono ?_)); (exact HX.out.below (HB.out.trans ((N2.bel (And.right (by assumption))).mono (by omega)))); rintro e w' ⟨A1, c1, rfl, hs1, hbel⟩; have hk' := N2.below hbel (And.right (by assumption)); clear hbel)
          | (go_at_call 89; ((with_reducible refine (rdigits_any ny Y d ys _ ?_).mono ?_)); (exact HY.out.below (HB.out.trans ((N2.bel (And.right (by assumption))).mono (by omega)))); rintro e w' ⟨A2, c2, rfl, hs2, hbel⟩; have hk2 := N2.below hbel (And.right (by assumption)); have hs1' := Sl.below (show Sl _ .i64 _ _ (D (iv nx xs).natAbs) from by assumption) hbel; clear hbel)
  )
      have HSX := Lib.hid hs1'
      have HSY := Lib.hid hs2
      obtain ⟨⟨p1, p2, p3, p4⟩, -⟩ := N2.ks hk2
      have HK2 := Lib.hid hk2
      clear hs1' hs2
      go_wp2_with fail
      refine (rless_any _ _ _ _ _ _ _ HSX.out HSY.out).mono ?_
      rw [hdt]
      rintro e w3 ⟨rfl, hdr⟩
      have hk3 := HK2.out.below hdr.below
      have HSX2 := Lib.hid (HSX.out.below hdr.below)
      have HSY2 := Lib.hid (HSY.out.below hdr.below)
      obtain ⟨⟨r1, r2, r3, r4⟩, -⟩ := N2.ks hk3
      clear hdr p1 p2 p3 p4
      go_wp2_with fail
      go_region_held3 (fun w' => (w'.cell? ⟨w.heap.size, 0, none⟩ = some (.bool nx) ∧ w'.cell? ⟨w.heap.size, 1, none⟩ = some (.slice X xs.length c) ∧ w'.cell? ⟨w.heap.size + 1, 0, none⟩ = some (.bool ny) ∧ w'.cell? ⟨w.heap.size + 1, 1, none⟩ = some (.slice Y ys.length d)) ∧ N2 W0 w.heap.size nx X xs.length c ny Y ys.length d w') (first | exact N2.ks (by assumption) | exact N2.ks (N2.draws 1 (by assumption)) | exact N2.ks (N2.stored _ _ _ _ (by assumption)))
        (first
          | (go_at_call 101; ((with_reducible refine (rminusD ?_ ?_ (by omega) hle2).mono ?_)); (exact HSY2.out.drewN 1); (exact HSX2.out.drewN 1); rintro e w' ⟨A3, c3, rfl, hs3, hbel⟩; have hk' := N2.below hbel (And.right (by assumption)); clear hbel)
          | (go_at_call 91; ((with_reducible refine (madeD (n := (iv ny ys).natAbs - (iv nx xs).natAbs) ?_ hln).mono ?_)); assumption; rintro e w' ⟨v, rfl, hi1, hbel⟩; have hk' := N2.below hbel (And.right (by assumption)); rw [HE.out] at hi1; have hi2 := Lib.hid hi1; obtain ⟨A4, c4, rfl, -⟩ := hi1; obtain ⟨b0, A0, n0, c0, hcl⟩ := hk'.r; obtain ⟨q1, q2, q3, q4⟩ := hcl; clear hbel))
      go_wp2
      refine bodyPost_ret (v := .agg #[.bool (decide (iv nx xs + iv ny ys < 0)), .slice A4 (W (iv nx xs + iv ny ys).natAbs).length c4]) (by simp [results, Try.results31, go_sem, q1, q2]) rfl ?_
      exact Cl.stored ⟨q1, q2, q3, q4⟩ hi2.out (HB.out.trans (hk'.bel.mono (by omega))) (by omega)
    · have hdt : decide ((iv nx xs).natAbs < (iv ny ys).natAbs) = false := by simp; omega
      have he : (if nx then -(((iv nx xs).natAbs - (iv ny ys).natAbs : Nat) : Int) else (((iv nx xs).natAbs - (iv ny ys).natAbs : Nat) : Int)) = iv nx xs + iv ny ys := by
        have e1 := iv_eq nx xs; have e2 := iv_eq ny ys; cases nx <;> cases ny <;> simp at hnn e1 e2 ⊢ <;> omega
      have HE := Lib.hid he
      have hln : (D ((iv nx xs).natAbs - (iv ny ys).natAbs)).length ≤ 3000000 := by have := D_len_mono (Nat.sub_le (iv nx xs).natAbs (iv ny ys).natAbs); omega
      have hle2 : (iv ny ys).natAbs ≤ (iv nx xs).natAbs := by omega
      clear hnn he hx hy hB hC hD hR hz
      go_enter Try.func31, Try.ntmps31
      go_wp2_with fail
      generalize (((w.alloc (Obj.cells #[Value.bool nx, Value.slice X xs.length c] 24)).alloc (Obj.cells #[Value.bool ny, Value.slice Y ys.length d] 24)).alloc (Obj.cells #[Value.bool false, Value.slice none 0 0] 24)) = W0 at *
      have hk0 : N2 W0 w.heap.size nx X xs.length c ny Y ys.length d W0 := N2.mk' HC.out HD.out HR.out (by have := HZ.out; omega)
      go_region_held3 (fun w' => (w'.cell? ⟨w.heap.size, 0, none⟩ = some (.bool nx) ∧ w'.cell? ⟨w.heap.size, 1, none⟩ = some (.slice X xs.length c) ∧ w'.cell? ⟨w.heap.size + 1, 0, none⟩ = some (.bool ny) ∧ w'.cell? ⟨w.heap.size + 1, 1, none⟩ = some (.slice Y ys.length d)) ∧ N2 W0 w.heap.size nx X xs.length c ny Y ys.length d w') (first | exact N2.ks (by assumption) | exact N2.ks (N2.draws 1 (by assumption)) | exact N2.ks (N2.stored _ _ _ _ (by assumption)))
        (first
          | (go_at_call 89; ((with_reducible refine (rdigits_any nx X c xs _ ?_).mono ?_)); (exact HX.out.below (HB.out.trans ((N2.bel (And.right (by assumption))).mono (by omega)))); rintro e w' ⟨A1, c1, rfl, hs1, hbel⟩; have hk' := N2.below hbel (And.right (by assumption)); clear hbel)
          | (go_at_call 89; ((with_reducible refine (rdigits_any ny Y d ys _ ?_).mono ?_)); (exact HY.out.below (HB.out.trans ((N2.bel (And.right (by assumption))).mono (by omega)))); rintro e w' ⟨A2, c2, rfl, hs2, hbel⟩; have hk2 := N2.below hbel (And.right (by assumption)); have hs1' := Sl.below (show Sl _ .i64 _ _ (D (iv nx xs).natAbs) from by assumption) hbel; clear hbel)
  )
      have HSX := Lib.hid hs1'
      have HSY := Lib.hid hs2
      obtain ⟨⟨p1, p2, p3, p4⟩, -⟩ := N2.ks hk2
      have HK2 := Lib.hid hk2
      clear hs1' hs2
      go_wp2_with fail
      refine (rless_any _ _ _ _ _ _ _ HSX.out HSY.out).mono ?_
      rw [hdt]
      rintro e w3 ⟨rfl, hdr⟩
      have hk3 := HK2.out.below hdr.below
      have HSX2 := Lib.hid (HSX.out.below hdr.below)
      have HSY2 := Lib.hid (HSY.out.below hdr.below)
      obtain ⟨⟨r1, r2, r3, r4⟩, -⟩ := N2.ks hk3
      clear hdr p1 p2 p3 p4
      go_wp2_with fail
      go_region_held3 (fun w' => (w'.cell? ⟨w.heap.size, 0, none⟩ = some (.bool nx) ∧ w'.cell? ⟨w.heap.size, 1, none⟩ = some (.slice X xs.length c) ∧ w'.cell? ⟨w.heap.size + 1, 0, none⟩ = some (.bool ny) ∧ w'.cell? ⟨w.heap.size + 1, 1, none⟩ = some (.slice Y ys.length d)) ∧ N2 W0 w.heap.size nx X xs.length c ny Y ys.length d w') (first | exact N2.ks (by assumption) | exact N2.ks (N2.draws 1 (by assumption)) | exact N2.ks (N2.stored _ _ _ _ (by assumption)))
        (first
          | (go_at_call 101; ((with_reducible refine (rminusD ?_ ?_ (by omega) hle2).mono ?_)); (exact HSX2.out.drewN 1); (exact HSY2.out.drewN 1); rintro e w' ⟨A3, c3, rfl, hs3, hbel⟩; have hk' := N2.below hbel (And.right (by assumption)); clear hbel)
          | (go_at_call 91; ((with_reducible refine (madeD (n := (iv nx xs).natAbs - (iv ny ys).natAbs) ?_ hln).mono ?_)); assumption; rintro e w' ⟨v, rfl, hi1, hbel⟩; have hk' := N2.below hbel (And.right (by assumption)); rw [HE.out] at hi1; have hi2 := Lib.hid hi1; obtain ⟨A4, c4, rfl, -⟩ := hi1; obtain ⟨b0, A0, n0, c0, hcl⟩ := hk'.r; obtain ⟨q1, q2, q3, q4⟩ := hcl; clear hbel))
      go_wp2
      refine bodyPost_ret (v := .agg #[.bool (decide (iv nx xs + iv ny ys < 0)), .slice A4 (W (iv nx xs + iv ny ys).natAbs).length c4]) (by simp [results, Try.results31, go_sem, q1, q2]) rfl ?_
      exact Cl.stored ⟨q1, q2, q3, q4⟩ hi2.out (HB.out.trans (hk'.bel.mono (by omega))) (by omega)
end Go.Proofs.Ytcbdnnboddahkaa.Ws
