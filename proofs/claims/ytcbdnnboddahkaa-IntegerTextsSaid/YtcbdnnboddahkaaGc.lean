/-
  WALKS: greatest common divisors; products of the reference.
-/
import Derived.Test.YtcbdnnboddahkaaRdm
import Derived.Deep.LoopGhost
namespace Go.Proofs.Ytcbdnnboddahkaa.Ws
open Go.RowKit
set_option linter.unusedVariables false
set_option maxRecDepth 100000
set_option maxHeartbeats 4000000 in
theorem Gcd_any (nx ny : Bool) (X Y : Option Addr) (c d : Nat) (xs ys : List Nat) (w : World) (hx : IntIn w nx X c xs) (hy : IntIn w ny Y d ys) :
    Calls Try.prog 36 #[.agg #[.bool nx, .slice X xs.length c], .agg #[.bool ny, .slice Y ys.length d]] w fun e w' => IntOut w ((Nat.gcd (iv nx xs).natAbs (iv ny ys).natAbs : Nat) : Int) e w' := by
  have hB : Below w.heap.size w (((w.alloc (Obj.cells #[Value.bool nx, Value.slice X xs.length c] 24)).alloc (Obj.cells #[Value.bool ny, Value.slice Y ys.length d] 24)).alloc (Obj.cells #[Value.bool false, Value.slice none 0 0] 24)) := by go_grown
  have hC : Cl (((w.alloc (Obj.cells #[Value.bool nx, Value.slice X xs.length c] 24)).alloc (Obj.cells #[Value.bool ny, Value.slice Y ys.length d] 24)).alloc (Obj.cells #[Value.bool false, Value.slice none 0 0] 24)) w.heap.size nx X xs.length c :=
    ⟨by simp [go_sem], by simp [go_sem], by simp [go_sem], by simp [go_sem]⟩
  have hD : Cl (((w.alloc (Obj.cells #[Value.bool nx, Value.slice X xs.length c] 24)).alloc (Obj.cells #[Value.bool ny, Value.slice Y ys.length d] 24)).alloc (Obj.cells #[Value.bool false, Value.slice none 0 0] 24)) (w.heap.size + 1) ny Y ys.length d :=
    ⟨by simp [go_sem], by simp [go_sem], by simp [go_sem], by simp [go_sem]⟩
  have hR : Cl (((w.alloc (Obj.cells #[Value.bool nx, Value.slice X xs.length c] 24)).alloc (Obj.cells #[Value.bool ny, Value.slice Y ys.length d] 24)).alloc (Obj.cells #[Value.bool false, Value.slice none 0 0] 24)) (w.heap.size + 1 + 1) false none 0 0 :=
    ⟨by simp [go_sem], by simp [go_sem], by simp [go_sem], by simp [go_sem]⟩
  have hz : (((w.alloc (Obj.cells #[Value.bool nx, Value.slice X xs.length c] 24)).alloc (Obj.cells #[Value.bool ny, Value.slice Y ys.length d] 24)).alloc (Obj.cells #[Value.bool false, Value.slice none 0 0] 24)).heap.size = w.heap.size + 3 := by simp
  have hl1 : (W (iv nx xs).natAbs).length ≤ 4294967280 := by rw [← trimL_W nx hx.lt]; have := trimL_length xs; have := hx.len; omega
  have hl2 : (W (iv ny ys).natAbs).length ≤ 4294967280 := by rw [← trimL_W ny hy.lt]; have := trimL_length ys; have := hy.len; omega
  have HX := Lib.hid hx
  have HY := Lib.hid hy
  have HB := Lib.hid hB
  have HC := Lib.hid hC
  have HD := Lib.hid hD
  have HR := Lib.hid hR
  have HZ := Lib.hid hz
  clear hx hy hB hC hD hR hz
  go_enter Try.func36, Try.ntmps36
  go_wp2_with fail
  generalize (((w.alloc (Obj.cells #[Value.bool nx, Value.slice X xs.length c] 24)).alloc (Obj.cells #[Value.bool ny, Value.slice Y ys.length d] 24)).alloc (Obj.cells #[Value.bool false, Value.slice none 0 0] 24)) = W0 at *
  have hk0 : N2 W0 w.heap.size nx X xs.length c ny Y ys.length d W0 := N2.mk' HC.out HD.out HR.out (by have := HZ.out; omega)
  go_region_held3 (fun w' => (w'.cell? ⟨w.heap.size, 0, none⟩ = some (.bool nx) ∧ w'.cell? ⟨w.heap.size, 1, none⟩ = some (.slice X xs.length c) ∧ w'.cell? ⟨w.heap.size + 1, 0, none⟩ = some (.bool ny) ∧ w'.cell? ⟨w.heap.size + 1, 1, none⟩ = some (.slice Y ys.length d)) ∧ N2 W0 w.heap.size nx X xs.length c ny Y ys.length d w') (first | exact N2.ks (by assumption) | exact N2.ks (N2.draws 1 (by assumption)) | exact N2.ks (N2.stored _ _ _ _ (by assumption)))
    (first
      | (go_at_call 88; ((with_reducible refine (trim_in (w0 := w) HX.out ?_).mono ?_)); (exact (HB.out.trans ((N2.bel (And.right (by assumption))).mono (by omega)))); rintro e w' ⟨rfl, -, rfl⟩)
      | (go_at_call 88; ((with_reducible refine (trim_in (w0 := w) HY.out ?_).mono ?_)); (exact (HB.out.trans ((N2.bel (And.right (by assumption))).mono (by omega)))); rintro e w' ⟨rfl, -, rfl⟩))
  obtain ⟨-, hk1⟩ := (by assumption : (_ ∧ _ ∧ _ ∧ _) ∧ N2 W0 w.heap.size nx X xs.length c ny Y ys.length d _)
  have HK1 := Lib.hid hk1
  have HSX := Lib.hid (HX.out.dg (HB.out.trans (hk1.bel.mono (by omega))))
  have HSY := Lib.hid (HY.out.dg (HB.out.trans (hk1.bel.mono (by omega))))
  clear hk1 hk0
  try clear hHeld
  go_wp2
  go_loopg [5, 6, 7, 8] ((iv ny ys).natAbs) (fun k t5 t6 _ _ wr => ∃ (a : Nat) (A1 A2 : Option Addr) (c1 c2 : Nat), (Nat.gcd a k = Nat.gcd (iv nx xs).natAbs (iv ny ys).natAbs ∧ (W a).length ≤ 4294967280 ∧ (W k).length ≤ 4294967280 ∧ Sl wr .u32 A1 c1 (W a) ∧ Sl wr .u32 A2 c2 (W k) ∧ N2 W0 w.heap.size nx X xs.length c ny Y ys.length d wr) ∧ t5 = .slice A1 (W a).length c1 ∧ t6 = .slice A2 (W k).length c2)
  case atStart => exact ⟨_, X, Y, c, d, ⟨rfl, hl1, hl2, HSX.out, HSY.out, HK1.out⟩, rfl, rfl⟩
  case round =>
    obtain ⟨a, A1, A2, c1, c2, ⟨hg, hla, hlk, hsa, hsk, hn⟩, rfl, rfl⟩ := hrel
    have HG := Lib.hid hg
    have HSA := Lib.hid hsa
    have HSK := Lib.hid hsk
    have HN := Lib.hid hn
    have hca := hsa.le
    have hck := hsk.le
    have hma := hsa.max
    have hmk := hsk.max
    clear hg hsa hsk hn HSX HSY HK1
    by_cases h0 : gk = 0
    · subst h0
      have ha : a = Nat.gcd (iv nx xs).natAbs (iv ny ys).natAbs := by rw [← HG.out, Nat.gcd_zero_right]
      have hd : decide (0 < (W 0).length) = false := rfl
      have HA := Lib.hid ha
      clear ha
      go_wp2_with fail
      refine (clone_any A1 c1 (W a) _ HSA.out (by omega)).mono ?_
      rintro e w5 ⟨A5, c5, rfl, hs5, hb5⟩
      have HN5 := Lib.hid (HN.out.below hb5)
      have HS5 := Lib.hid hs5
      clear hs5 hb5
      go_wp2_with fail
      refine (signed_any false A5 c5 (W a) _ HS5.out (W_lt _)).mono ?_
      rw [iv_W, HA.out]
      rintro e w6 ⟨v, rfl, hi6, hb6⟩
      have HN6 := Lib.hid (HN5.out.below hb6)
      have HI6 := Lib.hid hi6
      obtain ⟨A6, c6, rfl, -⟩ := hi6
      obtain ⟨b0, A0, n0, c0, hcl⟩ := HN6.out.r
      obtain ⟨q1, q2, q3, q4⟩ := hcl
      clear hb6
      go_wp2
      refine bodyPost_ret (v := .agg #[.bool (decide (((Nat.gcd (iv nx xs).natAbs (iv ny ys).natAbs : Nat) : Int) < 0)), .slice A6 (W ((Nat.gcd (iv nx xs).natAbs (iv ny ys).natAbs : Nat) : Int).natAbs).length c6]) (by simp [results, Try.results36, go_sem, q1, q2]) rfl ?_
      exact Cl.stored ⟨q1, q2, q3, q4⟩ HI6.out (HB.out.trans (HN6.out.bel.mono (by omega))) (by omega)
    · have hd : decide (0 < (W gk).length) = true := by
        have : (W gk).length ≠ 0 := fun h => h0 (W_nil.1 (List.eq_nil_of_length_eq_zero h))
        rw [decide_eq_true_iff]; omega
      go_wp2_with fail
      refine (divw_any A1 A2 c1 c2 a gk _ HSA.out HSK.out h0 hla).mono ?_
      rintro e w5 ⟨A5, c5, A6, c6, rfl, hs5, hs6, hb5⟩
      have HS6 := Lib.hid hs6
      have HSK5 := Lib.hid (HSK.out.below hb5)
      have HN5 := Lib.hid (HN.out.below hb5)
      clear hs5 hs6 hb5
      go_wp2
      go_roundg (a % gk)
      case rel => exact ⟨gk, A2, A6, c2, c6, ⟨by rw [← HG.out, Nat.gcd_comm, ← Nat.gcd_rec, Nat.gcd_comm], hlk, Nat.le_trans (W_len_mono (Nat.mod_le a gk)) hla, HSK5.out, HS6.out, HN5.out⟩, rfl, rfl⟩
      case measure => exact Nat.mod_lt _ (by omega)
set_option maxHeartbeats 4000000 in
theorem rGcd_any (nx ny : Bool) (X Y : Option Addr) (c d : Nat) (xs ys : List Nat) (w : World) (hx : IntIn w nx X c xs) (hy : IntIn w ny Y d ys) :
    Calls Try.prog 37 #[.agg #[.bool nx, .slice X xs.length c], .agg #[.bool ny, .slice Y ys.length d]] w fun e w' => IntOut w ((Nat.gcd (iv nx xs).natAbs (iv ny ys).natAbs : Nat) : Int) e w' := by
  have hB : Below w.heap.size w (((w.alloc (Obj.cells #[Value.bool nx, Value.slice X xs.length c] 24)).alloc (Obj.cells #[Value.bool ny, Value.slice Y ys.length d] 24)).alloc (Obj.cells #[Value.bool false, Value.slice none 0 0] 24)) := by go_grown
  have hC : Cl (((w.alloc (Obj.cells #[Value.bool nx, Value.slice X xs.length c] 24)).alloc (Obj.cells #[Value.bool ny, Value.slice Y ys.length d] 24)).alloc (Obj.cells #[Value.bool false, Value.slice none 0 0] 24)) w.heap.size nx X xs.length c :=
    ⟨by simp [go_sem], by simp [go_sem], by simp [go_sem], by simp [go_sem]⟩
  have hD : Cl (((w.alloc (Obj.cells #[Value.bool nx, Value.slice X xs.length c] 24)).alloc (Obj.cells #[Value.bool ny, Value.slice Y ys.length d] 24)).alloc (Obj.cells #[Value.bool false, Value.slice none 0 0] 24)) (w.heap.size + 1) ny Y ys.length d :=
    ⟨by simp [go_sem], by simp [go_sem], by simp [go_sem], by simp [go_sem]⟩
  have hR : Cl (((w.alloc (Obj.cells #[Value.bool nx, Value.slice X xs.length c] 24)).alloc (Obj.cells #[Value.bool ny, Value.slice Y ys.length d] 24)).alloc (Obj.cells #[Value.bool false, Value.slice none 0 0] 24)) (w.heap.size + 1 + 1) false none 0 0 :=
    ⟨by simp [go_sem], by simp [go_sem], by simp [go_sem], by simp [go_sem]⟩
  have hz : (((w.alloc (Obj.cells #[Value.bool nx, Value.slice X xs.length c] 24)).alloc (Obj.cells #[Value.bool ny, Value.slice Y ys.length d] 24)).alloc (Obj.cells #[Value.bool false, Value.slice none 0 0] 24)).heap.size = w.heap.size + 3 := by simp
  have hl1 : (D (iv nx xs).natAbs).length ≤ 2000000 := hx.dlen
  have hl2 : (D (iv ny ys).natAbs).length ≤ 2000000 := hy.dlen
  have HX := Lib.hid hx
  have HY := Lib.hid hy
  have HB := Lib.hid hB
  have HC := Lib.hid hC
  have HD := Lib.hid hD
  have HR := Lib.hid hR
  have HZ := Lib.hid hz
  clear hx hy hB hC hD hR hz
  go_enter Try.func37, Try.ntmps37
  go_wp2_with fail
  generalize (((w.alloc (Obj.cells #[Value.bool nx, Value.slice X xs.length c] 24)).alloc (Obj.cells #[Value.bool ny, Value.slice Y ys.length d] 24)).alloc (Obj.cells #[Value.bool false, Value.slice none 0 0] 24)) = W0 at *
  have hk0 : N2 W0 w.heap.size nx X xs.length c ny Y ys.length d W0 := N2.mk' HC.out HD.out HR.out (by have := HZ.out; omega)
  go_region_held3 (fun w' => (w'.cell? ⟨w.heap.size, 0, none⟩ = some (.bool nx) ∧ w'.cell? ⟨w.heap.size, 1, none⟩ = some (.slice X xs.length c) ∧ w'.cell? ⟨w.heap.size + 1, 0, none⟩ = some (.bool ny) ∧ w'.cell? ⟨w.heap.size + 1, 1, none⟩ = some (.slice Y ys.length d)) ∧ N2 W0 w.heap.size nx X xs.length c ny Y ys.length d w') (first | exact N2.ks (by assumption) | exact N2.ks (N2.draws 1 (by assumption)) | exact N2.ks (N2.stored _ _ _ _ (by assumption)))
    (first
      | (go_at_call 89; ((with_reducible refine (rdigits_any nx X c xs _ ?_).mono ?_)); (exact HX.out.below (HB.out.trans ((N2.bel (And.right (by assumption))).mono (by omega)))); rintro e w' ⟨B1, e1, rfl, hsx, hbel⟩; have hk' := N2.below hbel (And.right (by assumption)); clear hbel)
      | (go_at_call 89; ((with_reducible refine (rdigits_any ny Y d ys _ ?_).mono ?_)); (exact HY.out.below (HB.out.trans ((N2.bel (And.right (by assumption))).mono (by omega)))); rintro e w' ⟨B2, e2, rfl, hsy, hbel⟩; have hk' := N2.below hbel (And.right (by assumption)); have hsx2 := hsx.below hbel; clear hbel hsx))
  have HK1 := Lib.hid hk'
  have HSX := Lib.hid hsx2
  have HSY := Lib.hid hsy
  clear hk' hsx2 hsy hk0
  try clear hHeld
  go_wp2
  go_loopg [5, 6, 7, 8] ((iv ny ys).natAbs) (fun k t5 t6 _ _ wr => ∃ (a : Nat) (A1 A2 : Option Addr) (c1 c2 : Nat), (Nat.gcd a k = Nat.gcd (iv nx xs).natAbs (iv ny ys).natAbs ∧ (D a).length ≤ 2000000 ∧ (D k).length ≤ 2000000 ∧ Sl wr .i64 A1 c1 (D a) ∧ Sl wr .i64 A2 c2 (D k) ∧ N2 W0 w.heap.size nx X xs.length c ny Y ys.length d wr) ∧ t5 = .slice A1 (D a).length c1 ∧ t6 = .slice A2 (D k).length c2)
  case atStart => exact ⟨_, B1, B2, e1, e2, ⟨rfl, hl1, hl2, HSX.out, HSY.out, HK1.out⟩, rfl, rfl⟩
  case round =>
    obtain ⟨a, A1, A2, c1, c2, ⟨hg, hla, hlk, hsa, hsk, hn⟩, rfl, rfl⟩ := hrel
    have HG := Lib.hid hg
    have HSA := Lib.hid hsa
    have HSK := Lib.hid hsk
    have HN := Lib.hid hn
    have hca := hsa.le
    have hck := hsk.le
    have hma := hsa.max
    have hmk := hsk.max
    clear hg hsa hsk hn HSX HSY HK1
    by_cases h0 : gk = 0
    · subst h0
      have ha : a = Nat.gcd (iv nx xs).natAbs (iv ny ys).natAbs := by rw [← HG.out, Nat.gcd_zero_right]
      have hd : decide (0 < (D 0).length) = false := rfl
      have HA := Lib.hid ha
      clear ha
      go_wp2_with fail
      refine (madeD (neg := false) (n := a) HSA.out (by omega)).mono ?_
      rw [HA.out]
      rintro e w6 ⟨v, rfl, hi6, hb6⟩
      have HN6 := Lib.hid (HN.out.below hb6)
      have HI6 : Hid (IntIs w6 ((Nat.gcd (iv nx xs).natAbs (iv ny ys).natAbs : Nat) : Int) v) := Lib.hid hi6
      obtain ⟨A6, c6, rfl, -⟩ := HI6.out
      obtain ⟨b0, A0, n0, c0, hcl⟩ := HN6.out.r
      obtain ⟨q1, q2, q3, q4⟩ := hcl
      clear hb6 hi6
      go_wp2
      refine bodyPost_ret (v := .agg #[.bool (decide (((Nat.gcd (iv nx xs).natAbs (iv ny ys).natAbs : Nat) : Int) < 0)), .slice A6 (W ((Nat.gcd (iv nx xs).natAbs (iv ny ys).natAbs : Nat) : Int).natAbs).length c6]) (by simp [results, Try.results37, go_sem, q1, q2]) rfl ?_
      exact Cl.stored ⟨q1, q2, q3, q4⟩ HI6.out (HB.out.trans (HN6.out.bel.mono (by omega))) (by omega)
    · have hd : decide (0 < (D gk).length) = true := by
        have : (D gk).length ≠ 0 := fun h => h0 (D_nil.1 (List.eq_nil_of_length_eq_zero h))
        rw [decide_eq_true_iff]; omega
      go_wp2_with fail
      refine (rdiv_any A1 A2 c1 c2 a gk _ HSA.out HSK.out h0 (by omega) (by omega)).mono ?_
      rintro e w5 ⟨A5, c5, A6, c6, rfl, hs5, hs6, hb5⟩
      have HS6 := Lib.hid hs6
      have HSK5 := Lib.hid (HSK.out.below hb5)
      have HN5 := Lib.hid (HN.out.below hb5)
      clear hs5 hs6 hb5
      go_wp2
      go_roundg (a % gk)
      case rel => exact ⟨gk, A2, A6, c2, c6, ⟨by rw [← HG.out, Nat.gcd_comm, ← Nat.gcd_rec, Nat.gcd_comm], hlk, Nat.le_trans (D_len_mono (Nat.mod_le a gk)) hla, HSK5.out, HS6.out, HN5.out⟩, rfl, rfl⟩
      case measure => exact Nat.mod_lt _ (by omega)
theorem D_len_mul (a b : Nat) : (D (a * b)).length ≤ (D a).length + (D b).length := by
  refine dgs_length_le 65536 (by decide) _ _ ?_
  rw [Nat.pow_add]
  exact Nat.mul_lt_mul'' (dgs_length_lt 65536 (by decide) a) (dgs_length_lt 65536 (by decide) b)
theorem rtimesD {X Y : Option Addr} {c d a b : Nat} {w : World} (hx : Sl w .i64 X c (D a)) (hy : Sl w .i64 Y d (D b)) (h1 : (D a).length ≤ 8000000) (h2 : (D b).length ≤ 8000000) :
    Calls Try.prog 104 #[.slice X (D a).length c, .slice Y (D b).length d] w fun e w' => SlOut w .i64 (D (a * b)) e w' := by
  have h := rtimes_list X Y c d (D a) (D b) w hx hy (D_lt _) (D_lt _) h1 h2
  rw [val_D, val_D] at h; exact h
theorem imul (nx ny : Bool) (xs ys : List Nat) : (if (!nx == ny) then -(((iv nx xs).natAbs * (iv ny ys).natAbs : Nat) : Int) else (((iv nx xs).natAbs * (iv ny ys).natAbs : Nat) : Int)) = iv nx xs * iv ny ys := by
  rw [← iv_mul, iv_W]
set_option maxHeartbeats 4000000 in
theorem rMul_any (nx ny : Bool) (X Y : Option Addr) (c d : Nat) (xs ys : List Nat) (w : World) (hx : IntIn w nx X c xs) (hy : IntIn w ny Y d ys) (hlx : (D (iv nx xs).natAbs).length ≤ 1500000) (hly : (D (iv ny ys).natAbs).length ≤ 1500000) :
    Calls Try.prog 35 #[.agg #[.bool nx, .slice X xs.length c], .agg #[.bool ny, .slice Y ys.length d]] w fun e w' => IntOut w (iv nx xs * iv ny ys) e w' := by
  have hB : Below w.heap.size w (((w.alloc (Obj.cells #[Value.bool nx, Value.slice X xs.length c] 24)).alloc (Obj.cells #[Value.bool ny, Value.slice Y ys.length d] 24)).alloc (Obj.cells #[Value.bool false, Value.slice none 0 0] 24)) := by go_grown
  have hC : Cl (((w.alloc (Obj.cells #[Value.bool nx, Value.slice X xs.length c] 24)).alloc (Obj.cells #[Value.bool ny, Value.slice Y ys.length d] 24)).alloc (Obj.cells #[Value.bool false, Value.slice none 0 0] 24)) w.heap.size nx X xs.length c :=
    ⟨by simp [go_sem], by simp [go_sem], by simp [go_sem], by simp [go_sem]⟩
  have hD : Cl (((w.alloc (Obj.cells #[Value.bool nx, Value.slice X xs.length c] 24)).alloc (Obj.cells #[Value.bool ny, Value.slice Y ys.length d] 24)).alloc (Obj.cells #[Value.bool false, Value.slice none 0 0] 24)) (w.heap.size + 1) ny Y ys.length d :=
    ⟨by simp [go_sem], by simp [go_sem], by simp [go_sem], by simp [go_sem]⟩
  have hR : Cl (((w.alloc (Obj.cells #[Value.bool nx, Value.slice X xs.length c] 24)).alloc (Obj.cells #[Value.bool ny, Value.slice Y ys.length d] 24)).alloc (Obj.cells #[Value.bool false, Value.slice none 0 0] 24)) (w.heap.size + 1 + 1) false none 0 0 :=
    ⟨by simp [go_sem], by simp [go_sem], by simp [go_sem], by simp [go_sem]⟩
  have hz : (((w.alloc (Obj.cells #[Value.bool nx, Value.slice X xs.length c] 24)).alloc (Obj.cells #[Value.bool ny, Value.slice Y ys.length d] 24)).alloc (Obj.cells #[Value.bool false, Value.slice none 0 0] 24)).heap.size = w.heap.size + 3 := by simp
  have hl1 : (D (iv nx xs).natAbs).length ≤ 1500000 := hlx
  have hl2 : (D (iv ny ys).natAbs).length ≤ 1500000 := hly
  have HX := Lib.hid hx
  have HY := Lib.hid hy
  have HB := Lib.hid hB
  have HC := Lib.hid hC
  have HD := Lib.hid hD
  have HR := Lib.hid hR
  have HZ := Lib.hid hz
  clear hx hy hB hC hD hR hz
  have hpl : (D ((iv nx xs).natAbs * (iv ny ys).natAbs)).length ≤ 3000000 := by have := D_len_mul (iv nx xs).natAbs (iv ny ys).natAbs; omega
  have HE := Lib.hid (imul nx ny xs ys)
  go_enter Try.func35, Try.ntmps35
  go_wp2_with fail
  generalize (((w.alloc (Obj.cells #[Value.bool nx, Value.slice X xs.length c] 24)).alloc (Obj.cells #[Value.bool ny, Value.slice Y ys.length d] 24)).alloc (Obj.cells #[Value.bool false, Value.slice none 0 0] 24)) = W0 at *
  have hk0 : N2 W0 w.heap.size nx X xs.length c ny Y ys.length d W0 := N2.mk' HC.out HD.out HR.out (by have := HZ.out; omega)
  go_region_held3 (fun w' => (w'.cell? ⟨w.heap.size, 0, none⟩ = some (.bool nx) ∧ w'.cell? ⟨w.heap.size, 1, none⟩ = some (.slice X xs.length c) ∧ w'.cell? ⟨w.heap.size + 1, 0, none⟩ = some (.bool ny) ∧ w'.cell? ⟨w.heap.size + 1, 1, none⟩ = some (.slice Y ys.length d)) ∧ N2 W0 w.heap.size nx X xs.length c ny Y ys.length d w') (first | exact N2.ks (by assumption) | exact N2.ks (N2.draws 1 (by assumption)) | exact N2.ks (N2.stored _ _ _ _ (by assumption)))
    (first
      | (go_at_call 89; ((with_reducible refine (rdigits_any nx X c xs _ ?_).mono ?_)); (exact HX.out.below (HB.out.trans ((N2.bel (And.right (by assumption))).mono (by omega)))); rintro e w' ⟨B1, e1, rfl, hsx, hbel⟩; have hk' := N2.below hbel (And.right (by assumption)); clear hbel)
      | (go_at_call 89; ((with_reducible refine (rdigits_any ny Y d ys _ ?_).mono ?_)); (exact HY.out.below (HB.out.trans ((N2.bel (And.right (by assumption))).mono (by omega)))); rintro e w' ⟨B2, e2, rfl, hsy, hbel⟩; have hk' := N2.below hbel (And.right (by assumption)); have hsx2 := hsx.below hbel; clear hbel hsx)
      | (go_at_call 104; ((with_reducible refine (rtimesD hsx2 hsy (by omega) (by omega)).mono ?_)); rintro e w' ⟨B3, e3, rfl, hs3, hbel⟩; have hk' := N2.below hbel (And.right (by assumption)); clear hbel)
      | (go_at_call 91; ((with_reducible refine (madeD (n := (iv nx xs).natAbs * (iv ny ys).natAbs) hs3 hpl).mono ?_)); rw [HE.out]; rintro e w' ⟨v, rfl, hi1, hbel⟩; have hk' := N2.below hbel (And.right (by assumption)); have hi2 := Lib.hid hi1; obtain ⟨A4, c4, rfl, -⟩ := hi1; obtain ⟨b0, A0, n0, c0, hcl⟩ := hk'.r; obtain ⟨q1, q2, q3, q4⟩ := hcl; clear hbel))
  go_wp2
  refine bodyPost_ret (v := .agg #[.bool (decide (iv nx xs * iv ny ys < 0)), .slice A4 (W (iv nx xs * iv ny ys).natAbs).length c4]) (by simp [results, Try.results35, go_sem, q1, q2]) rfl ?_
  exact Cl.stored ⟨q1, q2, q3, q4⟩ hi2.out (HB.out.trans (hk'.bel.mono (by omega))) (by omega)
end Go.Proofs.Ytcbdnnboddahkaa.Ws
