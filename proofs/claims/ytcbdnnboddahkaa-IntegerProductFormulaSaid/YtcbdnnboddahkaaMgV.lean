/-
  What the laws over two integers of words start from.
  WALKS: greatest common divisors; products of the reference.
  The contracts of integers of words, said of values; lists of values and of boxed integers that a walk keeps.
-/
import Derived.Test.YtcbdnnboddahkaaRcmp
import Derived.Test.YtcbdnnboddahkaaSame
import Derived.Test.YtcbdnnboddahkaaRdm
import Derived.Deep.LoopGhost
namespace Go.Proofs.Ytcbdnnboddahkaa.Ws
open Go.RowKit
set_option linter.unusedVariables false
set_option maxRecDepth 100000
/-- two integers that lie in two blocks -/
structure K2 (W0 : World) (g : Nat) (nx : Bool) (X : Option Addr) (l c : Nat) (h : Nat) (ny : Bool) (Y : Option Addr) (m d : Nat) (w : World) : Prop where
  x : Cl w g nx X l c
  y : Cl w h ny Y m d
  lg : g < W0.heap.size
  lh : h < W0.heap.size
  bel : Below W0.heap.size W0 w
section
variable {W0 w w' : World} {g h : Nat} {nx ny : Bool} {X Y : Option Addr} {l c m d : Nat}
theorem K2.mk' (h1 : Cl W0 g nx X l c) (h2 : Cl W0 h ny Y m d) (h3 : g < W0.heap.size) (h4 : h < W0.heap.size) : K2 W0 g nx X l c h ny Y m d W0 := ⟨h1, h2, h3, h4, Below.refl _ _⟩
theorem K2.below (hb : Below w.heap.size w w') (k : K2 W0 g nx X l c h ny Y m d w) : K2 W0 g nx X l c h ny Y m d w' :=
  ⟨k.x.below hb (Nat.lt_of_lt_of_le k.lg k.bel.size), k.y.below hb (Nat.lt_of_lt_of_le k.lh k.bel.size), k.lg, k.lh, k.bel.trans (hb.mono k.bel.size)⟩
theorem K2.draws (n : Nat) (k : K2 W0 g nx X l c h ny Y m d w) : K2 W0 g nx X l c h ny Y m d (w.drewN n) := k.below (below_drawn (Below.refl _ _) n)
theorem K2.ks (k : K2 W0 g nx X l c h ny Y m d w) : (w.cell? ⟨g, 0, none⟩ = some (.bool nx) ∧ w.cell? ⟨g, 1, none⟩ = some (.slice X l c) ∧ w.cell? ⟨h, 0, none⟩ = some (.bool ny) ∧ w.cell? ⟨h, 1, none⟩ = some (.slice Y m d)) ∧ K2 W0 g nx X l c h ny Y m d w :=
  ⟨⟨k.x.1, k.x.2, k.y.1, k.y.2⟩, k⟩
end
theorem few2_yes {l m : Nat} (h : fewB [l, m] = true) : l ≤ 6 ∧ m ≤ 6 := by
  simpa [fewB] using h
theorem args2 {w : World} {g : Nat} {nx ny : Bool} {X Y : Option Addr} {l m c d : Nat} (T : TypeId) (hg : g = w.heap.size) : Args (w.alloc (.cells #[.bool nx, .slice X l c, .bool ny, .slice Y m d] T)) g [l, m] := by
  subst hg
  refine ⟨fun i hi => ?_⟩
  match i, hi with
  | 0, _ => exact ⟨X, c, by simp [go_sem]⟩
  | 1, _ => exact ⟨Y, d, by simp [go_sem]⟩
theorem IntIs.form {w : World} {z : Int} {v : Value} (h : IntIs w z v) : ∃ b A n c, v = .agg #[.bool b, .slice A n c] ∧ IntIs w z (.agg #[.bool b, .slice A n c]) := by
  obtain ⟨A, c, rfl, hs⟩ := h
  exact ⟨_, A, _, c, rfl, A, c, rfl, hs⟩
theorem W_len_mul (a b : Nat) : (W (a * b)).length ≤ (W a).length + (W b).length := by
  refine W_len_lt ?_
  rw [Nat.pow_add]
  exact Nat.mul_lt_mul'' (W_pow a) (W_pow b)
theorem gcd_le_add (a b : Nat) : Nat.gcd a b ≤ a + b := by
  rcases Nat.eq_zero_or_pos a with h | h
  · subst h; simp
  · have := Nat.le_of_dvd h (Nat.gcd_dvd_left a b); omega
/-- the facts of a law's start: both arguments boxed, and the list of both -/
structure Two (w W0 : World) (nx ny : Bool) (X Y : Option Addr) (c d : Nat) (l m : Nat) : Prop where
  args : Args W0 (w.heap.size + 1 + 1) [l, m]
  k : K2 W0 w.heap.size nx X l c (w.heap.size + 1) ny Y m d W0
  bel : Below w.heap.size w W0
theorem two_mk (w : World) (nx ny : Bool) (X Y : Option Addr) (c d : Nat) (xs ys : List Nat) : Two w (((w.alloc (Obj.cells #[Value.bool nx, Value.slice X xs.length c] 24)).alloc (Obj.cells #[Value.bool ny, Value.slice Y ys.length d] 24)).alloc (Obj.cells #[Value.bool nx, Value.slice X xs.length c, Value.bool ny, Value.slice Y ys.length d] 24)) nx ny X Y c d xs.length ys.length := by
  have hA := args2 (w := ((w.alloc (Obj.cells #[Value.bool nx, Value.slice X xs.length c] 24)).alloc (Obj.cells #[Value.bool ny, Value.slice Y ys.length d] 24))) (g := w.heap.size + 1 + 1) (nx := nx) (ny := ny) (X := X) (Y := Y) (l := xs.length) (m := ys.length) (c := c) (d := d) 24 (by simp)
  have hcx : Cl (((w.alloc (Obj.cells #[Value.bool nx, Value.slice X xs.length c] 24)).alloc (Obj.cells #[Value.bool ny, Value.slice Y ys.length d] 24)).alloc (Obj.cells #[Value.bool nx, Value.slice X xs.length c, Value.bool ny, Value.slice Y ys.length d] 24)) w.heap.size nx X xs.length c :=
    ⟨by simp [go_sem], by simp [go_sem], by simp [go_sem], by simp [go_sem]⟩
  have hcy : Cl (((w.alloc (Obj.cells #[Value.bool nx, Value.slice X xs.length c] 24)).alloc (Obj.cells #[Value.bool ny, Value.slice Y ys.length d] 24)).alloc (Obj.cells #[Value.bool nx, Value.slice X xs.length c, Value.bool ny, Value.slice Y ys.length d] 24)) (w.heap.size + 1) ny Y ys.length d :=
    ⟨by simp [go_sem], by simp [go_sem], by simp [go_sem], by simp [go_sem]⟩
  have hzz : (((w.alloc (Obj.cells #[Value.bool nx, Value.slice X xs.length c] 24)).alloc (Obj.cells #[Value.bool ny, Value.slice Y ys.length d] 24)).alloc (Obj.cells #[Value.bool nx, Value.slice X xs.length c, Value.bool ny, Value.slice Y ys.length d] 24)).heap.size = w.heap.size + 3 := by simp
  have hB3 : Below w.heap.size w (((w.alloc (Obj.cells #[Value.bool nx, Value.slice X xs.length c] 24)).alloc (Obj.cells #[Value.bool ny, Value.slice Y ys.length d] 24)).alloc (Obj.cells #[Value.bool nx, Value.slice X xs.length c, Value.bool ny, Value.slice Y ys.length d] 24)) := by go_grown
  exact ⟨hA, K2.mk' hcx hcy (by rw [hzz]; omega) (by rw [hzz]; omega), hB3⟩
end Go.Proofs.Ytcbdnnboddahkaa.Ws
namespace Go.Proofs.Ytcbdnnboddahkaa.Ws
open Go.RowKit
set_option linter.unusedVariables false
set_option maxRecDepth 100000
set_option maxHeartbeats 4000000 in
theorem Gcd_any (nx ny : Bool) (X Y : Option Addr) (c d : Nat) (xs ys : List Nat) (w : World) (hx : IntIn w nx X c xs) (hy : IntIn w ny Y d ys) :
    Calls Try.prog 36 #[.agg #[.bool nx, .slice X xs.length c], .agg #[.bool ny, .slice Y ys.length d]] w fun e w' => IntOut w ((Nat.gcd (iv nx xs).natAbs (iv ny ys).natAbs : Nat) : Int) e w' := by
  have hB : Below w.heap.size w (((w.alloc (Obj.cells #[Value.bool nx, Value.slice X xs.length c] 24)).alloc (Obj.cells #[Value.bool ny, Value.slice Y ys.length d] 24)).alloc (Obj.cells #[Value.bool false, Value.slice none 0 0] 24)) := by go_grown
  have hC : Cl (((w.alloc (Obj.cells #[Value.bool nx, Value.slice X xs.length c] 24)).alloc (Obj.cells #[Value.bool ny, Value.slice Y ys.length d] 24)).alloc (Obj.cells #[Value.bool false, Value.slice none 0 0] 24)) w.heap.size nx X xs.length c :=
    ⟨by simp [go_sem], by simp [go_sem], by simp [go_sem], by simp [go_sem]⟩
  have hD : Cl (((w.alloc (Obj.cells #[Value.bool nx, Value.slice X xs.length c] 24)).alloc (Obj.cells #[Value.bool ny, Value.slice Y ys.length d] 24)).alloc (Obj.cells #[Value.bool false, Value.slice none 0 0] 24)) (w.heap.size + 1) ny Y ys.length d :=
    ⟨by simp [go_sem], by simp [go_sem], by simp [go_sem], by simp [go_sem]⟩
  have hR : Cl (((w.alloc (Obj.cells #[Value.bool nx, Value.slice X xs.length c] 24)).alloc (Obj.cells #[Value.bool ny, Value.slice Y ys.length d] 24)).alloc (Obj.cells #[Value.bool false, Value.slice none 0 0] 24)) (w.heap.size + 1 + 1) false none 0 0 :=
    ⟨by simp [go_sem], by simp [go_sem], by simp [go_sem], by simp [go_sem]⟩
  have hz : (((w.alloc (Obj.cells #[Value.bool nx, Value.slice X xs.length c] 24)).alloc (Obj.cells #[Value.bool ny, Value.slice Y ys.length d] 24)).alloc (Obj.cells #[Value.bool false, Value.slice none 0 0] 24)).heap.size = w.heap.size + 3 := by simp
  have hl1 : (W (iv nx xs).natAbs).length ≤ 4294967280 := by rw [← trimL_W nx hx.lt]; have := trimL_length xs; have := hx.len; omega
  have hl2 : (W (iv ny ys).natAbs).length ≤ 4294967280 := by rw [← trimL_W ny hy.lt]; have := trimL_length ys; have := hy.len; omega
  have HX := Lib.hid hx
  have HY := Lib.hid hy
  have HB := Lib.hid hB
  have HC := Lib.hid hC
  have HD := Lib.hid hD
  have HR := Lib.hid hR
  have HZ := Lib.hid hz
  clear hx hy hB hC hD hR hz
  go_enter Try.func36, Try.ntmps36
  go_wp2_with fail
  generalize (((w.alloc (Obj.cells #[Value.bool nx, Value.slice X xs.length c] 24)).alloc (Obj.cells #[Value.bool ny, Value.slice Y ys.length d] 24)).alloc (Obj.cells #[Value.bool false, Value.slice none 0 0] 24)) = W0 at *
  have hk0 : N2 W0 w.heap.size nx X xs.length c ny Y ys.length d W0 := N2.mk' HC.out HD.out HR.out (by have := HZ.out; omega)
  go_region_held3 (fun w' => (w'.cell? ⟨w.heap.size, 0, none⟩ = some (.bool nx) ∧ w'.cell? ⟨w.heap.size, 1, none⟩ = some (.slice X xs.length c) ∧ w'.cell? ⟨w.heap.size + 1, 0, none⟩ = some (.bool ny) ∧ w'.cell? ⟨w.heap.size + 1, 1, none⟩ = some (.slice Y ys.length d)) ∧ N2 W0 w.heap.size nx X xs.length c ny Y ys.length d w') (first | exact N2.ks (by assumption) | exact N2.ks (N2.draws 1 (by assumption)) | exact N2.ks (N2.stored _ _ _ _ (by assumption)))
    (first
      | (go_at_call 88; ((with_reducible refine (trim_in (w0 := w) HX.out ?_).mono ?_)); (exact (HB.out.trans ((N2.bel (And.right (by assumption))).mono (by omega)))); rintro e w' ⟨rfl, -, rfl⟩)
      | (go_at_call 88; ((with_reducible refine (trim_in (w0 := w) HY.out ?_).mono ?_)); (exact (HB.out.trans ((N2.bel (And.right (by assumption))).mono (by omega)))); rintro e w' ⟨rfl, -, rfl⟩))
  obtain ⟨-, hk1⟩ := (by assumption : (_ ∧ _ ∧ _ ∧ _) ∧ N2 W0 w.heap.size nx X xs.length c ny Y ys.length d _)
  have HK1 := Lib.hid hk1
  have HSX := Lib.hid (HX.out.dg (HB.out.trans (hk1.bel.mono (by omega))))
  have HSY := Lib.hid (HY.out.dg (HB.out.trans (hk1.bel.mono (by omega))))
  clear hk1 hk0
  try clear hHeld
  go_wp2
  go_loopg [5, 6, 7, 8] ((iv ny ys).natAbs) (fun k t5 t6 _ _ wr => ∃ (a : Nat) (A1 A2 : Option Addr) (c1 c2 : Nat), (Nat.gcd a k = Nat.gcd (iv nx xs).natAbs (iv ny ys).natAbs ∧ (W a).length ≤ 4294967280 ∧ (W k).length ≤ 4294967280 ∧ Sl wr .u32 A1 c1 (W a) ∧ Sl wr .u32 A2 c2 (W k) ∧ N2 W0 w.heap.size nx X xs.length c ny Y ys.length d wr) ∧ t5 = .slice A1 (W a).length c1 ∧ t6 = .slice A2 (W k).length c2)
  case atStart => exact ⟨_, X, Y, c, d, ⟨rfl, hl1, hl2, HSX.out, HSY.out, HK1.out⟩, rfl, rfl⟩
  case round =>
    obtain ⟨a, A1, A2, c1, c2, ⟨hg, hla, hlk, hsa, hsk, hn⟩, rfl, rfl⟩ := hrel
    have HG := Lib.hid hg
    have HSA := Lib.hid hsa
    have HSK := Lib.hid hsk
    have HN := Lib.hid hn
    have hca := hsa.le
    have hck := hsk.le
    have hma := hsa.max
    have hmk := hsk.max
    clear hg hsa hsk hn HSX HSY HK1
    by_cases h0 : gk = 0
    · subst h0
      have ha : a = Nat.gcd (iv nx xs).natAbs (iv ny ys).natAbs := by rw [← HG.out, Nat.gcd_zero_right]
      have hd : decide (0 < (W 0).length) = false := rfl
      have HA := Lib.hid ha
      clear ha
      go_wp2_with fail
      refine (clone_any A1 c1 (W a) _ HSA.out (by omega)).mono ?_
      rintro e w5 ⟨A5, c5, rfl, hs5, hb5⟩
      have HN5 := Lib.hid (HN.out.below hb5)
      have HS5 := Lib.hid hs5
      clear hs5 hb5
      go_wp2_with fail
      refine (signed_any false A5 c5 (W a) _ HS5.out (W_lt _)).mono ?_
      rw [iv_W, HA.out]
      rintro e w6 ⟨v, rfl, hi6, hb6⟩
      have HN6 := Lib.hid (HN5.out.below hb6)
      have HI6 := Lib.hid hi6
      obtain ⟨A6, c6, rfl, -⟩ := hi6
      obtain ⟨b0, A0, n0, c0, hcl⟩ := HN6.out.r
      obtain ⟨q1, q2, q3, q4⟩ := hcl
      clear hb6
      go_wp2
      refine bodyPost_ret (v := .agg #[.bool (decide (((Nat.gcd (iv nx xs).natAbs (iv ny ys).natAbs : Nat) : Int) < 0)), .slice A6 (W ((Nat.gcd (iv nx xs).natAbs (iv ny ys).natAbs : Nat) : Int).natAbs).length c6]) (by simp [results, Try.results36, go_sem, q1, q2]) rfl ?_
      exact Cl.stored ⟨q1, q2, q3, q4⟩ HI6.out (HB.out.trans (HN6.out.bel.mono (by omega))) (by omega)
    · have hd : decide (0 < (W gk).length) = true := by
        have : (W gk).length ≠ 0 := fun h => h0 (W_nil.1 (List.eq_nil_of_length_eq_zero h))
        rw [decide_eq_true_iff]; omega
      go_wp2_with fail
      refine (divw_any A1 A2 c1 c2 a gk _ HSA.out HSK.out h0 hla).mono ?_
      rintro e w5 ⟨A5, c5, A6, c6, rfl, hs5, hs6, hb5⟩
      have HS6 := Lib.hid hs6
      have HSK5 := Lib.hid (HSK.out.below hb5)
      have HN5 := Lib.hid (HN.out.below hb5)
      clear hs5 hs6 hb5
      go_wp2
      go_roundg (a % gk)
      case rel => exact ⟨gk, A2, A6, c2, c6, ⟨by rw [← HG.out, Nat.gcd_comm, ← Nat.gcd_rec, Nat.gcd_comm], hlk, Nat.le_trans (W_len_mono (Nat.mod_le a gk)) hla, HSK5.out, HS6.out, HN5.out⟩, rfl, rfl⟩
      case measure => exact Nat.mod_lt _ (by omega)
set_option maxHeartbeats 4000000 in
theorem rGcd_any (nx ny : Bool) (X Y : Option Addr) (c d : Nat) (xs ys : List Nat) (w : World) (hx : IntIn w nx X c xs) (hy : IntIn w ny Y d ys) :
    Calls Try.prog 37 #[.agg #[.bool nx, .slice X xs.length c], .agg #[.bool ny, .slice Y ys.length d]] w fun e w' => IntOut w ((Nat.gcd (iv nx xs).natAbs (iv ny ys).natAbs : Nat) : Int) e w' := by
  have hB : Below w.heap.size w (((w.alloc (Obj.cells #[Value.bool nx, Value.slice X xs.length c] 24)).alloc (Obj.cells #[Value.bool ny, Value.slice Y ys.length d] 24)).alloc (Obj.cells #[Value.bool false, Value.slice none 0 0] 24)) := by go_grown
  have hC : Cl (((w.alloc (Obj.cells #[Value.bool nx, Value.slice X xs.length c] 24)).alloc (Obj.cells #[Value.bool ny, Value.slice Y ys.length d] 24)).alloc (Obj.cells #[Value.bool false, Value.slice none 0 0] 24)) w.heap.size nx X xs.length c :=
    ⟨by simp [go_sem], by simp [go_sem], by simp [go_sem], by simp [go_sem]⟩
  have hD : Cl (((w.alloc (Obj.cells #[Value.bool nx, Value.slice X xs.length c] 24)).alloc (Obj.cells #[Value.bool ny, Value.slice Y ys.length d] 24)).alloc (Obj.cells #[Value.bool false, Value.slice none 0 0] 24)) (w.heap.size + 1) ny Y ys.length d :=
    ⟨by simp [go_sem], by simp [go_sem], by simp [go_sem], by simp [go_sem]⟩
  have hR : Cl (((w.alloc (Obj.cells #[Value.bool nx, Value.slice X xs.length c] 24)).alloc (Obj.cells #[Value.bool ny, Value.slice Y ys.length d] 24)).alloc (Obj.cells #[Value.bool false, Value.slice none 0 0] 24)) (w.heap.size + 1 + 1) false none 0 0 :=
    ⟨by simp [go_sem], by simp [go_sem], by simp [go_sem], by simp [go_sem]⟩
  have hz : (((w.alloc (Obj.cells #[Value.bool nx, Value.slice X xs.length c] 24)).alloc (Obj.cells #[Value.bool ny, Value.slice Y ys.length d] 24)).alloc (Obj.cells #[Value.bool false, Value.slice none 0 0] 24)).heap.size = w.heap.size + 3 := by simp
  have hl1 : (D (iv nx xs).natAbs).length ≤ 2000000 := hx.dlen
  have hl2 : (D (iv ny ys).natAbs).length ≤ 2000000 := hy.dlen
  have HX := Lib.hid hx
  have HY := Lib.hid hy
  have HB := Lib.hid hB
  have HC := Lib.hid hC
  have HD := Lib.hid hD
  have HR := Lib.hid hR
  have HZ := Lib.hid hz
  clear hx hy hB hC hD hR hz
  go_enter Try.func37, Try.ntmps37
  go_wp2_with fail
  generalize (((w.alloc (Obj.cells #[Value.bool nx, Value.slice X xs.length c] 24)).alloc (Obj.cells #[Value.bool ny, Value.slice Y ys.length d] 24)).alloc (Obj.cells #[Value.bool false, Value.slice none 0 0] 24)) = W0 at *
  have hk0 : N2 W0 w.heap.size nx X xs.length c ny Y ys.length d W0 := N2.mk' HC.out HD.out HR.out (by have := HZ.out; omega)
  go_region_held3 (fun w' => (w'.cell? ⟨w.heap.size, 0, none⟩ = some (.bool nx) ∧ w'.cell? ⟨w.heap.size, 1, none⟩ = some (.slice X xs.length c) ∧ w'.cell? ⟨w.heap.size + 1, 0, none⟩ = some (.bool ny) ∧ w'.cell? ⟨w.heap.size + 1, 1, none⟩ = some (.slice Y ys.length d)) ∧ N2 W0 w.heap.size nx X xs.length c ny Y ys.length d w') (first | exact N2.ks (by assumption) | exact N2.ks (N2.draws 1 (by assumption)) | exact N2.ks (N2.stored _ _ _ _ (by assumption)))
    (first
      | (go_at_call 89; ((with_reducible refine (rdigits_any nx X c xs _ ?_).mono ?_)); (exact HX.out.below (HB.out.trans ((N2.bel (And.right (by assumption))).mono (by omega)))); rintro e w' ⟨B1, e1, rfl, hsx, hbel⟩; have hk' := N2.below hbel (And.right (by assumption)); clear hbel)
      | (go_at_call 89; ((with_reducible refine (rdigits_any ny Y d ys _ ?_).mono ?_)); (exact HY.out.below (HB.out.trans ((N2.bel (And.right (by assumption))).mono (by omega)))); rintro e w' ⟨B2, e2, rfl, hsy, hbel⟩; have hk' := N2.below hbel (And.right (by assumption)); have hsx2 := hsx.below hbel; clear hbel hsx))
  have HK1 := Lib.hid hk'
  have HSX := Lib.hid hsx2
  have HSY := Lib.hid hsy
  clear hk' hsx2 hsy hk0
  try clear hHeld
  go_wp2
  go_loopg [5, 6, 7, 8] ((iv ny ys).natAbs) (fun k t5 t6 _ _ wr => ∃ (a : Nat) (A1 A2 : Option Addr) (c1 c2 : Nat), (Nat.gcd a k = Nat.gcd (iv nx xs).natAbs (iv ny ys).natAbs ∧ (D a).length ≤ 2000000 ∧ (D k).length ≤ 2000000 ∧ Sl wr .i64 A1 c1 (D a) ∧ Sl wr .i64 A2 c2 (D k) ∧ N2 W0 w.heap.size nx X xs.length c ny Y ys.length d wr) ∧ t5 = .slice A1 (D a).length c1 ∧ t6 = .slice A2 (D k).length c2)
  case atStart => exact ⟨_, B1, B2, e1, e2, ⟨rfl, hl1, hl2, HSX.out, HSY.out, HK1.out⟩, rfl, rfl⟩
  case round =>
    obtain ⟨a, A1, A2, c1, c2, ⟨hg, hla, hlk, hsa, hsk, hn⟩, rfl, rfl⟩ := hrel
    have HG := Lib.hid hg
    have HSA := Lib.hid hsa
    have HSK := Lib.hid hsk
    have HN := Lib.hid hn
    have hca := hsa.le
    have hck := hsk.le
    have hma := hsa.max
    have hmk := hsk.max
    clear hg hsa hsk hn HSX HSY HK1
    by_cases h0 : gk = 0
    · subst h0
      have ha : a = Nat.gcd (iv nx xs).natAbs (iv ny ys).natAbs := by rw [← HG.out, Nat.gcd_zero_right]
      have hd : decide (0 < (D 0).length) = false := rfl
      have HA := Lib.hid ha
      clear ha
      go_wp2_with fail
      refine (madeD (neg := false) (n := a) HSA.out (by omega)).mono ?_
      rw [HA.out]
      rintro e w6 ⟨v, rfl, hi6, hb6⟩
      have HN6 := Lib.hid (HN.out.below hb6)
      have HI6 : Hid (IntIs w6 ((Nat.gcd (iv nx xs).natAbs (iv ny ys).natAbs : Nat) : Int) v) := Lib.hid hi6
      obtain ⟨A6, c6, rfl, -⟩ := HI6.out
      obtain ⟨b0, A0, n0, c0, hcl⟩ := HN6.out.r
      obtain ⟨q1, q2, q3, q4⟩ := hcl
      clear hb6 hi6
      go_wp2
      refine bodyPost_ret (v := .agg #[.bool (decide (((Nat.gcd (iv nx xs).natAbs (iv ny ys).natAbs : Nat) : Int) < 0)), .slice A6 (W ((Nat.gcd (iv nx xs).natAbs (iv ny ys).natAbs : Nat) : Int).natAbs).length c6]) (by simp [results, Try.results37, go_sem, q1, q2]) rfl ?_
      exact Cl.stored ⟨q1, q2, q3, q4⟩ HI6.out (HB.out.trans (HN6.out.bel.mono (by omega))) (by omega)
    · have hd : decide (0 < (D gk).length) = true := by
        have : (D gk).length ≠ 0 := fun h => h0 (D_nil.1 (List.eq_nil_of_length_eq_zero h))
        rw [decide_eq_true_iff]; omega
      go_wp2_with fail
      refine (rdiv_any A1 A2 c1 c2 a gk _ HSA.out HSK.out h0 (by omega) (by omega)).mono ?_
      rintro e w5 ⟨A5, c5, A6, c6, rfl, hs5, hs6, hb5⟩
      have HS6 := Lib.hid hs6
      have HSK5 := Lib.hid (HSK.out.below hb5)
      have HN5 := Lib.hid (HN.out.below hb5)
      clear hs5 hs6 hb5
      go_wp2
      go_roundg (a % gk)
      case rel => exact ⟨gk, A2, A6, c2, c6, ⟨by rw [← HG.out, Nat.gcd_comm, ← Nat.gcd_rec, Nat.gcd_comm], hlk, Nat.le_trans (D_len_mono (Nat.mod_le a gk)) hla, HSK5.out, HS6.out, HN5.out⟩, rfl, rfl⟩
      case measure => exact Nat.mod_lt _ (by omega)
theorem D_len_mul (a b : Nat) : (D (a * b)).length ≤ (D a).length + (D b).length := by
  refine dgs_length_le 65536 (by decide) _ _ ?_
  rw [Nat.pow_add]
  exact Nat.mul_lt_mul'' (dgs_length_lt 65536 (by decide) a) (dgs_length_lt 65536 (by decide) b)
theorem rtimesD {X Y : Option Addr} {c d a b : Nat} {w : World} (hx : Sl w .i64 X c (D a)) (hy : Sl w .i64 Y d (D b)) (h1 : (D a).length ≤ 8000000) (h2 : (D b).length ≤ 8000000) :
    Calls Try.prog 104 #[.slice X (D a).length c, .slice Y (D b).length d] w fun e w' => SlOut w .i64 (D (a * b)) e w' := by
  have h := rtimes_list X Y c d (D a) (D b) w hx hy (D_lt _) (D_lt _) h1 h2
  rw [val_D, val_D] at h; exact h
theorem imul (nx ny : Bool) (xs ys : List Nat) : (if (!nx == ny) then -(((iv nx xs).natAbs * (iv ny ys).natAbs : Nat) : Int) else (((iv nx xs).natAbs * (iv ny ys).natAbs : Nat) : Int)) = iv nx xs * iv ny ys := by
  rw [← iv_mul, iv_W]
set_option maxHeartbeats 4000000 in
theorem rMul_any (nx ny : Bool) (X Y : Option Addr) (c d : Nat) (xs ys : List Nat) (w : World) (hx : IntIn w nx X c xs) (hy : IntIn w ny Y d ys) (hlx : (D (iv nx xs).natAbs).length ≤ 1500000) (hly : (D (iv ny ys).natAbs).length ≤ 1500000) :
    Calls Try.prog 35 #[.agg #[.bool nx, .slice X xs.length c], .agg #[.bool ny, .slice Y ys.length d]] w fun e w' => IntOut w (iv nx xs * iv ny ys) e w' := by
  have hB : Below w.heap.size w (((w.alloc (Obj.cells #[Value.bool nx, Value.slice X xs.length c] 24)).alloc (Obj.cells #[Value.bool ny, Value.slice Y ys.length d] 24)).alloc (Obj.cells #[Value.bool false, Value.slice none 0 0] 24)) := by go_grown
  have hC : Cl (((w.alloc (Obj.cells #[Value.bool nx, Value.slice X xs.length c] 24)).alloc (Obj.cells #[Value.bool ny, Value.slice Y ys.length d] 24)).alloc (Obj.cells #[Value.bool false, Value.slice none 0 0] 24)) w.heap.size nx X xs.length c :=
    ⟨by simp [go_sem], by simp [go_sem], by simp [go_sem], by simp [go_sem]⟩
  have hD : Cl (((w.alloc (Obj.cells #[Value.bool nx, Value.slice X xs.length c] 24)).alloc (Obj.cells #[Value.bool ny, Value.slice Y ys.length d] 24)).alloc (Obj.cells #[Value.bool false, Value.slice none 0 0] 24)) (w.heap.size + 1) ny Y ys.length d :=
    ⟨by simp [go_sem], by simp [go_sem], by simp [go_sem], by simp [go_sem]⟩
  have hR : Cl (((w.alloc (Obj.cells #[Value.bool nx, Value.slice X xs.length c] 24)).alloc (Obj.cells #[Value.bool ny, Value.slice Y ys.length d] 24)).alloc (Obj.cells #[Value.bool false, Value.slice none 0 0] 24)) (w.heap.size + 1 + 1) false none 0 0 :=
    ⟨by simp [go_sem], by simp [go_sem], by simp [go_sem], by simp [go_sem]⟩
  have hz : (((w.alloc (Obj.cells #[Value.bool nx, Value.slice X xs.length c] 24)).alloc (Obj.cells #[Value.bool ny, Value.slice Y ys.length d] 24)).alloc (Obj.cells #[Value.bool false, Value.slice none 0 0] 24)).heap.size = w.heap.size + 3 := by simp
  have hl1 : (D (iv nx xs).natAbs).length ≤ 1500000 := hlx
  have hl2 : (D (iv ny ys).natAbs).length ≤ 1500000 := hly
  have HX := Lib.hid hx
  have HY := Lib.hid hy
  have HB := Lib.hid hB
  have HC := Lib.hid hC
  have HD := Lib.hid hD
  have HR := Lib.hid hR
  have HZ := Lib.hid hz
  clear hx hy hB hC hD hR hz
  have hpl : (D ((iv nx xs).natAbs * (iv ny ys).natAbs)).length ≤ 3000000 := by have := D_len_mul (iv nx xs).natAbs (iv ny ys).natAbs; omega
  have HE := Lib.hid (imul nx ny xs ys)
  go_enter Try.func35, Try.ntmps35
  go_wp2_with fail
  generalize (((w.alloc (Obj.cells #[Value.bool nx, Value.slice X xs.length c] 24)).alloc (Obj.cells #[Value.bool ny, Value.slice Y ys.length d] 24)).alloc (Obj.cells #[Value.bool false, Value.slice none 0 0] 24)) = W0 at *
  have hk0 : N2 W0 w.heap.size nx X xs.length c ny Y ys.length d W0 := N2.mk' HC.out HD.out HR.out (by have := HZ.out; omega)
  go_region_held3 (fun w' => (w'.cell? ⟨w.heap.size, 0, none⟩ = some (.bool nx) ∧ w'.cell? ⟨w.heap.size, 1, none⟩ = some (.slice X xs.length c) ∧ w'.cell? ⟨w.heap.size + 1, 0, none⟩ = some (.bool ny) ∧ w'.cell? ⟨w.heap.size + 1, 1, none⟩ = some (.slice Y ys.length d)) ∧ N2 W0 w.heap.size nx X xs.length c ny Y ys.length d w') (first | exact N2.ks (by assumption) | exact N2.ks (N2.draws 1 (by assumption)) | exact N2.ks (N2.stored _ _ _ _ (by assumption)))
    (first
      | (go_at_call 89; ((with_reducible refine (rdigits_any nx X c xs _ ?_).mono ?_)); (exact HX.out.below (HB.out.trans ((N2.bel (And.right (by assumption))).mono (by omega)))); rintro e w' ⟨B1, e1, rfl, hsx, hbel⟩; have hk' := N2.below hbel (And.right (by assumption)); clear hbel)
      | (go_at_call 89; ((with_reducible refine (rdigits_any ny Y d ys _ ?_).mono ?_)); (exact HY.out.below (HB.out.trans ((N2.bel (And.right (by assumption))).mono (by omega)))); rintro e w' ⟨B2, e2, rfl, hsy, hbel⟩; have hk' := N2.below hbel (And.right (by assumption)); have hsx2 := hsx.below hbel; clear hbel hsx)
      | (go_at_call 104; ((with_reducible refine (rtimesD hsx2 hsy (by omega) (by omega)).mono ?_)); rintro e w' ⟨B3, e3, rfl, hs3, hbel⟩; have hk' := N2.below hbel (And.right (by assumption)); clear hbel)
      | (go_at_call 91; ((with_reducible refine (madeD (n := (iv nx xs).natAbs * (iv ny ys).natAbs) hs3 hpl).mono ?_)); rw [HE.out]; rintro e w' ⟨v, rfl, hi1, hbel⟩; have hk' := N2.below hbel (And.right (by assumption)); have hi2 := Lib.hid hi1; obtain ⟨A4, c4, rfl, -⟩ := hi1; obtain ⟨b0, A0, n0, c0, hcl⟩ := hk'.r; obtain ⟨q1, q2, q3, q4⟩ := hcl; clear hbel))
  go_wp2
  refine bodyPost_ret (v := .agg #[.bool (decide (iv nx xs * iv ny ys < 0)), .slice A4 (W (iv nx xs * iv ny ys).natAbs).length c4]) (by simp [results, Try.results35, go_sem, q1, q2]) rfl ?_
  exact Cl.stored ⟨q1, q2, q3, q4⟩ hi2.out (HB.out.trans (hk'.bel.mono (by omega))) (by omega)
end Go.Proofs.Ytcbdnnboddahkaa.Ws
namespace Go.Proofs.Ytcbdnnboddahkaa.Ws
open Go.RowKit
set_option linter.unusedVariables false
set_option maxRecDepth 100000
/-- v is an integer of words of the value z, of at most k words; b: in normal form -/
def IntE (w : World) (b : Bool) (z : Int) (k : Nat) (v : Value) : Prop := (∃ neg A c xs, v = .agg #[.bool neg, .slice A xs.length c] ∧ IntIn w neg A c xs ∧ iv neg xs = z ∧ xs.length ≤ k) ∧ (b = true → IntIs w z v)
section
variable {w w' : World} {b b' : Bool} {z t : Int} {k l : Nat} {u v : Value}
theorem IntE.below (h : IntE w b z k v) (hb : Below w.heap.size w w') : IntE w' b z k v := by
  obtain ⟨⟨neg, A, c, xs, rfl, h1, h2, h3⟩, h4⟩ := h
  exact ⟨⟨neg, A, c, xs, rfl, h1.below hb, h2, h3⟩, fun h => (h4 h).below hb⟩
theorem IntE.raw {neg : Bool} {A : Option Addr} {c : Nat} {xs : List Nat} (h : IntIn w neg A c xs) (hl : xs.length ≤ k) : IntE w false (iv neg xs) k (.agg #[.bool neg, .slice A xs.length c]) := ⟨⟨neg, A, c, xs, rfl, h, rfl, hl⟩, fun h => by cases h⟩
theorem IntE.of (h : IntIs w z v) (hl : (W z.natAbs).length ≤ k) (hk : k ≤ 1000000) : IntE w true z k v := by
  obtain ⟨neg, A, c, xs, rfl, h1, h2, h3⟩ := h.in_ (by omega)
  exact ⟨⟨neg, A, c, xs, rfl, h1, h2, by rw [h3]; exact hl⟩, fun _ => h⟩
theorem IntE.wlen (h : IntE w b z k v) : (W z.natAbs).length ≤ k := by
  obtain ⟨⟨neg, A, c, xs, rfl, h1, rfl, h3⟩, -⟩ := h
  exact Nat.le_trans h1.wlen h3
theorem IntE.form (h : IntE w b z k v) : ∃ n A l c, v = .agg #[.bool n, .slice A l c] ∧ IntE w b z k (.agg #[.bool n, .slice A l c]) := by
  have h' := h
  obtain ⟨⟨neg, A, c, xs, rfl, h1, h2, h3⟩, h4⟩ := h
  exact ⟨neg, A, xs.length, c, rfl, h'⟩
/-- a result -/
def VOut (w : World) (z : Int) (k : Nat) (e : Ending) (w' : World) : Prop := ∃ n A l c, e = .returned (.agg #[.bool n, .slice A l c]) ∧ IntE w' true z k (.agg #[.bool n, .slice A l c]) ∧ Below w.heap.size w w'
theorem vout {e : Ending} (h : IntOut w z e w') (hl : (W z.natAbs).length ≤ k) (hk : k ≤ 1000000) : VOut w z k e w' := by
  obtain ⟨v, rfl, hi, hb⟩ := h
  obtain ⟨n, A, l, c, rfl, h2⟩ := (IntE.of hi hl hk).form
  exact ⟨n, A, l, c, rfl, h2, hb⟩
theorem Add_v (hu : IntE w b z k u) (hv : IntE w b' t l v) (hk : k ≤ 100000) (hl : l ≤ 100000) : Calls Try.prog 30 #[u, v] w fun e w' => VOut w (z + t) (k + l + 1) e w' := by
  have e1 := hu.wlen; have e2 := hv.wlen
  obtain ⟨⟨nx, X, c, xs, rfl, h1, rfl, h3⟩, -⟩ := hu
  obtain ⟨⟨ny, Y, d, ys, rfl, g1, rfl, g3⟩, -⟩ := hv
  refine (Add_any nx ny X Y c d xs ys w h1 g1).mono fun e w' h => vout h ?_ (by omega)
  exact W_len_pm (k := k + l) (a := iv nx xs) (b := iv ny ys) (by omega) (by omega) (by omega)
theorem Sub_v (hu : IntE w b z k u) (hv : IntE w b' t l v) (hk : k ≤ 100000) (hl : l ≤ 100000) : Calls Try.prog 32 #[u, v] w fun e w' => VOut w (z - t) (k + l + 1) e w' := by
  have e1 := hu.wlen; have e2 := hv.wlen
  obtain ⟨⟨nx, X, c, xs, rfl, h1, rfl, h3⟩, -⟩ := hu
  obtain ⟨⟨ny, Y, d, ys, rfl, g1, rfl, g3⟩, -⟩ := hv
  refine (Sub_any nx ny X Y c d xs ys w h1 g1).mono fun e w' h => vout h ?_ (by omega)
  exact W_len_pm (k := k + l) (a := iv nx xs) (b := iv ny ys) (by omega) (by omega) (by omega)
theorem Mul_v (hu : IntE w b z k u) (hv : IntE w b' t l v) (hk : k ≤ 100000) (hl : l ≤ 100000) : Calls Try.prog 34 #[u, v] w fun e w' => VOut w (z * t) (k + l) e w' := by
  have e1 := hu.wlen; have e2 := hv.wlen
  obtain ⟨⟨nx, X, c, xs, rfl, h1, rfl, h3⟩, -⟩ := hu
  obtain ⟨⟨ny, Y, d, ys, rfl, g1, rfl, g3⟩, -⟩ := hv
  refine (Mul_any nx ny X Y c d xs ys w h1 g1).mono fun e w' h => vout h ?_ (by omega)
  rw [Int.natAbs_mul]
  have := W_len_mul (iv nx xs).natAbs (iv ny ys).natAbs
  omega
theorem Gcd_v (hu : IntE w b z k u) (hv : IntE w b' t l v) (hk : k ≤ 100000) (hl : l ≤ 100000) : Calls Try.prog 36 #[u, v] w fun e w' => VOut w ((Nat.gcd z.natAbs t.natAbs : Nat) : Int) (k + l + 1) e w' := by
  have e1 := hu.wlen; have e2 := hv.wlen
  obtain ⟨⟨nx, X, c, xs, rfl, h1, rfl, h3⟩, -⟩ := hu
  obtain ⟨⟨ny, Y, d, ys, rfl, g1, rfl, g3⟩, -⟩ := hv
  refine (Gcd_any nx ny X Y c d xs ys w h1 g1).mono fun e w' h => vout h ?_ (by omega)
  exact W_len_pm (k := k + l) (a := iv nx xs) (b := iv ny ys) (by omega) (by omega) (by rw [Int.natAbs_natCast]; exact gcd_le_add _ _)
theorem Normal_v (hu : IntE w b z k u) (hk : k ≤ 100000) : Calls Try.prog 26 #[u] w fun e w' => VOut w z k e w' := by
  have e1 := hu.wlen
  obtain ⟨⟨nx, X, c, xs, rfl, h1, rfl, h3⟩, -⟩ := hu
  exact (normal_any nx X c xs w h1).mono fun e w' h => vout h e1 (by omega)
theorem Of_v (n : Int) (h1 : -9223372036854775808 ≤ n) (h2 : n ≤ 9223372036854775807) : Calls Try.prog 23 #[.int .i64 n] w fun e w' => VOut w n 2 e w' :=
  (of_any n w h1 h2).mono fun e w' h => vout h (W_len_lt (by omega)) (by omega)
theorem Cmp_v (hu : IntE w b z k u) (hv : IntE w b' t l v) : Calls Try.prog 28 #[u, v] w fun e w' => e = .returned (.int .i64 (cmpI z t)) ∧ Below w.heap.size w w' := by
  obtain ⟨⟨nx, X, c, xs, rfl, h1, rfl, h3⟩, -⟩ := hu
  obtain ⟨⟨ny, Y, d, ys, rfl, g1, rfl, g3⟩, -⟩ := hv
  exact Cmp_any nx ny X Y c d xs ys w h1 g1
theorem Same_v (hu : IntE w true z k u) (hv : IntE w true t l v) (hz : z = t) (hk : k ≤ 100000) : Calls Try.prog 24 #[u, v] w fun e w' => e = .returned (.bool true) ∧ Below w.heap.size w w' := by
  subst hz
  exact same_any z u v w (hu.2 rfl) (hv.2 rfl) (by have := hu.wlen; omega)
/-- what DivMod hands back, as values -/
def QrV (w : World) (z t : Int) (k l : Nat) (e : Ending) (w' : World) : Prop := ∃ n A i c n' A' i' c', e = .returned (.tuple #[.agg #[.bool n, .slice A i c], .agg #[.bool n', .slice A' i' c'], .int .i64 (dmE t)]) ∧ IntE w' true (z / t) k (.agg #[.bool n, .slice A i c]) ∧ IntE w' true (dmR z t) l (.agg #[.bool n', .slice A' i' c']) ∧ Below w.heap.size w w'
theorem dmR_len (z t : Int) : (W (dmR z t).natAbs).length ≤ (W t.natAbs).length := by
  unfold dmR
  split
  · exact Nat.zero_le _
  · refine W_len_mono ?_
    have e1 := Int.emod_nonneg z (b := t) (by assumption)
    have e2 := Int.emod_lt z (b := t) (by assumption)
    omega
theorem DivMod_v (hu : IntE w b z k u) (hv : IntE w b' t l v) (hk : k ≤ 100000) (hl : l ≤ 100000) : Calls Try.prog 38 #[u, v] w fun e w' => QrV w z t k l e w' := by
  have e1 := hu.wlen; have e2 := hv.wlen
  obtain ⟨⟨nx, X, c, xs, rfl, h1, rfl, h3⟩, -⟩ := hu
  obtain ⟨⟨ny, Y, d, ys, rfl, g1, rfl, g3⟩, -⟩ := hv
  refine (DivMod_any nx ny X Y c d xs ys w h1 g1).mono ?_
  rintro e w' ⟨u, v, rfl, hu, hv, hb⟩
  obtain ⟨n, A, i, c', rfl, h2⟩ := (IntE.of hu (Nat.le_trans (W_len_mono (Int.natAbs_ediv_le_natAbs _ _)) e1) (by omega)).form
  obtain ⟨n', A', i', c'', rfl, h2'⟩ := (IntE.of hv (Nat.le_trans (dmR_len _ _) e2) (by omega)).form
  exact ⟨n, A, i, c', n', A', i', c'', rfl, h2, h2', hb⟩
end
/-- values that a walk keeps -/
def Vs (w : World) : List (Value × Bool × Int × Nat) → Prop
  | [] => True
  | (v, b, z, k) :: L => IntE w b z k v ∧ Vs w L
section
variable {w w' : World} {b : Bool} {z : Int} {k : Nat} {v : Value} {L : List (Value × Bool × Int × Nat)}
theorem Vs.nil_ (w : World) : Vs w [] := trivial
theorem Vs.cons (h : Vs w L) (hv : IntE w b z k v) : Vs w ((v, b, z, k) :: L) := ⟨hv, h⟩
theorem Vs.hd (h : Vs w ((v, b, z, k) :: L)) : IntE w b z k v := h.1
theorem Vs.tl {p : Value × Bool × Int × Nat} (h : Vs w (p :: L)) : Vs w L := h.2
theorem Vs.below (hb : Below w.heap.size w w') : ∀ {L : List (Value × Bool × Int × Nat)}, Vs w L → Vs w' L
  | [], _ => trivial
  | (_, _, _, _) :: _, h => ⟨h.1.below hb, Vs.below hb h.2⟩
end
/-- integers of words that lie in blocks -/
def Ms (w : World) : List (Nat × Bool × Option Addr × Nat × Nat) → Prop
  | [] => True
  | (g, b, A, n, c) :: L => (Cl w g b A n c ∧ g < w.heap.size) ∧ Ms w L
section
variable {w w' : World} {g : Nat} {b : Bool} {A : Option Addr} {n c : Nat} {L : List (Nat × Bool × Option Addr × Nat × Nat)}
theorem Ms.nil_ (w : World) : Ms w [] := trivial
theorem Ms.below (hb : Below w.heap.size w w') : ∀ {L : List (Nat × Bool × Option Addr × Nat × Nat)}, Ms w L → Ms w' L
  | [], _ => trivial
  | (_, _, _, _, _) :: _, h => ⟨⟨h.1.1.below hb h.1.2, Nat.lt_of_lt_of_le h.1.2 hb.size⟩, Ms.below hb h.2⟩
theorem Ms.new (h : Ms w L) (b : Bool) (A : Option Addr) (n c : Nat) : Ms (w.alloc (.cells #[.bool b, .slice A n c] 24)) ((w.heap.size, b, A, n, c) :: L) :=
  ⟨⟨⟨by simp [go_sem], by simp [go_sem], by simp [go_sem], by simp [go_sem]⟩, by simp⟩, h.below ((Below.refl _ _).alloc (Nat.le_refl _) _)⟩
theorem Ms.tl {p : Nat × Bool × Option Addr × Nat × Nat} (h : Ms w (p :: L)) : Ms w L := h.2
theorem Ms.hd (h : Ms w ((g, b, A, n, c) :: L)) : w.cell? ⟨g, 0, none⟩ = some (.bool b) ∧ w.cell? ⟨g, 1, none⟩ = some (.slice A n c) := ⟨h.1.1.c0, h.1.1.c1⟩
theorem Ms.cl (h : Ms w ((g, b, A, n, c) :: L)) : Cl w g b A n c := h.1.1
theorem Ms.lt (h : Ms w ((g, b, A, n, c) :: L)) : g < w.heap.size := h.1.2
theorem Ms.draws (m : Nat) (h : Ms w L) : Ms (w.drewN m) L := h.below (below_drawn (Below.refl _ _) m)
end
end Go.Proofs.Ytcbdnnboddahkaa.Ws
