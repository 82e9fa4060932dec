/-
  What the laws over two integers of words start from.
-/
import Derived.Test.YtcbdnnboddahkaaRcmp
import Derived.Test.YtcbdnnboddahkaaSame
namespace Go.Proofs.Ytcbdnnboddahkaa.Ws
open Go.RowKit
set_option linter.unusedVariables false
set_option maxRecDepth 100000
/-- two integers that lie in two blocks -/
structure K2 (W0 : World) (g : Nat) (nx : Bool) (X : Option Addr) (l c : Nat) (h : Nat) (ny : Bool) (Y : Option Addr) (m d : Nat) (w : World) : Prop where
  x : Cl w g nx X l c
  y : Cl w h ny Y m d
  lg : g < W0.heap.size
  lh : h < W0.heap.size
  bel : Below W0.heap.size W0 w
section
variable {W0 w w' : World} {g h : Nat} {nx ny : Bool} {X Y : Option Addr} {l c m d : Nat}
theorem K2.mk' (h1 : Cl W0 g nx X l c) (h2 : Cl W0 h ny Y m d) (h3 : g < W0.heap.size) (h4 : h < W0.heap.size) : K2 W0 g nx X l c h ny Y m d W0 := ⟨h1, h2, h3, h4, Below.refl _ _⟩
theorem K2.below (hb : Below w.heap.size w w') (k : K2 W0 g nx X l c h ny Y m d w) : K2 W0 g nx X l c h ny Y m d w' :=
  ⟨k.x.below hb (Nat.lt_of_lt_of_le k.lg k.bel.size), k.y.below hb (Nat.lt_of_lt_of_le k.lh k.bel.size), k.lg, k.lh, k.bel.trans (hb.mono k.bel.size)⟩
theorem K2.draws (n : Nat) (k : K2 W0 g nx X l c h ny Y m d w) : K2 W0 g nx X l c h ny Y m d (w.drewN n) := k.below (below_drawn (Below.refl _ _) n)
theorem K2.ks (k : K2 W0 g nx X l c h ny Y m d w) : (w.cell? ⟨g, 0, none⟩ = some (.bool nx) ∧ w.cell? ⟨g, 1, none⟩ = some (.slice X l c) ∧ w.cell? ⟨h, 0, none⟩ = some (.bool ny) ∧ w.cell? ⟨h, 1, none⟩ = some (.slice Y m d)) ∧ K2 W0 g nx X l c h ny Y m d w :=
  ⟨⟨k.x.1, k.x.2, k.y.1, k.y.2⟩, k⟩
end
theorem few2_yes {l m : Nat} (h : fewB [l, m] = true) : l ≤ 6 ∧ m ≤ 6 := by
  simpa [fewB] using h
theorem args2 {w : World} {g : Nat} {nx ny : Bool} {X Y : Option Addr} {l m c d : Nat} (T : TypeId) (hg : g = w.heap.size) : Args (w.alloc (.cells #[.bool nx, .slice X l c, .bool ny, .slice Y m d] T)) g [l, m] := by
  subst hg
  refine ⟨fun i hi => ?_⟩
  match i, hi with
  | 0, _ => exact ⟨X, c, by simp [go_sem]⟩
  | 1, _ => exact ⟨Y, d, by simp [go_sem]⟩
theorem IntIs.form {w : World} {z : Int} {v : Value} (h : IntIs w z v) : ∃ b A n c, v = .agg #[.bool b, .slice A n c] ∧ IntIs w z (.agg #[.bool b, .slice A n c]) := by
  obtain ⟨A, c, rfl, hs⟩ := h
  exact ⟨_, A, _, c, rfl, A, c, rfl, hs⟩
theorem W_len_mul (a b : Nat) : (W (a * b)).length ≤ (W a).length + (W b).length := by
  refine W_len_lt ?_
  rw [Nat.pow_add]
  exact Nat.mul_lt_mul'' (W_pow a) (W_pow b)
theorem gcd_le_add (a b : Nat) : Nat.gcd a b ≤ a + b := by
  rcases Nat.eq_zero_or_pos a with h | h
  · subst h; simp
  · have := Nat.le_of_dvd h (Nat.gcd_dvd_left a b); omega
/-- the facts of a law's start: both arguments boxed, and the list of both -/
structure Two (w W0 : World) (nx ny : Bool) (X Y : Option Addr) (c d : Nat) (l m : Nat) : Prop where
  args : Args W0 (w.heap.size + 1 + 1) [l, m]
  k : K2 W0 w.heap.size nx X l c (w.heap.size + 1) ny Y m d W0
  bel : Below w.heap.size w W0
theorem two_mk (w : World) (nx ny : Bool) (X Y : Option Addr) (c d : Nat) (xs ys : List Nat) : Two w (((w.alloc (Obj.cells #[Value.bool nx, Value.slice X xs.length c] 24)).alloc (Obj.cells #[Value.bool ny, Value.slice Y ys.length d] 24)).alloc (Obj.cells #[Value.bool nx, Value.slice X xs.length c, Value.bool ny, Value.slice Y ys.length d] 24)) nx ny X Y c d xs.length ys.length := by
  have hA := args2 (w := ((w.alloc (Obj.cells #[Value.bool nx, Value.slice X xs.length c] 24)).alloc (Obj.cells #[Value.bool ny, Value.slice Y ys.length d] 24))) (g := w.heap.size + 1 + 1) (nx := nx) (ny := ny) (X := X) (Y := Y) (l := xs.length) (m := ys.length) (c := c) (d := d) 24 (by simp)
  have hcx : Cl (((w.alloc (Obj.cells #[Value.bool nx, Value.slice X xs.length c] 24)).alloc (Obj.cells #[Value.bool ny, Value.slice Y ys.length d] 24)).alloc (Obj.cells #[Value.bool nx, Value.slice X xs.length c, Value.bool ny, Value.slice Y ys.length d] 24)) w.heap.size nx X xs.length c :=
    ⟨by simp [go_sem], by simp [go_sem], by simp [go_sem], by simp [go_sem]⟩
  have hcy : Cl (((w.alloc (Obj.cells #[Value.bool nx, Value.slice X xs.length c] 24)).alloc (Obj.cells #[Value.bool ny, Value.slice Y ys.length d] 24)).alloc (Obj.cells #[Value.bool nx, Value.slice X xs.length c, Value.bool ny, Value.slice Y ys.length d] 24)) (w.heap.size + 1) ny Y ys.length d :=
    ⟨by simp [go_sem], by simp [go_sem], by simp [go_sem], by simp [go_sem]⟩
  have hzz : (((w.alloc (Obj.cells #[Value.bool nx, Value.slice X xs.length c] 24)).alloc (Obj.cells #[Value.bool ny, Value.slice Y ys.length d] 24)).alloc (Obj.cells #[Value.bool nx, Value.slice X xs.length c, Value.bool ny, Value.slice Y ys.length d] 24)).heap.size = w.heap.size + 3 := by simp
  have hB3 : Below w.heap.size w (((w.alloc (Obj.cells #[Value.bool nx, Value.slice X xs.length c] 24)).alloc (Obj.cells #[Value.bool ny, Value.slice Y ys.length d] 24)).alloc (Obj.cells #[Value.bool nx, Value.slice X xs.length c, Value.bool ny, Value.slice Y ys.length d] 24)) := by go_grown
  exact ⟨hA, K2.mk' hcx hcy (by rw [hzz]; omega) (by rw [hzz]; omega), hB3⟩
end Go.Proofs.Ytcbdnnboddahkaa.Ws
