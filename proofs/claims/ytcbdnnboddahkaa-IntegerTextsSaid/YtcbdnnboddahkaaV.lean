/-
  The contracts of integers of words, said of values; lists of values and of boxed integers that a walk keeps.
-/
import Derived.Test.YtcbdnnboddahkaaTwo
import Derived.Test.YtcbdnnboddahkaaGc
namespace Go.Proofs.Ytcbdnnboddahkaa.Ws
open Go.RowKit
set_option linter.unusedVariables false
set_option maxRecDepth 100000
/-- v is an integer of words of the value z, of at most k words; b: in normal form -/
def IntE (w : World) (b : Bool) (z : Int) (k : Nat) (v : Value) : Prop := (∃ neg A c xs, v = .agg #[.bool neg, .slice A xs.length c] ∧ IntIn w neg A c xs ∧ iv neg xs = z ∧ xs.length ≤ k) ∧ (b = true → IntIs w z v)
section
variable {w w' : World} {b b' : Bool} {z t : Int} {k l : Nat} {u v : Value}
theorem IntE.below (h : IntE w b z k v) (hb : Below w.heap.size w w') : IntE w' b z k v := by
  obtain ⟨⟨neg, A, c, xs, rfl, h1, h2, h3⟩, h4⟩ := h
  exact ⟨⟨neg, A, c, xs, rfl, h1.below hb, h2, h3⟩, fun h => (h4 h).below hb⟩
theorem IntE.raw {neg : Bool} {A : Option Addr} {c : Nat} {xs : List Nat} (h : IntIn w neg A c xs) (hl : xs.length ≤ k) : IntE w false (iv neg xs) k (.agg #[.bool neg, .slice A xs.length c]) := ⟨⟨neg, A, c, xs, rfl, h, rfl, hl⟩, fun h => by cases h⟩
theorem IntE.of (h : IntIs w z v) (hl : (W z.natAbs).length ≤ k) (hk : k ≤ 1000000) : IntE w true z k v := by
  obtain ⟨neg, A, c, xs, rfl, h1, h2, h3⟩ := h.in_ (by omega)
  exact ⟨⟨neg, A, c, xs, rfl, h1, h2, by rw [h3]; exact hl⟩, fun _ => h⟩
theorem IntE.wlen (h : IntE w b z k v) : (W z.natAbs).length ≤ k := by
  obtain ⟨⟨neg, A, c, xs, rfl, h1, rfl, h3⟩, -⟩ := h
  exact Nat.le_trans h1.wlen h3
theorem IntE.form (h : IntE w b z k v) : ∃ n A l c, v = .agg #[.bool n, .slice A l c] ∧ IntE w b z k (.agg #[.bool n, .slice A l c]) := by
  have h' := h
  obtain ⟨⟨neg, A, c, xs, rfl, h1, h2, h3⟩, h4⟩ := h
  exact ⟨neg, A, xs.length, c, rfl, h'⟩
/-- a result -/
def VOut (w : World) (z : Int) (k : Nat) (e : Ending) (w' : World) : Prop := ∃ n A l c, e = .returned (.agg #[.bool n, .slice A l c]) ∧ IntE w' true z k (.agg #[.bool n, .slice A l c]) ∧ Below w.heap.size w w'
theorem vout {e : Ending} (h : IntOut w z e w') (hl : (W z.natAbs).length ≤ k) (hk : k ≤ 1000000) : VOut w z k e w' := by
  obtain ⟨v, rfl, hi, hb⟩ := h
  obtain ⟨n, A, l, c, rfl, h2⟩ := (IntE.of hi hl hk).form
  exact ⟨n, A, l, c, rfl, h2, hb⟩
theorem Add_v (hu : IntE w b z k u) (hv : IntE w b' t l v) (hk : k ≤ 100000) (hl : l ≤ 100000) : Calls Try.prog 30 #[u, v] w fun e w' => VOut w (z + t) (k + l + 1) e w' := by
  have e1 := hu.wlen; have e2 := hv.wlen
  obtain ⟨⟨nx, X, c, xs, rfl, h1, rfl, h3⟩, -⟩ := hu
  obtain ⟨⟨ny, Y, d, ys, rfl, g1, rfl, g3⟩, -⟩ := hv
  refine (Add_any nx ny X Y c d xs ys w h1 g1).mono fun e w' h => vout h ?_ (by omega)
  exact W_len_pm (k := k + l) (a := iv nx xs) (b := iv ny ys) (by omega) (by omega) (by omega)
theorem Sub_v (hu : IntE w b z k u) (hv : IntE w b' t l v) (hk : k ≤ 100000) (hl : l ≤ 100000) : Calls Try.prog 32 #[u, v] w fun e w' => VOut w (z - t) (k + l + 1) e w' := by
  have e1 := hu.wlen; have e2 := hv.wlen
  obtain ⟨⟨nx, X, c, xs, rfl, h1, rfl, h3⟩, -⟩ := hu
  obtain ⟨⟨ny, Y, d, ys, rfl, g1, rfl, g3⟩, -⟩ := hv
  refine (Sub_any nx ny X Y c d xs ys w h1 g1).mono fun e w' h => vout h ?_ (by omega)
  exact W_len_pm (k := k + l) (a := iv nx xs) (b := iv ny ys) (by omega) (by omega) (by omega)
theorem Mul_v (hu : IntE w b z k u) (hv : IntE w b' t l v) (hk : k ≤ 100000) (hl : l ≤ 100000) : Calls Try.prog 34 #[u, v] w fun e w' => VOut w (z * t) (k + l) e w' := by
  have e1 := hu.wlen; have e2 := hv.wlen
  obtain ⟨⟨nx, X, c, xs, rfl, h1, rfl, h3⟩, -⟩ := hu
  obtain ⟨⟨ny, Y, d, ys, rfl, g1, rfl, g3⟩, -⟩ := hv
  refine (Mul_any nx ny X Y c d xs ys w h1 g1).mono fun e w' h => vout h ?_ (by omega)
  rw [Int.natAbs_mul]
  have := W_len_mul (iv nx xs).natAbs (iv ny ys).natAbs
  omega
theorem Gcd_v (hu : IntE w b z k u) (hv : IntE w b' t l v) (hk : k ≤ 100000) (hl : l ≤ 100000) : Calls Try.prog 36 #[u, v] w fun e w' => VOut w ((Nat.gcd z.natAbs t.natAbs : Nat) : Int) (k + l + 1) e w' := by
  have e1 := hu.wlen; have e2 := hv.wlen
  obtain ⟨⟨nx, X, c, xs, rfl, h1, rfl, h3⟩, -⟩ := hu
  obtain ⟨⟨ny, Y, d, ys, rfl, g1, rfl, g3⟩, -⟩ := hv
  refine (Gcd_any nx ny X Y c d xs ys w h1 g1).mono fun e w' h => vout h ?_ (by omega)
  exact W_len_pm (k := k + l) (a := iv nx xs) (b := iv ny ys) (by omega) (by omega) (by rw [Int.natAbs_natCast]; exact gcd_le_add _ _)
theorem Normal_v (hu : IntE w b z k u) (hk : k ≤ 100000) : Calls Try.prog 26 #[u] w fun e w' => VOut w z k e w' := by
  have e1 := hu.wlen
  obtain ⟨⟨nx, X, c, xs, rfl, h1, rfl, h3⟩, -⟩ := hu
  exact (normal_any nx X c xs w h1).mono fun e w' h => vout h e1 (by omega)
theorem Of_v (n : Int) (h1 : -9223372036854775808 ≤ n) (h2 : n ≤ 9223372036854775807) : Calls Try.prog 23 #[.int .i64 n] w fun e w' => VOut w n 2 e w' :=
  (of_any n w h1 h2).mono fun e w' h => vout h (W_len_lt (by omega)) (by omega)
theorem Cmp_v (hu : IntE w b z k u) (hv : IntE w b' t l v) : Calls Try.prog 28 #[u, v] w fun e w' => e = .returned (.int .i64 (cmpI z t)) ∧ Below w.heap.size w w' := by
  obtain ⟨⟨nx, X, c, xs, rfl, h1, rfl, h3⟩, -⟩ := hu
  obtain ⟨⟨ny, Y, d, ys, rfl, g1, rfl, g3⟩, -⟩ := hv
  exact Cmp_any nx ny X Y c d xs ys w h1 g1
theorem Same_v (hu : IntE w true z k u) (hv : IntE w true t l v) (hz : z = t) (hk : k ≤ 100000) : Calls Try.prog 24 #[u, v] w fun e w' => e = .returned (.bool true) ∧ Below w.heap.size w w' := by
  subst hz
  exact same_any z u v w (hu.2 rfl) (hv.2 rfl) (by have := hu.wlen; omega)
/-- what DivMod hands back, as values -/
def QrV (w : World) (z t : Int) (k l : Nat) (e : Ending) (w' : World) : Prop := ∃ n A i c n' A' i' c', e = .returned (.tuple #[.agg #[.bool n, .slice A i c], .agg #[.bool n', .slice A' i' c'], .int .i64 (dmE t)]) ∧ IntE w' true (z / t) k (.agg #[.bool n, .slice A i c]) ∧ IntE w' true (dmR z t) l (.agg #[.bool n', .slice A' i' c']) ∧ Below w.heap.size w w'
theorem dmR_len (z t : Int) : (W (dmR z t).natAbs).length ≤ (W t.natAbs).length := by
  unfold dmR
  split
  · exact Nat.zero_le _
  · refine W_len_mono ?_
    have e1 := Int.emod_nonneg z (b := t) (by assumption)
    have e2 := Int.emod_lt z (b := t) (by assumption)
    omega
theorem DivMod_v (hu : IntE w b z k u) (hv : IntE w b' t l v) (hk : k ≤ 100000) (hl : l ≤ 100000) : Calls Try.prog 38 #[u, v] w fun e w' => QrV w z t k l e w' := by
  have e1 := hu.wlen; have e2 := hv.wlen
  obtain ⟨⟨nx, X, c, xs, rfl, h1, rfl, h3⟩, -⟩ := hu
  obtain ⟨⟨ny, Y, d, ys, rfl, g1, rfl, g3⟩, -⟩ := hv
  refine (DivMod_any nx ny X Y c d xs ys w h1 g1).mono ?_
  rintro e w' ⟨u, v, rfl, hu, hv, hb⟩
  obtain ⟨n, A, i, c', rfl, h2⟩ := (IntE.of hu (Nat.le_trans (W_len_mono (Int.natAbs_ediv_le_natAbs _ _)) e1) (by omega)).form
  obtain ⟨n', A', i', c'', rfl, h2'⟩ := (IntE.of hv (Nat.le_trans (dmR_len _ _) e2) (by omega)).form
  exact ⟨n, A, i, c', n', A', i', c'', rfl, h2, h2', hb⟩
end
/-- values that a walk keeps -/
def Vs (w : World) : List (Value × Bool × Int × Nat) → Prop
  | [] => True
  | (v, b, z, k) :: L => IntE w b z k v ∧ Vs w L
section
variable {w w' : World} {b : Bool} {z : Int} {k : Nat} {v : Value} {L : List (Value × Bool × Int × Nat)}
theorem Vs.nil_ (w : World) : Vs w [] := trivial
theorem Vs.cons (h : Vs w L) (hv : IntE w b z k v) : Vs w ((v, b, z, k) :: L) := ⟨hv, h⟩
theorem Vs.hd (h : Vs w ((v, b, z, k) :: L)) : IntE w b z k v := h.1
theorem Vs.tl {p : Value × Bool × Int × Nat} (h : Vs w (p :: L)) : Vs w L := h.2
theorem Vs.below (hb : Below w.heap.size w w') : ∀ {L : List (Value × Bool × Int × Nat)}, Vs w L → Vs w' L
  | [], _ => trivial
  | (_, _, _, _) :: _, h => ⟨h.1.below hb, Vs.below hb h.2⟩
end
/-- integers of words that lie in blocks -/
def Ms (w : World) : List (Nat × Bool × Option Addr × Nat × Nat) → Prop
  | [] => True
  | (g, b, A, n, c) :: L => (Cl w g b A n c ∧ g < w.heap.size) ∧ Ms w L
section
variable {w w' : World} {g : Nat} {b : Bool} {A : Option Addr} {n c : Nat} {L : List (Nat × Bool × Option Addr × Nat × Nat)}
theorem Ms.nil_ (w : World) : Ms w [] := trivial
theorem Ms.below (hb : Below w.heap.size w w') : ∀ {L : List (Nat × Bool × Option Addr × Nat × Nat)}, Ms w L → Ms w' L
  | [], _ => trivial
  | (_, _, _, _, _) :: _, h => ⟨⟨h.1.1.below hb h.1.2, Nat.lt_of_lt_of_le h.1.2 hb.size⟩, Ms.below hb h.2⟩
theorem Ms.new (h : Ms w L) (b : Bool) (A : Option Addr) (n c : Nat) : Ms (w.alloc (.cells #[.bool b, .slice A n c] 24)) ((w.heap.size, b, A, n, c) :: L) :=
  ⟨⟨⟨by simp [go_sem], by simp [go_sem], by simp [go_sem], by simp [go_sem]⟩, by simp⟩, h.below ((Below.refl _ _).alloc (Nat.le_refl _) _)⟩
theorem Ms.tl {p : Nat × Bool × Option Addr × Nat × Nat} (h : Ms w (p :: L)) : Ms w L := h.2
theorem Ms.hd (h : Ms w ((g, b, A, n, c) :: L)) : w.cell? ⟨g, 0, none⟩ = some (.bool b) ∧ w.cell? ⟨g, 1, none⟩ = some (.slice A n c) := ⟨h.1.1.c0, h.1.1.c1⟩
theorem Ms.cl (h : Ms w ((g, b, A, n, c) :: L)) : Cl w g b A n c := h.1.1
theorem Ms.lt (h : Ms w ((g, b, A, n, c) :: L)) : g < w.heap.size := h.1.2
theorem Ms.draws (m : Nat) (h : Ms w L) : Ms (w.drewN m) L := h.below (below_drawn (Below.refl _ _) m)
end
end Go.Proofs.Ytcbdnnboddahkaa.Ws
