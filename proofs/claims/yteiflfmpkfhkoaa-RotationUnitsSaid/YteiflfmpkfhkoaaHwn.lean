/-
  Plain mathematics of Hurwitz quaternions: the order, the greatest associate, elements.
-/
import Derived.Test.YteiflfmpkfhkoaaHwm
namespace Go.Proofs.Yteiflfmpkfhkoaa.Hwm
open Alm
set_option linter.unusedVariables false
set_option linter.unusedSimpArgs false
/-- a is greater than b -/
def gtB (a b : H) : Bool := if a.w = b.w then if a.x = b.x then if a.y = b.y then decide (b.z < a.z) else decide (b.y < a.y) else decide (b.x < a.x) else decide (b.w < a.w)
theorem cmpI_pos {a b : Int} : 0 < cmpI a b ↔ b < a := by
  unfold cmpI; split
  · omega
  · split <;> omega
theorem cmpI_zero {a b : Int} : cmpI a b = 0 ↔ a = b := by
  unfold cmpI; split
  · omega
  · split <;> omega
theorem cmpH_pos (a b : H) : decide (cmpH a b > 0) = gtB a b := by
  unfold cmpH gtB or4
  simp only [cmpI_zero]
  split
  · split
    · split
      · exact decide_eq_decide.2 cmpI_pos
      · exact decide_eq_decide.2 cmpI_pos
    · exact decide_eq_decide.2 cmpI_pos
  · exact decide_eq_decide.2 cmpI_pos
theorem cmpH_pos' (a b : H) : decide (0 < cmpH a b) = gtB a b := cmpH_pos a b
theorem gtB_ways (a b : H) : (a.w ≠ b.w ∧ gtB a b = decide (b.w < a.w)) ∨ (a.w = b.w ∧ a.x ≠ b.x ∧ gtB a b = decide (b.x < a.x)) ∨ (a.w = b.w ∧ a.x = b.x ∧ a.y ≠ b.y ∧ gtB a b = decide (b.y < a.y)) ∨ (a.w = b.w ∧ a.x = b.x ∧ a.y = b.y ∧ a.z ≠ b.z ∧ gtB a b = decide (b.z < a.z)) ∨ (a.w = b.w ∧ a.x = b.x ∧ a.y = b.y ∧ a.z = b.z ∧ gtB a b = false) := by
  unfold gtB
  by_cases h0 : a.w = b.w
  · rw [if_pos h0]
    by_cases h1 : a.x = b.x
    · rw [if_pos h1]
      by_cases h2 : a.y = b.y
      · rw [if_pos h2]
        by_cases h3 : a.z = b.z
        · exact .inr (.inr (.inr (.inr ⟨h0, h1, h2, h3, decide_eq_false (by omega)⟩)))
        · exact .inr (.inr (.inr (.inl ⟨h0, h1, h2, h3, rfl⟩)))
      · rw [if_neg h2]; exact .inr (.inr (.inl ⟨h0, h1, h2, rfl⟩))
    · rw [if_neg h1]; exact .inr (.inl ⟨h0, h1, rfl⟩)
  · rw [if_neg h0]; exact .inl ⟨h0, rfl⟩
theorem gtB_trans {a b c : H} (h : gtB a b = true) (h' : gtB b c = true) : gtB a c = true := by
  rcases gtB_ways a b with ⟨h1, e⟩ | ⟨h1, h2, e⟩ | ⟨h1, h2, h3, e⟩ | ⟨h1, h2, h3, h4, e⟩ | ⟨h1, h2, h3, h4, e⟩ <;>
  rcases gtB_ways b c with ⟨g1, f⟩ | ⟨g1, g2, f⟩ | ⟨g1, g2, g3, f⟩ | ⟨g1, g2, g3, g4, f⟩ | ⟨g1, g2, g3, g4, f⟩ <;>
  rw [e] at h <;> rw [f] at h' <;> simp only [decide_eq_true_eq, Bool.false_eq_true] at h h' <;>
  unfold gtB <;> (repeat' split) <;> simp only [decide_eq_true_eq] <;> omega
theorem gtB_irrefl (a : H) : gtB a a = false := by
  unfold gtB; rw [if_pos rfl, if_pos rfl, if_pos rfl]; exact decide_eq_false (by omega)
theorem gtB_total {a b : H} (h : gtB a b = false) (h' : gtB b a = false) : a = b := by
  rcases gtB_ways a b with ⟨h1, e⟩ | ⟨h1, h2, e⟩ | ⟨h1, h2, h3, e⟩ | ⟨h1, h2, h3, h4, e⟩ | ⟨h1, h2, h3, h4, e⟩ <;>
  rcases gtB_ways b a with ⟨g1, f⟩ | ⟨g1, g2, f⟩ | ⟨g1, g2, g3, f⟩ | ⟨g1, g2, g3, g4, f⟩ | ⟨g1, g2, g3, g4, f⟩ <;>
  rw [e] at h <;> rw [f] at h' <;> simp only [decide_eq_false_iff_not] at h h' <;> first | omega | (exact H.ext' h1 h2 h3 h4)
/-- one step of the search for the greatest associate -/
def gst (x : H) (b u : H) : H := if gtB (by_ x u) b then by_ x u else b
def gre (x : H) (U : List H) : H := U.foldl (gst x) x
theorem gre_snoc (x : H) (U : List H) (u : H) : gre x (U ++ [u]) = gst x (gre x U) u := by unfold gre; rw [List.foldl_append]; rfl
/-- the greatest: no other is greater, and it is one of them -/
theorem gre_max (x : H) : ∀ U : List H, gtB x (gre x U) = false ∧ (∀ u ∈ U, gtB (by_ x u) (gre x U) = false) ∧ (gre x U = x ∨ ∃ u ∈ U, gre x U = by_ x u) := by
  intro U
  rw [← List.reverse_reverse U]
  generalize U.reverse = V
  induction V with
  | nil => exact ⟨gtB_irrefl x, fun u hu => by simp at hu, .inl rfl⟩
  | cons u V ih =>
    rw [List.reverse_cons, gre_snoc]
    obtain ⟨i1, i2, i3⟩ := ih
    unfold gst
    have tr : ∀ a, gtB a (gre x V.reverse) = false → gtB (by_ x u) (gre x V.reverse) = true → gtB a (by_ x u) = false := by
      intro a h1 h2
      rcases h : gtB a (by_ x u) with _ | _
      · rfl
      · rw [gtB_trans h h2] at h1; cases h1
    split
    · rename_i hg
      refine ⟨tr _ i1 hg, fun v hv => ?_, .inr ⟨u, by simp, rfl⟩⟩
      rcases List.mem_append.1 hv with hv | hv
      · exact tr _ (i2 v hv) hg
      · rw [List.mem_singleton.1 hv]; exact gtB_irrefl _
    · rename_i hg
      refine ⟨i1, fun v hv => ?_, ?_⟩
      · rcases List.mem_append.1 hv with hv | hv
        · exact i2 v hv
        · rw [List.mem_singleton.1 hv]; exact Bool.eq_false_iff.2 hg
      · rcases i3 with h | ⟨v, hv, h⟩
        · exact .inl h
        · exact .inr ⟨v, by simp at hv ⊢; exact .inl hv, h⟩
/-- all quaternions of a box, descending from b, that pass f -/
def zL (f : H → Bool) (b w x y : Int) (k : Nat) : List H := ((List.range k).map fun i : Nat => (⟨w, x, y, b - (i : Int)⟩ : H)).filter f
def yL (f : H → Bool) (b : Int) (m : Nat) (w x : Int) (k : Nat) : List H := (List.range k).flatMap fun j : Nat => zL f b w x (b - (j : Int)) m
def xL (f : H → Bool) (b : Int) (m : Nat) (w : Int) (k : Nat) : List H := (List.range k).flatMap fun j : Nat => yL f b m w (b - (j : Int)) m
def wL (f : H → Bool) (b : Int) (m : Nat) (k : Nat) : List H := (List.range k).flatMap fun j : Nat => xL f b m (b - (j : Int)) m
theorem zL_no {f : H → Bool} {b w x y : Int} {k : Nat} (h : f ⟨w, x, y, b - (k : Int)⟩ = false) : zL f b w x y (k + 1) = zL f b w x y k := by
  unfold zL; rw [List.range_succ]; simp [h]
theorem zL_yes {f : H → Bool} {b w x y : Int} {k : Nat} (h : f ⟨w, x, y, b - (k : Int)⟩ = true) : zL f b w x y (k + 1) = zL f b w x y k ++ [⟨w, x, y, b - (k : Int)⟩] := by
  unfold zL; rw [List.range_succ]; simp [h]
theorem yL_succ (f : H → Bool) (b : Int) (m : Nat) (w x : Int) (k : Nat) : yL f b m w x (k + 1) = yL f b m w x k ++ zL f b w x (b - (k : Int)) m := by
  unfold yL; rw [List.range_succ]; simp
theorem xL_succ (f : H → Bool) (b : Int) (m : Nat) (w : Int) (k : Nat) : xL f b m w (k + 1) = xL f b m w k ++ yL f b m w (b - (k : Int)) m := by
  unfold xL; rw [List.range_succ]; simp
theorem wL_succ (f : H → Bool) (b : Int) (m : Nat) (k : Nat) : wL f b m (k + 1) = wL f b m k ++ xL f b m (b - (k : Int)) m := by
  unfold wL; rw [List.range_succ]; simp
theorem zL_zero (f : H → Bool) (b w x y : Int) : zL f b w x y 0 = [] := rfl
theorem yL_zero (f : H → Bool) (b : Int) (m : Nat) (w x : Int) : yL f b m w x 0 = [] := rfl
theorem xL_zero (f : H → Bool) (b : Int) (m : Nat) (w : Int) : xL f b m w 0 = [] := rfl
theorem wL_zero (f : H → Bool) (b : Int) (m : Nat) : wL f b m 0 = [] := rfl
theorem zL_len (f : H → Bool) (b w x y : Int) (k : Nat) : (zL f b w x y k).length ≤ k := by
  unfold zL; exact Nat.le_trans (List.length_filter_le _ _) (by simp)
theorem yL_len (f : H → Bool) (b : Int) (m : Nat) (w x : Int) : ∀ k : Nat, (yL f b m w x k).length ≤ k * m
  | 0 => by simp [yL_zero]
  | k + 1 => by rw [yL_succ, List.length_append]; have := yL_len f b m w x k; have := zL_len f b w x (b - (k : Int)) m; rw [Nat.add_mul]; omega
theorem xL_len (f : H → Bool) (b : Int) (m : Nat) (w : Int) : ∀ k : Nat, (xL f b m w k).length ≤ k * (m * m)
  | 0 => by simp [xL_zero]
  | k + 1 => by rw [xL_succ, List.length_append]; have := xL_len f b m w k; have := yL_len f b m w (b - (k : Int)) m; rw [Nat.add_mul]; omega
theorem wL_len (f : H → Bool) (b : Int) (m : Nat) : ∀ k : Nat, (wL f b m k).length ≤ k * (m * (m * m))
  | 0 => by simp [wL_zero]
  | k + 1 => by rw [wL_succ, List.length_append]; have := wL_len f b m k; have := xL_len f b m (b - (k : Int)) m; rw [Nat.add_mul]; omega
theorem wL_mem {f : H → Bool} {b : Int} {m : Nat} (hm : (m : Int) = 2 * b + 1) (q : H) : q ∈ wL f b m m ↔ ((-b ≤ q.w ∧ q.w ≤ b) ∧ (-b ≤ q.x ∧ q.x ≤ b) ∧ (-b ≤ q.y ∧ q.y ≤ b) ∧ (-b ≤ q.z ∧ q.z ≤ b)) ∧ f q = true := by
  unfold wL xL yL zL
  simp only [List.mem_flatMap, List.mem_filter, List.mem_map, List.mem_range]
  constructor
  · rintro ⟨i, hi, j, hj, k, hk, ⟨l, hl, rfl⟩, hf⟩
    exact ⟨⟨by simp only []; omega, by simp only []; omega, by simp only []; omega, by simp only []; omega⟩, hf⟩
  · rintro ⟨⟨h1, h2, h3, h4⟩, hf⟩
    refine ⟨(b - q.w).toNat, by omega, (b - q.x).toNat, by omega, (b - q.y).toNat, by omega, ⟨(b - q.z).toNat, by omega, ?_⟩, hf⟩
    refine H.ext' ?_ ?_ ?_ ?_ <;> simp only [] <;> omega
/-- the units, descending -/
def U24 : List H := wL (fun h => nn h == 4) 2 5 5
theorem sq_odd {a : Int} (h : a % 2 = 1) : a * a % 4 = 1 := by
  have := ex_ (a / 2) (a / 2) 1 1
  have e : 2 * (a / 2) + 1 = a := by omega
  rw [e] at this; omega
theorem sq_even {a : Int} (h : a % 2 = 0) : a * a % 4 = 0 := by
  have := ex_ (a / 2) (a / 2) 0 0
  have e : 2 * (a / 2) + 0 = a := by omega
  rw [e] at this; omega
theorem sq_two {a r : Int} (h : a % 2 = r) : a * a % 4 = r := by
  rcases Int.emod_two_eq a with h1 | h1
  · rw [sq_even h1]; omega
  · rw [sq_odd h1]; omega
theorem nn4_par {a : H} (h : nn a % 4 = 0) : par a := by
  unfold nn at h
  unfold par
  rcases Int.emod_two_eq a.w with h1 | h1 <;> rcases Int.emod_two_eq a.x with h2 | h2 <;> rcases Int.emod_two_eq a.y with h3 | h3 <;> rcases Int.emod_two_eq a.z with h4 | h4 <;>
  have s1 := (sq_two h1) <;> have s2 := (sq_two h2) <;> have s3 := (sq_two h3) <;> have s4 := (sq_two h4) <;> omega
theorem U24_mem (u : H) : u ∈ U24 ↔ nn u = 4 := by
  unfold U24
  rw [wL_mem (by decide)]
  constructor
  · rintro ⟨-, h⟩; exact beq_iff_eq.1 h
  · intro h
    have := nn_bd (a := u) (n := 2) (by omega) (by omega)
    exact ⟨this, beq_iff_eq.2 h⟩
theorem U24_par {u : H} (h : u ∈ U24) : par u := nn4_par (by rw [(U24_mem u).1 h]; rfl)
/-- the canonical associate -/
def can (x : H) : H := gre x U24
end Go.Proofs.Yteiflfmpkfhkoaa.Hwm
