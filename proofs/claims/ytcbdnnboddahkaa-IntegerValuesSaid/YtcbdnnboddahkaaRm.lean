/-
  The steps of the reference's loops over digits. Plain mathematics.
-/
import Derived.Test.YtcbdnnboddahkaaWm
namespace Go.Proofs.Ytcbdnnboddahkaa.Ws
set_option linter.unusedVariables false
/-- adding digit by digit, the digits appended -/
def PInv (B : Nat) (xs ys zs : List Nat) (c : Nat) : Prop :=
  (∀ z ∈ zs, z < B) ∧ c ≤ 1 ∧ val B zs + B ^ zs.length * c = val B (xs.take zs.length) + val B (ys.take zs.length)
theorem mem_snoc_lt {zs : List Nat} {B y : Nat} (h : ∀ z ∈ zs, z < B) (hy : y < B) : ∀ z ∈ zs ++ [y], z < B := by
  intro z hz
  rcases List.mem_append.1 hz with h1 | h1
  · exact h z h1
  · simp at h1; subst h1; exact hy
theorem PInv.start (B : Nat) (xs ys : List Nat) : PInv B xs ys [] 0 := ⟨by simp, by omega, by simp [val]⟩
theorem PInv.step {B : Nat} (hB : 2 ≤ B) {xs ys zs : List Nat} {c : Nat} (h : PInv B xs ys zs c) (hx : ∀ x ∈ xs, x < B) (hy : ∀ x ∈ ys, x < B) (t : Nat) (ht : t = c + xs.getD zs.length 0 + ys.getD zs.length 0) :
    PInv B xs ys (zs ++ [t % B]) (t / B) := by
  obtain ⟨h1, h2, h3⟩ := h
  have q1 := getD_lt hx (by omega) zs.length
  have q2 := getD_lt hy (by omega) zs.length
  refine ⟨mem_snoc_lt h1 (Nat.mod_lt _ (by omega)), ?_, ?_⟩
  · have : t / B < 2 := by rw [Nat.div_lt_iff_lt_mul (by omega)]; omega
    omega
  · rw [List.length_append, List.length_singleton, val_snoc, val_take_succ, val_take_succ, Nat.pow_succ]
    have e : B ^ zs.length * (t % B) + B ^ zs.length * B * (t / B) = B ^ zs.length * t := by
      rw [Nat.mul_assoc, ← Nat.mul_add, Nat.mod_add_div]
    have e2 : B ^ zs.length * t = B ^ zs.length * c + B ^ zs.length * xs.getD zs.length 0 + B ^ zs.length * ys.getD zs.length 0 := by rw [ht, Nat.mul_add, Nat.mul_add]
    omega
theorem PInv.done {B : Nat} {xs ys zs : List Nat} (h : PInv B xs ys zs 0) (hx : xs.length ≤ zs.length) (hy : ys.length ≤ zs.length) : val B zs = val B xs + val B ys := by
  obtain ⟨h1, h2, h3⟩ := h
  rw [List.take_of_length_le hx, List.take_of_length_le hy] at h3
  omega
/-- subtracting digit by digit, the digits appended -/
def MInv (B : Nat) (xs ys zs : List Nat) (c : Nat) : Prop :=
  (∀ z ∈ zs, z < B) ∧ c ≤ 1 ∧ val B zs + val B (ys.take zs.length) = val B (xs.take zs.length) + B ^ zs.length * c
theorem MInv.start (B : Nat) (xs ys : List Nat) : MInv B xs ys [] 0 := ⟨by simp, by omega, by simp [val]⟩
theorem MInv.step {B : Nat} {xs ys zs : List Nat} {c : Nat} (h : MInv B xs ys zs c) (d b : Nat) (hb : b ≤ 1) (hd : d < B) (ht : d + c + ys.getD zs.length 0 = xs.getD zs.length 0 + B * b) :
    MInv B xs ys (zs ++ [d]) b := by
  obtain ⟨h1, h2, h3⟩ := h
  refine ⟨mem_snoc_lt h1 hd, hb, ?_⟩
  rw [List.length_append, List.length_singleton, val_snoc, val_take_succ, val_take_succ, Nat.pow_succ, Nat.mul_assoc]
  have e : B ^ zs.length * (d + c + ys.getD zs.length 0) = B ^ zs.length * (xs.getD zs.length 0 + B * b) := by rw [ht]
  rw [Nat.mul_add, Nat.mul_add, Nat.mul_add] at e
  omega
theorem MInv.done {B : Nat} {xs ys zs : List Nat} {c : Nat} (h : MInv B xs ys zs c) (hl : zs.length = xs.length) (hy : ys.length ≤ xs.length) (hle : val B ys ≤ val B xs) : val B zs = val B xs - val B ys := by
  obtain ⟨h1, h2, h3⟩ := h
  rw [hl, List.take_of_length_le (Nat.le_refl _), List.take_of_length_le hy] at h3
  have := val_lt B zs h1
  rw [hl] at this
  have hc : c = 0 := by
    rcases Nat.lt_or_ge c 1 with h | h
    · omega
    · have : c = 1 := by omega
      subst this
      omega
  subst hc
  omega
/-- two digits are one of the square of the base -/
def up (B : Nat) : List Nat → List Nat
  | [] => []
  | [a] => [a]
  | a :: b :: t => (a + b * B) :: up B t
theorem up_dgs (B : Nat) (hB : 2 ≤ B) (n : Nat) : up B (dgs B n) = dgs (B * B) n := by
  have hBB : 2 ≤ B * B := Nat.le_trans hB (Nat.le_mul_of_pos_left B (by omega))
  induction n using Nat.strongRecOn with
  | _ n ih =>
    by_cases h0 : n = 0
    · subst h0; rfl
    · rw [dgs_pos B n hB h0, dgs_pos (B * B) n hBB h0, ← Nat.div_div_eq_div_mul, Nat.mod_mul]
      have hd : n / B < n := Nat.div_lt_self (by omega) (by omega)
      by_cases h1 : n / B = 0
      · rw [h1, dgs_zero, Nat.zero_div, dgs_zero]; simp [up]
      · have hd2 : n / B / B < n / B := Nat.div_lt_self (Nat.pos_of_ne_zero h1) (by omega)
        rw [dgs_pos B _ hB h1]
        simp only [up]
        rw [ih _ (Nat.lt_trans hd2 hd), Nat.mul_comm]
theorem up_take_even (B : Nat) : ∀ (xs : List Nat) (k : Nat), 2 * k + 1 < xs.length → up B (xs.take (2 * k + 2)) = up B (xs.take (2 * k)) ++ [xs.getD (2 * k) 0 + xs.getD (2 * k + 1) 0 * B]
  | [], k, h => by simp at h
  | [a], k, h => by simp at h
  | a :: b :: t, 0, h => by simp [up]
  | a :: b :: t, k + 1, h => by
    have e1 : 2 * (k + 1) + 2 = (2 * k + 2) + 2 := by omega
    have e2 : 2 * (k + 1) = 2 * k + 2 := by omega
    have ih := up_take_even B t k (by simp at h; omega)
    rw [e1, e2]
    simp only [List.take_succ_cons, up, List.getD_cons_succ, List.cons_append]
    rw [ih]
theorem up_take_odd (B : Nat) : ∀ (xs : List Nat) (k : Nat), 2 * k + 1 = xs.length → up B xs = up B (xs.take (2 * k)) ++ [xs.getD (2 * k) 0]
  | [], k, h => by simp at h
  | [a], k, h => by
    have : k = 0 := by simp at h; omega
    subst this; simp [up]
  | a :: b :: t, 0, h => by simp at h
  | a :: b :: t, k + 1, h => by
    have e2 : 2 * (k + 1) = 2 * k + 2 := by omega
    have ih := up_take_odd B t k (by simp at h; omega)
    rw [e2]
    simp only [List.take_succ_cons, up, List.getD_cons_succ, List.cons_append]
    rw [ih]
theorem up_length (B : Nat) : ∀ (xs : List Nat), (up B xs).length ≤ xs.length
  | [] => by simp [up]
  | [a] => by simp [up]
  | a :: b :: t => by have := up_length B t; simp only [up, List.length_cons]; omega
theorem pairs_lt {B : Nat} (hB : 2 ≤ B) {xs : List Nat} (h : ∀ x ∈ xs, x < B * B) : ∀ y ∈ xs.flatMap (fun x => [x % B, x / B]), y < B := by
  intro y hy
  obtain ⟨x, hx, hy⟩ := List.mem_flatMap.1 hy
  simp at hy
  rcases hy with rfl | rfl
  · exact Nat.mod_lt _ (by omega)
  · rw [Nat.div_lt_iff_lt_mul (by omega)]; exact h x hx
theorem pairs_take_succ (B : Nat) (xs : List Nat) (k : Nat) (hk : k < xs.length) : (xs.take (k + 1)).flatMap (fun x => [x % B, x / B]) = (xs.take k).flatMap (fun x => [x % B, x / B]) ++ [xs.getD k 0 % B, xs.getD k 0 / B] := by
  rw [List.take_succ_eq_append_getElem hk, List.flatMap_append, List.getD_eq_getElem?_getD, List.getElem?_eq_getElem hk]; simp
theorem pairs_length (B : Nat) (xs : List Nat) : (xs.flatMap (fun x => [x % B, x / B])).length = 2 * xs.length := by
  induction xs with
  | nil => rfl
  | cons x t ih => simp [List.flatMap_cons, ih]; omega
/-- the digits of a number that is divided on and on -/
theorem dgs_split {B : Nat} (hB : 2 ≤ B) {zs : List Nat} {m n : Nat} (h : zs ++ dgs B m = dgs B n) (hm : m ≠ 0) : (zs ++ [m % B]) ++ dgs B (m / B) = dgs B n := by
  rw [← h, dgs_pos B m hB hm]; simp
end Go.Proofs.Ytcbdnnboddahkaa.Ws
