/-
  Lists of digits in a base. Plain mathematics.
-/
namespace Go.Proofs.Ytcbdnnboddahkaa.Ws
/-- the number whose digits in base B are xs, the lowest first -/
def val (B : Nat) : List Nat → Nat
  | [] => 0
  | x :: xs => x + B * val B xs
/-- a list without the zeros at its end -/
def trimL : List Nat → List Nat
  | [] => []
  | x :: xs => if x = 0 ∧ trimL xs = [] then [] else x :: trimL xs
/-- n digits of x in base B -/
def dgF (B : Nat) : Nat → Nat → List Nat
  | 0, _ => []
  | f + 1, n => if n = 0 then [] else n % B :: dgF B f (n / B)
/-- the digits of a number -/
def dgs (B n : Nat) : List Nat := dgF B n n
theorem dgF_more (B : Nat) (hB : 2 ≤ B) : ∀ (f g n : Nat), n ≤ f → n ≤ g → dgF B f n = dgF B g n := by
  intro f
  induction f with
  | zero => intro g n h1 h2; have : n = 0 := by omega
            subst this; cases g <;> simp [dgF]
  | succ f ih =>
    intro g n h1 h2
    cases g with
    | zero => have : n = 0 := by omega
              subst this; simp [dgF]
    | succ g =>
      by_cases h0 : n = 0
      · simp [dgF, h0]
      · have hd : n / B < n := Nat.div_lt_self (by omega) (by omega)
        simp only [dgF, h0, if_false]
        rw [ih g (n / B) (by omega) (by omega)]
theorem dgs_zero (B : Nat) : dgs B 0 = [] := rfl
theorem dgs_pos (B n : Nat) (hB : 2 ≤ B) (hn : n ≠ 0) : dgs B n = n % B :: dgs B (n / B) := by
  have hd : n / B < n := Nat.div_lt_self (by omega) (by omega)
  unfold dgs
  cases n with
  | zero => omega
  | succ m =>
    simp only [dgF, hn, if_false]
    rw [dgF_more B hB m ((m + 1) / B) _ (by omega) (Nat.le_refl _)]
theorem dgs_nil (B n : Nat) (hB : 2 ≤ B) : dgs B n = [] ↔ n = 0 := by
  constructor
  · intro h
    by_cases h0 : n = 0
    · exact h0
    · rw [dgs_pos B n hB h0] at h; cases h
  · intro h; subst h; rfl
theorem val_dgs (B : Nat) (hB : 2 ≤ B) (n : Nat) : val B (dgs B n) = n := by
  induction n using Nat.strongRecOn with
  | _ n ih =>
    by_cases h0 : n = 0
    · subst h0; rfl
    · have hd : n / B < n := Nat.div_lt_self (by omega) (by omega)
      rw [dgs_pos B n hB h0]
      simp only [val]
      rw [ih _ hd]
      exact Nat.mod_add_div n B
theorem dgs_lt (B : Nat) (hB : 2 ≤ B) (n : Nat) : ∀ x ∈ dgs B n, x < B := by
  induction n using Nat.strongRecOn with
  | _ n ih =>
    by_cases h0 : n = 0
    · subst h0; simp [dgs_zero]
    · have hd : n / B < n := Nat.div_lt_self (by omega) (by omega)
      rw [dgs_pos B n hB h0]
      intro x hx
      rcases List.mem_cons.1 hx with rfl | hx
      · exact Nat.mod_lt _ (by omega)
      · exact ih _ hd x hx
theorem dgs_val (B : Nat) (hB : 2 ≤ B) : ∀ xs : List Nat, (∀ x ∈ xs, x < B) → dgs B (val B xs) = trimL xs := by
  intro xs
  induction xs with
  | nil => intro _; rfl
  | cons x t ih =>
    intro h
    have hx : x < B := h x (by simp)
    have ht := ih fun y hy => h y (by simp [hy])
    by_cases h0 : x = 0 ∧ trimL t = []
    · have hv : val B t = 0 := (dgs_nil B _ hB).1 (by rw [ht]; exact h0.2)
      have : val B (x :: t) = 0 := by simp [val, h0.1, hv]
      rw [this]
      simp only [trimL]
      rw [if_pos h0]; rfl
    · have hne : val B (x :: t) ≠ 0 := by
        intro e
        simp only [val] at e
        have hx0 : x = 0 := by omega
        have hz : B * val B t = 0 := by omega
        rcases Nat.mul_eq_zero.1 hz with hb | hv
        · omega
        · exact h0 ⟨hx0, by rw [← ht, hv]; rfl⟩
      rw [dgs_pos B _ hB hne]
      have h1 : val B (x :: t) % B = x := by
        simp only [val]; rw [Nat.add_mul_mod_self_left]; exact Nat.mod_eq_of_lt hx
      have h2 : val B (x :: t) / B = val B t := by
        simp only [val]; rw [Nat.add_mul_div_left _ _ (by omega), Nat.div_eq_of_lt hx]; omega
      rw [h1, h2, ht]
      simp only [trimL]
      rw [if_neg h0]
theorem trimL_dgs (B : Nat) (hB : 2 ≤ B) (n : Nat) : trimL (dgs B n) = dgs B n := by
  have := dgs_val B hB (dgs B n) (dgs_lt B hB n)
  rw [val_dgs B hB] at this
  exact this.symm
theorem val_trimL (B : Nat) (hB : 2 ≤ B) (xs : List Nat) (h : ∀ x ∈ xs, x < B) : val B (trimL xs) = val B xs := by
  rw [← dgs_val B hB xs h, val_dgs B hB]
theorem val_append (B : Nat) (xs ys : List Nat) : val B (xs ++ ys) = val B xs + B ^ xs.length * val B ys := by
  induction xs with
  | nil => simp [val]
  | cons x t ih =>
    simp only [List.cons_append, val, List.length_cons, Nat.pow_succ]
    rw [ih, Nat.mul_add, Nat.add_assoc, Nat.mul_comm (B ^ t.length) B, Nat.mul_assoc]
theorem val_lt (B : Nat) (xs : List Nat) (h : ∀ x ∈ xs, x < B) : val B xs < B ^ xs.length := by
  induction xs with
  | nil => simp [val]
  | cons x t ih =>
    have hx : x < B := h x (by simp)
    have ht := ih fun y hy => h y (by simp [hy])
    simp only [val, List.length_cons, Nat.pow_succ]
    have h2 : B * val B t + B ≤ B ^ t.length * B := by
      have h3 := Nat.mul_le_mul_left B (show val B t + 1 ≤ B ^ t.length by omega)
      rw [Nat.mul_add, Nat.mul_one, Nat.mul_comm B (B ^ t.length)] at h3
      exact h3
    omega
theorem val_snoc (B : Nat) (xs : List Nat) (y : Nat) : val B (xs ++ [y]) = val B xs + B ^ xs.length * y := by
  rw [val_append]; simp [val]
theorem val_replicate (B n : Nat) : val B (List.replicate n 0) = 0 := by
  induction n with
  | zero => rfl
  | succ n ih => simp [List.replicate_succ, val, ih]
theorem trimL_snoc (xs : List Nat) (y : Nat) (hy : y ≠ 0) : trimL (xs ++ [y]) = xs ++ [y] := by
  induction xs with
  | nil => simp [trimL, hy]
  | cons x t ih =>
    simp only [List.cons_append, trimL]
    rw [ih, if_neg (by simp)]
theorem trimL_snoc_zero (xs : List Nat) : trimL (xs ++ [0]) = trimL xs := by
  induction xs with
  | nil => simp [trimL]
  | cons x t ih => simp only [List.cons_append, trimL]; rw [ih]
theorem trimL_length (xs : List Nat) : (trimL xs).length ≤ xs.length := by
  induction xs with
  | nil => simp [trimL]
  | cons x t ih => simp only [trimL]; split <;> simp <;> omega
/-- what a loop that goes down from the end finds -/
theorem trimL_down (xs : List Nat) : ∀ (d k : Nat), k + d = xs.length → (∀ j, k ≤ j → j < xs.length → xs.getD j 0 = 0) → trimL xs = trimL (xs.take k) := by
  intro d
  induction d with
  | zero => intro k hk _; rw [List.take_of_length_le (by omega)]
  | succ d ih =>
    intro k hk h
    rw [ih (k + 1) (by omega) (fun j h1 h2 => h j (by omega) h2)]
    have hk' : k < xs.length := by omega
    have h0 := h k (Nat.le_refl _) hk'
    rw [List.getD_eq_getElem?_getD, List.getElem?_eq_getElem hk'] at h0
    simp at h0
    rw [List.take_succ_eq_append_getElem hk', h0, trimL_snoc_zero]
theorem trimL_found (xs : List Nat) (k : Nat) (hk : k ≤ xs.length) (h : ∀ j, k ≤ j → j < xs.length → xs.getD j 0 = 0) (h0 : k = 0 ∨ xs.getD (k - 1) 0 ≠ 0) : trimL xs = xs.take k := by
  rw [trimL_down xs (xs.length - k) k (by omega) h]
  rcases h0 with rfl | h0
  · simp [trimL]
  · match k, hk, h0 with
    | 0, _, _ => simp [trimL]
    | k + 1, hk, h0 =>
      have hk' : k < xs.length := by omega
      rw [List.take_succ_eq_append_getElem hk']
      apply trimL_snoc
      rw [List.getD_eq_getElem?_getD] at h0
      simp only [Nat.add_sub_cancel] at h0
      rw [List.getElem?_eq_getElem hk'] at h0
      simpa using h0
theorem trimL_take (xs : List Nat) : trimL xs = xs.take (trimL xs).length := by
  induction xs with
  | nil => rfl
  | cons x t ih =>
    simp only [trimL]
    split
    · rfl
    · simp only [List.length_cons, List.take_succ_cons]
      rw [← ih]
theorem take_lt {xs : List Nat} {B : Nat} (h : ∀ x ∈ xs, x < B) (k : Nat) : ∀ x ∈ xs.take k, x < B := fun x hx => h x (List.mem_of_mem_take hx)
theorem drop_lt {xs : List Nat} {B : Nat} (h : ∀ x ∈ xs, x < B) (k : Nat) : ∀ x ∈ xs.drop k, x < B := fun x hx => h x (List.mem_of_mem_drop hx)
theorem getD_lt {xs : List Nat} {B : Nat} (h : ∀ x ∈ xs, x < B) (hB : 0 < B) (k : Nat) : xs.getD k 0 < B := by
  by_cases hk : k < xs.length
  · rw [List.getD_eq_getElem?_getD, List.getElem?_eq_getElem hk]; exact h _ (List.getElem_mem hk)
  · rw [List.getD_eq_getElem?_getD, List.getElem?_eq_none (by omega)]; exact hB
theorem val_take_succ (B : Nat) (xs : List Nat) (k : Nat) : val B (xs.take (k + 1)) = val B (xs.take k) + B ^ k * xs.getD k 0 := by
  by_cases hk : k < xs.length
  · rw [List.take_succ_eq_append_getElem hk, val_snoc, List.getD_eq_getElem?_getD, List.getElem?_eq_getElem hk, List.length_take, Nat.min_eq_left (by omega)]; rfl
  · rw [List.take_of_length_le (by omega), List.take_of_length_le (by omega), List.getD_eq_getElem?_getD, List.getElem?_eq_none (by omega)]; simp
theorem val_drop (B : Nat) (xs : List Nat) (k : Nat) (hk : k < xs.length) : val B (xs.drop k) = xs.getD k 0 + B * val B (xs.drop (k + 1)) := by
  rw [List.drop_eq_getElem_cons hk]; simp only [val]
  rw [List.getD_eq_getElem?_getD, List.getElem?_eq_getElem hk]; rfl
theorem val_split (B : Nat) (xs : List Nat) (k : Nat) (hk : k ≤ xs.length) : val B xs = val B (xs.take k) + B ^ k * val B (xs.drop k) := by
  have h := val_append B (xs.take k) (xs.drop k)
  rw [List.take_append_drop, List.length_take, Nat.min_eq_left hk] at h
  exact h
/-- the number of digits -/
theorem dgs_length_lt (B : Nat) (hB : 2 ≤ B) (n : Nat) : n < B ^ (dgs B n).length := by
  have := val_lt B (dgs B n) (dgs_lt B hB n)
  rw [val_dgs B hB] at this; exact this
theorem dgs_length_le (B : Nat) (hB : 2 ≤ B) : ∀ (k n : Nat), n < B ^ k → (dgs B n).length ≤ k := by
  intro k
  induction k with
  | zero => intro n h; have : n = 0 := by simpa using h
            subst this; simp [dgs_zero]
  | succ k ih =>
    intro n h
    by_cases h0 : n = 0
    · subst h0; simp [dgs_zero]
    · rw [dgs_pos B n hB h0]
      have := ih (n / B) (by rw [Nat.div_lt_iff_lt_mul (by omega)]; rw [Nat.pow_succ] at h; exact h)
      simp; omega
theorem dgs_len_mono (B : Nat) (hB : 2 ≤ B) (a b : Nat) (h : a ≤ b) : (dgs B a).length ≤ (dgs B b).length :=
  dgs_length_le B hB _ _ (Nat.lt_of_le_of_lt h (dgs_length_lt B hB b))
theorem lt_of_dgs_len (B : Nat) (hB : 2 ≤ B) (a b : Nat) (h : (dgs B a).length < (dgs B b).length) : a < b := by
  rcases Nat.lt_or_ge a b with h1 | h1
  · exact h1
  · have := dgs_len_mono B hB b a h1; omega
theorem dgs_val_length_le (B : Nat) (hB : 2 ≤ B) (xs : List Nat) (h : ∀ x ∈ xs, x < B) : (dgs B (val B xs)).length ≤ xs.length := by
  rw [dgs_val B hB xs h]; exact trimL_length xs
/-- the highest place where two lists of one length differ decides -/
theorem val_lt_of (B : Nat) (xs ys : List Nat) (k : Nat) (hk : k < xs.length) (hl : xs.length = ys.length) (hx : ∀ x ∈ xs, x < B) (h : xs.getD k 0 < ys.getD k 0)
    (ha : ∀ j, k < j → j < xs.length → xs.getD j 0 = ys.getD j 0) : val B xs < val B ys := by
  have hd : xs.drop (k + 1) = ys.drop (k + 1) := by
    apply List.ext_getElem?
    intro i
    rw [List.getElem?_drop, List.getElem?_drop]
    by_cases hi : k + 1 + i < xs.length
    · have := ha (k + 1 + i) (by omega) hi
      rw [List.getD_eq_getElem?_getD, List.getD_eq_getElem?_getD, List.getElem?_eq_getElem hi, List.getElem?_eq_getElem (by omega)] at this
      rw [List.getElem?_eq_getElem hi, List.getElem?_eq_getElem (by omega)]
      simpa using this
    · rw [List.getElem?_eq_none (by omega), List.getElem?_eq_none (by omega)]
  rw [val_split B xs k (by omega), val_split B ys k (by omega), val_drop B xs k hk, val_drop B ys k (by omega), hd]
  have h1 := val_lt B (xs.take k) (take_lt hx k)
  rw [List.length_take, Nat.min_eq_left (by omega)] at h1
  have h2 : B ^ k * (xs.getD k 0 + B * val B (ys.drop (k + 1))) + B ^ k ≤ B ^ k * (ys.getD k 0 + B * val B (ys.drop (k + 1))) := by
    have := Nat.mul_le_mul_left (B ^ k) (show xs.getD k 0 + B * val B (ys.drop (k + 1)) + 1 ≤ ys.getD k 0 + B * val B (ys.drop (k + 1)) by omega)
    rw [Nat.mul_add (B ^ k) _ 1, Nat.mul_one] at this
    exact this
  omega
theorem ext_getD (xs ys : List Nat) (hl : xs.length = ys.length) (h : ∀ j, j < xs.length → xs.getD j 0 = ys.getD j 0) : xs = ys := by
  apply List.ext_getElem?
  intro i
  by_cases hi : i < xs.length
  · have := h i hi
    rw [List.getD_eq_getElem?_getD, List.getD_eq_getElem?_getD, List.getElem?_eq_getElem hi, List.getElem?_eq_getElem (by omega)] at this
    rw [List.getElem?_eq_getElem hi, List.getElem?_eq_getElem (by omega)]
    simpa using this
  · rw [List.getElem?_eq_none (by omega), List.getElem?_eq_none (by omega)]
theorem getD_set (xs : List Nat) (i j y : Nat) : (xs.set i y).getD j 0 = if i = j ∧ j < xs.length then y else xs.getD j 0 := by
  rw [List.getD_eq_getElem?_getD, List.getD_eq_getElem?_getD, List.getElem?_set]
  by_cases h : i = j
  · subst h
    by_cases hl : i < xs.length
    · simp [hl]
    · simp [hl]
  · simp [h]
theorem take_set_ge (xs : List Nat) (i y k : Nat) (h : k ≤ i) : (xs.set i y).take k = xs.take k := by
  rw [List.take_set]
  exact List.set_eq_of_length_le (by simp; omega)
theorem mem_set_lt {xs : List Nat} {B i y : Nat} (h : ∀ x ∈ xs, x < B) (hy : y < B) : ∀ x ∈ xs.set i y, x < B := by
  intro x hx
  rcases List.mem_or_eq_of_mem_set hx with h1 | h1
  · exact h x h1
  · subst h1; exact hy
/-- a number of another base: two digits are one -/
theorem val_pairs (B : Nat) (xs : List Nat) : val B (xs.flatMap fun x => [x % B, x / B]) = val (B * B) xs := by
  induction xs with
  | nil => rfl
  | cons x t ih =>
    simp only [List.flatMap_cons, List.cons_append, List.nil_append, val, ih]
    rw [Nat.mul_add, ← Nat.add_assoc, Nat.mod_add_div, Nat.mul_assoc]
end Go.Proofs.Ytcbdnnboddahkaa.Ws
