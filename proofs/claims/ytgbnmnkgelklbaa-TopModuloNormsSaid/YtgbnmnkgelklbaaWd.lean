/-
  Lists of digits in a base: sums, products, quotients, shifts. Plain mathematics.
-/
namespace Go.Proofs.Ytgbnmnkgelklbaa.Ws
/-! Lists of digits in a base. Plain mathematics. -/
/-- the number whose digits in base B are xs, the lowest first -/
def val (B : Nat) : List Nat → Nat
  | [] => 0
  | x :: xs => x + B * val B xs
/-- a list without the zeros at its end -/
def trimL : List Nat → List Nat
  | [] => []
  | x :: xs => if x = 0 ∧ trimL xs = [] then [] else x :: trimL xs
/-- n digits of x in base B -/
def dgF (B : Nat) : Nat → Nat → List Nat
  | 0, _ => []
  | f + 1, n => if n = 0 then [] else n % B :: dgF B f (n / B)
/-- the digits of a number -/
def dgs (B n : Nat) : List Nat := dgF B n n
theorem dgF_more (B : Nat) (hB : 2 ≤ B) : ∀ (f g n : Nat), n ≤ f → n ≤ g → dgF B f n = dgF B g n := by
  intro f
  induction f with
  | zero => intro g n h1 h2; have : n = 0 := by omega
            subst this; cases g <;> simp [dgF]
  | succ f ih =>
    intro g n h1 h2
    cases g with
    | zero => have : n = 0 := by omega
              subst this; simp [dgF]
    | succ g =>
      by_cases h0 : n = 0
      · simp [dgF, h0]
      · have hd : n / B < n := Nat.div_lt_self (by omega) (by omega)
        simp only [dgF, h0, if_false]
        rw [ih g (n / B) (by omega) (by omega)]
theorem dgs_zero (B : Nat) : dgs B 0 = [] := rfl
theorem dgs_pos (B n : Nat) (hB : 2 ≤ B) (hn : n ≠ 0) : dgs B n = n % B :: dgs B (n / B) := by
  have hd : n / B < n := Nat.div_lt_self (by omega) (by omega)
  unfold dgs
  cases n with
  | zero => omega
  | succ m =>
    simp only [dgF, hn, if_false]
    rw [dgF_more B hB m ((m + 1) / B) _ (by omega) (Nat.le_refl _)]
theorem dgs_nil (B n : Nat) (hB : 2 ≤ B) : dgs B n = [] ↔ n = 0 := by
  constructor
  · intro h
    by_cases h0 : n = 0
    · exact h0
    · rw [dgs_pos B n hB h0] at h; cases h
  · intro h; subst h; rfl
theorem val_dgs (B : Nat) (hB : 2 ≤ B) (n : Nat) : val B (dgs B n) = n := by
  induction n using Nat.strongRecOn with
  | _ n ih =>
    by_cases h0 : n = 0
    · subst h0; rfl
    · have hd : n / B < n := Nat.div_lt_self (by omega) (by omega)
      rw [dgs_pos B n hB h0]
      simp only [val]
      rw [ih _ hd]
      exact Nat.mod_add_div n B
theorem dgs_lt (B : Nat) (hB : 2 ≤ B) (n : Nat) : ∀ x ∈ dgs B n, x < B := by
  induction n using Nat.strongRecOn with
  | _ n ih =>
    by_cases h0 : n = 0
    · subst h0; simp [dgs_zero]
    · have hd : n / B < n := Nat.div_lt_self (by omega) (by omega)
      rw [dgs_pos B n hB h0]
      intro x hx
      rcases List.mem_cons.1 hx with rfl | hx
      · exact Nat.mod_lt _ (by omega)
      · exact ih _ hd x hx
theorem dgs_val (B : Nat) (hB : 2 ≤ B) : ∀ xs : List Nat, (∀ x ∈ xs, x < B) → dgs B (val B xs) = trimL xs := by
  intro xs
  induction xs with
  | nil => intro _; rfl
  | cons x t ih =>
    intro h
    have hx : x < B := h x (by simp)
    have ht := ih fun y hy => h y (by simp [hy])
    by_cases h0 : x = 0 ∧ trimL t = []
    · have hv : val B t = 0 := (dgs_nil B _ hB).1 (by rw [ht]; exact h0.2)
      have : val B (x :: t) = 0 := by simp [val, h0.1, hv]
      rw [this]
      simp only [trimL]
      rw [if_pos h0]; rfl
    · have hne : val B (x :: t) ≠ 0 := by
        intro e
        simp only [val] at e
        have hx0 : x = 0 := by omega
        have hz : B * val B t = 0 := by omega
        rcases Nat.mul_eq_zero.1 hz with hb | hv
        · omega
        · exact h0 ⟨hx0, by rw [← ht, hv]; rfl⟩
      rw [dgs_pos B _ hB hne]
      have h1 : val B (x :: t) % B = x := by
        simp only [val]; rw [Nat.add_mul_mod_self_left]; exact Nat.mod_eq_of_lt hx
      have h2 : val B (x :: t) / B = val B t := by
        simp only [val]; rw [Nat.add_mul_div_left _ _ (by omega), Nat.div_eq_of_lt hx]; omega
      rw [h1, h2, ht]
      simp only [trimL]
      rw [if_neg h0]
theorem trimL_dgs (B : Nat) (hB : 2 ≤ B) (n : Nat) : trimL (dgs B n) = dgs B n := by
  have := dgs_val B hB (dgs B n) (dgs_lt B hB n)
  rw [val_dgs B hB] at this
  exact this.symm
theorem val_trimL (B : Nat) (hB : 2 ≤ B) (xs : List Nat) (h : ∀ x ∈ xs, x < B) : val B (trimL xs) = val B xs := by
  rw [← dgs_val B hB xs h, val_dgs B hB]
theorem val_append (B : Nat) (xs ys : List Nat) : val B (xs ++ ys) = val B xs + B ^ xs.length * val B ys := by
  induction xs with
  | nil => simp [val]
  | cons x t ih =>
    simp only [List.cons_append, val, List.length_cons, Nat.pow_succ]
    rw [ih, Nat.mul_add, Nat.add_assoc, Nat.mul_comm (B ^ t.length) B, Nat.mul_assoc]
theorem val_lt (B : Nat) (xs : List Nat) (h : ∀ x ∈ xs, x < B) : val B xs < B ^ xs.length := by
  induction xs with
  | nil => simp [val]
  | cons x t ih =>
    have hx : x < B := h x (by simp)
    have ht := ih fun y hy => h y (by simp [hy])
    simp only [val, List.length_cons, Nat.pow_succ]
    have h2 : B * val B t + B ≤ B ^ t.length * B := by
      have h3 := Nat.mul_le_mul_left B (show val B t + 1 ≤ B ^ t.length by omega)
      rw [Nat.mul_add, Nat.mul_one, Nat.mul_comm B (B ^ t.length)] at h3
      exact h3
    omega
theorem val_snoc (B : Nat) (xs : List Nat) (y : Nat) : val B (xs ++ [y]) = val B xs + B ^ xs.length * y := by
  rw [val_append]; simp [val]
theorem val_replicate (B n : Nat) : val B (List.replicate n 0) = 0 := by
  induction n with
  | zero => rfl
  | succ n ih => simp [List.replicate_succ, val, ih]
theorem trimL_snoc (xs : List Nat) (y : Nat) (hy : y ≠ 0) : trimL (xs ++ [y]) = xs ++ [y] := by
  induction xs with
  | nil => simp [trimL, hy]
  | cons x t ih =>
    simp only [List.cons_append, trimL]
    rw [ih, if_neg (by simp)]
theorem trimL_snoc_zero (xs : List Nat) : trimL (xs ++ [0]) = trimL xs := by
  induction xs with
  | nil => simp [trimL]
  | cons x t ih => simp only [List.cons_append, trimL]; rw [ih]
theorem trimL_length (xs : List Nat) : (trimL xs).length ≤ xs.length := by
  induction xs with
  | nil => simp [trimL]
  | cons x t ih => simp only [trimL]; split <;> simp <;> omega
/-- what a loop that goes down from the end finds -/
theorem trimL_down (xs : List Nat) : ∀ (d k : Nat), k + d = xs.length → (∀ j, k ≤ j → j < xs.length → xs.getD j 0 = 0) → trimL xs = trimL (xs.take k) := by
  intro d
  induction d with
  | zero => intro k hk _; rw [List.take_of_length_le (by omega)]
  | succ d ih =>
    intro k hk h
    rw [ih (k + 1) (by omega) (fun j h1 h2 => h j (by omega) h2)]
    have hk' : k < xs.length := by omega
    have h0 := h k (Nat.le_refl _) hk'
    rw [List.getD_eq_getElem?_getD, List.getElem?_eq_getElem hk'] at h0
    simp at h0
    rw [List.take_succ_eq_append_getElem hk', h0, trimL_snoc_zero]
theorem trimL_found (xs : List Nat) (k : Nat) (hk : k ≤ xs.length) (h : ∀ j, k ≤ j → j < xs.length → xs.getD j 0 = 0) (h0 : k = 0 ∨ xs.getD (k - 1) 0 ≠ 0) : trimL xs = xs.take k := by
  rw [trimL_down xs (xs.length - k) k (by omega) h]
  rcases h0 with rfl | h0
  · simp [trimL]
  · match k, hk, h0 with
    | 0, _, _ => simp [trimL]
    | k + 1, hk, h0 =>
      have hk' : k < xs.length := by omega
      rw [List.take_succ_eq_append_getElem hk']
      apply trimL_snoc
      rw [List.getD_eq_getElem?_getD] at h0
      simp only [Nat.add_sub_cancel] at h0
      rw [List.getElem?_eq_getElem hk'] at h0
      simpa using h0
theorem trimL_take (xs : List Nat) : trimL xs = xs.take (trimL xs).length := by
  induction xs with
  | nil => rfl
  | cons x t ih =>
    simp only [trimL]
    split
    · rfl
    · simp only [List.length_cons, List.take_succ_cons]
      rw [← ih]
theorem take_lt {xs : List Nat} {B : Nat} (h : ∀ x ∈ xs, x < B) (k : Nat) : ∀ x ∈ xs.take k, x < B := fun x hx => h x (List.mem_of_mem_take hx)
theorem drop_lt {xs : List Nat} {B : Nat} (h : ∀ x ∈ xs, x < B) (k : Nat) : ∀ x ∈ xs.drop k, x < B := fun x hx => h x (List.mem_of_mem_drop hx)
theorem getD_lt {xs : List Nat} {B : Nat} (h : ∀ x ∈ xs, x < B) (hB : 0 < B) (k : Nat) : xs.getD k 0 < B := by
  by_cases hk : k < xs.length
  · rw [List.getD_eq_getElem?_getD, List.getElem?_eq_getElem hk]; exact h _ (List.getElem_mem hk)
  · rw [List.getD_eq_getElem?_getD, List.getElem?_eq_none (by omega)]; exact hB
theorem val_take_succ (B : Nat) (xs : List Nat) (k : Nat) : val B (xs.take (k + 1)) = val B (xs.take k) + B ^ k * xs.getD k 0 := by
  by_cases hk : k < xs.length
  · rw [List.take_succ_eq_append_getElem hk, val_snoc, List.getD_eq_getElem?_getD, List.getElem?_eq_getElem hk, List.length_take, Nat.min_eq_left (by omega)]; rfl
  · rw [List.take_of_length_le (by omega), List.take_of_length_le (by omega), List.getD_eq_getElem?_getD, List.getElem?_eq_none (by omega)]; simp
theorem val_drop (B : Nat) (xs : List Nat) (k : Nat) (hk : k < xs.length) : val B (xs.drop k) = xs.getD k 0 + B * val B (xs.drop (k + 1)) := by
  rw [List.drop_eq_getElem_cons hk]; simp only [val]
  rw [List.getD_eq_getElem?_getD, List.getElem?_eq_getElem hk]; rfl
theorem val_split (B : Nat) (xs : List Nat) (k : Nat) (hk : k ≤ xs.length) : val B xs = val B (xs.take k) + B ^ k * val B (xs.drop k) := by
  have h := val_append B (xs.take k) (xs.drop k)
  rw [List.take_append_drop, List.length_take, Nat.min_eq_left hk] at h
  exact h
/-- the number of digits -/
theorem dgs_length_lt (B : Nat) (hB : 2 ≤ B) (n : Nat) : n < B ^ (dgs B n).length := by
  have := val_lt B (dgs B n) (dgs_lt B hB n)
  rw [val_dgs B hB] at this; exact this
theorem dgs_length_le (B : Nat) (hB : 2 ≤ B) : ∀ (k n : Nat), n < B ^ k → (dgs B n).length ≤ k := by
  intro k
  induction k with
  | zero => intro n h; have : n = 0 := by simpa using h
            subst this; simp [dgs_zero]
  | succ k ih =>
    intro n h
    by_cases h0 : n = 0
    · subst h0; simp [dgs_zero]
    · rw [dgs_pos B n hB h0]
      have := ih (n / B) (by rw [Nat.div_lt_iff_lt_mul (by omega)]; rw [Nat.pow_succ] at h; exact h)
      simp; omega
theorem dgs_len_mono (B : Nat) (hB : 2 ≤ B) (a b : Nat) (h : a ≤ b) : (dgs B a).length ≤ (dgs B b).length :=
  dgs_length_le B hB _ _ (Nat.lt_of_le_of_lt h (dgs_length_lt B hB b))
theorem lt_of_dgs_len (B : Nat) (hB : 2 ≤ B) (a b : Nat) (h : (dgs B a).length < (dgs B b).length) : a < b := by
  rcases Nat.lt_or_ge a b with h1 | h1
  · exact h1
  · have := dgs_len_mono B hB b a h1; omega
theorem dgs_val_length_le (B : Nat) (hB : 2 ≤ B) (xs : List Nat) (h : ∀ x ∈ xs, x < B) : (dgs B (val B xs)).length ≤ xs.length := by
  rw [dgs_val B hB xs h]; exact trimL_length xs
/-- the highest place where two lists of one length differ decides -/
theorem val_lt_of (B : Nat) (xs ys : List Nat) (k : Nat) (hk : k < xs.length) (hl : xs.length = ys.length) (hx : ∀ x ∈ xs, x < B) (h : xs.getD k 0 < ys.getD k 0)
    (ha : ∀ j, k < j → j < xs.length → xs.getD j 0 = ys.getD j 0) : val B xs < val B ys := by
  have hd : xs.drop (k + 1) = ys.drop (k + 1) := by
    apply List.ext_getElem?
    intro i
    rw [List.getElem?_drop, List.getElem?_drop]
    by_cases hi : k + 1 + i < xs.length
    · have := ha (k + 1 + i) (by omega) hi
      rw [List.getD_eq_getElem?_getD, List.getD_eq_getElem?_getD, List.getElem?_eq_getElem hi, List.getElem?_eq_getElem (by omega)] at this
      rw [List.getElem?_eq_getElem hi, List.getElem?_eq_getElem (by omega)]
      simpa using this
    · rw [List.getElem?_eq_none (by omega), List.getElem?_eq_none (by omega)]
  rw [val_split B xs k (by omega), val_split B ys k (by omega), val_drop B xs k hk, val_drop B ys k (by omega), hd]
  have h1 := val_lt B (xs.take k) (take_lt hx k)
  rw [List.length_take, Nat.min_eq_left (by omega)] at h1
  have h2 : B ^ k * (xs.getD k 0 + B * val B (ys.drop (k + 1))) + B ^ k ≤ B ^ k * (ys.getD k 0 + B * val B (ys.drop (k + 1))) := by
    have := Nat.mul_le_mul_left (B ^ k) (show xs.getD k 0 + B * val B (ys.drop (k + 1)) + 1 ≤ ys.getD k 0 + B * val B (ys.drop (k + 1)) by omega)
    rw [Nat.mul_add (B ^ k) _ 1, Nat.mul_one] at this
    exact this
  omega
theorem ext_getD (xs ys : List Nat) (hl : xs.length = ys.length) (h : ∀ j, j < xs.length → xs.getD j 0 = ys.getD j 0) : xs = ys := by
  apply List.ext_getElem?
  intro i
  by_cases hi : i < xs.length
  · have := h i hi
    rw [List.getD_eq_getElem?_getD, List.getD_eq_getElem?_getD, List.getElem?_eq_getElem hi, List.getElem?_eq_getElem (by omega)] at this
    rw [List.getElem?_eq_getElem hi, List.getElem?_eq_getElem (by omega)]
    simpa using this
  · rw [List.getElem?_eq_none (by omega), List.getElem?_eq_none (by omega)]
theorem getD_set (xs : List Nat) (i j y : Nat) : (xs.set i y).getD j 0 = if i = j ∧ j < xs.length then y else xs.getD j 0 := by
  rw [List.getD_eq_getElem?_getD, List.getD_eq_getElem?_getD, List.getElem?_set]
  by_cases h : i = j
  · subst h
    by_cases hl : i < xs.length
    · simp [hl]
    · simp [hl]
  · simp [h]
theorem take_set_ge (xs : List Nat) (i y k : Nat) (h : k ≤ i) : (xs.set i y).take k = xs.take k := by
  rw [List.take_set]
  exact List.set_eq_of_length_le (by simp; omega)
theorem mem_set_lt {xs : List Nat} {B i y : Nat} (h : ∀ x ∈ xs, x < B) (hy : y < B) : ∀ x ∈ xs.set i y, x < B := by
  intro x hx
  rcases List.mem_or_eq_of_mem_set hx with h1 | h1
  · exact h x h1
  · subst h1; exact hy
/-- a number of another base: two digits are one -/
theorem val_pairs (B : Nat) (xs : List Nat) : val B (xs.flatMap fun x => [x % B, x / B]) = val (B * B) xs := by
  induction xs with
  | nil => rfl
  | cons x t ih =>
    simp only [List.flatMap_cons, List.cons_append, List.nil_append, val, ih]
    rw [Nat.mul_add, ← Nat.add_assoc, Nat.mod_add_div, Nat.mul_assoc]
/-! The steps of the loops over digits. Plain mathematics. -/
set_option linter.unusedVariables false
theorem val_set_take (B : Nat) (zs : List Nat) (i y : Nat) (hi : i < zs.length) : val B ((zs.set i y).take (i + 1)) = val B (zs.take i) + B ^ i * y := by
  rw [val_take_succ, take_set_ge _ _ _ _ (Nat.le_refl _), getD_set, if_pos ⟨rfl, hi⟩]
theorem val_set (B : Nat) : ∀ (zs : List Nat) (i y : Nat), i < zs.length → val B (zs.set i y) + B ^ i * zs.getD i 0 = val B zs + B ^ i * y := by
  intro zs
  induction zs with
  | nil => intro i y h; simp at h
  | cons z t ih =>
    intro i y h
    cases i with
    | zero => simp [val]; omega
    | succ i =>
      simp only [List.set_cons_succ, val, Nat.pow_succ, List.getD_cons_succ]
      have h1 := ih i y (by simp at h; omega)
      have h2 : B * (val B (t.set i y) + B ^ i * t.getD i 0) = B * (val B t + B ^ i * y) := by rw [h1]
      rw [Nat.mul_add, Nat.mul_add, ← Nat.mul_assoc, ← Nat.mul_assoc] at h2
      rw [Nat.mul_comm (B ^ i) B]
      omega
/-- adding: the carry behind i digits -/
def AddInv (B : Nat) (xs ys zs : List Nat) (i c : Nat) : Prop :=
  (∀ z ∈ zs, z < B) ∧ c ≤ 1 ∧ val B (zs.take i) + B ^ i * c = val B (xs.take i) + val B (ys.take i)
theorem AddInv.start (B : Nat) (hB : 2 ≤ B) (xs ys : List Nat) (n : Nat) : AddInv B xs ys (List.replicate n 0) 0 0 :=
  ⟨fun z hz => by have := List.eq_of_mem_replicate hz; omega, by omega, by simp [val]⟩
theorem AddInv.step {B : Nat} (hB : 2 ≤ B) {xs ys zs : List Nat} {i c : Nat} (h : AddInv B xs ys zs i c) (hi : i < zs.length) (hx : ∀ x ∈ xs, x < B) (hy : ∀ x ∈ ys, x < B) (t : Nat) (ht : t = xs.getD i 0 + c + ys.getD i 0) :
    AddInv B xs ys (zs.set i (t % B)) (i + 1) (t / B) := by
  obtain ⟨h1, h2, h3⟩ := h
  have q1 := getD_lt hx (by omega) i
  have q2 := getD_lt hy (by omega) i
  refine ⟨mem_set_lt h1 (Nat.mod_lt _ (by omega)), ?_, ?_⟩
  · have : t / B < 2 := by rw [Nat.div_lt_iff_lt_mul (by omega)]; omega
    omega
  · rw [val_set_take B zs i _ hi, val_take_succ, val_take_succ, Nat.pow_succ]
    have e : B ^ i * (t % B) + B ^ i * B * (t / B) = B ^ i * t := by
      rw [Nat.mul_assoc, ← Nat.mul_add, Nat.mod_add_div]
    have e2 : B ^ i * t = B ^ i * xs.getD i 0 + B ^ i * c + B ^ i * ys.getD i 0 := by rw [ht, Nat.mul_add, Nat.mul_add]
    omega
theorem AddInv.done {B : Nat} (hB : 2 ≤ B) {xs ys zs : List Nat} {n c : Nat} (h : AddInv B xs ys zs n c) (hn : zs.length = n + 1) (hx : xs.length ≤ n) (hy : ys.length ≤ n) :
    (∀ z ∈ zs.set n c, z < B) ∧ val B (zs.set n c) = val B xs + val B ys := by
  obtain ⟨h1, h2, h3⟩ := h
  refine ⟨mem_set_lt h1 (by omega), ?_⟩
  have := val_set_take B zs n c (by omega)
  rw [List.take_of_length_le (by simp; omega)] at this
  rw [this, h3, List.take_of_length_le hx, List.take_of_length_le hy]
/-- subtracting: the borrow behind i digits -/
def SubInv (B : Nat) (xs ys zs : List Nat) (i c : Nat) : Prop :=
  (∀ z ∈ zs, z < B) ∧ c ≤ 1 ∧ val B (zs.take i) + val B (ys.take i) = val B (xs.take i) + B ^ i * c
theorem SubInv.start (B : Nat) (hB : 2 ≤ B) (xs ys : List Nat) (n : Nat) : SubInv B xs ys (List.replicate n 0) 0 0 :=
  ⟨fun z hz => by have := List.eq_of_mem_replicate hz; omega, by omega, by simp [val]⟩
theorem SubInv.step {B : Nat} (hB : 2 ≤ B) {xs ys zs : List Nat} {i c : Nat} (h : SubInv B xs ys zs i c) (hi : i < zs.length) (d b : Nat) (hb : b ≤ 1) (hd : d < B) (ht : d + c + ys.getD i 0 = xs.getD i 0 + B * b) :
    SubInv B xs ys (zs.set i d) (i + 1) b := by
  obtain ⟨h1, h2, h3⟩ := h
  refine ⟨mem_set_lt h1 hd, hb, ?_⟩
  rw [val_set_take B zs i _ hi, val_take_succ, val_take_succ, Nat.pow_succ, Nat.mul_assoc]
  have e : B ^ i * (d + c + ys.getD i 0) = B ^ i * (xs.getD i 0 + B * b) := by rw [ht]
  rw [Nat.mul_add, Nat.mul_add, Nat.mul_add] at e
  omega
theorem SubInv.done {B : Nat} (hB : 2 ≤ B) {xs ys zs : List Nat} {n c : Nat} (h : SubInv B xs ys zs n c) (hn : zs.length = n) (hx : xs.length ≤ n) (hy : ys.length ≤ n) (hle : val B ys ≤ val B xs) :
    val B zs = val B xs - val B ys := by
  obtain ⟨h1, h2, h3⟩ := h
  rw [List.take_of_length_le (by omega), List.take_of_length_le hx, List.take_of_length_le hy] at h3
  have := val_lt B zs h1
  rw [hn] at this
  have hc : c = 0 := by
    rcases Nat.lt_or_ge c 1 with h | h
    · omega
    · have : c = 1 := by omega
      subst this
      omega
  subst hc
  omega
/-- one digit of a product -/
theorem mul_step {B : Nat} (hB : 2 ≤ B) {zs : List Nat} {i : Nat} (hi : i < zs.length) (V t : Nat) (x y c : Nat) (ht : t = x * y + zs.getD i 0 + c) (h : val B zs + B ^ i * c = V) :
    val B (zs.set i (t % B)) + B ^ (i + 1) * (t / B) = V + B ^ i * (x * y) := by
  have h1 := val_set B zs i (t % B) hi
  have e : B ^ i * (t % B) + B ^ (i + 1) * (t / B) = B ^ i * t := by
    rw [Nat.pow_succ, Nat.mul_assoc, ← Nat.mul_add, Nat.mod_add_div]
  have e2 : B ^ i * t = B ^ i * (x * y) + B ^ i * zs.getD i 0 + B ^ i * c := by rw [ht, Nat.mul_add, Nat.mul_add]
  omega
theorem carry_lt {B x y z c : Nat} (hx : x < B) (hy : y < B) (hz : z < B) (hc : c < B) : (x * y + z + c) / B < B := by
  have hB : 0 < B := by omega
  rw [Nat.div_lt_iff_lt_mul hB]
  have h1 : x * y ≤ (B - 1) * (B - 1) := Nat.mul_le_mul (by omega) (by omega)
  obtain ⟨d, rfl⟩ : ∃ d, B = d + 1 := ⟨B - 1, by omega⟩
  simp only [Nat.add_sub_cancel] at h1
  have h2 : (d + 1) * (d + 1) = d * d + d + d + 1 := by rw [Nat.add_mul, Nat.mul_add]; omega
  omega
theorem val_zero_from (B : Nat) (zs : List Nat) (k : Nat) (hk : k ≤ zs.length) (h : ∀ j, k ≤ j → j < zs.length → zs.getD j 0 = 0) : val B zs = val B (zs.take k) := by
  rw [val_split B zs k hk]
  have : zs.drop k = List.replicate (zs.length - k) 0 := by
    apply ext_getD
    · simp
    · intro j hj
      simp at hj
      have := h (k + j) (by omega) (by omega)
      rw [List.getD_eq_getElem?_getD] at this ⊢
      rw [List.getElem?_drop, this]
      simp [List.getD_eq_getElem?_getD, hj]
  rw [this, val_replicate]; simp
/-- dividing by one digit, from the highest on -/
theorem div_step {B d r x : Nat} (hB : 2 ≤ B) (hd : r < d) (hx : x < B) (hdB : d ≤ B) : (r * B + x) / d < B ∧ (r * B + x) % d < d := by
  constructor
  · rw [Nat.div_lt_iff_lt_mul (by omega)]
    have : (r + 1) * B ≤ d * B := Nat.mul_le_mul_right _ (by omega)
    rw [Nat.add_mul, Nat.one_mul] at this
    rw [Nat.mul_comm B d]; omega
  · exact Nat.mod_lt _ (by omega)
theorem getD_drop (xs : List Nat) (k j : Nat) : (xs.drop k).getD j 0 = xs.getD (k + j) 0 := by
  rw [List.getD_eq_getElem?_getD, List.getD_eq_getElem?_getD, List.getElem?_drop]
theorem drop_set_lt (zs : List Nat) (i y k : Nat) (h : i < k) : (zs.set i y).drop k = zs.drop k := by
  apply ext_getD
  · simp
  · intro j hj
    rw [getD_drop, getD_drop, getD_set, if_neg (by omega)]
/-- the loop that goes down: what stands above place i -/
theorem div_down {B d r x i : Nat} {xs qs : List Nat} (hx : xs.getD i 0 = x) (hi : i < xs.length) (hq : i < qs.length)
    (h : val B (xs.drop (i + 1)) = d * val B (qs.drop (i + 1)) + r) :
    val B (xs.drop i) = d * val B ((qs.set i ((r * B + x) / d)).drop i) + (r * B + x) % d := by
  rw [val_drop B xs i hi, val_drop B _ i (by simpa using hq), drop_set_lt _ _ _ _ (by omega), getD_set, if_pos ⟨rfl, hq⟩, hx, h]
  have := Nat.mod_add_div (r * B + x) d
  rw [Nat.mul_add, Nat.mul_add]
  have e : B * (d * val B (qs.drop (i + 1))) = d * (B * val B (qs.drop (i + 1))) := by rw [← Nat.mul_assoc, ← Nat.mul_assoc, Nat.mul_comm B d]
  rw [e, Nat.mul_comm B r]
  omega
/-- multiplying: what holds ahead of row i -/
def MulOut (B : Nat) (xs ys zs : List Nat) (i : Nat) : Prop :=
  (∀ z ∈ zs, z < B) ∧ zs.length = xs.length + ys.length ∧ val B zs = val B (xs.take i) * val B ys ∧ ∀ j, i + ys.length ≤ j → zs.getD j 0 = 0
/-- multiplying: what holds in row i ahead of place j -/
def MulIn (B : Nat) (xs ys zs : List Nat) (i j c x : Nat) : Prop :=
  (∀ z ∈ zs, z < B) ∧ zs.length = xs.length + ys.length ∧ c < B ∧ val B zs + B ^ (i + j) * c = val B (xs.take i) * val B ys + B ^ i * (x * val B (ys.take j)) ∧ ∀ k, i + ys.length ≤ k → zs.getD k 0 = 0
theorem getD_replicate (n j : Nat) : (List.replicate n 0).getD j 0 = 0 := by
  rw [List.getD_eq_getElem?_getD, List.getElem?_replicate]; split <;> rfl
theorem MulOut.start {B : Nat} (hB : 2 ≤ B) (xs ys : List Nat) : MulOut B xs ys (List.replicate (xs.length + ys.length) 0) 0 :=
  ⟨fun z hz => by have := List.eq_of_mem_replicate hz; omega, by simp, by rw [val_replicate]; simp [val], fun j _ => getD_replicate _ _⟩
theorem MulOut.begin {B : Nat} (hB : 2 ≤ B) {xs ys zs : List Nat} {i : Nat} (h : MulOut B xs ys zs i) (x : Nat) : MulIn B xs ys zs i 0 0 x :=
  ⟨h.1, h.2.1, by omega, by simp [val, h.2.2.1], h.2.2.2⟩
theorem MulIn.step {B : Nat} (hB : 2 ≤ B) {xs ys zs : List Nat} {i j c x : Nat} (h : MulIn B xs ys zs i j c x) (hi : i < xs.length) (hj : j < ys.length) (hx : x < B) (hy : ys.getD j 0 < B) (t : Nat) (ht : t = x * ys.getD j 0 + zs.getD (i + j) 0 + c) :
    MulIn B xs ys (zs.set (i + j) (t % B)) i (j + 1) (t / B) x := by
  obtain ⟨h1, h2, h3, h4, h5⟩ := h
  refine ⟨mem_set_lt h1 (Nat.mod_lt _ (by omega)), by simpa using h2, ?_, ?_, ?_⟩
  · rw [ht]; exact carry_lt hx hy (getD_lt h1 (by omega) _) h3
  · have := mul_step hB (zs := zs) (i := i + j) (by omega) _ t x (ys.getD j 0) c ht h4
    rw [← Nat.add_assoc, this, val_take_succ, Nat.mul_add x, Nat.mul_add (B ^ i), Nat.pow_add, Nat.add_assoc]
    congr 2
    rw [Nat.mul_assoc, Nat.mul_left_comm x]
  · intro k hk
    rw [getD_set, if_neg (by omega)]; exact h5 k hk
theorem MulIn.done {B : Nat} (hB : 2 ≤ B) {xs ys zs : List Nat} {i c : Nat} (h : MulIn B xs ys zs i ys.length c (xs.getD i 0)) (hi : i < xs.length) : MulOut B xs ys (zs.set (i + ys.length) c) (i + 1) := by
  obtain ⟨h1, h2, h3, h4, h5⟩ := h
  refine ⟨mem_set_lt h1 h3, by simpa using h2, ?_, ?_⟩
  · have e := val_set B zs (i + ys.length) c (by omega)
    rw [h5 _ (Nat.le_refl _), Nat.mul_zero, Nat.add_zero] at e
    rw [e, h4, List.take_of_length_le (Nat.le_refl _), val_take_succ, Nat.add_mul, Nat.mul_assoc]
  · intro k hk
    rw [getD_set, if_neg (by omega)]; exact h5 k (by omega)
theorem MulOut.done {B : Nat} {xs ys zs : List Nat} (h : MulOut B xs ys zs xs.length) : val B zs = val B xs * val B ys := by
  have := h.2.2.1
  rw [List.take_of_length_le (Nat.le_refl _)] at this
  exact this
/-! The steps of the reference's loops over digits. Plain mathematics. -/
set_option linter.unusedVariables false
/-- adding digit by digit, the digits appended -/
def PInv (B : Nat) (xs ys zs : List Nat) (c : Nat) : Prop :=
  (∀ z ∈ zs, z < B) ∧ c ≤ 1 ∧ val B zs + B ^ zs.length * c = val B (xs.take zs.length) + val B (ys.take zs.length)
theorem mem_snoc_lt {zs : List Nat} {B y : Nat} (h : ∀ z ∈ zs, z < B) (hy : y < B) : ∀ z ∈ zs ++ [y], z < B := by
  intro z hz
  rcases List.mem_append.1 hz with h1 | h1
  · exact h z h1
  · simp at h1; subst h1; exact hy
theorem PInv.start (B : Nat) (xs ys : List Nat) : PInv B xs ys [] 0 := ⟨by simp, by omega, by simp [val]⟩
theorem PInv.step {B : Nat} (hB : 2 ≤ B) {xs ys zs : List Nat} {c : Nat} (h : PInv B xs ys zs c) (hx : ∀ x ∈ xs, x < B) (hy : ∀ x ∈ ys, x < B) (t : Nat) (ht : t = c + xs.getD zs.length 0 + ys.getD zs.length 0) :
    PInv B xs ys (zs ++ [t % B]) (t / B) := by
  obtain ⟨h1, h2, h3⟩ := h
  have q1 := getD_lt hx (by omega) zs.length
  have q2 := getD_lt hy (by omega) zs.length
  refine ⟨mem_snoc_lt h1 (Nat.mod_lt _ (by omega)), ?_, ?_⟩
  · have : t / B < 2 := by rw [Nat.div_lt_iff_lt_mul (by omega)]; omega
    omega
  · rw [List.length_append, List.length_singleton, val_snoc, val_take_succ, val_take_succ, Nat.pow_succ]
    have e : B ^ zs.length * (t % B) + B ^ zs.length * B * (t / B) = B ^ zs.length * t := by
      rw [Nat.mul_assoc, ← Nat.mul_add, Nat.mod_add_div]
    have e2 : B ^ zs.length * t = B ^ zs.length * c + B ^ zs.length * xs.getD zs.length 0 + B ^ zs.length * ys.getD zs.length 0 := by rw [ht, Nat.mul_add, Nat.mul_add]
    omega
theorem PInv.done {B : Nat} {xs ys zs : List Nat} (h : PInv B xs ys zs 0) (hx : xs.length ≤ zs.length) (hy : ys.length ≤ zs.length) : val B zs = val B xs + val B ys := by
  obtain ⟨h1, h2, h3⟩ := h
  rw [List.take_of_length_le hx, List.take_of_length_le hy] at h3
  omega
/-- subtracting digit by digit, the digits appended -/
def MInv (B : Nat) (xs ys zs : List Nat) (c : Nat) : Prop :=
  (∀ z ∈ zs, z < B) ∧ c ≤ 1 ∧ val B zs + val B (ys.take zs.length) = val B (xs.take zs.length) + B ^ zs.length * c
theorem MInv.start (B : Nat) (xs ys : List Nat) : MInv B xs ys [] 0 := ⟨by simp, by omega, by simp [val]⟩
theorem MInv.step {B : Nat} {xs ys zs : List Nat} {c : Nat} (h : MInv B xs ys zs c) (d b : Nat) (hb : b ≤ 1) (hd : d < B) (ht : d + c + ys.getD zs.length 0 = xs.getD zs.length 0 + B * b) :
    MInv B xs ys (zs ++ [d]) b := by
  obtain ⟨h1, h2, h3⟩ := h
  refine ⟨mem_snoc_lt h1 hd, hb, ?_⟩
  rw [List.length_append, List.length_singleton, val_snoc, val_take_succ, val_take_succ, Nat.pow_succ, Nat.mul_assoc]
  have e : B ^ zs.length * (d + c + ys.getD zs.length 0) = B ^ zs.length * (xs.getD zs.length 0 + B * b) := by rw [ht]
  rw [Nat.mul_add, Nat.mul_add, Nat.mul_add] at e
  omega
theorem MInv.done {B : Nat} {xs ys zs : List Nat} {c : Nat} (h : MInv B xs ys zs c) (hl : zs.length = xs.length) (hy : ys.length ≤ xs.length) (hle : val B ys ≤ val B xs) : val B zs = val B xs - val B ys := by
  obtain ⟨h1, h2, h3⟩ := h
  rw [hl, List.take_of_length_le (Nat.le_refl _), List.take_of_length_le hy] at h3
  have := val_lt B zs h1
  rw [hl] at this
  have hc : c = 0 := by
    rcases Nat.lt_or_ge c 1 with h | h
    · omega
    · have : c = 1 := by omega
      subst this
      omega
  subst hc
  omega
/-- two digits are one of the square of the base -/
def up (B : Nat) : List Nat → List Nat
  | [] => []
  | [a] => [a]
  | a :: b :: t => (a + b * B) :: up B t
theorem up_dgs (B : Nat) (hB : 2 ≤ B) (n : Nat) : up B (dgs B n) = dgs (B * B) n := by
  have hBB : 2 ≤ B * B := Nat.le_trans hB (Nat.le_mul_of_pos_left B (by omega))
  induction n using Nat.strongRecOn with
  | _ n ih =>
    by_cases h0 : n = 0
    · subst h0; rfl
    · rw [dgs_pos B n hB h0, dgs_pos (B * B) n hBB h0, ← Nat.div_div_eq_div_mul, Nat.mod_mul]
      have hd : n / B < n := Nat.div_lt_self (by omega) (by omega)
      by_cases h1 : n / B = 0
      · rw [h1, dgs_zero, Nat.zero_div, dgs_zero]; simp [up]
      · have hd2 : n / B / B < n / B := Nat.div_lt_self (Nat.pos_of_ne_zero h1) (by omega)
        rw [dgs_pos B _ hB h1]
        simp only [up]
        rw [ih _ (Nat.lt_trans hd2 hd), Nat.mul_comm]
theorem up_take_even (B : Nat) : ∀ (xs : List Nat) (k : Nat), 2 * k + 1 < xs.length → up B (xs.take (2 * k + 2)) = up B (xs.take (2 * k)) ++ [xs.getD (2 * k) 0 + xs.getD (2 * k + 1) 0 * B]
  | [], k, h => by simp at h
  | [a], k, h => by simp at h
  | a :: b :: t, 0, h => by simp [up]
  | a :: b :: t, k + 1, h => by
    have e1 : 2 * (k + 1) + 2 = (2 * k + 2) + 2 := by omega
    have e2 : 2 * (k + 1) = 2 * k + 2 := by omega
    have ih := up_take_even B t k (by simp at h; omega)
    rw [e1, e2]
    simp only [List.take_succ_cons, up, List.getD_cons_succ, List.cons_append]
    rw [ih]
theorem up_take_odd (B : Nat) : ∀ (xs : List Nat) (k : Nat), 2 * k + 1 = xs.length → up B xs = up B (xs.take (2 * k)) ++ [xs.getD (2 * k) 0]
  | [], k, h => by simp at h
  | [a], k, h => by
    have : k = 0 := by simp at h; omega
    subst this; simp [up]
  | a :: b :: t, 0, h => by simp at h
  | a :: b :: t, k + 1, h => by
    have e2 : 2 * (k + 1) = 2 * k + 2 := by omega
    have ih := up_take_odd B t k (by simp at h; omega)
    rw [e2]
    simp only [List.take_succ_cons, up, List.getD_cons_succ, List.cons_append]
    rw [ih]
theorem up_length (B : Nat) : ∀ (xs : List Nat), (up B xs).length ≤ xs.length
  | [] => by simp [up]
  | [a] => by simp [up]
  | a :: b :: t => by have := up_length B t; simp only [up, List.length_cons]; omega
theorem pairs_lt {B : Nat} (hB : 2 ≤ B) {xs : List Nat} (h : ∀ x ∈ xs, x < B * B) : ∀ y ∈ xs.flatMap (fun x => [x % B, x / B]), y < B := by
  intro y hy
  obtain ⟨x, hx, hy⟩ := List.mem_flatMap.1 hy
  simp at hy
  rcases hy with rfl | rfl
  · exact Nat.mod_lt _ (by omega)
  · rw [Nat.div_lt_iff_lt_mul (by omega)]; exact h x hx
theorem pairs_take_succ (B : Nat) (xs : List Nat) (k : Nat) (hk : k < xs.length) : (xs.take (k + 1)).flatMap (fun x => [x % B, x / B]) = (xs.take k).flatMap (fun x => [x % B, x / B]) ++ [xs.getD k 0 % B, xs.getD k 0 / B] := by
  rw [List.take_succ_eq_append_getElem hk, List.flatMap_append, List.getD_eq_getElem?_getD, List.getElem?_eq_getElem hk]; simp
theorem pairs_length (B : Nat) (xs : List Nat) : (xs.flatMap (fun x => [x % B, x / B])).length = 2 * xs.length := by
  induction xs with
  | nil => rfl
  | cons x t ih => simp [List.flatMap_cons, ih]; omega
/-- the digits of a number that is divided on and on -/
theorem dgs_split {B : Nat} (hB : 2 ≤ B) {zs : List Nat} {m n : Nat} (h : zs ++ dgs B m = dgs B n) (hm : m ≠ 0) : (zs ++ [m % B]) ++ dgs B (m / B) = dgs B n := by
  rw [← h, dgs_pos B m hB hm]; simp
/-! Shifts of lists of digits, products and quotients as the reference makes them. Plain mathematics. -/
set_option linter.unusedVariables false
/-- shifting to the left: behind i words -/
def ShlInv (B P : Nat) (xs zs : List Nat) (i : Nat) : Prop :=
  (∀ z ∈ zs, z < B) ∧ zs.length = xs.length + 1 ∧ zs.getD i 0 < P ∧ (∀ j, i < j → zs.getD j 0 = 0) ∧ val B zs = val B (xs.take i) * P
theorem ShlInv.start {B P : Nat} (hB : 2 ≤ B) (hP : 1 ≤ P) (xs : List Nat) : ShlInv B P xs (List.replicate (xs.length + 1) 0) 0 :=
  ⟨fun z hz => by have := List.eq_of_mem_replicate hz; omega, by simp, by rw [getD_replicate]; omega, fun j _ => getD_replicate _ _, by rw [val_replicate]; simp [val]⟩
theorem shl_low {B P Q x : Nat} (hPQ : P * Q = B) : x * P % B = P * (x % Q) := by
  rw [← hPQ, Nat.mul_comm x P, Nat.mul_mod_mul_left]
theorem ShlInv.step {B P Q : Nat} (hB : 2 ≤ B) (hPQ : P * Q = B) (hP : 1 ≤ P) {xs zs : List Nat} {i x z : Nat} (h : ShlInv B P xs zs i) (hi : i < xs.length) (hx : xs.getD i 0 = x) (hxb : x < B) (hz : zs.getD i 0 = z) :
    ShlInv B P xs ((zs.set i (z + x * P % B)).set (i + 1) (x * P / B)) (i + 1) := by
  obtain ⟨h1, h2, h3, h4, h5⟩ := h
  have hQ : 1 ≤ Q := by
    rcases Nat.eq_zero_or_pos Q with h | h
    · subst h; omega
    · exact h
  have e1 : x * P / B < P := by rw [Nat.div_lt_iff_lt_mul (by omega), Nat.mul_comm P B]; exact Nat.mul_lt_mul_of_pos_right hxb hP
  have e2 : z + x * P % B < B := by
    rw [shl_low hPQ]
    have hm : x % Q < Q := Nat.mod_lt _ hQ
    have := Nat.mul_le_mul_left P (show x % Q + 1 ≤ Q by omega)
    rw [Nat.mul_add, Nat.mul_one, hPQ] at this
    omega
  have e3 : x * P / B < B := by
    have : P ≤ B := by rw [← hPQ]; exact Nat.le_mul_of_pos_right P hQ
    omega
  refine ⟨mem_set_lt (mem_set_lt h1 e2) e3, by simpa using h2, ?_, ?_, ?_⟩
  · rw [getD_set, if_pos ⟨rfl, by simp; omega⟩]; exact e1
  · intro j hj
    rw [getD_set, if_neg (by omega), getD_set, if_neg (by omega)]
    exact h4 j (by omega)
  · have v1 := val_set B zs i (z + x * P % B) (by omega)
    have v2 := val_set B (zs.set i (z + x * P % B)) (i + 1) (x * P / B) (by simp; omega)
    rw [getD_set, if_neg (by omega), h4 (i + 1) (by omega), Nat.mul_zero, Nat.add_zero] at v2
    rw [hz] at v1
    rw [v2, val_take_succ, hx, Nat.add_mul, ← h5]
    have e4 : B ^ i * (x * P % B) + B ^ (i + 1) * (x * P / B) = B ^ i * (x * P) := by
      rw [Nat.pow_succ, Nat.mul_assoc, ← Nat.mul_add, Nat.mod_add_div]
    rw [Nat.mul_add] at v1
    rw [Nat.mul_assoc (B ^ i) x P]
    omega
theorem ShlInv.done {B P : Nat} {xs zs : List Nat} (h : ShlInv B P xs zs xs.length) : val B zs = val B xs * P := by
  have := h.2.2.2.2
  rw [List.take_of_length_le (Nat.le_refl _)] at this
  exact this
/-- shifting to the right, from the highest word on -/
def ShrInv (B P : Nat) (xs zs : List Nat) (k a : Nat) : Prop :=
  (∀ z ∈ zs, z < B) ∧ zs.length = xs.length ∧ a = xs.getD k 0 ∧ val B (zs.drop k) = val B (xs.drop k) / P
theorem ShrInv.start {B P : Nat} (hB : 2 ≤ B) (hP : 1 ≤ P) (xs : List Nat) : ShrInv B P xs (List.replicate xs.length 0) xs.length 0 :=
  ⟨fun z hz => by have := List.eq_of_mem_replicate hz; omega, by simp, by rw [List.getD_eq_getElem?_getD, List.getElem?_eq_none (Nat.le_refl _)]; rfl, by simp [val]⟩
/-- the digit of a shift to the right -/
theorem shr_digit {B P Q a w : Nat} (hPQ : P * Q = B) (hP : 1 ≤ P) (hQ : 1 ≤ Q) (hw : w < B) : (a * B + w) / P % B = (a % P * B + w) / P ∧ (a % P * B + w) / P < B := by
  have h2 : (a % P * B + w) / P < B := by
    rw [Nat.div_lt_iff_lt_mul hP]
    have hm : a % P < P := Nat.mod_lt _ hP
    have := Nat.mul_le_mul_right B (show a % P + 1 ≤ P by omega)
    rw [Nat.add_mul, Nat.one_mul, Nat.mul_comm P B] at this
    omega
  have h1 : a * B + w = P * (a / P * B) + (a % P * B + w) := by
    have := Nat.div_add_mod a P
    have e : a * B = P * (a / P) * B + a % P * B := by rw [← Nat.add_mul, this]
    rw [e, Nat.mul_assoc]; omega
  refine ⟨?_, h2⟩
  rw [h1, Nat.mul_add_div hP, Nat.add_comm, Nat.add_mul_mod_self_right, Nat.mod_eq_of_lt h2]
theorem ShrInv.step {B P Q : Nat} (hB : 2 ≤ B) (hPQ : P * Q = B) (hP : 1 ≤ P) (hQ : 1 ≤ Q) {xs zs : List Nat} {i a w : Nat} (h : ShrInv B P xs zs (i + 1) a) (hi : i < xs.length) (hw : xs.getD i 0 = w) (hwb : w < B) :
    ShrInv B P xs (zs.set i ((a * B + w) / P % B)) i w := by
  obtain ⟨h1, h2, h3, h4⟩ := h
  obtain ⟨d1, d2⟩ := shr_digit (a := a) hPQ hP hQ hwb
  refine ⟨mem_set_lt h1 (Nat.mod_lt _ (by omega)), by simpa using h2, hw.symm, ?_⟩
  rw [val_drop B _ i (by simp; omega), getD_set, if_pos ⟨rfl, by omega⟩, drop_set_lt _ _ _ _ (by omega), h4, val_drop B xs i hi, hw, d1]
  -- the digits above end in a
  have ha : val B (xs.drop (i + 1)) % P = a % P := by
    by_cases hl : i + 1 < xs.length
    · rw [val_drop B xs (i + 1) hl, ← h3, ← hPQ, Nat.mul_assoc, Nat.add_mul_mod_self_left]
    · rw [List.drop_of_length_le (by omega)]
      rw [List.getD_eq_getElem?_getD, List.getElem?_eq_none (by omega)] at h3
      simp at h3; rw [h3]; rfl
  have hX := Nat.div_add_mod (val B (xs.drop (i + 1))) P
  rw [ha] at hX
  have e : w + B * val B (xs.drop (i + 1)) = P * (B * (val B (xs.drop (i + 1)) / P)) + (a % P * B + w) := by
    have : B * val B (xs.drop (i + 1)) = B * (P * (val B (xs.drop (i + 1)) / P)) + B * (a % P) := by rw [← Nat.mul_add, hX]
    rw [this, Nat.mul_left_comm B P, Nat.mul_comm B (a % P)]; omega
  rw [e, Nat.mul_add_div hP]
  omega
theorem ShrInv.done {B P a : Nat} {xs zs : List Nat} (h : ShrInv B P xs zs 0 a) : val B zs = val B xs / P := by
  have := h.2.2.2
  simpa using this
/-- multiplying, one place more -/
def TOut (B : Nat) (xs ys zs : List Nat) (i : Nat) : Prop :=
  (∀ z ∈ zs, z < B) ∧ zs.length = xs.length + ys.length + 1 ∧ val B zs = val B (xs.take i) * val B ys ∧ ∀ j, i + ys.length ≤ j → zs.getD j 0 = 0
def TIn (B : Nat) (xs ys zs : List Nat) (i j c x : Nat) : Prop :=
  (∀ z ∈ zs, z < B) ∧ zs.length = xs.length + ys.length + 1 ∧ c < B ∧ val B zs + B ^ (i + j) * c = val B (xs.take i) * val B ys + B ^ i * (x * val B (ys.take j)) ∧ ∀ k, i + ys.length ≤ k → zs.getD k 0 = 0
theorem TOut.start {B : Nat} (hB : 2 ≤ B) (xs ys : List Nat) : TOut B xs ys (List.replicate (xs.length + ys.length + 1) 0) 0 :=
  ⟨fun z hz => by have := List.eq_of_mem_replicate hz; omega, by simp, by rw [val_replicate]; simp [val], fun j _ => getD_replicate _ _⟩
theorem TOut.begin {B : Nat} (hB : 2 ≤ B) {xs ys zs : List Nat} {i : Nat} (h : TOut B xs ys zs i) (x : Nat) : TIn B xs ys zs i 0 0 x :=
  ⟨h.1, h.2.1, by omega, by simp [val, h.2.2.1], h.2.2.2⟩
theorem TIn.step {B : Nat} (hB : 2 ≤ B) {xs ys zs : List Nat} {i j c x : Nat} (h : TIn B xs ys zs i j c x) (hi : i < xs.length) (hj : j < ys.length) (hx : x < B) (hy : ys.getD j 0 < B) (t : Nat) (ht : t = c + zs.getD (i + j) 0 + x * ys.getD j 0) :
    TIn B xs ys (zs.set (i + j) (t % B)) i (j + 1) (t / B) x := by
  obtain ⟨h1, h2, h3, h4, h5⟩ := h
  have ht' : t = x * ys.getD j 0 + zs.getD (i + j) 0 + c := by omega
  refine ⟨mem_set_lt h1 (Nat.mod_lt _ (by omega)), by simpa using h2, ?_, ?_, ?_⟩
  · rw [ht']; exact carry_lt hx hy (getD_lt h1 (by omega) _) h3
  · have := mul_step hB (zs := zs) (i := i + j) (by omega) _ t x (ys.getD j 0) c ht' h4
    rw [← Nat.add_assoc, this, val_take_succ, Nat.mul_add x, Nat.mul_add (B ^ i), Nat.pow_add, Nat.add_assoc]
    congr 2
    rw [Nat.mul_assoc, Nat.mul_left_comm x]
  · intro k hk
    rw [getD_set, if_neg (by omega)]; exact h5 k hk
theorem TIn.done {B : Nat} (hB : 2 ≤ B) {xs ys zs : List Nat} {i c : Nat} (h : TIn B xs ys zs i ys.length c (xs.getD i 0)) (hi : i < xs.length) : TOut B xs ys (zs.set (i + ys.length) c) (i + 1) := by
  obtain ⟨h1, h2, h3, h4, h5⟩ := h
  refine ⟨mem_set_lt h1 h3, by simpa using h2, ?_, ?_⟩
  · have e := val_set B zs (i + ys.length) c (by omega)
    rw [h5 _ (Nat.le_refl _), Nat.mul_zero, Nat.add_zero] at e
    rw [e, h4, List.take_of_length_le (Nat.le_refl _), val_take_succ, Nat.add_mul, Nat.mul_assoc]
  · intro k hk
    rw [getD_set, if_neg (by omega)]; exact h5 k (by omega)
theorem TIn.zero {B : Nat} {xs ys zs : List Nat} {i : Nat} (h : TIn B xs ys zs i ys.length 0 (xs.getD i 0)) (hi : i < xs.length) : TOut B xs ys zs (i + 1) := by
  obtain ⟨h1, h2, h3, h4, h5⟩ := h
  refine ⟨h1, h2, ?_, fun k hk => h5 k (by omega)⟩
  rw [List.take_of_length_le (Nat.le_refl _)] at h4
  rw [val_take_succ, Nat.add_mul, Nat.mul_assoc]
  omega
theorem TOut.done {B : Nat} {xs ys zs : List Nat} (h : TOut B xs ys zs xs.length) : val B zs = val B xs * val B ys := by
  have := h.2.2.1
  rw [List.take_of_length_le (Nat.le_refl _)] at this
  exact this
/-- dividing as the reference does it: what stands above place k -/
def RDInv (d : Nat) (xs qs : List Nat) (k r : Nat) : Prop :=
  (∀ q ∈ qs, q < 65536) ∧ qs.length = xs.length ∧ r < d ∧ val 65536 (xs.drop k) = d * val 65536 (qs.drop k) + r
theorem RDInv.start {d : Nat} (xs : List Nat) (hd : 1 ≤ d) : RDInv d xs (List.replicate xs.length 0) xs.length 0 :=
  ⟨fun z hz => by have := List.eq_of_mem_replicate hz; omega, by simp, by omega, by simp [val]⟩
theorem rdiv_lt {d r x : Nat} (h3 : r < d) (hx : x < 65536) : (r * 65536 + x) / d < 65536 := by
  rw [Nat.div_lt_iff_lt_mul (by omega)]
  have : (r + 1) * 65536 ≤ d * 65536 := Nat.mul_le_mul_right _ (by omega)
  omega
theorem RDInv.step {d r x i : Nat} {xs qs : List Nat} (h : RDInv d xs qs (i + 1) r) (hi : i < xs.length) (hx : xs.getD i 0 = x) (hxb : x < 65536) :
    RDInv d xs (qs.set i ((r * 65536 + x) / d)) i ((r * 65536 + x) % d) := by
  obtain ⟨h1, h2, h3, h4⟩ := h
  exact ⟨mem_set_lt h1 (rdiv_lt h3 hxb), by simpa using h2, Nat.mod_lt _ (by omega), div_down hx hi (by omega) h4⟩
theorem RDInv.done {d r : Nat} {xs qs : List Nat} (h : RDInv d xs qs 0 r) : val 65536 qs = val 65536 xs / d ∧ val 65536 xs % d = r := by
  obtain ⟨h1, h2, h3, h4⟩ := h
  simp only [List.drop_zero] at h4
  rw [h4]
  constructor
  · rw [Nat.mul_add_div (by omega), Nat.div_eq_of_lt h3]; rfl
  · rw [Nat.mul_add_mod, Nat.mod_eq_of_lt h3]
/-- halving the digits between two limits -/
def Bs (R d lo hi : Nat) : Prop := lo ≤ R / d ∧ R / d ≤ hi ∧ hi ≤ 65535
theorem Bs.start {r x d : Nat} (h : r < d) (hx : x < 65536) : Bs (r * 65536 + x) d 0 65535 := ⟨Nat.zero_le _, Nat.le_of_lt_succ (rdiv_lt h hx), by omega⟩
theorem Bs.less {R d lo hi m : Nat} (h : Bs R d lo hi) (hd : 1 ≤ d) (hm2 : m ≤ hi) (hlt : R < d * m) : Bs R d lo (m - 1) := by
  obtain ⟨h1, h2, h3⟩ := h
  have h4 : R / d < m := by rw [Nat.div_lt_iff_lt_mul hd, Nat.mul_comm]; exact hlt
  exact ⟨h1, Nat.le_sub_one_of_lt h4, by omega⟩
theorem Bs.more {R d lo hi m : Nat} (h : Bs R d lo hi) (hd : 1 ≤ d) (hge : ¬ R < d * m) : Bs R d m hi := by
  obtain ⟨h1, h2, h3⟩ := h
  have h4 : m ≤ R / d := by rw [Nat.le_div_iff_mul_le hd, Nat.mul_comm]; omega
  exact ⟨h4, h2, h3⟩
theorem Bs.done {R d lo hi : Nat} (h : Bs R d lo hi) (he : hi ≤ lo) : lo = R / d := by
  obtain ⟨h1, h2, h3⟩ := h; omega
/-! Long division: the guess of a digit. Plain mathematics. -/
set_option linter.unusedVariables false
theorem kn_le {B high next low top g r P vr rest V U : Nat} (hV : V = (high * B + next) * P + vr) (hvr : vr < P) (hU : U = (top * B + low) * P + rest) (hs : g * high + r = top) (hle : g * next ≤ r * B + low) (hg : g ≤ high * B + next + 1) : (g - 1) * V ≤ U := by
  cases g with
  | zero => simp
  | succ k =>
    simp only [Nat.add_sub_cancel]
    have h1 : (k + 1) * (high * B + next) ≤ top * B + low := by
      rw [← hs, Nat.mul_add, Nat.add_mul ((k + 1) * high) r B, Nat.mul_assoc (k + 1) high B]; omega
    have h2 : V ≤ (high * B + next + 1) * P := by rw [hV, Nat.add_mul _ 1, Nat.one_mul]; omega
    have h3 : k * (high * B + next + 1) ≤ (k + 1) * (high * B + next) := by
      rw [Nat.mul_add k _ 1, Nat.add_mul k 1, Nat.one_mul, Nat.mul_one]; omega
    have h4 : k * V ≤ k * ((high * B + next + 1) * P) := Nat.mul_le_mul_left _ h2
    have h5 : k * ((high * B + next + 1) * P) = k * (high * B + next + 1) * P := (Nat.mul_assoc _ _ _).symm
    have h6 := Nat.mul_le_mul_right P (Nat.le_trans h3 h1)
    omega
theorem kn_lt {B high next low top g r P vr rest V U q : Nat} (hV : V = (high * B + next) * P + vr) (hU : U = (top * B + low) * P + rest) (hrest : rest < P) (hs : g * high + r = top) (hgt : r * B + low < g * next) (hq : q * V ≤ U) : q < g := by
  rcases Nat.lt_or_ge q g with h | h
  · exact h
  · exfalso
    have h1 : g * V ≤ U := Nat.le_trans (Nat.mul_le_mul_right _ h) hq
    have h2 : top * B + low + 1 ≤ g * (high * B + next) := by
      rw [← hs, Nat.mul_add, Nat.add_mul (g * high) r B, Nat.mul_assoc g high B]; omega
    have h3 := Nat.mul_le_mul_right P h2
    rw [Nat.add_mul _ 1, Nat.one_mul] at h3
    have h4 : g * ((high * B + next) * P) ≤ g * V := Nat.mul_le_mul_left _ (by omega)
    rw [← Nat.mul_assoc] at h4
    omega
/-- the three highest digits, and the rest -/
theorem val_top3 (B : Nat) (xs : List Nat) (k : Nat) (hk : xs.length = k + 3) :
    val B xs = ((xs.getD (k + 2) 0 * B + xs.getD (k + 1) 0) * B + xs.getD k 0) * B ^ k + val B (xs.take k) := by
  rw [val_split B xs k (by omega), val_drop B xs k (by omega), val_drop B xs (k + 1) (by omega), val_drop B xs (k + 2) (by omega), List.drop_of_length_le (by omega)]
  simp only [val, Nat.mul_zero, Nat.add_zero]
  rw [Nat.mul_comm (B ^ k), Nat.add_comm (val B _)]
  congr 2
  rw [Nat.mul_comm _ B, Nat.mul_comm _ B, Nat.add_comm, Nat.add_comm (xs.getD (k + 1) 0)]
theorem val_top2 (B : Nat) (xs : List Nat) (k : Nat) (hk : xs.length = k + 2) :
    val B xs = (xs.getD (k + 1) 0 * B + xs.getD k 0) * B ^ k + val B (xs.take k) := by
  rw [val_split B xs k (by omega), val_drop B xs k (by omega), val_drop B xs (k + 1) (by omega), List.drop_of_length_le (by omega)]
  simp only [val, Nat.mul_zero, Nat.add_zero]
  rw [Nat.mul_comm (B ^ k), Nat.add_comm (val B _)]
  congr 2
  rw [Nat.mul_comm _ B, Nat.add_comm]
/-- what the loop of the guess keeps -/
def GInv (high top q g r : Nat) : Prop := g * high + r = top ∧ q ≤ g
theorem GInv.next {high top q g r : Nat} (h : GInv high top q g r) (hq : q < g) : GInv high top q (g - 1) (r + high) := by
  obtain ⟨h1, h2⟩ := h
  refine ⟨?_, by omega⟩
  obtain ⟨k, rfl⟩ : ∃ k, g = k + 1 := ⟨g - 1, by omega⟩
  rw [Nat.add_mul, Nat.one_mul] at h1
  simp only [Nat.add_sub_cancel]
  omega
/-- the guess is right, or 1 more -/
theorem GInv.done {B high next low top P vr rest V U q g r : Nat} (h : GInv high top q g r) (hV : V = (high * B + next) * P + vr) (hvr : vr < P) (hU : U = (top * B + low) * P + rest) (hrest : rest < P)
    (hq : q = U / V) (hqB : q < B) (hle : g * next ≤ r * B + low) (hg : g < B) (hhi : 1 ≤ high) : q ≤ g ∧ g ≤ q + 1 := by
  refine ⟨h.2, ?_⟩
  have hB : B ≤ high * B := Nat.le_mul_of_pos_left B hhi
  have h1 := kn_le hV hvr hU h.1 hle (by omega)
  have hV0 : 0 < V := by
    rw [hV]
    have : 0 < (high * B + next) * P := Nat.mul_pos (by omega) (by omega)
    omega
  have : g - 1 ≤ U / V := (Nat.le_div_iff_mul_le hV0).2 h1
  omega
/-! Long division: taking a multiple away, and adding back. Plain mathematics. -/
set_option linter.unusedVariables false
/-- taking by times vs away from us: carry and borrow behind i digits -/
def SmInv (B by_ : Nat) (us vs zs : List Nat) (i c b : Nat) : Prop :=
  (∀ z ∈ zs, z < B) ∧ zs.length = us.length ∧ c < B ∧ b ≤ 1 ∧ (∀ j, i ≤ j → zs.getD j 0 = us.getD j 0) ∧ val B (zs.take i) + by_ * val B (vs.take i) = val B (us.take i) + B ^ i * (c + b)
theorem SmInv.start {B by_ : Nat} (hB : 2 ≤ B) {us vs : List Nat} (h : ∀ u ∈ us, u < B) : SmInv B by_ us vs us 0 0 0 :=
  ⟨h, rfl, by omega, by omega, fun _ _ => rfl, by simp [val]⟩
theorem SmInv.step {B by_ : Nat} (hB : 2 ≤ B) {us vs zs : List Nat} {i c b : Nat} (h : SmInv B by_ us vs zs i c b) (hi : i < us.length) (hv : vs.getD i 0 < B) (hby : by_ < B)
    (p d b' : Nat) (hp : p = vs.getD i 0 * by_ + c) (hd : d < B) (hb : b' ≤ 1) (ht : d + p % B + b = zs.getD i 0 + B * b') : SmInv B by_ us vs (zs.set i d) (i + 1) (p / B) b' := by
  obtain ⟨h1, h2, h3, h4, h5, h6⟩ := h
  have e0 := h5 i (Nat.le_refl _)
  refine ⟨mem_set_lt h1 hd, by simpa using h2, ?_, hb, ?_, ?_⟩
  · have := carry_lt (B := B) (x := vs.getD i 0) (y := by_) (z := 0) (c := c) hv hby (by omega) h3
    rw [hp]; simpa using this
  · intro j hj
    rw [getD_set, if_neg (by omega)]; exact h5 j (by omega)
  · rw [val_set_take B zs i _ (by omega), val_take_succ, val_take_succ, Nat.pow_succ, Nat.mul_add by_]
    have e1 : B ^ i * (d + p % B + b) = B ^ i * (us.getD i 0 + B * b') := by rw [ht, e0]
    have e2 : B ^ i * (p % B) + B ^ i * B * (p / B) = B ^ i * p := by rw [Nat.mul_assoc, ← Nat.mul_add, Nat.mod_add_div]
    have e3 : B ^ i * p = by_ * (B ^ i * vs.getD i 0) + B ^ i * c := by
      rw [hp, Nat.mul_add, ← Nat.mul_assoc, Nat.mul_comm (B ^ i * _) by_]
    rw [Nat.mul_add, Nat.mul_add, Nat.mul_add, ← Nat.mul_assoc (B ^ i) B b'] at e1
    rw [Nat.mul_add] at h6
    rw [Nat.mul_add (B ^ i * B)]
    omega
/-- the highest digit: enough, or one too much -/
theorem SmInv.done {B by_ : Nat} (hB : 2 ≤ B) {us vs zs : List Nat} {n c b : Nat} (h : SmInv B by_ us vs zs n c b) (hn : us.length = n + 1) (hv : vs.length = n) (d b' : Nat) (hd : d < B) (hb : b' ≤ 1) (ht : d + c + b = zs.getD n 0 + B * b') :
    (∀ z ∈ zs.set n d, z < B) ∧ (zs.set n d).length = n + 1 ∧ val B (zs.set n d) + by_ * val B vs = val B us + B ^ (n + 1) * b' := by
  obtain ⟨h1, h2, h3, h4, h5, h6⟩ := h
  refine ⟨mem_set_lt h1 hd, by simp; omega, ?_⟩
  have e0 := h5 n (Nat.le_refl _)
  have e1 := val_set_take B zs n d (by omega)
  rw [List.take_of_length_le (by simp; omega)] at e1
  have e2 := val_take_succ B us n
  rw [List.take_of_length_le (by omega)] at e2
  rw [List.take_of_length_le (by omega : vs.length ≤ n)] at h6
  have e3 : B ^ n * (d + c + b) = B ^ n * (us.getD n 0 + B * b') := by rw [ht, e0]
  rw [Nat.mul_add, Nat.mul_add, Nat.mul_add, ← Nat.mul_assoc, ← Nat.pow_succ, Nat.succ_eq_add_one] at e3
  rw [Nat.mul_add] at h6
  omega
/-- adding vs: the carry behind i digits -/
def AbInv (B : Nat) (us vs zs : List Nat) (i c : Nat) : Prop :=
  (∀ z ∈ zs, z < B) ∧ zs.length = us.length ∧ c ≤ 1 ∧ (∀ j, i ≤ j → zs.getD j 0 = us.getD j 0) ∧ val B (zs.take i) + B ^ i * c = val B (us.take i) + val B (vs.take i)
theorem AbInv.start {B : Nat} {us vs : List Nat} (h : ∀ u ∈ us, u < B) : AbInv B us vs us 0 0 := ⟨h, rfl, by omega, fun _ _ => rfl, by simp [val]⟩
theorem AbInv.step {B : Nat} (hB : 2 ≤ B) {us vs zs : List Nat} {i c : Nat} (h : AbInv B us vs zs i c) (hi : i < us.length) (hv : vs.getD i 0 < B) (hu : us.getD i 0 < B) (t : Nat) (ht : t = zs.getD i 0 + vs.getD i 0 + c) :
    AbInv B us vs (zs.set i (t % B)) (i + 1) (t / B) := by
  obtain ⟨h1, h2, h3, h4, h5⟩ := h
  have e0 := h4 i (Nat.le_refl _)
  refine ⟨mem_set_lt h1 (Nat.mod_lt _ (by omega)), by simpa using h2, ?_, ?_, ?_⟩
  · have : t / B < 2 := by rw [Nat.div_lt_iff_lt_mul (by omega)]; omega
    omega
  · intro j hj
    rw [getD_set, if_neg (by omega)]; exact h4 j (by omega)
  · rw [val_set_take B zs i _ (by omega), val_take_succ, val_take_succ, Nat.pow_succ]
    have e : B ^ i * (t % B) + B ^ i * B * (t / B) = B ^ i * t := by rw [Nat.mul_assoc, ← Nat.mul_add, Nat.mod_add_div]
    have e2 : B ^ i * t = B ^ i * us.getD i 0 + B ^ i * vs.getD i 0 + B ^ i * c := by rw [ht, e0, Nat.mul_add, Nat.mul_add]
    omega
/-- the highest digit, modulo the base -/
theorem AbInv.done {B : Nat} (hB : 2 ≤ B) {us vs zs : List Nat} {n c : Nat} (h : AbInv B us vs zs n c) (hn : us.length = n + 1) (hv : vs.length = n) :
    (∀ z ∈ zs.set n ((zs.getD n 0 + c) % B), z < B) ∧ (zs.set n ((zs.getD n 0 + c) % B)).length = n + 1 ∧ ∃ k, val B (zs.set n ((zs.getD n 0 + c) % B)) + B ^ (n + 1) * k = val B us + val B vs := by
  obtain ⟨h1, h2, h3, h4, h5⟩ := h
  refine ⟨mem_set_lt h1 (Nat.mod_lt _ (by omega)), by simp; omega, (zs.getD n 0 + c) / B, ?_⟩
  have e0 := h4 n (Nat.le_refl _)
  have e1 := val_set_take B zs n ((zs.getD n 0 + c) % B) (by omega)
  rw [List.take_of_length_le (by simp; omega)] at e1
  have e2 := val_take_succ B us n
  rw [List.take_of_length_le (by omega)] at e2
  rw [List.take_of_length_le (by omega : vs.length ≤ n)] at h5
  have e3 : B ^ n * ((zs.getD n 0 + c) % B) + B ^ (n + 1) * ((zs.getD n 0 + c) / B) = B ^ n * (zs.getD n 0 + c) := by
    rw [Nat.pow_succ, Nat.mul_assoc, ← Nat.mul_add, Nat.mod_add_div]
  have e4 : B ^ n * (zs.getD n 0 + c) = B ^ n * us.getD n 0 + B ^ n * c := by rw [e0, Nat.mul_add]
  omega
/-- added back: the remainder of one multiple less -/
theorem back_val {P U V g r r' k : Nat} (hg : 1 ≤ g) (h1 : r + g * V = U + P) (h2 : r' + P * k = r + V) (hr : r' < P) (hle : (g - 1) * V ≤ U) (hlt : U - (g - 1) * V < P) : r' + (g - 1) * V = U := by
  obtain ⟨m, rfl⟩ : ∃ m, g = m + 1 := ⟨g - 1, by omega⟩
  simp only [Nat.add_sub_cancel] at *
  rw [Nat.add_mul, Nat.one_mul] at h1
  have hk : k = 1 := by
    rcases Nat.lt_or_ge k 1 with h | h
    · have : k = 0 := by omega
      subst this; omega
    · rcases Nat.lt_or_ge k 2 with h3 | h3
      · omega
      · have := Nat.mul_le_mul_left P h3
        omega
  subst hk
  omega
end Go.Proofs.Ytgbnmnkgelklbaa.Ws
