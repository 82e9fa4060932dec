/-
  The steps of the loops over digits. Plain mathematics.
-/
import Derived.Test.YtcbdnnboddahkaaWd
namespace Go.Proofs.Ytcbdnnboddahkaa.Ws
set_option linter.unusedVariables false
theorem val_set_take (B : Nat) (zs : List Nat) (i y : Nat) (hi : i < zs.length) : val B ((zs.set i y).take (i + 1)) = val B (zs.take i) + B ^ i * y := by
  rw [val_take_succ, take_set_ge _ _ _ _ (Nat.le_refl _), getD_set, if_pos ⟨rfl, hi⟩]
theorem val_set (B : Nat) : ∀ (zs : List Nat) (i y : Nat), i < zs.length → val B (zs.set i y) + B ^ i * zs.getD i 0 = val B zs + B ^ i * y := by
  intro zs
  induction zs with
  | nil => intro i y h; simp at h
  | cons z t ih =>
    intro i y h
    cases i with
    | zero => simp [val]; omega
    | succ i =>
      simp only [List.set_cons_succ, val, Nat.pow_succ, List.getD_cons_succ]
      have h1 := ih i y (by simp at h; omega)
      have h2 : B * (val B (t.set i y) + B ^ i * t.getD i 0) = B * (val B t + B ^ i * y) := by rw [h1]
      rw [Nat.mul_add, Nat.mul_add, ← Nat.mul_assoc, ← Nat.mul_assoc] at h2
      rw [Nat.mul_comm (B ^ i) B]
      omega
/-- adding: the carry behind i digits -/
def AddInv (B : Nat) (xs ys zs : List Nat) (i c : Nat) : Prop :=
  (∀ z ∈ zs, z < B) ∧ c ≤ 1 ∧ val B (zs.take i) + B ^ i * c = val B (xs.take i) + val B (ys.take i)
theorem AddInv.start (B : Nat) (hB : 2 ≤ B) (xs ys : List Nat) (n : Nat) : AddInv B xs ys (List.replicate n 0) 0 0 :=
  ⟨fun z hz => by have := List.eq_of_mem_replicate hz; omega, by omega, by simp [val]⟩
theorem AddInv.step {B : Nat} (hB : 2 ≤ B) {xs ys zs : List Nat} {i c : Nat} (h : AddInv B xs ys zs i c) (hi : i < zs.length) (hx : ∀ x ∈ xs, x < B) (hy : ∀ x ∈ ys, x < B) (t : Nat) (ht : t = xs.getD i 0 + c + ys.getD i 0) :
    AddInv B xs ys (zs.set i (t % B)) (i + 1) (t / B) := by
  obtain ⟨h1, h2, h3⟩ := h
  have q1 := getD_lt hx (by omega) i
  have q2 := getD_lt hy (by omega) i
  refine ⟨mem_set_lt h1 (Nat.mod_lt _ (by omega)), ?_, ?_⟩
  · have : t / B < 2 := by rw [Nat.div_lt_iff_lt_mul (by omega)]; omega
    omega
  · rw [val_set_take B zs i _ hi, val_take_succ, val_take_succ, Nat.pow_succ]
    have e : B ^ i * (t % B) + B ^ i * B * (t / B) = B ^ i * t := by
      rw [Nat.mul_assoc, ← Nat.mul_add, Nat.mod_add_div]
    have e2 : B ^ i * t = B ^ i * xs.getD i 0 + B ^ i * c + B ^ i * ys.getD i 0 := by rw [ht, Nat.mul_add, Nat.mul_add]
    omega
theorem AddInv.done {B : Nat} (hB : 2 ≤ B) {xs ys zs : List Nat} {n c : Nat} (h : AddInv B xs ys zs n c) (hn : zs.length = n + 1) (hx : xs.length ≤ n) (hy : ys.length ≤ n) :
    (∀ z ∈ zs.set n c, z < B) ∧ val B (zs.set n c) = val B xs + val B ys := by
  obtain ⟨h1, h2, h3⟩ := h
  refine ⟨mem_set_lt h1 (by omega), ?_⟩
  have := val_set_take B zs n c (by omega)
  rw [List.take_of_length_le (by simp; omega)] at this
  rw [this, h3, List.take_of_length_le hx, List.take_of_length_le hy]
/-- subtracting: the borrow behind i digits -/
def SubInv (B : Nat) (xs ys zs : List Nat) (i c : Nat) : Prop :=
  (∀ z ∈ zs, z < B) ∧ c ≤ 1 ∧ val B (zs.take i) + val B (ys.take i) = val B (xs.take i) + B ^ i * c
theorem SubInv.start (B : Nat) (hB : 2 ≤ B) (xs ys : List Nat) (n : Nat) : SubInv B xs ys (List.replicate n 0) 0 0 :=
  ⟨fun z hz => by have := List.eq_of_mem_replicate hz; omega, by omega, by simp [val]⟩
theorem SubInv.step {B : Nat} (hB : 2 ≤ B) {xs ys zs : List Nat} {i c : Nat} (h : SubInv B xs ys zs i c) (hi : i < zs.length) (d b : Nat) (hb : b ≤ 1) (hd : d < B) (ht : d + c + ys.getD i 0 = xs.getD i 0 + B * b) :
    SubInv B xs ys (zs.set i d) (i + 1) b := by
  obtain ⟨h1, h2, h3⟩ := h
  refine ⟨mem_set_lt h1 hd, hb, ?_⟩
  rw [val_set_take B zs i _ hi, val_take_succ, val_take_succ, Nat.pow_succ, Nat.mul_assoc]
  have e : B ^ i * (d + c + ys.getD i 0) = B ^ i * (xs.getD i 0 + B * b) := by rw [ht]
  rw [Nat.mul_add, Nat.mul_add, Nat.mul_add] at e
  omega
theorem SubInv.done {B : Nat} (hB : 2 ≤ B) {xs ys zs : List Nat} {n c : Nat} (h : SubInv B xs ys zs n c) (hn : zs.length = n) (hx : xs.length ≤ n) (hy : ys.length ≤ n) (hle : val B ys ≤ val B xs) :
    val B zs = val B xs - val B ys := by
  obtain ⟨h1, h2, h3⟩ := h
  rw [List.take_of_length_le (by omega), List.take_of_length_le hx, List.take_of_length_le hy] at h3
  have := val_lt B zs h1
  rw [hn] at this
  have hc : c = 0 := by
    rcases Nat.lt_or_ge c 1 with h | h
    · omega
    · have : c = 1 := by omega
      subst this
      omega
  subst hc
  omega
/-- one digit of a product -/
theorem mul_step {B : Nat} (hB : 2 ≤ B) {zs : List Nat} {i : Nat} (hi : i < zs.length) (V t : Nat) (x y c : Nat) (ht : t = x * y + zs.getD i 0 + c) (h : val B zs + B ^ i * c = V) :
    val B (zs.set i (t % B)) + B ^ (i + 1) * (t / B) = V + B ^ i * (x * y) := by
  have h1 := val_set B zs i (t % B) hi
  have e : B ^ i * (t % B) + B ^ (i + 1) * (t / B) = B ^ i * t := by
    rw [Nat.pow_succ, Nat.mul_assoc, ← Nat.mul_add, Nat.mod_add_div]
  have e2 : B ^ i * t = B ^ i * (x * y) + B ^ i * zs.getD i 0 + B ^ i * c := by rw [ht, Nat.mul_add, Nat.mul_add]
  omega
theorem carry_lt {B x y z c : Nat} (hx : x < B) (hy : y < B) (hz : z < B) (hc : c < B) : (x * y + z + c) / B < B := by
  have hB : 0 < B := by omega
  rw [Nat.div_lt_iff_lt_mul hB]
  have h1 : x * y ≤ (B - 1) * (B - 1) := Nat.mul_le_mul (by omega) (by omega)
  obtain ⟨d, rfl⟩ : ∃ d, B = d + 1 := ⟨B - 1, by omega⟩
  simp only [Nat.add_sub_cancel] at h1
  have h2 : (d + 1) * (d + 1) = d * d + d + d + 1 := by rw [Nat.add_mul, Nat.mul_add]; omega
  omega
theorem val_zero_from (B : Nat) (zs : List Nat) (k : Nat) (hk : k ≤ zs.length) (h : ∀ j, k ≤ j → j < zs.length → zs.getD j 0 = 0) : val B zs = val B (zs.take k) := by
  rw [val_split B zs k hk]
  have : zs.drop k = List.replicate (zs.length - k) 0 := by
    apply ext_getD
    · simp
    · intro j hj
      simp at hj
      have := h (k + j) (by omega) (by omega)
      rw [List.getD_eq_getElem?_getD] at this ⊢
      rw [List.getElem?_drop, this]
      simp [List.getD_eq_getElem?_getD, hj]
  rw [this, val_replicate]; simp
/-- dividing by one digit, from the highest on -/
theorem div_step {B d r x : Nat} (hB : 2 ≤ B) (hd : r < d) (hx : x < B) (hdB : d ≤ B) : (r * B + x) / d < B ∧ (r * B + x) % d < d := by
  constructor
  · rw [Nat.div_lt_iff_lt_mul (by omega)]
    have : (r + 1) * B ≤ d * B := Nat.mul_le_mul_right _ (by omega)
    rw [Nat.add_mul, Nat.one_mul] at this
    rw [Nat.mul_comm B d]; omega
  · exact Nat.mod_lt _ (by omega)
theorem getD_drop (xs : List Nat) (k j : Nat) : (xs.drop k).getD j 0 = xs.getD (k + j) 0 := by
  rw [List.getD_eq_getElem?_getD, List.getD_eq_getElem?_getD, List.getElem?_drop]
theorem drop_set_lt (zs : List Nat) (i y k : Nat) (h : i < k) : (zs.set i y).drop k = zs.drop k := by
  apply ext_getD
  · simp
  · intro j hj
    rw [getD_drop, getD_drop, getD_set, if_neg (by omega)]
/-- the loop that goes down: what stands above place i -/
theorem div_down {B d r x i : Nat} {xs qs : List Nat} (hx : xs.getD i 0 = x) (hi : i < xs.length) (hq : i < qs.length)
    (h : val B (xs.drop (i + 1)) = d * val B (qs.drop (i + 1)) + r) :
    val B (xs.drop i) = d * val B ((qs.set i ((r * B + x) / d)).drop i) + (r * B + x) % d := by
  rw [val_drop B xs i hi, val_drop B _ i (by simpa using hq), drop_set_lt _ _ _ _ (by omega), getD_set, if_pos ⟨rfl, hq⟩, hx, h]
  have := Nat.mod_add_div (r * B + x) d
  rw [Nat.mul_add, Nat.mul_add]
  have e : B * (d * val B (qs.drop (i + 1))) = d * (B * val B (qs.drop (i + 1))) := by rw [← Nat.mul_assoc, ← Nat.mul_assoc, Nat.mul_comm B d]
  rw [e, Nat.mul_comm B r]
  omega
/-- multiplying: what holds ahead of row i -/
def MulOut (B : Nat) (xs ys zs : List Nat) (i : Nat) : Prop :=
  (∀ z ∈ zs, z < B) ∧ zs.length = xs.length + ys.length ∧ val B zs = val B (xs.take i) * val B ys ∧ ∀ j, i + ys.length ≤ j → zs.getD j 0 = 0
/-- multiplying: what holds in row i ahead of place j -/
def MulIn (B : Nat) (xs ys zs : List Nat) (i j c x : Nat) : Prop :=
  (∀ z ∈ zs, z < B) ∧ zs.length = xs.length + ys.length ∧ c < B ∧ val B zs + B ^ (i + j) * c = val B (xs.take i) * val B ys + B ^ i * (x * val B (ys.take j)) ∧ ∀ k, i + ys.length ≤ k → zs.getD k 0 = 0
theorem getD_replicate (n j : Nat) : (List.replicate n 0).getD j 0 = 0 := by
  rw [List.getD_eq_getElem?_getD, List.getElem?_replicate]; split <;> rfl
theorem MulOut.start {B : Nat} (hB : 2 ≤ B) (xs ys : List Nat) : MulOut B xs ys (List.replicate (xs.length + ys.length) 0) 0 :=
  ⟨fun z hz => by have := List.eq_of_mem_replicate hz; omega, by simp, by rw [val_replicate]; simp [val], fun j _ => getD_replicate _ _⟩
theorem MulOut.begin {B : Nat} (hB : 2 ≤ B) {xs ys zs : List Nat} {i : Nat} (h : MulOut B xs ys zs i) (x : Nat) : MulIn B xs ys zs i 0 0 x :=
  ⟨h.1, h.2.1, by omega, by simp [val, h.2.2.1], h.2.2.2⟩
theorem MulIn.step {B : Nat} (hB : 2 ≤ B) {xs ys zs : List Nat} {i j c x : Nat} (h : MulIn B xs ys zs i j c x) (hi : i < xs.length) (hj : j < ys.length) (hx : x < B) (hy : ys.getD j 0 < B) (t : Nat) (ht : t = x * ys.getD j 0 + zs.getD (i + j) 0 + c) :
    MulIn B xs ys (zs.set (i + j) (t % B)) i (j + 1) (t / B) x := by
  obtain ⟨h1, h2, h3, h4, h5⟩ := h
  refine ⟨mem_set_lt h1 (Nat.mod_lt _ (by omega)), by simpa using h2, ?_, ?_, ?_⟩
  · rw [ht]; exact carry_lt hx hy (getD_lt h1 (by omega) _) h3
  · have := mul_step hB (zs := zs) (i := i + j) (by omega) _ t x (ys.getD j 0) c ht h4
    rw [← Nat.add_assoc, this, val_take_succ, Nat.mul_add x, Nat.mul_add (B ^ i), Nat.pow_add, Nat.add_assoc]
    congr 2
    rw [Nat.mul_assoc, Nat.mul_left_comm x]
  · intro k hk
    rw [getD_set, if_neg (by omega)]; exact h5 k hk
theorem MulIn.done {B : Nat} (hB : 2 ≤ B) {xs ys zs : List Nat} {i c : Nat} (h : MulIn B xs ys zs i ys.length c (xs.getD i 0)) (hi : i < xs.length) : MulOut B xs ys (zs.set (i + ys.length) c) (i + 1) := by
  obtain ⟨h1, h2, h3, h4, h5⟩ := h
  refine ⟨mem_set_lt h1 h3, by simpa using h2, ?_, ?_⟩
  · have e := val_set B zs (i + ys.length) c (by omega)
    rw [h5 _ (Nat.le_refl _), Nat.mul_zero, Nat.add_zero] at e
    rw [e, h4, List.take_of_length_le (Nat.le_refl _), val_take_succ, Nat.add_mul, Nat.mul_assoc]
  · intro k hk
    rw [getD_set, if_neg (by omega)]; exact h5 k (by omega)
theorem MulOut.done {B : Nat} {xs ys zs : List Nat} (h : MulOut B xs ys zs xs.length) : val B zs = val B xs * val B ys := by
  have := h.2.2.1
  rw [List.take_of_length_le (Nat.le_refl _)] at this
  exact this
end Go.Proofs.Ytcbdnnboddahkaa.Ws
