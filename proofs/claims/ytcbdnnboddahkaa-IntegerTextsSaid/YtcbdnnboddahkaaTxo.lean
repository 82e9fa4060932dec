/-
  Which texts are written by Format: plain mathematics.
-/
import Derived.Test.YtcbdnnboddahkaaTxp
namespace Go.Proofs.Ytcbdnnboddahkaa.Tx
open Ws
set_option linter.unusedVariables false
/-- the number with all digits of a text -/
def fv (l : List Nat) : Nat := dv (l.filter digB)
theorem dv_snoc (d : List Nat) (c : Nat) : dv (d ++ [c]) = dv d * 10 + (c - 48) := by
  unfold dv; rw [List.foldl_append]; rfl
theorem fv_take {l : List Nat} {k : Nat} (hk : k < l.length) : fv (l.take (k + 1)) = if digB (l.getD k 0) then fv (l.take k) * 10 + (l.getD k 0 - 48) else fv (l.take k) := by
  unfold fv
  rw [List.take_succ_eq_append_getElem hk, List.filter_append, List.getD_eq_getElem?_getD, List.getElem?_eq_getElem hk]
  show dv (List.filter digB (List.take k l) ++ List.filter digB [l[k]]) = if digB l[k] then _ else _
  cases h : digB l[k] with
  | true => rw [List.filter_cons_of_pos h, List.filter_nil, dv_snoc]; rfl
  | false => rw [List.filter_cons_of_neg (by simp [h]), List.filter_nil, List.append_nil]; rfl
theorem val_rev (d : List Nat) : val 10 ((d.map fun c => c - 48).reverse) = dv d := by
  have key : ∀ (m : Nat) (d : List Nat), d.length = m → val 10 ((d.map fun c => c - 48).reverse) = dv d := by
    intro m
    induction m with
    | zero => intro d h; rw [List.eq_nil_of_length_eq_zero h]; rfl
    | succ m ih =>
      intro d h
      rcases List.eq_nil_or_concat d with h0 | ⟨e, c, h0⟩
      · subst h0; rfl
      · rw [List.concat_eq_append] at h0
        subst h0
        rw [dv_snoc, List.map_append, List.reverse_append]
        simp only [List.map_cons, List.map_nil, List.reverse_cons, List.reverse_nil, List.nil_append, List.cons_append, val]
        rw [ih e (by simp at h; exact h)]
        omega
  exact key d.length d rfl
theorem dig_of {d : List Nat} (h : d.all digB = true) : ∀ c ∈ d, 48 ≤ c ∧ c ≤ 57 := by
  intro c hc
  have := List.all_eq_true.1 h c hc
  unfold digB at this
  rw [Bool.and_eq_true, decide_eq_true_iff, decide_eq_true_iff] at this
  exact this
/-- a numeral is 0, or what the number is written as -/
theorem num_txt {d : List Nat} (h : numB d = true) : d = [48] ∨ (dv d ≠ 0 ∧ ((dgs 10 (dv d)).map fun x => x + 48).reverse = d) := by
  unfold numB at h
  rw [Bool.and_eq_true] at h
  obtain ⟨hall, h2⟩ := h
  have hd := dig_of hall
  by_cases h48 : d = [48]
  · exact .inl h48
  right
  rw [decide_eq_false h48, Bool.false_or, Bool.and_eq_true, decide_eq_true_iff, decide_eq_true_iff] at h2
  obtain ⟨hne, hh⟩ := h2
  match d, hne with
  | c :: t, _ =>
    have hc0 : c ≠ 48 := by simpa using hh
    have hcb := hd c (by simp)
    have hlt : ∀ x ∈ ((c :: t).map fun c => c - 48).reverse, x < 10 := by
      intro x hx
      obtain ⟨y, hy, rfl⟩ := List.mem_map.1 (List.mem_reverse.1 hx)
      have := hd y hy; omega
    have htr : trimL (((c :: t).map fun c => c - 48).reverse) = ((c :: t).map fun c => c - 48).reverse := by
      rw [List.map_cons, List.reverse_cons]
      exact trimL_snoc _ _ (by omega)
    have e : dgs 10 (dv (c :: t)) = ((c :: t).map fun c => c - 48).reverse := by
      rw [← val_rev, dgs_val 10 (by decide) _ hlt, htr]
    refine ⟨fun h0 => ?_, ?_⟩
    · rw [h0, dgs_zero] at e
      simp at e
    · rw [e, List.map_reverse, List.reverse_reverse, List.map_map]
      have : ∀ (l : List Nat), (∀ x ∈ l, 48 ≤ x ∧ x ≤ 57) → l.map ((fun x => x + 48) ∘ fun c => c - 48) = l := by
        intro l hl
        induction l with
        | nil => rfl
        | cons x l ih =>
          rw [List.map_cons, ih fun y hy => hl y (by simp [hy])]
          have := hl x (by simp)
          show (x - 48 + 48) :: l = x :: l
          rw [Nat.sub_add_cancel this.1]
      exact this _ hd
theorem last_digit {n : Nat} (h : n ≠ 0) : ∃ ys y, dgs 10 n = ys ++ [y] ∧ y ≠ 0 := by
  rcases List.eq_nil_or_concat (dgs 10 n) with h0 | ⟨ys, y, h0⟩
  · exact absurd ((dgs_nil 10 n (by decide)).1 h0) h
  · rw [List.concat_eq_append] at h0
    refine ⟨ys, y, h0, fun hy => ?_⟩
    subst hy
    have h1 := trimL_dgs 10 (by decide) n
    rw [h0, trimL_snoc_zero] at h1
    have h2 := trimL_length ys
    rw [h1] at h2
    simp at h2
    omega
theorem txt_num {n : Nat} (h : n ≠ 0) : numB (((dgs 10 n).map fun x => x + 48).reverse) = true ∧ ((dgs 10 n).map fun x => x + 48).reverse ≠ [48] := by
  obtain ⟨ys, y, e, hy⟩ := last_digit h
  have hd := dgs_lt 10 (by decide) n
  have e2 : ((dgs 10 n).map fun x => x + 48).reverse = (y + 48) :: ((ys.map fun x => x + 48).reverse) := by rw [e]; simp
  have hall : (((dgs 10 n).map fun x => x + 48).reverse).all digB = true := by
    rw [List.all_eq_true]
    intro c hc
    obtain ⟨x, hx, rfl⟩ := List.mem_map.1 (List.mem_reverse.1 hc)
    have := hd x hx
    unfold digB
    rw [Bool.and_eq_true, decide_eq_true_iff, decide_eq_true_iff]; omega
  have hne : ((dgs 10 n).map fun x => x + 48).reverse ≠ [48] := by
    rw [e2]; intro h2; injection h2 with h3 h4; omega
  refine ⟨?_, hne⟩
  unfold numB
  rw [hall, decide_eq_false hne, Bool.true_and, Bool.false_or, Bool.and_eq_true, decide_eq_true_iff, decide_eq_true_iff]
  rw [e2]
  exact ⟨by simp, by simp; omega⟩
theorem neg_cons {l : List Nat} (h : negB l = true) : l = 45 :: l.tail := by
  unfold negB at h
  rw [decide_eq_true_iff] at h
  cases l with
  | nil => simp at h
  | cons c t => simp at h; subst h; rfl
theorem filter_all {d : List Nat} (h : d.all digB = true) : d.filter digB = d := List.filter_eq_self.2 (List.all_eq_true.1 h)
theorem ok_fv {l : List Nat} (h : okB l = true) : fv l = dv (body l) := by
  unfold okB at h
  rw [Bool.and_eq_true] at h
  have hall : (body l).all digB = true := by
    have := h.1; unfold numB at this; rw [Bool.and_eq_true] at this; exact this.1
  unfold fv
  cases hn : negB l with
  | true =>
    have e := neg_cons hn
    have hb : body l = l.tail := by unfold body; rw [hn]; rfl
    rw [hb] at hall ⊢
    have : l.filter digB = l.tail.filter digB := by
      rw [e]; rfl
    rw [this, filter_all hall]
  | false =>
    have hb : body l = l := by unfold body; rw [hn]; rfl
    rw [hb] at hall ⊢
    rw [filter_all hall]
theorem ok_txt {l : List Nat} (h : okB l = true) : txt (negB l && decide (fv l ≠ 0)) (fv l) = l := by
  have hf := ok_fv h
  rw [hf]
  unfold okB at h
  rw [Bool.and_eq_true] at h
  obtain ⟨h1, h2⟩ := h
  rcases num_txt h1 with h48 | ⟨h0, ht⟩
  · have hn : negB l = false := by
      cases hn : negB l with
      | false => rfl
      | true => rw [hn, h48] at h2; simp at h2
    have hb : body l = l := by unfold body; rw [hn]; rfl
    rw [hn, h48]
    rw [hb] at h48
    rw [h48]; rfl
  · rw [decide_eq_true h0, Bool.and_true]
    unfold txt
    rw [if_neg h0, ht]
    cases hn : negB l with
    | true =>
      have hb : body l = l.tail := by unfold body; rw [hn]; rfl
      rw [hb]; exact (neg_cons hn).symm
    | false =>
      have hb : body l = l := by unfold body; rw [hn]; rfl
      rw [hb]; rfl
theorem txt_ok {l : List Nat} (h : txt (negB l && decide (fv l ≠ 0)) (fv l) = l) : okB l = true := by
  by_cases h0 : fv l = 0
  · unfold txt at h
    rw [if_pos h0] at h
    rw [← h]; decide
  · rw [decide_eq_true h0, Bool.and_true] at h
    unfold txt at h
    rw [if_neg h0] at h
    obtain ⟨k1, k2⟩ := txt_num h0
    generalize ((dgs 10 (fv l)).map fun d => d + 48).reverse = r at *
    unfold okB
    cases hn : negB l with
    | true =>
      rw [hn] at h
      have hb : body l = r := by unfold body; rw [hn, ← h]; rfl
      rw [hb, k1, decide_eq_false k2]; rfl
    | false =>
      rw [hn] at h
      have hb : body l = r := by unfold body; rw [hn, ← h]; rfl
      rw [hb, k1]; rfl
theorem ok_z {l : List Nat} (hl : ¬ 400 < l.length) (h : okB l = true) : (if negB l = true then -((fv l : Nat) : Int) else (fv l : Int)) = pz l := by
  unfold pz
  rw [if_neg hl, if_pos h, ok_fv h]
end Go.Proofs.Ytcbdnnboddahkaa.Tx
