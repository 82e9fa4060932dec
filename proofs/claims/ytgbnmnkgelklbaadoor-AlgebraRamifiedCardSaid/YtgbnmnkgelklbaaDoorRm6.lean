/-
  Lists of numbers that a call made; products of different primes that divide a number.
-/
import Derived.Test.YtgbnmnkgelklbaaDoorRm3
namespace Go.Proofs.YtgbnmnkgelklbaaDoor.Rm
open Go.RowKit
open Nt (Pr)
set_option linter.unusedVariables false
set_option linter.unusedSimpArgs false
set_option maxRecDepth 100000
def LN (B : Nat) (w : World) (A : Option Addr) (c : Nat) (l : List Nat) : Prop := w.ownsRow B 3 1 (.slice A l.length c) l.length (nvs l)
theorem LN.of {B : Nat} {w : World} {v : Value} {l : List Nat} (h : w.ownsRow B 3 1 v l.length (nvs l)) : ∃ A c, v = .slice A l.length c ∧ LN B w A c l ∧ c ≤ 9223372036854775807 ∧ l.length ≤ c := by
  have h' := h
  rcases h.2 with ⟨rfl, h0⟩ | ⟨g, cap, cur, rfl, hb, hg, h1, h2, h3, h4⟩
  · exact ⟨none, 0, by rw [h0], by unfold LN; rw [h0]; rw [h0] at h'; exact h', by omega, by omega⟩
  · exact ⟨_, cap, rfl, h', by unfold maxLen at h2; omega, h1⟩
theorem LN.at_ {B : Nat} {w : World} {A : Option Addr} {c : Nat} {l : List Nat} (h : LN B w A c l) {j : Nat} {q : Nat} (hj : l[j]? = some q) : ∃ b, A = some ⟨b, 0, none⟩ ∧ w.cell? ⟨b, j, none⟩ = some (.int .i64 q) ∧ B ≤ b ∧ b < w.heap.size := by
  have hjl : j < l.length := (List.getElem?_eq_some_iff.1 hj).1
  rcases h.2 with ⟨h0, h1⟩ | ⟨g, cap, cur, hv, hb, hg, h1, h2, h3, h4⟩
  · omega
  · injection hv with e1 e2 e3
    subst e1 e3
    refine ⟨g, rfl, ?_, hb, (Array.getElem?_eq_some_iff.1 hg).1⟩
    rw [World.ownsRow.cellAt h j (by omega)]
    unfold nvs
    rw [List.getElem?_map, hj]; rfl
theorem LN.below {B B' : Nat} {w w' : World} {A : Option Addr} {c : Nat} {l : List Nat} (h : LN B w A c l) (hb : Below B' w w') (hB : ∀ a, A = some a → a.block < B') : LN B w' A c l := by
  refine ⟨h.1, ?_⟩
  rcases h.2 with ⟨h0, h1⟩ | ⟨g, cap, cur, hv, h5, hg, h1, h2, h3, h4⟩
  · exact .inl ⟨h0, h1⟩
  · injection hv with e1 e2 e3
    subst e1 e3
    exact .inr ⟨g, c, cur, rfl, h5, (hb.block g (hB _ rfl)).trans hg, h1, h2, h3, h4⟩
theorem LN.lt {B : Nat} {w : World} {A : Option Addr} {c : Nat} {l : List Nat} (h : LN B w A c l) : ∀ a, A = some a → a.block < w.heap.size := by
  intro a ha
  subst ha
  rcases h.2 with ⟨h0, h1⟩ | ⟨g, cap, cur, hv, h5, hg, h1, h2, h3, h4⟩
  · cases h0
  · injection hv with e1 e2 e3
    injection e1 with e1
    subst e1
    exact (Array.getElem?_eq_some_iff.1 hg).1
theorem prod_dvd : ∀ (l : List Nat) (N : Nat), (∀ q ∈ l, Pr q ∧ q ∣ N) → l.Nodup → l.prod ∣ N
  | [], N, _, _ => by simp
  | q :: l, N, h, hn => by
    obtain ⟨pq, M, rfl⟩ := h q (by simp)
    have hn' := List.nodup_cons.1 hn
    rw [List.prod_cons]
    refine Nat.mul_dvd_mul_left q (prod_dvd l M (fun r hr => ?_) hn'.2)
    obtain ⟨pr, hd⟩ := h r (by simp [hr])
    refine ⟨pr, ?_⟩
    rcases pr.dvd_mul hd with h1 | h1
    · rcases pq.2 r h1 with h2 | h2
      · have := pr.1; omega
      · subst h2; exact absurd hr hn'.1
    · exact h1
theorem RL_mem {A B : Int} {n q : Nat} (h : q ∈ RL A B n) : Pr q ∧ q ∣ (2 * A * B).natAbs := by
  rw [← RL_of] at h
  have h1 := (List.mem_filter.1 h).1
  unfold PL at h1
  exact prd_iff.1 (List.mem_filter.1 h1).2
theorem RL_nodup (A B : Int) (n : Nat) : (RL A B n).Nodup := List.Pairwise.filter _ List.nodup_range
theorem RL_prod {A B : Int} (hA : A ≠ 0) (hB : B ≠ 0) (h1 : -1000 ≤ A ∧ A ≤ 1000) (h2 : -1000 ≤ B ∧ B ≤ 1000) (n k : Nat) : ((RL A B n).take k).prod ≤ 2000000 ∧ 1 ≤ ((RL A B n).take k).prod := by
  have hd := prod_dvd ((RL A B n).take k) (2 * A * B).natAbs (fun q hq => RL_mem (List.mem_of_mem_take hq)) (List.Pairwise.sublist (List.take_sublist k _) (RL_nodup A B n))
  obtain ⟨-, hb, hz⟩ := size_bd hA hB h1 h2
  have := Nat.le_of_dvd (by omega) hd
  have h0 : ((RL A B n).take k).prod ≠ 0 := by
    intro h; rw [h] at hd; have := Nat.eq_zero_of_zero_dvd hd; omega
  omega
theorem take_prod {l : List Nat} {k q : Nat} (h : l[k]? = some q) : (l.take (k + 1)).prod = (l.take k).prod * q := by
  rw [List.take_add_one, h, List.prod_append]; simp
end Go.Proofs.YtgbnmnkgelklbaaDoor.Rm
