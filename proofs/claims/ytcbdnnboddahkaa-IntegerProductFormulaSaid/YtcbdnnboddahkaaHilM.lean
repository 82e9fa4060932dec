/-
  PLAIN MATHEMATICS: the Hilbert symbol is one number, symmetric, and 1 for a and -a.
-/
import Derived.Test.YtcbdnnboddahkaaHil2
namespace Go.Proofs.Ytcbdnnboddahkaa
open Nt (Pr leg sg Sgn)
set_option linter.unusedVariables false
theorem nope {p : Int} (h4 : p ≠ 0) (h5 : prB p = false) (k4 : p = 0 ∨ prB p = true) : False := by
  rcases k4 with k | k
  · exact h4 k
  · rw [k] at h5; cases h5
theorem h2_symm (U V : Int) (s t : Nat) : h2 U V s t = h2 V U t s := by
  unfold h2
  have e : (U % 4 = 3 ∧ V % 4 = 3) ↔ (V % 4 = 3 ∧ U % 4 = 3) := And.comm
  simp only [e]; grind
theorem hOdd_symm (p : Nat) (u v : Int) (s t : Nat) : hOdd p u v s t = hOdd p v u t s := by
  unfold hOdd
  have e : (s % 2 = 1 ∧ t % 2 = 1 ∧ p % 4 = 3) ↔ (t % 2 = 1 ∧ s % 2 = 1 ∧ p % 4 = 3) := by omega
  simp only [e]; grind
theorem HV.unique {a b p x y : Int} (hp : p = 0 ∨ prB p = true) (hx : HV a b p x) (hy : HV a b p y) : x = y := by
  rcases hx with ⟨e1, e2⟩ | ⟨e1, u, v, s, t, e2, hu, hv⟩ | ⟨e1, e3, u, v, s, t, e2, hu, hv⟩ <;> rcases hy with ⟨f1, f2⟩ | ⟨f1, u', v', s', t', f2, hu', hv'⟩ | ⟨f1, f3, u', v', s', t', f2, hu', hv'⟩
  · rw [e2, f2]
  · omega
  · have := (prB_of f3).1; omega
  · omega
  · obtain ⟨rfl, rfl⟩ := hu.unique (by omega) hu'
    obtain ⟨rfl, rfl⟩ := hv.unique (by omega) hv'
    rw [e2, f2]
  · exact absurd e1 f1
  · have := (prB_of e3).1; omega
  · exact absurd f1 e1
  · have hp2 := (prB_of e3).1
    obtain ⟨rfl, rfl⟩ := hu.unique hp2 hu'
    obtain ⟨rfl, rfl⟩ := hv.unique hp2 hv'
    rw [e2, f2]
theorem HV.symm {a b p x : Int} (h : HV a b p x) : HV b a p x := by
  rcases h with ⟨e1, e2⟩ | ⟨e1, u, v, s, t, e2, hu, hv⟩ | ⟨e1, e3, u, v, s, t, e2, hu, hv⟩
  · refine .inl ⟨e1, ?_⟩
    rw [e2]; have e : (a < 0 ∧ b < 0) ↔ (b < 0 ∧ a < 0) := And.comm
    simp only [e]
  · exact .inr (.inl ⟨e1, v, u, t, s, by rw [e2, h2_symm], hv, hu⟩)
  · exact .inr (.inr ⟨e1, e3, v, u, t, s, by rw [e2, hOdd_symm], hv, hu⟩)
theorem HilRes.unique {a b p x e y f : Int} (h : HilRes a b p x e) (h' : HilRes a b p y f) : x = y ∧ e = f := by
  rcases h with ⟨h1, rfl, rfl⟩ | ⟨h1, h2, h3, rfl, rfl⟩ | ⟨h1, h2, h3, h4, h5, rfl, rfl⟩ | ⟨h1, h2, h3, h4, h5, rfl⟩ <;> rcases h' with ⟨k1, rfl, rfl⟩ | ⟨k1, k2, k3, rfl, rfl⟩ | ⟨k1, k2, k3, k4, k5, rfl, rfl⟩ | ⟨k1, k2, k3, k4, k5, rfl⟩
  all_goals first
    | exact ⟨rfl, rfl⟩
    | (rcases h1 with h1 | h1 <;> contradiction)
    | (rcases k1 with k1 | k1 <;> contradiction)
    | (rw [h3] at k3; cases k3; done)
    | exact (nope h4 h5 k4).elim
    | exact (nope k4 k5 h4).elim
    | exact ⟨HV.unique h4 h5 k5, rfl⟩
theorem HilRes.symm {a b p x e : Int} (h : HilRes a b p x e) : HilRes b a p x e := by
  rcases h with ⟨h1, h2, h3⟩ | ⟨h1, h2, h3, h4, h5⟩ | ⟨h1, h2, h3, h4, h5, h6, h7⟩ | ⟨h1, h2, h3, h4, h5, h6⟩
  · exact .inl ⟨h1.symm, h2, h3⟩
  · exact .inr (.inl ⟨h2, h1, by rw [Bool.and_comm]; exact h3, h4, h5⟩)
  · exact .inr (.inr (.inl ⟨h2, h1, by rw [Bool.and_comm]; exact h3, h4, h5, h6, h7⟩))
  · exact .inr (.inr (.inr ⟨h2, h1, by rw [Bool.and_comm]; exact h3, h4, h5.symm, h6⟩))
/-- the symbol of a and -a -/
theorem HV.neg {a p x : Int} (ha : a ≠ 0) (h : HV a (-a) p x) : x = 1 := by
  rcases h with ⟨e1, e2⟩ | ⟨e1, u, v, s, t, e2, hu, hv⟩ | ⟨e1, e3, u, v, s, t, e2, hu, hv⟩
  · rw [e2, if_neg (by omega)]
  · obtain ⟨rfl, rfl⟩ := hv.unique (by omega) hu.neg
    have hu2 := hu.2
    have ou : u % 8 = 1 ∨ u % 8 = 3 ∨ u % 8 = 5 ∨ u % 8 = 7 := by omega
    rw [e2]
    rcases ou with e | e | e | e
    · have e' : (-u) % 8 = 7 := by omega
      rw [e, e']; simp [h2]
    · have e' : (-u) % 8 = 5 := by omega
      rw [e, e']; simp [h2]; split <;> rfl
    · have e' : (-u) % 8 = 3 := by omega
      rw [e, e']; simp [h2]; split <;> rfl
    · have e' : (-u) % 8 = 1 := by omega
      rw [e, e']; simp [h2]
  · obtain ⟨p2, p9, hpr⟩ := prB_of e3
    obtain ⟨k, rfl⟩ : ∃ k : Nat, p = k := ⟨p.toNat, by omega⟩
    rw [Int.toNat_natCast] at hpr e2
    have ko : k % 2 = 1 := pr_odd hpr (fun h => e1 (by omega))
    obtain ⟨rfl, rfl⟩ := hv.unique p2 hu.neg
    rw [e2]
    unfold hOdd
    have hl : leg (-u) k = leg (-1) k * leg u k := by
      rw [← Nt.leg_mul hpr ko]; congr 1; omega
    have hsq := Nt.leg_sq hpr ko hu.2
    have h1 := Nt.leg_neg_one hpr ko
    rcases Nat.mod_two_eq_zero_or_one t with hs | hs
    · simp [hs]
    · have h4 : k % 4 = 1 ∨ k % 4 = 3 := by omega
      rcases h4 with h4 | h4
      · have h5 : (k - 1) / 2 % 2 = 0 := by omega
        rw [hl, h1]
        simp [hs, h4, Nt.sg, h5, hsq]
      · have h5 : (k - 1) / 2 % 2 = 1 := by omega
        rw [hl, h1]
        simp [hs, h4, Nt.sg, h5, hsq]
end Go.Proofs.Ytcbdnnboddahkaa
