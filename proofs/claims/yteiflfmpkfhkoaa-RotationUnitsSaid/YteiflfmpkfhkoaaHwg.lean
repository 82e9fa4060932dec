/-
  Plain mathematics of Hurwitz quaternions: the common divisor, divides both and is a combination of them.
-/
import Derived.Test.YteiflfmpkfhkoaaHwn
namespace Go.Proofs.Yteiflfmpkfhkoaa.Hwm
open Alm
set_option linter.unusedVariables false
set_option linter.unusedSimpArgs false
def H.add (a b : H) : H := ⟨a.w + b.w, a.x + b.x, a.y + b.y, a.z + b.z⟩
def H.one : H := ⟨2, 0, 0, 0⟩
theorem par_add {a b : H} (ha : par a) (hb : par b) : par (a.add b) := by
  obtain ⟨h1, h2, h3⟩ := ha; obtain ⟨g1, g2, g3⟩ := hb
  unfold H.add par; simp only []; omega
theorem par_one : par H.one := by decide
theorem par_zero : par H.zero := by decide
theorem P_add (a b c : H) : P a (b.add c) = (P a b).add (P a c) := by
  unfold P H.add; refine H.ext' ?_ ?_ ?_ ?_ <;> simp only [] <;> grind
theorem P_add' (a b c : H) : P (a.add b) c = (P a c).add (P b c) := by
  unfold P H.add; refine H.ext' ?_ ?_ ?_ ?_ <;> simp only [] <;> grind
theorem P_sub' (a b c : H) : P (a.sub b) c = (P a c).sub (P b c) := by
  unfold P H.sub; refine H.ext' ?_ ?_ ?_ ?_ <;> simp only [] <;> grind
theorem add_sc (a b : H) (n : Int) : (a.add b).sc n = (a.sc n).add (b.sc n) := by
  unfold H.add H.sc; refine H.ext' ?_ ?_ ?_ ?_ <;> simp only [] <;> grind
theorem sub_sc (a b : H) (n : Int) : (a.sub b).sc n = (a.sc n).sub (b.sc n) := by
  unfold H.sub H.sc; refine H.ext' ?_ ?_ ?_ ?_ <;> simp only [] <;> grind
theorem by_add {a b c : H} (ha : par a) (hb : par b) (hc : par c) : by_ a (b.add c) = (by_ a b).add (by_ a c) := by
  have e1 := (by_sc ha hb).2
  have e2 := (by_sc ha hc).2
  have e3 := (by_sc ha (par_add hb hc)).2
  refine sc_inj (n := 2) (by omega) ?_
  rw [← e3, add_sc, ← e1, ← e2, P_add]
theorem by_sub {a b c : H} (ha : par a) (hb : par b) (hc : par c) : by_ a (b.sub c) = (by_ a b).sub (by_ a c) := by
  have e1 := (by_sc ha hb).2
  have e2 := (by_sc ha hc).2
  have e3 := (by_sc ha (par_sub hb hc)).2
  refine sc_inj (n := 2) (by omega) ?_
  rw [← e3, sub_sc, ← e1, ← e2, P_sub]
theorem by_sub' {a b c : H} (ha : par a) (hb : par b) (hc : par c) : by_ (a.sub b) c = (by_ a c).sub (by_ b c) := by
  have e1 := (by_sc ha hc).2
  have e2 := (by_sc hb hc).2
  have e3 := (by_sc (par_sub ha hb) hc).2
  refine sc_inj (n := 2) (by omega) ?_
  rw [← e3, sub_sc, ← e1, ← e2, P_sub']
theorem by_one (a : H) : by_ a H.one = a := by
  unfold by_
  rw [show H.one = ⟨2, 0, 0, 0⟩ from rfl, P_scal', ov_sc _ (by omega)]
theorem one_by (a : H) : by_ H.one a = a := by
  unfold by_
  rw [show H.one = ⟨2, 0, 0, 0⟩ from rfl, P_scal, ov_sc _ (by omega)]
theorem by_zero (a : H) : by_ a H.zero = H.zero := by
  unfold by_
  rw [show H.zero = ⟨0, 0, 0, 0⟩ from rfl, P_scal']
  unfold H.sc H.ov; simp only [Int.mul_zero, Int.zero_tdiv]
/-- d is a left divisor of x -/
def LD (d x : H) : Prop := ∃ t, par t ∧ x = by_ d t
theorem LD.refl (d : H) : LD d d := ⟨H.one, par_one, (by_one d).symm⟩
theorem LD.zero (d : H) : LD d H.zero := ⟨H.zero, par_zero, (by_zero d).symm⟩
theorem LD.mul {d x a : H} (hd : par d) (ha : par a) (h : LD d x) : LD d (by_ x a) := by
  obtain ⟨t, ht, rfl⟩ := h
  exact ⟨by_ t a, (by_sc ht ha).1, by_assoc hd ht ha⟩
theorem LD.add {d x y : H} (hd : par d) (h : LD d x) (h' : LD d y) : LD d (x.add y) := by
  obtain ⟨t, ht, rfl⟩ := h
  obtain ⟨s, hs, rfl⟩ := h'
  exact ⟨t.add s, par_add ht hs, (by_add hd ht hs).symm⟩
theorem LD.trans {d e x : H} (hd : par d) (h : LD d e) (h' : LD e x) : LD d x := by
  obtain ⟨s, hs, rfl⟩ := h'
  exact LD.mul hd hs h
theorem rem_add {x y : H} : x = (rem x y).add (by_ y (quo x y)) := by
  rw [← rem_eq]
  unfold H.sub H.add
  refine H.ext' ?_ ?_ ?_ ?_ <;> simp only [] <;> omega
/-- the divisions one after the other -/
def gcdF : Nat → H → H → H
  | 0, x, _ => x
  | m + 1, x, y => if zeroB y then x else gcdF m y (rem x y)
def gcdH (x y : H) : H := gcdF ((N y).toNat + 1) x y
theorem nz {y : H} (h : zeroB y = false) : 0 < nn y := nn_pos (fun e => by rw [zeroB_iff.2 e] at h; cases h)
theorem gcdF_par : ∀ (m : Nat) {x y : H}, par x → par y → par (gcdF m x y)
  | 0, x, y, hx, hy => hx
  | m + 1, x, y, hx, hy => by
    unfold gcdF; split
    · exact hx
    · exact gcdF_par m hy (par_rem hx hy)
theorem gcdF_ld : ∀ (m : Nat) {x y : H}, par x → par y → (N y).toNat < m → LD (gcdF m x y) x ∧ LD (gcdF m x y) y
  | 0, x, y, hx, hy, h => by omega
  | m + 1, x, y, hx, hy, h => by
    unfold gcdF
    split
    · rename_i hz
      rw [zeroB_iff.1 hz]
      exact ⟨LD.refl x, LD.zero x⟩
    · rename_i hz
      have hp := nz (Bool.eq_false_iff.2 hz)
      have hlt := rem_lt hx hy hp
      have hn := N_nonneg (rem x y)
      obtain ⟨h1, h2⟩ := gcdF_ld m hy (par_rem hx hy) (by omega)
      have hg := gcdF_par m hy (par_rem hx hy)
      refine ⟨?_, h1⟩
      have := LD.add hg h2 (LD.mul hg (par_quo x y) h1)
      rw [← rem_add] at this
      exact this
theorem gcdF_comb : ∀ (m : Nat) {x y : H}, par x → par y → ∃ a b, par a ∧ par b ∧ gcdF m x y = (by_ x a).add (by_ y b)
  | 0, x, y, hx, hy => ⟨H.one, H.zero, par_one, par_zero, by
      rw [by_one, by_zero]; unfold gcdF H.add H.zero; refine H.ext' ?_ ?_ ?_ ?_ <;> simp⟩
  | m + 1, x, y, hx, hy => by
    unfold gcdF
    split
    · refine ⟨H.one, H.zero, par_one, par_zero, ?_⟩
      rw [by_one, by_zero]; unfold H.add H.zero; refine H.ext' ?_ ?_ ?_ ?_ <;> simp
    · obtain ⟨a, b, ha, hb, he⟩ := gcdF_comb m hy (par_rem hx hy)
      refine ⟨b, a.sub (by_ (quo x y) b), hb, par_sub ha (by_sc (par_quo x y) hb).1, ?_⟩
      have hq := par_quo x y
      rw [he, ← rem_eq, by_sub' hx (by_sc hy hq).1 hb, by_assoc hy hq hb, by_sub hy ha (by_sc hq hb).1]
      unfold H.add H.sub
      refine H.ext' ?_ ?_ ?_ ?_ <;> simp only [] <;> omega
theorem gcdH_par {x y : H} (hx : par x) (hy : par y) : par (gcdH x y) := gcdF_par _ hx hy
theorem gcdH_ld {x y : H} (hx : par x) (hy : par y) : LD (gcdH x y) x ∧ LD (gcdH x y) y := gcdF_ld _ hx hy (by omega)
theorem gcdH_comb {x y : H} (hx : par x) (hy : par y) : ∃ a b, par a ∧ par b ∧ gcdH x y = (by_ x a).add (by_ y b) := gcdF_comb _ hx hy
/-- units: inverses, products -/
theorem unit_inv {u : H} (h : u ∈ U24) : u.conj ∈ U24 ∧ by_ u u.conj = H.one := by
  have hu := (U24_mem u).1 h
  refine ⟨(U24_mem _).2 (by rw [nn_conj]; exact hu), ?_⟩
  unfold by_
  rw [P_conj', hu]
  rfl
theorem unit_mul {u v : H} (h : u ∈ U24) (h' : v ∈ U24) : by_ u v ∈ U24 := by
  have hu := (U24_mem u).1 h
  have hv := (U24_mem v).1 h'
  have e := (by_sc (U24_par h) (U24_par h')).2
  have hn := nn_P u v
  rw [e, nn_sc, hu, hv] at hn
  exact (U24_mem _).2 (by omega)
theorem one_mem : H.one ∈ U24 := (U24_mem _).2 rfl
/-- the canonical associate is an associate -/
theorem can_assoc {x : H} : ∃ u ∈ U24, can x = by_ x u := by
  rcases (gre_max x U24).2.2 with h | ⟨u, hu, h⟩
  · exact ⟨H.one, one_mem, by rw [by_one]; exact h⟩
  · exact ⟨u, hu, h⟩
theorem par_can {x : H} (hx : par x) : par (can x) := by
  obtain ⟨u, hu, h⟩ := can_assoc (x := x)
  rw [h]; exact (by_sc hx (U24_par hu)).1
/-- what x divides, its canonical associate divides -/
theorem can_ld {x y : H} (hx : par x) (h : LD x y) : LD (can x) y := by
  obtain ⟨u, hu, he⟩ := can_assoc (x := x)
  obtain ⟨hc, hi⟩ := unit_inv hu
  have h1 : LD (can x) x := ⟨u.conj, U24_par hc, by rw [he, by_assoc hx (U24_par hu) (U24_par hc), hi, by_one]⟩
  exact LD.trans (par_can hx) h1 h
/-- it is its own canonical associate -/
theorem can_can {x : H} (hx : par x) : can (can x) = can x := by
  obtain ⟨u, hu, he⟩ := can_assoc (x := x)
  obtain ⟨m1, m2, -⟩ := gre_max x U24
  rcases (gre_max (can x) U24).2.2 with h | ⟨v, hv, h⟩
  · exact h
  · -- v moves it: to x (u v), which is not greater; and it is not greater than what it is
    have e : by_ (can x) v = by_ x (by_ u v) := by rw [he, by_assoc hx (U24_par hu) (U24_par hv)]
    have g1 : gtB (by_ (can x) v) (can x) = false := by rw [e]; exact m2 _ (unit_mul hu hv)
    have g2 : gtB (can x) (can (can x)) = false := (gre_max (can x) U24).1
    have h' : can (can x) = by_ (can x) v := h
    rw [h'] at g2 ⊢
    exact gtB_total g1 g2
theorem N_can {x : H} (hx : par x) : N (can x) = N x := by
  obtain ⟨u, hu, h⟩ := can_assoc (x := x)
  rw [h, N_by hx (U24_par hu)]
  have : N u = 1 := by unfold N; rw [(U24_mem u).1 hu]; rfl
  rw [this, Int.mul_one]
end Go.Proofs.Yteiflfmpkfhkoaa.Hwm
