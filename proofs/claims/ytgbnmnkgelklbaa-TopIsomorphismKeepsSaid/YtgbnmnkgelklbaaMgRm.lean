/-
  Plain mathematics of ramified primes: the primes that divide a number, in order; those among them with the symbol -1.
  WALKS: the factors of a number, with their exponents.
  WALKS: the ramified primes.
  Lists of numbers that a call made; products of different primes that divide a number.
  WALKS: ramified primes, discriminants, and whether an algebra is definite, the program's side.
  The reference's Hilbert symbol, at every place.
  WALKS: ramified primes, discriminants, and whether an algebra is definite, the reference's side.
  WALKS: the reference's discriminant; lists compared.
-/
import Derived.Test.YtgbnmnkgelklbaaWPrime
import Derived.Test.YtgbnmnkgelklbaaStrip
import Derived.Test.YtgbnmnkgelklbaaMgHil
import Derived.OwnWalk
import Derived.Laws.AppendOwn
import Derived.Test.YtgbnmnkgelklbaaAl6
import Derived.Lib.SmallJoins
import Derived.Test.YtgbnmnkgelklbaaLw0
namespace Go.Proofs.Ytgbnmnkgelklbaa.Rm
open Go.RowKit
open Nt (Pr)
set_option linter.unusedVariables false
set_option linter.unusedSimpArgs false
set_option maxRecDepth 100000
noncomputable def prd (n q : Nat) : Bool := @decide (Pr q ∧ q ∣ n) (Classical.propDecidable _)
theorem prd_iff {n q : Nat} : prd n q = true ↔ Pr q ∧ q ∣ n := by unfold prd; exact @decide_eq_true_iff _ (Classical.propDecidable _)
/-- the primes below d that divide n -/
noncomputable def PL (n d : Nat) : List Nat := (List.range d).filter (prd n)
theorem filt_skip (f : Nat → Bool) {a b : Nat} (hab : a ≤ b) (h : ∀ q, a ≤ q → q < b → f q = false) : (List.range b).filter f = (List.range a).filter f := by
  obtain ⟨k, rfl⟩ : ∃ k, b = a + k := ⟨b - a, by omega⟩
  clear hab
  induction k with
  | zero => rfl
  | succ k ih =>
    rw [← Nat.add_assoc, List.range_succ, List.filter_append, ih (fun q h1 h2 => h q h1 (by omega))]
    simp [h (a + k) (by omega) (by omega)]
theorem filt_take (f : Nat → Bool) {p : Nat} (h : f p = true) : (List.range (p + 1)).filter f = (List.range p).filter f ++ [p] := by
  rw [List.range_succ, List.filter_append]; simp [h]
theorem filt_drop (f : Nat → Bool) {p : Nat} (h : f p = false) : (List.range (p + 1)).filter f = (List.range p).filter f := by
  rw [List.range_succ, List.filter_append]; simp [h]
/-- the state of the factoring: m is left of n, p the last prime, d the bound below which all is done -/
structure FR (n m p d : Nat) (L : List (Nat × Nat)) : Prop where
  m1 : 1 ≤ m
  mn : m ≤ n
  p2 : 2 ≤ p
  po : p = 2 ∨ p % 2 = 1
  pd : p ≤ d
  dp : d ≤ p + 1
  pn : p ≤ n + 1
  fr : Free m d
  ls : L.map Prod.fst = PL n d
  dv : m ∣ n
  all : ∀ q, Pr q → d ≤ q → q ∣ n → q ∣ m
  dn : d ≤ n + 1 ∨ d = 2
theorem FR.start {n : Nat} (h : 1 ≤ n) : FR n n 2 2 [] := by
  refine ⟨h, Nat.le_refl _, Nat.le_refl _, .inl rfl, Nat.le_refl _, by omega, by omega, Free.two n, ?_, Nat.dvd_refl _, fun q _ _ h => h, .inr rfl⟩
  have : PL n 2 = PL n 0 := filt_skip _ (by omega) fun q h1 h2 => by
    rw [Bool.eq_false_iff]; intro h3; have := (prd_iff.1 h3).1.1; omega
  rw [this]; rfl
theorem Free.le {n d e : Nat} (h : Free n d) (he : e ≤ d) : Free n e := fun k h1 h2 => h k h1 (by omega)
theorem FR.ld {n m p d : Nat} {L : List (Nat × Nat)} (h : FR n m p d L) (hn : n ≤ 1000000000) : LdRel m p := ⟨h.p2, h.po, Free.le h.fr h.pd, by have := h.pn; omega⟩
theorem FR.next {n m p d r k s : Nat} {L : List (Nat × Nat)} (h : FR n m p d L) (hr : 2 ≤ r) (hrm : r ∣ m) (hf : Free m r) (hs : m = s * r ^ k) (hnd : ¬ r ∣ s) (hs1 : 1 ≤ s) : FR n s r (r + 1) (L ++ [(r, k)]) ∧ s < m := by
  have hm1 := h.m1
  have hrl : r ≤ m := Nat.le_of_dvd (by omega) hrm
  have pr : Pr r := Free.pr hr fun e h1 h2 h3 => hf e h1 h2 (Nat.dvd_trans h3 hrm)
  have hdr : d ≤ r := by
    apply Nat.le_of_not_lt; intro h1; exact h.fr r hr h1 hrm
  have hk : k ≠ 0 := by rintro rfl; rw [Nat.pow_zero, Nat.mul_one] at hs; rw [hs] at hrm; exact hnd hrm
  have hsm : s ∣ m := ⟨r ^ k, hs⟩
  have hlt : s < m := by
    have h2 : s * 2 ≤ s * r ^ k := Nat.mul_le_mul_left _ (Nat.le_trans hr (by have := Nat.pow_le_pow_right (n := r) (by omega) (show 1 ≤ k by omega); rwa [Nat.pow_one] at this))
    omega
  refine ⟨⟨hs1, by have := h.mn; omega, hr, ?_, by omega, by omega, by have := h.mn; omega, ?_, ?_, Nat.dvd_trans hsm h.dv, ?_, .inl (by have := h.mn; omega)⟩, hlt⟩
  · rcases Nat.mod_two_eq_zero_or_one r with e | e
    · rcases pr.2 2 (Nat.dvd_of_mod_eq_zero e) with e2 | e2 <;> omega
    · exact .inr e
  · intro e h1 h2 h3
    by_cases he : e = r
    · exact hnd (he ▸ h3)
    · exact hf e h1 (by omega) (Nat.dvd_trans h3 hsm)
  · rw [List.map_append, h.ls]
    show PL n d ++ [r] = PL n (r + 1)
    unfold PL
    rw [filt_take _ (prd_iff.2 ⟨pr, Nat.dvd_trans hrm h.dv⟩), filt_skip _ hdr fun q h1 h2 => by
      rw [Bool.eq_false_iff]; intro h3
      obtain ⟨h4, h5⟩ := prd_iff.1 h3
      exact hf q h4.1 h2 (h.all q h4 h1 h5)]
  · intro q h1 h2 h3
    have h4 := h.all q h1 (by omega) h3
    rw [hs] at h4
    rcases h1.dvd_mul h4 with h5 | h5
    · exact h5
    · exfalso
      have : ∀ j, q ∣ r ^ j → q ∣ r := by
        intro j
        induction j with
        | zero => intro h6; rw [Nat.pow_zero] at h6; have := Nat.le_of_dvd (by omega) h6; have := h1.1; omega
        | succ j ih =>
          intro h6
          rw [Nat.pow_succ] at h6
          rcases h1.dvd_mul h6 with h7 | h7
          · exact ih h7
          · exact h7
      rcases pr.2 q (this k h5) with h6 | h6
      · have := h1.1; omega
      · omega
theorem FR.len {n m p d : Nat} {L : List (Nat × Nat)} (h : FR n m p d L) : L.length ≤ n + 2 := by
  have h1 : L.length = (PL n d).length := by rw [← h.ls, List.length_map]
  have h2 : (PL n d).length ≤ d := by
    unfold PL
    have := List.length_filter_le (prd n) (List.range d)
    rwa [List.length_range] at this
  have := h.dp; have := h.pn; omega
theorem FR.stop {n p d : Nat} {L : List (Nat × Nat)} (h : FR n 1 p d L) (hn : 1 ≤ n) : L.map Prod.fst = PL n (n + 1) := by
  have h0 : ∀ q, d ≤ q → prd n q = false := fun q h1 => by
    rw [Bool.eq_false_iff]; intro h3
    obtain ⟨h4, h5⟩ := prd_iff.1 h3
    have := Nat.le_of_dvd (by omega) (h.all q h4 h1 h5); have := h4.1; omega
  rw [h.ls]
  rcases h.dn with h1 | h1
  · unfold PL; rw [filt_skip _ h1 fun q h2 _ => h0 q h2]
  · subst h1
    unfold PL; rw [filt_skip _ (show 2 ≤ n + 1 by omega) fun q h2 _ => h0 q h2]
/-- the symbol and its error -/
noncomputable def hv (a b p : Int) : Int × Int := Classical.epsilon fun x : Int × Int => HilRes a b p x.1 x.2
theorem hv_of {a b p x l : Int} (h : HilRes a b p x l) : x = (hv a b p).1 ∧ l = (hv a b p).2 :=
  h.unique (Classical.epsilon_spec (p := fun x : Int × Int => HilRes a b p x.1 x.2) ⟨(x, l), h⟩)
theorem hil_v {a b p : Int} {e : Ending} (h : HilEnd a b p e) : e = .returned (.tuple #[.int .i64 (hv a b p).1, .int .i64 (hv a b p).2]) := by
  obtain ⟨x, l, rfl, h1⟩ := h
  obtain ⟨e1, e2⟩ := hv_of h1
  rw [← e1, ← e2]
noncomputable def ramB (A B : Int) (q : Nat) : Bool := @decide (Pr q ∧ (q = 2 ∨ q ∣ A.natAbs ∨ q ∣ B.natAbs) ∧ (hv A B q).1 = -1) (Classical.propDecidable _)
theorem ramB_iff {A B : Int} {q : Nat} : ramB A B q = true ↔ Pr q ∧ (q = 2 ∨ q ∣ A.natAbs ∨ q ∣ B.natAbs) ∧ (hv A B q).1 = -1 := by unfold ramB; exact @decide_eq_true_iff _ (Classical.propDecidable _)
/-- the ramified primes below n -/
noncomputable def RL (A B : Int) (n : Nat) : List Nat := (List.range n).filter (ramB A B)
theorem RL_of (A B : Int) (n : Nat) : (PL (2 * A * B).natAbs n).filter (fun q : Nat => (hv A B q).1 == -1) = RL A B n := by
  unfold PL RL
  rw [List.filter_filter]
  congr 1
  funext q
  rw [Bool.eq_iff_iff, Bool.and_eq_true, beq_iff_eq, prd_iff, ramB_iff]
  constructor
  · rintro ⟨h1, h2, h3⟩
    refine ⟨h2, ?_, h1⟩
    rw [Int.natAbs_mul, Int.natAbs_mul] at h3
    rcases h2.dvd_mul h3 with h4 | h4
    · rcases h2.dvd_mul h4 with h5 | h5
      · have := Nat.le_of_dvd (by omega) h5; have := h2.1; exact .inl (by omega)
      · exact .inr (.inl h5)
    · exact .inr (.inr h4)
  · rintro ⟨h1, h2, h3⟩
    refine ⟨h3, h1, ?_⟩
    rw [Int.natAbs_mul, Int.natAbs_mul]
    rcases h2 with rfl | h2 | h2
    · exact Nat.dvd_trans (Nat.dvd_mul_right _ _) (Nat.dvd_mul_right _ _)
    · exact Nat.dvd_trans (Nat.dvd_trans h2 (Nat.dvd_mul_left _ _)) (Nat.dvd_mul_right _ _)
    · exact Nat.dvd_trans h2 (Nat.dvd_mul_left _ _)
theorem RL_far {A B : Int} (hA : A ≠ 0) (hB : B ≠ 0) (h1 : A.natAbs ≤ 1000) (h2 : B.natAbs ≤ 1000) {n : Nat} (hn : 1001 ≤ n) : RL A B n = RL A B 1001 := by
  unfold RL
  refine filt_skip _ hn fun q h3 _ => ?_
  rw [Bool.eq_false_iff]; intro h4
  obtain ⟨h5, h6 | h6 | h6, -⟩ := ramB_iff.1 h4
  · omega
  · have := Nat.le_of_dvd (by omega) h6; omega
  · have := Nat.le_of_dvd (by omega) h6; omega
/-- what the factoring gives, whatever lies beyond the bound -/
theorem PL_far {n N : Nat} (hn : 1 ≤ n) (hN : n + 1 ≤ N) : PL n N = PL n (n + 1) := by
  unfold PL
  refine filt_skip _ hN fun q h3 _ => ?_
  rw [Bool.eq_false_iff]; intro h4
  have := Nat.le_of_dvd (by omega) (prd_iff.1 h4).2; omega
end Go.Proofs.Ytgbnmnkgelklbaa.Rm
namespace Go.Proofs.Ytgbnmnkgelklbaa.Rm
open Go.RowKit
open Nt (Pr)
set_option linter.unusedVariables false
set_option linter.unusedSimpArgs false
set_option maxRecDepth 100000
def flat : List (Nat × Nat) → List Value
  | [] => []
  | q :: l => .int .i64 q.1 :: .int .i64 q.2 :: flat l
theorem flat_app : ∀ l m : List (Nat × Nat), flat (l ++ m) = flat l ++ flat m
  | [], m => rfl
  | q :: l, m => by simp only [List.cons_append, flat]; rw [flat_app l m]
theorem flat_len : ∀ l : List (Nat × Nat), (flat l).length = l.length * 2
  | [] => rfl
  | q :: l => by simp only [flat, List.length_cons]; rw [flat_len l]; omega
theorem flat_get : ∀ (l : List (Nat × Nat)) (i : Nat) (q : Nat × Nat), l[i]? = some q → (flat l)[i * 2]? = some (.int .i64 q.1) ∧ (flat l)[i * 2 + 1]? = some (.int .i64 q.2)
  | [], i, q, h => by simp at h
  | r :: l, 0, q, h => by simp at h; subst h; exact ⟨rfl, rfl⟩
  | r :: l, i + 1, q, h => by
    have := flat_get l i q (by simpa using h)
    have e1 : (i + 1) * 2 = i * 2 + 2 := by omega
    rw [e1]; exact this
theorem infoPw : (Try.prog.info? 96).map (fun i => (i.zero, i.size, i.bytes)) = some (some (.agg #[.int .i64 0, .int .i64 0]), 2, 16) := by kernel_rfl
theorem two_new (w : World) (u v : Value) (T : TypeId) (n : Nat) (hn : n = w.heap.size) : ∀ (j : Nat) (x : Value), [u, v][j]? = some x → (w.alloc (.cells #[u, v] T)).cell? ((⟨n, 0, none⟩ : Addr).add j) = some x := by
  subst hn
  intro j x hj
  match j with
  | 0 => simp at hj; subst hj; simp [go_sem]
  | 1 => simp at hj; subst hj; simp [go_sem]
  | j + 2 => simp at hj
def FcEnd (n : Nat) (w : World) (e : Ending) (w' : World) : Prop := ∃ (v : Value) (L : List (Nat × Nat)), e = .returned v ∧ L.map Prod.fst = PL n (n + 1) ∧ L.length ≤ n + 2 ∧ w'.ownsRow w.heap.size 96 2 v L.length (flat L) ∧ Below w.heap.size w w'
set_option maxHeartbeats 4000000 in
theorem factor_any (n : Nat) (w : World) (h1 : 1 ≤ n) (h2 : n ≤ 1000000000) :
    Calls Try.prog 70 #[.int .i64 n] w fun e w' => FcEnd n w e w' := by
  obtain ⟨i0, hi, hz0, hz1, hz2⟩ := info_parts infoPw
  go_enter Try.func70, Try.ntmps70
  go_wp2_with fail
  go_loopw [0, 3, 4] (fun t0 t3 t4 wr => ∃ (m p d : Nat) (L : List (Nat × Nat)), (FR n m p d L ∧ wr.ownsRow w.heap.size 96 2 t3 L.length (flat L) ∧ Below w.heap.size w wr) ∧ t0 = .int .i64 m ∧ t4 = .int .i64 p) (fun t0 _ _ _ => (intOf t0).toNat)
  case atStart => exact ⟨n, 2, 2, [], ⟨FR.start h1, World.ownsRow_nil _ _ _ _, Below.refl _ _⟩, rfl, rfl⟩
  case round =>
    obtain ⟨m, p, d, L, ⟨hrel, hown, hbel⟩, rfl, rfl⟩ := hrel
    obtain ⟨wo, rfl⟩ : ∃ wo : World, wo = wr := ⟨_, rfl⟩
    have hlen := hrel.len
    have m1 := hrel.m1
    have mn := hrel.mn
    have HR := Lib.hid hrel
    have HO := Lib.hid hown
    have HB := Lib.hid hbel
    clear hrel hown hbel
    by_cases hm : 1 < m
    · have ht : decide ((1 : Int) < (m : Int)) = true := decide_eq_true (by omega)
      have LD := Lib.hid (fun W => ld_any m p W (by omega) (by omega) (HR.out.ld h2))
      go_wp2_with fail
      refine (LD.out _).mono ?_
      rintro e w2 ⟨⟨r, rfl, hr2, hrm, hf⟩, rfl⟩
      have hrl : r ≤ m := Nat.le_of_dvd (by omega) hrm
      have ST := Lib.hid (fun W => strip_any m r W (by omega) (by omega) (by omega) (by omega) (by omega))
      have HF := Lib.hid hf
      have HD := Lib.hid hrm
      clear hf hrm
      go_wp2_with fail
      refine (ST.out _).mono ?_
      rintro e w3 ⟨⟨s, k, rfl, hst, hnd⟩, rfl⟩
      have hs1 : 0 < s := hst.2.2.2.1 (by omega)
      obtain ⟨s', rfl⟩ : ∃ s' : Nat, s = s' := ⟨s.toNat, by omega⟩
      have hms : m = s' * r ^ k := by have := hst.1; exact_mod_cast this
      have hnd' : ¬ r ∣ s' := fun h => hnd (Int.natCast_dvd_natCast.2 h)
      have NX := Lib.hid (HR.out.next hr2 HD.out HF.out hms hnd' (by omega))
      clear hst hnd hnd' hms
      go_wp2_with (at_builtin; refine wpList_append_own _ rfl _ _ 92 rfl w.heap.size 96 i0 (.agg #[.int .i64 0, .int .i64 0]) 2 16 Try.underlying92 hi hz0 hz1 hz2 rfl (by decide) _ _ _ rfl (HO.out.alloc _) ⟨wo.heap.size, 0, none⟩ 1 1 [.int .i64 r, .int .i64 k] rfl rfl (two_new _ _ _ _ _ rfl) (by intro u hu; simp at hu; rcases hu with rfl | rfl <;> rfl) (by unfold maxLen; omega) (by omega) (by have := HB.out.size; simp; omega) ?_)
      intro v2 wn hown2 hgrow2 _
      have hbel2 : Below w.heap.size w wn := (HB.out.alloc HB.out.size _).grown hgrow2 (by have := HB.out.size; simp; omega) (fun j hj => (HO.out.lt j hj).1)
      have hown3 : wn.ownsRow w.heap.size 96 2 v2 (L ++ [(r, k)]).length (flat (L ++ [(r, k)])) := by rw [flat_app, List.length_append]; exact hown2
      have H3 := Lib.hid hown3
      have HB2 := Lib.hid hbel2
      have hlt := NX.out.2
      clear hown2 hgrow2 hbel2 hown3
      go_wp2
      go_roundw
      case rel => exact ⟨s', r, r + 1, L ++ [(r, k)], ⟨NX.out.1, H3.out, HB2.out⟩, rfl, rfl⟩
      case measure => simp [intOf]; omega
    · have ht : decide ((1 : Int) < (m : Int)) = false := decide_eq_false (by omega)
      have hm1 : m = 1 := by omega
      have HM := Lib.hid hm1
      clear hm1
      go_wp2
      go_ret
      exact ⟨_, L, rfl, FR.stop (HM.out ▸ HR.out) h1, hlen, HO.out, HB.out⟩
theorem isModulus_yes (n : Nat) (w : World) (h1 : 1 ≤ n) (h2 : n ≤ 1000000000) : Calls Try.prog 69 #[.int .i64 n] w fun e w' => e = .returned (.bool true) ∧ w = w' := by
  have e1 : decide ((1 : Int) ≤ (n : Int)) = true := decide_eq_true (by omega)
  have e2 : decide ((n : Int) ≤ 1000000000) = true := decide_eq_true (by omega)
  go_enter Try.func69, Try.ntmps69
  go_wp2
  go_ret
  exact ⟨rfl, rfl⟩
def FtEnd (n : Nat) (w : World) (e : Ending) (w' : World) : Prop := ∃ (v : Value) (L : List (Nat × Nat)), e = .returned (.tuple #[v, .int .i64 0]) ∧ L.map Prod.fst = PL n (n + 1) ∧ L.length ≤ n + 2 ∧ w'.ownsRow w.heap.size 96 2 v L.length (flat L) ∧ Below w.heap.size w w'
set_option maxHeartbeats 1000000 in
theorem Factor_any (n : Nat) (w : World) (h1 : 1 ≤ n) (h2 : n ≤ 1000000000) :
    Calls Try.prog 54 #[.int .i64 n] w fun e w' => FtEnd n w e w' := by
  have MO := Lib.hid (fun W => isModulus_yes n W h1 h2)
  have FC := Lib.hid (fun W => factor_any n W h1 h2)
  go_enter Try.func54, Try.ntmps54
  go_wp2_with fail
  refine (MO.out _).mono ?_
  rintro e w1 ⟨rfl, rfl⟩
  go_wp2_with fail
  refine (FC.out _).mono ?_
  rintro e w2 ⟨v, L, rfl, h3, h4, hown, hbel⟩
  have H3 := Lib.hid h3
  have HO := Lib.hid hown
  have HB := Lib.hid hbel
  clear h3 hown hbel
  go_wp2
  go_ret2
  exact ⟨_, L, rfl, H3.out, h4, HO.out, HB.out⟩
end Go.Proofs.Ytgbnmnkgelklbaa.Rm
namespace Go.Proofs.Ytgbnmnkgelklbaa.Rm
open Go.RowKit
open Nt (Pr)
open Al
set_option linter.unusedVariables false
set_option linter.unusedSimpArgs false
set_option maxRecDepth 100000
/-- a list of pairs that a call made -/
def LP (B : Nat) (w : World) (A : Option Addr) (c : Nat) (L : List (Nat × Nat)) : Prop := w.ownsRow B 96 2 (.slice A L.length c) L.length (flat L)
theorem LP.of {B : Nat} {w : World} {v : Value} {L : List (Nat × Nat)} (h : w.ownsRow B 96 2 v L.length (flat L)) : ∃ A c, v = .slice A L.length c ∧ LP B w A c L ∧ c ≤ 9223372036854775807 ∧ L.length ≤ c := by
  have h' := h
  rcases h.2 with ⟨rfl, h0⟩ | ⟨g, cap, cur, rfl, hb, hg, h1, h2, h3, h4⟩
  · exact ⟨none, 0, by rw [h0], by unfold LP; rw [h0]; rw [h0] at h'; exact h', by omega, by omega⟩
  · exact ⟨_, cap, rfl, h', by unfold maxLen at h2; omega, h1⟩
theorem LP.at_ {B : Nat} {w : World} {A : Option Addr} {c : Nat} {L : List (Nat × Nat)} (h : LP B w A c L) {j : Nat} {q : Nat × Nat} (hj : L[j]? = some q) : ∃ b, A = some ⟨b, 0, none⟩ ∧ w.cell? ⟨b, j * 2, none⟩ = some (.int .i64 q.1) ∧ w.cell? ⟨b, j * 2 + 1, none⟩ = some (.int .i64 q.2) ∧ B ≤ b ∧ b < w.heap.size := by
  have hjl : j < L.length := (List.getElem?_eq_some_iff.1 hj).1
  rcases h.2 with ⟨h0, h1⟩ | ⟨g, cap, cur, hv, hb, hg, h1, h2, h3, h4⟩
  · omega
  · injection hv with e1 e2 e3
    subst e1 e3
    obtain ⟨f0, f1⟩ := flat_get L j q hj
    refine ⟨g, rfl, ?_, ?_, hb, (Array.getElem?_eq_some_iff.1 hg).1⟩
    · rw [World.ownsRow.cellAt h (j * 2) (by omega)]; exact f0
    · rw [World.ownsRow.cellAt h (j * 2 + 1) (by omega)]; exact f1
theorem LP.below {B B' : Nat} {w w' : World} {A : Option Addr} {c : Nat} {L : List (Nat × Nat)} (h : LP B w A c L) (hb : Below B' w w') (hB : ∀ a, A = some a → a.block < B') : LP B w' A c L := by
  refine ⟨h.1, ?_⟩
  rcases h.2 with ⟨h0, h1⟩ | ⟨g, cap, cur, hv, h5, hg, h1, h2, h3, h4⟩
  · exact .inl ⟨h0, h1⟩
  · injection hv with e1 e2 e3
    subst e1 e3
    exact .inr ⟨g, c, cur, rfl, h5, (hb.block g (hB _ rfl)).trans hg, h1, h2, h3, h4⟩
theorem LP.lt {B : Nat} {w : World} {A : Option Addr} {c : Nat} {L : List (Nat × Nat)} (h : LP B w A c L) : ∀ a, A = some a → a.block < w.heap.size := by
  intro a ha
  subst ha
  rcases h.2 with ⟨h0, h1⟩ | ⟨g, cap, cur, hv, h5, hg, h1, h2, h3, h4⟩
  · cases h0
  · injection hv with e1 e2 e3
    injection e1 with e1
    subst e1
    exact (Array.getElem?_eq_some_iff.1 hg).1
/-- a list of numbers as cells -/
def nvs (l : List Nat) : List Value := l.map fun q : Nat => .int .i64 q
theorem infoI : (Try.prog.info? 3).map (fun i => (i.zero, i.size, i.bytes)) = some (some (.int .i64 0), 1, 8) := by kernel_rfl
def RmEnd (l : List Nat) (w : World) (e : Ending) (w' : World) : Prop := ∃ v : Value, e = .returned v ∧ w'.ownsRow w.heap.size 3 1 v l.length (nvs l) ∧ Below w.heap.size w w'
/-- the primes among the first k whose symbol is -1 -/
noncomputable def hl (A B : Int) (L : List (Nat × Nat)) (k : Nat) : List Nat := ((L.take k).map Prod.fst).filter fun q : Nat => (hv A B q).1 == -1
theorem hl_len (A B : Int) (L : List (Nat × Nat)) (k : Nat) : (hl A B L k).length ≤ L.length := by
  unfold hl
  refine Nat.le_trans (List.length_filter_le _ _) ?_
  rw [List.length_map, List.length_take]; omega
theorem hl_take {A B : Int} {L : List (Nat × Nat)} {k : Nat} {q : Nat × Nat} (h : L[k]? = some q) (hh : (hv A B q.1).1 = -1) : hl A B L (k + 1) = hl A B L k ++ [q.1] := by
  unfold hl
  rw [List.take_add_one, h, List.map_append, List.filter_append]
  simp [hh]
theorem hl_drop {A B : Int} {L : List (Nat × Nat)} {k : Nat} {q : Nat × Nat} (h : L[k]? = some q) (hh : (hv A B q.1).1 ≠ -1) : hl A B L (k + 1) = hl A B L k := by
  unfold hl
  rw [List.take_add_one, h, List.map_append, List.filter_append]
  simp [hh]
theorem hl_end {A B : Int} {L : List (Nat × Nat)} {N : Nat} (eN : (2 * A * B).natAbs = N) (n1 : 1 ≤ N) (hA : A ≠ 0) (hB : B ≠ 0) (h1 : -1000 ≤ A ∧ A ≤ 1000) (h2 : -1000 ≤ B ∧ B ≤ 1000) (hL : L.map Prod.fst = PL N (N + 1)) : hl A B L L.length = RL A B 1001 := by
  unfold hl
  rw [List.take_length, hL, ← PL_far (N := max (N + 1) 1001) n1 (Nat.le_max_left _ _), ← eN, RL_of]
  exact RL_far hA hB (by omega) (by omega) (Nat.le_max_right _ _)
theorem one_new (w : World) (u : Value) (T : TypeId) (n : Nat) (hn : n = w.heap.size) : ∀ (j : Nat) (x : Value), [u][j]? = some x → (w.alloc (.cells #[u] T)).cell? ((⟨n, 0, none⟩ : Addr).add j) = some x := by
  subst hn
  intro j x hj
  match j with
  | 0 => simp at hj; subst hj; simp [go_sem]
  | j + 1 => simp at hj
/-- what a walk keeps: cells, and that nothing that was there has turned -/
def K_Rk (A B : Int) (b1 : Nat) (w w' : World) : Prop := KL w [(b1, 0, .int .i64 A), (b1, 1, .int .i64 B)] [] w'
theorem K_Rk.below {A B : Int} {b1 : Nat} {w w1 w2 : World} (hb : Below w1.heap.size w1 w2) (h : K_Rk A B b1 w w1) : K_Rk A B b1 w w2 := KL.below hb h
theorem K_Rk.draws {A B : Int} {b1 : Nat} {w w1 : World} (n : Nat) (h : K_Rk A B b1 w w1) : K_Rk A B b1 w (w1.drewN n) := KL.draws n h
theorem K_Rk.drew {A B : Int} {b1 : Nat} {w w1 : World} (h : K_Rk A B b1 w w1) : K_Rk A B b1 w w1.drew := KL.draws 1 h
theorem K_Rk.alloc {A B : Int} {b1 : Nat} {w w1 : World} (o : Obj) (h : K_Rk A B b1 w w1) : K_Rk A B b1 w (w1.alloc o) := KL.alloc o h
theorem K_Rk.set {A B : Int} {b1 : Nat} {w w1 : World} (h : K_Rk A B b1 w w1) (b i : Nat) (v : Value) (hb : b ≠ b1 ∧ w.heap.size ≤ b) : K_Rk A B b1 w (w1.setCell ⟨b, i, none⟩ v) :=
  KL.set h b i v (by intro x hx; simp only [List.mem_cons, List.not_mem_nil, or_false] at hx; rcases hx with rfl | rfl <;> simp only [] <;> omega) (by omega)
theorem K_Rk.bel {A B : Int} {b1 : Nat} {w w1 : World} (h : K_Rk A B b1 w w1) : Below w.heap.size w w1 := KL.bel h
theorem K_Rk.cells {A B : Int} {b1 : Nat} {w w' : World} (h : K_Rk A B b1 w w') : w'.cell? ⟨b1, 0, none⟩ = some (.int .i64 A) ∧ w'.cell? ⟨b1, 1, none⟩ = some (.int .i64 B) := ⟨h.c (b1, 0, .int .i64 A) (by simp), h.c (b1, 1, .int .i64 B) (by simp)⟩
theorem K_Rk.zs {A B : Int} {b1 : Nat} {w w' : World} (h : K_Rk A B b1 w w') : b1 < w'.heap.size ∧ True := ⟨KL.z h (x := (b1, 0, .int .i64 A)) (by simp), trivial⟩
theorem K_Rk.ks {A B : Int} {b1 : Nat} {w w' : World} (h : K_Rk A B b1 w w') : (w'.cell? ⟨b1, 0, none⟩ = some (.int .i64 A) ∧ w'.cell? ⟨b1, 1, none⟩ = some (.int .i64 B)) ∧ K_Rk A B b1 w w' := ⟨h.cells, h⟩
theorem size_bd {A B : Int} (hA : A ≠ 0) (hB : B ≠ 0) (h1 : -1000 ≤ A ∧ A ≤ 1000) (h2 : -1000 ≤ B ∧ B ≤ 1000) : (-2000 ≤ 2 * A ∧ 2 * A ≤ 2000) ∧ (-2000000 ≤ 2 * A * B ∧ 2 * A * B ≤ 2000000) ∧ 2 * A * B ≠ 0 := by
  have h3 : -2000 ≤ 2 * A ∧ 2 * A ≤ 2000 := by omega
  exact ⟨h3, Alm.mb 2000 1000 h3 h2, Int.mul_ne_zero (Int.mul_ne_zero (by omega) hA) hB⟩
set_option maxHeartbeats 4000000 in
theorem ramified_any (A B : Int) (w : World) (hA : A ≠ 0) (hB : B ≠ 0) (h1 : -1000 ≤ A ∧ A ≤ 1000) (h2 : -1000 ≤ B ∧ B ≤ 1000) :
    Calls Try.prog 28 #[.agg #[.int .i64 A, .int .i64 B]] w fun e w' => RmEnd (RL A B 1001) w e w' := by
  obtain ⟨i0, hi, hz0, hz1, hz2⟩ := info_parts infoI
  obtain ⟨⟨s1, s1'⟩, ⟨s2, s2'⟩, s3⟩ := size_bd hA hB h1 h2
  have hN : ∃ N : Nat, (2 * A * B).natAbs = N ∧ 1 ≤ N ∧ N ≤ 2000000 := ⟨_, rfl, by omega, by omega⟩
  obtain ⟨N, eN, n1, n2⟩ := hN
  have FT := Lib.hid (fun W => Factor_any N W n1 (by omega))
  have EN := Lib.hid eN
  have HH := Lib.hid (And.intro hA (And.intro hB (And.intro h1 h2)))
  have hsz : (2 * A * B < 0 ∧ -(2 * A * B) = (N : Int)) ∨ (¬ 2 * A * B < 0 ∧ 2 * A * B = (N : Int)) := by omega
  clear hA hB h1 h2 s3 eN
  rcases hsz with ⟨hs, he⟩ | ⟨hs, he⟩
  all_goals
    have HE := Lib.hid he
    clear he
    go_enter Try.func28, Try.ntmps28
    go_wp2_with fail
    rw [HE.out]
    refine (FT.out _).mono ?_
    rintro e w2 ⟨v, L, rfl, hL, hlen, hown, hbel⟩
    have hK : K_Rk A B w.heap.size w w2 := K_Rk.below hbel ⟨by simp [go_sem], by simp, by simp, by (repeat (first | (with_reducible exact Below.refl _ _) | (with_reducible exact HB.out) | (with_reducible refine below_draws ?_ _) | (with_reducible refine Below.alloc ?_ (by go_size) _) | (with_reducible refine Below.setCell ?_ (by go_size) _) | (with_reducible refine Below.alloc ?_ (by simp <;> omega) _) | (with_reducible refine Below.setCell ?_ (by simp <;> omega) _)))⟩
    obtain ⟨Aa, c, rfl, hLP, hc, hlc⟩ := LP.of hown
    have HP := Lib.hid hLP
    have HL := Lib.hid hL
    clear hown hbel hLP hL
    obtain ⟨c0_, c1_⟩ := K_Rk.cells hK; obtain ⟨z0_, -⟩ := K_Rk.zs hK; have HK := Lib.hid hK; clear hK
    go_wp2_with fail
    go_loopw [6, 28] (fun t6 t28 wr => ∃ k : Nat, (k ≤ L.length ∧ wr.ownsRow w2.heap.size 3 1 t6 (hl A B L k).length (nvs (hl A B L k)) ∧ Below w2.heap.size w2 wr) ∧ t28 = .int .i64 k) (fun _ t28 _ => L.length - (intOf t28).toNat)
    case atStart => exact ⟨0, ⟨Nat.zero_le _, World.ownsRow_nil _ _ _ _, Below.refl _ _⟩, rfl⟩
    case round =>
      obtain ⟨k, ⟨hkl, hown, hbel⟩, rfl⟩ := hrel
      obtain ⟨wo, rfl⟩ : ∃ wo : World, wo = wr := ⟨_, rfl⟩
      clear c0_ c1_ z0_
      have hP := LP.below HP.out hbel (LP.lt HP.out)
      have hK := K_Rk.below hbel HK.out
      have hll : (hl A B L k).length ≤ L.length := hl_len A B L k
      have HO := Lib.hid hown
      have HB := Lib.hid hbel
      clear hown hbel
      by_cases hlt : k < L.length
      · have hq : L[k]? = some L[k] := List.getElem?_eq_getElem hlt
        have HQ := Lib.hid hq
        obtain ⟨b, rfl, g0, g1, -, gz⟩ := LP.at_ hP hq
        obtain ⟨c0_, c1_⟩ := K_Rk.cells hK
        obtain ⟨z0_, -⟩ := K_Rk.zs hK
        generalize hqq : L[k] = q at *
        have HL1 := Lib.hid (hil63 A B q.1)
        clear hP hK hq hqq
        go_wp2_with fail
        refine (HL1.out _).mono ?_
        rintro e w5 ⟨he, rfl⟩
        obtain rfl := hil_v he
        clear he
        by_cases hh : (hv A B q.1).1 = -1
        · have ht : ((hv A B q.1).1 == -1) = true := by rw [hh]; rfl
          have NX := Lib.hid (hl_take HQ.out hh)
          clear hh
          go_wp2_with (at_builtin; refine wpList_append_own _ rfl _ _ 26 rfl w2.heap.size 3 i0 (.int .i64 0) 1 8 Try.underlying26 hi hz0 hz1 hz2 rfl (by decide) _ _ _ rfl ((HO.out.alloc _).alloc _) ⟨wo.heap.size + 1, 0, none⟩ 1 1 [.int .i64 q.1] rfl rfl (one_new _ _ _ _ (by simp)) (by intro u hu; simp at hu; subst hu; rfl) (by unfold maxLen; omega) (by omega) (by have := HB.out.size; simp; omega) ?_)
          intro v2 wn hown2 hgrow2 _
          have hbel2 : Below w2.heap.size w2 wn := ((HB.out.alloc HB.out.size _).alloc (by have := HB.out.size; simp; omega) _).grown hgrow2 (by have := HB.out.size; simp; omega) (fun j hj => (HO.out.lt j hj).1)
          have hown3 : wn.ownsRow w2.heap.size 3 1 v2 (hl A B L (k + 1)).length (nvs (hl A B L (k + 1))) := by rw [NX.out, List.length_append]; unfold nvs; rw [List.map_append]; exact hown2
          have H3 := Lib.hid hown3
          have HB2 := Lib.hid hbel2
          clear hown2 hgrow2 hbel2 hown3
          go_wp2
          go_roundw
          case rel => exact ⟨k + 1, ⟨by omega, H3.out, HB2.out⟩, by go_num⟩
          case measure => simp [intOf]; omega
        · have ht : ((hv A B q.1).1 == -1) = false := by rw [beq_eq_false_iff_ne]; exact hh
          have NX := Lib.hid (hl_drop HQ.out hh)
          clear hh
          go_wp2
          go_roundw
          case rel => exact ⟨k + 1, ⟨by omega, by rw [NX.out]; exact HO.out.alloc _, HB.out.alloc HB.out.size _⟩, by go_num⟩
          case measure => simp [intOf]; omega
      · have hk : k = L.length := by omega
        have HKL := Lib.hid hk
        have HKK := Lib.hid hK
        clear hk hP hK
        go_wp2
        go_ret
        refine ⟨_, rfl, ?_, K_Rk.bel HKK.out⟩
        rw [← hl_end EN.out n1 HH.out.1 HH.out.2.1 HH.out.2.2.1 HH.out.2.2.2 HL.out, ← HKL.out]
        exact Go.Joins.ownsRow_le HO.out (K_Rk.bel HK.out).size
end Go.Proofs.Ytgbnmnkgelklbaa.Rm
namespace Go.Proofs.Ytgbnmnkgelklbaa.Rm
open Go.RowKit
open Nt (Pr)
set_option linter.unusedVariables false
set_option linter.unusedSimpArgs false
set_option maxRecDepth 100000
def LN (B : Nat) (w : World) (A : Option Addr) (c : Nat) (l : List Nat) : Prop := w.ownsRow B 3 1 (.slice A l.length c) l.length (nvs l)
theorem LN.of {B : Nat} {w : World} {v : Value} {l : List Nat} (h : w.ownsRow B 3 1 v l.length (nvs l)) : ∃ A c, v = .slice A l.length c ∧ LN B w A c l ∧ c ≤ 9223372036854775807 ∧ l.length ≤ c := by
  have h' := h
  rcases h.2 with ⟨rfl, h0⟩ | ⟨g, cap, cur, rfl, hb, hg, h1, h2, h3, h4⟩
  · exact ⟨none, 0, by rw [h0], by unfold LN; rw [h0]; rw [h0] at h'; exact h', by omega, by omega⟩
  · exact ⟨_, cap, rfl, h', by unfold maxLen at h2; omega, h1⟩
theorem LN.at_ {B : Nat} {w : World} {A : Option Addr} {c : Nat} {l : List Nat} (h : LN B w A c l) {j : Nat} {q : Nat} (hj : l[j]? = some q) : ∃ b, A = some ⟨b, 0, none⟩ ∧ w.cell? ⟨b, j, none⟩ = some (.int .i64 q) ∧ B ≤ b ∧ b < w.heap.size := by
  have hjl : j < l.length := (List.getElem?_eq_some_iff.1 hj).1
  rcases h.2 with ⟨h0, h1⟩ | ⟨g, cap, cur, hv, hb, hg, h1, h2, h3, h4⟩
  · omega
  · injection hv with e1 e2 e3
    subst e1 e3
    refine ⟨g, rfl, ?_, hb, (Array.getElem?_eq_some_iff.1 hg).1⟩
    rw [World.ownsRow.cellAt h j (by omega)]
    unfold nvs
    rw [List.getElem?_map, hj]; rfl
theorem LN.below {B B' : Nat} {w w' : World} {A : Option Addr} {c : Nat} {l : List Nat} (h : LN B w A c l) (hb : Below B' w w') (hB : ∀ a, A = some a → a.block < B') : LN B w' A c l := by
  refine ⟨h.1, ?_⟩
  rcases h.2 with ⟨h0, h1⟩ | ⟨g, cap, cur, hv, h5, hg, h1, h2, h3, h4⟩
  · exact .inl ⟨h0, h1⟩
  · injection hv with e1 e2 e3
    subst e1 e3
    exact .inr ⟨g, c, cur, rfl, h5, (hb.block g (hB _ rfl)).trans hg, h1, h2, h3, h4⟩
theorem LN.lt {B : Nat} {w : World} {A : Option Addr} {c : Nat} {l : List Nat} (h : LN B w A c l) : ∀ a, A = some a → a.block < w.heap.size := by
  intro a ha
  subst ha
  rcases h.2 with ⟨h0, h1⟩ | ⟨g, cap, cur, hv, h5, hg, h1, h2, h3, h4⟩
  · cases h0
  · injection hv with e1 e2 e3
    injection e1 with e1
    subst e1
    exact (Array.getElem?_eq_some_iff.1 hg).1
theorem prod_dvd : ∀ (l : List Nat) (N : Nat), (∀ q ∈ l, Pr q ∧ q ∣ N) → l.Nodup → l.prod ∣ N
  | [], N, _, _ => by simp
  | q :: l, N, h, hn => by
    obtain ⟨pq, M, rfl⟩ := h q (by simp)
    have hn' := List.nodup_cons.1 hn
    rw [List.prod_cons]
    refine Nat.mul_dvd_mul_left q (prod_dvd l M (fun r hr => ?_) hn'.2)
    obtain ⟨pr, hd⟩ := h r (by simp [hr])
    refine ⟨pr, ?_⟩
    rcases pr.dvd_mul hd with h1 | h1
    · rcases pq.2 r h1 with h2 | h2
      · have := pr.1; omega
      · subst h2; exact absurd hr hn'.1
    · exact h1
theorem RL_mem {A B : Int} {n q : Nat} (h : q ∈ RL A B n) : Pr q ∧ q ∣ (2 * A * B).natAbs := by
  rw [← RL_of] at h
  have h1 := (List.mem_filter.1 h).1
  unfold PL at h1
  exact prd_iff.1 (List.mem_filter.1 h1).2
theorem RL_nodup (A B : Int) (n : Nat) : (RL A B n).Nodup := List.Pairwise.filter _ List.nodup_range
theorem RL_prod {A B : Int} (hA : A ≠ 0) (hB : B ≠ 0) (h1 : -1000 ≤ A ∧ A ≤ 1000) (h2 : -1000 ≤ B ∧ B ≤ 1000) (n k : Nat) : ((RL A B n).take k).prod ≤ 2000000 ∧ 1 ≤ ((RL A B n).take k).prod := by
  have hd := prod_dvd ((RL A B n).take k) (2 * A * B).natAbs (fun q hq => RL_mem (List.mem_of_mem_take hq)) (List.Pairwise.sublist (List.take_sublist k _) (RL_nodup A B n))
  obtain ⟨-, hb, hz⟩ := size_bd hA hB h1 h2
  have := Nat.le_of_dvd (by omega) hd
  have h0 : ((RL A B n).take k).prod ≠ 0 := by
    intro h; rw [h] at hd; have := Nat.eq_zero_of_zero_dvd hd; omega
  omega
theorem take_prod {l : List Nat} {k q : Nat} (h : l[k]? = some q) : (l.take (k + 1)).prod = (l.take k).prod * q := by
  rw [List.take_add_one, h, List.prod_append]; simp
end Go.Proofs.Ytgbnmnkgelklbaa.Rm
namespace Go.Proofs.Ytgbnmnkgelklbaa.Rm
open Go.RowKit
open Nt (Pr)
open Al
set_option linter.unusedVariables false
set_option linter.unusedSimpArgs false
set_option maxRecDepth 100000
def dfB (A B : Int) : Bool := decide (A < 0) && decide (B < 0)
theorem isDefinite_any (A B : Int) (w : World) : Calls Try.prog 29 #[.agg #[.int .i64 A, .int .i64 B]] w fun e w' => e = .returned (.bool (dfB A B)) ∧ Below w.heap.size w w' := by
  unfold dfB
  rcases (show decide (A < 0) = false ∨ decide (A < 0) = true ∧ (decide (B < 0) = false ∨ decide (B < 0) = true) by
    cases decide (A < 0) <;> cases decide (B < 0) <;> simp) with h0 | ⟨h0, h1 | h1⟩
  all_goals
    go_enter Try.func29, Try.ntmps29
    go_wp2
    go_ret
    exact ⟨by simp [*], by (repeat (first | (with_reducible exact Below.refl _ _) | (with_reducible exact HB.out) | (with_reducible refine below_draws ?_ _) | (with_reducible refine Below.alloc ?_ (by go_size) _) | (with_reducible refine Below.setCell ?_ (by go_size) _) | (with_reducible refine Below.alloc ?_ (by simp <;> omega) _) | (with_reducible refine Below.setCell ?_ (by simp <;> omega) _)))⟩
set_option maxHeartbeats 1600000 in
theorem Ramified_err (A B : Int) (w : World) (h : chkA A B ≠ 0) : Calls Try.prog 8 #[.agg #[.int .i64 A, .int .i64 B]] w fun e w' => e = .returned (.tuple #[.slice none 0 0, .bool false, .int .i64 (chkA A B)]) ∧ Below w.heap.size w w' := by
  have ht : (chkA A B != 0) = true := by rw [bne_iff_ne]; exact h
  clear h
  go_enter Try.func8, Try.ntmps8
  go_wp2_with fail
  refine (Check_any _ _ _).mono ?_
  rintro e w1 ⟨rfl, hb⟩
  have hK : K_Rk A B w.heap.size w w1 := K_Rk.below hb ⟨by simp [go_sem], by simp, by simp, by (repeat (first | (with_reducible exact Below.refl _ _) | (with_reducible exact HB.out) | (with_reducible refine below_draws ?_ _) | (with_reducible refine Below.alloc ?_ (by go_size) _) | (with_reducible refine Below.setCell ?_ (by go_size) _) | (with_reducible refine Below.alloc ?_ (by simp <;> omega) _) | (with_reducible refine Below.setCell ?_ (by simp <;> omega) _)))⟩
  clear hb
  obtain ⟨c0_, c1_⟩ := K_Rk.cells hK; obtain ⟨z0_, -⟩ := K_Rk.zs hK; have HK := Lib.hid hK; clear hK
  go_wp2
  go_ret3
  exact ⟨rfl, K_Rk.bel HK.out⟩
theorem chk_bds {A B : Int} (h : chkA A B = 0) : A ≠ 0 ∧ B ≠ 0 ∧ (-1000 ≤ A ∧ A ≤ 1000) ∧ (-1000 ≤ B ∧ B ≤ 1000) := by
  obtain ⟨h1, h2, h3, h4⟩ := chkA_ok h
  exact ⟨h1, h2, withinB_of h3, withinB_of h4⟩
theorem row_below {B : Nat} {v : Value} {l : List Nat} {w w' : World} (h : w.ownsRow B 3 1 v l.length (nvs l)) (hb : Below w.heap.size w w') : w'.ownsRow B 3 1 v l.length (nvs l) := by
  obtain ⟨A, c, rfl, h1, -, -⟩ := LN.of h
  exact LN.below h1 hb (LN.lt h1)
def RtEnd (A B : Int) (w : World) (e : Ending) (w' : World) : Prop := ∃ v : Value, e = .returned (.tuple #[v, .bool (dfB A B), .int .i64 0]) ∧ w'.ownsRow w.heap.size 3 1 v (RL A B 1001).length (nvs (RL A B 1001)) ∧ Below w.heap.size w w'
set_option maxHeartbeats 1600000 in
theorem Ramified_ok (A B : Int) (w : World) (h : chkA A B = 0) : Calls Try.prog 8 #[.agg #[.int .i64 A, .int .i64 B]] w fun e w' => RtEnd A B w e w' := by
  obtain ⟨b1, b2, b3, b4⟩ := chk_bds h
  have RA := Lib.hid (fun W => ramified_any A B W b1 b2 b3 b4)
  have HC := Lib.hid h
  clear h b1 b2 b3 b4
  go_enter Try.func8, Try.ntmps8
  go_wp2_with fail
  refine (Check_any _ _ _).mono ?_
  rintro e w1 ⟨rfl, hb⟩
  rw [HC.out]
  have hK : K_Rk A B w.heap.size w w1 := K_Rk.below hb ⟨by simp [go_sem], by simp, by simp, by (repeat (first | (with_reducible exact Below.refl _ _) | (with_reducible exact HB.out) | (with_reducible refine below_draws ?_ _) | (with_reducible refine Below.alloc ?_ (by go_size) _) | (with_reducible refine Below.setCell ?_ (by go_size) _) | (with_reducible refine Below.alloc ?_ (by simp <;> omega) _) | (with_reducible refine Below.setCell ?_ (by simp <;> omega) _)))⟩
  clear hb
  obtain ⟨c0_, c1_⟩ := K_Rk.cells hK; obtain ⟨z0_, -⟩ := K_Rk.zs hK; have HK := Lib.hid hK; clear hK
  go_wp2_with fail
  have hk := HK.out
  clear c0_ c1_ z0_
  clear HK
  go_region_held3 (fun w' => (w'.cell? ⟨w.heap.size, 0, none⟩ = some (.int .i64 A) ∧ w'.cell? ⟨w.heap.size, 1, none⟩ = some (.int .i64 B)) ∧ K_Rk A B w.heap.size w w') ((refine K_Rk.ks ?_; repeat (first | (with_reducible assumption) | (with_reducible refine K_Rk.draws _ ?_) | (with_reducible refine K_Rk.drew ?_) | (with_reducible refine K_Rk.alloc _ ?_) | (with_reducible refine K_Rk.set ?_ _ _ _ (by omega)))))
    (first
      | (go_at_call 28; (with_reducible refine (RA.out _).mono ?_); rintro e w5 ⟨v, rfl, hown, hbel⟩; have hz := (K_Rk.bel (show K_Rk A B w.heap.size w _ from And.right (by assumption))).size; have hk' := K_Rk.below hbel (And.right (by assumption)); have HO := Lib.hid (Go.Joins.ownsRow_le hown hz); clear hbel hown hz)
      | (go_at_call 29; (with_reducible refine (isDefinite_any _ _ _).mono ?_); rintro e w6 ⟨rfl, hbel⟩; have hk' := K_Rk.below hbel (And.right (by assumption)); have HO2 := Lib.hid (row_below HO.out hbel); clear hbel HO))
  all_goals
    go_wp2
    go_ret3
    exact ⟨_, rfl, HO2.out, K_Rk.bel hk'⟩
end Go.Proofs.Ytgbnmnkgelklbaa.Rm
namespace Go.Proofs.Ytgbnmnkgelklbaa.Rm
open Go.RowKit
set_option linter.unusedVariables false
set_option maxRecDepth 100000
open Nt (Pr leg sg Sgn)
end Go.Proofs.Ytgbnmnkgelklbaa.Rm
namespace Go.Proofs.Ytgbnmnkgelklbaa.Rm
open Go.RowKit
open Nt (Pr)
open Al
set_option linter.unusedVariables false
set_option linter.unusedSimpArgs false
set_option maxRecDepth 100000
theorem RL_two (A B : Int) : RL A B 2 = [] := by
  have : RL A B 2 = RL A B 0 := filt_skip _ (by omega) fun q h1 h2 => by
    rw [Bool.eq_false_iff]; intro h3; have := (ramB_iff.1 h3).1.1; omega
  rw [this]; rfl
theorem RL_len (A B : Int) (n : Nat) : (RL A B n).length ≤ n := by
  unfold RL
  have := List.length_filter_le (ramB A B) (List.range n)
  rwa [List.length_range] at this
theorem RL_drop {A B : Int} {k : Nat} (h : ¬ (Pr k ∧ (k = 2 ∨ k ∣ A.natAbs ∨ k ∣ B.natAbs) ∧ (hv A B k).1 = -1)) : RL A B (k + 1) = RL A B k :=
  filt_drop _ (by rw [Bool.eq_false_iff]; intro h3; exact h (ramB_iff.1 h3))
theorem RL_take {A B : Int} {k : Nat} (h : Pr k ∧ (k = 2 ∨ k ∣ A.natAbs ∨ k ∣ B.natAbs) ∧ (hv A B k).1 = -1) : RL A B (k + 1) = RL A B k ++ [k] :=
  filt_take _ (ramB_iff.2 h)
theorem prB_pr {k : Nat} (h : prB (k : Int) = true) : Pr k := by
  have := (prB_of h).2.2
  rwa [Int.toNat_natCast] at this
theorem prB_no {k : Nat} (hk : k ≤ 1000) (h : prB (k : Int) = false) : ¬ Pr k := by
  intro hp
  have := prB_t (n := (k : Int)) ⟨by have := hp.1; omega, by omega, by rwa [Int.toNat_natCast]⟩
  rw [h] at this; cases this
theorem tmod_iff (A : Int) (k : Nat) : A.tmod k = 0 ↔ k ∣ A.natAbs := by
  rw [← Int.ofNat_dvd_left]
  exact ⟨Int.dvd_of_tmod_eq_zero, Int.tmod_eq_zero_of_dvd⟩
theorem rr_ways (A B : Int) (k : Nat) (hk : 2 ≤ k) : Hid ((k = 2 ∨ k ∣ A.natAbs ∨ k ∣ B.natAbs)) ∧ (decide ((2 : Int) < (k : Int)) = false ∨ decide ((2 : Int) < (k : Int)) = true ∧ ((A.tmod k != 0) = false ∨ (A.tmod k != 0) = true ∧ (B.tmod k != 0) = false)) ∨ Hid (¬ (k = 2 ∨ k ∣ A.natAbs ∨ k ∣ B.natAbs)) ∧ decide ((2 : Int) < (k : Int)) = true ∧ (A.tmod k != 0) = true ∧ (B.tmod k != 0) = true := by
  by_cases h2 : k = 2
  · exact .inl ⟨Lib.hid (.inl h2), .inl (decide_eq_false (by omega))⟩
  have t1 : decide ((2 : Int) < (k : Int)) = true := decide_eq_true (by omega)
  by_cases hA : k ∣ A.natAbs
  · exact .inl ⟨Lib.hid (.inr (.inl hA)), .inr ⟨t1, .inl (by simp [(tmod_iff A k).2 hA])⟩⟩
  have a1 : (A.tmod k != 0) = true := by rw [bne_iff_ne]; intro h; exact hA ((tmod_iff A k).1 h)
  by_cases hB : k ∣ B.natAbs
  · exact .inl ⟨Lib.hid (.inr (.inr hB)), .inr ⟨t1, .inr ⟨a1, by simp [(tmod_iff B k).2 hB]⟩⟩⟩
  have b1 : (B.tmod k != 0) = true := by rw [bne_iff_ne]; intro h; exact hB ((tmod_iff B k).1 h)
  exact .inr ⟨Lib.hid (by rintro (h | h | h); exact h2 h; exact hA h; exact hB h), t1, a1, b1⟩
end Go.Proofs.Ytgbnmnkgelklbaa.Rm
namespace Go.Proofs.Ytgbnmnkgelklbaa.Rm
open Go.RowKit
open Nt (Pr)
open Al
set_option linter.unusedVariables false
set_option linter.unusedSimpArgs false
set_option maxRecDepth 100000
/-- two lists of numbers, compared -/
theorem Ints_same (l : List Nat) (B1 B2 : Nat) (A1 A2 : Option Addr) (c1 c2 : Nat) (w : World) (h1 : LN B1 w A1 c1 l) (h2 : LN B2 w A2 c2 l) (hl : l.length ≤ 1001) (hc1 : l.length ≤ c1) (hc2 : l.length ≤ c2) (hm1 : c1 ≤ 9223372036854775807) (hm2 : c2 ≤ 9223372036854775807) :
    Calls Try.prog 26 #[.slice A1 l.length c1, .slice A2 l.length c2] w fun e w' => e = .returned (.bool true) ∧ Below w.heap.size w w' := by
  have H1 := Lib.hid h1
  have H2 := Lib.hid h2
  clear h1 h2
  go_enter Try.func26, Try.ntmps26
  go_wp2_with fail
  go_loopw [5] (fun t5 wr => ∃ k : Nat, (k ≤ l.length ∧ Below w.heap.size w wr) ∧ t5 = .int .i64 k) (fun t5 _ => l.length - (intOf t5).toNat)
  case atStart => exact ⟨0, ⟨Nat.zero_le _, Below.refl _ _⟩, rfl⟩
  case round =>
    obtain ⟨k, ⟨hkl, hbel⟩, rfl⟩ := hrel
    obtain ⟨wo, rfl⟩ : ∃ wo : World, wo = wr := ⟨_, rfl⟩
    have hP := LN.below H1.out hbel (LN.lt H1.out)
    have hQ := LN.below H2.out hbel (LN.lt H2.out)
    have HB := Lib.hid hbel
    clear hbel
    by_cases hlt : k < l.length
    · have hq : l[k]? = some l[k] := List.getElem?_eq_getElem hlt
      obtain ⟨b, rfl, g0, -, -⟩ := LN.at_ hP hq
      obtain ⟨b', rfl, g1, -, -⟩ := LN.at_ hQ hq
      generalize l[k] = q at g0 g1
      clear hq hP hQ
      go_wp2_with fail
      go_region
      go_wp2
      go_roundw
      case rel => exact ⟨k + 1, ⟨by omega, below_draws HB.out 1⟩, by go_num⟩
      case measure => simp [intOf]; omega
    · clear hP hQ
      go_wp2
      go_ret
      exact ⟨rfl, HB.out⟩
end Go.Proofs.Ytgbnmnkgelklbaa.Rm
