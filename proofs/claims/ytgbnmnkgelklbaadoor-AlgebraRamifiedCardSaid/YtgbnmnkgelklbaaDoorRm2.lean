/-
  WALKS: the factors of a number, with their exponents.
-/
import Derived.Test.YtgbnmnkgelklbaaDoorRm1
import Derived.OwnWalk
import Derived.Laws.AppendOwn
namespace Go.Proofs.YtgbnmnkgelklbaaDoor.Rm
open Go.RowKit
open Nt (Pr)
set_option linter.unusedVariables false
set_option linter.unusedSimpArgs false
set_option maxRecDepth 100000
def flat : List (Nat × Nat) → List Value
  | [] => []
  | q :: l => .int .i64 q.1 :: .int .i64 q.2 :: flat l
theorem flat_app : ∀ l m : List (Nat × Nat), flat (l ++ m) = flat l ++ flat m
  | [], m => rfl
  | q :: l, m => by simp only [List.cons_append, flat]; rw [flat_app l m]
theorem flat_len : ∀ l : List (Nat × Nat), (flat l).length = l.length * 2
  | [] => rfl
  | q :: l => by simp only [flat, List.length_cons]; rw [flat_len l]; omega
theorem flat_get : ∀ (l : List (Nat × Nat)) (i : Nat) (q : Nat × Nat), l[i]? = some q → (flat l)[i * 2]? = some (.int .i64 q.1) ∧ (flat l)[i * 2 + 1]? = some (.int .i64 q.2)
  | [], i, q, h => by simp at h
  | r :: l, 0, q, h => by simp at h; subst h; exact ⟨rfl, rfl⟩
  | r :: l, i + 1, q, h => by
    have := flat_get l i q (by simpa using h)
    have e1 : (i + 1) * 2 = i * 2 + 2 := by omega
    rw [e1]; exact this
theorem infoPw : (Tryd.prog.info? 88).map (fun i => (i.zero, i.size, i.bytes)) = some (some (.agg #[.int .i64 0, .int .i64 0]), 2, 16) := by kernel_rfl
theorem two_new (w : World) (u v : Value) (T : TypeId) (n : Nat) (hn : n = w.heap.size) : ∀ (j : Nat) (x : Value), [u, v][j]? = some x → (w.alloc (.cells #[u, v] T)).cell? ((⟨n, 0, none⟩ : Addr).add j) = some x := by
  subst hn
  intro j x hj
  match j with
  | 0 => simp at hj; subst hj; simp [go_sem]
  | 1 => simp at hj; subst hj; simp [go_sem]
  | j + 2 => simp at hj
def FcEnd (n : Nat) (w : World) (e : Ending) (w' : World) : Prop := ∃ (v : Value) (L : List (Nat × Nat)), e = .returned v ∧ L.map Prod.fst = PL n (n + 1) ∧ L.length ≤ n + 2 ∧ w'.ownsRow w.heap.size 88 2 v L.length (flat L) ∧ Below w.heap.size w w'
set_option maxHeartbeats 4000000 in
theorem factor_any (n : Nat) (w : World) (h1 : 1 ≤ n) (h2 : n ≤ 1000000000) :
    Calls Tryd.prog 72 #[.int .i64 n] w fun e w' => FcEnd n w e w' := by
  obtain ⟨i0, hi, hz0, hz1, hz2⟩ := info_parts infoPw
  go_enter Tryd.func72, Tryd.ntmps72
  go_wp2_with fail
  go_loopw [0, 3, 4] (fun t0 t3 t4 wr => ∃ (m p d : Nat) (L : List (Nat × Nat)), (FR n m p d L ∧ wr.ownsRow w.heap.size 88 2 t3 L.length (flat L) ∧ Below w.heap.size w wr) ∧ t0 = .int .i64 m ∧ t4 = .int .i64 p) (fun t0 _ _ _ => (intOf t0).toNat)
  case atStart => exact ⟨n, 2, 2, [], ⟨FR.start h1, World.ownsRow_nil _ _ _ _, Below.refl _ _⟩, rfl, rfl⟩
  case round =>
    obtain ⟨m, p, d, L, ⟨hrel, hown, hbel⟩, rfl, rfl⟩ := hrel
    obtain ⟨wo, rfl⟩ : ∃ wo : World, wo = wr := ⟨_, rfl⟩
    have hlen := hrel.len
    have m1 := hrel.m1
    have mn := hrel.mn
    have HR := Lib.hid hrel
    have HO := Lib.hid hown
    have HB := Lib.hid hbel
    clear hrel hown hbel
    by_cases hm : 1 < m
    · have ht : decide ((1 : Int) < (m : Int)) = true := decide_eq_true (by omega)
      have LD := Lib.hid (fun W => ld_any m p W (by omega) (by omega) (HR.out.ld h2))
      go_wp2_with fail
      refine (LD.out _).mono ?_
      rintro e w2 ⟨⟨r, rfl, hr2, hrm, hf⟩, rfl⟩
      have hrl : r ≤ m := Nat.le_of_dvd (by omega) hrm
      have ST := Lib.hid (fun W => strip_any m r W (by omega) (by omega) (by omega) (by omega) (by omega))
      have HF := Lib.hid hf
      have HD := Lib.hid hrm
      clear hf hrm
      go_wp2_with fail
      refine (ST.out _).mono ?_
      rintro e w3 ⟨⟨s, k, rfl, hst, hnd⟩, rfl⟩
      have hs1 : 0 < s := hst.2.2.2.1 (by omega)
      obtain ⟨s', rfl⟩ : ∃ s' : Nat, s = s' := ⟨s.toNat, by omega⟩
      have hms : m = s' * r ^ k := by have := hst.1; exact_mod_cast this
      have hnd' : ¬ r ∣ s' := fun h => hnd (Int.natCast_dvd_natCast.2 h)
      have NX := Lib.hid (HR.out.next hr2 HD.out HF.out hms hnd' (by omega))
      clear hst hnd hnd' hms
      go_wp2_with (at_builtin; refine wpList_append_own _ rfl _ _ 84 rfl w.heap.size 88 i0 (.agg #[.int .i64 0, .int .i64 0]) 2 16 Tryd.underlying84 hi hz0 hz1 hz2 rfl (by decide) _ _ _ rfl (HO.out.alloc _) ⟨wo.heap.size, 0, none⟩ 1 1 [.int .i64 r, .int .i64 k] rfl rfl (two_new _ _ _ _ _ rfl) (by intro u hu; simp at hu; rcases hu with rfl | rfl <;> rfl) (by unfold maxLen; omega) (by omega) (by have := HB.out.size; simp; omega) ?_)
      intro v2 wn hown2 hgrow2 _
      have hbel2 : Below w.heap.size w wn := (HB.out.alloc HB.out.size _).grown hgrow2 (by have := HB.out.size; simp; omega) (fun j hj => (HO.out.lt j hj).1)
      have hown3 : wn.ownsRow w.heap.size 88 2 v2 (L ++ [(r, k)]).length (flat (L ++ [(r, k)])) := by rw [flat_app, List.length_append]; exact hown2
      have H3 := Lib.hid hown3
      have HB2 := Lib.hid hbel2
      have hlt := NX.out.2
      clear hown2 hgrow2 hbel2 hown3
      go_wp2
      go_roundw
      case rel => exact ⟨s', r, r + 1, L ++ [(r, k)], ⟨NX.out.1, H3.out, HB2.out⟩, rfl, rfl⟩
      case measure => simp [intOf]; omega
    · have ht : decide ((1 : Int) < (m : Int)) = false := decide_eq_false (by omega)
      have hm1 : m = 1 := by omega
      have HM := Lib.hid hm1
      clear hm1
      go_wp2
      go_ret
      exact ⟨_, L, rfl, FR.stop (HM.out ▸ HR.out) h1, hlen, HO.out, HB.out⟩
theorem isModulus_yes (n : Nat) (w : World) (h1 : 1 ≤ n) (h2 : n ≤ 1000000000) : Calls Tryd.prog 71 #[.int .i64 n] w fun e w' => e = .returned (.bool true) ∧ w = w' := by
  have e1 : decide ((1 : Int) ≤ (n : Int)) = true := decide_eq_true (by omega)
  have e2 : decide ((n : Int) ≤ 1000000000) = true := decide_eq_true (by omega)
  go_enter Tryd.func71, Tryd.ntmps71
  go_wp2
  go_ret
  exact ⟨rfl, rfl⟩
def FtEnd (n : Nat) (w : World) (e : Ending) (w' : World) : Prop := ∃ (v : Value) (L : List (Nat × Nat)), e = .returned (.tuple #[v, .int .i64 0]) ∧ L.map Prod.fst = PL n (n + 1) ∧ L.length ≤ n + 2 ∧ w'.ownsRow w.heap.size 88 2 v L.length (flat L) ∧ Below w.heap.size w w'
set_option maxHeartbeats 1000000 in
theorem Factor_any (n : Nat) (w : World) (h1 : 1 ≤ n) (h2 : n ≤ 1000000000) :
    Calls Tryd.prog 52 #[.int .i64 n] w fun e w' => FtEnd n w e w' := by
  have MO := Lib.hid (fun W => isModulus_yes n W h1 h2)
  have FC := Lib.hid (fun W => factor_any n W h1 h2)
  go_enter Tryd.func52, Tryd.ntmps52
  go_wp2_with fail
  refine (MO.out _).mono ?_
  rintro e w1 ⟨rfl, rfl⟩
  go_wp2_with fail
  refine (FC.out _).mono ?_
  rintro e w2 ⟨v, L, rfl, h3, h4, hown, hbel⟩
  have H3 := Lib.hid h3
  have HO := Lib.hid hown
  have HB := Lib.hid hbel
  clear h3 hown hbel
  go_wp2
  go_ret2
  exact ⟨_, L, rfl, H3.out, h4, HO.out, HB.out⟩
end Go.Proofs.YtgbnmnkgelklbaaDoor.Rm
