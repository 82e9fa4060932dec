/-
  WALK: Factors of the reference package hands back the prime powers of a number.
-/
import Derived.Test.YtcbdnnboddahkaaWPrime
import Derived.Test.YtcbdnnboddahkaaStrip
import Derived.Test.YtcbdnnboddahkaaJac
import Derived.Test.YtcbdnnboddahkaaAw9
namespace Go.Proofs.Ytcbdnnboddahkaa
open Go.RowKit
set_option linter.unusedVariables false
set_option maxRecDepth 100000
open Nt (Pr)
def flat : List (Nat × Nat) → List Value
  | [] => []
  | q :: l => .int .i64 q.1 :: .int .i64 q.2 :: flat l
theorem flat_app : ∀ l m : List (Nat × Nat), flat (l ++ m) = flat l ++ flat m
  | [], m => rfl
  | q :: l, m => by simp only [List.cons_append, flat]; rw [flat_app l m]
theorem flat_len : ∀ l : List (Nat × Nat), (flat l).length = l.length * 2
  | [] => rfl
  | q :: l => by simp only [flat, List.length_cons]; rw [flat_len l]; omega
theorem flat_get : ∀ (l : List (Nat × Nat)) (i : Nat) (q : Nat × Nat), l[i]? = some q → (flat l)[i * 2]? = some (.int .i64 q.1) ∧ (flat l)[i * 2 + 1]? = some (.int .i64 q.2)
  | [], i, q, h => by simp at h
  | r :: l, 0, q, h => by simp at h; subst h; exact ⟨rfl, rfl⟩
  | r :: l, i + 1, q, h => by
    have := flat_get l i q (by simpa using h)
    have e1 : (i + 1) * 2 = i * 2 + 2 := by omega
    rw [e1]; exact this
def pprod : List (Nat × Nat) → Nat
  | [] => 1
  | q :: l => q.1 ^ q.2 * pprod l
theorem pprod_app : ∀ l m : List (Nat × Nat), pprod (l ++ m) = pprod l * pprod m
  | [], m => by simp [pprod]
  | q :: l, m => by simp only [List.cons_append, pprod]; rw [pprod_app l m, Nat.mul_assoc]
def PP (l : List (Nat × Nat)) : Prop := ∀ q ∈ l, Pr q.1 ∧ 1 ≤ q.2
theorem pprod_len : ∀ {l : List (Nat × Nat)}, PP l → 2 ^ l.length ≤ pprod l
  | [], _ => by simp [pprod]
  | q :: l, h => by
    have h1 := pprod_len (l := l) (fun r hr => h r (by simp [hr]))
    have h2 := h q (by simp)
    simp only [List.length_cons, pprod]
    rw [Nat.pow_succ, Nat.mul_comm]
    refine Nat.mul_le_mul ?_ h1
    have : q.1 ^ 1 ≤ q.1 ^ q.2 := Nat.pow_le_pow_right (by have := h2.1.1; omega) h2.2
    have h5 := h2.1.1
    rw [Nat.pow_one] at this
    exact Nat.le_trans h5 this
theorem len_small {l : List (Nat × Nat)} (h : PP l) (hb : pprod l ≤ 1000000000) : l.length ≤ 29 := by
  have h1 := pprod_len h
  by_cases h2 : l.length ≤ 29
  · exact h2
  · have : 2 ^ 30 ≤ 2 ^ l.length := Nat.pow_le_pow_right (by omega) (by omega)
    omega
/-- what a round keeps -/
def FcRel (n m d : Nat) (L : List (Nat × Nat)) : Prop := 1 ≤ m ∧ m * pprod L = n ∧ PP L ∧ Free m d ∧ 2 ≤ d
theorem FcRel.len {n m d : Nat} {L : List (Nat × Nat)} (h : FcRel n m d L) (hn : n ≤ 1000000000) : L.length ≤ 29 ∧ m ≤ 1000000000 := by
  obtain ⟨h1, h2, h3, h4, h5⟩ := h
  have hp : 1 ≤ pprod L := Nat.le_trans Nat.one_le_two_pow (pprod_len h3)
  have e1 : 1 * pprod L ≤ m * pprod L := Nat.mul_le_mul_right _ h1
  have e2 : m * 1 ≤ m * pprod L := Nat.mul_le_mul_left _ hp
  exact ⟨len_small h3 (by omega), by omega⟩
theorem Free.prime {m d : Nat} (h : Free m d) (h2 : 2 ≤ d) (hd : d ∣ m) : Pr d := by
  refine Free.pr h2 fun e h3 h4 h5 => h e h3 h4 (Nat.dvd_trans h5 hd)
theorem FcRel.skip {n m d : Nat} {L : List (Nat × Nat)} (h : FcRel n m d L) (hd : ¬ d ∣ m) : FcRel n m (d + 1) L :=
  ⟨h.1, h.2.1, h.2.2.1, h.2.2.2.1.next hd, by have := h.2.2.2.2; omega⟩
theorem FcRel.take {n m d r k : Nat} {L : List (Nat × Nat)} (h : FcRel n m d L) (hk : 1 ≤ k) (hm : m = r * d ^ k) (hr : 1 ≤ r) (hd : ¬ d ∣ r) : FcRel n r (d + 1) (L ++ [(d, k)]) := by
  obtain ⟨h1, h2, h3, h4, h5⟩ := h
  have hdm : d ∣ m := by
    rw [hm]; exact Nat.dvd_trans (Nat.dvd_trans ⟨d ^ (k - 1), by rw [← Nat.pow_succ']; congr 1; omega⟩ (Nat.dvd_refl (d ^ k))) (Nat.dvd_mul_left _ _)
  refine ⟨hr, ?_, ?_, ?_, by omega⟩
  · rw [pprod_app]; simp only [pprod]; rw [← h2, hm]; grind
  · intro q hq
    rcases List.mem_append.1 hq with hq | hq
    · exact h3 q hq
    · simp at hq; rw [hq]; exact ⟨h4.prime h5 hdm, hk⟩
  · refine Free.next (fun e h6 h7 h8 => h4 e h6 h7 ?_) hd
    rw [hm]; exact Nat.dvd_trans h8 (Nat.dvd_mul_right _ _)
theorem FcRel.last {n m d : Nat} {L : List (Nat × Nat)} (h : FcRel n m d L) (hm : 2 ≤ m) (hd : m < d * d) : PP (L ++ [(m, 1)]) ∧ pprod (L ++ [(m, 1)]) = n := by
  obtain ⟨h1, h2, h3, h4, h5⟩ := h
  refine ⟨?_, ?_⟩
  · intro q hq
    rcases List.mem_append.1 hq with hq | hq
    · exact h3 q hq
    · simp at hq; rw [hq]; exact ⟨(h4.root hm hd).pr hm, by omega⟩
  · rw [pprod_app]; simp only [pprod]; rw [← h2]; grind
theorem Try.info80 : (Try.prog.info? 80).map (fun i => (i.zero, i.size, i.bytes)) = some (some (.agg #[.int .i64 0, .int .i64 0]), 2, 16) := by kernel_rfl
theorem two_new (w : World) (u v : Value) (T : TypeId) (n : Nat) (hn : n = w.heap.size) : ∀ (j : Nat) (x : Value), [u, v][j]? = some x → (w.alloc (.cells #[u, v] T)).cell? ((⟨n, 0, none⟩ : Addr).add j) = some x := by
  subst hn
  intro j x hj
  match j with
  | 0 => simp at hj; subst hj; simp [go_sem]
  | 1 => simp at hj; subst hj; simp [go_sem]
  | j + 2 => simp at hj
def FacEnd (n : Nat) (w : World) (e : Ending) (w' : World) : Prop := ∃ (v : Value) (L : List (Nat × Nat)), e = .returned v ∧ PP L ∧ pprod L = n ∧ L.length ≤ 29 ∧ w'.ownsRow w.heap.size 80 2 v L.length (flat L) ∧ Below w.heap.size w w'
set_option maxHeartbeats 4000000 in
theorem fac80 (n : Nat) (w : World) (h1 : 1 ≤ n) (h2 : n ≤ 1000000000) :
    Calls Try.prog 80 #[.int .i64 n] w fun e w' => FacEnd n w e w' := by
  obtain ⟨i0, hi, hz0, hz1, hz2⟩ := info_parts Try.info80
  go_enter Try.func80, Try.ntmps80
  go_wp2
  go_loopw [0, 3, 4, 5] (fun t0 t3 t4 _ wr => ∃ (m d : Nat) (L : List (Nat × Nat)), (FcRel n m d L ∧ d ≤ 40001 ∧ wr.ownsRow w.heap.size 80 2 t3 L.length (flat L) ∧ Below w.heap.size w wr) ∧ t0 = .int .i64 m ∧ t4 = .int .i64 d) (fun _ _ t4 _ _ => (50000 - intOf t4).toNat)
  case atStart => exact ⟨n, 2, [], ⟨⟨h1, by simp [pprod], fun q hq => by simp at hq, Free.two n, by omega⟩, by omega, World.ownsRow_nil _ _ _ _, Below.refl _ _⟩, rfl, rfl⟩
  case round =>
    obtain ⟨m, d, L, ⟨hrel, d4, hown, hbel⟩, rfl, rfl⟩ := hrel
    obtain ⟨wo, rfl⟩ : ∃ wo : World, wo = wr := ⟨_, rfl⟩
    obtain ⟨hlen, hml⟩ := hrel.len h2
    obtain ⟨s1, s2⟩ := sq_bd (d := d) (by omega)
    have d2 := hrel.2.2.2.2
    have m1 := hrel.1
    have ed : (d : Int) * d = ((d * d : Nat) : Int) := by rw [Int.natCast_mul]
    have ED := Lib.hid ed
    have HR := Lib.hid hrel
    have HO := Lib.hid hown
    have HB := Lib.hid hbel
    clear hrel hown hbel ed
    by_cases hle : (d : Int) * d ≤ m
    · have hdl : d ≤ 40000 := by
        have h5 : d * d ≤ 1000000000 := by have := ED.out; omega
        by_cases h6 : d ≤ 40000
        · exact h6
        · have : 40000 * 40000 ≤ d * d := Nat.mul_le_mul (by omega) (by omega)
          omega
      go_wp2
      go_loop [0, 5] (fun t0 t5 => ∃ (r k : Nat), (m = r * d ^ k ∧ 1 ≤ r ∧ r ≤ m ∧ k + r ≤ m) ∧ t0 = .int .i64 r ∧ t5 = .int .i64 k) (fun t0 _ => (intOf t0).toNat)
      case atStart => exact ⟨m, 0, ⟨by simp, m1, Nat.le_refl _, by omega⟩, rfl, rfl⟩
      case round =>
        obtain ⟨r, k, ⟨e1, e2, e3, e4⟩, rfl, rfl⟩ := hrel
        have E1 := Lib.hid e1
        clear e1
        by_cases hd : (r : Int) % d = 0
        · have ht : ((r : Int) % d == 0) = true := by rw [hd]; rfl
          have hdv := emod_dvd.1 hd
          have hq : r / d * d = r := Nat.div_mul_cancel hdv
          have hq1 : 1 ≤ r / d := Nat.div_pos (Nat.le_of_dvd (by omega) hdv) (by omega)
          have hq2 : r / d < r := Nat.div_lt_self (by omega) (by omega)
          have hm' : m = r / d * d ^ (k + 1) := by rw [Nat.pow_succ, E1.out]; conv => lhs; rw [← hq]
                                                   grind
          have HM := Lib.hid hm'
          have hqi : (r : Int) / d = ((r / d : Nat) : Int) := (Int.natCast_ediv r d).symm
          have HQ := Lib.hid hqi
          have hq0 : 0 ≤ (r : Int) / d := by rw [hqi]; omega
          have hql : (r : Int) / d < r := by rw [hqi]; omega
          clear hd hdv hq hm' hqi
          go_wp2
          go_round
          case rel => exact ⟨r / d, k + 1, ⟨HM.out, hq1, by omega, by omega⟩, congrArg (Value.int .i64) HQ.out, by go_num⟩
          case measure => simp [intOf]; omega
        · have ht : ((r : Int) % d == 0) = false := by simp [hd]
          have HD := Lib.hid (fun h => hd (emod_dvd.2 h))
          clear hd
          by_cases hk : 0 < k
          · have HT := Lib.hid (HR.out.take hk E1.out e2 HD.out)
            go_wp2_with (at_builtin; refine wpList_append_own _ rfl _ _ 75 rfl w.heap.size 80 i0 (.agg #[.int .i64 0, .int .i64 0]) 2 16 Try.underlying75 hi hz0 hz1 hz2 rfl (by decide) _ _ _ rfl (HO.out.alloc _) ⟨wo.heap.size, 0, none⟩ 1 1 [.int .i64 d, .int .i64 k] rfl rfl (two_new _ _ _ _ _ rfl) (by intro u hu; simp at hu; rcases hu with rfl | rfl <;> rfl) (by unfold maxLen; omega) (by omega) (by have := HB.out.size; simp; omega) ?_)
            intro v2 w2 hown2 hgrow2 _
            have hbel2 : Below w.heap.size w w2 := (HB.out.alloc HB.out.size _).grown hgrow2 (by have := HB.out.size; simp; omega) (fun j hj => (HO.out.lt j hj).1)
            have hown3 : w2.ownsRow w.heap.size 80 2 v2 (L ++ [(d, k)]).length (flat (L ++ [(d, k)])) := by rw [flat_app, List.length_append]; exact hown2
            have H3 := Lib.hid hown3
            have HB2 := Lib.hid hbel2
            clear hown2 hgrow2 hbel2 hown3
            go_wp2
            go_roundw
            case rel => exact ⟨r, d + 1, L ++ [(d, k)], ⟨HT.out, by omega, H3.out, HB2.out⟩, rfl, by go_num⟩
            case measure => simp [intOf]; omega
          · have hk0 : k = 0 := by omega
            have hmr : m = r := by rw [E1.out, hk0]; simp
            have HT := Lib.hid (HR.out.skip (by rw [hmr]; exact HD.out))
            have HMR := Lib.hid hmr
            clear hk0 hmr
            go_wp2
            go_roundw
            case rel => exact ⟨r, d + 1, L, ⟨by rw [← HMR.out]; exact HT.out, by omega, HO.out, HB.out⟩, rfl, by go_num⟩
            case measure => simp [intOf]; omega
    · have hlt : m < d * d := by have := ED.out; omega
      by_cases hm : 1 < m
      · have HT := Lib.hid (HR.out.last (by omega) hlt)
        clear hlt
        go_wp2_with (at_builtin; refine wpList_append_own _ rfl _ _ 75 rfl w.heap.size 80 i0 (.agg #[.int .i64 0, .int .i64 0]) 2 16 Try.underlying75 hi hz0 hz1 hz2 rfl (by decide) _ _ _ rfl (HO.out.alloc _) ⟨wo.heap.size, 0, none⟩ 1 1 [.int .i64 m, .int .i64 (1 : Nat)] rfl rfl (two_new _ _ _ _ _ rfl) (by intro u hu; simp at hu; rcases hu with rfl | rfl <;> rfl) (by unfold maxLen; omega) (by omega) (by have := HB.out.size; simp; omega) ?_)
        intro v2 w2 hown2 hgrow2 _
        have hbel2 : Below w.heap.size w w2 := (HB.out.alloc HB.out.size _).grown hgrow2 (by have := HB.out.size; simp; omega) (fun j hj => (HO.out.lt j hj).1)
        have hown3 : w2.ownsRow w.heap.size 80 2 v2 (L ++ [(m, 1)]).length (flat (L ++ [(m, 1)])) := by rw [flat_app, List.length_append]; exact hown2
        have H3 := Lib.hid hown3
        have HB2 := Lib.hid hbel2
        clear hown2 hgrow2 hbel2 hown3
        go_wp2
        go_ret
        exact ⟨v2, L ++ [(m, 1)], rfl, HT.out.1, HT.out.2, len_small HT.out.1 (by rw [HT.out.2]; exact h2), H3.out, HB2.out⟩
      · have hm1 : m = 1 := by omega
        have HM1 := Lib.hid hm1
        clear hm1 hlt
        go_wp2
        go_ret
        exact ⟨_, L, rfl, HR.out.2.2.1, by have := HR.out.2.1; rw [HM1.out, Nat.one_mul] at this; exact this, hlen, HO.out, HB.out⟩
end Go.Proofs.Ytcbdnnboddahkaa
