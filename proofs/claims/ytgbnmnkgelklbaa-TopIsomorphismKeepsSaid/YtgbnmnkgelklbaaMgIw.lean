/-
  WALKS: two lists of numbers, compared; whether two algebras are isomorphic.
  WALKS: Isomorphic; Isomorphism where there is none.
-/
import Derived.Test.YtgbnmnkgelklbaaMgIp
import Derived.Test.YtgbnmnkgelklbaaMgRm
import Derived.Test.YtgbnmnkgelklbaaAlD
namespace Go.Proofs.Ytgbnmnkgelklbaa.Iso
open Go.RowKit
open Alm Al
open Rm (LN LN.of LN.at_ LN.below LN.lt K_Rk RL RL_len dfB chk_bds nvs RmEnd)
set_option linter.unusedVariables false
set_option linter.unusedSimpArgs false
set_option maxRecDepth 100000
theorem take_eq_step {l m : List Nat} {k q : Nat} (h : l.take k = m.take k) (h1 : l[k]? = some q) (h2 : m[k]? = some q) : l.take (k + 1) = m.take (k + 1) := by
  rw [List.take_add_one, List.take_add_one, h, h1, h2]
set_option maxHeartbeats 1600000 in
theorem Equal_any (l m : List Nat) (B1 B2 : Nat) (A1 A2 : Option Addr) (c1 c2 : Nat) (w : World) (h1 : LN B1 w A1 c1 l) (h2 : LN B2 w A2 c2 m) (hl : l.length ≤ 1001) (hm : m.length ≤ 1001) (hc1 : l.length ≤ c1) (hc2 : m.length ≤ c2) (hm1 : c1 ≤ 9223372036854775807) (hm2 : c2 ≤ 9223372036854775807) :
    Calls Try.prog 63 #[.slice A1 l.length c1, .slice A2 m.length c2] w fun e w' => e = .returned (.bool (decide (l = m))) ∧ Below w.heap.size w w' := by
  have H1 := Lib.hid h1
  have H2 := Lib.hid h2
  clear h1 h2
  by_cases hlm : l.length = m.length
  · have ht : ((l.length : Int) != (m.length : Int)) = false := by rw [hlm]; simp
    have HLM := Lib.hid hlm
    clear hlm
    go_enter Try.func63, Try.ntmps63
    go_wp2_with fail
    go_loopw [13] (fun t13 wr => ∃ k : Nat, (k ≤ l.length ∧ Below w.heap.size w wr ∧ l.take k = m.take k) ∧ t13 = .int .i64 k) (fun t13 _ => l.length - (intOf t13).toNat)
    case atStart => exact ⟨0, ⟨Nat.zero_le _, Below.refl _ _, rfl⟩, rfl⟩
    case round =>
      obtain ⟨k, ⟨hkl, hbel, htk⟩, rfl⟩ := hrel
      obtain ⟨wo, rfl⟩ : ∃ wo : World, wo = wr := ⟨_, rfl⟩
      have hP := LN.below H1.out hbel (LN.lt H1.out)
      have hQ := LN.below H2.out hbel (LN.lt H2.out)
      have HB := Lib.hid hbel
      have HTK := Lib.hid htk
      clear hbel htk
      by_cases hlt : k < l.length
      · have hlt2 : k < m.length := by rw [← HLM.out]; exact hlt
        have hq : l[k]? = some l[k] := List.getElem?_eq_getElem hlt
        have hr : m[k]? = some m[k] := List.getElem?_eq_getElem hlt2
        obtain ⟨b, rfl, g0, -, -⟩ := LN.at_ hP hq
        obtain ⟨b', rfl, g1, -, -⟩ := LN.at_ hQ hr
        obtain ⟨q, hqq⟩ : ∃ q, l[k] = q := ⟨_, rfl⟩
        obtain ⟨r, hrr⟩ : ∃ r, m[k] = r := ⟨_, rfl⟩
        rw [hqq] at hq g0
        rw [hrr] at hr g1
        have HQ := Lib.hid hq
        have HR := Lib.hid hr
        clear hq hr hqq hrr hP hQ
        by_cases hqr : q = r
        · have h3 : ((q : Int) != (r : Int)) = false := by rw [hqr]; simp
          have HE := Lib.hid hqr
          clear hqr
          go_wp2_with fail
          go_region
          go_wp2
          go_roundw
          case rel => exact ⟨k + 1, ⟨by omega, below_draws HB.out 1, take_eq_step HTK.out HQ.out (HE.out ▸ HR.out)⟩, by go_num⟩
          case measure => simp [intOf]; omega
        · have h3 : ((q : Int) != (r : Int)) = true := by rw [bne_iff_ne]; omega
          have HE : Hid (decide (l = m) = false) := Lib.hid (decide_eq_false fun e => by
            have := HQ.out; rw [e, HR.out] at this; exact hqr (Option.some.inj this).symm)
          clear hqr
          go_wp2_with fail
          go_region
          go_wp2
          go_ret
          exact ⟨by rw [HE.out]; rfl, below_draws HB.out 1⟩
      · have HE : Hid (decide (l = m) = true) := Lib.hid (decide_eq_true (by
          have e1 : k = l.length := by omega
          have e2 := HTK.out
          rw [e1, List.take_length, HLM.out, List.take_length] at e2
          exact e2))
        clear hP hQ
        go_wp2
        go_ret
        exact ⟨by rw [HE.out]; rfl, HB.out⟩
  · have ht : ((l.length : Int) != (m.length : Int)) = true := by rw [bne_iff_ne]; omega
    have HE : Hid (decide (l = m) = false) := Lib.hid (decide_eq_false fun e => hlm (congrArg List.length e))
    clear hlm
    go_enter Try.func63, Try.ntmps63
    go_wp2
    go_ret
    exact ⟨by rw [HE.out]; rfl, Below.refl _ _⟩
set_option maxHeartbeats 1600000 in
theorem Ints_any (l m : List Nat) (B1 B2 : Nat) (A1 A2 : Option Addr) (c1 c2 : Nat) (w : World) (h1 : LN B1 w A1 c1 l) (h2 : LN B2 w A2 c2 m) (hl : l.length ≤ 1001) (hm : m.length ≤ 1001) (hc1 : l.length ≤ c1) (hc2 : m.length ≤ c2) (hm1 : c1 ≤ 9223372036854775807) (hm2 : c2 ≤ 9223372036854775807) :
    Calls Try.prog 26 #[.slice A1 l.length c1, .slice A2 m.length c2] w fun e w' => e = .returned (.bool (decide (l = m))) ∧ Below w.heap.size w w' := by
  have H1 := Lib.hid h1
  have H2 := Lib.hid h2
  clear h1 h2
  by_cases hlm : l.length = m.length
  · have ht : ((l.length : Int) != (m.length : Int)) = false := by rw [hlm]; simp
    have HLM := Lib.hid hlm
    clear hlm
    go_enter Try.func26, Try.ntmps26
    go_wp2_with fail
    go_loopw [5] (fun t5 wr => ∃ k : Nat, (k ≤ l.length ∧ Below w.heap.size w wr ∧ l.take k = m.take k) ∧ t5 = .int .i64 k) (fun t5 _ => l.length - (intOf t5).toNat)
    case atStart => exact ⟨0, ⟨Nat.zero_le _, Below.refl _ _, rfl⟩, rfl⟩
    case round =>
      obtain ⟨k, ⟨hkl, hbel, htk⟩, rfl⟩ := hrel
      obtain ⟨wo, rfl⟩ : ∃ wo : World, wo = wr := ⟨_, rfl⟩
      have hP := LN.below H1.out hbel (LN.lt H1.out)
      have hQ := LN.below H2.out hbel (LN.lt H2.out)
      have HB := Lib.hid hbel
      have HTK := Lib.hid htk
      clear hbel htk
      by_cases hlt : k < l.length
      · have hlt2 : k < m.length := by rw [← HLM.out]; exact hlt
        have hq : l[k]? = some l[k] := List.getElem?_eq_getElem hlt
        have hr : m[k]? = some m[k] := List.getElem?_eq_getElem hlt2
        obtain ⟨b, rfl, g0, -, -⟩ := LN.at_ hP hq
        obtain ⟨b', rfl, g1, -, -⟩ := LN.at_ hQ hr
        obtain ⟨q, hqq⟩ : ∃ q, l[k] = q := ⟨_, rfl⟩
        obtain ⟨r, hrr⟩ : ∃ r, m[k] = r := ⟨_, rfl⟩
        rw [hqq] at hq g0
        rw [hrr] at hr g1
        have HQ := Lib.hid hq
        have HR := Lib.hid hr
        clear hq hr hqq hrr hP hQ
        by_cases hqr : q = r
        · have h3 : ((q : Int) != (r : Int)) = false := by rw [hqr]; simp
          have HE := Lib.hid hqr
          clear hqr
          go_wp2_with fail
          go_region
          go_wp2
          go_roundw
          case rel => exact ⟨k + 1, ⟨by omega, below_draws HB.out 1, take_eq_step HTK.out HQ.out (HE.out ▸ HR.out)⟩, by go_num⟩
          case measure => simp [intOf]; omega
        · have h3 : ((q : Int) != (r : Int)) = true := by rw [bne_iff_ne]; omega
          have HE : Hid (decide (l = m) = false) := Lib.hid (decide_eq_false fun e => by
            have := HQ.out; rw [e, HR.out] at this; exact hqr (Option.some.inj this).symm)
          clear hqr
          go_wp2_with fail
          go_region
          go_wp2
          go_ret
          exact ⟨by rw [HE.out]; rfl, below_draws HB.out 1⟩
      · have HE : Hid (decide (l = m) = true) := Lib.hid (decide_eq_true (by
          have e1 : k = l.length := by omega
          have e2 := HTK.out
          rw [e1, List.take_length, HLM.out, List.take_length] at e2
          exact e2))
        clear hP hQ
        go_wp2
        go_ret
        exact ⟨by rw [HE.out]; rfl, HB.out⟩
  · have ht : ((l.length : Int) != (m.length : Int)) = true := by rw [bne_iff_ne]; omega
    have HE : Hid (decide (l = m) = false) := Lib.hid (decide_eq_false fun e => hlm (congrArg List.length e))
    clear hlm
    go_enter Try.func26, Try.ntmps26
    go_wp2
    go_ret
    exact ⟨by rw [HE.out]; rfl, Below.refl _ _⟩
/-- whether two algebras are ramified at the same places -/
noncomputable def isoB (A B C D : Int) : Bool := (dfB A B == dfB C D) && decide (RL A B 1001 = RL C D 1001)
def RmOk (f : FuncId) : Prop := ∀ (A B : Int) (W : World), chkA A B = 0 → Calls Try.prog f #[.agg #[.int .i64 A, .int .i64 B]] W fun e w' => ∃ (Aa : Option Addr) (c : Nat), e = .returned (.slice Aa (RL A B 1001).length c) ∧ LN W.heap.size w' Aa c (RL A B 1001) ∧ c ≤ 9223372036854775807 ∧ (RL A B 1001).length ≤ c ∧ Below W.heap.size W w'
theorem ram_lists : RmOk 28 := fun A B W h => by
  obtain ⟨b1, b2, b3, b4⟩ := chk_bds h
  refine (Rm.ramified_any A B W b1 b2 b3 b4).mono ?_
  rintro e w' ⟨v, rfl, hown, hbel⟩
  obtain ⟨Aa, c, rfl, hLN, hc, hlc⟩ := LN.of hown
  exact ⟨Aa, c, rfl, hLN, hc, hlc, hbel⟩
set_option maxHeartbeats 3200000 in
theorem isIso_any (A B C D : Int) (w : World) (hA : chkA A B = 0) (hC : chkA C D = 0) :
    Calls Try.prog 41 #[.agg #[.int .i64 A, .int .i64 B], .agg #[.int .i64 C, .int .i64 D]] w fun e w' => e = .returned (.bool (isoB A B C D)) ∧ Below w.heap.size w w' := by
  have D1 := Lib.hid (fun W => Rm.isDefinite_any A B W)
  have D2 := Lib.hid (fun W => Rm.isDefinite_any C D W)
  have R1 := Lib.hid (fun W => ram_lists A B W hA)
  have R2 := Lib.hid (fun W => ram_lists C D W hC)
  have L1 := Lib.hid (RL_len A B 1001)
  have L2 := Lib.hid (RL_len C D 1001)
  clear hA hC
  unfold isoB
  generalize RL A B 1001 = l at *
  generalize RL C D 1001 = m at *
  generalize dfB A B = d1 at *
  generalize dfB C D = d2 at *
  rcases hv : (d1 == d2) with _ | _
  · have HV := Lib.hid hv
    go_enter Try.func41, Try.ntmps41
    go_wp2_with fail
    have hk : K_X0 A B C D w.heap.size (w.heap.size + 1) w ((w.alloc (.cells #[.int .i64 A, .int .i64 B] 23)).alloc (.cells #[.int .i64 C, .int .i64 D] 23)) := ⟨by simp [go_sem], by simp, by simp, by (repeat (first | (with_reducible exact Below.refl _ _) | (with_reducible exact HB.out) | (with_reducible refine below_draws ?_ _) | (with_reducible refine Below.alloc ?_ (by go_size) _) | (with_reducible refine Below.setCell ?_ (by go_size) _) | (with_reducible refine Below.alloc ?_ (by simp <;> omega) _) | (with_reducible refine Below.setCell ?_ (by simp <;> omega) _)))⟩
    generalize ((w.alloc (.cells #[.int .i64 A, .int .i64 B] 23)).alloc (.cells #[.int .i64 C, .int .i64 D] 23)) = wq at hk ⊢
    refine wp_region_held_drew (S := (fun w' => (w'.cell? ⟨w.heap.size, 0, none⟩ = some (.int .i64 A) ∧ w'.cell? ⟨w.heap.size, 1, none⟩ = some (.int .i64 B) ∧ w'.cell? ⟨(w.heap.size + 1), 0, none⟩ = some (.int .i64 C) ∧ w'.cell? ⟨(w.heap.size + 1), 1, none⟩ = some (.int .i64 D)) ∧ K_X0 A B C D w.heap.size (w.heap.size + 1) w w')) (by kernel_rfl) ?_ (fun hHeld => ?_)
    · obtain ⟨c0_, c1_, c2_, c3_⟩ := K_X0.cells hk
      ((refine K_X0.ks ?_; repeat (first | (with_reducible assumption) | (with_reducible refine K_X0.draws _ ?_) | (with_reducible refine K_X0.drew ?_) | (with_reducible refine K_X0.alloc _ ?_) | (with_reducible refine K_X0.set ?_ _ _ _ (by omega)))))
    (refine wpAnyH_take (i := 0) (oi := _) (v := ?_) rfl (by kernel_rfl) (by kernel_rfl) (by kernel_rfl) (fun _ _ _ h => h) (Or.inl ⟨by rfl, fun wx hSw => ?_⟩) (by assumption) ?_; rotate_left 1; focus ((try dsimp only at hSw); go_simp; (try with_reducible rfl)); (try simp only [Act.put, List.setIfInBounds_toArray, List.set_cons_zero, List.set_cons_succ, List.getElem_toArray, List.getElem_cons_zero, List.getElem_cons_succ]))
    (refine wpAnyH_take (i := 2) (oi := _) (v := ?_) rfl (by kernel_rfl) (by kernel_rfl) (by kernel_rfl) (fun _ _ _ h => h) (Or.inl ⟨by rfl, fun wx hSw => ?_⟩) (by assumption) ?_; rotate_left 1; focus ((try dsimp only at hSw); go_simp; (try with_reducible rfl)); (try simp only [Act.put, List.setIfInBounds_toArray, List.set_cons_zero, List.set_cons_succ, List.getElem_toArray, List.getElem_cons_zero, List.getElem_cons_succ]))
    (refine wpAnyH_ready (rs := [1]) (by kernel_rfl) (by simp) ?_; refine AllReadyH.cons (o := _) rfl (fun K hK => ?_) AllReadyH.nil; go_simp)
    go_at_call 29
    refine (D1.out _).mono ?_
    rintro e w' ⟨rfl, hbel⟩
    have hk' := K_X0.below hbel (And.right (by assumption))
    clear hbel
    (refine hK.out _ _ (by ((refine K_X0.ks ?_; repeat (first | (with_reducible assumption) | (with_reducible refine K_X0.draws _ ?_) | (with_reducible refine K_X0.drew ?_) | (with_reducible refine K_X0.alloc _ ?_) | (with_reducible refine K_X0.set ?_ _ _ _ (by omega)))))) (fun hHeld => ?_); clear hK K; (try simp only [Act.put, List.setIfInBounds_toArray, List.set_cons_zero, List.set_cons_succ, List.getElem_toArray, List.getElem_cons_zero, List.getElem_cons_succ]))
    (refine wpAnyH_ready (rs := [3]) (by kernel_rfl) (by simp) ?_; refine AllReadyH.cons (o := _) rfl (fun K hK => ?_) AllReadyH.nil; go_simp)
    go_at_call 29
    refine (D2.out _).mono ?_
    rintro e w'' ⟨rfl, hbel⟩
    have hk'' := K_X0.below hbel (And.right (by assumption))
    clear hbel
    (refine hK.out _ _ (by ((refine K_X0.ks ?_; repeat (first | (with_reducible assumption) | (with_reducible refine K_X0.draws _ ?_) | (with_reducible refine K_X0.drew ?_) | (with_reducible refine K_X0.alloc _ ?_) | (with_reducible refine K_X0.set ?_ _ _ _ (by omega)))))) (fun hHeld => ?_); clear hK K; (try simp only [Act.put, List.setIfInBounds_toArray, List.set_cons_zero, List.set_cons_succ, List.getElem_toArray, List.getElem_cons_zero, List.getElem_cons_succ]))
    (refine wpAnyH_take (i := 4) (oi := _) (v := ?_) rfl (by kernel_rfl) (by kernel_rfl) (by kernel_rfl) (fun _ _ _ h => h) (Or.inl ⟨by rfl, fun wx hSw => ?_⟩) (by assumption) ?_; rotate_left 1; focus ((try dsimp only at hSw); go_simp; (try with_reducible rfl)); (try simp only [Act.put, List.setIfInBounds_toArray, List.set_cons_zero, List.set_cons_succ, List.getElem_toArray, List.getElem_cons_zero, List.getElem_cons_succ]))
    (refine wpAnyH_take (i := 5) (oi := _) (v := ?_) rfl (by kernel_rfl) (by kernel_rfl) (by kernel_rfl) (fun _ _ _ h => h) (Or.inl ⟨by rfl, fun wx hSw => ?_⟩) (by assumption) ?_; rotate_left 1; focus ((try dsimp only at hSw); go_simp; (try with_reducible rfl)); (try simp only [Act.put, List.setIfInBounds_toArray, List.set_cons_zero, List.set_cons_succ, List.getElem_toArray, List.getElem_cons_zero, List.getElem_cons_succ]))
    (refine wpAnyH_take (i := 6) (oi := _) (v := undef) rfl (by kernel_rfl) (by kernel_rfl) (by kernel_rfl) (fun _ _ _ h => h) (Or.inr ⟨by rfl, rfl⟩) (by assumption) ?_; (try simp only [Act.put, List.setIfInBounds_toArray, List.set_cons_zero, List.set_cons_succ, List.getElem_toArray, List.getElem_cons_zero, List.getElem_cons_succ]))
    (refine wpAnyH_take (i := 7) (oi := _) (v := undef) rfl (by kernel_rfl) (by kernel_rfl) (by kernel_rfl) (fun _ _ _ h => h) (Or.inr ⟨by rfl, rfl⟩) (by assumption) ?_; (try simp only [Act.put, List.setIfInBounds_toArray, List.set_cons_zero, List.set_cons_succ, List.getElem_toArray, List.getElem_cons_zero, List.getElem_cons_succ]))
    (refine wpAnyH_take (i := 8) (oi := _) (v := undef) rfl (by kernel_rfl) (by kernel_rfl) (by kernel_rfl) (fun _ _ _ h => h) (Or.inr ⟨by rfl, rfl⟩) (by assumption) ?_; (try simp only [Act.put, List.setIfInBounds_toArray, List.set_cons_zero, List.set_cons_succ, List.getElem_toArray, List.getElem_cons_zero, List.getElem_cons_succ]))
    (refine wpAnyH_take (i := 9) (oi := _) (v := undef) rfl (by kernel_rfl) (by kernel_rfl) (by kernel_rfl) (fun _ _ _ h => h) (Or.inr ⟨by rfl, rfl⟩) (by assumption) ?_; (try simp only [Act.put, List.setIfInBounds_toArray, List.set_cons_zero, List.set_cons_succ, List.getElem_toArray, List.getElem_cons_zero, List.getElem_cons_succ]))
    (refine wpAnyH_take (i := 10) (oi := _) (v := undef) rfl (by kernel_rfl) (by kernel_rfl) (by kernel_rfl) (fun _ _ _ h => h) (Or.inr ⟨by rfl, rfl⟩) (by assumption) ?_; (try simp only [Act.put, List.setIfInBounds_toArray, List.set_cons_zero, List.set_cons_succ, List.getElem_toArray, List.getElem_cons_zero, List.getElem_cons_succ]))
    (refine wpAnyH_take (i := 11) (oi := _) (v := ?_) rfl (by kernel_rfl) (by kernel_rfl) (by kernel_rfl) (fun _ _ _ h => h) (Or.inl ⟨by rfl, fun wx hSw => ?_⟩) (by assumption) ?_; rotate_left 1; focus ((try dsimp only at hSw); go_simp; (try with_reducible rfl)); (try simp only [Act.put, List.setIfInBounds_toArray, List.set_cons_zero, List.set_cons_succ, List.getElem_toArray, List.getElem_cons_zero, List.getElem_cons_succ]))
    (refine wpAnyH_take (i := 12) (oi := _) (v := ?_) rfl (by kernel_rfl) (by kernel_rfl) (by kernel_rfl) (fun _ _ _ h => h) (Or.inl ⟨by rfl, fun wx hSw => ?_⟩) (by assumption) ?_; rotate_left 1; focus ((try dsimp only at hSw); go_simp; (try with_reducible rfl)); (try simp only [Act.put, List.setIfInBounds_toArray, List.set_cons_zero, List.set_cons_succ, List.getElem_toArray, List.getElem_cons_zero, List.getElem_cons_succ]))
    refine wpAnyH_done (by kernel_rfl) ?_ _
    clear hv
    go_wp2
    go_ret
    exact ⟨rfl, K_X0.bel hk''⟩
  · have HV := Lib.hid hv
    go_enter Try.func41, Try.ntmps41
    go_wp2_with fail
    have hk : K_X0 A B C D w.heap.size (w.heap.size + 1) w ((w.alloc (.cells #[.int .i64 A, .int .i64 B] 23)).alloc (.cells #[.int .i64 C, .int .i64 D] 23)) := ⟨by simp [go_sem], by simp, by simp, by (repeat (first | (with_reducible exact Below.refl _ _) | (with_reducible exact HB.out) | (with_reducible refine below_draws ?_ _) | (with_reducible refine Below.alloc ?_ (by go_size) _) | (with_reducible refine Below.setCell ?_ (by go_size) _) | (with_reducible refine Below.alloc ?_ (by simp <;> omega) _) | (with_reducible refine Below.setCell ?_ (by simp <;> omega) _)))⟩
    generalize ((w.alloc (.cells #[.int .i64 A, .int .i64 B] 23)).alloc (.cells #[.int .i64 C, .int .i64 D] 23)) = wq at hk ⊢
    first
      | (go_region_held3 (fun w' => (w'.cell? ⟨w.heap.size, 0, none⟩ = some (.int .i64 A) ∧ w'.cell? ⟨w.heap.size, 1, none⟩ = some (.int .i64 B) ∧ w'.cell? ⟨(w.heap.size + 1), 0, none⟩ = some (.int .i64 C) ∧ w'.cell? ⟨(w.heap.size + 1), 1, none⟩ = some (.int .i64 D)) ∧ K_X0 A B C D w.heap.size (w.heap.size + 1) w w') ((refine K_X0.ks ?_; repeat (first | (with_reducible assumption) | (with_reducible refine K_X0.draws _ ?_) | (with_reducible refine K_X0.drew ?_) | (with_reducible refine K_X0.alloc _ ?_) | (with_reducible refine K_X0.set ?_ _ _ _ (by omega)))))
          (first
            | (go_at_call 29; (with_reducible refine (D1.out _).mono ?_); rintro e w' ⟨rfl, hbel⟩; have hk' := K_X0.below hbel (And.right (by assumption)); clear hbel)
            | (go_at_call 29; (with_reducible refine (D2.out _).mono ?_); rintro e w'' ⟨rfl, hbel⟩; have hk'' := K_X0.below hbel (And.right (by assumption)); clear hbel)
            | (go_at_call 28; (with_reducible refine (R1.out _).mono ?_); rintro e w3 ⟨Aa, c, rfl, hLN, hc, hlc, hbel⟩; have hk3 := K_X0.below hbel (And.right (by assumption)); have HL1 := Lib.hid hLN; clear hbel hLN)
            | (go_at_call 28; (with_reducible refine (R2.out _).mono ?_); rintro e w4 ⟨Ab, c2, rfl, hLN, hc2, hlc2, hbel⟩; have hk4 := K_X0.below hbel (And.right (by assumption)); have HL2 := Lib.hid hLN; have HL3 := Lib.hid (LN.below HL1.out hbel (LN.lt HL1.out)); clear hbel hLN HL1)
            | (go_at_call 63; (with_reducible refine (Equal_any l m _ _ Aa Ab c c2 _ HL3.out HL2.out L1.out L2.out hlc hlc2 hc hc2).mono ?_); rintro e w5 ⟨rfl, hbel⟩; have hk5 := K_X0.below hbel (And.right (by assumption)); clear hbel)))
      | fail
    all_goals
      clear hv
      go_wp2
      go_ret
      exact ⟨rfl, K_X0.bel hk5⟩
end Go.Proofs.Ytgbnmnkgelklbaa.Iso
namespace Go.Proofs.Ytgbnmnkgelklbaa.Iso
open Go.RowKit
open Alm Al
set_option linter.unusedVariables false
set_option linter.unusedSimpArgs false
set_option maxRecDepth 100000
/-- what a walk keeps: cells, and that nothing that was there has turned -/
def K_Sr (A B C D : Int) (b1 b2 R S : Nat) (w w' : World) : Prop := KL w [(b1, 0, .int .i64 A), (b1, 1, .int .i64 B), (b2, 0, .int .i64 C), (b2, 1, .int .i64 D)] [(R, 0), (R, 1), (R, 2), (R, 3), (R, 4), (S, 0), (S, 1), (S, 2), (S, 3), (S, 4)] w'
theorem K_Sr.below {A B C D : Int} {b1 b2 R S : Nat} {w w1 w2 : World} (hb : Below w1.heap.size w1 w2) (h : K_Sr A B C D b1 b2 R S w w1) : K_Sr A B C D b1 b2 R S w w2 := KL.below hb h
theorem K_Sr.draws {A B C D : Int} {b1 b2 R S : Nat} {w w1 : World} (n : Nat) (h : K_Sr A B C D b1 b2 R S w w1) : K_Sr A B C D b1 b2 R S w (w1.drewN n) := KL.draws n h
theorem K_Sr.drew {A B C D : Int} {b1 b2 R S : Nat} {w w1 : World} (h : K_Sr A B C D b1 b2 R S w w1) : K_Sr A B C D b1 b2 R S w w1.drew := KL.draws 1 h
theorem K_Sr.alloc {A B C D : Int} {b1 b2 R S : Nat} {w w1 : World} (o : Obj) (h : K_Sr A B C D b1 b2 R S w w1) : K_Sr A B C D b1 b2 R S w (w1.alloc o) := KL.alloc o h
theorem K_Sr.set {A B C D : Int} {b1 b2 R S : Nat} {w w1 : World} (h : K_Sr A B C D b1 b2 R S w w1) (b i : Nat) (v : Value) (hb : b ≠ b1 ∧ b ≠ b2 ∧ w.heap.size ≤ b) : K_Sr A B C D b1 b2 R S w (w1.setCell ⟨b, i, none⟩ v) :=
  KL.set h b i v (by intro x hx; simp only [List.mem_cons, List.not_mem_nil, or_false] at hx; rcases hx with rfl | rfl | rfl | rfl <;> simp only [] <;> omega) (by omega)
theorem K_Sr.bel {A B C D : Int} {b1 b2 R S : Nat} {w w1 : World} (h : K_Sr A B C D b1 b2 R S w w1) : Below w.heap.size w w1 := KL.bel h
theorem K_Sr.cells {A B C D : Int} {b1 b2 R S : Nat} {w w' : World} (h : K_Sr A B C D b1 b2 R S w w') : w'.cell? ⟨b1, 0, none⟩ = some (.int .i64 A) ∧ w'.cell? ⟨b1, 1, none⟩ = some (.int .i64 B) ∧ w'.cell? ⟨b2, 0, none⟩ = some (.int .i64 C) ∧ w'.cell? ⟨b2, 1, none⟩ = some (.int .i64 D) ∧ w'.cell? ⟨R, 0, none⟩ = some (cv w' R 0) ∧ w'.frozen? ⟨R, 0, none⟩ = false ∧ w'.cell? ⟨R, 1, none⟩ = some (cv w' R 1) ∧ w'.frozen? ⟨R, 1, none⟩ = false ∧ w'.cell? ⟨R, 2, none⟩ = some (cv w' R 2) ∧ w'.frozen? ⟨R, 2, none⟩ = false ∧ w'.cell? ⟨R, 3, none⟩ = some (cv w' R 3) ∧ w'.frozen? ⟨R, 3, none⟩ = false ∧ w'.cell? ⟨R, 4, none⟩ = some (cv w' R 4) ∧ w'.frozen? ⟨R, 4, none⟩ = false ∧ w'.cell? ⟨S, 0, none⟩ = some (cv w' S 0) ∧ w'.frozen? ⟨S, 0, none⟩ = false ∧ w'.cell? ⟨S, 1, none⟩ = some (cv w' S 1) ∧ w'.frozen? ⟨S, 1, none⟩ = false ∧ w'.cell? ⟨S, 2, none⟩ = some (cv w' S 2) ∧ w'.frozen? ⟨S, 2, none⟩ = false ∧ w'.cell? ⟨S, 3, none⟩ = some (cv w' S 3) ∧ w'.frozen? ⟨S, 3, none⟩ = false ∧ w'.cell? ⟨S, 4, none⟩ = some (cv w' S 4) ∧ w'.frozen? ⟨S, 4, none⟩ = false := ⟨h.c (b1, 0, .int .i64 A) (by simp), h.c (b1, 1, .int .i64 B) (by simp), h.c (b2, 0, .int .i64 C) (by simp), h.c (b2, 1, .int .i64 D) (by simp), h.d (R, 0) (by simp), h.f (R, 0) (by simp), h.d (R, 1) (by simp), h.f (R, 1) (by simp), h.d (R, 2) (by simp), h.f (R, 2) (by simp), h.d (R, 3) (by simp), h.f (R, 3) (by simp), h.d (R, 4) (by simp), h.f (R, 4) (by simp), h.d (S, 0) (by simp), h.f (S, 0) (by simp), h.d (S, 1) (by simp), h.f (S, 1) (by simp), h.d (S, 2) (by simp), h.f (S, 2) (by simp), h.d (S, 3) (by simp), h.f (S, 3) (by simp), h.d (S, 4) (by simp), h.f (S, 4) (by simp)⟩
theorem K_Sr.zs {A B C D : Int} {b1 b2 R S : Nat} {w w' : World} (h : K_Sr A B C D b1 b2 R S w w') : b1 < w'.heap.size ∧ b2 < w'.heap.size ∧ R < w'.heap.size ∧ S < w'.heap.size ∧ True := ⟨KL.z h (x := (b1, 0, .int .i64 A)) (by simp), KL.z h (x := (b2, 0, .int .i64 C)) (by simp), KL.zf h (x := (R, 0)) (by simp), KL.zf h (x := (S, 0)) (by simp), trivial⟩
theorem K_Sr.ks {A B C D : Int} {b1 b2 R S : Nat} {w w' : World} (h : K_Sr A B C D b1 b2 R S w w') : (w'.cell? ⟨b1, 0, none⟩ = some (.int .i64 A) ∧ w'.cell? ⟨b1, 1, none⟩ = some (.int .i64 B) ∧ w'.cell? ⟨b2, 0, none⟩ = some (.int .i64 C) ∧ w'.cell? ⟨b2, 1, none⟩ = some (.int .i64 D) ∧ w'.cell? ⟨R, 0, none⟩ = some (cv w' R 0) ∧ w'.frozen? ⟨R, 0, none⟩ = false ∧ w'.cell? ⟨R, 1, none⟩ = some (cv w' R 1) ∧ w'.frozen? ⟨R, 1, none⟩ = false ∧ w'.cell? ⟨R, 2, none⟩ = some (cv w' R 2) ∧ w'.frozen? ⟨R, 2, none⟩ = false ∧ w'.cell? ⟨R, 3, none⟩ = some (cv w' R 3) ∧ w'.frozen? ⟨R, 3, none⟩ = false ∧ w'.cell? ⟨R, 4, none⟩ = some (cv w' R 4) ∧ w'.frozen? ⟨R, 4, none⟩ = false ∧ w'.cell? ⟨S, 0, none⟩ = some (cv w' S 0) ∧ w'.frozen? ⟨S, 0, none⟩ = false ∧ w'.cell? ⟨S, 1, none⟩ = some (cv w' S 1) ∧ w'.frozen? ⟨S, 1, none⟩ = false ∧ w'.cell? ⟨S, 2, none⟩ = some (cv w' S 2) ∧ w'.frozen? ⟨S, 2, none⟩ = false ∧ w'.cell? ⟨S, 3, none⟩ = some (cv w' S 3) ∧ w'.frozen? ⟨S, 3, none⟩ = false ∧ w'.cell? ⟨S, 4, none⟩ = some (cv w' S 4) ∧ w'.frozen? ⟨S, 4, none⟩ = false) ∧ K_Sr A B C D b1 b2 R S w w' := ⟨h.cells, h⟩
set_option maxHeartbeats 3200000 in
theorem Isc_err (A B C D : Int) (w : World) (h : or2 (chkA A B) (chkA C D) ≠ 0) :
    Calls Try.prog 17 #[.agg #[.int .i64 A, .int .i64 B], .agg #[.int .i64 C, .int .i64 D]] w fun e w' => e = .returned (.tuple #[.bool false, .int .i64 (or2 (chkA A B) (chkA C D))]) ∧ Below w.heap.size w w' := by
  have ok : (or2 (chkA A B) (chkA C D) != 0) = true := by rw [bne_iff_ne]; exact h
  clear h
  go_enter Try.func17, Try.ntmps17
  go_wp2_with fail
  have hk : K_X0 A B C D w.heap.size (w.heap.size + 1) w ((w.alloc (.cells #[.int .i64 A, .int .i64 B] 23)).alloc (.cells #[.int .i64 C, .int .i64 D] 23)) := ⟨by simp [go_sem], by simp [go_sem], by simp [go_sem], by (repeat (first | (with_reducible exact Below.refl _ _) | (with_reducible exact HB.out) | (with_reducible refine below_draws ?_ _) | (with_reducible refine Below.alloc ?_ (by go_size) _) | (with_reducible refine Below.setCell ?_ (by go_size) _) | (with_reducible refine Below.alloc ?_ (by simp <;> omega) _) | (with_reducible refine Below.setCell ?_ (by simp <;> omega) _)))⟩
  go_region_held3 (fun w' => (w'.cell? ⟨w.heap.size, 0, none⟩ = some (.int .i64 A) ∧ w'.cell? ⟨w.heap.size, 1, none⟩ = some (.int .i64 B) ∧ w'.cell? ⟨(w.heap.size + 1), 0, none⟩ = some (.int .i64 C) ∧ w'.cell? ⟨(w.heap.size + 1), 1, none⟩ = some (.int .i64 D)) ∧ K_X0 A B C D w.heap.size (w.heap.size + 1) w w') ((refine K_X0.ks ?_; repeat (first | (with_reducible assumption) | (with_reducible refine K_X0.draws _ ?_) | (with_reducible refine K_X0.drew ?_) | (with_reducible refine K_X0.alloc _ ?_) | (with_reducible refine K_X0.set ?_ _ _ _ (by omega)))))
    (first
      | (go_at_call 27; (with_reducible refine (Check_any _ _ _).mono ?_); rintro e w' ⟨rfl, hbel⟩; have hk' := K_X0.below hbel (And.right (by assumption)); clear hbel)
      | (go_at_call 38; (with_reducible refine (Or_new _ _ _ _ _ ?_).mono ?_); rfl; rintro e w'' ⟨rfl, rfl⟩))
  all_goals
    go_wp2
    go_ret2
    exact ⟨rfl, K_X0.bel (K_X0.alloc _ hk')⟩
set_option maxHeartbeats 3200000 in
theorem Isc_ok (A B C D : Int) (w : World) (hA : chkA A B = 0) (hC : chkA C D = 0) :
    Calls Try.prog 17 #[.agg #[.int .i64 A, .int .i64 B], .agg #[.int .i64 C, .int .i64 D]] w fun e w' => e = .returned (.tuple #[.bool (isoB A B C D), .int .i64 0]) ∧ Below w.heap.size w w' := by
  have OK := Lib.hid (or2_ok hA hC)
  have II := Lib.hid (fun W => isIso_any A B C D W hA hC)
  clear hA hC
  go_enter Try.func17, Try.ntmps17
  go_wp2_with fail
  have hk : K_X0 A B C D w.heap.size (w.heap.size + 1) w ((w.alloc (.cells #[.int .i64 A, .int .i64 B] 23)).alloc (.cells #[.int .i64 C, .int .i64 D] 23)) := ⟨by simp [go_sem], by simp [go_sem], by simp [go_sem], by (repeat (first | (with_reducible exact Below.refl _ _) | (with_reducible exact HB.out) | (with_reducible refine below_draws ?_ _) | (with_reducible refine Below.alloc ?_ (by go_size) _) | (with_reducible refine Below.setCell ?_ (by go_size) _) | (with_reducible refine Below.alloc ?_ (by simp <;> omega) _) | (with_reducible refine Below.setCell ?_ (by simp <;> omega) _)))⟩
  go_region_held3 (fun w' => (w'.cell? ⟨w.heap.size, 0, none⟩ = some (.int .i64 A) ∧ w'.cell? ⟨w.heap.size, 1, none⟩ = some (.int .i64 B) ∧ w'.cell? ⟨(w.heap.size + 1), 0, none⟩ = some (.int .i64 C) ∧ w'.cell? ⟨(w.heap.size + 1), 1, none⟩ = some (.int .i64 D)) ∧ K_X0 A B C D w.heap.size (w.heap.size + 1) w w') ((refine K_X0.ks ?_; repeat (first | (with_reducible assumption) | (with_reducible refine K_X0.draws _ ?_) | (with_reducible refine K_X0.drew ?_) | (with_reducible refine K_X0.alloc _ ?_) | (with_reducible refine K_X0.set ?_ _ _ _ (by omega)))))
    (first
      | (go_at_call 27; (with_reducible refine (Check_any _ _ _).mono ?_); rintro e w' ⟨rfl, hbel⟩; have hk' := K_X0.below hbel (And.right (by assumption)); clear hbel)
      | (go_at_call 38; (with_reducible refine (Or_new _ _ _ _ _ ?_).mono ?_); rfl; rintro e w'' ⟨rfl, rfl⟩))
  all_goals
    rw [OK.out]
    rename_i hh
    clear hh hk
    have hK := K_X0.alloc (.cells #[.int .i64 (chkA A B), .int .i64 (chkA C D)] 27) hk'
    clear hk'
    obtain ⟨c0_, c1_, c2_, c3_⟩ := K_X0.cells hK; obtain ⟨z0_, z1_, -⟩ := K_X0.zs hK; have HK := Lib.hid hK; clear hK
    go_wp2_with fail
    refine (II.out _).mono ?_
    rintro e w3 ⟨rfl, hb⟩
    clear c0_ c1_ c2_ c3_ z0_ z1_
    have hK := K_X0.below hb HK.out
    clear hb HK
    go_wp2
    go_ret2
    exact ⟨rfl, K_X0.bel hK⟩
set_option maxHeartbeats 3200000 in
theorem Ism_err (A B C D : Int) (w : World) (h : or2 (chkA A B) (chkA C D) ≠ 0) :
    Calls Try.prog 16 #[.agg #[.int .i64 A, .int .i64 B], .agg #[.int .i64 C, .int .i64 D]] w fun e w' => e = .returned (.tuple #[.agg #[.int .i64 0, .int .i64 0, .int .i64 0, .int .i64 0, .int .i64 0], .agg #[.int .i64 0, .int .i64 0, .int .i64 0, .int .i64 0, .int .i64 0], .int .i64 (or2 (chkA A B) (chkA C D))]) ∧ Below w.heap.size w w' := by
  have ok : (or2 (chkA A B) (chkA C D) != 0) = true := by rw [bne_iff_ne]; exact h
  clear h
  go_enter Try.func16, Try.ntmps16
  go_wp2_with fail
  have hk : K_Sr A B C D w.heap.size (w.heap.size + 1) (w.heap.size + 2) (w.heap.size + 3) w ((((w.alloc (.cells #[.int .i64 A, .int .i64 B] 23)).alloc (.cells #[.int .i64 C, .int .i64 D] 23)).alloc (.cells #[.int .i64 0, .int .i64 0, .int .i64 0, .int .i64 0, .int .i64 0] 35)).alloc (.cells #[.int .i64 0, .int .i64 0, .int .i64 0, .int .i64 0, .int .i64 0] 35)) := ⟨by simp [go_sem], by simp [go_sem], by simp [go_sem], by (repeat (first | (with_reducible exact Below.refl _ _) | (with_reducible exact HB.out) | (with_reducible refine below_draws ?_ _) | (with_reducible refine Below.alloc ?_ (by go_size) _) | (with_reducible refine Below.setCell ?_ (by go_size) _) | (with_reducible refine Below.alloc ?_ (by simp <;> omega) _) | (with_reducible refine Below.setCell ?_ (by simp <;> omega) _)))⟩
  generalize ((((w.alloc (.cells #[.int .i64 A, .int .i64 B] 23)).alloc (.cells #[.int .i64 C, .int .i64 D] 23)).alloc (.cells #[.int .i64 0, .int .i64 0, .int .i64 0, .int .i64 0, .int .i64 0] 35)).alloc (.cells #[.int .i64 0, .int .i64 0, .int .i64 0, .int .i64 0, .int .i64 0] 35)) = wq at hk ⊢
  go_region_held3 (fun w' => (w'.cell? ⟨w.heap.size, 0, none⟩ = some (.int .i64 A) ∧ w'.cell? ⟨w.heap.size, 1, none⟩ = some (.int .i64 B) ∧ w'.cell? ⟨(w.heap.size + 1), 0, none⟩ = some (.int .i64 C) ∧ w'.cell? ⟨(w.heap.size + 1), 1, none⟩ = some (.int .i64 D) ∧ w'.cell? ⟨(w.heap.size + 2), 0, none⟩ = some (cv w' ((w.heap.size + 2)) 0) ∧ w'.frozen? ⟨(w.heap.size + 2), 0, none⟩ = false ∧ w'.cell? ⟨(w.heap.size + 2), 1, none⟩ = some (cv w' ((w.heap.size + 2)) 1) ∧ w'.frozen? ⟨(w.heap.size + 2), 1, none⟩ = false ∧ w'.cell? ⟨(w.heap.size + 2), 2, none⟩ = some (cv w' ((w.heap.size + 2)) 2) ∧ w'.frozen? ⟨(w.heap.size + 2), 2, none⟩ = false ∧ w'.cell? ⟨(w.heap.size + 2), 3, none⟩ = some (cv w' ((w.heap.size + 2)) 3) ∧ w'.frozen? ⟨(w.heap.size + 2), 3, none⟩ = false ∧ w'.cell? ⟨(w.heap.size + 2), 4, none⟩ = some (cv w' ((w.heap.size + 2)) 4) ∧ w'.frozen? ⟨(w.heap.size + 2), 4, none⟩ = false ∧ w'.cell? ⟨(w.heap.size + 3), 0, none⟩ = some (cv w' ((w.heap.size + 3)) 0) ∧ w'.frozen? ⟨(w.heap.size + 3), 0, none⟩ = false ∧ w'.cell? ⟨(w.heap.size + 3), 1, none⟩ = some (cv w' ((w.heap.size + 3)) 1) ∧ w'.frozen? ⟨(w.heap.size + 3), 1, none⟩ = false ∧ w'.cell? ⟨(w.heap.size + 3), 2, none⟩ = some (cv w' ((w.heap.size + 3)) 2) ∧ w'.frozen? ⟨(w.heap.size + 3), 2, none⟩ = false ∧ w'.cell? ⟨(w.heap.size + 3), 3, none⟩ = some (cv w' ((w.heap.size + 3)) 3) ∧ w'.frozen? ⟨(w.heap.size + 3), 3, none⟩ = false ∧ w'.cell? ⟨(w.heap.size + 3), 4, none⟩ = some (cv w' ((w.heap.size + 3)) 4) ∧ w'.frozen? ⟨(w.heap.size + 3), 4, none⟩ = false) ∧ K_Sr A B C D w.heap.size (w.heap.size + 1) (w.heap.size + 2) (w.heap.size + 3) w w') ((refine K_Sr.ks ?_; repeat (first | (with_reducible assumption) | (with_reducible refine K_Sr.draws _ ?_) | (with_reducible refine K_Sr.drew ?_) | (with_reducible refine K_Sr.alloc _ ?_) | (with_reducible refine K_Sr.set ?_ _ _ _ (by omega)))))
    (first
      | (go_at_call 27; (with_reducible refine (Check_any _ _ _).mono ?_); rintro e w' ⟨rfl, hbel⟩; have hk' := K_Sr.below hbel (And.right (by assumption)); clear hbel)
      | (go_at_call 38; (with_reducible refine (Or_new _ _ _ _ _ ?_).mono ?_); rfl; rintro e w'' ⟨rfl, rfl⟩))
  all_goals
    rename_i hh
    clear hh hk
    have hK := K_Sr.alloc (.cells #[.int .i64 (chkA A B), .int .i64 (chkA C D)] 27) hk'
    clear hk'
    obtain ⟨c0_, c1_, c2_, c3_, d0_, f0_, d1_, f1_, d2_, f2_, d3_, f3_, d4_, f4_, d5_, f5_, d6_, f6_, d7_, f7_, d8_, f8_, d9_, f9_⟩ := K_Sr.cells hK
    have HB := Lib.hid (K_Sr.bel hK)
    clear hK
    go_wp2
    exact bodyPost_ret (v := .tuple #[.agg #[.int .i64 0, .int .i64 0, .int .i64 0, .int .i64 0, .int .i64 0], .agg #[.int .i64 0, .int .i64 0, .int .i64 0, .int .i64 0, .int .i64 0], .int .i64 (or2 (chkA A B) (chkA C D))]) (by simp [results, Try.results16, go_sem, c0_, c1_, c2_, c3_, d0_, f0_, d1_, f1_, d2_, f2_, d3_, f3_, d4_, f4_, d5_, f5_, d6_, f6_, d7_, f7_, d8_, f8_, d9_, f9_]) rfl ⟨rfl, by (repeat (first | (with_reducible exact Below.refl _ _) | (with_reducible exact HB.out) | (with_reducible refine below_draws ?_ _) | (with_reducible refine Below.alloc ?_ (by go_size) _) | (with_reducible refine Below.setCell ?_ (by go_size) _) | (with_reducible refine Below.alloc ?_ (by simp <;> omega) _) | (with_reducible refine Below.setCell ?_ (by simp <;> omega) _)))⟩
set_option maxHeartbeats 3200000 in
theorem Ism_none (A B C D : Int) (w : World) (hA : chkA A B = 0) (hC : chkA C D = 0) (hI : isoB A B C D = false) :
    Calls Try.prog 16 #[.agg #[.int .i64 A, .int .i64 B], .agg #[.int .i64 C, .int .i64 D]] w fun e w' => e = .returned (.tuple #[.agg #[.int .i64 0, .int .i64 0, .int .i64 0, .int .i64 0, .int .i64 0], .agg #[.int .i64 0, .int .i64 0, .int .i64 0, .int .i64 0, .int .i64 0], .int .i64 12]) ∧ Below w.heap.size w w' := by
  have OK := Lib.hid (or2_ok hA hC)
  have II := Lib.hid (fun W => isIso_any A B C D W hA hC)
  rw [hI] at II
  clear hA hC hI
  go_enter Try.func16, Try.ntmps16
  go_wp2_with fail
  have hk : K_Sr A B C D w.heap.size (w.heap.size + 1) (w.heap.size + 2) (w.heap.size + 3) w ((((w.alloc (.cells #[.int .i64 A, .int .i64 B] 23)).alloc (.cells #[.int .i64 C, .int .i64 D] 23)).alloc (.cells #[.int .i64 0, .int .i64 0, .int .i64 0, .int .i64 0, .int .i64 0] 35)).alloc (.cells #[.int .i64 0, .int .i64 0, .int .i64 0, .int .i64 0, .int .i64 0] 35)) := ⟨by simp [go_sem], by simp [go_sem], by simp [go_sem], by (repeat (first | (with_reducible exact Below.refl _ _) | (with_reducible exact HB.out) | (with_reducible refine below_draws ?_ _) | (with_reducible refine Below.alloc ?_ (by go_size) _) | (with_reducible refine Below.setCell ?_ (by go_size) _) | (with_reducible refine Below.alloc ?_ (by simp <;> omega) _) | (with_reducible refine Below.setCell ?_ (by simp <;> omega) _)))⟩
  generalize ((((w.alloc (.cells #[.int .i64 A, .int .i64 B] 23)).alloc (.cells #[.int .i64 C, .int .i64 D] 23)).alloc (.cells #[.int .i64 0, .int .i64 0, .int .i64 0, .int .i64 0, .int .i64 0] 35)).alloc (.cells #[.int .i64 0, .int .i64 0, .int .i64 0, .int .i64 0, .int .i64 0] 35)) = wq at hk ⊢
  go_region_held3 (fun w' => (w'.cell? ⟨w.heap.size, 0, none⟩ = some (.int .i64 A) ∧ w'.cell? ⟨w.heap.size, 1, none⟩ = some (.int .i64 B) ∧ w'.cell? ⟨(w.heap.size + 1), 0, none⟩ = some (.int .i64 C) ∧ w'.cell? ⟨(w.heap.size + 1), 1, none⟩ = some (.int .i64 D) ∧ w'.cell? ⟨(w.heap.size + 2), 0, none⟩ = some (cv w' ((w.heap.size + 2)) 0) ∧ w'.frozen? ⟨(w.heap.size + 2), 0, none⟩ = false ∧ w'.cell? ⟨(w.heap.size + 2), 1, none⟩ = some (cv w' ((w.heap.size + 2)) 1) ∧ w'.frozen? ⟨(w.heap.size + 2), 1, none⟩ = false ∧ w'.cell? ⟨(w.heap.size + 2), 2, none⟩ = some (cv w' ((w.heap.size + 2)) 2) ∧ w'.frozen? ⟨(w.heap.size + 2), 2, none⟩ = false ∧ w'.cell? ⟨(w.heap.size + 2), 3, none⟩ = some (cv w' ((w.heap.size + 2)) 3) ∧ w'.frozen? ⟨(w.heap.size + 2), 3, none⟩ = false ∧ w'.cell? ⟨(w.heap.size + 2), 4, none⟩ = some (cv w' ((w.heap.size + 2)) 4) ∧ w'.frozen? ⟨(w.heap.size + 2), 4, none⟩ = false ∧ w'.cell? ⟨(w.heap.size + 3), 0, none⟩ = some (cv w' ((w.heap.size + 3)) 0) ∧ w'.frozen? ⟨(w.heap.size + 3), 0, none⟩ = false ∧ w'.cell? ⟨(w.heap.size + 3), 1, none⟩ = some (cv w' ((w.heap.size + 3)) 1) ∧ w'.frozen? ⟨(w.heap.size + 3), 1, none⟩ = false ∧ w'.cell? ⟨(w.heap.size + 3), 2, none⟩ = some (cv w' ((w.heap.size + 3)) 2) ∧ w'.frozen? ⟨(w.heap.size + 3), 2, none⟩ = false ∧ w'.cell? ⟨(w.heap.size + 3), 3, none⟩ = some (cv w' ((w.heap.size + 3)) 3) ∧ w'.frozen? ⟨(w.heap.size + 3), 3, none⟩ = false ∧ w'.cell? ⟨(w.heap.size + 3), 4, none⟩ = some (cv w' ((w.heap.size + 3)) 4) ∧ w'.frozen? ⟨(w.heap.size + 3), 4, none⟩ = false) ∧ K_Sr A B C D w.heap.size (w.heap.size + 1) (w.heap.size + 2) (w.heap.size + 3) w w') ((refine K_Sr.ks ?_; repeat (first | (with_reducible assumption) | (with_reducible refine K_Sr.draws _ ?_) | (with_reducible refine K_Sr.drew ?_) | (with_reducible refine K_Sr.alloc _ ?_) | (with_reducible refine K_Sr.set ?_ _ _ _ (by omega)))))
    (first
      | (go_at_call 27; (with_reducible refine (Check_any _ _ _).mono ?_); rintro e w' ⟨rfl, hbel⟩; have hk' := K_Sr.below hbel (And.right (by assumption)); clear hbel)
      | (go_at_call 38; (with_reducible refine (Or_new _ _ _ _ _ ?_).mono ?_); rfl; rintro e w'' ⟨rfl, rfl⟩))
  all_goals
    rw [OK.out]
    rename_i hh
    clear hh hk
    have hK := K_Sr.alloc (.cells #[.int .i64 (chkA A B), .int .i64 (chkA C D)] 27) hk'
    clear hk'
    obtain ⟨c0_, c1_, c2_, c3_, d0_, f0_, d1_, f1_, d2_, f2_, d3_, f3_, d4_, f4_, d5_, f5_, d6_, f6_, d7_, f7_, d8_, f8_, d9_, f9_⟩ := K_Sr.cells hK; obtain ⟨z0_, z1_, z2_, z3_, -⟩ := K_Sr.zs hK; have HK := Lib.hid hK; clear hK
    go_wp2_with fail
    refine (II.out _).mono ?_
    rintro e w3 ⟨rfl, hb⟩
    clear c0_ c1_ c2_ c3_ d0_ f0_ d1_ f1_ d2_ f2_ d3_ f3_ d4_ f4_ d5_ f5_ d6_ f6_ d7_ f7_ d8_ f8_ d9_ f9_ z0_ z1_ z2_ z3_
    have hK := K_Sr.below hb HK.out
    clear hb HK
    obtain ⟨c0_, c1_, c2_, c3_, d0_, f0_, d1_, f1_, d2_, f2_, d3_, f3_, d4_, f4_, d5_, f5_, d6_, f6_, d7_, f7_, d8_, f8_, d9_, f9_⟩ := K_Sr.cells hK
    have HB := Lib.hid (K_Sr.bel hK)
    clear hK
    go_wp2
    exact bodyPost_ret (v := .tuple #[.agg #[.int .i64 0, .int .i64 0, .int .i64 0, .int .i64 0, .int .i64 0], .agg #[.int .i64 0, .int .i64 0, .int .i64 0, .int .i64 0, .int .i64 0], .int .i64 12]) (by simp [results, Try.results16, go_sem, c0_, c1_, c2_, c3_, d0_, f0_, d1_, f1_, d2_, f2_, d3_, f3_, d4_, f4_, d5_, f5_, d6_, f6_, d7_, f7_, d8_, f8_, d9_, f9_]) rfl ⟨rfl, by (repeat (first | (with_reducible exact Below.refl _ _) | (with_reducible exact HB.out) | (with_reducible refine below_draws ?_ _) | (with_reducible refine Below.alloc ?_ (by go_size) _) | (with_reducible refine Below.setCell ?_ (by go_size) _) | (with_reducible refine Below.alloc ?_ (by simp <;> omega) _) | (with_reducible refine Below.setCell ?_ (by simp <;> omega) _)))⟩
end Go.Proofs.Ytgbnmnkgelklbaa.Iso
