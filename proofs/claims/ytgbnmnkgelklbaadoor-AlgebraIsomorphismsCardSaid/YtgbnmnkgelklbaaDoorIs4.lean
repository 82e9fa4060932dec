/-
  WALKS: two lists of numbers, compared; whether two algebras are isomorphic.
-/
import Derived.Test.YtgbnmnkgelklbaaDoorMgIs
import Derived.Test.YtgbnmnkgelklbaaDoorMgRm
import Derived.Test.YtgbnmnkgelklbaaDoorAlD
namespace Go.Proofs.YtgbnmnkgelklbaaDoor.Iso
open Go.RowKit
open Alm Al
open Rm (LN LN.of LN.at_ LN.below LN.lt K_Rk RL RL_len dfB chk_bds nvs RmEnd)
set_option linter.unusedVariables false
set_option linter.unusedSimpArgs false
set_option maxRecDepth 100000
theorem take_eq_step {l m : List Nat} {k q : Nat} (h : l.take k = m.take k) (h1 : l[k]? = some q) (h2 : m[k]? = some q) : l.take (k + 1) = m.take (k + 1) := by
  rw [List.take_add_one, List.take_add_one, h, h1, h2]
set_option maxHeartbeats 1600000 in
theorem Equal_any (l m : List Nat) (B1 B2 : Nat) (A1 A2 : Option Addr) (c1 c2 : Nat) (w : World) (h1 : LN B1 w A1 c1 l) (h2 : LN B2 w A2 c2 m) (hl : l.length ≤ 1001) (hm : m.length ≤ 1001) (hc1 : l.length ≤ c1) (hc2 : m.length ≤ c2) (hm1 : c1 ≤ 9223372036854775807) (hm2 : c2 ≤ 9223372036854775807) :
    Calls Tryd.prog 57 #[.slice A1 l.length c1, .slice A2 m.length c2] w fun e w' => e = .returned (.bool (decide (l = m))) ∧ Below w.heap.size w w' := by
  have H1 := Lib.hid h1
  have H2 := Lib.hid h2
  clear h1 h2
  by_cases hlm : l.length = m.length
  · have ht : ((l.length : Int) != (m.length : Int)) = false := by rw [hlm]; simp
    have HLM := Lib.hid hlm
    clear hlm
    go_enter Tryd.func57, Tryd.ntmps57
    go_wp2_with fail
    go_loopw [13] (fun t13 wr => ∃ k : Nat, (k ≤ l.length ∧ Below w.heap.size w wr ∧ l.take k = m.take k) ∧ t13 = .int .i64 k) (fun t13 _ => l.length - (intOf t13).toNat)
    case atStart => exact ⟨0, ⟨Nat.zero_le _, Below.refl _ _, rfl⟩, rfl⟩
    case round =>
      obtain ⟨k, ⟨hkl, hbel, htk⟩, rfl⟩ := hrel
      obtain ⟨wo, rfl⟩ : ∃ wo : World, wo = wr := ⟨_, rfl⟩
      have hP := LN.below H1.out hbel (LN.lt H1.out)
      have hQ := LN.below H2.out hbel (LN.lt H2.out)
      have HB := Lib.hid hbel
      have HTK := Lib.hid htk
      clear hbel htk
      by_cases hlt : k < l.length
      · have hlt2 : k < m.length := by rw [← HLM.out]; exact hlt
        have hq : l[k]? = some l[k] := List.getElem?_eq_getElem hlt
        have hr : m[k]? = some m[k] := List.getElem?_eq_getElem hlt2
        obtain ⟨b, rfl, g0, -, -⟩ := LN.at_ hP hq
        obtain ⟨b', rfl, g1, -, -⟩ := LN.at_ hQ hr
        obtain ⟨q, hqq⟩ : ∃ q, l[k] = q := ⟨_, rfl⟩
        obtain ⟨r, hrr⟩ : ∃ r, m[k] = r := ⟨_, rfl⟩
        rw [hqq] at hq g0
        rw [hrr] at hr g1
        have HQ := Lib.hid hq
        have HR := Lib.hid hr
        clear hq hr hqq hrr hP hQ
        by_cases hqr : q = r
        · have h3 : ((q : Int) != (r : Int)) = false := by rw [hqr]; simp
          have HE := Lib.hid hqr
          clear hqr
          go_wp2_with fail
          go_region
          go_wp2
          go_roundw
          case rel => exact ⟨k + 1, ⟨by omega, below_draws HB.out 1, take_eq_step HTK.out HQ.out (HE.out ▸ HR.out)⟩, by go_num⟩
          case measure => simp [intOf]; omega
        · have h3 : ((q : Int) != (r : Int)) = true := by rw [bne_iff_ne]; omega
          have HE : Hid (decide (l = m) = false) := Lib.hid (decide_eq_false fun e => by
            have := HQ.out; rw [e, HR.out] at this; exact hqr (Option.some.inj this).symm)
          clear hqr
          go_wp2_with fail
          go_region
          go_wp2
          go_ret
          exact ⟨by rw [HE.out]; rfl, below_draws HB.out 1⟩
      · have HE : Hid (decide (l = m) = true) := Lib.hid (decide_eq_true (by
          have e1 : k = l.length := by omega
          have e2 := HTK.out
          rw [e1, List.take_length, HLM.out, List.take_length] at e2
          exact e2))
        clear hP hQ
        go_wp2
        go_ret
        exact ⟨by rw [HE.out]; rfl, HB.out⟩
  · have ht : ((l.length : Int) != (m.length : Int)) = true := by rw [bne_iff_ne]; omega
    have HE : Hid (decide (l = m) = false) := Lib.hid (decide_eq_false fun e => hlm (congrArg List.length e))
    clear hlm
    go_enter Tryd.func57, Tryd.ntmps57
    go_wp2
    go_ret
    exact ⟨by rw [HE.out]; rfl, Below.refl _ _⟩
set_option maxHeartbeats 1600000 in
theorem Ints_any (l m : List Nat) (B1 B2 : Nat) (A1 A2 : Option Addr) (c1 c2 : Nat) (w : World) (h1 : LN B1 w A1 c1 l) (h2 : LN B2 w A2 c2 m) (hl : l.length ≤ 1001) (hm : m.length ≤ 1001) (hc1 : l.length ≤ c1) (hc2 : m.length ≤ c2) (hm1 : c1 ≤ 9223372036854775807) (hm2 : c2 ≤ 9223372036854775807) :
    Calls Tryd.prog 11 #[.slice A1 l.length c1, .slice A2 m.length c2] w fun e w' => e = .returned (.bool (decide (l = m))) ∧ Below w.heap.size w w' := by
  have H1 := Lib.hid h1
  have H2 := Lib.hid h2
  clear h1 h2
  by_cases hlm : l.length = m.length
  · have ht : ((l.length : Int) != (m.length : Int)) = false := by rw [hlm]; simp
    have HLM := Lib.hid hlm
    clear hlm
    go_enter Tryd.func11, Tryd.ntmps11
    go_wp2_with fail
    go_loopw [5] (fun t5 wr => ∃ k : Nat, (k ≤ l.length ∧ Below w.heap.size w wr ∧ l.take k = m.take k) ∧ t5 = .int .i64 k) (fun t5 _ => l.length - (intOf t5).toNat)
    case atStart => exact ⟨0, ⟨Nat.zero_le _, Below.refl _ _, rfl⟩, rfl⟩
    case round =>
      obtain ⟨k, ⟨hkl, hbel, htk⟩, rfl⟩ := hrel
      obtain ⟨wo, rfl⟩ : ∃ wo : World, wo = wr := ⟨_, rfl⟩
      have hP := LN.below H1.out hbel (LN.lt H1.out)
      have hQ := LN.below H2.out hbel (LN.lt H2.out)
      have HB := Lib.hid hbel
      have HTK := Lib.hid htk
      clear hbel htk
      by_cases hlt : k < l.length
      · have hlt2 : k < m.length := by rw [← HLM.out]; exact hlt
        have hq : l[k]? = some l[k] := List.getElem?_eq_getElem hlt
        have hr : m[k]? = some m[k] := List.getElem?_eq_getElem hlt2
        obtain ⟨b, rfl, g0, -, -⟩ := LN.at_ hP hq
        obtain ⟨b', rfl, g1, -, -⟩ := LN.at_ hQ hr
        obtain ⟨q, hqq⟩ : ∃ q, l[k] = q := ⟨_, rfl⟩
        obtain ⟨r, hrr⟩ : ∃ r, m[k] = r := ⟨_, rfl⟩
        rw [hqq] at hq g0
        rw [hrr] at hr g1
        have HQ := Lib.hid hq
        have HR := Lib.hid hr
        clear hq hr hqq hrr hP hQ
        by_cases hqr : q = r
        · have h3 : ((q : Int) != (r : Int)) = false := by rw [hqr]; simp
          have HE := Lib.hid hqr
          clear hqr
          go_wp2_with fail
          go_region
          go_wp2
          go_roundw
          case rel => exact ⟨k + 1, ⟨by omega, below_draws HB.out 1, take_eq_step HTK.out HQ.out (HE.out ▸ HR.out)⟩, by go_num⟩
          case measure => simp [intOf]; omega
        · have h3 : ((q : Int) != (r : Int)) = true := by rw [bne_iff_ne]; omega
          have HE : Hid (decide (l = m) = false) := Lib.hid (decide_eq_false fun e => by
            have := HQ.out; rw [e, HR.out] at this; exact hqr (Option.some.inj this).symm)
          clear hqr
          go_wp2_with fail
          go_region
          go_wp2
          go_ret
          exact ⟨by rw [HE.out]; rfl, below_draws HB.out 1⟩
      · have HE : Hid (decide (l = m) = true) := Lib.hid (decide_eq_true (by
          have e1 : k = l.length := by omega
          have e2 := HTK.out
          rw [e1, List.take_length, HLM.out, List.take_length] at e2
          exact e2))
        clear hP hQ
        go_wp2
        go_ret
        exact ⟨by rw [HE.out]; rfl, HB.out⟩
  · have ht : ((l.length : Int) != (m.length : Int)) = true := by rw [bne_iff_ne]; omega
    have HE : Hid (decide (l = m) = false) := Lib.hid (decide_eq_false fun e => hlm (congrArg List.length e))
    clear hlm
    go_enter Tryd.func11, Tryd.ntmps11
    go_wp2
    go_ret
    exact ⟨by rw [HE.out]; rfl, Below.refl _ _⟩
/-- whether two algebras are ramified at the same places -/
noncomputable def isoB (A B C D : Int) : Bool := (dfB A B == dfB C D) && decide (RL A B 1001 = RL C D 1001)
def RmOk (f : FuncId) : Prop := ∀ (A B : Int) (W : World), chkA A B = 0 → Calls Tryd.prog f #[.agg #[.int .i64 A, .int .i64 B]] W fun e w' => ∃ (Aa : Option Addr) (c : Nat), e = .returned (.slice Aa (RL A B 1001).length c) ∧ LN W.heap.size w' Aa c (RL A B 1001) ∧ c ≤ 9223372036854775807 ∧ (RL A B 1001).length ≤ c ∧ Below W.heap.size W w'
theorem ram_lists : RmOk 26 := fun A B W h => by
  obtain ⟨b1, b2, b3, b4⟩ := chk_bds h
  refine (Rm.ramified_any A B W b1 b2 b3 b4).mono ?_
  rintro e w' ⟨v, rfl, hown, hbel⟩
  obtain ⟨Aa, c, rfl, hLN, hc, hlc⟩ := LN.of hown
  exact ⟨Aa, c, rfl, hLN, hc, hlc, hbel⟩
theorem rram_lists : RmOk 12 := fun A B W h => by
  obtain ⟨b1, b2, b3, b4⟩ := chk_bds h
  refine (Rm.rRamified_any A B W b3 b4).mono ?_
  rintro e w' ⟨v, rfl, hown, hbel⟩
  obtain ⟨Aa, c, rfl, hLN, hc, hlc⟩ := LN.of hown
  exact ⟨Aa, c, rfl, hLN, hc, hlc, hbel⟩
set_option maxHeartbeats 3200000 in
theorem isIso_any (A B C D : Int) (w : World) (hA : chkA A B = 0) (hC : chkA C D = 0) :
    Calls Tryd.prog 32 #[.agg #[.int .i64 A, .int .i64 B], .agg #[.int .i64 C, .int .i64 D]] w fun e w' => e = .returned (.bool (isoB A B C D)) ∧ Below w.heap.size w w' := by
  have D1 := Lib.hid (fun W => Rm.isDefinite_any A B W)
  have D2 := Lib.hid (fun W => Rm.isDefinite_any C D W)
  have R1 := Lib.hid (fun W => ram_lists A B W hA)
  have R2 := Lib.hid (fun W => ram_lists C D W hC)
  have L1 := Lib.hid (RL_len A B 1001)
  have L2 := Lib.hid (RL_len C D 1001)
  clear hA hC
  unfold isoB
  generalize RL A B 1001 = l at *
  generalize RL C D 1001 = m at *
  generalize dfB A B = d1 at *
  generalize dfB C D = d2 at *
  rcases hv : (d1 == d2) with _ | _
  · have HV := Lib.hid hv
    go_enter Tryd.func32, Tryd.ntmps32
    go_wp2_with fail
    have hk : K_X0 A B C D w.heap.size (w.heap.size + 1) w ((w.alloc (.cells #[.int .i64 A, .int .i64 B] 23)).alloc (.cells #[.int .i64 C, .int .i64 D] 23)) := ⟨by simp [go_sem], by simp, by simp, by (repeat (first | (with_reducible exact Below.refl _ _) | (with_reducible exact HB.out) | (with_reducible refine below_draws ?_ _) | (with_reducible refine Below.alloc ?_ (by go_size) _) | (with_reducible refine Below.setCell ?_ (by go_size) _) | (with_reducible refine Below.alloc ?_ (by simp <;> omega) _) | (with_reducible refine Below.setCell ?_ (by simp <;> omega) _)))⟩
    generalize ((w.alloc (.cells #[.int .i64 A, .int .i64 B] 23)).alloc (.cells #[.int .i64 C, .int .i64 D] 23)) = wq at hk ⊢
    refine wp_region_held_drew (S := (fun w' => (w'.cell? ⟨w.heap.size, 0, none⟩ = some (.int .i64 A) ∧ w'.cell? ⟨w.heap.size, 1, none⟩ = some (.int .i64 B) ∧ w'.cell? ⟨(w.heap.size + 1), 0, none⟩ = some (.int .i64 C) ∧ w'.cell? ⟨(w.heap.size + 1), 1, none⟩ = some (.int .i64 D)) ∧ K_X0 A B C D w.heap.size (w.heap.size + 1) w w')) (by kernel_rfl) ?_ (fun hHeld => ?_)
    · obtain ⟨c0_, c1_, c2_, c3_⟩ := K_X0.cells hk
      ((refine K_X0.ks ?_; repeat (first | (with_reducible assumption) | (with_reducible refine K_X0.draws _ ?_) | (with_reducible refine K_X0.drew ?_) | (with_reducible refine K_X0.alloc _ ?_) | (with_reducible refine K_X0.set ?_ _ _ _ (by omega)))))
    (refine wpAnyH_take (i := 0) (oi := _) (v := ?_) rfl (by kernel_rfl) (by kernel_rfl) (by kernel_rfl) (fun _ _ _ h => h) (Or.inl ⟨by rfl, fun wx hSw => ?_⟩) (by assumption) ?_; rotate_left 1; focus ((try dsimp only at hSw); go_simp; (try with_reducible rfl)); (try simp only [Act.put, List.setIfInBounds_toArray, List.set_cons_zero, List.set_cons_succ, List.getElem_toArray, List.getElem_cons_zero, List.getElem_cons_succ]))
    (refine wpAnyH_take (i := 2) (oi := _) (v := ?_) rfl (by kernel_rfl) (by kernel_rfl) (by kernel_rfl) (fun _ _ _ h => h) (Or.inl ⟨by rfl, fun wx hSw => ?_⟩) (by assumption) ?_; rotate_left 1; focus ((try dsimp only at hSw); go_simp; (try with_reducible rfl)); (try simp only [Act.put, List.setIfInBounds_toArray, List.set_cons_zero, List.set_cons_succ, List.getElem_toArray, List.getElem_cons_zero, List.getElem_cons_succ]))
    (refine wpAnyH_ready (rs := [1]) (by kernel_rfl) (by simp) ?_; refine AllReadyH.cons (o := _) rfl (fun K hK => ?_) AllReadyH.nil; go_simp)
    go_at_call 27
    refine (D1.out _).mono ?_
    rintro e w' ⟨rfl, hbel⟩
    have hk' := K_X0.below hbel (And.right (by assumption))
    clear hbel
    (refine hK.out _ _ (by ((refine K_X0.ks ?_; repeat (first | (with_reducible assumption) | (with_reducible refine K_X0.draws _ ?_) | (with_reducible refine K_X0.drew ?_) | (with_reducible refine K_X0.alloc _ ?_) | (with_reducible refine K_X0.set ?_ _ _ _ (by omega)))))) (fun hHeld => ?_); clear hK K; (try simp only [Act.put, List.setIfInBounds_toArray, List.set_cons_zero, List.set_cons_succ, List.getElem_toArray, List.getElem_cons_zero, List.getElem_cons_succ]))
    (refine wpAnyH_ready (rs := [3]) (by kernel_rfl) (by simp) ?_; refine AllReadyH.cons (o := _) rfl (fun K hK => ?_) AllReadyH.nil; go_simp)
    go_at_call 27
    refine (D2.out _).mono ?_
    rintro e w'' ⟨rfl, hbel⟩
    have hk'' := K_X0.below hbel (And.right (by assumption))
    clear hbel
    (refine hK.out _ _ (by ((refine K_X0.ks ?_; repeat (first | (with_reducible assumption) | (with_reducible refine K_X0.draws _ ?_) | (with_reducible refine K_X0.drew ?_) | (with_reducible refine K_X0.alloc _ ?_) | (with_reducible refine K_X0.set ?_ _ _ _ (by omega)))))) (fun hHeld => ?_); clear hK K; (try simp only [Act.put, List.setIfInBounds_toArray, List.set_cons_zero, List.set_cons_succ, List.getElem_toArray, List.getElem_cons_zero, List.getElem_cons_succ]))
    (refine wpAnyH_take (i := 4) (oi := _) (v := ?_) rfl (by kernel_rfl) (by kernel_rfl) (by kernel_rfl) (fun _ _ _ h => h) (Or.inl ⟨by rfl, fun wx hSw => ?_⟩) (by assumption) ?_; rotate_left 1; focus ((try dsimp only at hSw); go_simp; (try with_reducible rfl)); (try simp only [Act.put, List.setIfInBounds_toArray, List.set_cons_zero, List.set_cons_succ, List.getElem_toArray, List.getElem_cons_zero, List.getElem_cons_succ]))
    (refine wpAnyH_take (i := 5) (oi := _) (v := ?_) rfl (by kernel_rfl) (by kernel_rfl) (by kernel_rfl) (fun _ _ _ h => h) (Or.inl ⟨by rfl, fun wx hSw => ?_⟩) (by assumption) ?_; rotate_left 1; focus ((try dsimp only at hSw); go_simp; (try with_reducible rfl)); (try simp only [Act.put, List.setIfInBounds_toArray, List.set_cons_zero, List.set_cons_succ, List.getElem_toArray, List.getElem_cons_zero, List.getElem_cons_succ]))
    (refine wpAnyH_take (i := 6) (oi := _) (v := undef) rfl (by kernel_rfl) (by kernel_rfl) (by kernel_rfl) (fun _ _ _ h => h) (Or.inr ⟨by rfl, rfl⟩) (by assumption) ?_; (try simp only [Act.put, List.setIfInBounds_toArray, List.set_cons_zero, List.set_cons_succ, List.getElem_toArray, List.getElem_cons_zero, List.getElem_cons_succ]))
    (refine wpAnyH_take (i := 7) (oi := _) (v := undef) rfl (by kernel_rfl) (by kernel_rfl) (by kernel_rfl) (fun _ _ _ h => h) (Or.inr ⟨by rfl, rfl⟩) (by assumption) ?_; (try simp only [Act.put, List.setIfInBounds_toArray, List.set_cons_zero, List.set_cons_succ, List.getElem_toArray, List.getElem_cons_zero, List.getElem_cons_succ]))
    (refine wpAnyH_take (i := 8) (oi := _) (v := undef) rfl (by kernel_rfl) (by kernel_rfl) (by kernel_rfl) (fun _ _ _ h => h) (Or.inr ⟨by rfl, rfl⟩) (by assumption) ?_; (try simp only [Act.put, List.setIfInBounds_toArray, List.set_cons_zero, List.set_cons_succ, List.getElem_toArray, List.getElem_cons_zero, List.getElem_cons_succ]))
    (refine wpAnyH_take (i := 9) (oi := _) (v := undef) rfl (by kernel_rfl) (by kernel_rfl) (by kernel_rfl) (fun _ _ _ h => h) (Or.inr ⟨by rfl, rfl⟩) (by assumption) ?_; (try simp only [Act.put, List.setIfInBounds_toArray, List.set_cons_zero, List.set_cons_succ, List.getElem_toArray, List.getElem_cons_zero, List.getElem_cons_succ]))
    (refine wpAnyH_take (i := 10) (oi := _) (v := undef) rfl (by kernel_rfl) (by kernel_rfl) (by kernel_rfl) (fun _ _ _ h => h) (Or.inr ⟨by rfl, rfl⟩) (by assumption) ?_; (try simp only [Act.put, List.setIfInBounds_toArray, List.set_cons_zero, List.set_cons_succ, List.getElem_toArray, List.getElem_cons_zero, List.getElem_cons_succ]))
    (refine wpAnyH_take (i := 11) (oi := _) (v := ?_) rfl (by kernel_rfl) (by kernel_rfl) (by kernel_rfl) (fun _ _ _ h => h) (Or.inl ⟨by rfl, fun wx hSw => ?_⟩) (by assumption) ?_; rotate_left 1; focus ((try dsimp only at hSw); go_simp; (try with_reducible rfl)); (try simp only [Act.put, List.setIfInBounds_toArray, List.set_cons_zero, List.set_cons_succ, List.getElem_toArray, List.getElem_cons_zero, List.getElem_cons_succ]))
    (refine wpAnyH_take (i := 12) (oi := _) (v := ?_) rfl (by kernel_rfl) (by kernel_rfl) (by kernel_rfl) (fun _ _ _ h => h) (Or.inl ⟨by rfl, fun wx hSw => ?_⟩) (by assumption) ?_; rotate_left 1; focus ((try dsimp only at hSw); go_simp; (try with_reducible rfl)); (try simp only [Act.put, List.setIfInBounds_toArray, List.set_cons_zero, List.set_cons_succ, List.getElem_toArray, List.getElem_cons_zero, List.getElem_cons_succ]))
    refine wpAnyH_done (by kernel_rfl) ?_ _
    clear hv
    go_wp2
    go_ret
    exact ⟨rfl, K_X0.bel hk''⟩
  · have HV := Lib.hid hv
    go_enter Tryd.func32, Tryd.ntmps32
    go_wp2_with fail
    have hk : K_X0 A B C D w.heap.size (w.heap.size + 1) w ((w.alloc (.cells #[.int .i64 A, .int .i64 B] 23)).alloc (.cells #[.int .i64 C, .int .i64 D] 23)) := ⟨by simp [go_sem], by simp, by simp, by (repeat (first | (with_reducible exact Below.refl _ _) | (with_reducible exact HB.out) | (with_reducible refine below_draws ?_ _) | (with_reducible refine Below.alloc ?_ (by go_size) _) | (with_reducible refine Below.setCell ?_ (by go_size) _) | (with_reducible refine Below.alloc ?_ (by simp <;> omega) _) | (with_reducible refine Below.setCell ?_ (by simp <;> omega) _)))⟩
    generalize ((w.alloc (.cells #[.int .i64 A, .int .i64 B] 23)).alloc (.cells #[.int .i64 C, .int .i64 D] 23)) = wq at hk ⊢
    first
      | (go_region_held3 (fun w' => (w'.cell? ⟨w.heap.size, 0, none⟩ = some (.int .i64 A) ∧ w'.cell? ⟨w.heap.size, 1, none⟩ = some (.int .i64 B) ∧ w'.cell? ⟨(w.heap.size + 1), 0, none⟩ = some (.int .i64 C) ∧ w'.cell? ⟨(w.heap.size + 1), 1, none⟩ = some (.int .i64 D)) ∧ K_X0 A B C D w.heap.size (w.heap.size + 1) w w') ((refine K_X0.ks ?_; repeat (first | (with_reducible assumption) | (with_reducible refine K_X0.draws _ ?_) | (with_reducible refine K_X0.drew ?_) | (with_reducible refine K_X0.alloc _ ?_) | (with_reducible refine K_X0.set ?_ _ _ _ (by omega)))))
          (first
            | (go_at_call 27; (with_reducible refine (D1.out _).mono ?_); rintro e w' ⟨rfl, hbel⟩; have hk' := K_X0.below hbel (And.right (by assumption)); clear hbel)
            | (go_at_call 27; (with_reducible refine (D2.out _).mono ?_); rintro e w'' ⟨rfl, hbel⟩; have hk'' := K_X0.below hbel (And.right (by assumption)); clear hbel)
            | (go_at_call 26; (with_reducible refine (R1.out _).mono ?_); rintro e w3 ⟨Aa, c, rfl, hLN, hc, hlc, hbel⟩; have hk3 := K_X0.below hbel (And.right (by assumption)); have HL1 := Lib.hid hLN; clear hbel hLN)
            | (go_at_call 26; (with_reducible refine (R2.out _).mono ?_); rintro e w4 ⟨Ab, c2, rfl, hLN, hc2, hlc2, hbel⟩; have hk4 := K_X0.below hbel (And.right (by assumption)); have HL2 := Lib.hid hLN; have HL3 := Lib.hid (LN.below HL1.out hbel (LN.lt HL1.out)); clear hbel hLN HL1)
            | (go_at_call 57; (with_reducible refine (Equal_any l m _ _ Aa Ab c c2 _ HL3.out HL2.out L1.out L2.out hlc hlc2 hc hc2).mono ?_); rintro e w5 ⟨rfl, hbel⟩; have hk5 := K_X0.below hbel (And.right (by assumption)); clear hbel)))
      | fail
    all_goals
      clear hv
      go_wp2
      go_ret
      exact ⟨rfl, K_X0.bel hk5⟩
set_option maxHeartbeats 3200000 in
theorem rIsomorphic_any (A B C D : Int) (w : World) (hA : chkA A B = 0) (hC : chkA C D = 0) :
    Calls Tryd.prog 18 #[.agg #[.int .i64 A, .int .i64 B], .agg #[.int .i64 C, .int .i64 D]] w fun e w' => e = .returned (.bool (isoB A B C D)) ∧ Below w.heap.size w w' := by
  have D1 := Lib.hid (fun W => Rm.rDefinite_any A B W)
  have D2 := Lib.hid (fun W => Rm.rDefinite_any C D W)
  have R1 := Lib.hid (fun W => rram_lists A B W hA)
  have R2 := Lib.hid (fun W => rram_lists C D W hC)
  have L1 := Lib.hid (RL_len A B 1001)
  have L2 := Lib.hid (RL_len C D 1001)
  clear hA hC
  unfold isoB
  generalize RL A B 1001 = l at *
  generalize RL C D 1001 = m at *
  generalize dfB A B = d1 at *
  generalize dfB C D = d2 at *
  rcases hv : (d1 == d2) with _ | _
  · have HV := Lib.hid hv
    go_enter Tryd.func18, Tryd.ntmps18
    go_wp2_with fail
    have hk : K_X0 A B C D w.heap.size (w.heap.size + 1) w ((w.alloc (.cells #[.int .i64 A, .int .i64 B] 23)).alloc (.cells #[.int .i64 C, .int .i64 D] 23)) := ⟨by simp [go_sem], by simp, by simp, by (repeat (first | (with_reducible exact Below.refl _ _) | (with_reducible exact HB.out) | (with_reducible refine below_draws ?_ _) | (with_reducible refine Below.alloc ?_ (by go_size) _) | (with_reducible refine Below.setCell ?_ (by go_size) _) | (with_reducible refine Below.alloc ?_ (by simp <;> omega) _) | (with_reducible refine Below.setCell ?_ (by simp <;> omega) _)))⟩
    generalize ((w.alloc (.cells #[.int .i64 A, .int .i64 B] 23)).alloc (.cells #[.int .i64 C, .int .i64 D] 23)) = wq at hk ⊢
    refine wp_region_held_drew (S := (fun w' => (w'.cell? ⟨w.heap.size, 0, none⟩ = some (.int .i64 A) ∧ w'.cell? ⟨w.heap.size, 1, none⟩ = some (.int .i64 B) ∧ w'.cell? ⟨(w.heap.size + 1), 0, none⟩ = some (.int .i64 C) ∧ w'.cell? ⟨(w.heap.size + 1), 1, none⟩ = some (.int .i64 D)) ∧ K_X0 A B C D w.heap.size (w.heap.size + 1) w w')) (by kernel_rfl) ?_ (fun hHeld => ?_)
    · obtain ⟨c0_, c1_, c2_, c3_⟩ := K_X0.cells hk
      ((refine K_X0.ks ?_; repeat (first | (with_reducible assumption) | (with_reducible refine K_X0.draws _ ?_) | (with_reducible refine K_X0.drew ?_) | (with_reducible refine K_X0.alloc _ ?_) | (with_reducible refine K_X0.set ?_ _ _ _ (by omega)))))
    (refine wpAnyH_take (i := 0) (oi := _) (v := ?_) rfl (by kernel_rfl) (by kernel_rfl) (by kernel_rfl) (fun _ _ _ h => h) (Or.inl ⟨by rfl, fun wx hSw => ?_⟩) (by assumption) ?_; rotate_left 1; focus ((try dsimp only at hSw); go_simp; (try with_reducible rfl)); (try simp only [Act.put, List.setIfInBounds_toArray, List.set_cons_zero, List.set_cons_succ, List.getElem_toArray, List.getElem_cons_zero, List.getElem_cons_succ]))
    (refine wpAnyH_take (i := 2) (oi := _) (v := ?_) rfl (by kernel_rfl) (by kernel_rfl) (by kernel_rfl) (fun _ _ _ h => h) (Or.inl ⟨by rfl, fun wx hSw => ?_⟩) (by assumption) ?_; rotate_left 1; focus ((try dsimp only at hSw); go_simp; (try with_reducible rfl)); (try simp only [Act.put, List.setIfInBounds_toArray, List.set_cons_zero, List.set_cons_succ, List.getElem_toArray, List.getElem_cons_zero, List.getElem_cons_succ]))
    (refine wpAnyH_ready (rs := [1]) (by kernel_rfl) (by simp) ?_; refine AllReadyH.cons (o := _) rfl (fun K hK => ?_) AllReadyH.nil; go_simp)
    go_at_call 13
    refine (D1.out _).mono ?_
    rintro e w' ⟨rfl, hbel⟩
    have hk' := K_X0.below hbel (And.right (by assumption))
    clear hbel
    (refine hK.out _ _ (by ((refine K_X0.ks ?_; repeat (first | (with_reducible assumption) | (with_reducible refine K_X0.draws _ ?_) | (with_reducible refine K_X0.drew ?_) | (with_reducible refine K_X0.alloc _ ?_) | (with_reducible refine K_X0.set ?_ _ _ _ (by omega)))))) (fun hHeld => ?_); clear hK K; (try simp only [Act.put, List.setIfInBounds_toArray, List.set_cons_zero, List.set_cons_succ, List.getElem_toArray, List.getElem_cons_zero, List.getElem_cons_succ]))
    (refine wpAnyH_ready (rs := [3]) (by kernel_rfl) (by simp) ?_; refine AllReadyH.cons (o := _) rfl (fun K hK => ?_) AllReadyH.nil; go_simp)
    go_at_call 13
    refine (D2.out _).mono ?_
    rintro e w'' ⟨rfl, hbel⟩
    have hk'' := K_X0.below hbel (And.right (by assumption))
    clear hbel
    (refine hK.out _ _ (by ((refine K_X0.ks ?_; repeat (first | (with_reducible assumption) | (with_reducible refine K_X0.draws _ ?_) | (with_reducible refine K_X0.drew ?_) | (with_reducible refine K_X0.alloc _ ?_) | (with_reducible refine K_X0.set ?_ _ _ _ (by omega)))))) (fun hHeld => ?_); clear hK K; (try simp only [Act.put, List.setIfInBounds_toArray, List.set_cons_zero, List.set_cons_succ, List.getElem_toArray, List.getElem_cons_zero, List.getElem_cons_succ]))
    (refine wpAnyH_take (i := 4) (oi := _) (v := ?_) rfl (by kernel_rfl) (by kernel_rfl) (by kernel_rfl) (fun _ _ _ h => h) (Or.inl ⟨by rfl, fun wx hSw => ?_⟩) (by assumption) ?_; rotate_left 1; focus ((try dsimp only at hSw); go_simp; (try with_reducible rfl)); (try simp only [Act.put, List.setIfInBounds_toArray, List.set_cons_zero, List.set_cons_succ, List.getElem_toArray, List.getElem_cons_zero, List.getElem_cons_succ]))
    (refine wpAnyH_take (i := 5) (oi := _) (v := ?_) rfl (by kernel_rfl) (by kernel_rfl) (by kernel_rfl) (fun _ _ _ h => h) (Or.inl ⟨by rfl, fun wx hSw => ?_⟩) (by assumption) ?_; rotate_left 1; focus ((try dsimp only at hSw); go_simp; (try with_reducible rfl)); (try simp only [Act.put, List.setIfInBounds_toArray, List.set_cons_zero, List.set_cons_succ, List.getElem_toArray, List.getElem_cons_zero, List.getElem_cons_succ]))
    (refine wpAnyH_take (i := 6) (oi := _) (v := undef) rfl (by kernel_rfl) (by kernel_rfl) (by kernel_rfl) (fun _ _ _ h => h) (Or.inr ⟨by rfl, rfl⟩) (by assumption) ?_; (try simp only [Act.put, List.setIfInBounds_toArray, List.set_cons_zero, List.set_cons_succ, List.getElem_toArray, List.getElem_cons_zero, List.getElem_cons_succ]))
    (refine wpAnyH_take (i := 7) (oi := _) (v := undef) rfl (by kernel_rfl) (by kernel_rfl) (by kernel_rfl) (fun _ _ _ h => h) (Or.inr ⟨by rfl, rfl⟩) (by assumption) ?_; (try simp only [Act.put, List.setIfInBounds_toArray, List.set_cons_zero, List.set_cons_succ, List.getElem_toArray, List.getElem_cons_zero, List.getElem_cons_succ]))
    (refine wpAnyH_take (i := 8) (oi := _) (v := undef) rfl (by kernel_rfl) (by kernel_rfl) (by kernel_rfl) (fun _ _ _ h => h) (Or.inr ⟨by rfl, rfl⟩) (by assumption) ?_; (try simp only [Act.put, List.setIfInBounds_toArray, List.set_cons_zero, List.set_cons_succ, List.getElem_toArray, List.getElem_cons_zero, List.getElem_cons_succ]))
    (refine wpAnyH_take (i := 9) (oi := _) (v := undef) rfl (by kernel_rfl) (by kernel_rfl) (by kernel_rfl) (fun _ _ _ h => h) (Or.inr ⟨by rfl, rfl⟩) (by assumption) ?_; (try simp only [Act.put, List.setIfInBounds_toArray, List.set_cons_zero, List.set_cons_succ, List.getElem_toArray, List.getElem_cons_zero, List.getElem_cons_succ]))
    (refine wpAnyH_take (i := 10) (oi := _) (v := undef) rfl (by kernel_rfl) (by kernel_rfl) (by kernel_rfl) (fun _ _ _ h => h) (Or.inr ⟨by rfl, rfl⟩) (by assumption) ?_; (try simp only [Act.put, List.setIfInBounds_toArray, List.set_cons_zero, List.set_cons_succ, List.getElem_toArray, List.getElem_cons_zero, List.getElem_cons_succ]))
    (refine wpAnyH_take (i := 11) (oi := _) (v := ?_) rfl (by kernel_rfl) (by kernel_rfl) (by kernel_rfl) (fun _ _ _ h => h) (Or.inl ⟨by rfl, fun wx hSw => ?_⟩) (by assumption) ?_; rotate_left 1; focus ((try dsimp only at hSw); go_simp; (try with_reducible rfl)); (try simp only [Act.put, List.setIfInBounds_toArray, List.set_cons_zero, List.set_cons_succ, List.getElem_toArray, List.getElem_cons_zero, List.getElem_cons_succ]))
    (refine wpAnyH_take (i := 12) (oi := _) (v := ?_) rfl (by kernel_rfl) (by kernel_rfl) (by kernel_rfl) (fun _ _ _ h => h) (Or.inl ⟨by rfl, fun wx hSw => ?_⟩) (by assumption) ?_; rotate_left 1; focus ((try dsimp only at hSw); go_simp; (try with_reducible rfl)); (try simp only [Act.put, List.setIfInBounds_toArray, List.set_cons_zero, List.set_cons_succ, List.getElem_toArray, List.getElem_cons_zero, List.getElem_cons_succ]))
    refine wpAnyH_done (by kernel_rfl) ?_ _
    clear hv
    go_wp2
    go_ret
    exact ⟨rfl, K_X0.bel hk''⟩
  · have HV := Lib.hid hv
    go_enter Tryd.func18, Tryd.ntmps18
    go_wp2_with fail
    have hk : K_X0 A B C D w.heap.size (w.heap.size + 1) w ((w.alloc (.cells #[.int .i64 A, .int .i64 B] 23)).alloc (.cells #[.int .i64 C, .int .i64 D] 23)) := ⟨by simp [go_sem], by simp, by simp, by (repeat (first | (with_reducible exact Below.refl _ _) | (with_reducible exact HB.out) | (with_reducible refine below_draws ?_ _) | (with_reducible refine Below.alloc ?_ (by go_size) _) | (with_reducible refine Below.setCell ?_ (by go_size) _) | (with_reducible refine Below.alloc ?_ (by simp <;> omega) _) | (with_reducible refine Below.setCell ?_ (by simp <;> omega) _)))⟩
    generalize ((w.alloc (.cells #[.int .i64 A, .int .i64 B] 23)).alloc (.cells #[.int .i64 C, .int .i64 D] 23)) = wq at hk ⊢
    first
      | (go_region_held3 (fun w' => (w'.cell? ⟨w.heap.size, 0, none⟩ = some (.int .i64 A) ∧ w'.cell? ⟨w.heap.size, 1, none⟩ = some (.int .i64 B) ∧ w'.cell? ⟨(w.heap.size + 1), 0, none⟩ = some (.int .i64 C) ∧ w'.cell? ⟨(w.heap.size + 1), 1, none⟩ = some (.int .i64 D)) ∧ K_X0 A B C D w.heap.size (w.heap.size + 1) w w') ((refine K_X0.ks ?_; repeat (first | (with_reducible assumption) | (with_reducible refine K_X0.draws _ ?_) | (with_reducible refine K_X0.drew ?_) | (with_reducible refine K_X0.alloc _ ?_) | (with_reducible refine K_X0.set ?_ _ _ _ (by omega)))))
          (first
            | (go_at_call 13; (with_reducible refine (D1.out _).mono ?_); rintro e w' ⟨rfl, hbel⟩; have hk' := K_X0.below hbel (And.right (by assumption)); clear hbel)
            | (go_at_call 13; (with_reducible refine (D2.out _).mono ?_); rintro e w'' ⟨rfl, hbel⟩; have hk'' := K_X0.below hbel (And.right (by assumption)); clear hbel)
            | (go_at_call 12; (with_reducible refine (R1.out _).mono ?_); rintro e w3 ⟨Aa, c, rfl, hLN, hc, hlc, hbel⟩; have hk3 := K_X0.below hbel (And.right (by assumption)); have HL1 := Lib.hid hLN; clear hbel hLN)
            | (go_at_call 12; (with_reducible refine (R2.out _).mono ?_); rintro e w4 ⟨Ab, c2, rfl, hLN, hc2, hlc2, hbel⟩; have hk4 := K_X0.below hbel (And.right (by assumption)); have HL2 := Lib.hid hLN; have HL3 := Lib.hid (LN.below HL1.out hbel (LN.lt HL1.out)); clear hbel hLN HL1)
            | (go_at_call 11; (with_reducible refine (Ints_any l m _ _ Aa Ab c c2 _ HL3.out HL2.out L1.out L2.out hlc hlc2 hc hc2).mono ?_); rintro e w5 ⟨rfl, hbel⟩; have hk5 := K_X0.below hbel (And.right (by assumption)); clear hbel)))
      | fail
    all_goals
      clear hv
      go_wp2
      go_ret
      exact ⟨rfl, K_X0.bel hk5⟩
end Go.Proofs.YtgbnmnkgelklbaaDoor.Iso
