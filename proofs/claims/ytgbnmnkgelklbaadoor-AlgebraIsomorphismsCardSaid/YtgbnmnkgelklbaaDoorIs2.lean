/-
  WALKS: the reference's lists of roots in the box.
-/
import Derived.Test.YtgbnmnkgelklbaaDoorIs3
import Derived.Test.YtgbnmnkgelklbaaDoorAm2
import Derived.Test.YtgbnmnkgelklbaaDoorAlV
namespace Go.Proofs.YtgbnmnkgelklbaaDoor.Iso
open Go.RowKit
open Alm Al
open Rm (K_Rk K_Rk.below K_Rk.bel K_Rk.cells K_Rk.zs K_Rk.alloc K_Rk.drew K_Rk.draws)
set_option linter.unusedVariables false
set_option linter.unusedSimpArgs false
set_option maxRecDepth 100000
def pf (A B n : Int) (q : Q) : Bool := lowB q && sqB A B q n
theorem merge_w {Goal : Prop} {K : World → Prop} (G : World → Prop) (main : Hid (∀ w, K w → G w) → Goal) (rest : ∀ w, K w → G w) : Goal := main (Lib.hid rest)
/-- the list that a loop keeps -/
def PI (w2 wr : World) (v : Value) (L : List Q) : Prop := wr.ownsRow w2.heap.size 39 5 v L.length (flatQ L) ∧ Below w2.heap.size w2 wr
/-- how an element of the box differs from its lowest terms -/
theorem low_ways (x y z d : Int) (hd : 0 < d) (h : lowB ⟨0, x, y, z, d⟩ = false) : ∃ a b c e : Int, (Q.mk 0 x y z d).low = ⟨0, a, b, c, e⟩ ∧ ((a == x) = false ∨ (a == x) = true ∧ ((b == y) = false ∨ (b == y) = true ∧ ((c == z) = false ∨ (c == z) = true ∧ (e == d) = false))) := by
  have hn : (Q.mk 0 x y z d).low ≠ ⟨0, x, y, z, d⟩ := fun e => by
    have := (low_self ⟨0, x, y, z, d⟩ hd).2 e
    rw [h] at this; cases this
  have hq : (Q.mk 0 x y z d).low = ⟨0, x.tdiv (gs 0 x y z d), y.tdiv (gs 0 x y z d), z.tdiv (gs 0 x y z d), d.tdiv (gs 0 x y z d)⟩ := by unfold Q.low; simp only [Int.zero_tdiv]
  refine ⟨_, _, _, _, hq, ?_⟩
  rw [hq] at hn
  simp only [beq_eq_false_iff_ne, beq_iff_eq]
  generalize x.tdiv (gs 0 x y z d) = a at *
  generalize y.tdiv (gs 0 x y z d) = b at *
  generalize z.tdiv (gs 0 x y z d) = c at *
  generalize d.tdiv (gs 0 x y z d) = e at *
  by_cases h1 : a = x
  · by_cases h2 : b = y
    · by_cases h3 : c = z
      · by_cases h4 : e = d
        · exact absurd (by rw [h1, h2, h3, h4]) hn
        · exact .inr ⟨h1, .inr ⟨h2, .inr ⟨h3, h4⟩⟩⟩
      · exact .inr ⟨h1, .inr ⟨h2, .inl h3⟩⟩
    · exact .inr ⟨h1, .inl h2⟩
  · exact .inl h1
theorem row_next {B : Nat} {e : TypeId} {size : Nat} {v : Value} {n : Nat} {xs : List Value} {w w' : World} (h : w.ownsRow B e size v n xs) (hb : Below w.heap.size w w') : w'.ownsRow B e size v n xs := by
  refine ⟨h.1, ?_⟩
  rcases h.2 with h0 | ⟨g, cap, cur, hv, h5, hg, r⟩
  · exact .inl h0
  · exact .inr ⟨g, cap, cur, hv, h5, (hb.block g (Array.getElem?_eq_some_iff.1 hg).1).trans hg, r⟩
theorem Nd_new {A B : Int} {ba : Nat} {w wo : World} (h : K_Rk A B ba w wo) (n0 n1 n2 n3 n4 : Int) : K_Nd A B n0 n1 n2 n3 n4 ba wo.heap.size (wo.alloc (.cells #[.int .i64 n0, .int .i64 n1, .int .i64 n2, .int .i64 n3, .int .i64 n4] 39)) (wo.alloc (.cells #[.int .i64 n0, .int .i64 n1, .int .i64 n2, .int .i64 n3, .int .i64 n4] 39)) := by
  have h2 : KL w _ _ _ := KL.push5 h n0 n1 n2 n3 n4 39 _ rfl
  exact ⟨fun v hv => h2.c v (by simp only [List.mem_cons, List.not_mem_nil, or_false] at hv ⊢; grind), by simp, by simp, Below.refl _ _⟩
theorem ownsRow_base' {B B' : Nat} {e : TypeId} {size : Nat} {v : Value} {n : Nat} {xs : List Value} {w : World} (h : w.ownsRow B e size v n xs) (hb : B' ≤ B) : w.ownsRow B' e size v n xs := by
  refine ⟨h.1, ?_⟩
  rcases h.2 with h0 | ⟨g, cap, cur, hv, h5, r⟩
  · exact .inl h0
  · exact .inr ⟨g, cap, cur, hv, Nat.le_trans hb h5, r⟩
theorem PI.next {w2 wr w' : World} {v : Value} {L : List Q} (h : PI w2 wr v L) (hb : Below wr.heap.size wr w') : PI w2 w' v L :=
  ⟨row_next h.1 hb, h.2.trans (hb.mono h.2.size)⟩
set_option maxHeartbeats 8000000 in
theorem rpure_any (A B n : Int) (w : World) (hA : Bn 1000 A) (hB : Bn 1000 B) (hn : Bn 1000 n) :
    Calls Tryd.prog 36 #[.agg #[.int .i64 A, .int .i64 B], .int .i64 n] w fun e w' => ∃ v, e = .returned v ∧ w'.ownsRow w.heap.size 39 5 v (Dl (pf A B n) 2).length (flatQ (Dl (pf A B n) 2)) ∧ Below w.heap.size w w' := by
  obtain ⟨i0, hi, hz0, hz1, hz2⟩ := info_parts infoQ
  have HN := Lib.hid (fun (x y z d : Int) (W : World) h => rNormal_v 0 x y z d W h)
  have HS := Lib.hid (fun (x y z d : Int) (W : World) h => Square_any A B 0 x y z d n W hA hB h hn)
  clear hA hB hn
  go_enter Tryd.func36, Tryd.ntmps36
  go_wp2_with fail
  have hK : K_Rk A B w.heap.size w (w.alloc (.cells #[.int .i64 A, .int .i64 B] 23)) := ⟨by simp [go_sem], by simp, by simp, by (repeat (first | (with_reducible exact Below.refl _ _) | (with_reducible exact HB.out) | (with_reducible refine below_draws ?_ _) | (with_reducible refine Below.alloc ?_ (by go_size) _) | (with_reducible refine Below.setCell ?_ (by go_size) _) | (with_reducible refine Below.alloc ?_ (by simp <;> omega) _) | (with_reducible refine Below.setCell ?_ (by simp <;> omega) _)))⟩
  generalize (w.alloc (.cells #[.int .i64 A, .int .i64 B] 23)) = w2 at hK ⊢
  have HK := Lib.hid hK
  have hsz : w.heap.size ≤ w2.heap.size := hK.bel.size
  clear hK
  go_loopw [5, 6] (fun t5 t6 wr => ∃ k : Nat, (k ≤ 2 ∧ PI w2 wr t5 (Dl (pf A B n) k)) ∧ t6 = .int .i64 ((k : Int) + 1)) (fun _ t6 _ => 3 - (intOf t6).toNat)
  case atStart => exact ⟨0, ⟨by omega, World.ownsRow_nil _ _ _ _, Below.refl _ _⟩, rfl⟩
  case round =>
    obtain ⟨k, ⟨hk2, hP⟩, rfl⟩ := hrel
    have HP := Lib.hid hP
    clear hP
    by_cases hk : k ≤ 1
    · have t1 : decide (((k : Int) + 1) ≤ 2) = true := decide_eq_true (by omega)
      go_wp2_with fail
      go_loopw [5, 7] (fun t5 t7 wr => ∃ (i : Nat) (x : Int), (i ≤ 17 ∧ -8 ≤ x ∧ x ≤ 9 ∧ Hid (x = (i : Int) - 8) ∧ PI w2 wr t5 (Dl (pf A B n) k ++ Xl (pf A B n) ((k : Int) + 1) i)) ∧ t7 = .int .i64 x) (fun _ t7 _ => (9 - intOf t7).toNat)
      case atStart => exact ⟨0, -8, ⟨by omega, by omega, by omega, Lib.hid rfl, by rw [Xl_zero, List.append_nil]; exact HP.out⟩, rfl⟩
      case round =>
        clear HP
        obtain ⟨i, x, ⟨hi', hx1, hx2, HX, hP⟩, rfl⟩ := hrel
        have HP := Lib.hid hP
        clear hP
        by_cases hxx : x ≤ 8
        · have t2 : decide (x ≤ 8) = true := decide_eq_true hxx
          have hi16 : i ≤ 16 := by have := HX.out; omega
          go_wp2_with fail
          go_loopw [5, 8] (fun t5 t8 wr => ∃ (j : Nat) (y : Int), (j ≤ 17 ∧ -8 ≤ y ∧ y ≤ 9 ∧ Hid (y = (j : Int) - 8) ∧ PI w2 wr t5 (Dl (pf A B n) k ++ Xl (pf A B n) ((k : Int) + 1) i ++ Yl (pf A B n) ((k : Int) + 1) x j)) ∧ t8 = .int .i64 y) (fun _ t8 _ => (9 - intOf t8).toNat)
          case atStart => exact ⟨0, -8, ⟨by omega, by omega, by omega, Lib.hid rfl, by rw [Yl_zero, List.append_nil]; exact HP.out⟩, rfl⟩
          case round =>
            clear HP
            obtain ⟨j, y, ⟨hj', hy1, hy2, HYY, hP⟩, rfl⟩ := hrel
            have HP := Lib.hid hP
            clear hP
            by_cases hyy : y ≤ 8
            · have t3 : decide (y ≤ 8) = true := decide_eq_true hyy
              have hj16 : j ≤ 16 := by have := HYY.out; omega
              go_wp2_with fail
              go_loopw [5, 9] (fun t5 t9 wr => ∃ (t : Nat) (z : Int), (t ≤ 17 ∧ -8 ≤ z ∧ z ≤ 9 ∧ Hid (z = (t : Int) - 8) ∧ PI w2 wr t5 (Dl (pf A B n) k ++ Xl (pf A B n) ((k : Int) + 1) i ++ Yl (pf A B n) ((k : Int) + 1) x j ++ Zl (pf A B n) ((k : Int) + 1) x y t)) ∧ t9 = .int .i64 z) (fun _ t9 _ => (9 - intOf t9).toNat)
              case atStart => exact ⟨0, -8, ⟨by omega, by omega, by omega, Lib.hid rfl, by rw [Zl_zero, List.append_nil]; exact HP.out⟩, rfl⟩
              case round =>
                clear HP
                obtain ⟨t, z, ⟨ht', hz1', hz2', HZ, hP⟩, rfl⟩ := hrel
                obtain ⟨wo, rfl⟩ : ∃ wo : World, wo = wr := ⟨_, rfl⟩
                by_cases hzz : z ≤ 8
                · have t4 : decide (z ≤ 8) = true := decide_eq_true hzz
                  have ht16 : t ≤ 16 := by have := HZ.out; omega
                  have hKo := K_Rk.below hP.2 HK.out
                  obtain ⟨c0_, c1_⟩ := K_Rk.cells hKo
                  obtain ⟨z0_, -⟩ := K_Rk.zs hKo
                  have HKo := Lib.hid hKo
                  have HP := Lib.hid hP
                  clear hKo hP
                  have CK := box_chk (x := x) (y := y) (z := z) (d := (k : Int) + 1) ⟨hx1, hxx⟩ ⟨hy1, hyy⟩ ⟨hz1', hzz⟩ ⟨by omega, by omega⟩
                  have N1 := Lib.hid (fun W => HN.out x y z ((k : Int) + 1) W CK)
                  have S1 := Lib.hid (fun W => HS.out x y z ((k : Int) + 1) W CK)
                  clear CK
                  go_wp2_with fail
                  have hk : K_Nd A B 0 x y z ((k : Int) + 1) w.heap.size wo.heap.size (wo.alloc (.cells #[.int .i64 0, .int .i64 x, .int .i64 y, .int .i64 z, .int .i64 ((k : Int) + 1)] 39)) (wo.alloc (.cells #[.int .i64 0, .int .i64 x, .int .i64 y, .int .i64 z, .int .i64 ((k : Int) + 1)] 39)) := Nd_new HKo.out _ _ _ _ _
                  have hP := PI.next HP.out ((Below.refl wo.heap.size wo).alloc (Nat.le_refl _) (.cells #[.int .i64 0, .int .i64 x, .int .i64 y, .int .i64 z, .int .i64 ((k : Int) + 1)] 39))
                  obtain ⟨sq, hsq⟩ : ∃ sq, sqB A B ⟨0, x, y, z, (k : Int) + 1⟩ n = sq := ⟨_, rfl⟩
                  rw [hsq] at S1
                  clear HP
                  generalize (wo.alloc (.cells #[.int .i64 0, .int .i64 x, .int .i64 y, .int .i64 z, .int .i64 ((k : Int) + 1)] 39)) = wq at hk hP ⊢
                  generalize wo.heap.size = bq at hk ⊢
                  have HP := Lib.hid hP
                  have HSQ := Lib.hid hsq
                  clear hP hsq c0_ c1_ z0_
                  rcases hlo : lowB ⟨0, x, y, z, (k : Int) + 1⟩ with _ | _
                  · have HLO := Lib.hid hlo
                    clear hlo
                    obtain ⟨qa, qb, qc, qe, e0, hw⟩ := low_ways x y z ((k : Int) + 1) (by omega) HLO.out
                    rw [e0] at N1
                    clear e0
                    simp only [] at N1
                    have HW := Lib.hid hw
                    clear hw
                    refine merge_w (K := fun w9 => K_Nd A B 0 x y z ((k : Int) + 1) w.heap.size bq wq w9) ?G ?main ?rest
                    case main =>
                      intro REST
                      obtain ⟨c0_, c1_, c2_, c3_, c4_, c5_, c6_⟩ := K_Nd.cells hk
                      rcases HW.out with h1 | ⟨h2, h1 | ⟨h3, h1 | ⟨h4, h1⟩⟩⟩
                      all_goals
                        refine wp_region_held_drew (S := (fun w' => (w'.cell? ⟨w.heap.size, 0, none⟩ = some (.int .i64 A) ∧ w'.cell? ⟨w.heap.size, 1, none⟩ = some (.int .i64 B) ∧ w'.cell? ⟨bq, 0, none⟩ = some (.int .i64 0) ∧ w'.cell? ⟨bq, 1, none⟩ = some (.int .i64 x) ∧ w'.cell? ⟨bq, 2, none⟩ = some (.int .i64 y) ∧ w'.cell? ⟨bq, 3, none⟩ = some (.int .i64 z) ∧ w'.cell? ⟨bq, 4, none⟩ = some (.int .i64 ((k : Int) + 1))) ∧ K_Nd A B 0 x y z ((k : Int) + 1) w.heap.size bq wq w')) (by kernel_rfl) ?_ (fun hHeld => ?_)
                        · ((refine K_Nd.ks ?_; repeat (first | (with_reducible assumption) | (with_reducible refine K_Nd.draws _ ?_) | (with_reducible refine K_Nd.drew ?_) | (with_reducible refine K_Nd.alloc _ ?_) | (with_reducible refine K_Nd.set ?_ _ _ _ (by omega)))))
                        (refine wpAnyH_take (i := 0) (oi := _) (v := ?_) rfl (by kernel_rfl) (by kernel_rfl) (by kernel_rfl) (fun _ _ _ h => h) (Or.inl ⟨by rfl, fun wx hSw => ?_⟩) (by assumption) ?_; rotate_left 1; focus ((try dsimp only at hSw); go_simp; (try with_reducible rfl)); (try simp only [Act.put, List.setIfInBounds_toArray, List.set_cons_zero, List.set_cons_succ]))
                        (refine wpAnyH_take (i := 2) (oi := _) (v := ?_) rfl (by kernel_rfl) (by kernel_rfl) (by kernel_rfl) (fun _ _ _ h => h) (Or.inl ⟨by rfl, fun wx hSw => ?_⟩) (by assumption) ?_; rotate_left 1; focus ((try dsimp only at hSw); go_simp; (try with_reducible rfl)); (try simp only [Act.put, List.setIfInBounds_toArray, List.set_cons_zero, List.set_cons_succ]))
                        refine wpAnyH_ready (rs := [1]) (by kernel_rfl) (by simp) ?_
                        refine AllReadyH.cons (o := _) rfl (fun K hK => ?_) AllReadyH.nil
                        go_simp
                        go_at_call 61
                        refine (N1.out _).mono ?_
                        rintro e w' ⟨rfl, hbel⟩
                        have hk' := K_Nd.below hbel (And.right (by assumption))
                        clear hbel
                        refine hK.out _ _ ?_ (fun hHeld => ?_)
                        · ((refine K_Nd.ks ?_; repeat (first | (with_reducible assumption) | (with_reducible refine K_Nd.draws _ ?_) | (with_reducible refine K_Nd.drew ?_) | (with_reducible refine K_Nd.alloc _ ?_) | (with_reducible refine K_Nd.set ?_ _ _ _ (by omega)))))
                        clear hK K
                        try simp only [Act.put, List.setIfInBounds_toArray, List.set_cons_zero, List.set_cons_succ]
                        (refine wpAnyH_take (i := 3) (oi := _) (v := ?_) rfl (by kernel_rfl) (by kernel_rfl) (by kernel_rfl) (fun _ _ _ h => h) (Or.inl ⟨by rfl, fun wx hSw => ?_⟩) (by assumption) ?_; rotate_left 1; focus ((try dsimp only at hSw); go_simp; (try with_reducible rfl)); (try simp only [Act.put, List.setIfInBounds_toArray, List.set_cons_zero, List.set_cons_succ]))
                        (refine wpAnyH_take (i := 4) (oi := _) (v := ?_) rfl (by kernel_rfl) (by kernel_rfl) (by kernel_rfl) (fun _ _ _ h => h) (Or.inl ⟨by rfl, fun wx hSw => ?_⟩) (by assumption) ?_; rotate_left 1; focus ((try dsimp only at hSw); go_simp; (try with_reducible rfl)); (try simp only [Act.put, List.setIfInBounds_toArray, List.set_cons_zero, List.set_cons_succ]))
                        (refine wpAnyH_take (i := 5) (oi := _) (v := undef) rfl (by kernel_rfl) (by kernel_rfl) (by kernel_rfl) (fun _ _ _ h => h) (Or.inr ⟨by rfl, rfl⟩) (by assumption) ?_; (try simp only [Act.put, List.setIfInBounds_toArray, List.set_cons_zero, List.set_cons_succ]))
                        (refine wpAnyH_take (i := 6) (oi := _) (v := undef) rfl (by kernel_rfl) (by kernel_rfl) (by kernel_rfl) (fun _ _ _ h => h) (Or.inr ⟨by rfl, rfl⟩) (by assumption) ?_; (try simp only [Act.put, List.setIfInBounds_toArray, List.set_cons_zero, List.set_cons_succ]))
                        (refine wpAnyH_take (i := 7) (oi := _) (v := undef) rfl (by kernel_rfl) (by kernel_rfl) (by kernel_rfl) (fun _ _ _ h => h) (Or.inr ⟨by rfl, rfl⟩) (by assumption) ?_; (try simp only [Act.put, List.setIfInBounds_toArray, List.set_cons_zero, List.set_cons_succ]))
                        (refine wpAnyH_take (i := 8) (oi := _) (v := undef) rfl (by kernel_rfl) (by kernel_rfl) (by kernel_rfl) (fun _ _ _ h => h) (Or.inr ⟨by rfl, rfl⟩) (by assumption) ?_; (try simp only [Act.put, List.setIfInBounds_toArray, List.set_cons_zero, List.set_cons_succ]))
                        (refine wpAnyH_take (i := 9) (oi := _) (v := ?_) rfl (by kernel_rfl) (by kernel_rfl) (by kernel_rfl) (fun _ _ _ h => h) (Or.inl ⟨by rfl, fun wx hSw => ?_⟩) (by assumption) ?_; rotate_left 1; focus ((try dsimp only at hSw); go_simp; (try with_reducible rfl)); (try simp only [Act.put, List.setIfInBounds_toArray, List.set_cons_zero, List.set_cons_succ]))
                        refine wpAnyH_done (by kernel_rfl) ?_ _
                        exact REST.out _ hk'
                    case rest =>
                      intro w9 hK9
                      have hb9 := K_Nd.bel hK9
                      have HP9 := Lib.hid (PI.next HP.out hb9)
                      clear hK9 hb9 HW hk
                      go_wp2
                      go_roundw
                      case rel => exact ⟨t + 1, z + 1, ⟨by omega, by omega, by omega, Lib.hid (by have := HZ.out; omega), by rw [Zl_no (by unfold pf; rw [← HZ.out, HLO.out]; rfl)]; exact HP9.out⟩, rfl⟩
                      case measure => simp [intOf]; omega
                  · have HLO := Lib.hid hlo
                    have e0 := (low_self ⟨0, x, y, z, (k : Int) + 1⟩ (by simp only; omega)).1 hlo
                    rw [e0] at N1
                    clear e0 hlo
                    simp only [] at N1
                    refine merge_w (K := fun w9 => K_Nd A B 0 x y z ((k : Int) + 1) w.heap.size bq wq w9) ?G2 ?main2 ?rest2
                    case main2 =>
                      intro REST
                      go_region_held3 (fun w' => (w'.cell? ⟨w.heap.size, 0, none⟩ = some (.int .i64 A) ∧ w'.cell? ⟨w.heap.size, 1, none⟩ = some (.int .i64 B) ∧ w'.cell? ⟨bq, 0, none⟩ = some (.int .i64 0) ∧ w'.cell? ⟨bq, 1, none⟩ = some (.int .i64 x) ∧ w'.cell? ⟨bq, 2, none⟩ = some (.int .i64 y) ∧ w'.cell? ⟨bq, 3, none⟩ = some (.int .i64 z) ∧ w'.cell? ⟨bq, 4, none⟩ = some (.int .i64 ((k : Int) + 1))) ∧ K_Nd A B 0 x y z ((k : Int) + 1) w.heap.size bq wq w') ((refine K_Nd.ks ?_; repeat (first | (with_reducible assumption) | (with_reducible refine K_Nd.draws _ ?_) | (with_reducible refine K_Nd.drew ?_) | (with_reducible refine K_Nd.alloc _ ?_) | (with_reducible refine K_Nd.set ?_ _ _ _ (by omega)))))
                        (first
                          | (go_at_call 61; (with_reducible refine (N1.out _).mono ?_); rintro e w' ⟨rfl, hbel⟩; have hk' := K_Nd.below hbel (And.right (by assumption)); clear hbel)
                          | (go_at_call 62; (with_reducible refine (S1.out _).mono ?_); rintro e w'' ⟨rfl, hbel⟩; have hk'' := K_Nd.below hbel (And.right (by assumption)); clear hbel))
                      all_goals exact REST.out _ hk''
                    case rest2 =>
                      intro w9 hK9
                      have hb9 := K_Nd.bel hK9
                      have HP9 := Lib.hid (PI.next HP.out hb9)
                      have hsz9 : w2.heap.size ≤ w9.heap.size := HP9.out.2.size
                      have hll : (Dl (pf A B n) k ++ Xl (pf A B n) ((k : Int) + 1) i ++ Yl (pf A B n) ((k : Int) + 1) x j ++ Zl (pf A B n) ((k : Int) + 1) x y t).length ≤ 10200 := by
                        simp only [List.length_append]
                        have := Dl_len (pf A B n) k
                        have := Xl_len (pf A B n) ((k : Int) + 1) i
                        have := Yl_len (pf A B n) ((k : Int) + 1) x j
                        have := Zl_len (pf A B n) ((k : Int) + 1) x y t
                        omega
                      obtain ⟨c0_, c1_, c2_, c3_, c4_, c5_, c6_⟩ := K_Nd.cells hK9
                      clear hK9 hb9 hk
                      rcases sq with _ | _
                      · go_wp2
                        go_roundw
                        case rel => exact ⟨t + 1, z + 1, ⟨by omega, by omega, by omega, Lib.hid (by have := HZ.out; omega), by rw [Zl_no (by unfold pf; rw [← HZ.out, HLO.out, HSQ.out]; rfl)]; exact HP9.out⟩, rfl⟩
                        case measure => simp [intOf]; omega
                      · go_wp2_with (at_builtin; refine wpList_append_own _ rfl _ _ 46 rfl w2.heap.size 39 i0 (.agg #[.int .i64 0, .int .i64 0, .int .i64 0, .int .i64 0, .int .i64 0]) 5 40 Tryd.underlying46 hi hz0 hz1 hz2 rfl (by decide) _ _ _ rfl (HP9.out.1.alloc _) ⟨w9.heap.size, 0, none⟩ 1 1 [.int .i64 0, .int .i64 x, .int .i64 y, .int .i64 z, .int .i64 ((k : Int) + 1)] rfl rfl (five_new _ _ _ _ _ _ _ _ rfl) (by intro u hu; simp at hu; rcases hu with rfl | rfl | rfl | rfl | rfl <;> rfl) (by unfold maxLen; omega) (by omega) (by simp; omega) ?_)
                        intro v2 wn hown2 hgrow2 _
                        have hbel2 : Below w2.heap.size w2 wn := (HP9.out.2.alloc hsz9 _).grown hgrow2 (by simp; omega) (fun j hj => (HP9.out.1.lt j hj).1)
                        have hP2 : PI w2 wn v2 (Dl (pf A B n) k ++ Xl (pf A B n) ((k : Int) + 1) i ++ Yl (pf A B n) ((k : Int) + 1) x j ++ Zl (pf A B n) ((k : Int) + 1) x y (t + 1)) := by
                          rw [Zl_yes (by unfold pf; rw [← HZ.out, HLO.out, HSQ.out]; rfl), ← List.append_assoc, ← HZ.out]
                          exact ⟨by simp only [flatQ_app, List.length_append, List.append_assoc, Nat.add_assoc, flatQ, List.length_cons, List.length_nil, Nat.zero_add] at hown2 ⊢; exact hown2, hbel2⟩
                        have HP3 := Lib.hid hP2
                        clear hown2 hgrow2 hbel2 hP2
                        go_wp2
                        go_roundw
                        case rel => exact ⟨t + 1, z + 1, ⟨by omega, by omega, by omega, Lib.hid (by have := HZ.out; omega), HP3.out⟩, rfl⟩
                        case measure => simp [intOf]; omega
                · have t4 : decide (z ≤ 8) = false := decide_eq_false hzz
                  have HT : Hid (t = 17) := Lib.hid (by have := HZ.out; omega)
                  have HP := Lib.hid hP
                  clear hP
                  go_wp2
                  go_roundw
                  case rel => exact ⟨j + 1, y + 1, ⟨by omega, by omega, by omega, Lib.hid (by have := HYY.out; omega), by rw [Yl_succ, ← HYY.out, ← HT.out, ← List.append_assoc]; exact HP.out⟩, rfl⟩
                  case measure => simp [intOf]; omega
            · have t3 : decide (y ≤ 8) = false := decide_eq_false hyy
              have HT : Hid (j = 17) := Lib.hid (by have := HYY.out; omega)
              go_wp2
              go_roundw
              case rel => exact ⟨i + 1, x + 1, ⟨by omega, by omega, by omega, Lib.hid (by have := HX.out; omega), by rw [Xl_succ, ← HX.out, ← HT.out, ← List.append_assoc]; exact HP.out⟩, rfl⟩
              case measure => simp [intOf]; omega
        · have t2 : decide (x ≤ 8) = false := decide_eq_false hxx
          have HT : Hid (i = 17) := Lib.hid (by have := HX.out; omega)
          go_wp2
          go_roundw
          case rel => exact ⟨k + 1, ⟨by omega, by rw [Dl_succ, ← HT.out]; exact HP.out⟩, by go_num⟩
          case measure => simp [intOf]; omega
    · have t1 : decide (((k : Int) + 1) ≤ 2) = false := decide_eq_false (by omega)
      have HT : Hid (k = 2) := Lib.hid (by omega)
      go_wp2
      go_ret
      refine ⟨_, rfl, ?_, (HK.out.bel).trans (HP.out.2.mono hsz)⟩
      have := HP.out.1
      rw [HT.out] at this
      exact ownsRow_base' this hsz
end Go.Proofs.YtgbnmnkgelklbaaDoor.Iso
