/-
  WALKS: the units, the greatest associate, lists of results, the program's.
-/
import Derived.Test.YteiflfmpkfhkoaaRt4
namespace Go.Proofs.Yteiflfmpkfhkoaa.Rt
open Go.RowKit
open Alm Hwm Al
set_option linter.unusedVariables false
set_option linter.unusedSimpArgs false
set_option maxRecDepth 100000
/-- what a walk keeps: cells, and that nothing that was there has turned -/
def K_F1 (a0 a1 a2 a3 : Int) (p : Nat) (w w' : World) : Prop := KL w [(p, 0, .int .i64 a0), (p, 1, .int .i64 a1), (p, 2, .int .i64 a2), (p, 3, .int .i64 a3)] [] w'
theorem K_F1.below {a0 a1 a2 a3 : Int} {p : Nat} {w w1 w2 : World} (hb : Below w1.heap.size w1 w2) (h : K_F1 a0 a1 a2 a3 p w w1) : K_F1 a0 a1 a2 a3 p w w2 := KL.below hb h
theorem K_F1.draws {a0 a1 a2 a3 : Int} {p : Nat} {w w1 : World} (n : Nat) (h : K_F1 a0 a1 a2 a3 p w w1) : K_F1 a0 a1 a2 a3 p w (w1.drewN n) := KL.draws n h
theorem K_F1.drew {a0 a1 a2 a3 : Int} {p : Nat} {w w1 : World} (h : K_F1 a0 a1 a2 a3 p w w1) : K_F1 a0 a1 a2 a3 p w w1.drew := KL.draws 1 h
theorem K_F1.alloc {a0 a1 a2 a3 : Int} {p : Nat} {w w1 : World} (o : Obj) (h : K_F1 a0 a1 a2 a3 p w w1) : K_F1 a0 a1 a2 a3 p w (w1.alloc o) := KL.alloc o h
theorem K_F1.set {a0 a1 a2 a3 : Int} {p : Nat} {w w1 : World} (h : K_F1 a0 a1 a2 a3 p w w1) (b i : Nat) (v : Value) (hb : b ≠ p ∧ w.heap.size ≤ b) : K_F1 a0 a1 a2 a3 p w (w1.setCell ⟨b, i, none⟩ v) :=
  KL.set h b i v (by intro x hx; simp only [List.mem_cons, List.not_mem_nil, or_false] at hx; rcases hx with rfl | rfl | rfl | rfl <;> simp only [] <;> omega) (by omega)
theorem K_F1.bel {a0 a1 a2 a3 : Int} {p : Nat} {w w1 : World} (h : K_F1 a0 a1 a2 a3 p w w1) : Below w.heap.size w w1 := KL.bel h
theorem K_F1.cells {a0 a1 a2 a3 : Int} {p : Nat} {w w' : World} (h : K_F1 a0 a1 a2 a3 p w w') : w'.cell? ⟨p, 0, none⟩ = some (.int .i64 a0) ∧ w'.cell? ⟨p, 1, none⟩ = some (.int .i64 a1) ∧ w'.cell? ⟨p, 2, none⟩ = some (.int .i64 a2) ∧ w'.cell? ⟨p, 3, none⟩ = some (.int .i64 a3) := ⟨h.c (p, 0, .int .i64 a0) (by simp), h.c (p, 1, .int .i64 a1) (by simp), h.c (p, 2, .int .i64 a2) (by simp), h.c (p, 3, .int .i64 a3) (by simp)⟩
theorem K_F1.zs {a0 a1 a2 a3 : Int} {p : Nat} {w w' : World} (h : K_F1 a0 a1 a2 a3 p w w') : p < w'.heap.size ∧ True := ⟨KL.z h (x := (p, 0, .int .i64 a0)) (by simp), trivial⟩
theorem K_F1.ks {a0 a1 a2 a3 : Int} {p : Nat} {w w' : World} (h : K_F1 a0 a1 a2 a3 p w w') : (w'.cell? ⟨p, 0, none⟩ = some (.int .i64 a0) ∧ w'.cell? ⟨p, 1, none⟩ = some (.int .i64 a1) ∧ w'.cell? ⟨p, 2, none⟩ = some (.int .i64 a2) ∧ w'.cell? ⟨p, 3, none⟩ = some (.int .i64 a3)) ∧ K_F1 a0 a1 a2 a3 p w w' := ⟨h.cells, h⟩
def fU (h : H) : Bool := nn h == 4
theorem U24_eq : wL fU 2 5 5 = U24 := rfl
set_option maxHeartbeats 8000000 in
theorem units_any (w : World) :
    Calls Try.prog 79 #[] w fun e w' => ∃ v, e = .returned v ∧ w'.ownsRow w.heap.size 97 4 v U24.length (flatH U24) ∧ Below w.heap.size w w' := by
  obtain ⟨i0, hi, hz0, hz1, hz2⟩ := info_parts infoH
  rw [← U24_eq]
  go_enter Try.func79, Try.ntmps79
  go_wp2_with fail
  go_loopw [1, 2] (fun t1 t2 wr => ∃ (k : Nat) (x : Int), (k ≤ 5 ∧ -3 ≤ x ∧ x ≤ 2 ∧ Hid (x = 2 - (k : Int)) ∧ PH 97 w wr t1 (wL fU 2 5 k)) ∧ t2 = .int .i64 x) (fun _ t2 _ => (intOf t2 + 3).toNat)
  case atStart => exact ⟨0, 2, ⟨by omega, by omega, by omega, Lib.hid rfl, World.ownsRow_nil _ _ _ _, Below.refl _ _⟩, rfl⟩
  case round =>
    obtain ⟨k, p, ⟨hk5, hp1, hp2, HPP, hP⟩, rfl⟩ := hrel
    have HP := Lib.hid hP
    clear hP
    by_cases hpp : -2 ≤ p
    · have t1 : decide (-2 ≤ p) = true := decide_eq_true hpp
      have t1' : decide (p ≥ -2) = true := decide_eq_true hpp
      have hk4 : k ≤ 4 := by have := HPP.out; omega
      go_wp2_with fail
      go_loopw [1, 3] (fun t1 t3 wr => ∃ (i : Nat) (x : Int), (i ≤ 5 ∧ -3 ≤ x ∧ x ≤ 2 ∧ Hid (x = 2 - (i : Int)) ∧ PH 97 w wr t1 (wL fU 2 5 k ++ xL fU 2 5 p i)) ∧ t3 = .int .i64 x) (fun _ t3 _ => (intOf t3 + 3).toNat)
      case atStart => exact ⟨0, 2, ⟨by omega, by omega, by omega, Lib.hid rfl, by rw [xL_zero, List.append_nil]; exact HP.out⟩, rfl⟩
      case round =>
        clear HP
        obtain ⟨i, x, ⟨hi', hx1, hx2, HX, hP⟩, rfl⟩ := hrel
        have HP := Lib.hid hP
        clear hP
        by_cases hxx : -2 ≤ x
        · have t2 : decide (-2 ≤ x) = true := decide_eq_true hxx
          have t2' : decide (x ≥ -2) = true := decide_eq_true hxx
          have hi4 : i ≤ 4 := by have := HX.out; omega
          go_wp2_with fail
          go_loopw [1, 4] (fun t1 t4 wr => ∃ (j : Nat) (y : Int), (j ≤ 5 ∧ -3 ≤ y ∧ y ≤ 2 ∧ Hid (y = 2 - (j : Int)) ∧ PH 97 w wr t1 (wL fU 2 5 k ++ xL fU 2 5 p i ++ yL fU 2 5 p x j)) ∧ t4 = .int .i64 y) (fun _ t4 _ => (intOf t4 + 3).toNat)
          case atStart => exact ⟨0, 2, ⟨by omega, by omega, by omega, Lib.hid rfl, by rw [yL_zero, List.append_nil]; exact HP.out⟩, rfl⟩
          case round =>
            clear HP
            obtain ⟨j, y, ⟨hj', hy1, hy2, HYY, hP⟩, rfl⟩ := hrel
            have HP := Lib.hid hP
            clear hP
            by_cases hyy : -2 ≤ y
            · have t3 : decide (-2 ≤ y) = true := decide_eq_true hyy
              have t3' : decide (y ≥ -2) = true := decide_eq_true hyy
              have hj4 : j ≤ 4 := by have := HYY.out; omega
              go_wp2_with fail
              go_loopw [1, 5] (fun t1 t5 wr => ∃ (t : Nat) (z : Int), (t ≤ 5 ∧ -3 ≤ z ∧ z ≤ 2 ∧ Hid (z = 2 - (t : Int)) ∧ PH 97 w wr t1 (wL fU 2 5 k ++ xL fU 2 5 p i ++ yL fU 2 5 p x j ++ zL fU 2 p x y t)) ∧ t5 = .int .i64 z) (fun _ t5 _ => (intOf t5 + 3).toNat)
              case atStart => exact ⟨0, 2, ⟨by omega, by omega, by omega, Lib.hid rfl, by rw [zL_zero, List.append_nil]; exact HP.out⟩, rfl⟩
              case round =>
                clear HP
                obtain ⟨t, z, ⟨ht', hz1', hz2', HZ, hP⟩, rfl⟩ := hrel
                obtain ⟨wo, rfl⟩ : ∃ wo : World, wo = wr := ⟨_, rfl⟩
                have HP := Lib.hid hP
                clear hP
                by_cases hzz : -2 ≤ z
                · have t4 : decide (-2 ≤ z) = true := decide_eq_true hzz
                  have t4' : decide (z ≥ -2) = true := decide_eq_true hzz
                  have ht4 : t ≤ 4 := by have := HZ.out; omega
                  have SQ := Lib.hid (fun W => squares_f p x y z W ⟨by omega, by omega⟩ ⟨by omega, by omega⟩ ⟨by omega, by omega⟩ ⟨by omega, by omega⟩)
                  go_wp2_with fail
                  refine (SQ.out _).mono ?_
                  rintro e w9 ⟨rfl, hb⟩
                  have hK : K_F1 p x y z wo.heap.size wo w9 := K_F1.below hb ⟨by simp [go_sem], by simp, by simp, by (repeat (first | (with_reducible exact Below.refl _ _) | (with_reducible exact HB.out) | (with_reducible refine below_draws ?_ _) | (with_reducible refine Below.alloc ?_ (by go_size) _) | (with_reducible refine Below.setCell ?_ (by go_size) _) | (with_reducible refine Below.alloc ?_ (by simp <;> omega) _) | (with_reducible refine Below.setCell ?_ (by simp <;> omega) _)))⟩
                  have hP9 := PH.next HP.out (K_F1.bel hK)
                  have hsz9 : w.heap.size ≤ w9.heap.size := hP9.2.size
                  have HP9 := Lib.hid hP9
                  clear hb hP9
                  obtain ⟨sq, hsq⟩ : ∃ sq, (nn ⟨p, x, y, z⟩ == 4) = sq := ⟨_, rfl⟩
                  have HSQ : Hid (fU ⟨p, x, y, z⟩ = sq) := Lib.hid hsq
                  obtain ⟨c0_, c1_, c2_, c3_⟩ := K_F1.cells hK; obtain ⟨z0_, -⟩ := K_F1.zs hK; have HK := Lib.hid hK; clear hK
                  have HB := Lib.hid (K_F1.bel HK.out)
                  have hll : (wL fU 2 5 k ++ xL fU 2 5 p i ++ yL fU 2 5 p x j ++ zL fU 2 p x y t).length ≤ 1000 := by
                    simp only [List.length_append]
                    have := wL_len fU 2 5 k
                    have := xL_len fU 2 5 p i
                    have := yL_len fU 2 5 p x j
                    have := zL_len fU 2 p x y t
                    omega
                  rcases sq with _ | _
                  · go_wp2
                    go_roundw
                    case rel => exact ⟨t + 1, z - 1, ⟨by omega, by omega, by omega, Lib.hid (by have := HZ.out; omega), by rw [zL_no (by rw [← HZ.out, HSQ.out])]; exact HP9.out⟩, rfl⟩
                    case measure => simp [intOf]; omega
                  · go_wp2_with (at_builtin; refine wpList_append_own _ rfl _ _ 107 rfl w.heap.size 97 i0 (.agg #[.int .i64 0, .int .i64 0, .int .i64 0, .int .i64 0]) 4 32 Try.underlying107 hi hz0 hz1 hz2 rfl (by decide) _ _ _ rfl (HP9.out.1.alloc _) ⟨w9.heap.size, 0, none⟩ 1 1 [.int .i64 p, .int .i64 x, .int .i64 y, .int .i64 z] rfl rfl (four_new _ _ _ _ _ _ _ rfl) (by intro u hu; simp at hu; rcases hu with rfl | rfl | rfl | rfl <;> rfl) (by unfold maxLen; omega) (by omega) (by simp; omega) ?_)
                    intro v2 wn hown2 hgrow2 _
                    have hbel2 : Below w.heap.size w wn := (HP9.out.2.alloc hsz9 _).grown hgrow2 (by simp; omega) (fun j hj => (HP9.out.1.lt j hj).1)
                    have hP2 : PH 97 w wn v2 (wL fU 2 5 k ++ xL fU 2 5 p i ++ yL fU 2 5 p x j ++ zL fU 2 p x y (t + 1)) := by
                      rw [zL_yes (by rw [← HZ.out, HSQ.out]), ← List.append_assoc, ← HZ.out]
                      exact ⟨by simp only [flatH_app, List.length_append, List.append_assoc, Nat.add_assoc, flatH, List.length_cons, List.length_nil, Nat.zero_add] at hown2 ⊢; exact hown2, hbel2⟩
                    have HP3 := Lib.hid hP2
                    clear hown2 hgrow2 hbel2 hP2
                    go_wp2
                    go_roundw
                    case rel => exact ⟨t + 1, z - 1, ⟨by omega, by omega, by omega, Lib.hid (by have := HZ.out; omega), HP3.out⟩, rfl⟩
                    case measure => simp [intOf]; omega
                · have t4 : decide (-2 ≤ z) = false := decide_eq_false hzz
                  have t4' : decide (z ≥ -2) = false := decide_eq_false hzz
                  have HT : Hid (t = 5) := Lib.hid (by have := HZ.out; omega)
                  go_wp2
                  go_roundw
                  case rel => exact ⟨j + 1, y - 1, ⟨by omega, by omega, by omega, Lib.hid (by have := HYY.out; omega), by rw [yL_succ, ← HYY.out, ← List.append_assoc]; have h := HP.out; rw [HT.out] at h; exact h⟩, rfl⟩
                  case measure => simp [intOf]; omega
            · have t3 : decide (-2 ≤ y) = false := decide_eq_false hyy
              have t3' : decide (y ≥ -2) = false := decide_eq_false hyy
              have HT : Hid (j = 5) := Lib.hid (by have := HYY.out; omega)
              go_wp2
              go_roundw
              case rel => exact ⟨i + 1, x - 1, ⟨by omega, by omega, by omega, Lib.hid (by have := HX.out; omega), by rw [xL_succ, ← HX.out, ← List.append_assoc]; have h := HP.out; rw [HT.out] at h; exact h⟩, rfl⟩
              case measure => simp [intOf]; omega
        · have t2 : decide (-2 ≤ x) = false := decide_eq_false hxx
          have t2' : decide (x ≥ -2) = false := decide_eq_false hxx
          have HT : Hid (i = 5) := Lib.hid (by have := HX.out; omega)
          go_wp2
          go_roundw
          case rel => exact ⟨k + 1, p - 1, ⟨by omega, by omega, by omega, Lib.hid (by have := HPP.out; omega), by rw [wL_succ, ← HPP.out]; have h := HP.out; rw [HT.out] at h; exact h⟩, rfl⟩
          case measure => simp [intOf]; omega
    · have t1 : decide (-2 ≤ p) = false := decide_eq_false hpp
      have t1' : decide (p ≥ -2) = false := decide_eq_false hpp
      have HT : Hid (k = 5) := Lib.hid (by have := HPP.out; omega)
      go_wp2
      go_ret
      refine ⟨_, rfl, ?_, HP.out.2⟩
      have := HP.out.1
      rw [HT.out] at this
      exact this
end Go.Proofs.Yteiflfmpkfhkoaa.Rt
