/-
  WALKS: the canonical quaternions of a norm, the program's: the loops.
-/
import Derived.Test.YteiflfmpkfhkoaaRtI
namespace Go.Proofs.Yteiflfmpkfhkoaa.Rt
open Go.RowKit
open Alm Hwm Al
set_option linter.unusedVariables false
set_option linter.unusedSimpArgs false
set_option maxRecDepth 100000
/-- the canonical quaternions of norm n, ascending -/
def CO (n : Nat) : List H := (cw n (isq (4 * n))).filter kB
set_option maxHeartbeats 12800000 in
theorem canonicalOf_any (n : Nat) (w : World) (hn : n ≤ 50) :
    Calls Try.prog 88 #[.int .i64 n] w fun e w' => ∃ v, e = .returned v ∧ w'.ownsRow w.heap.size 97 4 v (CO n).length (flatH (CO n)) ∧ Below w.heap.size w w' := by
  have hmf : ∀ (fn : Fn) (first cap : Array Value) (w : World), (Instr.makeFunc fn first cap).run Try.prog w = .ok (.func fn first cap) w := fun _ _ _ _ => rfl
  obtain ⟨b1, b2, b3⟩ := isq_ok (n := 4 * n) (by omega)
  unfold CO
  generalize isq (4 * n) = b at *
  have CB : Hid (∀ k : Nat, k ≤ b → ((((k : Int) + 1) * ((k : Int) + 1) ≤ 300 ∧ 0 ≤ ((k : Int) + 1) * ((k : Int) + 1)) ∧ (k < b → ((k : Int) + 1) * ((k : Int) + 1) ≤ 4 * (n : Int)) ∧ (k = b → ¬ ((k : Int) + 1) * ((k : Int) + 1) ≤ 4 * (n : Int)))) := Lib.hid (by
    intro k hk
    have c1 : (((k + 1) * (k + 1) : Nat) : Int) = ((k : Int) + 1) * ((k : Int) + 1) := by push_cast; rfl
    rw [← c1]
    refine ⟨⟨?_, by omega⟩, fun h => ?_, fun h => ?_⟩
    · have := Nat.mul_le_mul (show k + 1 ≤ 15 by omega) (show k + 1 ≤ 15 by omega); omega
    · have := Nat.mul_le_mul (show k + 1 ≤ b by omega) (show k + 1 ≤ b by omega); omega
    · subst h; omega)
  have UN := Lib.hid (fun W => units_any W)
  clear b1 b2
  go_enter Try.func88, Try.ntmps88
  go_wp2_with fail
  refine (UN.out _).mono ?_
  rintro e w1 ⟨v0, rfl, hown, hb⟩
  obtain ⟨Aa, c, rfl, hLH, hc, hlc⟩ := LH.of hown
  have hCI : CI w ((w1.alloc (.cells #[.slice Aa U24.length c] 107)).alloc (.cells #[.slice none 0 0] 107)) ((w1.alloc (.cells #[.slice Aa U24.length c] 107)).alloc (.cells #[.slice none 0 0] 107)) w1.heap.size (w1.heap.size + 1) Aa c (.slice none 0 0) [] := by
    have n1 : Below w1.heap.size w1 ((w1.alloc (.cells #[.slice Aa U24.length c] 107)).alloc (.cells #[.slice none 0 0] 107)) := ((Below.refl _ _).alloc (Nat.le_refl _) _).alloc (by simp) _
    refine ⟨?_, LH.next hLH n1, ?_, World.ownsRow_nil _ _ _ _, hb.trans (n1.mono hb.size), ?_, by simp; omega, by simp, by omega, ?_, Nat.le_refl _, hc, hlc⟩
    · rw [Below.heap_alloc _ _ _ (by simp)]; exact heap_alloc_new w1 _
    · have h := heap_alloc_new (w1.alloc (.cells #[.slice Aa U24.length c] 107)) (.cells #[.slice none 0 0] 107)
      simpa using h
    · intro a ha; have := LH.lt hLH a ha; simp; omega
    · have := hb.size; omega
  have hcu := cell_of_one hCI.u
  have hcl := cell_of_one hCI.l
  have HC := Lib.hid hCI
  clear hown hb hLH hc hlc hCI hcu hcl
  go_wp2_with fail
  generalize ((w1.alloc (.cells #[.slice Aa U24.length c] 107)).alloc (.cells #[.slice none 0 0] 107)) = w2 at HC ⊢
  generalize w1.heap.size + 1 = bl at HC ⊢
  generalize w1.heap.size = bu at HC ⊢
  go_loopw [6] (fun t6 wr => ∃ (k : Nat) (v : Value), (k ≤ b ∧ CI w w2 wr bu bl Aa c v ((cw n k).filter kB)) ∧ t6 = .int .i64 ((k : Int) + 1)) (fun t6 _ => ((b : Int) + 1 - intOf t6).toNat)
  case atStart => exact ⟨0, _, ⟨by omega, HC.out⟩, rfl⟩
  case round =>
    clear HC
    obtain ⟨k, v, ⟨hk, hC⟩, rfl⟩ := hrel
    have HC := Lib.hid hC
    clear hC
    obtain ⟨⟨s1, s2⟩, s3, s4⟩ := CB.out k hk
    by_cases hlt : k < b
    · have s3 := s3 hlt
      have CW := Lib.hid (cw_succ n k)
      have CL := Lib.hid (cw_len n k)
      have hk14 : k ≤ 14 := by omega
      obtain ⟨W, hW⟩ : ∃ W : Int, (k : Int) + 1 = W := ⟨_, rfl⟩
      have hW1 : 1 ≤ W := by omega
      have hW2 : W ≤ 15 := by omega
      rw [hW] at s1 s2 s3 CW ⊢
      have HW := Lib.hid hW
      clear s4 hW
      have t1 : decide (W * W ≤ 4 * (n : Int)) = true := decide_eq_true s3
      have R1 := Lib.hid (fun X => root_int (4 * (n : Int) - W * W) X (by omega) (by omega))
      have Q1 := isq_int (z := 4 * (n : Int) - W * W) (by omega) (by omega)
      have L1 := isq_le (4 * (n : Int) - W * W).toNat
      have E1 : Hid (pr (isq (4 * (n : Int) - W * W).toNat) W = rW n W) := Lib.hid rfl
      generalize isq (4 * (n : Int) - W * W).toNat = r0 at *
      obtain ⟨p1, p2⟩ := pr_bd (s := (r0 : Int)) (w := W) (by omega) (by omega)
      have e1 := IntWalk.i64_in (((r0 : Int) + W).tmod 2) (by have := tmod2_bd ((r0 : Int) + W); omega)
      obtain ⟨r, hr⟩ : ∃ r : Int, (r0 : Int) - ((r0 : Int) + W).tmod 2 = r := ⟨_, rfl⟩
      have hr' : (r0 : Int) - ((r0 : Int) + W) % 2 = r := by rw [← hr, Int.tmod_eq_emod_of_nonneg (by omega)]
      have HR' := Lib.hid hr'
      have er : rW n W = r := by rw [← E1.out, ← hr]; rfl
      have ep : pr (r0 : Int) W = r := hr
      rw [ep] at p1 p2
      have ER := Lib.hid er
      have HR := Lib.hid hr
      clear E1 er ep
      go_wp2_with fail
      refine (R1.out _).mono ?_
      rintro e w3 ⟨rfl, rfl⟩
      clear t1
      go_wp2_with fail
      clear e1 hr hr'
      go_loopw [8] (fun t8 wr => ∃ (j : Nat) (x : Int) (v : Value), ((j : Int) ≤ r + 1 ∧ -15 ≤ x ∧ x ≤ 17 ∧ Hid (x = -r + 2 * (j : Int)) ∧ CI w w2 wr bu bl Aa c v ((cw n k ++ cx n W j).filter kB)) ∧ t8 = .int .i64 x) (fun t8 _ => (r + 3 - intOf t8).toNat)
      case atStart => exact ⟨0, -r, _, ⟨by omega, by omega, by omega, Lib.hid (by omega), by rw [cx_zero, List.append_nil]; exact HC.out⟩, by have h := HR'.out; first | rfl | (go_num; done) | (simp; omega)⟩
      case round =>
        clear HC
        obtain ⟨j, x, v, ⟨hj, hx1, hx2, HX, hC⟩, rfl⟩ := hrel
        have HC := Lib.hid hC
        clear hC
        by_cases hxr : x ≤ r
        · have HXR := Lib.hid hxr
          have hJr : (j : Int) ≤ r := by have := HX.out; omega
          have hxa : -r ≤ x := by have := HX.out; omega
          have sx0 : x * x ≤ (r0 : Int) * r0 := sq_bd (by omega) (by omega)
          have sx1 : x * x ≤ 14 * 14 := sq_bd (by omega) (by omega)
          have sx2 := msn x
          have R2 := Lib.hid (fun X => root_int (4 * (n : Int) - W * W - x * x) X (by omega) (by omega))
          have Q2 := isq_int (z := 4 * (n : Int) - W * W - x * x) (by omega) (by omega)
          have L2 := isq_le (4 * (n : Int) - W * W - x * x).toNat
          have E2 : Hid (pr (isq (4 * (n : Int) - W * W - x * x).toNat) W = rX n W x) := Lib.hid rfl
          generalize isq (4 * (n : Int) - W * W - x * x).toNat = s0 at *
          obtain ⟨q1, q2⟩ := pr_bd (s := (s0 : Int)) (w := W) (by omega) (by omega)
          have e2 := IntWalk.i64_in (((s0 : Int) + W).tmod 2) (by have := tmod2_bd ((s0 : Int) + W); omega)
          obtain ⟨s, hs⟩ : ∃ s : Int, (s0 : Int) - ((s0 : Int) + W).tmod 2 = s := ⟨_, rfl⟩
          have hs' : (s0 : Int) - ((s0 : Int) + W) % 2 = s := by rw [← hs, Int.tmod_eq_emod_of_nonneg (by omega)]
          have HS' := Lib.hid hs'
          have es : rX n W x = s := by rw [← E2.out, ← hs]; rfl
          have eq : pr (s0 : Int) W = s := hs
          rw [eq] at q1 q2
          have ES := Lib.hid es
          have HS0 := Lib.hid hs
          clear E2 es eq
          go_wp2_with fail
          refine (R2.out _).mono ?_
          rintro e w4 ⟨rfl, rfl⟩
          go_wp2_with fail
          clear e2 hs hs'
          have HS : Hid ((s0 : Int) - ((s0 : Int) + W).tmod 2 = s) := HS0
          have CX1 := Lib.hid (cx_succ n W j)
          have CL2 := Lib.hid (cx_len n W j)
          go_loopw [10] (fun t10 wr => ∃ (i : Nat) (y : Int) (v : Value), ((i : Int) ≤ s + 1 ∧ -15 ≤ y ∧ y ≤ 17 ∧ Hid (y = -s + 2 * (i : Int)) ∧ CI w w2 wr bu bl Aa c v ((cw n k ++ (cx n W j ++ cy n W x i)).filter kB)) ∧ t10 = .int .i64 y) (fun t10 _ => (s + 3 - intOf t10).toNat)
          case atStart => exact ⟨0, -s, v, ⟨by omega, by omega, by omega, Lib.hid (by omega), by rw [cy_zero, List.append_nil]; exact HC.out⟩, by have h := HS'.out; first | rfl | (go_num; done) | (simp; omega)⟩
          case round =>
            clear HC
            obtain ⟨i, y, v, ⟨hi, hy1, hy2, HY, hC⟩, rfl⟩ := hrel
            have HC := Lib.hid hC
            clear hC
            by_cases hys : y ≤ s
            · have hya : -s ≤ y := by have := HY.out; omega
              have hIs : (i : Int) ≤ s := by have := HY.out; omega
              have sy0 : y * y ≤ (s0 : Int) * s0 := sq_bd (by omega) (by omega)
              have sy1 : y * y ≤ 14 * 14 := sq_bd (by omega) (by omega)
              have sy2 := msn y
              have R3 := Lib.hid (fun X => root_int (4 * (n : Int) - W * W - x * x - y * y) X (by omega) (by omega))
              have Q3 := isq_int (z := 4 * (n : Int) - W * W - x * x - y * y) (by omega) (by omega)
              have L3 := isq_le (4 * (n : Int) - W * W - x * x - y * y).toNat
              have CZ : Hid (cz n W x y = if (isq (4 * (n : Int) - W * W - x * x - y * y).toNat : Int) * (isq (4 * (n : Int) - W * W - x * x - y * y).toNat : Int) = 4 * (n : Int) - W * W - x * x - y * y then (if (isq (4 * (n : Int) - W * W - x * x - y * y).toNat : Int) = 0 then [⟨W, x, y, -(isq (4 * (n : Int) - W * W - x * x - y * y).toNat : Int)⟩] else [⟨W, x, y, -(isq (4 * (n : Int) - W * W - x * x - y * y).toNat : Int)⟩, ⟨W, x, y, (isq (4 * (n : Int) - W * W - x * x - y * y).toNat : Int)⟩]) else []) := Lib.hid rfl
              have CY1 := Lib.hid (cy_succ n W x i)
              have CL3 := Lib.hid (cy_len n W x i)
              generalize isq (4 * (n : Int) - W * W - x * x - y * y).toNat = z at *
              have sz := msn (z : Int)
              have LEN : Hid (((cw n k ++ (cx n W j ++ cy n W x i)).filter kB).length ≤ 9000) := Lib.hid (by
                refine filt_len ?_
                have h1 := CL.out
                have h2 := CL2.out
                have h3 := CL3.out
                simp only [List.length_append]
                have h4 : j ≤ 15 := by omega
                have h5 : i ≤ 15 := by omega
                omega)
              go_wp2_with fail
              refine (R3.out _).mono ?_
              rintro e w5 ⟨rfl, rfl⟩
              by_cases hz : (z : Int) * z = 4 * (n : Int) - W * W - x * x - y * y
              · have CZ1 := Lib.hid (CZ.out.trans (if_pos hz))
                have t1 : ((z : Int) * z != 4 * (n : Int) - W * W - x * x - y * y) = false := by rw [hz]; exact bne_self_eq_false _
                have t2 : ((z : Int) * z == 4 * (n : Int) - W * W - x * x - y * y) = true := by rw [hz]; exact beq_self_eq_true _
                have hyx : -(rX n W x) + 2 * (i : Int) = y := by have h1 := HY.out; have h2 := ES.out; omega
                have HYX := Lib.hid hyx
                clear hz CZ hyx
                go_wp2_with fail
                refine (keep_any ⟨W, x, y, -(z : Int)⟩ w w2 _ bu bl Aa c v _ ⟨⟨by simp only; omega, by simp only; omega⟩, ⟨by simp only; omega, by simp only; omega⟩, ⟨by simp only; omega, by simp only; omega⟩, ⟨by simp only; omega, by simp only; omega⟩⟩ HC.out (by have := LEN.out; omega)).mono ?_
                rintro e w6 ⟨rfl, v6, hC6⟩
                rw [kp_filter] at hC6
                have HC6 := Lib.hid hC6
                clear hC6 t1 t2
                by_cases hz0 : (z : Int) = 0
                · have CZ2 := Lib.hid (CZ1.out.trans (if_pos hz0))
                  have t3 : ((z : Int) != 0) = false := by rw [hz0]; rfl
                  have t4 : ((z : Int) == 0) = true := by rw [hz0]; rfl
                  clear hz0
                  go_wp2
                  go_roundw
                  case rel => exact ⟨i + 1, y + 2, v6, ⟨by omega, by omega, by omega, Lib.hid (by have := HY.out; push_cast; omega), by rw [CY1.out, HYX.out, CZ2.out]; have h := HC6.out; simp only [List.append_assoc] at h ⊢; exact h⟩, by first | rfl | go_num⟩
                  case measure => simp [intOf]; omega
                · have CZ2 := Lib.hid (CZ1.out.trans (if_neg hz0))
                  have t3 : ((z : Int) != 0) = true := by rw [bne_iff_ne]; exact hz0
                  have t4 : ((z : Int) == 0) = false := by rw [beq_eq_false_iff_ne]; exact hz0
                  have LEN2 : Hid (((cw n k ++ (cx n W j ++ cy n W x i) ++ [(⟨W, x, y, -(z : Int)⟩ : H)]).filter kB).length ≤ 9001) := Lib.hid (by
                    have h := LEN.out
                    rw [List.filter_append, List.length_append]
                    have h2 := List.length_filter_le kB [(⟨W, x, y, -(z : Int)⟩ : H)]
                    simp only [List.length_cons, List.length_nil] at h2
                    omega)
                  clear hz0
                  go_wp2_with fail
                  refine (keep_any ⟨W, x, y, (z : Int)⟩ w w2 _ bu bl Aa c v6 _ ⟨⟨by simp only; omega, by simp only; omega⟩, ⟨by simp only; omega, by simp only; omega⟩, ⟨by simp only; omega, by simp only; omega⟩, ⟨by simp only; omega, by simp only; omega⟩⟩ HC6.out (by have := LEN2.out; omega)).mono ?_
                  rintro e w7 ⟨rfl, v7, hC7⟩
                  rw [kp_filter] at hC7
                  have HC7 := Lib.hid hC7
                  clear hC7
                  go_wp2
                  go_roundw
                  case rel => exact ⟨i + 1, y + 2, v7, ⟨by omega, by omega, by omega, Lib.hid (by have := HY.out; push_cast; omega), by rw [CY1.out, HYX.out, CZ2.out]; have h := HC7.out; simp only [List.append_assoc, List.cons_append, List.nil_append] at h ⊢; exact h⟩, by first | rfl | go_num⟩
                  case measure => simp [intOf]; omega
              · have CZ2 := Lib.hid (CZ.out.trans (if_neg hz))
                have t1 : ((z : Int) * z != 4 * (n : Int) - W * W - x * x - y * y) = true := by rw [bne_iff_ne]; exact hz
                have t2 : ((z : Int) * z == 4 * (n : Int) - W * W - x * x - y * y) = false := by rw [beq_eq_false_iff_ne]; exact hz
                clear hz CZ
                go_wp2
                go_roundw
                case rel => exact ⟨i + 1, y + 2, v, ⟨by omega, by omega, by omega, Lib.hid (by have := HY.out; push_cast; omega), by have h : -(rX n W x) + 2 * (i : Int) = y := by { have h1 := HY.out; have h2 := ES.out; omega }; rw [CY1.out, h, CZ2.out, List.append_nil]; exact HC.out⟩, by first | rfl | go_num⟩
                case measure => simp [intOf]; omega
            · have hi2 : (s + 1).toNat = i := by have := HY.out; omega
              have HI2 := Lib.hid hi2
              have hxx : -(rW n W) + 2 * (j : Int) = x := by have h1 := HX.out; have h2 := ER.out; omega
              have HXX := Lib.hid hxx
              clear hi2 hxx
              go_wp2
              go_roundw
              case rel => exact ⟨j + 1, x + 2, v, ⟨by omega, by omega, by omega, Lib.hid (by have := HX.out; push_cast; omega), by rw [CX1.out, HXX.out, ES.out, HI2.out]; exact HC.out⟩, by first | rfl | go_num⟩
              case measure => simp [intOf]; omega
        · have hj2 : (r + 1).toNat = j := by have := HX.out; omega
          have HJ2 := Lib.hid hj2
          clear hj2
          go_wp2
          go_roundw
          case rel => exact ⟨k + 1, v, ⟨by omega, by rw [CW.out, ER.out, HJ2.out]; exact HC.out⟩, by rw [← HW.out]; first | rfl | go_num⟩
          case measure => have := HW.out; simp [intOf]; omega
    · have hkb : k = b := by omega
      have s4 := s4 hkb
      have t1 : decide (((k : Int) + 1) * ((k : Int) + 1) ≤ 4 * (n : Int)) = false := decide_eq_false (by omega)
      have HKB := Lib.hid hkb
      have hcl := cell_of_one HC.out.l
      clear hkb s4 s3
      go_wp2
      go_ret
      have h := HC.out
      rw [HKB.out] at h
      exact ⟨v, rfl, ownsRow_base' h.row (by have := h.z0; have := h.nl; omega), h.bel⟩
end Go.Proofs.Yteiflfmpkfhkoaa.Rt
