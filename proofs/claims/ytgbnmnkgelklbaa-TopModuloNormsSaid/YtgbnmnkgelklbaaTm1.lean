/-
  WALKS: the example, small elements, and the matrix of an element modulo a prime.
-/
import Derived.Test.YtgbnmnkgelklbaaTm0
import Derived.Test.YtgbnmnkgelklbaaMgMo
import Derived.Test.YtgbnmnkgelklbaaAlU
import Derived.StillTailTactics
namespace Go.Proofs.Ytgbnmnkgelklbaa.Tm
open Go.RowKit
open Nt (Pr)
open Al
open Rm
open Mo (bmod_pos)
set_option linter.unusedVariables false
set_option linter.unusedSimpArgs false
set_option maxRecDepth 100000
set_option maxHeartbeats 3200000 in
theorem ramifies_any (w : World) : Calls Try.prog 6 #[] w fun e w' => e = .returned (.bool true) ∧ Below w.heap.size w w' := by
  have RE := Lib.hid (fun W => Ramified_ok (-1) 3 W (by decide))
  have RE2 : Hid (∀ W : World, Calls Try.prog 8 #[.agg #[.int .i64 (-1), .int .i64 3]] W fun e w' => ∃ (Aa : Option Addr) (c : Nat), e = .returned (.tuple #[.slice Aa 2 c, .bool false, .int .i64 0]) ∧ LN W.heap.size w' Aa c [2, 3] ∧ c ≤ 9223372036854775807 ∧ 2 ≤ c ∧ Below W.heap.size W w') := Lib.hid fun W => (RE.out W).mono fun e w' ⟨v, he, hown, hbel⟩ => by
    rw [RL_ex] at hown
    obtain ⟨Aa, c, rfl, hLN, hc, hlc⟩ := LN.of hown
    exact ⟨Aa, c, by rw [he]; rfl, hLN, hc, hlc, hbel⟩
  have H3 : Hid (∀ W : World, Calls Try.prog 9 #[.int .i64 (-1), .int .i64 3, .int .i64 3] W fun e w' => e = .returned (.tuple #[.int .i64 (-1), .int .i64 0]) ∧ W = w') := Lib.hid fun W => (hil63 (-1) 3 3 W).mono fun e w' ⟨⟨x, l, he, hr⟩, hw⟩ => by
    obtain ⟨rfl, rfl⟩ := hr.unique res3
    exact ⟨he, hw⟩
  clear RE
  go_enter Try.func6, Try.ntmps6
  go_wp2_with fail
  refine (RE2.out _).mono ?_
  rintro e w2 ⟨Aa, c, rfl, hLN, hc, hlc, hb⟩
  have HB := Lib.hid hb
  have HL := Lib.hid hLN
  clear hb hLN
  go_wp2_with fail
  refine (H3.out _).mono ?_
  rintro e w3 ⟨rfl, rfl⟩
  have hlit : LN w2.heap.size (w2.alloc (.cells #[.int .i64 2, .int .i64 3] 3)) (some ⟨w2.heap.size, 0, none⟩) 2 [2, 3] := World.ownsRow_lit (base := w2.heap.size) (size := 1) (e := 3) w2 #[Value.int IntKind.i64 2, Value.int IntKind.i64 3] 2 (Nat.le_refl _) (by unfold maxLen; omega) rfl
  have hb2 : Below w2.heap.size w2 (w2.alloc (.cells #[.int .i64 2, .int .i64 3] 3)) := (Below.refl _ _).alloc (Nat.le_refl _) _
  have IS := Lib.hid (Ints_same [2, 3] _ _ Aa _ c 2 _ (LN.below HL.out hb2 (LN.lt HL.out)) hlit (by decide) hlc (by decide) hc (by decide))
  have HB2 := Lib.hid (HB.out.trans (hb2.mono HB.out.size))
  clear hlit hb2
  go_wp2_with fail
  refine IS.out.mono ?_
  rintro e w4 ⟨rfl, hb⟩
  have HB3 := Lib.hid (HB2.out.trans (hb.mono HB2.out.size))
  clear hb
  go_wp2
  go_ret
  exact ⟨by simp, HB3.out⟩
def tnyB (n0 n1 n2 n3 d : Int) : Bool := Al.withinB n0 (-3) 3 && (Al.withinB n1 (-3) 3 && (Al.withinB n2 (-3) 3 && (Al.withinB n3 (-3) 3 && Al.withinB d 1 3)))
theorem five (a b c d e : Bool) : a = false ∨ a = true ∧ (b = false ∨ b = true ∧ (c = false ∨ c = true ∧ (d = false ∨ d = true))) := by
  cases a <;> cases b <;> cases c <;> cases d <;> simp
set_option maxHeartbeats 3200000 in
theorem tiny_any (n0 n1 n2 n3 d : Int) (w : World) : Calls Try.prog 15 #[.agg #[.int .i64 n0, .int .i64 n1, .int .i64 n2, .int .i64 n3, .int .i64 d]] w fun e w' => e = .returned (.bool (tnyB n0 n1 n2 n3 d)) ∧ Below w.heap.size w w' := by
  unfold tnyB
  rcases five (Al.withinB n0 (-3) 3) (Al.withinB n1 (-3) 3) (Al.withinB n2 (-3) 3) (Al.withinB n3 (-3) 3) (Al.withinB d 1 3) with e1 | ⟨e1, e2 | ⟨e2, e3 | ⟨e3, e4 | e4⟩⟩⟩
  all_goals
    go_enter Try.func15, Try.ntmps15
    go_wp2_with (go_at_call 23; refine (Within_any _ _ _ _).mono ?_; rintro e w' ⟨rfl, rfl⟩)
    go_ret
    exact ⟨by simp [*], by (repeat (first | (with_reducible exact Below.refl _ _) | (with_reducible exact HB.out) | (with_reducible refine below_draws ?_ _) | (with_reducible refine Below.alloc ?_ (by go_size) _) | (with_reducible refine Below.setCell ?_ (by go_size) _) | (with_reducible refine Below.alloc ?_ (by simp <;> omega) _) | (with_reducible refine Below.setCell ?_ (by simp <;> omega) _)))⟩
set_option maxHeartbeats 3200000 in
theorem bMod_big (n p : Int) (w : World) (hp : 0 < p) (hp' : p ≤ 10000) (h1 : -1000000000000 ≤ n) (h2 : n ≤ 1000000000000) :
    Calls Try.prog 25 #[.int .i64 n, .int .i64 p] w fun e w' => e = .returned (.int .i64 (n % p)) ∧ w = w' := by
  have hz : (p == 0) = false := by rw [beq_eq_false_iff_ne]; omega
  have BP := Lib.hid (bmod_pos (n := n) hp)
  obtain ⟨t1, t2⟩ := BP.out.2.2
  go_enter Try.func25, Try.ntmps25
  go_wp2_with fail
  all_goals go_ret
  · have h : n.tmod p < 0 := by assumption
    exact ⟨by rw [BP.out.1 h]; rfl, rfl⟩
  · have h : 0 ≤ n.tmod p := by assumption
    exact ⟨by rw [BP.out.2.1 h]; rfl, rfl⟩
theorem mulp {x y X Y : Int} (hx : -X ≤ x ∧ x ≤ X) (hy : 0 ≤ y ∧ y ≤ Y) : -(X * Y) ≤ x * y ∧ x * y ≤ X * Y := by
  have hX : 0 ≤ X := by omega
  have h1 : x * y ≤ X * y := Int.mul_le_mul_of_nonneg_right hx.2 hy.1
  have h2 : X * y ≤ X * Y := Int.mul_le_mul_of_nonneg_left hy.2 hX
  have h3 : -X * y ≤ x * y := Int.mul_le_mul_of_nonneg_right hx.1 hy.1
  rw [Int.neg_mul] at h3
  omega
/-- what a walk keeps: cells, and that nothing that was there has turned -/
def K_Tq (n0 n1 n2 n3 d i0 i1 i2 i3 j0 j1 j2 j3 l0 l1 l2 l3 : Int) (b1 b2 b3 R b9 : Nat) (w w' : World) : Prop := KL w [(b1, 0, .int .i64 n0), (b1, 1, .int .i64 n1), (b1, 2, .int .i64 n2), (b1, 3, .int .i64 n3), (b1, 4, .int .i64 d), (b2, 0, .int .i64 i0), (b2, 1, .int .i64 i1), (b2, 2, .int .i64 i2), (b2, 3, .int .i64 i3), (b3, 0, .int .i64 j0), (b3, 1, .int .i64 j1), (b3, 2, .int .i64 j2), (b3, 3, .int .i64 j3), (b9, 0, .int .i64 l0), (b9, 1, .int .i64 l1), (b9, 2, .int .i64 l2), (b9, 3, .int .i64 l3)] [(R, 0), (R, 1), (R, 2), (R, 3)] w'
theorem K_Tq.below {n0 n1 n2 n3 d i0 i1 i2 i3 j0 j1 j2 j3 l0 l1 l2 l3 : Int} {b1 b2 b3 R b9 : Nat} {w w1 w2 : World} (hb : Below w1.heap.size w1 w2) (h : K_Tq n0 n1 n2 n3 d i0 i1 i2 i3 j0 j1 j2 j3 l0 l1 l2 l3 b1 b2 b3 R b9 w w1) : K_Tq n0 n1 n2 n3 d i0 i1 i2 i3 j0 j1 j2 j3 l0 l1 l2 l3 b1 b2 b3 R b9 w w2 := KL.below hb h
theorem K_Tq.draws {n0 n1 n2 n3 d i0 i1 i2 i3 j0 j1 j2 j3 l0 l1 l2 l3 : Int} {b1 b2 b3 R b9 : Nat} {w w1 : World} (n : Nat) (h : K_Tq n0 n1 n2 n3 d i0 i1 i2 i3 j0 j1 j2 j3 l0 l1 l2 l3 b1 b2 b3 R b9 w w1) : K_Tq n0 n1 n2 n3 d i0 i1 i2 i3 j0 j1 j2 j3 l0 l1 l2 l3 b1 b2 b3 R b9 w (w1.drewN n) := KL.draws n h
theorem K_Tq.drew {n0 n1 n2 n3 d i0 i1 i2 i3 j0 j1 j2 j3 l0 l1 l2 l3 : Int} {b1 b2 b3 R b9 : Nat} {w w1 : World} (h : K_Tq n0 n1 n2 n3 d i0 i1 i2 i3 j0 j1 j2 j3 l0 l1 l2 l3 b1 b2 b3 R b9 w w1) : K_Tq n0 n1 n2 n3 d i0 i1 i2 i3 j0 j1 j2 j3 l0 l1 l2 l3 b1 b2 b3 R b9 w w1.drew := KL.draws 1 h
theorem K_Tq.alloc {n0 n1 n2 n3 d i0 i1 i2 i3 j0 j1 j2 j3 l0 l1 l2 l3 : Int} {b1 b2 b3 R b9 : Nat} {w w1 : World} (o : Obj) (h : K_Tq n0 n1 n2 n3 d i0 i1 i2 i3 j0 j1 j2 j3 l0 l1 l2 l3 b1 b2 b3 R b9 w w1) : K_Tq n0 n1 n2 n3 d i0 i1 i2 i3 j0 j1 j2 j3 l0 l1 l2 l3 b1 b2 b3 R b9 w (w1.alloc o) := KL.alloc o h
theorem K_Tq.set {n0 n1 n2 n3 d i0 i1 i2 i3 j0 j1 j2 j3 l0 l1 l2 l3 : Int} {b1 b2 b3 R b9 : Nat} {w w1 : World} (h : K_Tq n0 n1 n2 n3 d i0 i1 i2 i3 j0 j1 j2 j3 l0 l1 l2 l3 b1 b2 b3 R b9 w w1) (b i : Nat) (v : Value) (hb : b ≠ b1 ∧ b ≠ b2 ∧ b ≠ b3 ∧ b ≠ b9 ∧ w.heap.size ≤ b) : K_Tq n0 n1 n2 n3 d i0 i1 i2 i3 j0 j1 j2 j3 l0 l1 l2 l3 b1 b2 b3 R b9 w (w1.setCell ⟨b, i, none⟩ v) :=
  KL.set h b i v (by intro x hx; simp only [List.mem_cons, List.not_mem_nil, or_false] at hx; rcases hx with rfl | rfl | rfl | rfl | rfl | rfl | rfl | rfl | rfl | rfl | rfl | rfl | rfl | rfl | rfl | rfl | rfl <;> simp only [] <;> omega) (by omega)
theorem K_Tq.bel {n0 n1 n2 n3 d i0 i1 i2 i3 j0 j1 j2 j3 l0 l1 l2 l3 : Int} {b1 b2 b3 R b9 : Nat} {w w1 : World} (h : K_Tq n0 n1 n2 n3 d i0 i1 i2 i3 j0 j1 j2 j3 l0 l1 l2 l3 b1 b2 b3 R b9 w w1) : Below w.heap.size w w1 := KL.bel h
theorem K_Tq.cells {n0 n1 n2 n3 d i0 i1 i2 i3 j0 j1 j2 j3 l0 l1 l2 l3 : Int} {b1 b2 b3 R b9 : Nat} {w w' : World} (h : K_Tq n0 n1 n2 n3 d i0 i1 i2 i3 j0 j1 j2 j3 l0 l1 l2 l3 b1 b2 b3 R b9 w w') : w'.cell? ⟨b1, 0, none⟩ = some (.int .i64 n0) ∧ w'.cell? ⟨b1, 1, none⟩ = some (.int .i64 n1) ∧ w'.cell? ⟨b1, 2, none⟩ = some (.int .i64 n2) ∧ w'.cell? ⟨b1, 3, none⟩ = some (.int .i64 n3) ∧ w'.cell? ⟨b1, 4, none⟩ = some (.int .i64 d) ∧ w'.cell? ⟨b2, 0, none⟩ = some (.int .i64 i0) ∧ w'.cell? ⟨b2, 1, none⟩ = some (.int .i64 i1) ∧ w'.cell? ⟨b2, 2, none⟩ = some (.int .i64 i2) ∧ w'.cell? ⟨b2, 3, none⟩ = some (.int .i64 i3) ∧ w'.cell? ⟨b3, 0, none⟩ = some (.int .i64 j0) ∧ w'.cell? ⟨b3, 1, none⟩ = some (.int .i64 j1) ∧ w'.cell? ⟨b3, 2, none⟩ = some (.int .i64 j2) ∧ w'.cell? ⟨b3, 3, none⟩ = some (.int .i64 j3) ∧ w'.cell? ⟨b9, 0, none⟩ = some (.int .i64 l0) ∧ w'.cell? ⟨b9, 1, none⟩ = some (.int .i64 l1) ∧ w'.cell? ⟨b9, 2, none⟩ = some (.int .i64 l2) ∧ w'.cell? ⟨b9, 3, none⟩ = some (.int .i64 l3) ∧ w'.cell? ⟨R, 0, none⟩ = some (cv w' R 0) ∧ w'.frozen? ⟨R, 0, none⟩ = false ∧ w'.cell? ⟨R, 1, none⟩ = some (cv w' R 1) ∧ w'.frozen? ⟨R, 1, none⟩ = false ∧ w'.cell? ⟨R, 2, none⟩ = some (cv w' R 2) ∧ w'.frozen? ⟨R, 2, none⟩ = false ∧ w'.cell? ⟨R, 3, none⟩ = some (cv w' R 3) ∧ w'.frozen? ⟨R, 3, none⟩ = false := ⟨h.c (b1, 0, .int .i64 n0) (by simp), h.c (b1, 1, .int .i64 n1) (by simp), h.c (b1, 2, .int .i64 n2) (by simp), h.c (b1, 3, .int .i64 n3) (by simp), h.c (b1, 4, .int .i64 d) (by simp), h.c (b2, 0, .int .i64 i0) (by simp), h.c (b2, 1, .int .i64 i1) (by simp), h.c (b2, 2, .int .i64 i2) (by simp), h.c (b2, 3, .int .i64 i3) (by simp), h.c (b3, 0, .int .i64 j0) (by simp), h.c (b3, 1, .int .i64 j1) (by simp), h.c (b3, 2, .int .i64 j2) (by simp), h.c (b3, 3, .int .i64 j3) (by simp), h.c (b9, 0, .int .i64 l0) (by simp), h.c (b9, 1, .int .i64 l1) (by simp), h.c (b9, 2, .int .i64 l2) (by simp), h.c (b9, 3, .int .i64 l3) (by simp), h.d (R, 0) (by simp), h.f (R, 0) (by simp), h.d (R, 1) (by simp), h.f (R, 1) (by simp), h.d (R, 2) (by simp), h.f (R, 2) (by simp), h.d (R, 3) (by simp), h.f (R, 3) (by simp)⟩
theorem K_Tq.zs {n0 n1 n2 n3 d i0 i1 i2 i3 j0 j1 j2 j3 l0 l1 l2 l3 : Int} {b1 b2 b3 R b9 : Nat} {w w' : World} (h : K_Tq n0 n1 n2 n3 d i0 i1 i2 i3 j0 j1 j2 j3 l0 l1 l2 l3 b1 b2 b3 R b9 w w') : b1 < w'.heap.size ∧ b2 < w'.heap.size ∧ b3 < w'.heap.size ∧ b9 < w'.heap.size ∧ R < w'.heap.size ∧ True := ⟨KL.z h (x := (b1, 0, .int .i64 n0)) (by simp), KL.z h (x := (b2, 0, .int .i64 i0)) (by simp), KL.z h (x := (b3, 0, .int .i64 j0)) (by simp), KL.z h (x := (b9, 0, .int .i64 l0)) (by simp), KL.zf h (x := (R, 0)) (by simp), trivial⟩
theorem K_Tq.ks {n0 n1 n2 n3 d i0 i1 i2 i3 j0 j1 j2 j3 l0 l1 l2 l3 : Int} {b1 b2 b3 R b9 : Nat} {w w' : World} (h : K_Tq n0 n1 n2 n3 d i0 i1 i2 i3 j0 j1 j2 j3 l0 l1 l2 l3 b1 b2 b3 R b9 w w') : (w'.cell? ⟨b1, 0, none⟩ = some (.int .i64 n0) ∧ w'.cell? ⟨b1, 1, none⟩ = some (.int .i64 n1) ∧ w'.cell? ⟨b1, 2, none⟩ = some (.int .i64 n2) ∧ w'.cell? ⟨b1, 3, none⟩ = some (.int .i64 n3) ∧ w'.cell? ⟨b1, 4, none⟩ = some (.int .i64 d) ∧ w'.cell? ⟨b2, 0, none⟩ = some (.int .i64 i0) ∧ w'.cell? ⟨b2, 1, none⟩ = some (.int .i64 i1) ∧ w'.cell? ⟨b2, 2, none⟩ = some (.int .i64 i2) ∧ w'.cell? ⟨b2, 3, none⟩ = some (.int .i64 i3) ∧ w'.cell? ⟨b3, 0, none⟩ = some (.int .i64 j0) ∧ w'.cell? ⟨b3, 1, none⟩ = some (.int .i64 j1) ∧ w'.cell? ⟨b3, 2, none⟩ = some (.int .i64 j2) ∧ w'.cell? ⟨b3, 3, none⟩ = some (.int .i64 j3) ∧ w'.cell? ⟨b9, 0, none⟩ = some (.int .i64 l0) ∧ w'.cell? ⟨b9, 1, none⟩ = some (.int .i64 l1) ∧ w'.cell? ⟨b9, 2, none⟩ = some (.int .i64 l2) ∧ w'.cell? ⟨b9, 3, none⟩ = some (.int .i64 l3) ∧ w'.cell? ⟨R, 0, none⟩ = some (cv w' R 0) ∧ w'.frozen? ⟨R, 0, none⟩ = false ∧ w'.cell? ⟨R, 1, none⟩ = some (cv w' R 1) ∧ w'.frozen? ⟨R, 1, none⟩ = false ∧ w'.cell? ⟨R, 2, none⟩ = some (cv w' R 2) ∧ w'.frozen? ⟨R, 2, none⟩ = false ∧ w'.cell? ⟨R, 3, none⟩ = some (cv w' R 3) ∧ w'.frozen? ⟨R, 3, none⟩ = false) ∧ K_Tq n0 n1 n2 n3 d i0 i1 i2 i3 j0 j1 j2 j3 l0 l1 l2 l3 b1 b2 b3 R b9 w w' := ⟨h.cells, h⟩
theorem stillE {f : FuncId} {args : Array Value} {w : World} {v : Value} (h : Calls Try.prog f args w fun e w' => e = .returned v ∧ w = w') : Calls Try.prog f args w fun e w' => e = .returned v ∧ w' = w := h.mono fun _ _ ⟨a, b⟩ => ⟨a, b.symm⟩
set_option maxHeartbeats 6400000 in
theorem modulo_any (n0 n1 n2 n3 d i0 i1 i2 i3 j0 j1 j2 j3 p : Int) (w : World) (hp : 3 ≤ p) (hp' : p ≤ 10000) (hn0 : -3 ≤ n0 ∧ n0 ≤ 3) (hn1 : -3 ≤ n1 ∧ n1 ≤ 3) (hn2 : -3 ≤ n2 ∧ n2 ≤ 3) (hn3 : -3 ≤ n3 ∧ n3 ≤ 3)
    (hi0 : 0 ≤ i0 ∧ i0 < p) (hi1 : 0 ≤ i1 ∧ i1 < p) (hi2 : 0 ≤ i2 ∧ i2 < p) (hi3 : 0 ≤ i3 ∧ i3 < p) (hj0 : 0 ≤ j0 ∧ j0 < p) (hj1 : 0 ≤ j1 ∧ j1 < p) (hj2 : 0 ≤ j2 ∧ j2 < p) (hj3 : 0 ≤ j3 ∧ j3 < p) :
    Calls Try.prog 24 #[.agg #[.int .i64 n0, .int .i64 n1, .int .i64 n2, .int .i64 n3, .int .i64 d], .agg #[.int .i64 i0, .int .i64 i1, .int .i64 i2, .int .i64 i3], .agg #[.int .i64 j0, .int .i64 j1, .int .i64 j2, .int .i64 j3], .int .i64 p] w fun e w' => e = .returned (.agg #[.int .i64 ((n0 + n1 * i0 + n2 * j0 + n3 * ((i0 * j0 + i1 * j2) % p)) % p), .int .i64 ((n1 * i1 + n2 * j1 + n3 * ((i0 * j1 + i1 * j3) % p)) % p), .int .i64 ((n1 * i2 + n2 * j2 + n3 * ((i2 * j0 + i3 * j2) % p)) % p), .int .i64 ((n0 + n1 * i3 + n2 * j3 + n3 * ((i2 * j1 + i3 * j3) % p)) % p)]) ∧ Below w.heap.size w w' := by
  have R : ∀ x : Int, 0 ≤ x % p ∧ x % p ≤ 10000 := fun x => ⟨Int.emod_nonneg _ (by omega), by have := Int.emod_lt_of_pos x (show 0 < p by omega); omega⟩
  have B : ∀ {x : Int}, 0 ≤ x ∧ x < p → -10000 ≤ x ∧ x ≤ 10000 := fun h => by omega
  have C : ∀ {x : Int}, 0 ≤ x ∧ x < p → 0 ≤ x ∧ x ≤ 10000 := fun h => by omega
  have b1 := mulp (X := 10000) (Y := 10000) (B hi0) (C hj0)
  have b2 := mulp (X := 10000) (Y := 10000) (B hi1) (C hj2)
  have b3 := mulp (X := 10000) (Y := 10000) (B hi0) (C hj1)
  have b4 := mulp (X := 10000) (Y := 10000) (B hi1) (C hj3)
  have b5 := mulp (X := 10000) (Y := 10000) (B hi2) (C hj0)
  have b6 := mulp (X := 10000) (Y := 10000) (B hi3) (C hj2)
  have b7 := mulp (X := 10000) (Y := 10000) (B hi2) (C hj1)
  have b8 := mulp (X := 10000) (Y := 10000) (B hi3) (C hj3)
  have b9 := mulp (X := 3) (Y := 10000) hn1 (C hi0)
  have b10 := mulp (X := 3) (Y := 10000) hn2 (C hj0)
  have b11 := mulp (X := 3) (Y := 10000) hn1 (C hi1)
  have b12 := mulp (X := 3) (Y := 10000) hn2 (C hj1)
  have b13 := mulp (X := 3) (Y := 10000) hn1 (C hi2)
  have b14 := mulp (X := 3) (Y := 10000) hn2 (C hj2)
  have b15 := mulp (X := 3) (Y := 10000) hn1 (C hi3)
  have b16 := mulp (X := 3) (Y := 10000) hn2 (C hj3)
  have r0b := R (i0 * j0 + i1 * j2)
  have MK0 := Lib.hid (fun W => bMod_big (i0 * j0 + i1 * j2) p W (by omega) hp' (by omega) (by omega))
  have r1b := R (i0 * j1 + i1 * j3)
  have MK1 := Lib.hid (fun W => bMod_big (i0 * j1 + i1 * j3) p W (by omega) hp' (by omega) (by omega))
  have r2b := R (i2 * j0 + i3 * j2)
  have MK2 := Lib.hid (fun W => bMod_big (i2 * j0 + i3 * j2) p W (by omega) hp' (by omega) (by omega))
  have r3b := R (i2 * j1 + i3 * j3)
  have MK3 := Lib.hid (fun W => bMod_big (i2 * j1 + i3 * j3) p W (by omega) hp' (by omega) (by omega))
  generalize hk0 : (i0 * j0 + i1 * j2) % p = r0 at *
  have b17 := mulp (X := 3) (Y := 10000) hn3 r0b
  generalize hk1 : (i0 * j1 + i1 * j3) % p = r1 at *
  have b18 := mulp (X := 3) (Y := 10000) hn3 r1b
  generalize hk2 : (i2 * j0 + i3 * j2) % p = r2 at *
  have b19 := mulp (X := 3) (Y := 10000) hn3 r2b
  generalize hk3 : (i2 * j1 + i3 * j3) % p = r3 at *
  have b20 := mulp (X := 3) (Y := 10000) hn3 r3b
  have q1 := IntWalk.i64_in (i0 * j0) (by omega)
  have q2 := IntWalk.i64_in (i1 * j2) (by omega)
  have q3 := IntWalk.i64_in (i0 * j1) (by omega)
  have q4 := IntWalk.i64_in (i1 * j3) (by omega)
  have q5 := IntWalk.i64_in (i2 * j0) (by omega)
  have q6 := IntWalk.i64_in (i3 * j2) (by omega)
  have q7 := IntWalk.i64_in (i2 * j1) (by omega)
  have q8 := IntWalk.i64_in (i3 * j3) (by omega)
  have q9 := IntWalk.i64_in (n1 * i0) (by omega)
  have q10 := IntWalk.i64_in (n2 * j0) (by omega)
  have q11 := IntWalk.i64_in (n1 * i1) (by omega)
  have q12 := IntWalk.i64_in (n2 * j1) (by omega)
  have q13 := IntWalk.i64_in (n1 * i2) (by omega)
  have q14 := IntWalk.i64_in (n2 * j2) (by omega)
  have q15 := IntWalk.i64_in (n1 * i3) (by omega)
  have q16 := IntWalk.i64_in (n2 * j3) (by omega)
  have q17 := IntWalk.i64_in (n3 * r0) (by omega)
  have q18 := IntWalk.i64_in (n3 * r1) (by omega)
  have q19 := IntWalk.i64_in (n3 * r2) (by omega)
  have q20 := IntWalk.i64_in (n3 * r3) (by omega)
  have q21 := IntWalk.i64_in (i0 * j0 + i1 * j2) (by omega)
  have q22 := IntWalk.i64_in (i0 * j1 + i1 * j3) (by omega)
  have q23 := IntWalk.i64_in (i2 * j0 + i3 * j2) (by omega)
  have q24 := IntWalk.i64_in (i2 * j1 + i3 * j3) (by omega)
  have q25 := IntWalk.i64_in (n0 + n1 * i0) (by omega)
  have q26 := IntWalk.i64_in (n0 + n1 * i0 + n2 * j0) (by omega)
  have q27 := IntWalk.i64_in (n0 + n1 * i0 + n2 * j0 + n3 * r0) (by omega)
  have q28 := IntWalk.i64_in (n1 * i1 + n2 * j1) (by omega)
  have q29 := IntWalk.i64_in (n1 * i1 + n2 * j1 + n3 * r1) (by omega)
  have q30 := IntWalk.i64_in (n1 * i2 + n2 * j2) (by omega)
  have q31 := IntWalk.i64_in (n1 * i2 + n2 * j2 + n3 * r2) (by omega)
  have q32 := IntWalk.i64_in (n0 + n1 * i3) (by omega)
  have q33 := IntWalk.i64_in (n0 + n1 * i3 + n2 * j3) (by omega)
  have q34 := IntWalk.i64_in (n0 + n1 * i3 + n2 * j3 + n3 * r3) (by omega)
  have MS0 := Lib.hid (fun W => bMod_big (n0 + n1 * i0 + n2 * j0 + n3 * r0) p W (by omega) hp' (by omega) (by omega))
  have MS1 := Lib.hid (fun W => bMod_big (n1 * i1 + n2 * j1 + n3 * r1) p W (by omega) hp' (by omega) (by omega))
  have MS2 := Lib.hid (fun W => bMod_big (n1 * i2 + n2 * j2 + n3 * r2) p W (by omega) hp' (by omega) (by omega))
  have MS3 := Lib.hid (fun W => bMod_big (n0 + n1 * i3 + n2 * j3 + n3 * r3) p W (by omega) hp' (by omega) (by omega))
  obtain ⟨s0, hs0⟩ : ∃ x, (n0 + n1 * i0 + n2 * j0 + n3 * r0) % p = x := ⟨_, rfl⟩
  rw [hs0] at MS0 ⊢
  obtain ⟨s1, hs1⟩ : ∃ x, (n1 * i1 + n2 * j1 + n3 * r1) % p = x := ⟨_, rfl⟩
  rw [hs1] at MS1 ⊢
  obtain ⟨s2, hs2⟩ : ∃ x, (n1 * i2 + n2 * j2 + n3 * r2) % p = x := ⟨_, rfl⟩
  rw [hs2] at MS2 ⊢
  obtain ⟨s3, hs3⟩ : ∃ x, (n0 + n1 * i3 + n2 * j3 + n3 * r3) % p = x := ⟨_, rfl⟩
  rw [hs3] at MS3 ⊢
  clear R B C b1 b2 b3 b4 b5 b6 b7 b8 b9 b10 b11 b12 b13 b14 b15 b16 b17 b18 b19 b20 r0b hk0 hs0 r1b hk1 hs1 r2b hk2 hs2 r3b hk3 hs3 hn0 hn1 hn2 hn3 hi0 hi1 hi2 hi3 hj0 hj1 hj2 hj3
  go_enter Try.func24, Try.ntmps24
  go_wp2_with fail
  have hk : K_Tq n0 n1 n2 n3 d i0 i1 i2 i3 j0 j1 j2 j3 (i0 * j0 + i1 * j2) (i0 * j1 + i1 * j3) (i2 * j0 + i3 * j2) (i2 * j1 + i3 * j3) w.heap.size (w.heap.size + 1) (w.heap.size + 2) (w.heap.size + 3) (w.heap.size + 4) w (((((w.alloc (.cells #[.int .i64 n0, .int .i64 n1, .int .i64 n2, .int .i64 n3, .int .i64 d] 35)).alloc (.cells #[.int .i64 i0, .int .i64 i1, .int .i64 i2, .int .i64 i3] 57)).alloc (.cells #[.int .i64 j0, .int .i64 j1, .int .i64 j2, .int .i64 j3] 57)).alloc (.cells #[.int .i64 0, .int .i64 0, .int .i64 0, .int .i64 0] 62)).alloc (.cells #[.int .i64 (i0 * j0 + i1 * j2), .int .i64 (i0 * j1 + i1 * j3), .int .i64 (i2 * j0 + i3 * j2), .int .i64 (i2 * j1 + i3 * j3)] 57)) := ⟨by simp [go_sem], by simp [go_sem], by simp [go_sem], by (repeat (first | (with_reducible exact Below.refl _ _) | (with_reducible exact HB.out) | (with_reducible refine below_draws ?_ _) | (with_reducible refine Below.alloc ?_ (by go_size) _) | (with_reducible refine Below.setCell ?_ (by go_size) _) | (with_reducible refine Below.alloc ?_ (by simp <;> omega) _) | (with_reducible refine Below.setCell ?_ (by simp <;> omega) _)))⟩
  generalize (((((w.alloc (.cells #[.int .i64 n0, .int .i64 n1, .int .i64 n2, .int .i64 n3, .int .i64 d] 35)).alloc (.cells #[.int .i64 i0, .int .i64 i1, .int .i64 i2, .int .i64 i3] 57)).alloc (.cells #[.int .i64 j0, .int .i64 j1, .int .i64 j2, .int .i64 j3] 57)).alloc (.cells #[.int .i64 0, .int .i64 0, .int .i64 0, .int .i64 0] 62)).alloc (.cells #[.int .i64 (i0 * j0 + i1 * j2), .int .i64 (i0 * j1 + i1 * j3), .int .i64 (i2 * j0 + i3 * j2), .int .i64 (i2 * j1 + i3 * j3)] 57)) = w1 at hk ⊢
  obtain ⟨c0_, c1_, c2_, c3_, c4_, c5_, c6_, c7_, c8_, c9_, c10_, c11_, c12_, c13_, c14_, c15_, c16_, d0_, f0_, d1_, f1_, d2_, f2_, d3_, f3_⟩ := K_Tq.cells hk
  refine wp_region_still_tail 91 (by kernel_rfl) (by as_aux_lemma => kernel_rfl) ?_
  generalize (List.toArray (α := Oper) _) = ops
  simp only [List.append_eq, List.cons_append, List.nil_append, List.take_succ_cons, List.take_zero, List.drop_succ_cons, List.drop_zero]
  repeat (first
    | still_step
    | (refine wpStill_step (fun K hK => ?_)
       go_simp
       first
       | (with_reducible refine ⟨_, stillE (MK0.out _), hK _ ?_⟩) | (with_reducible refine ⟨_, stillE (MK1.out _), hK _ ?_⟩) | (with_reducible refine ⟨_, stillE (MK2.out _), hK _ ?_⟩) | (with_reducible refine ⟨_, stillE (MK3.out _), hK _ ?_⟩) | (with_reducible refine ⟨_, stillE (MS0.out _), hK _ ?_⟩) | (with_reducible refine ⟨_, stillE (MS1.out _), hK _ ?_⟩) | (with_reducible refine ⟨_, stillE (MS2.out _), hK _ ?_⟩) | (with_reducible refine ⟨_, stillE (MS3.out _), hK _ ?_⟩)
       clear hK K))
  try refine wpStill_nil ?_
  clear q1 q2 q3 q4 q5 q6 q7 q8 q9 q10 q11 q12 q13 q14 q15 q16 q17 q18 q19 q20 q21 q22 q23 q24 q25 q26 q27 q28 q29 q30 q31 q32 q33 q34 c0_ c1_ c2_ c3_ c4_ c5_ c6_ c7_ c8_ c9_ c10_ c11_ c12_ c13_ c14_ c15_ c16_ d0_ f0_ d1_ f1_ d2_ f2_ d3_ f3_
  change wpList _ _ _ _ _ w1.drew
  have hK := K_Tq.drew hk
  clear hk
  generalize w1.drew = w2 at hK ⊢
  obtain ⟨c0_, c1_, c2_, c3_, c4_, c5_, c6_, c7_, c8_, c9_, c10_, c11_, c12_, c13_, c14_, c15_, c16_, d0_, f0_, d1_, f1_, d2_, f2_, d3_, f3_⟩ := K_Tq.cells hK; obtain ⟨z0_, z1_, z2_, z3_, z4_, -⟩ := K_Tq.zs hK; have HK := Lib.hid hK; clear hK
  go_wp2
  exact bodyPost_ret (v := .agg #[.int .i64 s0, .int .i64 s1, .int .i64 s2, .int .i64 s3]) (by simp [results, Try.results24, go_sem, c0_, c1_, c2_, c3_, c4_, c5_, c6_, c7_, c8_, c9_, c10_, c11_, c12_, c13_, c14_, c15_, c16_, d0_, f0_, d1_, f1_, d2_, f2_, d3_, f3_]) rfl ⟨rfl, by have HB := Lib.hid (K_Tq.bel HK.out); (repeat (first | (with_reducible exact Below.refl _ _) | (with_reducible exact HB.out) | (with_reducible refine below_draws ?_ _) | (with_reducible refine Below.alloc ?_ (by go_size) _) | (with_reducible refine Below.setCell ?_ (by go_size) _) | (with_reducible refine Below.alloc ?_ (by simp <;> omega) _) | (with_reducible refine Below.setCell ?_ (by simp <;> omega) _)))⟩
end Go.Proofs.Ytgbnmnkgelklbaa.Tm
