/-
  WALKS: the canonical quaternions of a norm, the program's.
-/
import Derived.Test.YteiflfmpkfhkoaaRtH
import Derived.Test.YteiflfmpkfhkoaaHwo
namespace Go.Proofs.Yteiflfmpkfhkoaa.Rt
open Go.RowKit
open Alm Hwm Al
set_option linter.unusedVariables false
set_option linter.unusedSimpArgs false
set_option maxRecDepth 100000
def kB (x : H) : Bool := eqH (gre x U24) x
theorem kp_filter (L : List H) (x : H) : kp (L.filter kB) x = (L ++ [x]).filter kB := by
  unfold kp
  rw [List.filter_append]
  show (if kB x then _ else _) = _
  rcases h : kB x with _ | _ <;> simp [h]
theorem root_int (z : Int) (w : World) (h0 : 0 ≤ z) (h1 : z ≤ 200) :
    Calls Try.prog 131 #[.int .i64 z] w fun e w' => e = .returned (.int .i64 (isq z.toNat)) ∧ w = w' := by
  have h := root_any z.toNat w (by omega)
  rw [show ((z.toNat : Nat) : Int) = z by omega] at h
  exact h
theorem isq_le (n : Nat) : isq n ≤ 14 := by
  unfold isq
  have := List.length_filter_le (fun r => decide ((r + 1) * (r + 1) ≤ n)) (List.range 14)
  rw [List.length_range] at this
  exact this
theorem isq_int {z : Int} (h0 : 0 ≤ z) (h1 : z ≤ 200) : (isq z.toNat : Int) * isq z.toNat ≤ z := by
  have h := (isq_ok (n := z.toNat) (by omega)).1
  have e : ((isq z.toNat * isq z.toNat : Nat) : Int) = (isq z.toNat : Int) * isq z.toNat := by push_cast; rfl
  omega
/-- a number brought to the parity of another one -/
def pr (s w : Int) : Int := s - (s + w).tmod 2
theorem pr_bd {s w : Int} (hs : 0 ≤ s) (hw : 0 ≤ w) : s - 1 ≤ pr s w ∧ pr s w ≤ s := by
  unfold pr
  have h1 := tmod2_bd (s + w)
  have h2 := Int.tmod_nonneg (a := s + w) 2 (by omega)
  omega
def rW (n : Nat) (w : Int) : Int := pr (isq (4 * (n : Int) - w * w).toNat) w
def rX (n : Nat) (w x : Int) : Int := pr (isq (4 * (n : Int) - w * w - x * x).toNat) w
def rest (n : Nat) (w x y : Int) : Int := 4 * (n : Int) - w * w - x * x - y * y
def cz (n : Nat) (w x y : Int) : List H :=
  if (isq (rest n w x y).toNat : Int) * (isq (rest n w x y).toNat : Int) = rest n w x y then
    (if (isq (rest n w x y).toNat : Int) = 0 then [⟨w, x, y, -(isq (rest n w x y).toNat : Int)⟩] else [⟨w, x, y, -(isq (rest n w x y).toNat : Int)⟩, ⟨w, x, y, (isq (rest n w x y).toNat : Int)⟩]) else []
def cy (n : Nat) (w x : Int) (k : Nat) : List H := (List.range k).flatMap fun j : Nat => cz n w x (-(rX n w x) + 2 * (j : Int))
def cx (n : Nat) (w : Int) (k : Nat) : List H := (List.range k).flatMap fun j : Nat => cy n w (-(rW n w) + 2 * (j : Int)) (rX n w (-(rW n w) + 2 * (j : Int)) + 1).toNat
def cw (n : Nat) (k : Nat) : List H := (List.range k).flatMap fun j : Nat => cx n ((j : Int) + 1) (rW n ((j : Int) + 1) + 1).toNat
theorem cy_succ (n : Nat) (w x : Int) (k : Nat) : cy n w x (k + 1) = cy n w x k ++ cz n w x (-(rX n w x) + 2 * (k : Int)) := by
  unfold cy; rw [List.range_succ]; simp
theorem cx_succ (n : Nat) (w : Int) (k : Nat) : cx n w (k + 1) = cx n w k ++ cy n w (-(rW n w) + 2 * (k : Int)) (rX n w (-(rW n w) + 2 * (k : Int)) + 1).toNat := by
  unfold cx; rw [List.range_succ]; simp
theorem cw_succ (n : Nat) (k : Nat) : cw n (k + 1) = cw n k ++ cx n ((k : Int) + 1) (rW n ((k : Int) + 1) + 1).toNat := by
  unfold cw; rw [List.range_succ]; simp
theorem cy_zero (n : Nat) (w x : Int) : cy n w x 0 = [] := rfl
theorem cx_zero (n : Nat) (w : Int) : cx n w 0 = [] := rfl
theorem cw_zero (n : Nat) : cw n 0 = [] := rfl
theorem cz_len (n : Nat) (w x y : Int) : (cz n w x y).length ≤ 2 := by
  unfold cz; split
  · split <;> simp
  · simp
theorem cy_len (n : Nat) (w x : Int) : ∀ k : Nat, (cy n w x k).length ≤ k * 2
  | 0 => by simp [cy_zero]
  | k + 1 => by rw [cy_succ, List.length_append]; have := cy_len n w x k; have := cz_len n w x (-(rX n w x) + 2 * (k : Int)); omega
theorem pr_le (m : Nat) (w : Int) : (pr (isq m) w + 1).toNat ≤ 16 := by
  unfold pr
  have h1 := tmod2_bd ((isq m : Int) + w)
  have h2 := isq_le m
  omega
theorem cx_len (n : Nat) (w : Int) : ∀ k : Nat, (cx n w k).length ≤ k * 32
  | 0 => by simp [cx_zero]
  | k + 1 => by
    rw [cx_succ, List.length_append]
    have h1 := cx_len n w k
    have h2 := cy_len n w (-(rW n w) + 2 * (k : Int)) (rX n w (-(rW n w) + 2 * (k : Int)) + 1).toNat
    have h3 : (rX n w (-(rW n w) + 2 * (k : Int)) + 1).toNat ≤ 16 := pr_le _ _
    omega
theorem cw_len (n : Nat) : ∀ k : Nat, (cw n k).length ≤ k * 512
  | 0 => by simp [cw_zero]
  | k + 1 => by
    rw [cw_succ, List.length_append]
    have h1 := cw_len n k
    have h2 := cx_len n ((k : Int) + 1) (rW n ((k : Int) + 1) + 1).toNat
    have h3 : (rW n ((k : Int) + 1) + 1).toNat ≤ 16 := pr_le _ _
    omega
theorem filt_len {L : List H} {m : Nat} (h : L.length ≤ m) : (L.filter kB).length ≤ m := Nat.le_trans (List.length_filter_le _ _) h
end Go.Proofs.Yteiflfmpkfhkoaa.Rt
