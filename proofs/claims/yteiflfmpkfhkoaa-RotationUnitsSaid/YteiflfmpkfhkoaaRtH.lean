/-
  WALKS: the closure of canonicalOf.
-/
import Derived.Test.YteiflfmpkfhkoaaRtG
namespace Go.Proofs.Yteiflfmpkfhkoaa.Rt
open Go.RowKit
open Alm Hwm Al
set_option linter.unusedVariables false
set_option linter.unusedSimpArgs false
set_option maxRecDepth 100000
/-- what a walk keeps: cells, and that nothing that was there has turned -/
def K_Kp (x0 x1 x2 x3 : Int) (U V : Value) (bx t u l : Nat) (w w' : World) : Prop := KL w [(t, 0, .int .i64 x0), (t, 1, .int .i64 x1), (t, 2, .int .i64 x2), (t, 3, .int .i64 x3), (bx, 0, .int .i64 x0), (bx, 1, .int .i64 x1), (bx, 2, .int .i64 x2), (bx, 3, .int .i64 x3), (u, 0, U), (l, 0, V)] [] w'
theorem K_Kp.below {x0 x1 x2 x3 : Int} {U V : Value} {bx t u l : Nat} {w w1 w2 : World} (hb : Below w1.heap.size w1 w2) (h : K_Kp x0 x1 x2 x3 U V bx t u l w w1) : K_Kp x0 x1 x2 x3 U V bx t u l w w2 := KL.below hb h
theorem K_Kp.draws {x0 x1 x2 x3 : Int} {U V : Value} {bx t u l : Nat} {w w1 : World} (n : Nat) (h : K_Kp x0 x1 x2 x3 U V bx t u l w w1) : K_Kp x0 x1 x2 x3 U V bx t u l w (w1.drewN n) := KL.draws n h
theorem K_Kp.drew {x0 x1 x2 x3 : Int} {U V : Value} {bx t u l : Nat} {w w1 : World} (h : K_Kp x0 x1 x2 x3 U V bx t u l w w1) : K_Kp x0 x1 x2 x3 U V bx t u l w w1.drew := KL.draws 1 h
theorem K_Kp.alloc {x0 x1 x2 x3 : Int} {U V : Value} {bx t u l : Nat} {w w1 : World} (o : Obj) (h : K_Kp x0 x1 x2 x3 U V bx t u l w w1) : K_Kp x0 x1 x2 x3 U V bx t u l w (w1.alloc o) := KL.alloc o h
theorem K_Kp.set {x0 x1 x2 x3 : Int} {U V : Value} {bx t u l : Nat} {w w1 : World} (h : K_Kp x0 x1 x2 x3 U V bx t u l w w1) (b i : Nat) (v : Value) (hb : b ≠ t ∧ b ≠ bx ∧ b ≠ u ∧ b ≠ l ∧ w.heap.size ≤ b) : K_Kp x0 x1 x2 x3 U V bx t u l w (w1.setCell ⟨b, i, none⟩ v) :=
  KL.set h b i v (by intro x hx; simp only [List.mem_cons, List.not_mem_nil, or_false] at hx; rcases hx with rfl | rfl | rfl | rfl | rfl | rfl | rfl | rfl | rfl | rfl <;> simp only [] <;> omega) (by omega)
theorem K_Kp.bel {x0 x1 x2 x3 : Int} {U V : Value} {bx t u l : Nat} {w w1 : World} (h : K_Kp x0 x1 x2 x3 U V bx t u l w w1) : Below w.heap.size w w1 := KL.bel h
theorem K_Kp.cells {x0 x1 x2 x3 : Int} {U V : Value} {bx t u l : Nat} {w w' : World} (h : K_Kp x0 x1 x2 x3 U V bx t u l w w') : w'.cell? ⟨t, 0, none⟩ = some (.int .i64 x0) ∧ w'.cell? ⟨t, 1, none⟩ = some (.int .i64 x1) ∧ w'.cell? ⟨t, 2, none⟩ = some (.int .i64 x2) ∧ w'.cell? ⟨t, 3, none⟩ = some (.int .i64 x3) ∧ w'.cell? ⟨bx, 0, none⟩ = some (.int .i64 x0) ∧ w'.cell? ⟨bx, 1, none⟩ = some (.int .i64 x1) ∧ w'.cell? ⟨bx, 2, none⟩ = some (.int .i64 x2) ∧ w'.cell? ⟨bx, 3, none⟩ = some (.int .i64 x3) ∧ w'.cell? ⟨u, 0, none⟩ = some (U) ∧ w'.cell? ⟨l, 0, none⟩ = some (V) := ⟨h.c (t, 0, .int .i64 x0) (by simp), h.c (t, 1, .int .i64 x1) (by simp), h.c (t, 2, .int .i64 x2) (by simp), h.c (t, 3, .int .i64 x3) (by simp), h.c (bx, 0, .int .i64 x0) (by simp), h.c (bx, 1, .int .i64 x1) (by simp), h.c (bx, 2, .int .i64 x2) (by simp), h.c (bx, 3, .int .i64 x3) (by simp), h.c (u, 0, U) (by simp), h.c (l, 0, V) (by simp)⟩
theorem K_Kp.zs {x0 x1 x2 x3 : Int} {U V : Value} {bx t u l : Nat} {w w' : World} (h : K_Kp x0 x1 x2 x3 U V bx t u l w w') : t < w'.heap.size ∧ bx < w'.heap.size ∧ u < w'.heap.size ∧ l < w'.heap.size ∧ True := ⟨KL.z h (x := (t, 0, .int .i64 x0)) (by simp), KL.z h (x := (bx, 0, .int .i64 x0)) (by simp), KL.z h (x := (u, 0, U)) (by simp), KL.z h (x := (l, 0, V)) (by simp), trivial⟩
theorem K_Kp.ks {x0 x1 x2 x3 : Int} {U V : Value} {bx t u l : Nat} {w w' : World} (h : K_Kp x0 x1 x2 x3 U V bx t u l w w') : (w'.cell? ⟨t, 0, none⟩ = some (.int .i64 x0) ∧ w'.cell? ⟨t, 1, none⟩ = some (.int .i64 x1) ∧ w'.cell? ⟨t, 2, none⟩ = some (.int .i64 x2) ∧ w'.cell? ⟨t, 3, none⟩ = some (.int .i64 x3) ∧ w'.cell? ⟨bx, 0, none⟩ = some (.int .i64 x0) ∧ w'.cell? ⟨bx, 1, none⟩ = some (.int .i64 x1) ∧ w'.cell? ⟨bx, 2, none⟩ = some (.int .i64 x2) ∧ w'.cell? ⟨bx, 3, none⟩ = some (.int .i64 x3) ∧ w'.cell? ⟨u, 0, none⟩ = some (U) ∧ w'.cell? ⟨l, 0, none⟩ = some (V)) ∧ K_Kp x0 x1 x2 x3 U V bx t u l w w' := ⟨h.cells, h⟩
/-- what the closure adds -/
def kp (L : List H) (x : H) : List H := if eqH (gre x U24) x then L ++ [x] else L
set_option maxHeartbeats 3200000 in
theorem keep_any (x : H) (w0 w2 w : World) (bu bl : Nat) (A : Option Addr) (c : Nat) (v : Value) (L : List H) (hx : HB 100000000 x) (h : CI w0 w2 w bu bl A c v L) (hL : L.length ≤ 100000) :
    Calls Try.prog 130 #[.agg #[.int .i64 (x).w, .int .i64 (x).x, .int .i64 (x).y, .int .i64 (x).z], .pointer (some ⟨bu, 0, none⟩), .pointer (some ⟨bl, 0, none⟩)] w fun e w' => e = .returned (.tuple #[]) ∧ ∃ v', CI w0 w2 w' bu bl A c v' (kp L x) := by
  obtain ⟨i0, hi, hz0, hz1, hz2⟩ := info_parts infoH
  have GA := Lib.hid (fun B A c W h => greatest_any x U24 B A c W hx h U24_hb)
  have hcu := cell_of_one h.u
  have hcl := cell_of_one h.l
  have zu := lt_of_block h.u
  have zl := lt_of_block h.l
  have hc := h.hc
  have hlc := h.hl
  have HC := Lib.hid h
  unfold kp
  obtain ⟨g, hg⟩ : ∃ g, gre x U24 = g := ⟨_, rfl⟩
  rw [hg] at GA ⊢
  clear h hx hg
  obtain ⟨x0, x1, x2, x3⟩ := x
  obtain ⟨g0, g1, g2, g3⟩ := g
  simp only [] at GA
  obtain ⟨E, hE⟩ : ∃ E, eqH ⟨g0, g1, g2, g3⟩ ⟨x0, x1, x2, x3⟩ = E := ⟨_, rfl⟩
  have eq : ∀ W : World, (Op.equalIn 10000 97 (.agg #[.int .i64 g0, .int .i64 g1, .int .i64 g2, .int .i64 g3]) (.agg #[.int .i64 x0, .int .i64 x1, .int .i64 x2, .int .i64 x3])).run Try.prog W = .ok E W := fun W => by rw [Try.eqHw, ← hE]; rfl
  rw [hE]
  clear hE
  generalize U24.length = n24 at *
  go_enter Try.func130, Try.ntmps130
  go_wp2_with fail
  have hk : K_Kp x0 x1 x2 x3 (.slice A n24 c) v w.heap.size (w.heap.size + 1) bu bl w ((w.alloc (.cells #[.int .i64 x0, .int .i64 x1, .int .i64 x2, .int .i64 x3] 95)).alloc (.cells #[.int .i64 x0, .int .i64 x1, .int .i64 x2, .int .i64 x3] 97)) := ⟨by simp [go_sem, hcu, hcl, zu, zl, Nat.lt_succ_of_lt], by simp [go_sem], by simp [go_sem], by (repeat (first | (with_reducible exact Below.refl _ _) | (with_reducible exact HB.out) | (with_reducible refine below_draws ?_ _) | (with_reducible refine Below.alloc ?_ (by go_size) _) | (with_reducible refine Below.setCell ?_ (by go_size) _) | (with_reducible refine Below.alloc ?_ (by simp <;> omega) _) | (with_reducible refine Below.setCell ?_ (by simp <;> omega) _)))⟩
  clear hcu hcl
  go_region_held3 (fun w' => (w'.cell? ⟨(w.heap.size + 1), 0, none⟩ = some (.int .i64 x0) ∧ w'.cell? ⟨(w.heap.size + 1), 1, none⟩ = some (.int .i64 x1) ∧ w'.cell? ⟨(w.heap.size + 1), 2, none⟩ = some (.int .i64 x2) ∧ w'.cell? ⟨(w.heap.size + 1), 3, none⟩ = some (.int .i64 x3) ∧ w'.cell? ⟨w.heap.size, 0, none⟩ = some (.int .i64 x0) ∧ w'.cell? ⟨w.heap.size, 1, none⟩ = some (.int .i64 x1) ∧ w'.cell? ⟨w.heap.size, 2, none⟩ = some (.int .i64 x2) ∧ w'.cell? ⟨w.heap.size, 3, none⟩ = some (.int .i64 x3) ∧ w'.cell? ⟨bu, 0, none⟩ = some ((.slice A n24 c)) ∧ w'.cell? ⟨bl, 0, none⟩ = some (v)) ∧ K_Kp x0 x1 x2 x3 (.slice A n24 c) v w.heap.size (w.heap.size + 1) bu bl w w') ((refine K_Kp.ks ?_; repeat (first | (with_reducible assumption) | (with_reducible refine K_Kp.draws _ ?_) | (with_reducible refine K_Kp.drew ?_) | (with_reducible refine K_Kp.alloc _ ?_) | (with_reducible refine K_Kp.set ?_ _ _ _ (by omega)))))
    (first
      | (go_at_call 120; (with_reducible refine (GA.out _ _ _ _ (LH.next HC.out.hu (K_Kp.bel (And.right (by assumption)))) hc hlc).mono ?_); rintro e w' ⟨rfl, hbel⟩; have hk' := K_Kp.below hbel (And.right (by assumption)); clear hbel))
  all_goals
    clear eq
    rcases E with _ | _
    · go_wp2
      go_end0
      exact ⟨rfl, v, CI.next HC.out (K_Kp.bel hk')⟩
    · have CN := Lib.hid (CI.next HC.out (K_Kp.bel hk'))
      obtain ⟨c0_, c1_, c2_, c3_, c4_, c5_, c6_, c7_, c8_, c9_⟩ := K_Kp.cells hk'
      have fr := free_of_one CN.out.l
      have z2 := CN.out.z2
      go_wp2_with (at_builtin; refine wpList_append_own _ rfl _ _ 107 rfl w2.heap.size 97 i0 (.agg #[.int .i64 0, .int .i64 0, .int .i64 0, .int .i64 0]) 4 32 Try.underlying107 hi hz0 hz1 hz2 rfl (by decide) _ _ _ rfl (CN.out.row.alloc _) ⟨w'.heap.size, 0, none⟩ 1 1 [.int .i64 x0, .int .i64 x1, .int .i64 x2, .int .i64 x3] rfl rfl (four_new _ _ _ _ _ _ _ rfl) (by intro u hu; simp at hu; rcases hu with rfl | rfl | rfl | rfl <;> rfl) (by unfold maxLen; omega) (by omega) (by simp; omega) ?_)
      intro v2 wn hown2 hgrow2 _
      have hown3 : wn.ownsRow w2.heap.size 97 4 v2 (L ++ [(⟨x0, x1, x2, x3⟩ : H)]).length (flatH (L ++ [⟨x0, x1, x2, x3⟩])) := by
        simp only [flatH_app, List.length_append, flatH, List.length_cons, List.length_nil, Nat.zero_add]; exact hown2
      obtain ⟨A2, c2, rfl, -⟩ := LH.of hown3
      have CP := Lib.hid (CI.push (CI.next CN.out ((Below.refl _ _).alloc (Nat.le_refl _) _)) hown3 hgrow2)
      have lb : ∀ k, v.ownBlock = some k → w2.heap.size ≤ k := fun k hk => (CN.out.row.lt k hk).1
      have ll := (hgrow2.block bl (by have := lt_of_block CN.out.l; simp; omega) (fun e => by have := lb bl e.symm; have := CN.out.nl; omega)).trans (CI.next CN.out ((Below.refl _ _).alloc (Nat.le_refl _) _)).l
      have l1 := cell_of_one ll
      have l2 := free_of_one ll
      clear hown2 hgrow2 hown3 lb ll
      go_wp2
      go_end0
      exact ⟨rfl, .slice A2 (L.length + 1) c2, by have h := CP.out; simp only [List.length_append, List.length_cons, List.length_nil, Nat.zero_add] at h; exact h⟩
end Go.Proofs.Yteiflfmpkfhkoaa.Rt
