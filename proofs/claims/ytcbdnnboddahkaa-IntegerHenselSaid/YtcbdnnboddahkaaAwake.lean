/-
  'awake' returns true, and changes nothing that was there.
-/
import Derived.Test.YtcbdnnboddahkaaAw9
import Derived.Deep.RegionHeld3
namespace Go.Proofs.Ytcbdnnboddahkaa
open Go.RowKit
set_option linter.unusedVariables false
set_option maxRecDepth 100000
/-- Bezout of 12 and -18 -/
theorem bez_12 (w : World) : Calls Try.prog 46 #[.int .i64 12, .int .i64 (-18)] w fun e w' => e = .returned (.tuple #[.int .i64 6, .int .i64 2, .int .i64 1, .int .i64 0]) ∧ Drew w w' := by
  refine (bez_ok 12 (-18) w (by decide) (by decide) (by decide)).mono fun e w' ⟨⟨x, he, hx⟩, hd⟩ => ⟨?_, hd⟩
  have hg : (Int.gcd 12 (-18) : Int) = 6 := by decide
  obtain ⟨h1, h2, h3⟩ := hx
  rw [hg] at he h3 h2
  have h4 : ((-18 : Int).natAbs : Int) / 6 = 3 := by decide
  have h5 : ((-18 : Int).natAbs : Int) = 18 := by decide
  rw [h4] at h2
  rw [h5] at h3
  have hx2 : x = 2 := by omega
  subst hx2
  rw [he]; rfl
theorem own_two {w : World} {B T : Nat} {k : IntKind} {v : Value} {a b : Int} (h : w.ownsRow B T 1 v 2 [.int k a, .int k b]) : ∃ g c, v = .slice (some ⟨g, 0, none⟩) 2 c ∧ B ≤ g ∧ g < w.heap.size ∧ 2 ≤ c ∧ c ≤ 9223372036854775807 ∧ w.cell? ⟨g, 0, none⟩ = some (.int k a) ∧ w.cell? ⟨g, 1, none⟩ = some (.int k b) := by
  rcases h.2 with ⟨_, h0⟩ | ⟨g, cap, cur, rfl, hb, hg, h1, h2, h3, h4⟩
  · simp at h0
  · refine ⟨g, cap, rfl, hb, (h.lt g rfl).2, h1, h2, ?_, ?_⟩
    · rw [h.cellAt 0 (by omega)]; rfl
    · rw [h.cellAt 1 (by omega)]; rfl
/-- what stays as it is while 'awake' compares -/
structure Kp (w0 : World) (A b3 b4 g : Nat) (v3 v4 : Value) (w : World) : Prop where
  a0 : w.cell? ⟨A, 0, none⟩ = some (.bool true)
  a1 : w.cell? ⟨A, 1, none⟩ = some v3
  b0 : w.cell? ⟨A + 1, 0, none⟩ = some (.bool false)
  b1 : w.cell? ⟨A + 1, 1, none⟩ = some v4
  q : w.cell? ⟨b3, 0, none⟩ = some (.int .u32 4)
  r : w.cell? ⟨b4, 0, none⟩ = some (.int .u32 1)
  x : w.cell? ⟨g, 0, none⟩ = some (.int .i64 10)
  y : w.cell? ⟨g, 1, none⟩ = some (.int .i64 39)
  zA : A + 1 < w.heap.size
  z3 : b3 < w.heap.size
  z4 : b4 < w.heap.size
  zg : g < w.heap.size
  bel : Below w0.heap.size w0 w
theorem Kp.below {w0 : World} {A b3 b4 g : Nat} {v3 v4 : Value} {w w' : World} (hb : Below w.heap.size w w') (h : Kp w0 A b3 b4 g v3 v4 w) : Kp w0 A b3 b4 g v3 v4 w' := by
  have := h.zA; have := h.z3; have := h.z4; have := h.zg; have := hb.size
  exact ⟨cellB hb (by omega) h.a0, cellB hb (by omega) h.a1, cellB hb (by omega) h.b0, cellB hb (by omega) h.b1, cellB hb (by omega) h.q, cellB hb (by omega) h.r, cellB hb (by omega) h.x, cellB hb (by omega) h.y, by omega, by omega, by omega, by omega, h.bel.trans (hb.mono h.bel.size)⟩
theorem Kp.draws {w0 : World} {A b3 b4 g : Nat} {v3 v4 : Value} {w : World} (n : Nat) (h : Kp w0 A b3 b4 g v3 v4 w) : Kp w0 A b3 b4 g v3 v4 (w.drewN n) := h.below (below_draws (Below.refl _ _) n)
theorem Kp.drews {w0 : World} {A b3 b4 g : Nat} {v3 v4 : Value} {w w' : World} (hd : Drew w w') (h : Kp w0 A b3 b4 g v3 v4 w) : Kp w0 A b3 b4 g v3 v4 w' := by
  obtain ⟨n, rfl⟩ := hd; exact h.draws n
theorem ints_new (g c n : Nat) (w : World) (hc : 2 ≤ c) (hn : n = w.heap.size) (h0 : (w.alloc (.cells #[.int .i64 10, .int .i64 39] 3)).cell? ⟨g, 0, none⟩ = some (.int .i64 10)) (h1 : (w.alloc (.cells #[.int .i64 10, .int .i64 39] 3)).cell? ⟨g, 1, none⟩ = some (.int .i64 39)) :
    Calls Try.prog 81 #[.slice (some ⟨g, 0, none⟩) 2 c, .slice (some ⟨n, 0, none⟩) 2 2] (w.alloc (.cells #[.int .i64 10, .int .i64 39] 3)) fun e w' => e = .returned (.bool true) ∧ Drew (w.alloc (.cells #[.int .i64 10, .int .i64 39] 3)) w' := by
  subst hn
  exact ints_ab 10 39 g c w.heap.size 2 _ hc (by omega) h0 h1 (by simp [go_sem]) (by simp [go_sem])
theorem Kp.alloc {w0 : World} {A b3 b4 g : Nat} {v3 v4 : Value} {w : World} (o : Obj) (h : Kp w0 A b3 b4 g v3 v4 w) : Kp w0 A b3 b4 g v3 v4 (w.alloc o) := h.below ((Below.refl _ _).alloc (Nat.le_refl _) o)
def KS (A : Nat) (v3 v4 : Value) (w' : World) : Prop := w'.cell? ⟨A, 0, none⟩ = some (.bool true) ∧ w'.cell? ⟨A, 1, none⟩ = some v3 ∧ w'.cell? ⟨A + 1, 0, none⟩ = some (.bool false) ∧ w'.cell? ⟨A + 1, 1, none⟩ = some v4
theorem Kp.ks {w0 : World} {A b3 b4 g : Nat} {v3 v4 : Value} {w : World} (h : Kp w0 A b3 b4 g v3 v4 w) : (w.cell? ⟨A, 0, none⟩ = some (.bool true) ∧ w.cell? ⟨A, 1, none⟩ = some v3 ∧ w.cell? ⟨A + 1, 0, none⟩ = some (.bool false) ∧ w.cell? ⟨A + 1, 1, none⟩ = some v4) ∧ Kp w0 A b3 b4 g v3 v4 w := ⟨⟨h.a0, h.a1, h.b0, h.b1⟩, h⟩
set_option maxHeartbeats 4000000 in
theorem awake_any (w : World) : Calls Try.prog 20 #[] w fun e w' => e = .returned (.bool true) ∧ Below w.heap.size w w' := by
  go_enter Try.func20, Try.ntmps20
  go_wp2_with fail
  refine (of_m7 w).mono ?_
  rintro e w1 ⟨v, rfl, ⟨b1, c1, rfl, p1, p2, p3, p4, p5⟩, hb1⟩
  have HB1 := Lib.hid hb1
  go_wp2_with fail
  refine (of_2 w1).mono ?_
  rintro e w2 ⟨v, rfl, ⟨b2, c2, rfl, q1, q2, q3, q4, q5⟩, hb2⟩
  have p5' := cellB hb2 p2 p5
  have z2 := hb2.size
  have HB2 := Lib.hid hb2
  clear hb1 hb2
  go_wp2_with fail
  refine (divmod_72 b1 c1 b2 c2 w2 (by omega) q2 p3 p4 q3 q4 p5' q5).mono ?_
  rintro e w3 ⟨v, u, rfl, ⟨b3, c3, rfl, r1, r2, r3, r4, r5⟩, ⟨b4, c4, rfl, s1, s2, s3, s4, s5⟩, hb3⟩
  have z3 := hb3.size
  have HB3 := Lib.hid hb3
  have z1 := HB1.out.size
  clear hb3 p5' q5
  go_wp2_with fail
  refine (bez_12 _).mono ?_
  rintro e w4 ⟨rfl, n, rfl⟩
  go_wp2_with fail
  refine (hil2 _).mono ?_
  rintro e w5 ⟨rfl, rfl⟩
  go_wp2_with fail
  generalize hA : w3.heap.size = A at *
  have hs4 : Below w.heap.size w (((w3.alloc (Obj.cells #[Value.bool true, Value.slice (some { block := b3, off := 0 }) 1 c3] 24)).alloc (Obj.cells #[Value.bool false, Value.slice (some { block := b4, off := 0 }) 1 c4] 24)).drewN n) :=
    below_draws ((((HB1.out.trans (HB2.out.mono (by omega))).trans (HB3.out.mono (by omega))).alloc (by omega) _).alloc (by simp; omega) _) n
  have u3 : b3 < w3.heap.size := by omega
  have u3' : b3 < w3.heap.size + 1 := by omega
  have u4 : b4 < w3.heap.size := by omega
  have u4' : b4 < w3.heap.size + 1 := by omega
  have k1 : (((w3.alloc (Obj.cells #[Value.bool true, Value.slice (some { block := b3, off := 0 }) 1 c3] 24)).alloc (Obj.cells #[Value.bool false, Value.slice (some { block := b4, off := 0 }) 1 c4] 24)).drewN n).cell? ⟨A, 0, none⟩ = some (.bool true) := by subst hA; simp [go_sem]
  have k2 : (((w3.alloc (Obj.cells #[Value.bool true, Value.slice (some { block := b3, off := 0 }) 1 c3] 24)).alloc (Obj.cells #[Value.bool false, Value.slice (some { block := b4, off := 0 }) 1 c4] 24)).drewN n).cell? ⟨A, 1, none⟩ = some (.slice (some ⟨b3, 0, none⟩) 1 c3) := by subst hA; simp [go_sem]
  have k3 : (((w3.alloc (Obj.cells #[Value.bool true, Value.slice (some { block := b3, off := 0 }) 1 c3] 24)).alloc (Obj.cells #[Value.bool false, Value.slice (some { block := b4, off := 0 }) 1 c4] 24)).drewN n).cell? ⟨A + 1, 0, none⟩ = some (.bool false) := by subst hA; simp [go_sem]
  have k4 : (((w3.alloc (Obj.cells #[Value.bool true, Value.slice (some { block := b3, off := 0 }) 1 c3] 24)).alloc (Obj.cells #[Value.bool false, Value.slice (some { block := b4, off := 0 }) 1 c4] 24)).drewN n).cell? ⟨A + 1, 1, none⟩ = some (.slice (some ⟨b4, 0, none⟩) 1 c4) := by subst hA; simp [go_sem]
  have k5 : (((w3.alloc (Obj.cells #[Value.bool true, Value.slice (some { block := b3, off := 0 }) 1 c3] 24)).alloc (Obj.cells #[Value.bool false, Value.slice (some { block := b4, off := 0 }) 1 c4] 24)).drewN n).cell? ⟨b3, 0, none⟩ = some (.int .u32 4) := by simp [go_sem, r5, u3, u3']
  have k6 : (((w3.alloc (Obj.cells #[Value.bool true, Value.slice (some { block := b3, off := 0 }) 1 c3] 24)).alloc (Obj.cells #[Value.bool false, Value.slice (some { block := b4, off := 0 }) 1 c4] 24)).drewN n).cell? ⟨b4, 0, none⟩ = some (.int .u32 1) := by simp [go_sem, s5, u4, u4']
  have k7 : (((w3.alloc (Obj.cells #[Value.bool true, Value.slice (some { block := b3, off := 0 }) 1 c3] 24)).alloc (Obj.cells #[Value.bool false, Value.slice (some { block := b4, off := 0 }) 1 c4] 24)).drewN n).heap.size = A + 2 := by simp; omega
  have HS := Lib.hid hs4
  clear hs4 hA
  generalize ((w3.alloc (Obj.cells #[Value.bool true, Value.slice (some { block := b3, off := 0 }) 1 c3] 24)).alloc (Obj.cells #[Value.bool false, Value.slice (some { block := b4, off := 0 }) 1 c4] 24)).drewN n = w5 at *
  refine (roots27 w5).mono ?_
  rintro e w6 ⟨v, rfl, hown, hbel⟩
  obtain ⟨g, cg, rfl, g1, g2, g3, g4, g5, g6⟩ := own_two hown
  have z6 := hbel.size
  have hK : Kp w A b3 b4 g (.slice (some ⟨b3, 0, none⟩) 1 c3) (.slice (some ⟨b4, 0, none⟩) 1 c4) w6 :=
    ⟨cellB hbel (by omega) k1, cellB hbel (by omega) k2, cellB hbel (by omega) k3, cellB hbel (by omega) k4, cellB hbel (by omega) k5, cellB hbel (by omega) k6, g5, g6, by omega, by omega, by omega, g2, HS.out.trans (hbel.mono HS.out.size)⟩
  have HK := Lib.hid hK
  clear hK hown hbel k1 k2 k3 k4 k5 k6 k7 r5 s5 p5 HB1 HB2 HB3 HS
  go_wp2_with fail
  have hk0 := HK.out
  clear HK
  go_region_held3 (fun w' => (w'.cell? ⟨A, 0, none⟩ = some (.bool true) ∧ w'.cell? ⟨A, 1, none⟩ = some (.slice (some ⟨b3, 0, none⟩) 1 c3) ∧ w'.cell? ⟨A + 1, 0, none⟩ = some (.bool false) ∧ w'.cell? ⟨A + 1, 1, none⟩ = some (.slice (some ⟨b4, 0, none⟩) 1 c4)) ∧ Kp w A b3 b4 g (.slice (some ⟨b3, 0, none⟩) 1 c3) (.slice (some ⟨b4, 0, none⟩) 1 c4) w') (first | exact Kp.ks (by assumption) | exact Kp.ks (Kp.draws 1 (by assumption)) | exact Kp.ks (Kp.alloc _ (by assumption)))
    (first
      | (go_at_call 25; ((with_reducible refine (rof_m4 _).mono ?_); rintro e w' ⟨v, rfl, ⟨b, c, rfl, hv1, hv2, hv3, hv4, hv5⟩, hbel⟩; have hk' := Kp.below hbel (And.right (by assumption)); clear hbel))
      | (go_at_call 25; ((with_reducible refine (rof_1 _).mono ?_); rintro e w' ⟨v, rfl, ⟨b, c, rfl, hv1, hv2, hv3, hv4, hv5⟩, hbel⟩; have hk' := Kp.below hbel (And.right (by assumption)); clear hbel))
      | (go_at_call 24; ((with_reducible refine (same_one true 4 _ _ _ _ _ ?_ ?_ ?_ ?_ ?_ ?_ ?_ ?_).mono ?_)); (exact Kp.z3 (And.right (by assumption))); assumption; exact r3; exact r4; assumption; assumption; (exact Kp.q (And.right (by assumption))); assumption; rintro e w' ⟨rfl, hbel⟩; have hk' := Kp.below hbel (And.right (by assumption)); clear hbel)
      | (go_at_call 24; ((with_reducible refine (same_one false 1 _ _ _ _ _ ?_ ?_ ?_ ?_ ?_ ?_ ?_ ?_).mono ?_)); (exact Kp.z4 (And.right (by assumption))); assumption; exact s3; exact s4; assumption; assumption; (exact Kp.r (And.right (by assumption))); assumption; rintro e w' ⟨rfl, hbel⟩; have hk' := Kp.below hbel (And.right (by assumption)); clear hbel)
      | (go_at_call 81; (with_reducible refine (ints_new _ _ _ _ ?_ ?_ ?_ ?_).mono ?_); exact g3; rfl; (exact Kp.x (And.right (by assumption))); (exact Kp.y (And.right (by assumption))); rintro e w' ⟨rfl, hd⟩; have hk' := Kp.drews hd (And.right (by assumption)); clear hd))
  all_goals go_wp2
  all_goals go_ret
  all_goals exact ⟨rfl, Kp.bel (by assumption)⟩
end Go.Proofs.Ytcbdnnboddahkaa
