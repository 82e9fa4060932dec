/-
  WALKS at the one example of 'awake': -7 divided by 2 is -4, with the remainder 1.
-/
import Derived.Test.YtcbdnnboddahkaaAw4
namespace Go.Proofs.Ytcbdnnboddahkaa
open Go.RowKit
set_option linter.unusedVariables false
/-- a fact on a cell carried over what is below -/
theorem cellB {B : Nat} {w w' : World} {b o : Nat} {v : Value} (h : Below B w w') (hb : b < B) (hc : w.cell? ⟨b, o, none⟩ = some v) : w'.cell? ⟨b, o, none⟩ = some v := by
  rw [h.cell (p := ⟨b, o, none⟩) hb]; exact hc
theorem frozB {B : Nat} {w w' : World} {b o : Nat} (h : Below B w w') (hb : b < B) (hc : w.frozen? ⟨b, o, none⟩ = false) : w'.frozen? ⟨b, o, none⟩ = false := by
  rw [h.frozen (p := ⟨b, o, none⟩) hb]; exact hc
structure Fr38 (s b c b' c' : Nat) (w : World) : Prop where
  lb : b < s
  lb' : b' < s
  a0 : w.cell? ⟨s, 0, none⟩ = some (.bool true)
  a1 : w.cell? ⟨s, 1, none⟩ = some (.slice (some ⟨b, 0, none⟩) 1 c)
  b0 : w.cell? ⟨s + 1, 0, none⟩ = some (.bool false)
  b1 : w.cell? ⟨s + 1, 1, none⟩ = some (.slice (some ⟨b', 0, none⟩) 1 c')
  c0 : w.cell? ⟨s + 1 + 1, 0, none⟩ = some (.bool false)
  c1 : w.cell? ⟨s + 1 + 1, 1, none⟩ = some (.slice none 0 0)
  d0 : w.cell? ⟨s + 1 + 1 + 1, 0, none⟩ = some (.bool false)
  d1 : w.cell? ⟨s + 1 + 1 + 1, 1, none⟩ = some (.slice none 0 0)
  e0 : w.frozen? ⟨s + 1 + 1, 0, none⟩ = false
  e1 : w.frozen? ⟨s + 1 + 1, 1, none⟩ = false
  f0 : w.frozen? ⟨s + 1 + 1 + 1, 0, none⟩ = false
  f1 : w.frozen? ⟨s + 1 + 1 + 1, 1, none⟩ = false
  x : w.cell? ⟨b, 0, none⟩ = some (.int .u32 7)
  y : w.cell? ⟨b', 0, none⟩ = some (.int .u32 2)
  z : s + 4 ≤ w.heap.size
theorem Fr38.below {s b c b' c' : Nat} {w w' : World} (h : Fr38 s b c b' c' w) (hb : Below w.heap.size w w') : Fr38 s b c b' c' w' := by
  have := h.z; have := h.lb; have := h.lb'
  exact ⟨h.lb, h.lb', cellB hb (by omega) h.a0, cellB hb (by omega) h.a1, cellB hb (by omega) h.b0, cellB hb (by omega) h.b1, cellB hb (by omega) h.c0, cellB hb (by omega) h.c1,
    cellB hb (by omega) h.d0, cellB hb (by omega) h.d1, frozB hb (by omega) h.e0, frozB hb (by omega) h.e1, frozB hb (by omega) h.f0, frozB hb (by omega) h.f1, cellB hb (by omega) h.x, cellB hb (by omega) h.y, by have := hb.size; omega⟩
set_option maxRecDepth 100000 in
set_option maxHeartbeats 1000000 in
theorem divmod_72 (b c b' c' : Nat) (w : World) (hb : b < w.heap.size) (hb' : b' < w.heap.size) (hc : 1 ≤ c) (hc' : c ≤ 9223372036854775807) (hc1 : 1 ≤ c') (hc1' : c' ≤ 9223372036854775807)
    (h1 : w.cell? ⟨b, 0, none⟩ = some (.int .u32 7)) (h2 : w.cell? ⟨b', 0, none⟩ = some (.int .u32 2)) :
    Calls Try.prog 38 #[.agg #[.bool true, .slice (some ⟨b, 0, none⟩) 1 c], .agg #[.bool false, .slice (some ⟨b', 0, none⟩) 1 c']] w fun e w' => ∃ v u, e = .returned (.tuple #[v, u, .int .i64 0]) ∧ One w' w.heap.size v true 4 ∧ One w' w.heap.size u false 1 ∧ Below w.heap.size w w' := by
  have hB0 : Below w.heap.size w ((((w.alloc (.cells #[.bool true, .slice (some ⟨b, 0, none⟩) 1 c] 24)).alloc (.cells #[.bool false, .slice (some ⟨b', 0, none⟩) 1 c'] 24)).alloc (.cells #[.bool false, .slice none 0 0] 24)).alloc (.cells #[.bool false, .slice none 0 0] 24)) := by go_grown
  have hF : Fr38 w.heap.size b c b' c' ((((w.alloc (.cells #[.bool true, .slice (some ⟨b, 0, none⟩) 1 c] 24)).alloc (.cells #[.bool false, .slice (some ⟨b', 0, none⟩) 1 c'] 24)).alloc (.cells #[.bool false, .slice none 0 0] 24)).alloc (.cells #[.bool false, .slice none 0 0] 24)) := by
    constructor <;> first | omega | exact hb | exact hb' | exact cellB hB0 hb h1 | exact cellB hB0 hb' h2 | (simp [go_sem]; done) | (simp [go_sem]; omega)
  have HB := Lib.hid hB0
  have HF := Lib.hid hF
  clear hB0 hF
  go_enter Try.func38, Try.ntmps38
  go_wp2_with fail
  generalize (((w.alloc (.cells #[.bool true, .slice (some ⟨b, 0, none⟩) 1 c] 24)).alloc (.cells #[.bool false, .slice (some ⟨b', 0, none⟩) 1 c'] 24)).alloc (.cells #[.bool false, .slice none 0 0] 24)).alloc (.cells #[.bool false, .slice none 0 0] 24) = w1 at *
  generalize hs : w.heap.size = s at *
  have F := HF.out
  have hz := F.z
  refine (trim_one b' c' 2 _ (by decide) hc1 hc1' F.y).mono ?_
  rintro e w2 ⟨rfl, rfl⟩
  obtain ⟨-, -, a0, a1, b0, b1, -, -, -, -, -, -, -, -, -, -, -⟩ := id F
  have HS := Lib.hid hs
  clear F hs
  go_wp2_with fail
  refine (trim_one b c 7 _ (by decide) hc hc' HF.out.x).mono ?_
  rintro e w2 ⟨rfl, rfl⟩
  go_wp2_with fail
  refine (dws b c b' c' w1 (by omega) (by omega) hc hc' hc1 hc1' HF.out.x HF.out.y).mono ?_
  rintro e w2 ⟨v, u, rfl, ⟨g, cc, rfl, q1, q2, q3, q4, q5⟩, ⟨k, kc, rfl, r1, r2, r3, r4, r5⟩, hbel⟩
  clear a0 a1 b0 b1
  have F := HF.out.below hbel
  have HF2 := Lib.hid F
  obtain ⟨-, -, a0, a1, b0, b1, -, -, -, -, -, -, -, -, -, -, z2⟩ := F
  go_wp2_with fail
  have hA1 := (Below.refl w2.heap.size w2).alloc (Nat.le_refl _) (.cells #[.int .u32 1] 113)
  refine (addw g cc w2.heap.size 1 _ (by simp; omega) (by simp) q3 q4 (by omega) (by omega) (cellB hA1 q2 q5) (by simp [go_sem])).mono ?_
  rintro e w3 ⟨v, rfl, ⟨g2, cc2, rfl, s1, s2, s3, s4, s5⟩, hbel2⟩
  have s1 : w2.heap.size ≤ g2 := by have := s1; simp at this; omega
  have hA2 : Below w2.heap.size w2 w3 := hA1.trans (hbel2.mono (by simp))
  have F3 := HF2.out.below hA2
  have hr5 := cellB hA2 r2 r5
  have hsz := hA2.size
  clear a0 a1 b0 b1 q5 r5 hA1
  obtain ⟨-, -, a0, a1, b0, b1, -, -, -, -, -, -, -, -, -, -, z3⟩ := id F3
  go_wp2_with fail
  refine (subw b' c' k kc w3 (by omega) (by omega) hc1 hc1' r3 r4 F3.y hr5).mono ?_
  rintro e w4 ⟨v, rfl, ⟨g3, cc3, rfl, t1, t2, t3, t4, t5⟩, hbel3⟩
  have F4 := F3.below hbel3
  have hs5 := cellB hbel3 s2 s5
  have hsz3 := hbel3.size
  have HA2 := Lib.hid hA2
  have HA1 := Lib.hid hbel
  have HA3 := Lib.hid hbel3
  have HF4 := Lib.hid F4
  clear a0 a1 b0 b1 hr5 s5 hbel hbel2 hbel3 hA2 F3
  obtain ⟨-, -, a0, a1, b0, b1, -, -, -, -, -, -, -, -, -, -, z4⟩ := F4
  go_wp2_with fail
  refine (signed_one true g2 cc2 4 w4 (by omega) (by decide) s3 s4 hs5).mono ?_
  rintro e w5 ⟨rfl, hbel4⟩
  have F5 := HF4.out.below hbel4
  have ht5 := cellB hbel4 t2 t5
  have hs6 := cellB hbel4 (by omega) hs5
  have hsz4 := hbel4.size
  have HA4 := Lib.hid hbel4
  have HF5 := Lib.hid F5
  clear a0 a1 b0 b1 hs5 t5 hbel4
  obtain ⟨-, -, a0, a1, b0, b1, -, -, -, -, -, -, -, -, -, -, z5⟩ := F5
  go_wp2_with fail
  refine (signed_one false g3 cc3 1 w5 (by omega) (by decide) t3 t4 ht5).mono ?_
  rintro e w6 ⟨rfl, hbel5⟩
  have F6 := HF5.out.below hbel5
  have ht6 := cellB hbel5 (by omega) ht5
  have hs7 := cellB hbel5 (by omega) hs6
  have hsz5 := hbel5.size
  have HA5 := Lib.hid hbel5
  clear a0 a1 b0 b1 hs6 ht5 hbel5
  obtain ⟨-, -, -, -, -, -, c0, c1, d0, d1, e0, e1, f0, f1, -, -, z6⟩ := F6
  go_wp2
  refine bodyPost_ret (v := .tuple #[.agg #[.bool true, .slice (some ⟨g2, 0, none⟩) 1 cc2], .agg #[.bool false, .slice (some ⟨g3, 0, none⟩) 1 cc3], .int .i64 0]) (by simp [results, Try.results38, go_sem, c0, c1, d0, d1]) rfl ?_
  rw [HS.out]
  refine ⟨_, _, rfl, ⟨_, _, rfl, by omega, by simp; omega, s3, s4, by simp [go_sem, hs7]⟩, ⟨_, _, rfl, by omega, by simp; omega, t3, t4, by simp [go_sem, ht6]⟩, ?_⟩
  have hs0 := HB.out
  have hA : Below s w w6 := ((((hs0.trans (HA1.out.mono (by omega))).trans (HA2.out.mono (by omega))).trans (HA3.out.mono (by omega))).trans (HA4.out.mono (by omega))).trans (HA5.out.mono (by omega))
  repeat (first | exact hA | refine Below.setCell ?_ (by simp <;> omega) _)
end Go.Proofs.Ytcbdnnboddahkaa
