/-
  WALKS at the one example of 'awake': the reference's integers of one word.
-/
import Derived.Test.YtcbdnnboddahkaaAw0
import Derived.Outline
namespace Go.Proofs.Ytcbdnnboddahkaa
open Go.RowKit
theorem Try.info3 : (Try.prog.info? 3).map (fun i => (i.zero, i.size, i.bytes)) = some (some (.int .i64 0), 1, 8) := by kernel_rfl
theorem Try.info113 : (Try.prog.info? 113).map (fun i => (i.zero, i.size, i.bytes)) = some (some (.int .u32 0), 1, 4) := by kernel_rfl
set_option maxRecDepth 100000 in
set_option maxHeartbeats 400000 in
theorem rtrim_one (b c : Nat) (d : Int) (w : World) (hb : b < w.heap.size) (hd : (d == 0) = false) (hc : 1 ≤ c) (hc' : c ≤ 9223372036854775807) (hcell : w.cell? ⟨b, 0, none⟩ = some (.int .i64 d)) :
    Calls Try.prog 108 #[.slice (some ⟨b, 0, none⟩) 1 c] w fun e w' => ∃ v, e = .returned v ∧ w'.ownsRow w.heap.size 3 1 v 1 [.int .i64 d] ∧ Below w.heap.size w w' := by
  obtain ⟨i0, hi, hz0, hz1, hz2⟩ := info_parts Try.info3
  go_enter Try.func108, Try.ntmps108
  go_wp2
  refine wp_loop_rounds 1 ?_
  rw [rounds_succ]
  go_wp2_with (at_builtin; (refine wpList_append_own _ rfl _ _ 74 rfl w.heap.size 3 i0 (.int .i64 0) 1 8 Try.underlying74 hi hz0 hz1 hz2 rfl (by decide) _ _ _ rfl (World.ownsRow_made w #[] 0 (Nat.le_refl _) (Nat.zero_le _) rfl) ⟨b, 0, none⟩ 1 c [.int .i64 d] rfl rfl ?c1 ?c2 ?c3 ?c4 ?c5 ?_))
  case c1 => intro j u hj; match j with | 0 => (simp at hj; subst hj; simp [go_sem, hb, hcell]) | j + 1 => simp at hj
  case c2 => intro u hu; simp at hu; subst hu; rfl
  case c3 => unfold maxLen; omega
  case c4 => omega
  case c5 => simp
  intro v' w1 hown hgrow _
  go_wp2
  go_ret
  exact ⟨_, rfl, hown, ((Below.refl _ _).alloc (Nat.le_refl _) _).grown hgrow (by simp) (by simp [Value.ownBlock])⟩
theorem one_new (w : World) (u : Value) (T : TypeId) (n : Nat) (hn : n = w.heap.size) : ∀ (j : Nat) (x : Value), [u][j]? = some x → (w.alloc (.cells #[u] T)).cell? ((⟨n, 0, none⟩ : Addr).add j) = some x := by
  subst hn
  intro j x hj
  match j with
  | 0 => simp at hj; subst hj; simp [go_sem]
  | j + 1 => simp at hj
/-- what an owned row of one number gives -/
theorem own_one {w : World} {B T : Nat} {k : IntKind} {v : Value} {d : Int} (h : w.ownsRow B T 1 v 1 [.int k d]) : ∃ g c, v = .slice (some ⟨g, 0, none⟩) 1 c ∧ B ≤ g ∧ g < w.heap.size ∧ 1 ≤ c ∧ c ≤ 9223372036854775807 ∧ w.cell? ⟨g, 0, none⟩ = some (.int k d) ∧ w.frozen? ⟨g, 0, none⟩ = false := by
  rcases h.2 with ⟨_, h0⟩ | ⟨g, cap, cur, rfl, hb, hg, h1, h2, h3, h4⟩
  · simp at h0
  · refine ⟨g, cap, rfl, hb, (h.lt g rfl).2, h1, h2, ?_, h.frozenAt 0⟩
    rw [h.cellAt 0 (by omega)]; rfl
set_option maxRecDepth 100000 in
set_option maxHeartbeats 400000 in
theorem rmade_false (b c : Nat) (d : Int) (w : World) (hb : b < w.heap.size) (h1 : 1 ≤ d) (h2 : d ≤ 65535) (hc : 1 ≤ c) (hc' : c ≤ 9223372036854775807) (hcell : w.cell? ⟨b, 0, none⟩ = some (.int .i64 d)) :
   Calls Try.prog 91 #[.bool false, .slice (some ⟨b, 0, none⟩) 1 c] w fun e w' => OneOut w false d e w' := by
  obtain ⟨i0, hi, hz0, hz1, hz2⟩ := info_parts Try.info113
  have hd : (d == 0) = false := by simp; omega
  have hm : d % 4294967296 = d := Int.emod_eq_of_lt (by omega) (by omega)
  have key : ∀ w1 : World, Below (w.heap.size + 1) (w.alloc (.cells #[.bool false, .slice none 0 0] 24)) w1 →
     w1.cell? ⟨w.heap.size, 0, none⟩ = some (.bool false) ∧ w1.cell? ⟨w.heap.size, 1, none⟩ = some (.slice none 0 0) ∧ w1.frozen? ⟨w.heap.size, 0, none⟩ = false ∧ w1.frozen? ⟨w.heap.size, 1, none⟩ = false ∧ w.heap.size < w1.heap.size := by
   intro w1 h
   refine ⟨?_, ?_, ?_, ?_, ?_⟩
   · rw [h.cell (by simp)]; simp [go_sem]
   · rw [h.cell (by simp)]; simp [go_sem]
   · rw [h.frozen (by simp)]; simp [go_sem]
   · rw [h.frozen (by simp)]; simp [go_sem]
   · have := h.size; simp at this; omega
  go_enter Try.func91, Try.ntmps91
  go_wp2_with (go_at_call 108; refine (rtrim_one b c d _ (by simp; omega) hd hc hc' (by simp [go_sem, hb, hcell])).mono ?_; rintro e w1 ⟨v, rfl, hown, hbel⟩; obtain ⟨g, cc, rfl, g1, g2, g3, g4, g5, g6⟩ := own_one hown; simp only [World.size_alloc] at hbel g1; obtain ⟨k1, k2, k3, k4, k5⟩ := key w1 hbel; clear hown)
  refine wp_loop_rounds 2 ?_
  rw [rounds_succ]
  go_wp2_with (at_builtin; refine wpList_append_own _ rfl _ _ 22 rfl (w1.heap.size + 2) 113 i0 (.int .u32 0) 1 4 Try.underlying22 hi hz0 hz1 hz2 rfl (by decide) _ _ _ rfl (World.ownsRow_nil _ _ _ _) ⟨w1.heap.size + 1, 0, none⟩ 1 1 [.int .u32 d] rfl rfl (one_new _ _ _ _ (by simp)) (by intro u hu; simp at hu; subst hu; rfl) (by unfold maxLen; omega) (by omega) (by simp) ?_)
  intro v' w2 hown2 hgrow2 _
  obtain ⟨g', cc', rfl, q1, q2, q3, q4, q5, q6⟩ := own_one hown2
  have hb2 : Below (w1.heap.size + 2) _ w2 := (Below.refl _ _).grown hgrow2 (by simp) (by simp [Value.ownBlock])
  have n1 : w2.heap.size ≥ w1.heap.size + 2 := by have := hb2.size; simp at this; omega
  have n2 := hb2.cell (p := ⟨w1.heap.size, 0, none⟩) (by simp)
  have n3 := hb2.cell (p := ⟨w1.heap.size, 1, none⟩) (by simp)
  have n4 := hb2.frozen (p := ⟨w1.heap.size, 0, none⟩) (by simp)
  have n5 := hb2.frozen (p := ⟨w1.heap.size, 1, none⟩) (by simp)
  have n6 := hb2.cell (p := ⟨w.heap.size, 0, none⟩) (by simp; omega)
  have n7 := hb2.cell (p := ⟨w.heap.size, 1, none⟩) (by simp; omega)
  have n8 := hb2.frozen (p := ⟨w.heap.size, 0, none⟩) (by simp; omega)
  have n9 := hb2.frozen (p := ⟨w.heap.size, 1, none⟩) (by simp; omega)
  have o1 : w.heap.size < w1.heap.size + 1 := by omega
  simp [go_sem, k1, k2, k3, k4, k5, o1] at n2 n3 n4 n5 n6 n7 n8 n9
  have HB := Lib.hid hbel
  have HB2 := Lib.hid hb2
  clear hgrow2 hown2 hbel hb2 k1 k2 k3 k4
  go_wp2
  rw [rounds_succ]
  go_wp2
  refine bodyPost_ret (v := .agg #[.bool false, .slice (some ⟨g', 0, none⟩) 1 cc']) (by simp [results, Try.results91, go_sem, n6, n7]) rfl ?_
  refine ⟨_, rfl, ⟨_, _, rfl, by omega, by simp; omega, q3, q4, by simp [go_sem, q5]⟩, ?_⟩
  have hbel := HB.out
  have hb2 := HB2.out
  have hA : Below w.heap.size w w1 := ((Below.refl _ _).alloc (Nat.le_refl _) _).trans (hbel.mono (by omega))
  have hB : Below w.heap.size w w2 := ((hA.alloc (by omega) _).alloc (by simp; omega) _).trans (hb2.mono (by omega))
  repeat (first | exact hB | refine Below.setCell ?_ (by simp <;> omega) _)
set_option maxRecDepth 100000 in
set_option maxHeartbeats 400000 in
theorem rmade_true (b c : Nat) (d : Int) (w : World) (hb : b < w.heap.size) (h1 : 1 ≤ d) (h2 : d ≤ 65535) (hc : 1 ≤ c) (hc' : c ≤ 9223372036854775807) (hcell : w.cell? ⟨b, 0, none⟩ = some (.int .i64 d)) :
   Calls Try.prog 91 #[.bool true, .slice (some ⟨b, 0, none⟩) 1 c] w fun e w' => OneOut w true d e w' := by
  obtain ⟨i0, hi, hz0, hz1, hz2⟩ := info_parts Try.info113
  have hd : (d == 0) = false := by simp; omega
  have hm : d % 4294967296 = d := Int.emod_eq_of_lt (by omega) (by omega)
  have key : ∀ w1 : World, Below (w.heap.size + 1) (w.alloc (.cells #[.bool false, .slice none 0 0] 24)) w1 →
     w1.cell? ⟨w.heap.size, 0, none⟩ = some (.bool false) ∧ w1.cell? ⟨w.heap.size, 1, none⟩ = some (.slice none 0 0) ∧ w1.frozen? ⟨w.heap.size, 0, none⟩ = false ∧ w1.frozen? ⟨w.heap.size, 1, none⟩ = false ∧ w.heap.size < w1.heap.size := by
   intro w1 h
   refine ⟨?_, ?_, ?_, ?_, ?_⟩
   · rw [h.cell (by simp)]; simp [go_sem]
   · rw [h.cell (by simp)]; simp [go_sem]
   · rw [h.frozen (by simp)]; simp [go_sem]
   · rw [h.frozen (by simp)]; simp [go_sem]
   · have := h.size; simp at this; omega
  go_enter Try.func91, Try.ntmps91
  go_wp2_with (go_at_call 108; refine (rtrim_one b c d _ (by simp; omega) hd hc hc' (by simp [go_sem, hb, hcell])).mono ?_; rintro e w1 ⟨v, rfl, hown, hbel⟩; obtain ⟨g, cc, rfl, g1, g2, g3, g4, g5, g6⟩ := own_one hown; simp only [World.size_alloc] at hbel g1; obtain ⟨k1, k2, k3, k4, k5⟩ := key w1 hbel; clear hown)
  refine wp_loop_rounds 2 ?_
  rw [rounds_succ]
  go_wp2_with (at_builtin; refine wpList_append_own _ rfl _ _ 22 rfl (w1.heap.size + 2) 113 i0 (.int .u32 0) 1 4 Try.underlying22 hi hz0 hz1 hz2 rfl (by decide) _ _ _ rfl (World.ownsRow_nil _ _ _ _) ⟨w1.heap.size + 1, 0, none⟩ 1 1 [.int .u32 d] rfl rfl (one_new _ _ _ _ (by simp)) (by intro u hu; simp at hu; subst hu; rfl) (by unfold maxLen; omega) (by omega) (by simp) ?_)
  intro v' w2 hown2 hgrow2 _
  obtain ⟨g', cc', rfl, q1, q2, q3, q4, q5, q6⟩ := own_one hown2
  have hb2 : Below (w1.heap.size + 2) _ w2 := (Below.refl _ _).grown hgrow2 (by simp) (by simp [Value.ownBlock])
  have n1 : w2.heap.size ≥ w1.heap.size + 2 := by have := hb2.size; simp at this; omega
  have n2 := hb2.cell (p := ⟨w1.heap.size, 0, none⟩) (by simp)
  have n3 := hb2.cell (p := ⟨w1.heap.size, 1, none⟩) (by simp)
  have n4 := hb2.frozen (p := ⟨w1.heap.size, 0, none⟩) (by simp)
  have n5 := hb2.frozen (p := ⟨w1.heap.size, 1, none⟩) (by simp)
  have n6 := hb2.cell (p := ⟨w.heap.size, 0, none⟩) (by simp; omega)
  have n7 := hb2.cell (p := ⟨w.heap.size, 1, none⟩) (by simp; omega)
  have n8 := hb2.frozen (p := ⟨w.heap.size, 0, none⟩) (by simp; omega)
  have n9 := hb2.frozen (p := ⟨w.heap.size, 1, none⟩) (by simp; omega)
  have o1 : w.heap.size < w1.heap.size + 1 := by omega
  simp [go_sem, k1, k2, k3, k4, k5, o1] at n2 n3 n4 n5 n6 n7 n8 n9
  have HB := Lib.hid hbel
  have HB2 := Lib.hid hb2
  clear hgrow2 hown2 hbel hb2 k1 k2 k3 k4
  go_wp2
  rw [rounds_succ]
  go_wp2
  refine bodyPost_ret (v := .agg #[.bool true, .slice (some ⟨g', 0, none⟩) 1 cc']) (by simp [results, Try.results91, go_sem, n6, n7]) rfl ?_
  refine ⟨_, rfl, ⟨_, _, rfl, by omega, by simp; omega, q3, q4, by simp [go_sem, q5]⟩, ?_⟩
  have hbel := HB.out
  have hb2 := HB2.out
  have hA : Below w.heap.size w w1 := ((Below.refl _ _).alloc (Nat.le_refl _) _).trans (hbel.mono (by omega))
  have hB : Below w.heap.size w w2 := ((hA.alloc (by omega) _).alloc (by simp; omega) _).trans (hb2.mono (by omega))
  repeat (first | exact hB | refine Below.setCell ?_ (by simp <;> omega) _)
set_option maxRecDepth 100000 in
set_option maxHeartbeats 400000 in
theorem rof_m4 (w : World) :
    Calls Try.prog 25 #[.int .i64 (-4)] w fun e w' => OneOut w true 4 e w' := by
  obtain ⟨i0, hi, hz0, hz1, hz2⟩ := info_parts Try.info3
  go_enter Try.func25, Try.ntmps25
  go_wp2
  refine wp_loop_rounds 2 ?_
  rw [rounds_succ]
  go_wp2_with (at_builtin; refine wpList_append_own _ rfl _ _ 74 rfl (w.heap.size + 2) 3 i0 (.int .i64 0) 1 8 Try.underlying74 hi hz0 hz1 hz2 rfl (by decide) _ _ _ rfl (World.ownsRow_nil _ _ _ _) ⟨w.heap.size + 1, 0, none⟩ 1 1 [.int .i64 4] rfl rfl (one_new _ _ _ _ (by simp)) (by intro u hu; simp at hu; subst hu; rfl) (by unfold maxLen; omega) (by omega) (by simp) ?_)
  intro v' w2 hown2 hgrow2 _
  obtain ⟨g', cc', rfl, q1, q2, q3, q4, q5, q6⟩ := own_one hown2
  have hb2 : Below (w.heap.size + 2) _ w2 := (Below.refl _ _).grown hgrow2 (by simp) (by simp [Value.ownBlock])
  have n1 : w2.heap.size ≥ w.heap.size + 2 := by have := hb2.size; simp at this; omega
  have n6 := hb2.cell (p := ⟨w.heap.size, 0, none⟩) (by simp)
  have n7 := hb2.cell (p := ⟨w.heap.size, 1, none⟩) (by simp)
  have n8 := hb2.frozen (p := ⟨w.heap.size, 0, none⟩) (by simp)
  have n9 := hb2.frozen (p := ⟨w.heap.size, 1, none⟩) (by simp)
  simp [go_sem] at n6 n7 n8 n9
  have HB2 := Lib.hid hb2
  clear hgrow2 hown2 hb2
  go_wp2
  rw [rounds_succ]
  go_wp2_with (go_at_call 91; refine (rmade_true g' cc' 4 _ q2 (by omega) (by omega) q3 q4 q5).mono ?_; rintro e w3 ⟨v, rfl, ⟨b, c, rfl, hb, hb', hc, hc', hcell⟩, hbel⟩; have r1 := hbel.cell (p := ⟨w.heap.size, 0, none⟩) (by simp; omega); have r2 := hbel.cell (p := ⟨w.heap.size, 1, none⟩) (by simp; omega); have r3 := hbel.frozen (p := ⟨w.heap.size, 0, none⟩) (by simp; omega); have r4 := hbel.frozen (p := ⟨w.heap.size, 1, none⟩) (by simp; omega); simp [n6, n7, n8, n9] at r1 r2 r3 r4; have HB3 := Lib.hid hbel; clear hbel n6 n7 n8 n9)
  refine bodyPost_ret (v := .agg #[.bool true, .slice (some ⟨b, 0, none⟩) 1 c]) (by simp [results, Try.results25, go_sem, r1, r2]) rfl ?_
  refine ⟨_, rfl, ⟨_, _, rfl, by omega, by simp; omega, hc, hc', by simp [go_sem, hcell]⟩, ?_⟩
  have hB : Below w.heap.size w w2 := ((((Below.refl _ _).alloc (Nat.le_refl _) _).alloc (by simp) _).trans (HB2.out.mono (by omega)))
  have hC : Below w.heap.size w w3 := hB.trans (HB3.out.mono (by omega))
  repeat (first | exact hC | refine Below.setCell ?_ (by simp <;> omega) _)
set_option maxRecDepth 100000 in
set_option maxHeartbeats 400000 in
theorem rof_1 (w : World) :
    Calls Try.prog 25 #[.int .i64 1] w fun e w' => OneOut w false 1 e w' := by
  obtain ⟨i0, hi, hz0, hz1, hz2⟩ := info_parts Try.info3
  go_enter Try.func25, Try.ntmps25
  go_wp2
  refine wp_loop_rounds 2 ?_
  rw [rounds_succ]
  go_wp2_with (at_builtin; refine wpList_append_own _ rfl _ _ 74 rfl (w.heap.size + 2) 3 i0 (.int .i64 0) 1 8 Try.underlying74 hi hz0 hz1 hz2 rfl (by decide) _ _ _ rfl (World.ownsRow_nil _ _ _ _) ⟨w.heap.size + 1, 0, none⟩ 1 1 [.int .i64 1] rfl rfl (one_new _ _ _ _ (by simp)) (by intro u hu; simp at hu; subst hu; rfl) (by unfold maxLen; omega) (by omega) (by simp) ?_)
  intro v' w2 hown2 hgrow2 _
  obtain ⟨g', cc', rfl, q1, q2, q3, q4, q5, q6⟩ := own_one hown2
  have hb2 : Below (w.heap.size + 2) _ w2 := (Below.refl _ _).grown hgrow2 (by simp) (by simp [Value.ownBlock])
  have n1 : w2.heap.size ≥ w.heap.size + 2 := by have := hb2.size; simp at this; omega
  have n6 := hb2.cell (p := ⟨w.heap.size, 0, none⟩) (by simp)
  have n7 := hb2.cell (p := ⟨w.heap.size, 1, none⟩) (by simp)
  have n8 := hb2.frozen (p := ⟨w.heap.size, 0, none⟩) (by simp)
  have n9 := hb2.frozen (p := ⟨w.heap.size, 1, none⟩) (by simp)
  simp [go_sem] at n6 n7 n8 n9
  have HB2 := Lib.hid hb2
  clear hgrow2 hown2 hb2
  go_wp2
  rw [rounds_succ]
  go_wp2_with (go_at_call 91; refine (rmade_false g' cc' 1 _ q2 (by omega) (by omega) q3 q4 q5).mono ?_; rintro e w3 ⟨v, rfl, ⟨b, c, rfl, hb, hb', hc, hc', hcell⟩, hbel⟩; have r1 := hbel.cell (p := ⟨w.heap.size, 0, none⟩) (by simp; omega); have r2 := hbel.cell (p := ⟨w.heap.size, 1, none⟩) (by simp; omega); have r3 := hbel.frozen (p := ⟨w.heap.size, 0, none⟩) (by simp; omega); have r4 := hbel.frozen (p := ⟨w.heap.size, 1, none⟩) (by simp; omega); simp [n6, n7, n8, n9] at r1 r2 r3 r4; have HB3 := Lib.hid hbel; clear hbel n6 n7 n8 n9)
  refine bodyPost_ret (v := .agg #[.bool false, .slice (some ⟨b, 0, none⟩) 1 c]) (by simp [results, Try.results25, go_sem, r1, r2]) rfl ?_
  refine ⟨_, rfl, ⟨_, _, rfl, by omega, by simp; omega, hc, hc', by simp [go_sem, hcell]⟩, ?_⟩
  have hB : Below w.heap.size w w2 := ((((Below.refl _ _).alloc (Nat.le_refl _) _).alloc (by simp) _).trans (HB2.out.mono (by omega)))
  have hC : Below w.heap.size w w3 := hB.trans (HB3.out.mono (by omega))
  repeat (first | exact hC | refine Below.setCell ?_ (by simp <;> omega) _)
end Go.Proofs.Ytcbdnnboddahkaa
