/-
  WALKS of the reference: an integer of words as a machine integer.
-/
import Derived.Test.YtcbdnnboddahkaaTwo
import Derived.Test.YtcbdnnboddahkaaRof
import Derived.Test.YtcbdnnboddahkaaSmall
namespace Go.Proofs.Ytcbdnnboddahkaa.Ws
open Go.RowKit
set_option linter.unusedVariables false
set_option maxRecDepth 100000
theorem rCmp_v (nx ny : Bool) (X Y : Option Addr) (c d : Nat) (xs ys : List Nat) (w : World) (v : Int) (hx : IntIn w nx X c xs) (hy : IntIn w ny Y d ys) (hlx : xs.length ≤ 400000) (hly : ys.length ≤ 400000) (hv : cmpI (iv nx xs) (iv ny ys) = v) :
    Calls Try.prog 29 #[.agg #[.bool nx, .slice X xs.length c], .agg #[.bool ny, .slice Y ys.length d]] w fun e w' => e = .returned (.int .i64 v) ∧ Below w.heap.size w w' := by
  subst hv; exact rCmp_any nx ny X Y c d xs ys w hx hy hlx hly
/-- digits put together from above -/
def Hor (N : Nat) (k v : Nat) : Prop := k ≤ (D N).length ∧ v = val 65536 ((D N).drop k)
theorem Hor.start (N : Nat) : Hor N (D N).length 0 := ⟨Nat.le_refl _, by rw [List.drop_of_length_le (Nat.le_refl _)]; rfl⟩
theorem Hor.step {N i v x : Nat} (h : Hor N (i + 1) v) (hx : (D N).getD i 0 = x) : Hor N i (x + 65536 * v) ∧ x + 65536 * v ≤ N := by
  obtain ⟨h1, h2⟩ := h
  have e := val_drop 65536 (D N) i (by omega)
  rw [hx, ← h2] at e
  refine ⟨⟨by omega, e.symm⟩, ?_⟩
  rw [← e]
  have e2 := val_split 65536 (D N) i (by omega)
  rw [val_D] at e2
  have := Nat.le_mul_of_pos_left (val 65536 ((D N).drop i)) (show 0 < 65536 ^ i from Nat.pow_pos (by decide))
  omega
theorem Hor.done {N v : Nat} (h : Hor N 0 v) : v = N := by
  have := h.2; rw [List.drop_zero, val_D] at this; exact this
theorem cmpI_lo {z a : Int} (h : ¬ z < a) : ∃ v, cmpI z a = v ∧ decide (v < 0) = false := by
  unfold cmpI; rw [if_neg h]; split
  · exact ⟨1, rfl, by decide⟩
  · exact ⟨0, rfl, by decide⟩
theorem cmpI_hi {z a : Int} (h : ¬ a < z) : ∃ v, cmpI z a = v ∧ decide (0 < v) = false := by
  unfold cmpI; rw [if_neg h]; split
  · exact ⟨-1, rfl, by decide⟩
  · exact ⟨0, rfl, by decide⟩
set_option maxHeartbeats 4000000 in
theorem rSmall_any (neg : Bool) (A : Option Addr) (c : Nat) (xs : List Nat) (w : World) (h : IntIn w neg A c xs) (hlx : xs.length ≤ 400000) :
    Calls Try.prog 22 #[.agg #[.bool neg, .slice A xs.length c]] w fun e w' => SmEnd (iv neg xs) w e w' := by
  have hcl : Cl (w.alloc (.cells #[.bool neg, .slice A xs.length c] 24)) w.heap.size neg A xs.length c :=
    ⟨by simp [go_sem], by simp [go_sem], by simp [go_sem], by simp [go_sem]⟩
  have hB : Below w.heap.size w (w.alloc (.cells #[.bool neg, .slice A xs.length c] 24)) := (Below.refl _ _).alloc (Nat.le_refl _) _
  have HC := Lib.hid hcl
  have HX := Lib.hid (h.below hB)
  have HB := Lib.hid hB
  have HIV := Lib.hid (iv_eq neg xs)
  clear h hcl hB
  have hwl : (W (9223372036854775808 : Nat)).length ≤ 2 := W_len_lt (by decide)
  have hwl2 : (W (9223372036854775807 : Nat)).length ≤ 2 := W_len_lt (by decide)
  by_cases h1 : iv neg xs < -9223372036854775808
  · have hv : cmpI (iv neg xs) (-9223372036854775808) = -1 := by unfold cmpI; rw [if_pos h1]
    have HV := Lib.hid hv
    have H1 := Lib.hid h1
    clear hv h1
    go_enter Try.func22, Try.ntmps22
    go_wp2_with fail
    refine (rOf_any (-9223372036854775808) _ (by omega) (by omega)).mono ?_
    rintro e w1 ⟨v1, rfl, hi1, hb1⟩
    obtain ⟨n1, A1, c1, ys, rfl, hin1, hiv1, hys⟩ := hi1.in_ (by exact Nat.le_trans hwl (by decide))
    have HYL : Hid (ys.length ≤ 400000) := Lib.hid (by rw [hys]; exact Nat.le_trans hwl (by decide))
    have HIV1 := Lib.hid hiv1
    have HIN1 := Lib.hid hin1
    have HB10 := Lib.hid hb1
    have HS1 := Lib.hid hb1.size
    have HB1 := Lib.hid (HB.out.trans (hb1.mono HB.out.size))
    have HC1 := Lib.hid (HC.out.below hb1 (by simp))
    clear hi1 hin1 hiv1 hys hb1
    go_wp2_with fail
    have hcy : Cl (w1.alloc (.cells #[.bool n1, .slice A1 ys.length c1] 24)) w1.heap.size n1 A1 ys.length c1 :=
      ⟨by simp [go_sem], by simp [go_sem], by simp [go_sem], by simp [go_sem]⟩
    have hcx := HC1.out.alloc (.cells #[.bool n1, .slice A1 ys.length c1] 24)
    have hz0 : (w1.alloc (.cells #[.bool n1, .slice A1 ys.length c1] 24)).heap.size = w1.heap.size + 1 := by simp
    have hbw := (Below.refl w1.heap.size w1).alloc (Nat.le_refl _) (.cells #[.bool n1, .slice A1 ys.length c1] 24)
    have hsz1 : w.heap.size < w1.heap.size := by have := HS1.out; simp at this; omega
    have HY := Lib.hid (HIN1.out.below hbw)
    have HX1 := Lib.hid ((HX.out.below HB10.out).below hbw)
    have HB2 := Lib.hid (HB1.out.trans (hbw.mono HB1.out.size))
    have hk0 := K2.mk' hcx hcy (by rw [hz0]; omega) (by rw [hz0]; omega)
    generalize w1.alloc (.cells #[.bool n1, .slice A1 ys.length c1] 24) = W0 at *
    clear hcx hcy hbw HX HIN1 HB1
    refine wp_region_held_drew (S := fun w' => (w'.cell? ⟨w.heap.size, 0, none⟩ = some (.bool neg) ∧ w'.cell? ⟨w.heap.size, 1, none⟩ = some (.slice A xs.length c) ∧ w'.cell? ⟨w1.heap.size, 0, none⟩ = some (.bool n1) ∧ w'.cell? ⟨w1.heap.size, 1, none⟩ = some (.slice A1 ys.length c1)) ∧ K2 W0 w.heap.size neg A xs.length c w1.heap.size n1 A1 ys.length c1 w') (by kernel_rfl) (K2.ks (K2.draws 1 hk0)) (fun hHeld => ?_)
    refine wpAnyH_take (i := 0) (v := ?va0) rfl (by kernel_rfl) (by kernel_rfl) (by kernel_rfl) (fun _ _ _ h => h) (Or.inl ⟨by rfl, ?ya0⟩) hHeld ?ra0
    case ya0 => intro w9 hSw; (try dsimp only at hSw); go_simp; first | done | with_reducible rfl
    try simp only [Act.put]
    refine wpAnyH_take (i := 1) (v := ?va1) rfl (by kernel_rfl) (by kernel_rfl) (by kernel_rfl) (fun _ _ _ h => h) (Or.inl ⟨by rfl, ?ya1⟩) hHeld ?ra1
    case ya1 => intro w9 hSw; (try dsimp only at hSw); go_simp; first | done | with_reducible rfl
    try simp only [Act.put]
    refine wpAnyH_ready (rs := [2]) (by kernel_rfl) (by simp) ?_
    refine AllReadyH.cons rfl (fun K hK => ?_) AllReadyH.nil
    go_simp
    refine (rCmp_v neg n1 A A1 c c1 xs ys _ (-1) (HX1.out.below (K2.bel hHeld.2)) (HY.out.below (K2.bel hHeld.2)) hlx HYL.out (by rw [HIV1.out]; exact HV.out)).mono ?_
    rintro e w9 ⟨rfl, hbel⟩
    have hk' := K2.below hbel hHeld.2
    clear hbel
    try go_wp2_with fail
    refine hK.out _ _ (K2.ks hk') (fun hHeld => ?_)
    clear hK K
    try simp only [Act.put]
    refine wpAnyH_take (i := 3) (v := ?va3) rfl (by kernel_rfl) (by kernel_rfl) (by kernel_rfl) (fun _ _ _ h => h) (Or.inl ⟨by rfl, ?ya3⟩) hHeld ?ra3
    case ya3 => intro w9 hSw; (try dsimp only at hSw); go_simp; first | done | with_reducible rfl
    try simp only [Act.put]
    refine wpAnyH_take (i := 4) (v := ?va4) rfl (by kernel_rfl) (by kernel_rfl) (by kernel_rfl) (fun _ _ _ h => h) (Or.inl ⟨by rfl, ?ya4⟩) hHeld ?ra4
    case ya4 => intro w9 hSw; (try dsimp only at hSw); go_simp; first | done | with_reducible rfl
    try simp only [Act.put]
    refine wpAnyH_take (i := 5) rfl (by kernel_rfl) (by kernel_rfl) (by kernel_rfl) (fun _ _ _ h => h) (Or.inr ⟨by rfl, rfl⟩) hHeld ?_
    try simp only [Act.put]
    refine wpAnyH_take (i := 6) rfl (by kernel_rfl) (by kernel_rfl) (by kernel_rfl) (fun _ _ _ h => h) (Or.inr ⟨by rfl, rfl⟩) hHeld ?_
    try simp only [Act.put]
    refine wpAnyH_take (i := 7) rfl (by kernel_rfl) (by kernel_rfl) (by kernel_rfl) (fun _ _ _ h => h) (Or.inr ⟨by rfl, rfl⟩) hHeld ?_
    try simp only [Act.put]
    refine wpAnyH_take (i := 8) rfl (by kernel_rfl) (by kernel_rfl) (by kernel_rfl) (fun _ _ _ h => h) (Or.inr ⟨by rfl, rfl⟩) hHeld ?_
    try simp only [Act.put]
    refine wpAnyH_take (i := 9) (v := ?va9) rfl (by kernel_rfl) (by kernel_rfl) (by kernel_rfl) (fun _ _ _ h => h) (Or.inl ⟨by rfl, ?ya9⟩) hHeld ?ra9
    case ya9 => intro w9 hSw; (try dsimp only at hSw); go_simp; first | done | with_reducible rfl
    try simp only [Act.put]
    refine wpAnyH_done (by kernel_rfl) ?_ _
    go_wp2
    go_ret2
    refine ⟨?_, HB2.out.trans (hk'.bel.mono HB2.out.size)⟩
    have h1 := H1.out
    unfold smV smB
    rw [if_neg (by omega), decide_eq_false (by omega)]
    rfl
  · obtain ⟨va, hva, hda⟩ := cmpI_lo h1
    have HVA := Lib.hid hva
    by_cases h2 : 9223372036854775807 < iv neg xs
    · have hv : cmpI (iv neg xs) 9223372036854775807 = 1 := by unfold cmpI; rw [if_neg (by omega), if_pos h2]
      have HV := Lib.hid hv
      have H2 := Lib.hid h2
      clear hv h1 h2 hva
      go_enter Try.func22, Try.ntmps22
      go_wp2_with fail
      refine (rOf_any (-9223372036854775808) _ (by omega) (by omega)).mono ?_
      rintro e w1 ⟨v1, rfl, hi1, hb1⟩
      obtain ⟨n1, A1, c1, ys, rfl, hin1, hiv1, hys⟩ := hi1.in_ (by exact Nat.le_trans hwl (by decide))
      have HYL : Hid (ys.length ≤ 400000) := Lib.hid (by rw [hys]; exact Nat.le_trans hwl (by decide))
      have HIV1 := Lib.hid hiv1
      have HIN1 := Lib.hid hin1
      have HB10 := Lib.hid hb1
      have HS1 := Lib.hid hb1.size
      have HB1 := Lib.hid (HB.out.trans (hb1.mono HB.out.size))
      have HC1 := Lib.hid (HC.out.below hb1 (by simp))
      clear hi1 hin1 hiv1 hys hb1
      go_wp2_with fail
      have hcy : Cl (w1.alloc (.cells #[.bool n1, .slice A1 ys.length c1] 24)) w1.heap.size n1 A1 ys.length c1 :=
        ⟨by simp [go_sem], by simp [go_sem], by simp [go_sem], by simp [go_sem]⟩
      have hcx := HC1.out.alloc (.cells #[.bool n1, .slice A1 ys.length c1] 24)
      have hz0 : (w1.alloc (.cells #[.bool n1, .slice A1 ys.length c1] 24)).heap.size = w1.heap.size + 1 := by simp
      have hbw := (Below.refl w1.heap.size w1).alloc (Nat.le_refl _) (.cells #[.bool n1, .slice A1 ys.length c1] 24)
      have hsz1 : w.heap.size < w1.heap.size := by have := HS1.out; simp at this; omega
      have HY := Lib.hid (HIN1.out.below hbw)
      have HX1 := Lib.hid ((HX.out.below HB10.out).below hbw)
      have HB2 := Lib.hid (HB1.out.trans (hbw.mono HB1.out.size))
      have hk0 := K2.mk' hcx hcy (by rw [hz0]; omega) (by rw [hz0]; omega)
      generalize w1.alloc (.cells #[.bool n1, .slice A1 ys.length c1] 24) = W0 at *
      clear hcx hcy hbw HX HIN1 HB1
      refine wp_region_held_drew (S := fun w' => (w'.cell? ⟨w.heap.size, 0, none⟩ = some (.bool neg) ∧ w'.cell? ⟨w.heap.size, 1, none⟩ = some (.slice A xs.length c) ∧ w'.cell? ⟨w1.heap.size, 0, none⟩ = some (.bool n1) ∧ w'.cell? ⟨w1.heap.size, 1, none⟩ = some (.slice A1 ys.length c1)) ∧ K2 W0 w.heap.size neg A xs.length c w1.heap.size n1 A1 ys.length c1 w') (by kernel_rfl) (K2.ks (K2.draws 1 hk0)) (fun hHeld => ?_)
      refine wpAnyH_take (i := 0) (v := ?vb0) rfl (by kernel_rfl) (by kernel_rfl) (by kernel_rfl) (fun _ _ _ h => h) (Or.inl ⟨by rfl, ?yb0⟩) hHeld ?rb0
      case yb0 => intro w9 hSw; (try dsimp only at hSw); go_simp; first | done | with_reducible rfl
      try simp only [Act.put]
      refine wpAnyH_take (i := 1) (v := ?vb1) rfl (by kernel_rfl) (by kernel_rfl) (by kernel_rfl) (fun _ _ _ h => h) (Or.inl ⟨by rfl, ?yb1⟩) hHeld ?rb1
      case yb1 => intro w9 hSw; (try dsimp only at hSw); go_simp; first | done | with_reducible rfl
      try simp only [Act.put]
      refine wpAnyH_ready (rs := [2]) (by kernel_rfl) (by simp) ?_
      refine AllReadyH.cons rfl (fun K hK => ?_) AllReadyH.nil
      go_simp
      refine (rCmp_v neg n1 A A1 c c1 xs ys _ (va) (HX1.out.below (K2.bel hHeld.2)) (HY.out.below (K2.bel hHeld.2)) hlx HYL.out (by rw [HIV1.out]; exact HVA.out)).mono ?_
      rintro e w9 ⟨rfl, hbel⟩
      have hk' := K2.below hbel hHeld.2
      clear hbel
      try go_wp2_with fail
      refine hK.out _ _ (K2.ks hk') (fun hHeld => ?_)
      clear hK K
      try simp only [Act.put]
      refine wpAnyH_take (i := 3) (v := ?vb3) rfl (by kernel_rfl) (by kernel_rfl) (by kernel_rfl) (fun _ _ _ h => h) (Or.inl ⟨by rfl, ?yb3⟩) hHeld ?rb3
      case yb3 => intro w9 hSw; (try dsimp only at hSw); go_simp; first | done | with_reducible rfl
      try simp only [Act.put]
      refine wpAnyH_take (i := 4) (v := ?vb4) rfl (by kernel_rfl) (by kernel_rfl) (by kernel_rfl) (fun _ _ _ h => h) (Or.inl ⟨by rfl, ?yb4⟩) hHeld ?rb4
      case yb4 => intro w9 hSw; (try dsimp only at hSw); go_simp; first | done | with_reducible rfl
      try simp only [Act.put]
      refine wpAnyH_take (i := 5) (v := ?vb5) rfl (by kernel_rfl) (by kernel_rfl) (by kernel_rfl) (fun _ _ _ h => h) (Or.inl ⟨by rfl, ?yb5⟩) hHeld ?rb5
      case yb5 => intro w9 hSw; (try dsimp only at hSw); go_simp; first | done | with_reducible rfl
      try simp only [Act.put]
      refine wpAnyH_ready (rs := [6]) (by kernel_rfl) (by simp) ?_
      refine AllReadyH.cons rfl (fun K hK => ?_) AllReadyH.nil
      go_simp
      refine (rOf_any 9223372036854775807 _ (by omega) (by omega)).mono ?_
      rintro e w5 ⟨v5, rfl, hi5, hb5⟩
      obtain ⟨n5, A5, c5, zs, rfl, hin5, hiv5, hzs⟩ := hi5.in_ (by exact Nat.le_trans hwl2 (by decide))
      have HZL : Hid (zs.length ≤ 400000) := Lib.hid (by rw [hzs]; exact Nat.le_trans hwl2 (by decide))
      have HIV5 := Lib.hid hiv5
      have HIN5 := Lib.hid hin5
      have hk' := K2.below hb5 hHeld.2
      clear hi5 hin5 hiv5 hzs hb5
      try go_wp2_with fail
      refine hK.out _ _ (K2.ks hk') (fun hHeld => ?_)
      clear hK K
      try simp only [Act.put]
      refine wpAnyH_ready (rs := [7]) (by kernel_rfl) (by simp) ?_
      refine AllReadyH.cons rfl (fun K hK => ?_) AllReadyH.nil
      go_simp
      refine (rCmp_v neg n5 A A5 c c5 xs zs _ (1) (HX1.out.below (K2.bel hHeld.2)) HIN5.out hlx HZL.out (by rw [HIV5.out]; exact HV.out)).mono ?_
      rintro e w9 ⟨rfl, hbel⟩
      have hk' := K2.below hbel hHeld.2
      clear hbel
      try go_wp2_with fail
      refine hK.out _ _ (K2.ks hk') (fun hHeld => ?_)
      clear hK K
      try simp only [Act.put]
      refine wpAnyH_take (i := 8) (v := ?vb8) rfl (by kernel_rfl) (by kernel_rfl) (by kernel_rfl) (fun _ _ _ h => h) (Or.inl ⟨by rfl, ?yb8⟩) hHeld ?rb8
      case yb8 => intro w9 hSw; (try dsimp only at hSw); go_simp; first | done | with_reducible rfl
      try simp only [Act.put]
      refine wpAnyH_take (i := 9) (v := ?vb9) rfl (by kernel_rfl) (by kernel_rfl) (by kernel_rfl) (fun _ _ _ h => h) (Or.inl ⟨by rfl, ?yb9⟩) hHeld ?rb9
      case yb9 => intro w9 hSw; (try dsimp only at hSw); go_simp; first | done | with_reducible rfl
      try simp only [Act.put]
      refine wpAnyH_done (by kernel_rfl) ?_ _
      go_wp2
      go_ret2
      refine ⟨?_, HB2.out.trans (hk'.bel.mono HB2.out.size)⟩
      have h1 := H2.out
      unfold smV smB
      rw [if_neg (by omega), decide_eq_false (by omega)]
      rfl
    · obtain ⟨vb, hvb, hdb⟩ := cmpI_hi h2
      have HVB := Lib.hid hvb
      have H1 := Lib.hid h1
      have H2 := Lib.hid h2
      clear h1 h2 hva hvb
      go_enter Try.func22, Try.ntmps22
      go_wp2_with fail
      refine (rOf_any (-9223372036854775808) _ (by omega) (by omega)).mono ?_
      rintro e w1 ⟨v1, rfl, hi1, hb1⟩
      obtain ⟨n1, A1, c1, ys, rfl, hin1, hiv1, hys⟩ := hi1.in_ (by exact Nat.le_trans hwl (by decide))
      have HYL : Hid (ys.length ≤ 400000) := Lib.hid (by rw [hys]; exact Nat.le_trans hwl (by decide))
      have HIV1 := Lib.hid hiv1
      have HIN1 := Lib.hid hin1
      have HB10 := Lib.hid hb1
      have HS1 := Lib.hid hb1.size
      have HB1 := Lib.hid (HB.out.trans (hb1.mono HB.out.size))
      have HC1 := Lib.hid (HC.out.below hb1 (by simp))
      clear hi1 hin1 hiv1 hys hb1
      go_wp2_with fail
      have hcy : Cl (w1.alloc (.cells #[.bool n1, .slice A1 ys.length c1] 24)) w1.heap.size n1 A1 ys.length c1 :=
        ⟨by simp [go_sem], by simp [go_sem], by simp [go_sem], by simp [go_sem]⟩
      have hcx := HC1.out.alloc (.cells #[.bool n1, .slice A1 ys.length c1] 24)
      have hz0 : (w1.alloc (.cells #[.bool n1, .slice A1 ys.length c1] 24)).heap.size = w1.heap.size + 1 := by simp
      have hbw := (Below.refl w1.heap.size w1).alloc (Nat.le_refl _) (.cells #[.bool n1, .slice A1 ys.length c1] 24)
      have hsz1 : w.heap.size < w1.heap.size := by have := HS1.out; simp at this; omega
      have HY := Lib.hid (HIN1.out.below hbw)
      have HX1 := Lib.hid ((HX.out.below HB10.out).below hbw)
      have HB2 := Lib.hid (HB1.out.trans (hbw.mono HB1.out.size))
      have hk0 := K2.mk' hcx hcy (by rw [hz0]; omega) (by rw [hz0]; omega)
      generalize w1.alloc (.cells #[.bool n1, .slice A1 ys.length c1] 24) = W0 at *
      clear hcx hcy hbw HX HIN1 HB1
      refine wp_region_held_drew (S := fun w' => (w'.cell? ⟨w.heap.size, 0, none⟩ = some (.bool neg) ∧ w'.cell? ⟨w.heap.size, 1, none⟩ = some (.slice A xs.length c) ∧ w'.cell? ⟨w1.heap.size, 0, none⟩ = some (.bool n1) ∧ w'.cell? ⟨w1.heap.size, 1, none⟩ = some (.slice A1 ys.length c1)) ∧ K2 W0 w.heap.size neg A xs.length c w1.heap.size n1 A1 ys.length c1 w') (by kernel_rfl) (K2.ks (K2.draws 1 hk0)) (fun hHeld => ?_)
      refine wpAnyH_take (i := 0) (v := ?vc0) rfl (by kernel_rfl) (by kernel_rfl) (by kernel_rfl) (fun _ _ _ h => h) (Or.inl ⟨by rfl, ?yc0⟩) hHeld ?rc0
      case yc0 => intro w9 hSw; (try dsimp only at hSw); go_simp; first | done | with_reducible rfl
      try simp only [Act.put]
      refine wpAnyH_take (i := 1) (v := ?vc1) rfl (by kernel_rfl) (by kernel_rfl) (by kernel_rfl) (fun _ _ _ h => h) (Or.inl ⟨by rfl, ?yc1⟩) hHeld ?rc1
      case yc1 => intro w9 hSw; (try dsimp only at hSw); go_simp; first | done | with_reducible rfl
      try simp only [Act.put]
      refine wpAnyH_ready (rs := [2]) (by kernel_rfl) (by simp) ?_
      refine AllReadyH.cons rfl (fun K hK => ?_) AllReadyH.nil
      go_simp
      refine (rCmp_v neg n1 A A1 c c1 xs ys _ (va) (HX1.out.below (K2.bel hHeld.2)) (HY.out.below (K2.bel hHeld.2)) hlx HYL.out (by rw [HIV1.out]; exact HVA.out)).mono ?_
      rintro e w9 ⟨rfl, hbel⟩
      have hk' := K2.below hbel hHeld.2
      clear hbel
      try go_wp2_with fail
      refine hK.out _ _ (K2.ks hk') (fun hHeld => ?_)
      clear hK K
      try simp only [Act.put]
      refine wpAnyH_take (i := 3) (v := ?vc3) rfl (by kernel_rfl) (by kernel_rfl) (by kernel_rfl) (fun _ _ _ h => h) (Or.inl ⟨by rfl, ?yc3⟩) hHeld ?rc3
      case yc3 => intro w9 hSw; (try dsimp only at hSw); go_simp; first | done | with_reducible rfl
      try simp only [Act.put]
      refine wpAnyH_take (i := 4) (v := ?vc4) rfl (by kernel_rfl) (by kernel_rfl) (by kernel_rfl) (fun _ _ _ h => h) (Or.inl ⟨by rfl, ?yc4⟩) hHeld ?rc4
      case yc4 => intro w9 hSw; (try dsimp only at hSw); go_simp; first | done | with_reducible rfl
      try simp only [Act.put]
      refine wpAnyH_take (i := 5) (v := ?vc5) rfl (by kernel_rfl) (by kernel_rfl) (by kernel_rfl) (fun _ _ _ h => h) (Or.inl ⟨by rfl, ?yc5⟩) hHeld ?rc5
      case yc5 => intro w9 hSw; (try dsimp only at hSw); go_simp; first | done | with_reducible rfl
      try simp only [Act.put]
      refine wpAnyH_ready (rs := [6]) (by kernel_rfl) (by simp) ?_
      refine AllReadyH.cons rfl (fun K hK => ?_) AllReadyH.nil
      go_simp
      refine (rOf_any 9223372036854775807 _ (by omega) (by omega)).mono ?_
      rintro e w5 ⟨v5, rfl, hi5, hb5⟩
      obtain ⟨n5, A5, c5, zs, rfl, hin5, hiv5, hzs⟩ := hi5.in_ (by exact Nat.le_trans hwl2 (by decide))
      have HZL : Hid (zs.length ≤ 400000) := Lib.hid (by rw [hzs]; exact Nat.le_trans hwl2 (by decide))
      have HIV5 := Lib.hid hiv5
      have HIN5 := Lib.hid hin5
      have hk' := K2.below hb5 hHeld.2
      clear hi5 hin5 hiv5 hzs hb5
      try go_wp2_with fail
      refine hK.out _ _ (K2.ks hk') (fun hHeld => ?_)
      clear hK K
      try simp only [Act.put]
      refine wpAnyH_ready (rs := [7]) (by kernel_rfl) (by simp) ?_
      refine AllReadyH.cons rfl (fun K hK => ?_) AllReadyH.nil
      go_simp
      refine (rCmp_v neg n5 A A5 c c5 xs zs _ (vb) (HX1.out.below (K2.bel hHeld.2)) HIN5.out hlx HZL.out (by rw [HIV5.out]; exact HVB.out)).mono ?_
      rintro e w9 ⟨rfl, hbel⟩
      have hk' := K2.below hbel hHeld.2
      clear hbel
      try go_wp2_with fail
      refine hK.out _ _ (K2.ks hk') (fun hHeld => ?_)
      clear hK K
      try simp only [Act.put]
      refine wpAnyH_take (i := 8) (v := ?vc8) rfl (by kernel_rfl) (by kernel_rfl) (by kernel_rfl) (fun _ _ _ h => h) (Or.inl ⟨by rfl, ?yc8⟩) hHeld ?rc8
      case yc8 => intro w9 hSw; (try dsimp only at hSw); go_simp; first | done | with_reducible rfl
      try simp only [Act.put]
      refine wpAnyH_take (i := 9) (v := ?vc9) rfl (by kernel_rfl) (by kernel_rfl) (by kernel_rfl) (fun _ _ _ h => h) (Or.inl ⟨by rfl, ?yc9⟩) hHeld ?rc9
      case yc9 => intro w9 hSw; (try dsimp only at hSw); go_simp; first | done | with_reducible rfl
      try simp only [Act.put]
      refine wpAnyH_done (by kernel_rfl) ?_ _
      go_wp2_with fail
      have HXF := Lib.hid (HX1.out.below hk'.bel)
      have HCF := Lib.hid hk'.x
      have HBF := Lib.hid (HB2.out.trans (hk'.bel.mono HB2.out.size))
      have hlgF : w.heap.size < w9.heap.size := Nat.lt_of_lt_of_le hk'.lg hk'.bel.size
      clear hk' hHeld HX1 HY HB2 HIN5 hk0
      refine (rdigits_any neg A c xs _ HXF.out).mono ?_
      rintro e w6 ⟨A6, c6, rfl, hs6, hb6⟩
      have hc6 := HCF.out.below hb6 hlgF
      obtain ⟨q0, q1, -, -⟩ := hc6
      have HS6 := Lib.hid hs6.rd
      have hl6 := hs6.le
      have hm6 := hs6.max
      have HB6 := Lib.hid (HBF.out.trans (hb6.mono HBF.out.size))
      have hN : (iv neg xs).natAbs ≤ 9223372036854775808 ∧ (neg = false → (iv neg xs).natAbs ≤ 9223372036854775807) := by
        have h1 := H1.out
        have h2 := H2.out
        refine ⟨by omega, fun hn => ?_⟩
        have := HIV.out
        rw [hn] at this ⊢
        rw [hn] at h2
        simp at this
        omega
      clear hs6 hb6
      cases neg
      · have hN2 := hN.2 rfl
        go_wp2
        go_loop [6, 7] (fun t6 t7 => ∃ k v : Nat, Hor (iv false xs).natAbs k v ∧ v ≤ 9223372036854775807 ∧ t6 = .int .i64 (v : Int) ∧ t7 = .int .i64 ((k : Int) - 1)) (fun _ t7 => (intOf t7 + 1).toNat)
        case atStart => exact ⟨_, 0, Hor.start _, by omega, rfl, rfl⟩
        case round =>
          obtain ⟨k, v, hh, hv, rfl, rfl⟩ := hrel
          have HH := Lib.hid hh
          have hkl := hh.1
          clear hh
          by_cases h0 : k = 0
          · subst h0
            have hd := HH.out.done
            subst hd
            go_wp2
            go_ret2
            refine ⟨?_, HB6.out⟩
            have h1 := H1.out
            have h2 := H2.out
            have h3 := HIV.out
            simp only [Bool.false_eq_true, if_false] at h3
            unfold smV smB
            rw [if_pos (by omega), decide_eq_true (by omega)]
            first | rfl | (rw [h3]; first | rfl | simp)
          · obtain ⟨i, rfl⟩ : ∃ i, k = i + 1 := ⟨k - 1, by omega⟩
            obtain ⟨p, o, x, rfl, EX, hcell, hpb⟩ := HS6.out.at_ (j := i) (by omega)
            obtain ⟨hs1, hs2⟩ := HH.out.step EX.out
            have HN := Lib.hid hs1
            have hxb : x < 65536 := by rw [← EX.out]; exact getD_lt (D_lt _) (by decide) i
            clear hs1 h0
            go_wp2
            go_round
            case rel => exact ⟨i, _, HN.out, by omega, congrArg (Value.int .i64) (by omega), by go_num⟩
            case measure => simp [intOf]
      · have hN1 := hN.1
        go_wp2
        go_loop [6, 7] (fun t6 t7 => ∃ k v : Nat, Hor (iv true xs).natAbs k v ∧ v ≤ 9223372036854775808 ∧ t6 = .int .i64 (-(v : Int)) ∧ t7 = .int .i64 ((k : Int) - 1)) (fun _ t7 => (intOf t7 + 1).toNat)
        case atStart => exact ⟨_, 0, Hor.start _, by omega, rfl, rfl⟩
        case round =>
          obtain ⟨k, v, hh, hv, rfl, rfl⟩ := hrel
          have HH := Lib.hid hh
          have hkl := hh.1
          clear hh
          by_cases h0 : k = 0
          · subst h0
            have hd := HH.out.done
            subst hd
            go_wp2
            go_ret2
            refine ⟨?_, HB6.out⟩
            have h1 := H1.out
            have h2 := H2.out
            have h3 := HIV.out
            simp only [if_true] at h3
            unfold smV smB
            rw [if_pos (by omega), decide_eq_true (by omega)]
            first | rfl | (rw [h3]; first | rfl | simp)
          · obtain ⟨i, rfl⟩ : ∃ i, k = i + 1 := ⟨k - 1, by omega⟩
            obtain ⟨p, o, x, rfl, EX, hcell, hpb⟩ := HS6.out.at_ (j := i) (by omega)
            obtain ⟨hs1, hs2⟩ := HH.out.step EX.out
            have HN := Lib.hid hs1
            have hxb : x < 65536 := by rw [← EX.out]; exact getD_lt (D_lt _) (by decide) i
            clear hs1 h0
            go_wp2
            go_round
            case rel => exact ⟨i, _, HN.out, by omega, congrArg (Value.int .i64) (by omega), by go_num⟩
            case measure => simp [intOf]
end Go.Proofs.Ytcbdnnboddahkaa.Ws
