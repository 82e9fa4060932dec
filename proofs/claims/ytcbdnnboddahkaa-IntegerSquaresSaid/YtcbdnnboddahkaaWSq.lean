/-
  The walk of the law IntegerSquares.
-/
import Derived.Test.YtcbdnnboddahkaaWRi
import Derived.Test.YtcbdnnboddahkaaRr
namespace Go.Proofs.Ytcbdnnboddahkaa.Ws
open Go.RowKit
set_option linter.unusedVariables false
set_option maxRecDepth 100000
theorem few1_yes {l : Nat} (h : fewB [l] = true) : l ≤ 6 := by
  simpa [fewB] using h
theorem args1 {w : World} {g : Nat} {nx : Bool} {X : Option Addr} {l c : Nat} (T : TypeId) (hg : g = w.heap.size) : Args (w.alloc (.cells #[.bool nx, .slice X l c] T)) g [l] := by
  subst hg
  refine ⟨fun i hi => ?_⟩
  match i, hi with
  | 0, _ => exact ⟨X, c, by simp [go_sem]⟩
theorem SqR.le {a r : Nat} (h : SqR a r) : r ≤ a := by
  have := h.1
  rcases Nat.eq_zero_or_pos r with h0 | h0
  · omega
  · have := Nat.le_mul_of_pos_right r h0; omega
theorem sq_lo {z : Int} {r : Nat} (hz : 0 ≤ z) (h : SqR z.natAbs r) : ∃ v, cmpI ((r : Int) * r) z = v ∧ decide (v ≤ 0) = true ∧ -1 ≤ v ∧ v ≤ 1 := by
  have h1 := h.1
  have h2 : (r : Int) * r ≤ z := by
    have : ((r * r : Nat) : Int) ≤ (z.natAbs : Int) := by exact_mod_cast h1
    rw [Int.natCast_mul] at this; omega
  have hc := cmpI_cases ((r : Int) * r) z
  refine ⟨_, rfl, ?_, by omega, by omega⟩
  rw [decide_eq_true_iff]
  unfold cmpI; split
  · omega
  · rw [if_neg (by omega)]; omega
theorem sq_hi {z : Int} {r : Nat} (hz : 0 ≤ z) (h : SqR z.natAbs r) : ∃ v, cmpI (((r : Int) + 1) * ((r : Int) + 1)) z = v ∧ decide (0 < v) = true ∧ -1 ≤ v ∧ v ≤ 1 := by
  have h1 := h.2
  have h2 : z < ((r : Int) + 1) * ((r : Int) + 1) := by
    have : (z.natAbs : Int) < (((r + 1) * (r + 1) : Nat) : Int) := by exact_mod_cast h1
    rw [Int.natCast_mul, Int.natCast_add] at this
    have e : ((1 : Nat) : Int) = 1 := rfl
    rw [e] at this; omega
  have hc := cmpI_cases (((r : Int) + 1) * ((r : Int) + 1)) z
  refine ⟨_, rfl, ?_, by omega, by omega⟩
  rw [decide_eq_true_iff]
  unfold cmpI; rw [if_neg (by omega), if_pos h2]; omega
set_option maxHeartbeats 3000000 in
theorem walk_squares (nx : Bool) (X : Option Addr) (c : Nat) (xs : List Nat) (w : World) (hx : Sl w .u32 X c xs) (bx : ∀ x ∈ xs, x < 4294967296) :
    Calls Try.prog 7 #[.agg #[.bool nx, .slice X xs.length c]] w fun e w' => e = .returned (.bool true) ∧ Below w.heap.size w w' := by
  have hlx := hx.le
  have hmx := hx.max
  have HX := Lib.hid hx
  have BX := Lib.hid bx
  clear hx bx
  have hA := args1 (w := (w.alloc (Obj.cells #[Value.bool nx, Value.slice X xs.length c] 24))) (g := w.heap.size + 1) (nx := nx) (X := X) (l := xs.length) (c := c) 24 (by simp)
  have hB3 : Below w.heap.size w ((w.alloc (Obj.cells #[Value.bool nx, Value.slice X xs.length c] 24)).alloc (Obj.cells #[Value.bool nx, Value.slice X xs.length c] 24)) := by go_grown
  have hM := (Ms.nil_ w).new nx X xs.length c
  have hM4 := hM.below ((Below.refl (w.alloc (Obj.cells #[Value.bool nx, Value.slice X xs.length c] 24)).heap.size (w.alloc (Obj.cells #[Value.bool nx, Value.slice X xs.length c] 24))).alloc (Nat.le_refl _) (Obj.cells #[Value.bool nx, Value.slice X xs.length c] 24))
  have HARG := Lib.hid hA
  have HB3 := Lib.hid hB3
  have HM := Lib.hid hM4
  clear hA hB3 hM hM4
  cases hf : fewB [xs.length] with
  | false =>
    have HF := Lib.hid hf
    clear hf
    go_enter Try.func7, Try.ntmps7
    go_wp2_with fail
    refine (short_any (w.heap.size + 1) [xs.length] _ HARG.out (by simp) (by simp; omega)).mono ?_
    rw [HF.out]
    rintro e w1 ⟨rfl, rfl⟩
    go_wp2_with fail
    refine (awake_any _).mono ?_
    rintro e w2 ⟨rfl, hb⟩
    have HB := Lib.hid (HB3.out.trans (hb.mono HB3.out.size))
    clear hb
    go_wp2
    go_ret
    exact ⟨rfl, HB.out⟩
  | true =>
    have hl6 := few1_yes hf
    have HF := Lib.hid hf
    clear hf
    have HIX : Hid (IntIn w nx X c xs) := Lib.hid ⟨HX.out, BX.out, by omega⟩
    have hwx : (W (iv nx xs).natAbs).length ≤ 6 := Nat.le_trans HIX.out.wlen hl6
    go_enter Try.func7, Try.ntmps7
    go_wp2_with fail
    refine (short_any (w.heap.size + 1) [xs.length] _ HARG.out (by simp) (by simp; omega)).mono ?_
    rw [HF.out]
    rintro e w1 ⟨rfl, rfl⟩
    have hms := HM.out
    have hvs := Vs.cons (Vs.nil_ _) (IntE.raw (HIX.out.below HB3.out) hl6)
    have hbw := HB3.out
    have HXI := Lib.hid (HIX.out.below HB3.out)
    clear HB3 HARG HM HX BX HIX HF
    generalize ((w.alloc (Obj.cells #[Value.bool nx, Value.slice X xs.length c] 24)).alloc (Obj.cells #[Value.bool nx, Value.slice X xs.length c] 24)) = W0 at *
    obtain ⟨k0a, k0b⟩ := Ms.hd hms
    go_wp2_with fail
    refine (Root_any nx X c xs _ HXI.out).mono ?_
    rintro e w2 ⟨r, A, ca, hr1, hr2, rfl, hir, hbel⟩
    clear k0a k0b
    obtain ⟨q, hq⟩ : ∃ q : Int, (if iv nx xs < 0 then (2 : Int) else 0) = q := ⟨_, rfl⟩
    rw [hq]
    have hrw : (W r).length ≤ 6 := by
      by_cases hz : iv nx xs < 0
      · rw [hr2 hz]; exact Nat.zero_le _
      · exact Nat.le_trans (W_len_mono (hr1 (by omega)).le) hwx
    have HR1 := Lib.hid hr1
    have HR2 := Lib.hid hr2
    have HXI2 := Lib.hid (HXI.out.below hbel)
    have hbw' := Below.trans hbw (Below.mono hbel (Below.size hbw))
    have hms' := Ms.below hbel hms
    have hvs' := Vs.cons (Vs.below hbel hvs) (IntE.of hir (k := 6) (by rw [Int.natAbs_natCast]; exact hrw) (by omega))
    clear hbw hms hvs hbel hir hr1 hr2 HXI
    have hmsn := Ms.new hms' false A (W r).length ca
    have hbn : Below w2.heap.size w2 (w2.alloc (Obj.cells #[Value.bool false, Value.slice A (W r).length ca] 24)) := (Below.refl _ _).alloc (Nat.le_refl _) _
    have hvsn := Vs.below hbn hvs'
    have hbwn := Below.trans hbw' (Below.mono hbn (Below.size hbw'))
    have HXI3 := Lib.hid (HXI2.out.below hbn)
    clear hms' hvs' hbw' hbn HXI2
    obtain ⟨k0a, k0b⟩ := Ms.hd (Ms.tl hmsn)
    go_wp2_with fail
    generalize hW3 : (w2.alloc (Obj.cells #[Value.bool false, Value.slice A (W r).length ca] 24)) = W3 at *
    generalize hg3 : w2.heap.size = g3 at *
    clear hW3 hg3
    refine (rRoot_any nx X c xs _ HXI3.out).mono ?_
    rintro e w4 ⟨s, A', ca', hs1, hs2, rfl, his, hbel⟩
    clear k0a k0b
    have hrs : s = r := by
      by_cases hz : iv nx xs < 0
      · rw [hs2 hz, HR2.out hz]
      · exact (hs1 (by omega)).unique (HR1.out (by omega))
    subst hrs
    rw [hq]
    have hbw' := Below.trans hbwn (Below.mono hbel (Below.size hbwn))
    have hms' := Ms.below hbel hmsn
    have hvs' := Vs.cons (Vs.below hbel hvsn) (IntE.of his (k := 6) (by rw [Int.natAbs_natCast]; exact hrw) (by omega))
    clear hbwn hmsn hvsn hbel his hs1 hs2 HXI3
    have hmsn := Ms.new hms' false A' (W s).length ca'
    have hbn : Below w4.heap.size w4 (w4.alloc (Obj.cells #[Value.bool false, Value.slice A' (W s).length ca'] 24)) := (Below.refl _ _).alloc (Nat.le_refl _) _
    have hvsn := Vs.below hbn hvs'
    have hbwn := Below.trans hbw' (Below.mono hbn (Below.size hbw'))
    clear hms' hvs' hbw' hbn
    obtain ⟨k0a, k0b⟩ := Ms.hd hmsn
    obtain ⟨k1a, k1b⟩ := Ms.hd (Ms.tl hmsn)
    go_wp2_with fail
    generalize hW5 : (w4.alloc (Obj.cells #[Value.bool false, Value.slice A' (W s).length ca'] 24)) = W5 at *
    generalize hg5 : w4.heap.size = g5 at *
    clear hW5 hg5
    refine (Same_v (Vs.hd (Vs.tl hvsn)) (Vs.hd hvsn) rfl (by omega)).mono ?_
    rintro e w6 ⟨rfl, hbel⟩
    clear k0a k0b k1a k1b
    have hbw := Below.trans hbwn (Below.mono hbel (Below.size hbwn))
    have hms := Ms.below hbel hmsn
    have hvs := Vs.below hbel hvsn
    clear hbwn hmsn hvsn hbel
    have hqq : (q != q) = false := by simp
    by_cases hz : iv nx xs < 0
    · rw [if_pos hz] at hq
      subst hq
      go_wp2_with fail
      refine (awake_any _).mono ?_
      rintro e w9 ⟨rfl, hb9⟩
      have HBL := Lib.hid (Below.trans hbw (Below.mono hb9 (Below.size hbw)))
      clear hb9
      go_wp2
      go_ret
      exact ⟨rfl, HBL.out⟩
    rw [if_neg hz] at hq
    subst hq
    obtain ⟨p1, hp1, hd1, hp1a, hp1b⟩ := sq_lo (by omega) (HR1.out (by omega))
    obtain ⟨p2, hp2, hd2, hp2a, hp2b⟩ := sq_hi (by omega) (HR1.out (by omega))
    have HP1 := Lib.hid hp1
    have HP2 := Lib.hid hp2
    have hz0 : 0 ≤ iv nx xs := by omega
    clear hp1 hp2 hz hqq HR1 HR2
    go_wp2_with fail
    have hvs' := Vs.draw hvs
    have hms' := Ms.draw hms
    have hbw' := Below.drew hbw
    clear hvs hms hbw
    have hvs := hvs'
    have hms := hms'
    have hbw := hbw'
    clear hvs' hms' hbw'
    refine wp_region_held_drew (S := (fun w' => w'.cell? ⟨g3, 0, none⟩ = some (.bool false) ∧ w'.cell? ⟨g3, 1, none⟩ = some (.slice A (W s).length ca))) (by kernel_rfl) ⟨(Ms.hd (Ms.tl hms)).1, (Ms.hd (Ms.tl hms)).2⟩ (fun hHeld => ?_)
    generalize w6.drew = wd at *
    refine wpAnyH_take (i := 0) (v := ?va0) rfl (by kernel_rfl) (by kernel_rfl) (by kernel_rfl) (fun _ _ _ h => h) (Or.inl ⟨by rfl, ?ya0⟩) hHeld ?ra0
    case ya0 => intro w9 hSw; (try dsimp only at hSw); go_simp; first | done | with_reducible rfl
    try simp only [Act.put]
    refine wpAnyH_ready (rs := [1, 3]) (by kernel_rfl) (by simp) ?_
    refine (AllReadyH.cons rfl (fun K hK => ?_) (AllReadyH.cons rfl (fun K hK => ?_) AllReadyH.nil))
    · go_simp
      go_at_call 23
      refine (Of_v 1 (by omega) (by omega)).mono ?_
      rintro e wo ⟨n8, A8, l8, c8, rfl, hv, hbel⟩
      have hbw' := Below.trans hbw (Below.mono hbel (Below.size hbw))
      clear hbw
      have hbw := hbw'
      clear hbw'
      have hms' := Ms.below hbel hms
      clear hms
      have hms := hms'
      clear hms'
      have hvs' := Vs.cons (Vs.below hbel hvs) hv
      clear hvs
      have hvs := hvs'
      clear hvs' hbel hv
      try go_wp2_with fail
      refine hK.out _ _ ⟨(Ms.hd (Ms.tl hms)).1, (Ms.hd (Ms.tl hms)).2⟩ (fun hHeld => ?_)
      clear hK K
      try simp only [Act.put]
      refine wpAnyH_ready (rs := [2, 3]) (by kernel_rfl) (by simp) ?_
      refine (AllReadyH.cons rfl (fun K hK => ?_) (AllReadyH.cons rfl (fun K hK => ?_) AllReadyH.nil))
      · go_simp
        go_at_call 30
        refine' (Add_v (z := (s : Int)) (t := 1) (k := 6) (l := 2) ?_ ?_ ?_ ?_).mono ?_
        any_goals (first | exact Vs.hd hvs | exact Vs.hd (Vs.tl hvs) | exact Vs.hd (Vs.tl (Vs.tl hvs)) | exact Vs.hd (Vs.tl (Vs.tl (Vs.tl hvs))) | exact Vs.hd (Vs.tl (Vs.tl (Vs.tl (Vs.tl hvs)))))
        any_goals omega
        rintro e wn ⟨n7, A7, l7, c7, rfl, hv, hbel⟩
        have hbw' := Below.trans hbw (Below.mono hbel (Below.size hbw))
        clear hbw
        have hbw := hbw'
        clear hbw'
        have hms' := Ms.below hbel hms
        clear hms
        have hms := hms'
        clear hms'
        have hvs' := Vs.cons (Vs.below hbel hvs) hv
        clear hvs
        have hvs := hvs'
        clear hvs' hbel hv
        try go_wp2_with fail
        refine hK.out _ _ ⟨(Ms.hd (Ms.tl hms)).1, (Ms.hd (Ms.tl hms)).2⟩ (fun hHeld => ?_)
        clear hK K
        try simp only [Act.put]
        refine wpAnyH_ready (rs := [3]) (by kernel_rfl) (by simp) ?_
        refine (AllReadyH.cons rfl (fun K hK => ?_) AllReadyH.nil)
        go_simp
        have hgw : w.heap.size ≤ wn.heap.size := Below.size hbw
        have hlt := Ms.all_lt hms
        have hms' := Ms.new hms false none 0 0
        have hbn : Below wn.heap.size wn (wn.alloc (Obj.cells #[Value.bool false, Value.slice none 0 0] 24)) := (Below.refl _ _).alloc (Nat.le_refl _) _
        have hvs' := Vs.below hbn hvs
        have hbw' := Below.trans hbw (Below.mono hbn (Below.size hbw))
        clear hms hvs hbw hbn
        have hms := hms'
        have hvs := hvs'
        have hbw := hbw'
        clear hms' hvs' hbw'
        refine hK.out _ _ ⟨(Ms.hd (Ms.tl (Ms.tl hms))).1, (Ms.hd (Ms.tl (Ms.tl hms))).2⟩ (fun hHeld => ?_)
        clear hK K
        try simp only [Act.put]
        generalize (wn.alloc (Obj.cells #[Value.bool false, Value.slice none 0 0] 24)) = wz at *
        generalize hg7 : wn.heap.size = g7 at *
        clear hg7
        have HGB : Hid (w.heap.size ≤ g7) := Lib.hid hgw
        have HLT := Lib.hid hlt
        clear hgw hlt
        refine wpAnyH_ready (rs := [4]) (by kernel_rfl) (by simp) ?_
        refine (AllReadyH.cons rfl (fun K hK => ?_) AllReadyH.nil)
        obtain ⟨s0, s1, s2, s3⟩ := Ms.cl hms
        go_simp
        have hms' := Ms.set_ hms HLT.out n7 A7 l7 c7
        have hvs' := Vs.set_ (Ms.cl hms) n7 A7 l7 c7 hvs
        have hbw' := (Below.setCell hbw (p := ⟨g7, 0, none⟩) HGB.out (.bool n7)).setCell (p := ⟨g7, 1, none⟩) HGB.out (.slice A7 l7 c7)
        clear hms hvs hbw s0 s1 s2 s3
        have hms := hms'
        have hvs := hvs'
        have hbw := hbw'
        clear hms' hvs' hbw'
        refine hK.out _ _ ⟨(Ms.hd (Ms.tl (Ms.tl hms))).1, (Ms.hd (Ms.tl (Ms.tl hms))).2⟩ (fun hHeld => ?_)
        clear hK K
        try simp only [Act.put]
        generalize ((wz.setCell ⟨g7, 0, none⟩ (.bool n7)).setCell ⟨g7, 1, none⟩ (.slice A7 l7 c7)) = wy at *
        refine wpAnyH_done (by kernel_rfl) ?_ _
        try clear hHeld
        go_wp2_with fail
        have hvs' := Vs.draw hvs
        have hms' := Ms.draw hms
        have hbw' := Below.drew hbw
        clear hvs hms hbw
        have hvs := hvs'
        have hms := hms'
        have hbw := hbw'
        clear hvs' hms' hbw'
        go_region_held3 (fun w' => (w'.cell? ⟨g7, 0, none⟩ = some (.bool n7) ∧ w'.cell? ⟨g7, 1, none⟩ = some (.slice A7 l7 c7) ∧ w'.cell? ⟨g3, 0, none⟩ = some (.bool false) ∧ w'.cell? ⟨g3, 1, none⟩ = some (.slice A (W s).length ca) ∧ w'.cell? ⟨w.heap.size, 0, none⟩ = some (.bool nx) ∧ w'.cell? ⟨w.heap.size, 1, none⟩ = some (.slice X xs.length c)) ∧ Ms w' [(g7, n7, A7, l7, c7), (g5, false, A', (W s).length, ca'), (g3, false, A, (W s).length, ca), (w.heap.size, nx, X, xs.length, c)]) (exact ⟨⟨(Ms.hd hms).1, (Ms.hd hms).2, (Ms.hd (Ms.tl (Ms.tl hms))).1, (Ms.hd (Ms.tl (Ms.tl hms))).2, (Ms.hd (Ms.tl (Ms.tl (Ms.tl hms)))).1, (Ms.hd (Ms.tl (Ms.tl (Ms.tl hms)))).2⟩, hms⟩)
          (first
              | (go_at_call 34; ((with_reducible refine' (Mul_v ?_ ?_ ?_ ?_).mono ?_)); (any_goals (first | exact Vs.hd hvs | exact Vs.hd (Vs.tl hvs) | exact Vs.hd (Vs.tl (Vs.tl hvs)) | exact Vs.hd (Vs.tl (Vs.tl (Vs.tl hvs))) | exact Vs.hd (Vs.tl (Vs.tl (Vs.tl (Vs.tl hvs)))) | exact Vs.hd (Vs.tl (Vs.tl (Vs.tl (Vs.tl (Vs.tl hvs))))) | exact Vs.hd (Vs.tl (Vs.tl (Vs.tl (Vs.tl (Vs.tl (Vs.tl hvs)))))) | exact Vs.hd (Vs.tl (Vs.tl (Vs.tl (Vs.tl (Vs.tl (Vs.tl (Vs.tl hvs))))))))); (any_goals omega); rintro e w' ⟨_, _, _, _, rfl, hv, hbel⟩; have hbw' := Below.trans hbw (Below.mono hbel (Below.size hbw)); clear hbw; have hbw := hbw'; clear hbw'; have hms' := Ms.below hbel hms; clear hms; have hms := hms'; clear hms'; have hvs' := Vs.cons (Vs.below hbel hvs) hv; clear hvs; have hvs := hvs'; clear hvs' hbel hv)
              | (go_at_call 28; ((with_reducible refine' (Cmp_v2 ?_ ?_ HP1.out).mono ?_)); (any_goals (first | exact Vs.hd hvs | exact Vs.hd (Vs.tl hvs) | exact Vs.hd (Vs.tl (Vs.tl hvs)) | exact Vs.hd (Vs.tl (Vs.tl (Vs.tl hvs))) | exact Vs.hd (Vs.tl (Vs.tl (Vs.tl (Vs.tl hvs)))) | exact Vs.hd (Vs.tl (Vs.tl (Vs.tl (Vs.tl (Vs.tl hvs))))) | exact Vs.hd (Vs.tl (Vs.tl (Vs.tl (Vs.tl (Vs.tl (Vs.tl hvs)))))) | exact Vs.hd (Vs.tl (Vs.tl (Vs.tl (Vs.tl (Vs.tl (Vs.tl (Vs.tl hvs))))))))); rintro e w' ⟨rfl, hbel⟩; have hbw' := Below.trans hbw (Below.mono hbel (Below.size hbw)); clear hbw; have hbw := hbw'; clear hbw'; have hms' := Ms.below hbel hms; clear hms; have hms := hms'; clear hms'; have hvs' := Vs.below hbel hvs; clear hvs; have hvs := hvs'; clear hvs' hbel)
              | (go_at_call 28; ((with_reducible refine' (Cmp_v2 ?_ ?_ HP2.out).mono ?_)); (any_goals (first | exact Vs.hd hvs | exact Vs.hd (Vs.tl hvs) | exact Vs.hd (Vs.tl (Vs.tl hvs)) | exact Vs.hd (Vs.tl (Vs.tl (Vs.tl hvs))) | exact Vs.hd (Vs.tl (Vs.tl (Vs.tl (Vs.tl hvs)))) | exact Vs.hd (Vs.tl (Vs.tl (Vs.tl (Vs.tl (Vs.tl hvs))))) | exact Vs.hd (Vs.tl (Vs.tl (Vs.tl (Vs.tl (Vs.tl (Vs.tl hvs)))))) | exact Vs.hd (Vs.tl (Vs.tl (Vs.tl (Vs.tl (Vs.tl (Vs.tl (Vs.tl hvs))))))))); rintro e w' ⟨rfl, hbel⟩; have hbw' := Below.trans hbw (Below.mono hbel (Below.size hbw)); clear hbw; have hbw := hbw'; clear hbw'; have hms' := Ms.below hbel hms; clear hms; have hms := hms'; clear hms'; have hvs' := Vs.below hbel hvs; clear hvs; have hvs := hvs'; clear hvs' hbel)
              | (go_at_call 20; ((with_reducible refine (awake_any _).mono ?_)); rintro e w' ⟨rfl, hbel⟩; have hbw' := Below.trans hbw (Below.mono hbel (Below.size hbw)); clear hbw; have hbw := hbw'; clear hbw'; have hms' := Ms.below hbel hms; clear hms; have hms := hms'; clear hms'; have hvs' := Vs.below hbel hvs; clear hvs; have hvs := hvs'; clear hvs' hbel))
        all_goals go_wp2
        all_goals go_ret
        all_goals exact ⟨rfl, hbw⟩
      · go_simp
        have hgw : w.heap.size ≤ wo.heap.size := Below.size hbw
        have hlt := Ms.all_lt hms
        have hms' := Ms.new hms false none 0 0
        have hbn : Below wo.heap.size wo (wo.alloc (Obj.cells #[Value.bool false, Value.slice none 0 0] 24)) := (Below.refl _ _).alloc (Nat.le_refl _) _
        have hvs' := Vs.below hbn hvs
        have hbw' := Below.trans hbw (Below.mono hbn (Below.size hbw))
        clear hms hvs hbw hbn
        have hms := hms'
        have hvs := hvs'
        have hbw := hbw'
        clear hms' hvs' hbw'
        refine hK.out _ _ ⟨(Ms.hd (Ms.tl (Ms.tl hms))).1, (Ms.hd (Ms.tl (Ms.tl hms))).2⟩ (fun hHeld => ?_)
        clear hK K
        try simp only [Act.put]
        generalize (wo.alloc (Obj.cells #[Value.bool false, Value.slice none 0 0] 24)) = wz at *
        generalize hg7 : wo.heap.size = g7 at *
        clear hg7
        have HGB : Hid (w.heap.size ≤ g7) := Lib.hid hgw
        have HLT := Lib.hid hlt
        clear hgw hlt
        refine wpAnyH_ready (rs := [2]) (by kernel_rfl) (by simp) ?_
        refine (AllReadyH.cons rfl (fun K hK => ?_) AllReadyH.nil)
        go_simp
        go_at_call 30
        refine' (Add_v (z := (s : Int)) (t := 1) (k := 6) (l := 2) ?_ ?_ ?_ ?_).mono ?_
        any_goals (first | exact Vs.hd hvs | exact Vs.hd (Vs.tl hvs) | exact Vs.hd (Vs.tl (Vs.tl hvs)) | exact Vs.hd (Vs.tl (Vs.tl (Vs.tl hvs))) | exact Vs.hd (Vs.tl (Vs.tl (Vs.tl (Vs.tl hvs)))))
        any_goals omega
        rintro e wn ⟨n7, A7, l7, c7, rfl, hv, hbel⟩
        have hbw' := Below.trans hbw (Below.mono hbel (Below.size hbw))
        clear hbw
        have hbw := hbw'
        clear hbw'
        have hms' := Ms.below hbel hms
        clear hms
        have hms := hms'
        clear hms'
        have hvs' := Vs.cons (Vs.below hbel hvs) hv
        clear hvs
        have hvs := hvs'
        clear hvs' hbel hv
        try go_wp2_with fail
        refine hK.out _ _ ⟨(Ms.hd (Ms.tl (Ms.tl hms))).1, (Ms.hd (Ms.tl (Ms.tl hms))).2⟩ (fun hHeld => ?_)
        clear hK K
        try simp only [Act.put]
        refine wpAnyH_ready (rs := [4]) (by kernel_rfl) (by simp) ?_
        refine (AllReadyH.cons rfl (fun K hK => ?_) AllReadyH.nil)
        obtain ⟨s0, s1, s2, s3⟩ := Ms.cl hms
        go_simp
        have hms' := Ms.set_ hms HLT.out n7 A7 l7 c7
        have hvs' := Vs.set_ (Ms.cl hms) n7 A7 l7 c7 hvs
        have hbw' := (Below.setCell hbw (p := ⟨g7, 0, none⟩) HGB.out (.bool n7)).setCell (p := ⟨g7, 1, none⟩) HGB.out (.slice A7 l7 c7)
        clear hms hvs hbw s0 s1 s2 s3
        have hms := hms'
        have hvs := hvs'
        have hbw := hbw'
        clear hms' hvs' hbw'
        refine hK.out _ _ ⟨(Ms.hd (Ms.tl (Ms.tl hms))).1, (Ms.hd (Ms.tl (Ms.tl hms))).2⟩ (fun hHeld => ?_)
        clear hK K
        try simp only [Act.put]
        generalize ((wn.setCell ⟨g7, 0, none⟩ (.bool n7)).setCell ⟨g7, 1, none⟩ (.slice A7 l7 c7)) = wy at *
        refine wpAnyH_done (by kernel_rfl) ?_ _
        try clear hHeld
        go_wp2_with fail
        have hvs' := Vs.draw hvs
        have hms' := Ms.draw hms
        have hbw' := Below.drew hbw
        clear hvs hms hbw
        have hvs := hvs'
        have hms := hms'
        have hbw := hbw'
        clear hvs' hms' hbw'
        go_region_held3 (fun w' => (w'.cell? ⟨g7, 0, none⟩ = some (.bool n7) ∧ w'.cell? ⟨g7, 1, none⟩ = some (.slice A7 l7 c7) ∧ w'.cell? ⟨g3, 0, none⟩ = some (.bool false) ∧ w'.cell? ⟨g3, 1, none⟩ = some (.slice A (W s).length ca) ∧ w'.cell? ⟨w.heap.size, 0, none⟩ = some (.bool nx) ∧ w'.cell? ⟨w.heap.size, 1, none⟩ = some (.slice X xs.length c)) ∧ Ms w' [(g7, n7, A7, l7, c7), (g5, false, A', (W s).length, ca'), (g3, false, A, (W s).length, ca), (w.heap.size, nx, X, xs.length, c)]) (exact ⟨⟨(Ms.hd hms).1, (Ms.hd hms).2, (Ms.hd (Ms.tl (Ms.tl hms))).1, (Ms.hd (Ms.tl (Ms.tl hms))).2, (Ms.hd (Ms.tl (Ms.tl (Ms.tl hms)))).1, (Ms.hd (Ms.tl (Ms.tl (Ms.tl hms)))).2⟩, hms⟩)
          (first
              | (go_at_call 34; ((with_reducible refine' (Mul_v ?_ ?_ ?_ ?_).mono ?_)); (any_goals (first | exact Vs.hd hvs | exact Vs.hd (Vs.tl hvs) | exact Vs.hd (Vs.tl (Vs.tl hvs)) | exact Vs.hd (Vs.tl (Vs.tl (Vs.tl hvs))) | exact Vs.hd (Vs.tl (Vs.tl (Vs.tl (Vs.tl hvs)))) | exact Vs.hd (Vs.tl (Vs.tl (Vs.tl (Vs.tl (Vs.tl hvs))))) | exact Vs.hd (Vs.tl (Vs.tl (Vs.tl (Vs.tl (Vs.tl (Vs.tl hvs)))))) | exact Vs.hd (Vs.tl (Vs.tl (Vs.tl (Vs.tl (Vs.tl (Vs.tl (Vs.tl hvs))))))))); (any_goals omega); rintro e w' ⟨_, _, _, _, rfl, hv, hbel⟩; have hbw' := Below.trans hbw (Below.mono hbel (Below.size hbw)); clear hbw; have hbw := hbw'; clear hbw'; have hms' := Ms.below hbel hms; clear hms; have hms := hms'; clear hms'; have hvs' := Vs.cons (Vs.below hbel hvs) hv; clear hvs; have hvs := hvs'; clear hvs' hbel hv)
              | (go_at_call 28; ((with_reducible refine' (Cmp_v2 ?_ ?_ HP1.out).mono ?_)); (any_goals (first | exact Vs.hd hvs | exact Vs.hd (Vs.tl hvs) | exact Vs.hd (Vs.tl (Vs.tl hvs)) | exact Vs.hd (Vs.tl (Vs.tl (Vs.tl hvs))) | exact Vs.hd (Vs.tl (Vs.tl (Vs.tl (Vs.tl hvs)))) | exact Vs.hd (Vs.tl (Vs.tl (Vs.tl (Vs.tl (Vs.tl hvs))))) | exact Vs.hd (Vs.tl (Vs.tl (Vs.tl (Vs.tl (Vs.tl (Vs.tl hvs)))))) | exact Vs.hd (Vs.tl (Vs.tl (Vs.tl (Vs.tl (Vs.tl (Vs.tl (Vs.tl hvs))))))))); rintro e w' ⟨rfl, hbel⟩; have hbw' := Below.trans hbw (Below.mono hbel (Below.size hbw)); clear hbw; have hbw := hbw'; clear hbw'; have hms' := Ms.below hbel hms; clear hms; have hms := hms'; clear hms'; have hvs' := Vs.below hbel hvs; clear hvs; have hvs := hvs'; clear hvs' hbel)
              | (go_at_call 28; ((with_reducible refine' (Cmp_v2 ?_ ?_ HP2.out).mono ?_)); (any_goals (first | exact Vs.hd hvs | exact Vs.hd (Vs.tl hvs) | exact Vs.hd (Vs.tl (Vs.tl hvs)) | exact Vs.hd (Vs.tl (Vs.tl (Vs.tl hvs))) | exact Vs.hd (Vs.tl (Vs.tl (Vs.tl (Vs.tl hvs)))) | exact Vs.hd (Vs.tl (Vs.tl (Vs.tl (Vs.tl (Vs.tl hvs))))) | exact Vs.hd (Vs.tl (Vs.tl (Vs.tl (Vs.tl (Vs.tl (Vs.tl hvs)))))) | exact Vs.hd (Vs.tl (Vs.tl (Vs.tl (Vs.tl (Vs.tl (Vs.tl (Vs.tl hvs))))))))); rintro e w' ⟨rfl, hbel⟩; have hbw' := Below.trans hbw (Below.mono hbel (Below.size hbw)); clear hbw; have hbw := hbw'; clear hbw'; have hms' := Ms.below hbel hms; clear hms; have hms := hms'; clear hms'; have hvs' := Vs.below hbel hvs; clear hvs; have hvs := hvs'; clear hvs' hbel)
              | (go_at_call 20; ((with_reducible refine (awake_any _).mono ?_)); rintro e w' ⟨rfl, hbel⟩; have hbw' := Below.trans hbw (Below.mono hbel (Below.size hbw)); clear hbw; have hbw := hbw'; clear hbw'; have hms' := Ms.below hbel hms; clear hms; have hms := hms'; clear hms'; have hvs' := Vs.below hbel hvs; clear hvs; have hvs := hvs'; clear hvs' hbel))
        all_goals go_wp2
        all_goals go_ret
        all_goals exact ⟨rfl, hbw⟩
    · go_simp
      have hgw : w.heap.size ≤ wd.heap.size := Below.size hbw
      have hlt := Ms.all_lt hms
      have hms' := Ms.new hms false none 0 0
      have hbn : Below wd.heap.size wd (wd.alloc (Obj.cells #[Value.bool false, Value.slice none 0 0] 24)) := (Below.refl _ _).alloc (Nat.le_refl _) _
      have hvs' := Vs.below hbn hvs
      have hbw' := Below.trans hbw (Below.mono hbn (Below.size hbw))
      clear hms hvs hbw hbn
      have hms := hms'
      have hvs := hvs'
      have hbw := hbw'
      clear hms' hvs' hbw'
      refine hK.out _ _ ⟨(Ms.hd (Ms.tl (Ms.tl hms))).1, (Ms.hd (Ms.tl (Ms.tl hms))).2⟩ (fun hHeld => ?_)
      clear hK K
      try simp only [Act.put]
      generalize (wd.alloc (Obj.cells #[Value.bool false, Value.slice none 0 0] 24)) = wz at *
      generalize hg7 : wd.heap.size = g7 at *
      clear hg7
      have HGB : Hid (w.heap.size ≤ g7) := Lib.hid hgw
      have HLT := Lib.hid hlt
      clear hgw hlt
      refine wpAnyH_ready (rs := [1]) (by kernel_rfl) (by simp) ?_
      refine (AllReadyH.cons rfl (fun K hK => ?_) AllReadyH.nil)
      go_simp
      go_at_call 23
      refine (Of_v 1 (by omega) (by omega)).mono ?_
      rintro e wo ⟨n8, A8, l8, c8, rfl, hv, hbel⟩
      have hbw' := Below.trans hbw (Below.mono hbel (Below.size hbw))
      clear hbw
      have hbw := hbw'
      clear hbw'
      have hms' := Ms.below hbel hms
      clear hms
      have hms := hms'
      clear hms'
      have hvs' := Vs.cons (Vs.below hbel hvs) hv
      clear hvs
      have hvs := hvs'
      clear hvs' hbel hv
      try go_wp2_with fail
      refine hK.out _ _ ⟨(Ms.hd (Ms.tl (Ms.tl hms))).1, (Ms.hd (Ms.tl (Ms.tl hms))).2⟩ (fun hHeld => ?_)
      clear hK K
      try simp only [Act.put]
      refine wpAnyH_ready (rs := [2]) (by kernel_rfl) (by simp) ?_
      refine (AllReadyH.cons rfl (fun K hK => ?_) AllReadyH.nil)
      go_simp
      go_at_call 30
      refine' (Add_v (z := (s : Int)) (t := 1) (k := 6) (l := 2) ?_ ?_ ?_ ?_).mono ?_
      any_goals (first | exact Vs.hd hvs | exact Vs.hd (Vs.tl hvs) | exact Vs.hd (Vs.tl (Vs.tl hvs)) | exact Vs.hd (Vs.tl (Vs.tl (Vs.tl hvs))) | exact Vs.hd (Vs.tl (Vs.tl (Vs.tl (Vs.tl hvs)))))
      any_goals omega
      rintro e wn ⟨n7, A7, l7, c7, rfl, hv, hbel⟩
      have hbw' := Below.trans hbw (Below.mono hbel (Below.size hbw))
      clear hbw
      have hbw := hbw'
      clear hbw'
      have hms' := Ms.below hbel hms
      clear hms
      have hms := hms'
      clear hms'
      have hvs' := Vs.cons (Vs.below hbel hvs) hv
      clear hvs
      have hvs := hvs'
      clear hvs' hbel hv
      try go_wp2_with fail
      refine hK.out _ _ ⟨(Ms.hd (Ms.tl (Ms.tl hms))).1, (Ms.hd (Ms.tl (Ms.tl hms))).2⟩ (fun hHeld => ?_)
      clear hK K
      try simp only [Act.put]
      refine wpAnyH_ready (rs := [4]) (by kernel_rfl) (by simp) ?_
      refine (AllReadyH.cons rfl (fun K hK => ?_) AllReadyH.nil)
      obtain ⟨s0, s1, s2, s3⟩ := Ms.cl hms
      go_simp
      have hms' := Ms.set_ hms HLT.out n7 A7 l7 c7
      have hvs' := Vs.set_ (Ms.cl hms) n7 A7 l7 c7 hvs
      have hbw' := (Below.setCell hbw (p := ⟨g7, 0, none⟩) HGB.out (.bool n7)).setCell (p := ⟨g7, 1, none⟩) HGB.out (.slice A7 l7 c7)
      clear hms hvs hbw s0 s1 s2 s3
      have hms := hms'
      have hvs := hvs'
      have hbw := hbw'
      clear hms' hvs' hbw'
      refine hK.out _ _ ⟨(Ms.hd (Ms.tl (Ms.tl hms))).1, (Ms.hd (Ms.tl (Ms.tl hms))).2⟩ (fun hHeld => ?_)
      clear hK K
      try simp only [Act.put]
      generalize ((wn.setCell ⟨g7, 0, none⟩ (.bool n7)).setCell ⟨g7, 1, none⟩ (.slice A7 l7 c7)) = wy at *
      refine wpAnyH_done (by kernel_rfl) ?_ _
      try clear hHeld
      go_wp2_with fail
      have hvs' := Vs.draw hvs
      have hms' := Ms.draw hms
      have hbw' := Below.drew hbw
      clear hvs hms hbw
      have hvs := hvs'
      have hms := hms'
      have hbw := hbw'
      clear hvs' hms' hbw'
      go_region_held3 (fun w' => (w'.cell? ⟨g7, 0, none⟩ = some (.bool n7) ∧ w'.cell? ⟨g7, 1, none⟩ = some (.slice A7 l7 c7) ∧ w'.cell? ⟨g3, 0, none⟩ = some (.bool false) ∧ w'.cell? ⟨g3, 1, none⟩ = some (.slice A (W s).length ca) ∧ w'.cell? ⟨w.heap.size, 0, none⟩ = some (.bool nx) ∧ w'.cell? ⟨w.heap.size, 1, none⟩ = some (.slice X xs.length c)) ∧ Ms w' [(g7, n7, A7, l7, c7), (g5, false, A', (W s).length, ca'), (g3, false, A, (W s).length, ca), (w.heap.size, nx, X, xs.length, c)]) (exact ⟨⟨(Ms.hd hms).1, (Ms.hd hms).2, (Ms.hd (Ms.tl (Ms.tl hms))).1, (Ms.hd (Ms.tl (Ms.tl hms))).2, (Ms.hd (Ms.tl (Ms.tl (Ms.tl hms)))).1, (Ms.hd (Ms.tl (Ms.tl (Ms.tl hms)))).2⟩, hms⟩)
        (first
            | (go_at_call 34; ((with_reducible refine' (Mul_v ?_ ?_ ?_ ?_).mono ?_)); (any_goals (first | exact Vs.hd hvs | exact Vs.hd (Vs.tl hvs) | exact Vs.hd (Vs.tl (Vs.tl hvs)) | exact Vs.hd (Vs.tl (Vs.tl (Vs.tl hvs))) | exact Vs.hd (Vs.tl (Vs.tl (Vs.tl (Vs.tl hvs)))) | exact Vs.hd (Vs.tl (Vs.tl (Vs.tl (Vs.tl (Vs.tl hvs))))) | exact Vs.hd (Vs.tl (Vs.tl (Vs.tl (Vs.tl (Vs.tl (Vs.tl hvs)))))) | exact Vs.hd (Vs.tl (Vs.tl (Vs.tl (Vs.tl (Vs.tl (Vs.tl (Vs.tl hvs))))))))); (any_goals omega); rintro e w' ⟨_, _, _, _, rfl, hv, hbel⟩; have hbw' := Below.trans hbw (Below.mono hbel (Below.size hbw)); clear hbw; have hbw := hbw'; clear hbw'; have hms' := Ms.below hbel hms; clear hms; have hms := hms'; clear hms'; have hvs' := Vs.cons (Vs.below hbel hvs) hv; clear hvs; have hvs := hvs'; clear hvs' hbel hv)
            | (go_at_call 28; ((with_reducible refine' (Cmp_v2 ?_ ?_ HP1.out).mono ?_)); (any_goals (first | exact Vs.hd hvs | exact Vs.hd (Vs.tl hvs) | exact Vs.hd (Vs.tl (Vs.tl hvs)) | exact Vs.hd (Vs.tl (Vs.tl (Vs.tl hvs))) | exact Vs.hd (Vs.tl (Vs.tl (Vs.tl (Vs.tl hvs)))) | exact Vs.hd (Vs.tl (Vs.tl (Vs.tl (Vs.tl (Vs.tl hvs))))) | exact Vs.hd (Vs.tl (Vs.tl (Vs.tl (Vs.tl (Vs.tl (Vs.tl hvs)))))) | exact Vs.hd (Vs.tl (Vs.tl (Vs.tl (Vs.tl (Vs.tl (Vs.tl (Vs.tl hvs))))))))); rintro e w' ⟨rfl, hbel⟩; have hbw' := Below.trans hbw (Below.mono hbel (Below.size hbw)); clear hbw; have hbw := hbw'; clear hbw'; have hms' := Ms.below hbel hms; clear hms; have hms := hms'; clear hms'; have hvs' := Vs.below hbel hvs; clear hvs; have hvs := hvs'; clear hvs' hbel)
            | (go_at_call 28; ((with_reducible refine' (Cmp_v2 ?_ ?_ HP2.out).mono ?_)); (any_goals (first | exact Vs.hd hvs | exact Vs.hd (Vs.tl hvs) | exact Vs.hd (Vs.tl (Vs.tl hvs)) | exact Vs.hd (Vs.tl (Vs.tl (Vs.tl hvs))) | exact Vs.hd (Vs.tl (Vs.tl (Vs.tl (Vs.tl hvs)))) | exact Vs.hd (Vs.tl (Vs.tl (Vs.tl (Vs.tl (Vs.tl hvs))))) | exact Vs.hd (Vs.tl (Vs.tl (Vs.tl (Vs.tl (Vs.tl (Vs.tl hvs)))))) | exact Vs.hd (Vs.tl (Vs.tl (Vs.tl (Vs.tl (Vs.tl (Vs.tl (Vs.tl hvs))))))))); rintro e w' ⟨rfl, hbel⟩; have hbw' := Below.trans hbw (Below.mono hbel (Below.size hbw)); clear hbw; have hbw := hbw'; clear hbw'; have hms' := Ms.below hbel hms; clear hms; have hms := hms'; clear hms'; have hvs' := Vs.below hbel hvs; clear hvs; have hvs := hvs'; clear hvs' hbel)
            | (go_at_call 20; ((with_reducible refine (awake_any _).mono ?_)); rintro e w' ⟨rfl, hbel⟩; have hbw' := Below.trans hbw (Below.mono hbel (Below.size hbw)); clear hbw; have hbw := hbw'; clear hbw'; have hms' := Ms.below hbel hms; clear hms; have hms := hms'; clear hms'; have hvs' := Vs.below hbel hvs; clear hvs; have hvs := hvs'; clear hvs' hbel))
      all_goals go_wp2
      all_goals go_ret
      all_goals exact ⟨rfl, hbw⟩
end Go.Proofs.Ytcbdnnboddahkaa.Ws
