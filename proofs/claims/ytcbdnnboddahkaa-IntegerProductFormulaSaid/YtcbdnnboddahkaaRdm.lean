/-
  WALKS of the reference: division with remainder of integers of words.
-/
import Derived.Test.YtcbdnnboddahkaaRd
import Derived.Test.YtcbdnnboddahkaaDm
import Derived.Test.YtcbdnnboddahkaaRcmp
namespace Go.Proofs.Ytcbdnnboddahkaa.Ws
open Go.RowKit
set_option linter.unusedVariables false
set_option maxRecDepth 100000
set_option maxHeartbeats 4000000 in
theorem rDivMod_any (nx ny : Bool) (X Y : Option Addr) (c d : Nat) (xs ys : List Nat) (w : World) (hx : IntIn w nx X c xs) (hy : IntIn w ny Y d ys) :
    Calls Try.prog 39 #[.agg #[.bool nx, .slice X xs.length c], .agg #[.bool ny, .slice Y ys.length d]] w fun e w' => DmOut (iv nx xs) (iv ny ys) w e w' := by
  have hB : Below w.heap.size w ((((w.alloc (Obj.cells #[Value.bool nx, Value.slice X xs.length c] 24)).alloc (Obj.cells #[Value.bool ny, Value.slice Y ys.length d] 24)).alloc (Obj.cells #[Value.bool false, Value.slice none 0 0] 24)).alloc (Obj.cells #[Value.bool false, Value.slice none 0 0] 24)) := by go_grown
  have hQ : Q4 w.heap.size nx X xs.length c ny Y ys.length d ((((w.alloc (Obj.cells #[Value.bool nx, Value.slice X xs.length c] 24)).alloc (Obj.cells #[Value.bool ny, Value.slice Y ys.length d] 24)).alloc (Obj.cells #[Value.bool false, Value.slice none 0 0] 24)).alloc (Obj.cells #[Value.bool false, Value.slice none 0 0] 24)) :=
    ⟨⟨by simp [go_sem], by simp [go_sem], by simp [go_sem], by simp [go_sem]⟩, ⟨by simp [go_sem], by simp [go_sem], by simp [go_sem], by simp [go_sem]⟩, ⟨by simp [go_sem], by simp [go_sem], by simp [go_sem], by simp [go_sem]⟩, ⟨by simp [go_sem], by simp [go_sem], by simp [go_sem], by simp [go_sem]⟩, by simp⟩
  have hl1 := hx.dlen
  have hl2 := hy.dlen
  have HX := Lib.hid hx
  have HY := Lib.hid hy
  have HB := Lib.hid hB
  have HQ := Lib.hid hQ
  have HZX := Lib.hid (iv_eq nx xs)
  have HZY := Lib.hid (iv_eq ny ys)
  clear hx hy hB hQ
  by_cases h0 : iv ny ys = 0
  · have hl0 : (D (iv ny ys).natAbs).length = 0 := by rw [h0]; rfl
    have ht : (((D (iv ny ys).natAbs).length : Int) == 0) = true := by simp [hl0]
    have H0 := Lib.hid h0
    clear h0 hl0
    go_enter Try.func39, Try.ntmps39
    go_wp2_with fail
    generalize ((((w.alloc (Obj.cells #[Value.bool nx, Value.slice X xs.length c] 24)).alloc (Obj.cells #[Value.bool ny, Value.slice Y ys.length d] 24)).alloc (Obj.cells #[Value.bool false, Value.slice none 0 0] 24)).alloc (Obj.cells #[Value.bool false, Value.slice none 0 0] 24)) = W0 at *
    obtain ⟨⟨x0, x1, -, -⟩, ⟨y0, y1, -, -⟩, ⟨r0, r1, r2, r3⟩, ⟨s0, s1, s2, s3⟩, -⟩ := HQ.out
    go_wp2_with fail
    refine (rdigits_any ny Y d ys _ (HY.out.below HB.out)).mono ?_
    rintro e w1 ⟨B1, e1, rfl, hsy, hb1⟩
    have HQ1 := Lib.hid (HQ.out.below hb1)
    have HB1 := Lib.hid (HB.out.trans (hb1.mono HB.out.size))
    clear hsy hb1 x0 x1 y0 y1 r0 r1 r2 r3 s0 s1 s2 s3
    obtain ⟨⟨x0, x1, -, -⟩, ⟨y0, y1, -, -⟩, ⟨r0, r1, r2, r3⟩, ⟨s0, s1, s2, s3⟩, -⟩ := HQ1.out
    go_wp2
    refine bodyPost_ret (v := .tuple #[.agg #[.bool false, .slice none 0 0], .agg #[.bool false, .slice none 0 0], .int .i64 10]) (by simp [results, Try.results39, go_sem, r0, r1, s0, s1]) rfl ?_
    have hs := Q4.stored (z1 := 0) (z2 := 0) HQ1.out (IntIs.zero _) (IntIs.zero _) HB1.out rfl
    unfold DmOut dmR dmE
    rw [H0.out]
    exact ⟨_, _, rfl, by simpa using hs.1, by simpa using hs.2.1, hs.2.2⟩
  · have hbn : (iv ny ys).natAbs ≠ 0 := by omega
    have ht : (((D (iv ny ys).natAbs).length : Int) == 0) = false := by
      have : (D (iv ny ys).natAbs).length ≠ 0 := fun h => hbn (D_nil.1 (List.eq_nil_of_length_eq_zero h))
      rw [beq_eq_false_iff_ne]; omega
    have HNE := Lib.hid h0
    clear h0
    cases nx
    · have HE := Lib.hid (dm_one false ny (iv false xs) (iv ny ys) _ _ HZX.out HZY.out hbn (.inl rfl))
      go_enter Try.func39, Try.ntmps39
      go_wp2_with fail
      generalize ((((w.alloc (Obj.cells #[Value.bool false, Value.slice X xs.length c] 24)).alloc (Obj.cells #[Value.bool ny, Value.slice Y ys.length d] 24)).alloc (Obj.cells #[Value.bool false, Value.slice none 0 0] 24)).alloc (Obj.cells #[Value.bool false, Value.slice none 0 0] 24)) = W0 at *
      obtain ⟨⟨x0, x1, -, -⟩, ⟨y0, y1, -, -⟩, -, -, -⟩ := HQ.out
      go_wp2_with fail
      refine (rdigits_any ny Y d ys _ (HY.out.below HB.out)).mono ?_
      rintro e w1 ⟨B1, e1, rfl, hsy, hb1⟩
      have HSY1 := Lib.hid hsy
      have HQ1 := Lib.hid (HQ.out.below hb1)
      have HB1 := Lib.hid (HB.out.trans (hb1.mono HB.out.size))
      clear hsy hb1 x0 x1 y0 y1
      obtain ⟨⟨x0, x1, -, -⟩, ⟨y0, y1, -, -⟩, -, -, -⟩ := HQ1.out
      go_wp2_with fail
      refine (rdigits_any false X c xs _ (HX.out.below HB1.out)).mono ?_
      rintro e w1b ⟨B2, e2, rfl, hsx, hb1⟩
      have HSX := Lib.hid hsx
      have HSY := Lib.hid (HSY1.out.below hb1)
      have HQ1b := Lib.hid (HQ1.out.below hb1)
      have HB1b := Lib.hid (HB1.out.trans (hb1.mono HB1.out.size))
      clear hsx hb1 x0 x1 y0 y1 HQ1 HB1 HSY1
      obtain ⟨⟨x0, x1, -, -⟩, ⟨y0, y1, -, -⟩, -, -, -⟩ := HQ1b.out
      go_wp2_with fail
      refine (rdiv_any B2 B1 e2 e1 _ _ _ HSX.out HSY.out hbn (by omega) (by omega)).mono ?_
      rintro e w2 ⟨A1, c1, C1, d1, rfl, hs1, hs2, hb2⟩
      have HS1 := Lib.hid hs1
      have HS2 := Lib.hid hs2
      have HSY2 := Lib.hid (HSY.out.below hb2)
      have HQ2 := Lib.hid (HQ1b.out.below hb2)
      have HB2 := Lib.hid (HB1b.out.trans (hb2.mono HB1b.out.size))
      clear hs1 hs2 hb2 x0 x1 y0 y1 HSX HSY HQ1b HB1b
      obtain ⟨⟨x0, x1, -, -⟩, ⟨y0, y1, -, -⟩, -, -, -⟩ := HQ2.out
      go_wp2_with fail
      refine (madeD (n := (iv false xs).natAbs / (iv ny ys).natAbs) HS1.out (by have := D_len_mono (Nat.div_le_self (iv false xs).natAbs (iv ny ys).natAbs); omega)).mono ?_
      rintro e w6 ⟨v6, rfl, hi6, hb6⟩
      have hi6' : IntIs w6 (iv false xs / iv ny ys) v6 := by rw [← HE.out.1, iv_W]; first | exact hi6 | (cases ny <;> exact hi6)
      have HI6 := Lib.hid hi6'
      have HQ6 := Lib.hid (HQ2.out.below hb6)
      have HB6 := Lib.hid (HB2.out.trans (hb6.mono HB2.out.size))
      have HS6 := Lib.hid (HS2.out.below hb6)
      clear hi6 hi6' hb6
      go_wp2_with fail
      refine (madeD (neg := false) (n := (iv false xs).natAbs % (iv ny ys).natAbs) HS6.out (by have := D_len_mono (Nat.mod_le (iv false xs).natAbs (iv ny ys).natAbs); omega)).mono ?_
      rintro e w7 ⟨v7, rfl, hi7, hb7⟩
      have hi7' : IntIs w7 (iv false xs % iv ny ys) v7 := by rw [← HE.out.2, iv_W]; exact hi7
      have HI7 := Lib.hid hi7'
      have HI6b := Lib.hid (HI6.out.below hb7)
      have HQ7 := Lib.hid (HQ6.out.below hb7)
      have HB7 := Lib.hid (HB6.out.trans (hb7.mono HB6.out.size))
      obtain ⟨A8, c8, rfl, -⟩ := hi7'
      obtain ⟨A9, c9, rfl, -⟩ := HI6.out
      clear hi7 hb7 x0 x1 y0 y1 HI6 HS6
      obtain ⟨⟨x0, x1, -, -⟩, ⟨y0, y1, -, -⟩, ⟨r0, r1, r2, r3⟩, ⟨s0, s1, s2, s3⟩, -⟩ := HQ7.out
      go_wp2
      refine bodyPost_ret (v := .tuple #[.agg #[.bool (decide (iv false xs / iv ny ys < 0)), .slice A9 (W (iv false xs / iv ny ys).natAbs).length c9], .agg #[.bool (decide (iv false xs % iv ny ys < 0)), .slice A8 (W (iv false xs % iv ny ys).natAbs).length c8], .int .i64 0]) (by simp [results, Try.results39, go_sem, r0, r1, s0, s1]) rfl ?_
      have hs := Q4.stored HQ7.out HI6b.out HI7.out HB7.out rfl
      have hne := HNE.out
      unfold DmOut dmR dmE
      rw [if_neg hne, if_neg hne]
      exact ⟨_, _, rfl, hs.1, hs.2.1, hs.2.2⟩
    · by_cases hr : (iv true xs).natAbs % (iv ny ys).natAbs = 0
      · have HE := Lib.hid (dm_one true ny (iv true xs) (iv ny ys) _ _ HZX.out HZY.out hbn (.inr hr))
        have hd : decide (0 < (D ((iv true xs).natAbs % (iv ny ys).natAbs)).length) = false := by rw [hr]; rfl
        clear hr
        go_enter Try.func39, Try.ntmps39
        go_wp2_with fail
        generalize ((((w.alloc (Obj.cells #[Value.bool true, Value.slice X xs.length c] 24)).alloc (Obj.cells #[Value.bool ny, Value.slice Y ys.length d] 24)).alloc (Obj.cells #[Value.bool false, Value.slice none 0 0] 24)).alloc (Obj.cells #[Value.bool false, Value.slice none 0 0] 24)) = W0 at *
        obtain ⟨⟨x0, x1, -, -⟩, ⟨y0, y1, -, -⟩, -, -, -⟩ := HQ.out
        go_wp2_with fail
        refine (rdigits_any ny Y d ys _ (HY.out.below HB.out)).mono ?_
        rintro e w1 ⟨B1, e1, rfl, hsy, hb1⟩
        have HSY1 := Lib.hid hsy
        have HQ1 := Lib.hid (HQ.out.below hb1)
        have HB1 := Lib.hid (HB.out.trans (hb1.mono HB.out.size))
        clear hsy hb1 x0 x1 y0 y1
        obtain ⟨⟨x0, x1, -, -⟩, ⟨y0, y1, -, -⟩, -, -, -⟩ := HQ1.out
        go_wp2_with fail
        refine (rdigits_any true X c xs _ (HX.out.below HB1.out)).mono ?_
        rintro e w1b ⟨B2, e2, rfl, hsx, hb1⟩
        have HSX := Lib.hid hsx
        have HSY := Lib.hid (HSY1.out.below hb1)
        have HQ1b := Lib.hid (HQ1.out.below hb1)
        have HB1b := Lib.hid (HB1.out.trans (hb1.mono HB1.out.size))
        clear hsx hb1 x0 x1 y0 y1 HQ1 HB1 HSY1
        obtain ⟨⟨x0, x1, -, -⟩, ⟨y0, y1, -, -⟩, -, -, -⟩ := HQ1b.out
        go_wp2_with fail
        refine (rdiv_any B2 B1 e2 e1 _ _ _ HSX.out HSY.out hbn (by omega) (by omega)).mono ?_
        rintro e w2 ⟨A1, c1, C1, d1, rfl, hs1, hs2, hb2⟩
        have HS1 := Lib.hid hs1
        have HS2 := Lib.hid hs2
        have HSY2 := Lib.hid (HSY.out.below hb2)
        have HQ2 := Lib.hid (HQ1b.out.below hb2)
        have HB2 := Lib.hid (HB1b.out.trans (hb2.mono HB1b.out.size))
        clear hs1 hs2 hb2 x0 x1 y0 y1 HSX HSY HQ1b HB1b
        obtain ⟨⟨x0, x1, -, -⟩, ⟨y0, y1, -, -⟩, -, -, -⟩ := HQ2.out
        go_wp2_with fail
        refine (madeD (n := (iv true xs).natAbs / (iv ny ys).natAbs) HS1.out (by have := D_len_mono (Nat.div_le_self (iv true xs).natAbs (iv ny ys).natAbs); omega)).mono ?_
        rintro e w6 ⟨v6, rfl, hi6, hb6⟩
        have hi6' : IntIs w6 (iv true xs / iv ny ys) v6 := by rw [← HE.out.1, iv_W]; first | exact hi6 | (cases ny <;> exact hi6)
        have HI6 := Lib.hid hi6'
        have HQ6 := Lib.hid (HQ2.out.below hb6)
        have HB6 := Lib.hid (HB2.out.trans (hb6.mono HB2.out.size))
        have HS6 := Lib.hid (HS2.out.below hb6)
        clear hi6 hi6' hb6
        go_wp2_with fail
        refine (madeD (neg := false) (n := (iv true xs).natAbs % (iv ny ys).natAbs) HS6.out (by have := D_len_mono (Nat.mod_le (iv true xs).natAbs (iv ny ys).natAbs); omega)).mono ?_
        rintro e w7 ⟨v7, rfl, hi7, hb7⟩
        have hi7' : IntIs w7 (iv true xs % iv ny ys) v7 := by rw [← HE.out.2, iv_W]; exact hi7
        have HI7 := Lib.hid hi7'
        have HI6b := Lib.hid (HI6.out.below hb7)
        have HQ7 := Lib.hid (HQ6.out.below hb7)
        have HB7 := Lib.hid (HB6.out.trans (hb7.mono HB6.out.size))
        obtain ⟨A8, c8, rfl, -⟩ := hi7'
        obtain ⟨A9, c9, rfl, -⟩ := HI6.out
        clear hi7 hb7 x0 x1 y0 y1 HI6 HS6
        obtain ⟨⟨x0, x1, -, -⟩, ⟨y0, y1, -, -⟩, ⟨r0, r1, r2, r3⟩, ⟨s0, s1, s2, s3⟩, -⟩ := HQ7.out
        go_wp2
        refine bodyPost_ret (v := .tuple #[.agg #[.bool (decide (iv true xs / iv ny ys < 0)), .slice A9 (W (iv true xs / iv ny ys).natAbs).length c9], .agg #[.bool (decide (iv true xs % iv ny ys < 0)), .slice A8 (W (iv true xs % iv ny ys).natAbs).length c8], .int .i64 0]) (by simp [results, Try.results39, go_sem, r0, r1, s0, s1]) rfl ?_
        have hs := Q4.stored HQ7.out HI6b.out HI7.out HB7.out rfl
        have hne := HNE.out
        unfold DmOut dmR dmE
        rw [if_neg hne, if_neg hne]
        exact ⟨_, _, rfl, hs.1, hs.2.1, hs.2.2⟩
      · have HE := Lib.hid (dm_two ny (iv true xs) (iv ny ys) _ _ HZX.out HZY.out hbn hr)
        have hd : decide (0 < (D ((iv true xs).natAbs % (iv ny ys).natAbs)).length) = true := by
          have : (D ((iv true xs).natAbs % (iv ny ys).natAbs)).length ≠ 0 := fun h => hr (D_nil.1 (List.eq_nil_of_length_eq_zero h))
          rw [decide_eq_true_iff]; omega
        clear hr
        go_enter Try.func39, Try.ntmps39
        go_wp2_with fail
        generalize ((((w.alloc (Obj.cells #[Value.bool true, Value.slice X xs.length c] 24)).alloc (Obj.cells #[Value.bool ny, Value.slice Y ys.length d] 24)).alloc (Obj.cells #[Value.bool false, Value.slice none 0 0] 24)).alloc (Obj.cells #[Value.bool false, Value.slice none 0 0] 24)) = W0 at *
        obtain ⟨⟨x0, x1, -, -⟩, ⟨y0, y1, -, -⟩, -, -, -⟩ := HQ.out
        go_wp2_with fail
        refine (rdigits_any ny Y d ys _ (HY.out.below HB.out)).mono ?_
        rintro e w1 ⟨B1, e1, rfl, hsy, hb1⟩
        have HSY1 := Lib.hid hsy
        have HQ1 := Lib.hid (HQ.out.below hb1)
        have HB1 := Lib.hid (HB.out.trans (hb1.mono HB.out.size))
        clear hsy hb1 x0 x1 y0 y1
        obtain ⟨⟨x0, x1, -, -⟩, ⟨y0, y1, -, -⟩, -, -, -⟩ := HQ1.out
        go_wp2_with fail
        refine (rdigits_any true X c xs _ (HX.out.below HB1.out)).mono ?_
        rintro e w1b ⟨B2, e2, rfl, hsx, hb1⟩
        have HSX := Lib.hid hsx
        have HSY := Lib.hid (HSY1.out.below hb1)
        have HQ1b := Lib.hid (HQ1.out.below hb1)
        have HB1b := Lib.hid (HB1.out.trans (hb1.mono HB1.out.size))
        clear hsx hb1 x0 x1 y0 y1 HQ1 HB1 HSY1
        obtain ⟨⟨x0, x1, -, -⟩, ⟨y0, y1, -, -⟩, -, -, -⟩ := HQ1b.out
        go_wp2_with fail
        refine (rdiv_any B2 B1 e2 e1 _ _ _ HSX.out HSY.out hbn (by omega) (by omega)).mono ?_
        rintro e w2 ⟨A1, c1, C1, d1, rfl, hs1, hs2, hb2⟩
        have HS1 := Lib.hid hs1
        have HS2 := Lib.hid hs2
        have HSY2 := Lib.hid (HSY.out.below hb2)
        have HQ2 := Lib.hid (HQ1b.out.below hb2)
        have HB2 := Lib.hid (HB1b.out.trans (hb2.mono HB1b.out.size))
        clear hs1 hs2 hb2 x0 x1 y0 y1 HSX HSY HQ1b HB1b
        obtain ⟨⟨x0, x1, -, -⟩, ⟨y0, y1, -, -⟩, -, -, -⟩ := HQ2.out
        have hnew := newI w2 1
        have hbw := (Below.refl w2.heap.size w2).alloc (Nat.le_refl _) (Obj.cells #[Value.int IntKind.i64 1] 3)
        have HNEW : Hid (Sl (w2.alloc (Obj.cells #[Value.int IntKind.i64 1] 3)) .i64 (some ⟨w2.heap.size, 0, none⟩) 1 [1]) := Lib.hid hnew
        have HS1n := Lib.hid (HS1.out.below hbw)
        have HS2n := Lib.hid (HS2.out.below hbw)
        have HSYn := Lib.hid (HSY2.out.below hbw)
        have HQn := Lib.hid (HQ2.out.below hbw)
        have HBn := Lib.hid (HB2.out.trans (hbw.mono HB2.out.size))
        have hql : (D ((iv true xs).natAbs / (iv ny ys).natAbs)).length ≤ 2000000 := by have := D_len_mono (Nat.div_le_self (iv true xs).natAbs (iv ny ys).natAbs); omega
        have hq1 : (D ((iv true xs).natAbs / (iv ny ys).natAbs + 1)).length ≤ 3000000 := by have h1 := D_len_add ((iv true xs).natAbs / (iv ny ys).natAbs) 1; have h2 : (D 1).length = 1 := rfl; omega
        clear hnew hbw HQ HB HQ2 HB2 HSY2 HS1 HS2
        go_wp2_with fail
        refine (rplus_list A1 _ c1 1 (D ((iv true xs).natAbs / (iv ny ys).natAbs)) [1] _ HS1n.out HNEW.out (D_lt _) (by simp) (by omega) (by simp)).mono ?_
        rw [val_D, show val 65536 [1] = 1 from rfl]
        rintro e w3 ⟨A3, c3, rfl, hs3, hb3⟩
        have HS3 := Lib.hid hs3
        have HS2o := Lib.hid (HS2n.out.below hb3)
        have HSYo := Lib.hid (HSYn.out.below hb3)
        have HQo := Lib.hid (HQn.out.below hb3)
        have HBo := Lib.hid (HBn.out.trans (hb3.mono HBn.out.size))
        clear hs3 hb3 HS1n HS2n HSYn HQn HBn HNEW
        go_wp2_with fail
        refine (rminusD HSYo.out HS2o.out (by omega) (Nat.le_of_lt (Nat.mod_lt _ (by omega)))).mono ?_
        rintro e w4 ⟨A4, c4, rfl, hs4, hb4⟩
        have HS4 := Lib.hid hs4
        have HS3o := Lib.hid (HS3.out.below hb4)
        have HQ2 := Lib.hid (HQo.out.below hb4)
        have HB2 := Lib.hid (HBo.out.trans (hb4.mono HBo.out.size))
        clear hs4 hb4 HQo HBo HSYo HS2o HS3 x0 x1 y0 y1
        obtain ⟨⟨x0, x1, -, -⟩, ⟨y0, y1, -, -⟩, -, -, -⟩ := HQ2.out
        go_wp2_with fail
        refine (madeD (n := (iv true xs).natAbs / (iv ny ys).natAbs + 1) HS3o.out (by omega)).mono ?_
        rintro e w6 ⟨v6, rfl, hi6, hb6⟩
        have hi6' : IntIs w6 (iv true xs / iv ny ys) v6 := by rw [← HE.out.1, iv_W]; first | exact hi6 | (cases ny <;> exact hi6)
        have HI6 := Lib.hid hi6'
        have HQ6 := Lib.hid (HQ2.out.below hb6)
        have HB6 := Lib.hid (HB2.out.trans (hb6.mono HB2.out.size))
        have HS6 := Lib.hid (HS4.out.below hb6)
        clear hi6 hi6' hb6
        go_wp2_with fail
        refine (madeD (neg := false) (n := (iv ny ys).natAbs - (iv true xs).natAbs % (iv ny ys).natAbs) HS6.out (by have := D_len_mono (Nat.sub_le (iv ny ys).natAbs ((iv true xs).natAbs % (iv ny ys).natAbs)); omega)).mono ?_
        rintro e w7 ⟨v7, rfl, hi7, hb7⟩
        have hi7' : IntIs w7 (iv true xs % iv ny ys) v7 := by rw [← HE.out.2, iv_W]; exact hi7
        have HI7 := Lib.hid hi7'
        have HI6b := Lib.hid (HI6.out.below hb7)
        have HQ7 := Lib.hid (HQ6.out.below hb7)
        have HB7 := Lib.hid (HB6.out.trans (hb7.mono HB6.out.size))
        obtain ⟨A8, c8, rfl, -⟩ := hi7'
        obtain ⟨A9, c9, rfl, -⟩ := HI6.out
        clear hi7 hb7 x0 x1 y0 y1 HI6 HS6
        obtain ⟨⟨x0, x1, -, -⟩, ⟨y0, y1, -, -⟩, ⟨r0, r1, r2, r3⟩, ⟨s0, s1, s2, s3⟩, -⟩ := HQ7.out
        go_wp2
        refine bodyPost_ret (v := .tuple #[.agg #[.bool (decide (iv true xs / iv ny ys < 0)), .slice A9 (W (iv true xs / iv ny ys).natAbs).length c9], .agg #[.bool (decide (iv true xs % iv ny ys < 0)), .slice A8 (W (iv true xs % iv ny ys).natAbs).length c8], .int .i64 0]) (by simp [results, Try.results39, go_sem, r0, r1, s0, s1]) rfl ?_
        have hs := Q4.stored HQ7.out HI6b.out HI7.out HB7.out rfl
        have hne := HNE.out
        unfold DmOut dmR dmE
        rw [if_neg hne, if_neg hne]
        exact ⟨_, _, rfl, hs.1, hs.2.1, hs.2.2⟩
end Go.Proofs.Ytcbdnnboddahkaa.Ws
