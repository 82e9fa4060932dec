/-
  WALKS of the reference: the integer of words with some digits.
-/
import Derived.Test.YtcbdnnboddahkaaRdig
namespace Go.Proofs.Ytcbdnnboddahkaa.Ws
open Go.RowKit
set_option linter.unusedVariables false
set_option maxRecDepth 100000
theorem up_D (n : Nat) : up 65536 (D n) = W n := up_dgs 65536 (by decide) n
theorem up_even {ds : List Nat} {k x y : Nat} (h : 2 * k + 1 < ds.length) (hx : ds.getD (2 * k) 0 = x) (hy : ds.getD (2 * k + 1) 0 = y) : up 65536 (ds.take (2 * (k + 1))) = up 65536 (ds.take (2 * k)) ++ [x + y * 65536] := by
  rw [show 2 * (k + 1) = 2 * k + 2 from by omega, up_take_even 65536 ds k h, hx, hy]
theorem up_odd {ds : List Nat} {k x : Nat} (h : 2 * k + 1 = ds.length) (hx : ds.getD (2 * k) 0 = x) : up 65536 (ds.take (2 * (k + 1))) = up 65536 (ds.take (2 * k)) ++ [x] := by
  rw [List.take_of_length_le (by omega), up_take_odd 65536 ds k h, hx]
/-- the cells of the integer that is made -/
structure Cv (w : World) (g : Nat) (b : Bool) (v : Value) : Prop where
  c0 : w.cell? ⟨g, 0, none⟩ = some (.bool b)
  c1 : w.cell? ⟨g, 1, none⟩ = some v
  f0 : w.frozen? ⟨g, 0, none⟩ = false
  f1 : w.frozen? ⟨g, 1, none⟩ = false
theorem Cv.below {B : Nat} {w w' : World} {g : Nat} {b : Bool} {v : Value} (h : Cv w g b v) (hb : Below B w w') (hg : g < B) : Cv w' g b v :=
  ⟨(hb.cell (p := ⟨g, 0, none⟩) hg).trans h.c0, (hb.cell (p := ⟨g, 1, none⟩) hg).trans h.c1, (hb.frozen (p := ⟨g, 0, none⟩) hg).trans h.f0, (hb.frozen (p := ⟨g, 1, none⟩) hg).trans h.f1⟩
theorem Cv.put1 {w : World} {g : Nat} {b : Bool} {v : Value} (h : Cv w g b v) (u : Value) : Cv (w.setCell ⟨g, 1, none⟩ u) g b u :=
  ⟨by rw [World.cell?_setCell_other _ _ _ _ (by simp)]; exact h.c0, by simp [go_sem, h.c1], by simp [go_sem, h.f0], by simp [go_sem, h.f1]⟩
theorem Cl.alloc {w : World} {g : Nat} {b : Bool} {A : Option Addr} {n c : Nat} (h : Cl w g b A n c) (o : Obj) : Cl (w.alloc o) g b A n c :=
  h.below (B := w.heap.size) ((Below.refl _ _).alloc (Nat.le_refl _) o) (World.block_lt_of_cell? w _ h.c0)
theorem below_eq {B s : Nat} {w w' : World} (h : Below B w w') (hs : s = B) : Below s w w' := by subst hs; exact h
theorem Cv.new (w : World) (b : Bool) : Cv (w.alloc (.cells #[.bool b, .slice none 0 0] 24)) w.heap.size b (.slice none 0 0) :=
  ⟨by simp [go_sem], by simp [go_sem], by simp [go_sem], by simp [go_sem]⟩
set_option maxHeartbeats 8000000 in
theorem rmade_any (neg : Bool) (A : Option Addr) (c : Nat) (xs : List Nat) (n : Nat) (w : World) (h : Sl w .i64 A c xs) (hlen : xs.length ≤ 3000000) (hb : ∀ x ∈ xs, x < 65536) (hv : val 65536 xs = n) :
    Calls Try.prog 91 #[.bool neg, .slice A xs.length c] w fun e w' => IntOut w (if neg then -(n : Int) else n) e w' := by
  obtain ⟨i0, hi, hz0, hz1, hz2⟩ := info_parts infoW
  have hmx := h.max
  have hlc := h.le
  have hdl : (D n).length ≤ 3000000 := by rw [← hv, ← trim_D hb]; have := trimL_length xs; omega
  have HX := Lib.hid h
  have HB0 := Lib.hid hb
  have HV := Lib.hid hv
  clear h hb hv
  cases neg
  · simp only [Bool.false_eq_true, if_false]
    go_enter Try.func91, Try.ntmps91
    go_wp2_with fail
    refine (rtrim_any A c xs _ n (HX.out.alloc _) (by omega) HB0.out HV.out).mono ?_
    rintro e w1 ⟨A1, c1, rfl, hs1, hbel⟩
    have hR := (cl_new1 w).below hbel (by simp)
    have HB1 := Lib.hid (((Below.refl w.heap.size w).alloc (Nat.le_refl _) (.cells #[.bool false, .slice none 0 0] 24)).trans (hbel.mono (by simp)))
    have hz1' := hbel.size
    rw [World.size_alloc] at hz1'
    have hlc1 := hs1.le
    have hcm1 := hs1.max
    have HS1 := Lib.hid hs1
    have HR1 := Lib.hid hR
    clear hs1 hbel hR
    go_wp2
    generalize hg1 : w1.heap.size = g1 at *
    have hsz1 : w1.heap.size ≤ g1 := by omega
    have HG1 := Lib.hid hg1
    clear hg1
    go_loopw [6, 7] (fun t6 _ wr => ∃ (k : Nat) (v : Value), (2 * k ≤ (D n).length + 1 ∧ wr.ownsRow (g1 + 1) 113 1 v (up 65536 ((D n).take (2 * k))).length (vals .u32 (up 65536 ((D n).take (2 * k)))) ∧ Cl wr w.heap.size false none 0 0 ∧ Cv wr g1 false v ∧ g1 + 1 ≤ wr.heap.size ∧ Below g1 w1 wr) ∧ t6 = .int .i64 ((2 * k : Nat) : Int)) (fun t6 _ _ => (D n).length + 1 - (intOf t6).toNat)
    case atStart =>
      have hg := HG1.out
      subst hg
      exact ⟨0, .slice none 0 0, ⟨by omega, by simpa [up, vals] using World.ownsRow_nil _ _ _ _, HR1.out.alloc _, Cv.new _ _, by simp, (Below.refl _ _).alloc (Nat.le_refl _) _⟩, rfl⟩
    case round =>
      obtain ⟨k, v, ⟨hk, hown, hr, hcv, hsz, hbel⟩, rfl⟩ := hrel
      obtain ⟨wo, rfl⟩ : ∃ wo : World, wo = wr := ⟨_, rfl⟩
      have HO := Lib.hid hown
      have HR := Lib.hid hr
      have HC := Lib.hid hcv
      have HB := Lib.hid hbel
      obtain ⟨p0, p1, p2, p3⟩ := hcv
      have hul := up_length 65536 ((D n).take (2 * k))
      have hul2 : (up 65536 ((D n).take (2 * k))).length ≤ 4000000 := by rw [List.length_take] at hul; omega
      clear hown hr hbel hul
      by_cases hlt : 2 * k < (D n).length
      · obtain ⟨p, o, x, rfl, EX, hcell, hb⟩ := (HS1.out.rd.below (below_eq HB.out HG1.out)).at_ hlt
        have hxb : x < 65536 := by rw [← EX.out]; exact getD_lt (D_lt n) (by decide) _
        by_cases hl2 : 2 * k + 1 < (D n).length
        · obtain ⟨p', o', y, e, EY, hcell', hb'⟩ := (HS1.out.rd.below (below_eq HB.out HG1.out)).at_ hl2
          injection e with e; injection e with e1 e2
          subst e1; subst e2
          have hyb : y < 65536 := by rw [← EY.out]; exact getD_lt (D_lt n) (by decide) _
          have HU := Lib.hid (up_even hl2 EX.out EY.out)
          have hcell'' : wo.cell? ⟨p, o + 2 * k + 1, none⟩ = some (.int .i64 (y : Nat)) := hcell'
          go_wp2_with (at_builtin; refine wpList_append_own _ rfl _ _ 22 rfl (g1 + 1) 113 i0 (.int .u32 0) 1 4 Try.underlying22 hi hz0 hz1 hz2 rfl (by decide) _ _ _ rfl (HO.out.alloc _) ⟨wo.heap.size, 0, none⟩ 1 1 [.int .u32 ((x : Int) + (y : Int) * 65536)] rfl rfl (new_one _ _ _ _ rfl) (by intro u hu; simp at hu; subst hu; rfl) (by unfold maxLen; omega) (by omega) (by simp; omega) ?_)
          intro v2 w2 hown2 hgrow2 _
          have hbg : Below (g1 + 1) wo w2 := ((Below.refl _ _).alloc (by omega) _).grown hgrow2 (by simp; omega) (fun j hj => (HO.out.lt j hj).1)
          have hown3 : w2.ownsRow (g1 + 1) 113 1 v2 (up 65536 (D n |>.take (2 * (k + 1)))).length (vals .u32 (up 65536 (D n |>.take (2 * (k + 1))))) := by
            rw [HU.out, vals_append, List.length_append]
            have e0 : vals .u32 [x + y * 65536] = [.int .u32 ((x : Int) + (y : Int) * 65536)] := by unfold vals; simp only [List.map_cons, List.map_nil]; rw [show ((x + y * 65536 : Nat) : Int) = (x : Int) + (y : Int) * 65536 from by omega]
            rw [e0]; exact hown2
          obtain ⟨A3, c3, rfl, -, -⟩ := own_sl hown3
          have HR2 := Lib.hid (HR.out.below hbg (by omega))
          have hc2 := HC.out.below hbg (by omega)
          have HC2 := Lib.hid hc2
          have hz2 := hbg.size
          have HG := Lib.hid hbg
          have H3 := Lib.hid hown3
          obtain ⟨q0, q1, q2, q3⟩ := hc2
          clear hown2 hgrow2 hown3 hbg p0 p1 p2 p3
          go_wp2
          go_roundw
          case rel => exact ⟨k + 1, _, ⟨by omega, ownsRow_setCell_below H3.out (a := ⟨g1, 1, none⟩) (by simp) _, HR2.out.other (p := ⟨g1, 1, none⟩) (by simp; omega) _, HC2.out.put1 _, by simpa using (by omega), (HB.out.trans (HG.out.mono (by omega))).setCell (p := ⟨g1, 1, none⟩) (Nat.le_refl _) _⟩, by go_num⟩
          case measure => simp [intOf]; omega
        · have HU := Lib.hid (up_odd (by omega) EX.out)
          go_wp2_with (at_builtin; refine wpList_append_own _ rfl _ _ 22 rfl (g1 + 1) 113 i0 (.int .u32 0) 1 4 Try.underlying22 hi hz0 hz1 hz2 rfl (by decide) _ _ _ rfl (HO.out.alloc _) ⟨wo.heap.size, 0, none⟩ 1 1 [.int .u32 ((x : Int))] rfl rfl (new_one _ _ _ _ rfl) (by intro u hu; simp at hu; subst hu; rfl) (by unfold maxLen; omega) (by omega) (by simp; omega) ?_)
          intro v2 w2 hown2 hgrow2 _
          have hbg : Below (g1 + 1) wo w2 := ((Below.refl _ _).alloc (by omega) _).grown hgrow2 (by simp; omega) (fun j hj => (HO.out.lt j hj).1)
          have hown3 : w2.ownsRow (g1 + 1) 113 1 v2 (up 65536 (D n |>.take (2 * (k + 1)))).length (vals .u32 (up 65536 (D n |>.take (2 * (k + 1))))) := by
            rw [HU.out, vals_append, List.length_append]
            have e0 : vals .u32 [x] = [.int .u32 ((x : Int))] := by simp [vals]
            rw [e0]; exact hown2
          obtain ⟨A3, c3, rfl, -, -⟩ := own_sl hown3
          have HR2 := Lib.hid (HR.out.below hbg (by omega))
          have hc2 := HC.out.below hbg (by omega)
          have HC2 := Lib.hid hc2
          have hz2 := hbg.size
          have HG := Lib.hid hbg
          have H3 := Lib.hid hown3
          obtain ⟨q0, q1, q2, q3⟩ := hc2
          clear hown2 hgrow2 hown3 hbg p0 p1 p2 p3
          go_wp2
          go_roundw
          case rel => exact ⟨k + 1, _, ⟨by omega, ownsRow_setCell_below H3.out (a := ⟨g1, 1, none⟩) (by simp) _, HR2.out.other (p := ⟨g1, 1, none⟩) (by simp; omega) _, HC2.out.put1 _, by simpa using (by omega), (HB.out.trans (HG.out.mono (by omega))).setCell (p := ⟨g1, 1, none⟩) (Nat.le_refl _) _⟩, by go_num⟩
          case measure => simp [intOf]; omega
      · have hall : (D n).take (2 * k) = D n := List.take_of_length_le (by omega)
        have ho := HO.out
        rw [hall, up_D] at ho
        obtain ⟨A2, c2, rfl, -, hs2⟩ := own_sl ho
        have HS2 := Lib.hid hs2
        have HRF := Lib.hid HR.out
        have hdz : decide (((n : Int) : Int) < 0) = false := by simp
        have HDZ := Lib.hid hdz
        have hna : ((n : Int) : Int).natAbs = n := by omega
        have HNA := Lib.hid hna
        have hii : IntIs wo ((n : Int)) (.agg #[.bool false, .slice A2 (W n).length c2]) := ⟨A2, c2, by rw [hdz, hna], by rw [hna]; exact hs2⟩
        have HII := Lib.hid hii
        have HBF := Lib.hid (HB1.out.trans (HB.out.mono (by omega)))
        obtain ⟨r0, r1, r2, r3⟩ := HRF.out
        clear ho hs2 hall hdz hna hii
        go_wp2
        refine bodyPost_ret (v := .agg #[.bool false, .slice A2 (W n).length c2]) (by simp [results, Try.results91, go_sem, r0, r1]) rfl ?_
        exact HRF.out.stored HII.out HBF.out (Nat.le_refl _)
  · simp only [if_true]
    by_cases h0 : 0 < n
    · have hdp : 0 < (D n).length := by
        rcases Nat.eq_zero_or_pos (D n).length with h | h
        · have := D_nil.1 (List.eq_nil_of_length_eq_zero h); omega
        · exact h
      go_enter Try.func91, Try.ntmps91
      go_wp2_with fail
      refine (rtrim_any A c xs _ n (HX.out.alloc _) (by omega) HB0.out HV.out).mono ?_
      rintro e w1 ⟨A1, c1, rfl, hs1, hbel⟩
      have hR := (cl_new1 w).below hbel (by simp)
      have HB1 := Lib.hid (((Below.refl w.heap.size w).alloc (Nat.le_refl _) (.cells #[.bool false, .slice none 0 0] 24)).trans (hbel.mono (by simp)))
      have hz1' := hbel.size
      rw [World.size_alloc] at hz1'
      have hlc1 := hs1.le
      have hcm1 := hs1.max
      have HS1 := Lib.hid hs1
      have HR1 := Lib.hid hR
      clear hs1 hbel hR
      go_wp2
      generalize hg1 : w1.heap.size = g1 at *
      have hsz1 : w1.heap.size ≤ g1 := by omega
      have HG1 := Lib.hid hg1
      clear hg1
      go_loopw [6, 7] (fun t6 _ wr => ∃ (k : Nat) (v : Value), (2 * k ≤ (D n).length + 1 ∧ wr.ownsRow (g1 + 1) 113 1 v (up 65536 ((D n).take (2 * k))).length (vals .u32 (up 65536 ((D n).take (2 * k)))) ∧ Cl wr w.heap.size false none 0 0 ∧ Cv wr g1 true v ∧ g1 + 1 ≤ wr.heap.size ∧ Below g1 w1 wr) ∧ t6 = .int .i64 ((2 * k : Nat) : Int)) (fun t6 _ _ => (D n).length + 1 - (intOf t6).toNat)
      case atStart =>
        have hg := HG1.out
        subst hg
        exact ⟨0, .slice none 0 0, ⟨by omega, by simpa [up, vals] using World.ownsRow_nil _ _ _ _, HR1.out.alloc _, Cv.new _ _, by simp, (Below.refl _ _).alloc (Nat.le_refl _) _⟩, rfl⟩
      case round =>
        obtain ⟨k, v, ⟨hk, hown, hr, hcv, hsz, hbel⟩, rfl⟩ := hrel
        obtain ⟨wo, rfl⟩ : ∃ wo : World, wo = wr := ⟨_, rfl⟩
        have HO := Lib.hid hown
        have HR := Lib.hid hr
        have HC := Lib.hid hcv
        have HB := Lib.hid hbel
        obtain ⟨p0, p1, p2, p3⟩ := hcv
        have hul := up_length 65536 ((D n).take (2 * k))
        have hul2 : (up 65536 ((D n).take (2 * k))).length ≤ 4000000 := by rw [List.length_take] at hul; omega
        clear hown hr hbel hul
        by_cases hlt : 2 * k < (D n).length
        · obtain ⟨p, o, x, rfl, EX, hcell, hb⟩ := (HS1.out.rd.below (below_eq HB.out HG1.out)).at_ hlt
          have hxb : x < 65536 := by rw [← EX.out]; exact getD_lt (D_lt n) (by decide) _
          by_cases hl2 : 2 * k + 1 < (D n).length
          · obtain ⟨p', o', y, e, EY, hcell', hb'⟩ := (HS1.out.rd.below (below_eq HB.out HG1.out)).at_ hl2
            injection e with e; injection e with e1 e2
            subst e1; subst e2
            have hyb : y < 65536 := by rw [← EY.out]; exact getD_lt (D_lt n) (by decide) _
            have HU := Lib.hid (up_even hl2 EX.out EY.out)
            have hcell'' : wo.cell? ⟨p, o + 2 * k + 1, none⟩ = some (.int .i64 (y : Nat)) := hcell'
            go_wp2_with (at_builtin; refine wpList_append_own _ rfl _ _ 22 rfl (g1 + 1) 113 i0 (.int .u32 0) 1 4 Try.underlying22 hi hz0 hz1 hz2 rfl (by decide) _ _ _ rfl (HO.out.alloc _) ⟨wo.heap.size, 0, none⟩ 1 1 [.int .u32 ((x : Int) + (y : Int) * 65536)] rfl rfl (new_one _ _ _ _ rfl) (by intro u hu; simp at hu; subst hu; rfl) (by unfold maxLen; omega) (by omega) (by simp; omega) ?_)
            intro v2 w2 hown2 hgrow2 _
            have hbg : Below (g1 + 1) wo w2 := ((Below.refl _ _).alloc (by omega) _).grown hgrow2 (by simp; omega) (fun j hj => (HO.out.lt j hj).1)
            have hown3 : w2.ownsRow (g1 + 1) 113 1 v2 (up 65536 (D n |>.take (2 * (k + 1)))).length (vals .u32 (up 65536 (D n |>.take (2 * (k + 1))))) := by
              rw [HU.out, vals_append, List.length_append]
              have e0 : vals .u32 [x + y * 65536] = [.int .u32 ((x : Int) + (y : Int) * 65536)] := by unfold vals; simp only [List.map_cons, List.map_nil]; rw [show ((x + y * 65536 : Nat) : Int) = (x : Int) + (y : Int) * 65536 from by omega]
              rw [e0]; exact hown2
            obtain ⟨A3, c3, rfl, -, -⟩ := own_sl hown3
            have HR2 := Lib.hid (HR.out.below hbg (by omega))
            have hc2 := HC.out.below hbg (by omega)
            have HC2 := Lib.hid hc2
            have hz2 := hbg.size
            have HG := Lib.hid hbg
            have H3 := Lib.hid hown3
            obtain ⟨q0, q1, q2, q3⟩ := hc2
            clear hown2 hgrow2 hown3 hbg p0 p1 p2 p3
            go_wp2
            go_roundw
            case rel => exact ⟨k + 1, _, ⟨by omega, ownsRow_setCell_below H3.out (a := ⟨g1, 1, none⟩) (by simp) _, HR2.out.other (p := ⟨g1, 1, none⟩) (by simp; omega) _, HC2.out.put1 _, by simpa using (by omega), (HB.out.trans (HG.out.mono (by omega))).setCell (p := ⟨g1, 1, none⟩) (Nat.le_refl _) _⟩, by go_num⟩
            case measure => simp [intOf]; omega
          · have HU := Lib.hid (up_odd (by omega) EX.out)
            go_wp2_with (at_builtin; refine wpList_append_own _ rfl _ _ 22 rfl (g1 + 1) 113 i0 (.int .u32 0) 1 4 Try.underlying22 hi hz0 hz1 hz2 rfl (by decide) _ _ _ rfl (HO.out.alloc _) ⟨wo.heap.size, 0, none⟩ 1 1 [.int .u32 ((x : Int))] rfl rfl (new_one _ _ _ _ rfl) (by intro u hu; simp at hu; subst hu; rfl) (by unfold maxLen; omega) (by omega) (by simp; omega) ?_)
            intro v2 w2 hown2 hgrow2 _
            have hbg : Below (g1 + 1) wo w2 := ((Below.refl _ _).alloc (by omega) _).grown hgrow2 (by simp; omega) (fun j hj => (HO.out.lt j hj).1)
            have hown3 : w2.ownsRow (g1 + 1) 113 1 v2 (up 65536 (D n |>.take (2 * (k + 1)))).length (vals .u32 (up 65536 (D n |>.take (2 * (k + 1))))) := by
              rw [HU.out, vals_append, List.length_append]
              have e0 : vals .u32 [x] = [.int .u32 ((x : Int))] := by simp [vals]
              rw [e0]; exact hown2
            obtain ⟨A3, c3, rfl, -, -⟩ := own_sl hown3
            have HR2 := Lib.hid (HR.out.below hbg (by omega))
            have hc2 := HC.out.below hbg (by omega)
            have HC2 := Lib.hid hc2
            have hz2 := hbg.size
            have HG := Lib.hid hbg
            have H3 := Lib.hid hown3
            obtain ⟨q0, q1, q2, q3⟩ := hc2
            clear hown2 hgrow2 hown3 hbg p0 p1 p2 p3
            go_wp2
            go_roundw
            case rel => exact ⟨k + 1, _, ⟨by omega, ownsRow_setCell_below H3.out (a := ⟨g1, 1, none⟩) (by simp) _, HR2.out.other (p := ⟨g1, 1, none⟩) (by simp; omega) _, HC2.out.put1 _, by simpa using (by omega), (HB.out.trans (HG.out.mono (by omega))).setCell (p := ⟨g1, 1, none⟩) (Nat.le_refl _) _⟩, by go_num⟩
            case measure => simp [intOf]; omega
        · have hall : (D n).take (2 * k) = D n := List.take_of_length_le (by omega)
          have ho := HO.out
          rw [hall, up_D] at ho
          obtain ⟨A2, c2, rfl, -, hs2⟩ := own_sl ho
          have HS2 := Lib.hid hs2
          have HRF := Lib.hid HR.out
          have hdz : decide ((-(n : Int) : Int) < 0) = true := by simp; omega
          have HDZ := Lib.hid hdz
          have hna : (-(n : Int) : Int).natAbs = n := by omega
          have HNA := Lib.hid hna
          have hii : IntIs wo (-(n : Int)) (.agg #[.bool true, .slice A2 (W n).length c2]) := ⟨A2, c2, by rw [hdz, hna], by rw [hna]; exact hs2⟩
          have HII := Lib.hid hii
          have HBF := Lib.hid (HB1.out.trans (HB.out.mono (by omega)))
          obtain ⟨r0, r1, r2, r3⟩ := HRF.out
          clear ho hs2 hall hdz hna hii
          go_wp2
          refine bodyPost_ret (v := .agg #[.bool true, .slice A2 (W n).length c2]) (by simp [results, Try.results91, go_sem, r0, r1]) rfl ?_
          exact HRF.out.stored HII.out HBF.out (Nat.le_refl _)
    · have hd0 : (D n).length = 0 := by
        have : n = 0 := by omega
        rw [this]; rfl
      have hdn : ¬ 0 < (D n).length := by omega
      have hn0 : n = 0 := by omega
      have HN0 := Lib.hid hn0
      clear hd0 hn0
      go_enter Try.func91, Try.ntmps91
      go_wp2_with fail
      refine (rtrim_any A c xs _ n (HX.out.alloc _) (by omega) HB0.out HV.out).mono ?_
      rintro e w1 ⟨A1, c1, rfl, hs1, hbel⟩
      have hR := (cl_new1 w).below hbel (by simp)
      have HB1 := Lib.hid (((Below.refl w.heap.size w).alloc (Nat.le_refl _) (.cells #[.bool false, .slice none 0 0] 24)).trans (hbel.mono (by simp)))
      have hz1' := hbel.size
      rw [World.size_alloc] at hz1'
      have hlc1 := hs1.le
      have hcm1 := hs1.max
      have HS1 := Lib.hid hs1
      have HR1 := Lib.hid hR
      clear hs1 hbel hR
      go_wp2
      generalize hg1 : w1.heap.size = g1 at *
      have hsz1 : w1.heap.size ≤ g1 := by omega
      have HG1 := Lib.hid hg1
      clear hg1
      go_loopw [6, 7] (fun t6 _ wr => ∃ (k : Nat) (v : Value), (2 * k ≤ (D n).length + 1 ∧ wr.ownsRow (g1 + 1) 113 1 v (up 65536 ((D n).take (2 * k))).length (vals .u32 (up 65536 ((D n).take (2 * k)))) ∧ Cl wr w.heap.size false none 0 0 ∧ Cv wr g1 false v ∧ g1 + 1 ≤ wr.heap.size ∧ Below g1 w1 wr) ∧ t6 = .int .i64 ((2 * k : Nat) : Int)) (fun t6 _ _ => (D n).length + 1 - (intOf t6).toNat)
      case atStart =>
        have hg := HG1.out
        subst hg
        exact ⟨0, .slice none 0 0, ⟨by omega, by simpa [up, vals] using World.ownsRow_nil _ _ _ _, HR1.out.alloc _, Cv.new _ _, by simp, (Below.refl _ _).alloc (Nat.le_refl _) _⟩, rfl⟩
      case round =>
        obtain ⟨k, v, ⟨hk, hown, hr, hcv, hsz, hbel⟩, rfl⟩ := hrel
        obtain ⟨wo, rfl⟩ : ∃ wo : World, wo = wr := ⟨_, rfl⟩
        have HO := Lib.hid hown
        have HR := Lib.hid hr
        have HC := Lib.hid hcv
        have HB := Lib.hid hbel
        obtain ⟨p0, p1, p2, p3⟩ := hcv
        have hul := up_length 65536 ((D n).take (2 * k))
        have hul2 : (up 65536 ((D n).take (2 * k))).length ≤ 4000000 := by rw [List.length_take] at hul; omega
        clear hown hr hbel hul
        by_cases hlt : 2 * k < (D n).length
        · exact absurd (Nat.lt_of_le_of_lt (Nat.zero_le _) hlt) hdn
        · have hall : (D n).take (2 * k) = D n := List.take_of_length_le (by omega)
          have ho := HO.out
          rw [hall, up_D] at ho
          obtain ⟨A2, c2, rfl, -, hs2⟩ := own_sl ho
          have HS2 := Lib.hid hs2
          have HRF := Lib.hid HR.out
          have hdz : decide ((-(n : Int) : Int) < 0) = false := by simp; omega
          have HDZ := Lib.hid hdz
          have hna : (-(n : Int) : Int).natAbs = n := by omega
          have HNA := Lib.hid hna
          have hii : IntIs wo (-(n : Int)) (.agg #[.bool false, .slice A2 (W n).length c2]) := ⟨A2, c2, by rw [hdz, hna], by rw [hna]; exact hs2⟩
          have HII := Lib.hid hii
          have HBF := Lib.hid (HB1.out.trans (HB.out.mono (by omega)))
          obtain ⟨r0, r1, r2, r3⟩ := HRF.out
          clear ho hs2 hall hdz hna hii
          go_wp2
          refine bodyPost_ret (v := .agg #[.bool false, .slice A2 (W n).length c2]) (by simp [results, Try.results91, go_sem, r0, r1]) rfl ?_
          exact HRF.out.stored HII.out HBF.out (Nat.le_refl _)
end Go.Proofs.Ytcbdnnboddahkaa.Ws
