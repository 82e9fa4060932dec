/-
  WALKS of the reference: digits compared, added, taken away.
-/
import Derived.Test.YtcbdnnboddahkaaRtrim
namespace Go.Proofs.Ytcbdnnboddahkaa.Ws
open Go.RowKit
set_option linter.unusedVariables false
set_option maxRecDepth 100000
theorem less_len (a b : Nat) (h : (D a).length ≠ (D b).length) : decide ((D a).length < (D b).length) = decide (a < b) := by
  rcases Nat.lt_or_ge (D a).length (D b).length with h1 | h1
  · have := lt_of_dgs_len 65536 (by decide) a b h1
    simp [h1, this]
  · have := lt_of_dgs_len 65536 (by decide) b a (by unfold D at h h1; omega)
    have h3 : ¬ (D a).length < (D b).length := by omega
    have h4 : ¬ a < b := by omega
    simp [h3, h4]
theorem less_word (a b i x y : Nat) (hl : (D a).length = (D b).length) (hi : i < (D a).length) (h : Alike (D a) (D b) (i + 1)) (hx : (D a).getD i 0 = x) (hy : (D b).getD i 0 = y) (hne : x ≠ y) : decide ((x : Int) < y) = decide (a < b) := by
  rcases Nat.lt_or_ge x y with h1 | h1
  · have := val_lt_of 65536 (D a) (D b) i hi hl (D_lt a) (by omega) (fun j hj hj2 => h j hj hj2)
    rw [val_D, val_D] at this
    simp [h1, this]
  · have := val_lt_of 65536 (D b) (D a) i (by omega) hl.symm (D_lt b) (by omega) (fun j hj hj2 => (h j hj (by omega)).symm)
    rw [val_D, val_D] at this
    have h3 : ¬ x < y := by omega
    have h4 : ¬ a < b := by omega
    simp [h3, h4]
theorem less_same (a b : Nat) (hl : (D a).length = (D b).length) (h : Alike (D a) (D b) 0) : false = decide (a < b) := by
  have := ext_getD (D a) (D b) hl (fun j hj => h j (by omega) hj)
  have h2 : a = b := by rw [← val_D a, ← val_D b, this]
  simp [h2]
theorem retb {a b : Bool} (h : a = b) : Ending.returned (.bool a) = .returned (.bool b) := by rw [h]
set_option maxHeartbeats 1000000 in
theorem rless_any (A C : Option Addr) (c d : Nat) (a b : Nat) (w : World) (hx : Sl w .i64 A c (D a)) (hy : Sl w .i64 C d (D b)) :
    Calls Try.prog 100 #[.slice A (D a).length c, .slice C (D b).length d] w fun e w' => e = .returned (.bool (decide (a < b))) ∧ Dr w w' := by
  obtain ⟨hrx, hcx, hmx, _⟩ := hx
  obtain ⟨hry, hcy, hmy, _⟩ := hy
  have HX := Lib.hid hrx
  have HY := Lib.hid hry
  clear hrx hry
  by_cases hl : (D a).length = (D b).length
  · have hne2 : (((D a).length : Int) != (D b).length) = false := by simp [hl]
    have HL := Lib.hid hl
    clear hl
    go_enter Try.func100, Try.ntmps100
    go_wp2
    go_loopw [5] (fun t5 wr => ∃ k : Nat, (k ≤ (D a).length ∧ Alike (D a) (D b) k ∧ Dr w wr) ∧ t5 = .int .i64 ((k : Int) - 1)) (fun t5 _ => (intOf t5 + 1).toNat)
    case atStart => exact ⟨(D a).length, ⟨Nat.le_refl _, fun j h1 h2 => by omega, Dr.refl _⟩, rfl⟩
    case round =>
      obtain ⟨k, ⟨hk, hal, hdr⟩, rfl⟩ := hrel
      have HA := Lib.hid hal
      have HD := Lib.hid hdr
      clear hal hdr
      by_cases h0 : k = 0
      · subst h0
        have HF := Lib.hid (less_same a b HL.out HA.out)
        go_wp2
        go_ret
        exact ⟨retb HF.out, HD.out⟩
      · obtain ⟨i, rfl⟩ : ∃ i, k = i + 1 := ⟨k - 1, by omega⟩
        have hlt : i < (D a).length := by omega
        have hlt2 : i < (D b).length := by have := HL.out; omega
        obtain ⟨p, o, x, rfl, EX, hcell, hb⟩ := (HX.out.below HD.out.below).at_ hlt
        obtain ⟨p', o', y, rfl, EY, hcell', hb'⟩ := (HY.out.below HD.out.below).at_ hlt2
        clear h0
        by_cases hxy : x = y
        · have ht : ((x : Int) != y) = false := by simp [hxy]
          have HN := Lib.hid (HA.out.down (by rw [EX.out, EY.out, hxy]))
          clear hxy
          go_wp2
          go_quiet (fail)
          go_wp2
          go_roundw
          case rel => exact ⟨i, ⟨by omega, HN.out, HD.out.step _⟩, by go_num⟩
          case measure => simp [intOf]
        · have ht : ((x : Int) != y) = true := by rw [bne_iff_ne]; omega
          have HF := Lib.hid (less_word a b i x y HL.out hlt HA.out EX.out EY.out hxy)
          clear hxy
          go_wp2
          go_quiet (fail)
          go_wp2
          have k1 : (wr.drewN nq).cell? ⟨p, o + i, none⟩ = some (.int .i64 x) := hcell
          have k2 : (wr.drewN nq).cell? ⟨p', o' + i, none⟩ = some (.int .i64 y) := hcell'
          have HD2 := Lib.hid (HD.out.step nq)
          clear hcell hcell'
          generalize wr.drewN nq = w1 at *
          go_quiet (fail)
          go_wp2
          go_ret
          exact ⟨retb ((by simp : decide (x < y) = decide ((x : Int) < y)).trans HF.out), HD2.out.step _⟩
  · have hne : (((D a).length : Int) != (D b).length) = true := by rw [bne_iff_ne]; omega
    have HF := Lib.hid (less_len a b hl)
    clear hl
    go_enter Try.func100, Try.ntmps100
    go_wp2
    go_ret
    exact ⟨retb HF.out, Dr.refl _⟩
set_option maxHeartbeats 4000000 in
theorem rplus_list (A C : Option Addr) (c d : Nat) (xs ys : List Nat) (w : World) (hx : Sl w .i64 A c xs) (hy : Sl w .i64 C d ys) (bx : ∀ x ∈ xs, x < 65536) (bz : ∀ x ∈ ys, x < 65536) (hlx : xs.length ≤ 4000000) (hly : ys.length ≤ 4000000) :
    Calls Try.prog 99 #[.slice A xs.length c, .slice C ys.length d] w fun e w' => SlOut w .i64 (D (val 65536 xs + val 65536 ys)) e w' := by
  obtain ⟨i0, hi, hz0, hz1, hz2⟩ := info_parts infoI
  obtain ⟨hrx, hcx, hmx, _⟩ := hx
  obtain ⟨hry, hcy, hmy, _⟩ := hy
  have HX := Lib.hid hrx
  have HY := Lib.hid hry
  have BX := Lib.hid bx
  have BY := Lib.hid bz
  clear hrx hry bx bz
  go_enter Try.func99, Try.ntmps99
  go_wp2
  go_loopw [5, 6, 7] (fun t5 t6 t7 wr => ∃ (cy : Nat) (zs : List Nat), (PInv 65536 xs ys zs cy ∧ ((zs.length ≤ xs.length ∨ zs.length ≤ ys.length) ∨ (cy = 0 ∧ zs.length ≤ xs.length + ys.length + 1)) ∧ wr.ownsRow w.heap.size 3 1 t5 zs.length (vals .i64 zs) ∧ Below w.heap.size w wr) ∧ t6 = .int .i64 cy ∧ t7 = .int .i64 zs.length) (fun _ _ t7 _ => xs.length + ys.length + 2 - (intOf t7).toNat)
  case atStart => exact ⟨0, [], ⟨PInv.start _ _ _, .inl (.inl (by simp)), World.ownsRow_nil _ _ _ _, Below.refl _ _⟩, rfl, rfl⟩
  case round =>
    obtain ⟨cy, zs, ⟨hinv, hlen, hown, hbel⟩, rfl, rfl⟩ := hrel
    have hc1 := hinv.2.1
    have HI := Lib.hid hinv
    have HO := Lib.hid hown
    have HB := Lib.hid hbel
    clear hinv hown hbel
    by_cases ha : zs.length < xs.length
    · by_cases hb1 : zs.length < ys.length
      · have hzl : zs.length ≤ 8000001 := by omega
        obtain ⟨wo, rfl⟩ : ∃ wo : World, wo = wr := ⟨_, rfl⟩
        obtain ⟨p, o, x, rfl, EX, hcell, hb⟩ := (HX.out.below HB.out).at_ ha
        have hxb : x < 65536 := by rw [← EX.out]; exact getD_lt BX.out (by decide) _
        obtain ⟨p', o', y, rfl, EY, hcell', hb'⟩ := (HY.out.below HB.out).at_ hb1
        have hyb : y < 65536 := by rw [← EY.out]; exact getD_lt BY.out (by decide) _
        have HN := Lib.hid (HI.out.step (by decide) BX.out BY.out (cy + x + y) (by have e1 := EX.out; have e2 := EY.out; omega))
        have hq : (cy + x + y) / 65536 ≤ 1 := by omega
        go_wp2_with (at_builtin; refine wpList_append_own _ rfl _ _ 74 rfl w.heap.size 3 i0 (.int .i64 0) 1 8 Try.underlying74 hi hz0 hz1 hz2 rfl (by decide) _ _ _ rfl (HO.out.alloc _) ⟨wo.heap.size, 0, none⟩ 1 1 [.int .i64 (((cy : Int) + x + y) % 65536)] rfl rfl (new_one _ _ _ _ rfl) (by intro u hu; simp at hu; subst hu; rfl) (by unfold maxLen; omega) (by omega) (by have := HB.out.size; simp; omega) ?_)
        intro v2 w2 hown2 hgrow2 _
        have hbel2 : Below w.heap.size w w2 := (HB.out.alloc HB.out.size _).grown hgrow2 (by have := HB.out.size; simp; omega) (fun j hj => (HO.out.lt j hj).1)
        have hown3 : w2.ownsRow w.heap.size 3 1 v2 (zs ++ [(cy + x + y) % 65536]).length (vals .i64 (zs ++ [(cy + x + y) % 65536])) := by
          rw [vals_append, List.length_append]
          have e0 : vals .i64 [(cy + x + y) % 65536] = [.int .i64 (((cy : Int) + x + y) % 65536)] := by simp [vals]
          rw [e0]; exact hown2
        have H3 := Lib.hid hown3
        have HB2 := Lib.hid hbel2
        clear hown2 hgrow2 hbel2 hown3
        go_wp2
        go_roundw
        case rel => exact ⟨(cy + x + y) / 65536, zs ++ [(cy + x + y) % 65536], ⟨HN.out, by simp; omega, H3.out, HB2.out⟩, by go_num, by simp⟩
        case measure => simp [intOf]; omega
      · have hzl : zs.length ≤ 8000001 := by omega
        obtain ⟨wo, rfl⟩ : ∃ wo : World, wo = wr := ⟨_, rfl⟩
        obtain ⟨p, o, x, rfl, EX, hcell, hb⟩ := (HX.out.below HB.out).at_ ha
        have hxb : x < 65536 := by rw [← EX.out]; exact getD_lt BX.out (by decide) _
        have EY : Hid (ys.getD zs.length 0 = 0) := by rw [List.getD_eq_getElem?_getD, List.getElem?_eq_none (by omega)]; exact Lib.hid rfl
        have HN := Lib.hid (HI.out.step (by decide) BX.out BY.out (cy + x) (by have e1 := EX.out; have e2 := EY.out; omega))
        have hq : (cy + x) / 65536 ≤ 1 := by omega
        go_wp2_with (at_builtin; refine wpList_append_own _ rfl _ _ 74 rfl w.heap.size 3 i0 (.int .i64 0) 1 8 Try.underlying74 hi hz0 hz1 hz2 rfl (by decide) _ _ _ rfl (HO.out.alloc _) ⟨wo.heap.size, 0, none⟩ 1 1 [.int .i64 (((cy : Int) + x) % 65536)] rfl rfl (new_one _ _ _ _ rfl) (by intro u hu; simp at hu; subst hu; rfl) (by unfold maxLen; omega) (by omega) (by have := HB.out.size; simp; omega) ?_)
        intro v2 w2 hown2 hgrow2 _
        have hbel2 : Below w.heap.size w w2 := (HB.out.alloc HB.out.size _).grown hgrow2 (by have := HB.out.size; simp; omega) (fun j hj => (HO.out.lt j hj).1)
        have hown3 : w2.ownsRow w.heap.size 3 1 v2 (zs ++ [(cy + x) % 65536]).length (vals .i64 (zs ++ [(cy + x) % 65536])) := by
          rw [vals_append, List.length_append]
          have e0 : vals .i64 [(cy + x) % 65536] = [.int .i64 (((cy : Int) + x) % 65536)] := by simp [vals]
          rw [e0]; exact hown2
        have H3 := Lib.hid hown3
        have HB2 := Lib.hid hbel2
        clear hown2 hgrow2 hbel2 hown3
        go_wp2
        go_roundw
        case rel => exact ⟨(cy + x) / 65536, zs ++ [(cy + x) % 65536], ⟨HN.out, by simp; omega, H3.out, HB2.out⟩, by go_num, by simp⟩
        case measure => simp [intOf]; omega
    · by_cases hb1 : zs.length < ys.length
      · have hzl : zs.length ≤ 8000001 := by omega
        obtain ⟨wo, rfl⟩ : ∃ wo : World, wo = wr := ⟨_, rfl⟩
        have EX : Hid (xs.getD zs.length 0 = 0) := by rw [List.getD_eq_getElem?_getD, List.getElem?_eq_none (by omega)]; exact Lib.hid rfl
        obtain ⟨p', o', y, rfl, EY, hcell', hb'⟩ := (HY.out.below HB.out).at_ hb1
        have hyb : y < 65536 := by rw [← EY.out]; exact getD_lt BY.out (by decide) _
        have HN := Lib.hid (HI.out.step (by decide) BX.out BY.out (cy + y) (by have e1 := EX.out; have e2 := EY.out; omega))
        have hq : (cy + y) / 65536 ≤ 1 := by omega
        go_wp2_with (at_builtin; refine wpList_append_own _ rfl _ _ 74 rfl w.heap.size 3 i0 (.int .i64 0) 1 8 Try.underlying74 hi hz0 hz1 hz2 rfl (by decide) _ _ _ rfl (HO.out.alloc _) ⟨wo.heap.size, 0, none⟩ 1 1 [.int .i64 (((cy : Int) + y) % 65536)] rfl rfl (new_one _ _ _ _ rfl) (by intro u hu; simp at hu; subst hu; rfl) (by unfold maxLen; omega) (by omega) (by have := HB.out.size; simp; omega) ?_)
        intro v2 w2 hown2 hgrow2 _
        have hbel2 : Below w.heap.size w w2 := (HB.out.alloc HB.out.size _).grown hgrow2 (by have := HB.out.size; simp; omega) (fun j hj => (HO.out.lt j hj).1)
        have hown3 : w2.ownsRow w.heap.size 3 1 v2 (zs ++ [(cy + y) % 65536]).length (vals .i64 (zs ++ [(cy + y) % 65536])) := by
          rw [vals_append, List.length_append]
          have e0 : vals .i64 [(cy + y) % 65536] = [.int .i64 (((cy : Int) + y) % 65536)] := by simp [vals]
          rw [e0]; exact hown2
        have H3 := Lib.hid hown3
        have HB2 := Lib.hid hbel2
        clear hown2 hgrow2 hbel2 hown3
        go_wp2
        go_roundw
        case rel => exact ⟨(cy + y) / 65536, zs ++ [(cy + y) % 65536], ⟨HN.out, by simp; omega, H3.out, HB2.out⟩, by go_num, by simp⟩
        case measure => simp [intOf]; omega
      · by_cases hcp : 0 < cy
        · have hzl : zs.length ≤ 8000001 := by omega
          obtain ⟨wo, rfl⟩ : ∃ wo : World, wo = wr := ⟨_, rfl⟩
          have EX : Hid (xs.getD zs.length 0 = 0) := by rw [List.getD_eq_getElem?_getD, List.getElem?_eq_none (by omega)]; exact Lib.hid rfl
          have EY : Hid (ys.getD zs.length 0 = 0) := by rw [List.getD_eq_getElem?_getD, List.getElem?_eq_none (by omega)]; exact Lib.hid rfl
          have HN := Lib.hid (HI.out.step (by decide) BX.out BY.out (cy) (by have e1 := EX.out; have e2 := EY.out; omega))
          have hq : (cy) / 65536 ≤ 1 := by omega
          go_wp2_with (at_builtin; refine wpList_append_own _ rfl _ _ 74 rfl w.heap.size 3 i0 (.int .i64 0) 1 8 Try.underlying74 hi hz0 hz1 hz2 rfl (by decide) _ _ _ rfl (HO.out.alloc _) ⟨wo.heap.size, 0, none⟩ 1 1 [.int .i64 (((cy : Int)) % 65536)] rfl rfl (new_one _ _ _ _ rfl) (by intro u hu; simp at hu; subst hu; rfl) (by unfold maxLen; omega) (by omega) (by have := HB.out.size; simp; omega) ?_)
          intro v2 w2 hown2 hgrow2 _
          have hbel2 : Below w.heap.size w w2 := (HB.out.alloc HB.out.size _).grown hgrow2 (by have := HB.out.size; simp; omega) (fun j hj => (HO.out.lt j hj).1)
          have hown3 : w2.ownsRow w.heap.size 3 1 v2 (zs ++ [(cy) % 65536]).length (vals .i64 (zs ++ [(cy) % 65536])) := by
            rw [vals_append, List.length_append]
            have e0 : vals .i64 [(cy) % 65536] = [.int .i64 (((cy : Int)) % 65536)] := by simp [vals]
            rw [e0]; exact hown2
          have H3 := Lib.hid hown3
          have HB2 := Lib.hid hbel2
          clear hown2 hgrow2 hbel2 hown3
          go_wp2
          go_roundw
          case rel => exact ⟨(cy) / 65536, zs ++ [(cy) % 65536], ⟨HN.out, by simp; omega, H3.out, HB2.out⟩, by go_num, by simp⟩
          case measure => simp [intOf]; omega
        · have hcy0 : cy = 0 := by omega
          have hI := HI.out
          rw [hcy0] at hI
          have HV := Lib.hid (hI.done (by omega) (by omega))
          have hzl : zs.length ≤ 8000001 := by omega
          subst hcy0
          obtain ⟨A1, c1, rfl, -, hs⟩ := own_sl HO.out
          have HS := Lib.hid hs
          clear hI hs
          go_wp2_with fail
          refine (rtrim_any A1 c1 zs _ _ HS.out (by omega) HI.out.1 HV.out).mono ?_
          rintro e w1 ⟨A2, c2, rfl, hs2, hbel⟩
          have HS2 := Lib.hid hs2
          have HB2 := Lib.hid (HB.out.trans (hbel.mono HB.out.size))
          clear hs2 hbel
          go_wp2
          go_ret
          exact ⟨_, _, rfl, HS2.out, HB2.out⟩
end Go.Proofs.Ytcbdnnboddahkaa.Ws
