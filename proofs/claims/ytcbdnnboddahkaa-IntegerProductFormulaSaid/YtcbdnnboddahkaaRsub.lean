/-
  WALKS of the reference: digits taken away.
-/
import Derived.Test.YtcbdnnboddahkaaRadd
namespace Go.Proofs.Ytcbdnnboddahkaa.Ws
open Go.RowKit
set_option linter.unusedVariables false
set_option maxRecDepth 100000
set_option maxHeartbeats 4000000 in
theorem rminus_list (A C : Option Addr) (c d : Nat) (xs ys : List Nat) (w : World) (hx : Sl w .i64 A c xs) (hy : Sl w .i64 C d ys) (bx : ∀ x ∈ xs, x < 65536) (bz : ∀ x ∈ ys, x < 65536) (hlx : xs.length ≤ 4000000) (hly : ys.length ≤ xs.length) (hle : val 65536 ys ≤ val 65536 xs) :
    Calls Try.prog 101 #[.slice A xs.length c, .slice C ys.length d] w fun e w' => SlOut w .i64 (D (val 65536 xs - val 65536 ys)) e w' := by
  obtain ⟨i0, hi, hz0, hz1, hz2⟩ := info_parts infoI
  obtain ⟨hrx, hcx, hmx, _⟩ := hx
  obtain ⟨hry, hcy, hmy, _⟩ := hy
  have HX := Lib.hid hrx
  have HY := Lib.hid hry
  have BX := Lib.hid bx
  have BY := Lib.hid bz
  have HLE := Lib.hid hle
  clear hrx hry bx bz hle
  go_enter Try.func101, Try.ntmps101
  go_wp2
  go_loopw [5, 6, 7, 8] (fun t5 t6 t7 _ wr => ∃ (cy : Nat) (zs : List Nat), (MInv 65536 xs ys zs cy ∧ zs.length ≤ xs.length ∧ wr.ownsRow w.heap.size 3 1 t5 zs.length (vals .i64 zs) ∧ Below w.heap.size w wr) ∧ t6 = .int .i64 cy ∧ t7 = .int .i64 zs.length) (fun _ _ t7 _ _ => xs.length - (intOf t7).toNat)
  case atStart => exact ⟨0, [], ⟨MInv.start _ _ _, by simp, World.ownsRow_nil _ _ _ _, Below.refl _ _⟩, rfl, rfl⟩
  case round =>
    obtain ⟨cy, zs, ⟨hinv, hlen, hown, hbel⟩, rfl, rfl⟩ := hrel
    have hc1 := hinv.2.1
    have HI := Lib.hid hinv
    have HO := Lib.hid hown
    have HB := Lib.hid hbel
    clear hinv hown hbel
    by_cases ha : zs.length < xs.length
    · obtain ⟨wo, rfl⟩ : ∃ wo : World, wo = wr := ⟨_, rfl⟩
      obtain ⟨p, o, x, rfl, EX, hcell, hb⟩ := (HX.out.below HB.out).at_ ha
      have hxb : x < 65536 := by rw [← EX.out]; exact getD_lt BX.out (by decide) _
      by_cases hb1 : zs.length < ys.length
      · obtain ⟨p', o', y, rfl, EY, hcell', hb'⟩ := (HY.out.below HB.out).at_ hb1
        have hyb : y < 65536 := by rw [← EY.out]; exact getD_lt BY.out (by decide) _
        by_cases hneg : x < cy + y
        · have HN := Lib.hid (HI.out.step (x + 65536 - cy - y) 1 (by omega) (by omega) (by have e1 := EX.out; have e2 := EY.out; omega))
          have hqi : ((x : Int) - cy - y) < 0 := by omega
          go_wp2_with (at_builtin; refine wpList_append_own _ rfl _ _ 74 rfl w.heap.size 3 i0 (.int .i64 0) 1 8 Try.underlying74 hi hz0 hz1 hz2 rfl (by decide) _ _ _ rfl (HO.out.alloc _) ⟨wo.heap.size, 0, none⟩ 1 1 [.int .i64 ((x : Int) - cy - y + 65536)] rfl rfl (new_one _ _ _ _ rfl) (by intro u hu; simp at hu; subst hu; rfl) (by unfold maxLen; omega) (by omega) (by have := HB.out.size; simp; omega) ?_)
          intro v2 w2 hown2 hgrow2 _
          have hbel2 : Below w.heap.size w w2 := (HB.out.alloc HB.out.size _).grown hgrow2 (by have := HB.out.size; simp; omega) (fun j hj => (HO.out.lt j hj).1)
          have hown3 : w2.ownsRow w.heap.size 3 1 v2 (zs ++ [x + 65536 - cy - y]).length (vals .i64 (zs ++ [x + 65536 - cy - y])) := by
            rw [vals_append, List.length_append]
            have e0 : vals .i64 [x + 65536 - cy - y] = [.int .i64 ((x : Int) - cy - y + 65536)] := by unfold vals; simp only [List.map_cons, List.map_nil]; rw [show ((x + 65536 - cy - y : Nat) : Int) = (x : Int) - cy - y + 65536 from by omega]
            rw [e0]; exact hown2
          have H3 := Lib.hid hown3
          have HB2 := Lib.hid hbel2
          clear hown2 hgrow2 hbel2 hown3
          go_wp2
          go_roundw
          case rel => exact ⟨1, zs ++ [x + 65536 - cy - y], ⟨HN.out, by simp; omega, H3.out, HB2.out⟩, rfl, by simp⟩
          case measure => simp [intOf]; omega
        · have HN := Lib.hid (HI.out.step (x - cy - y) 0 (by omega) (by omega) (by have e1 := EX.out; have e2 := EY.out; omega))
          have hqi : ¬ ((x : Int) - cy - y) < 0 := by omega
          go_wp2_with (at_builtin; refine wpList_append_own _ rfl _ _ 74 rfl w.heap.size 3 i0 (.int .i64 0) 1 8 Try.underlying74 hi hz0 hz1 hz2 rfl (by decide) _ _ _ rfl (HO.out.alloc _) ⟨wo.heap.size, 0, none⟩ 1 1 [.int .i64 ((x : Int) - cy - y)] rfl rfl (new_one _ _ _ _ rfl) (by intro u hu; simp at hu; subst hu; rfl) (by unfold maxLen; omega) (by omega) (by have := HB.out.size; simp; omega) ?_)
          intro v2 w2 hown2 hgrow2 _
          have hbel2 : Below w.heap.size w w2 := (HB.out.alloc HB.out.size _).grown hgrow2 (by have := HB.out.size; simp; omega) (fun j hj => (HO.out.lt j hj).1)
          have hown3 : w2.ownsRow w.heap.size 3 1 v2 (zs ++ [x - cy - y]).length (vals .i64 (zs ++ [x - cy - y])) := by
            rw [vals_append, List.length_append]
            have e0 : vals .i64 [x - cy - y] = [.int .i64 ((x : Int) - cy - y)] := by unfold vals; simp only [List.map_cons, List.map_nil]; rw [show ((x - cy - y : Nat) : Int) = (x : Int) - cy - y from by omega]
            rw [e0]; exact hown2
          have H3 := Lib.hid hown3
          have HB2 := Lib.hid hbel2
          clear hown2 hgrow2 hbel2 hown3
          go_wp2
          go_roundw
          case rel => exact ⟨0, zs ++ [x - cy - y], ⟨HN.out, by simp; omega, H3.out, HB2.out⟩, rfl, by simp⟩
          case measure => simp [intOf]; omega
      · have EY : Hid (ys.getD zs.length 0 = 0) := by rw [List.getD_eq_getElem?_getD, List.getElem?_eq_none (by omega)]; exact Lib.hid rfl
        by_cases hneg : x < cy
        · have HN := Lib.hid (HI.out.step (x + 65536 - cy) 1 (by omega) (by omega) (by have e1 := EX.out; have e2 := EY.out; omega))
          have hqi : ((x : Int) - cy) < 0 := by omega
          go_wp2_with (at_builtin; refine wpList_append_own _ rfl _ _ 74 rfl w.heap.size 3 i0 (.int .i64 0) 1 8 Try.underlying74 hi hz0 hz1 hz2 rfl (by decide) _ _ _ rfl (HO.out.alloc _) ⟨wo.heap.size, 0, none⟩ 1 1 [.int .i64 ((x : Int) - cy + 65536)] rfl rfl (new_one _ _ _ _ rfl) (by intro u hu; simp at hu; subst hu; rfl) (by unfold maxLen; omega) (by omega) (by have := HB.out.size; simp; omega) ?_)
          intro v2 w2 hown2 hgrow2 _
          have hbel2 : Below w.heap.size w w2 := (HB.out.alloc HB.out.size _).grown hgrow2 (by have := HB.out.size; simp; omega) (fun j hj => (HO.out.lt j hj).1)
          have hown3 : w2.ownsRow w.heap.size 3 1 v2 (zs ++ [x + 65536 - cy]).length (vals .i64 (zs ++ [x + 65536 - cy])) := by
            rw [vals_append, List.length_append]
            have e0 : vals .i64 [x + 65536 - cy] = [.int .i64 ((x : Int) - cy + 65536)] := by unfold vals; simp only [List.map_cons, List.map_nil]; rw [show ((x + 65536 - cy : Nat) : Int) = (x : Int) - cy + 65536 from by omega]
            rw [e0]; exact hown2
          have H3 := Lib.hid hown3
          have HB2 := Lib.hid hbel2
          clear hown2 hgrow2 hbel2 hown3
          go_wp2
          go_roundw
          case rel => exact ⟨1, zs ++ [x + 65536 - cy], ⟨HN.out, by simp; omega, H3.out, HB2.out⟩, rfl, by simp⟩
          case measure => simp [intOf]; omega
        · have HN := Lib.hid (HI.out.step (x - cy) 0 (by omega) (by omega) (by have e1 := EX.out; have e2 := EY.out; omega))
          have hqi : ¬ ((x : Int) - cy) < 0 := by omega
          go_wp2_with (at_builtin; refine wpList_append_own _ rfl _ _ 74 rfl w.heap.size 3 i0 (.int .i64 0) 1 8 Try.underlying74 hi hz0 hz1 hz2 rfl (by decide) _ _ _ rfl (HO.out.alloc _) ⟨wo.heap.size, 0, none⟩ 1 1 [.int .i64 ((x : Int) - cy)] rfl rfl (new_one _ _ _ _ rfl) (by intro u hu; simp at hu; subst hu; rfl) (by unfold maxLen; omega) (by omega) (by have := HB.out.size; simp; omega) ?_)
          intro v2 w2 hown2 hgrow2 _
          have hbel2 : Below w.heap.size w w2 := (HB.out.alloc HB.out.size _).grown hgrow2 (by have := HB.out.size; simp; omega) (fun j hj => (HO.out.lt j hj).1)
          have hown3 : w2.ownsRow w.heap.size 3 1 v2 (zs ++ [x - cy]).length (vals .i64 (zs ++ [x - cy])) := by
            rw [vals_append, List.length_append]
            have e0 : vals .i64 [x - cy] = [.int .i64 ((x : Int) - cy)] := by unfold vals; simp only [List.map_cons, List.map_nil]; rw [show ((x - cy : Nat) : Int) = (x : Int) - cy from by omega]
            rw [e0]; exact hown2
          have H3 := Lib.hid hown3
          have HB2 := Lib.hid hbel2
          clear hown2 hgrow2 hbel2 hown3
          go_wp2
          go_roundw
          case rel => exact ⟨0, zs ++ [x - cy], ⟨HN.out, by simp; omega, H3.out, HB2.out⟩, rfl, by simp⟩
          case measure => simp [intOf]; omega
    · have hll : zs.length = xs.length := by omega
      have HV := Lib.hid (HI.out.done hll hly HLE.out)
      obtain ⟨A1, c1, rfl, -, hs⟩ := own_sl HO.out
      have HS := Lib.hid hs
      clear hs hll
      go_wp2_with fail
      refine (rtrim_any A1 c1 zs _ _ HS.out (by omega) HI.out.1 HV.out).mono ?_
      rintro e w1 ⟨A2, c2, rfl, hs2, hbel⟩
      have HS2 := Lib.hid hs2
      have HB2 := Lib.hid (HB.out.trans (hbel.mono HB.out.size))
      clear hs2 hbel
      go_wp2
      go_ret
      exact ⟨_, _, rfl, HS2.out, HB2.out⟩
theorem rplusD {X Y : Option Addr} {c d a b : Nat} {w : World} (hx : Sl w .i64 X c (D a)) (hy : Sl w .i64 Y d (D b)) (h1 : (D a).length ≤ 4000000) (h2 : (D b).length ≤ 4000000) :
    Calls Try.prog 99 #[.slice X (D a).length c, .slice Y (D b).length d] w fun e w' => SlOut w .i64 (D (a + b)) e w' := by
  have h := rplus_list X Y c d (D a) (D b) w hx hy (D_lt _) (D_lt _) h1 h2
  rw [val_D, val_D] at h; exact h
theorem D_len_mono {a b : Nat} (h : a ≤ b) : (D a).length ≤ (D b).length := dgs_len_mono _ (by decide) a b h
theorem rminusD {X Y : Option Addr} {c d a b : Nat} {w : World} (hx : Sl w .i64 X c (D a)) (hy : Sl w .i64 Y d (D b)) (h1 : (D a).length ≤ 4000000) (hle : b ≤ a) :
    Calls Try.prog 101 #[.slice X (D a).length c, .slice Y (D b).length d] w fun e w' => SlOut w .i64 (D (a - b)) e w' := by
  have h := rminus_list X Y c d (D a) (D b) w hx hy (D_lt _) (D_lt _) h1 (D_len_mono hle) (by rw [val_D, val_D]; exact hle)
  rw [val_D, val_D] at h; exact h
end Go.Proofs.Ytcbdnnboddahkaa.Ws
