/-
  WALK: the elements of the box, yielded one after the other.
-/
import Derived.RangeFuncNested
import Derived.RangeFuncBound
import Derived.RangeFuncCalls
import Derived.RangeFuncLeaves
import Derived.RangeFuncBox
import Derived.Shelf.Abstract
import Derived.Shelf.RegionOpen
import Derived.WalkKit
import Derived.OwnWalkIn
import Derived.TacticsInMore
import Derived.LoopNIn
import Derived.LoopIn
import Derived.Maps.OwnIn
import Derived.Test.YtgbnmnkgelklbaaDoorMgIs
import Derived.Test.YtgbnmnkgelklbaaDoorAl4
namespace Go.Proofs.YtgbnmnkgelklbaaDoor.Iso
open Go.RowKit Go.Shelf
open Alm Al
attribute [local go_sem] Oper.semAt_some
set_option linter.unusedVariables false
set_option linter.unusedSimpArgs false
set_option maxRecDepth 100000
abbrev QB := { q : Q // chkQ q.w q.x q.y q.z q.d = 0 ∧ lowB q = true }
def encQ (q : QB) : Array Value := #[.agg #[.int .i64 (q.1).w, .int .i64 (q.1).x, .int .i64 (q.1).y, .int .i64 (q.1).z, .int .i64 (q.1).d]]
theorem box_chk {x y z d : Int} (hx : -8 ≤ x ∧ x ≤ 8) (hy : -8 ≤ y ∧ y ≤ 8) (hz : -8 ≤ z ∧ z ≤ 8) (hd : 1 ≤ d ∧ d ≤ 2) : chkQ 0 x y z d = 0 := by
  unfold chkQ
  rw [if_pos]
  unfold qB qin
  exact decide_eq_true ⟨⟨by simp only; omega, by simp only; omega⟩, ⟨by simp only; omega, by simp only; omega⟩, ⟨by simp only; omega, by simp only; omega⟩, ⟨by simp only; omega, by simp only; omega⟩, by simp only; omega, by simp only; omega⟩
theorem ns_four (w : World) (a b c d : Int) (T : TypeId) (n : Nat) (hn : n = w.heap.size) : Ns (w.alloc (.cells #[.int .i64 a, .int .i64 b, .int .i64 c, .int .i64 d] T)) (some ⟨n, 0, none⟩) [a, b, c, d] := by
  subst hn
  intro _
  refine ⟨_, rfl, ?_⟩
  intro j hj
  match j, hj with
  | 0, _ => simp [go_sem]
  | 1, _ => simp [go_sem]
  | 2, _ => simp [go_sem]
  | 3, _ => simp [go_sem]
theorem low_cdl (d x y z : Int) : cdl [d, x, y, z] = g5 0 x y z d := by
  simp only [cdl, g5, List.foldl_cons, List.foldl_nil, Nat.gcd_zero_left, Int.natAbs_zero]
  rw [Nat.gcd_comm (Nat.gcd x.natAbs (Nat.gcd y.natAbs z.natAbs)) d.natAbs, Nat.gcd_assoc, Nat.gcd_assoc]
theorem grown_drewN (w : World) (n : Nat) (row : Option Nat) : w.grownBy (w.drewN n) row := ⟨rfl, rfl, rfl, Nat.le_refl _, fun _ _ _ => rfl⟩
theorem lens {k i j t : Nat} {ys : List QB} {d x y d' x' y' : Int} (h : ys.map Subtype.val = Dl lowB k ++ Xl lowB d i ++ Yl lowB x y j ++ Zl lowB d' x' y' t) (hk : k ≤ 1) (hi : i ≤ 16) (hj : j ≤ 16) (ht : t ≤ 16) : ys.length < 9826 := by
  have e := congrArg List.length h
  simp only [List.length_map, List.length_append] at e
  have h1 := Dl_len lowB k
  have h2 := Xl_len lowB d i
  have h3 := Yl_len lowB x y j
  have h4 := Zl_len lowB d' x' y' t
  omega
theorem cd_four (d x y z : Int) (T : TypeId) (n : Nat) (W : World) (hn : n = W.heap.size) (hx : -8 ≤ x ∧ x ≤ 8) (hy : -8 ≤ y ∧ y ≤ 8) (hz : -8 ≤ z ∧ z ≤ 8) (hd : 1 ≤ d ∧ d ≤ 2) :
    Calls Tryd.prog 58 #[.slice (some ⟨n, 0, none⟩) 4 4] (W.alloc (.cells #[.int .i64 d, .int .i64 x, .int .i64 y, .int .i64 z] T)) fun e w' => e = .returned (.int .i64 (g5 0 x y z d : Int)) ∧ W.grownBy w' none ∧ ∃ m, w' = (W.alloc (.cells #[.int .i64 d, .int .i64 x, .int .i64 y, .int .i64 z] T)).drewN m := by
  refine (cd_any [d, x, y, z] _ _ _ (by simp) (by simp) (by decide) (ns_four _ _ _ _ _ _ _ hn) ?_).mono ?_
  · intro j hj
    match j, hj with
    | 0, _ => exact ⟨by simp; omega, by simp; omega⟩
    | 1, _ => exact ⟨by simp; omega, by simp; omega⟩
    | 2, _ => exact ⟨by simp; omega, by simp; omega⟩
    | 3, _ => exact ⟨by simp; omega, by simp; omega⟩
  · rintro e w' ⟨rfl, m, rfl⟩
    rw [low_cdl]
    exact ⟨rfl, ⟨rfl, rfl, rfl, by simp, fun k hk _ => (World.grownBy_alloc W _ none).block k hk (by simp)⟩, m, rfl⟩
set_option maxHeartbeats 8000000 in
theorem cand_stops (n : Nat) (hn : 1 ≤ n) (w : World) : SeqStopsK Fence.wide n Tryd.prog 33 #[] encQ (fun _ _ => True) (fun ys : List QB => ys.map Subtype.val = Dl lowB 2) (fun _ => True) 9826 w := by
  intro l J Jx W hW hJ hJx hY h0
  have HJ : Hid (∀ ys wa wb, J ys wa → wa.grownBy wb none → J ys wb) := Lib.hid fun ys wa wb h hg => hJ ys wa wb none h hg (by simp)
  have HY := Lib.hid hY
  clear hJ hJx hY hW
  refine callsIn_of_wp Tryd.func33 rfl trivial ?_ rfl
  simp only [Tryd.ntmps33, List.size_toArray, List.length_cons, List.length_nil, Nat.reduceAdd, Nat.reduceSub, Array.replicate_succ, Array.replicate_zero, List.push_toArray, List.append_toArray, List.nil_append, List.cons_append]
  gi_wp2
  gi_loopw [2] (fun t2 wr => ∃ (k : Nat) (ys : List QB), (k ≤ 2 ∧ ys.map Subtype.val = Dl lowB k ∧ J ys wr) ∧ t2 = .int .i64 ((k : Int) + 1)) (fun t2 _ => 3 - (intOf t2).toNat)
  case atStart => exact ⟨0, [], ⟨by omega, rfl, h0⟩, rfl⟩
  case round =>
    obtain ⟨k, ys, ⟨hk2, hys, hJs⟩, rfl⟩ := hrel
    have HYS := Lib.hid hys
    have HJS := Lib.hid hJs
    clear hys hJs
    by_cases hk : k ≤ 1
    · have t1 : decide (((k : Int) + 1) ≤ 2) = true := decide_eq_true (by omega)
      gi_wp2
      gi_loopw [3] (fun t3 wr => ∃ (i : Nat) (x : Int) (ys : List QB), (i ≤ 17 ∧ -8 ≤ x ∧ x ≤ 9 ∧ Hid (x = (i : Int) - 8) ∧ ys.map Subtype.val = Dl lowB k ++ Xl lowB ((k : Int) + 1) i ∧ J ys wr) ∧ t3 = .int .i64 x) (fun t3 _ => (9 - intOf t3).toNat)
      case atStart => exact ⟨0, -8, ys, ⟨by omega, by omega, by omega, Lib.hid rfl, by rw [HYS.out, Xl_zero, List.append_nil], HJS.out⟩, rfl⟩
      case round =>
        clear HYS HJS
        obtain ⟨i, x, ys, ⟨hi, hx1, hx2, HX, hys, hJs⟩, rfl⟩ := hrel
        have HYS := Lib.hid hys
        have HJS := Lib.hid hJs
        clear hys hJs
        by_cases hxx : x ≤ 8
        · have t2 : decide (x ≤ 8) = true := decide_eq_true hxx
          have hi' : i ≤ 16 := by have := HX.out; omega
          gi_wp2
          gi_loopw [4] (fun t4 wr => ∃ (j : Nat) (y : Int) (ys : List QB), (j ≤ 17 ∧ -8 ≤ y ∧ y ≤ 9 ∧ Hid (y = (j : Int) - 8) ∧ ys.map Subtype.val = Dl lowB k ++ Xl lowB ((k : Int) + 1) i ++ Yl lowB ((k : Int) + 1) x j ∧ J ys wr) ∧ t4 = .int .i64 y) (fun t4 _ => (9 - intOf t4).toNat)
          case atStart => exact ⟨0, -8, ys, ⟨by omega, by omega, by omega, Lib.hid rfl, by rw [HYS.out, Yl_zero, List.append_nil], HJS.out⟩, rfl⟩
          case round =>
            clear HYS HJS
            obtain ⟨j, y, ys, ⟨hj, hy1, hy2, HYY, hys, hJs⟩, rfl⟩ := hrel
            have HYS := Lib.hid hys
            have HJS := Lib.hid hJs
            clear hys hJs
            by_cases hyy : y ≤ 8
            · have t3 : decide (y ≤ 8) = true := decide_eq_true hyy
              have hj' : j ≤ 16 := by have := HYY.out; omega
              gi_wp2
              gi_loopw [5] (fun t5 wr => ∃ (t : Nat) (z : Int) (ys : List QB), (t ≤ 17 ∧ -8 ≤ z ∧ z ≤ 9 ∧ Hid (z = (t : Int) - 8) ∧ ys.map Subtype.val = Dl lowB k ++ Xl lowB ((k : Int) + 1) i ++ Yl lowB ((k : Int) + 1) x j ++ Zl lowB ((k : Int) + 1) x y t ∧ J ys wr) ∧ t5 = .int .i64 z) (fun t5 _ => (9 - intOf t5).toNat)
              case atStart => exact ⟨0, -8, ys, ⟨by omega, by omega, by omega, Lib.hid rfl, by rw [HYS.out, Zl_zero, List.append_nil], HJS.out⟩, rfl⟩
              case round =>
                clear HYS HJS
                obtain ⟨t, z, ys, ⟨ht, hz1, hz2, HZ, hys, hJs⟩, rfl⟩ := hrel
                have HYS := Lib.hid hys
                have HJS := Lib.hid hJs
                clear hys hJs
                by_cases hzz : z ≤ 8
                · have t4 : decide (z ≤ 8) = true := decide_eq_true hzz
                  have ht' : t ≤ 16 := by have := HZ.out; omega
                  have CD := Lib.hid (fun T m W hm => cd_four ((k : Int) + 1) x y z T m W hm ⟨hx1, hxx⟩ ⟨hy1, hyy⟩ ⟨hz1, hzz⟩ ⟨by omega, by omega⟩)
                  have CK := Lib.hid (box_chk (x := x) (y := y) (z := z) (d := (k : Int) + 1) ⟨hx1, hxx⟩ ⟨hy1, hyy⟩ ⟨hz1, hzz⟩ ⟨by omega, by omega⟩)
                  have LN := Lib.hid (lens HYS.out hk hi' hj' ht')
                  rcases hl : lowB ⟨0, x, y, z, (k : Int) + 1⟩ with _ | _
                  · have HG : Hid (((g5 0 x y z ((k : Int) + 1) : Int) == 1) = false) := Lib.hid (by
                      rw [beq_eq_false_iff_ne]; intro h
                      unfold lowB at hl; rw [beq_eq_false_iff_ne] at hl; exact hl (by exact_mod_cast h))
                    have HL := Lib.hid hl
                    clear hl
                    gi_wp2_with (refine ⟨trivial, ?_⟩; gi_at_call 58; refine (callsIn_wide.2 (CD.out _ _ _ rfl)).mono ?_; rintro e w' ⟨rfl, hgr, m, rfl⟩; have hg := HG.out; have HGR := Lib.hid hgr; clear hgr)
                    refine ⟨fun _ h => (by cases h), ?_⟩
                    gi_wp2
                    go_roundw
                    case rel => exact ⟨t + 1, z + 1, ys, ⟨by omega, by omega, by omega, Lib.hid (by have := HZ.out; omega), by rw [Zl_no (by rw [← HZ.out]; exact HL.out)]; exact HYS.out, HJ.out _ _ _ HJS.out HGR.out⟩, rfl⟩
                    case measure => simp [intOf]; omega
                  · have HG : Hid (((g5 0 x y z ((k : Int) + 1) : Int) == 1) = true) := Lib.hid (by
                      rw [beq_iff_eq]
                      unfold lowB at hl; rw [beq_iff_eq] at hl; exact_mod_cast hl)
                    have HL := Lib.hid hl
                    clear hl
                    gi_wp2_with (refine ⟨trivial, ?_⟩; gi_at_call 58; refine (callsIn_wide.2 (CD.out _ _ _ rfl)).mono ?_; rintro e w' ⟨rfl, hgr, m, rfl⟩; have hg := HG.out; obtain ⟨fn, tmps, assign, body, hy, hR⟩ := HY.out ys ⟨⟨0, x, y, z, (k : Int) + 1⟩, CK.out, HL.out⟩ _ (HJ.out _ _ _ HJS.out hgr) LN.out; dsimp only [encQ] at hy; clear hgr)
                    refine hR.mono ?_
                    rintro e W3 (⟨rfl, hJ3, -⟩ | ⟨rfl, hJx3⟩)
                    · have HJ3 := Lib.hid hJ3
                      clear hJ3 hy hR
                      gi_wp2
                      go_roundw
                      case rel => exact ⟨t + 1, z + 1, _, ⟨by omega, by omega, by omega, Lib.hid (by have := HZ.out; omega), by rw [Zl_yes (by rw [← HZ.out]; exact HL.out), List.map_append, HYS.out, ← HZ.out]; simp, HJ3.out⟩, rfl⟩
                      case measure => simp [intOf]; omega
                    · clear hy hR
                      gi_wp2
                      refine bodyPost_ret (results_none rfl _ _ _) rfl ?_
                      exact ⟨⟨_, rfl⟩, .inr ⟨_, trivial, hJx3⟩⟩
                · have t4 : decide (z ≤ 8) = false := decide_eq_false hzz
                  have ht' : t = 17 := by have := HZ.out; omega
                  have HT := Lib.hid ht'
                  clear ht'
                  gi_wp2
                  go_roundw
                  case rel => exact ⟨j + 1, y + 1, ys, ⟨by omega, by omega, by omega, Lib.hid (by have := HYY.out; omega), by rw [Yl_succ, ← HYY.out, ← HT.out, ← List.append_assoc]; exact HYS.out, HJS.out⟩, rfl⟩
                  case measure => simp [intOf]; omega
            · have t3 : decide (y ≤ 8) = false := decide_eq_false hyy
              have hj' : j = 17 := by have := HYY.out; omega
              have HT := Lib.hid hj'
              clear hj'
              gi_wp2
              go_roundw
              case rel => exact ⟨i + 1, x + 1, ys, ⟨by omega, by omega, by omega, Lib.hid (by have := HX.out; omega), by rw [Xl_succ, ← HX.out, ← HT.out, ← List.append_assoc]; exact HYS.out, HJS.out⟩, rfl⟩
              case measure => simp [intOf]; omega
        · have t2 : decide (x ≤ 8) = false := decide_eq_false hxx
          have hi' : i = 17 := by have := HX.out; omega
          have HT := Lib.hid hi'
          clear hi'
          gi_wp2
          go_roundw
          case rel => exact ⟨k + 1, ys, ⟨by omega, by rw [Dl_succ, ← HT.out]; exact HYS.out, HJS.out⟩, by go_num⟩
          case measure => simp [intOf]; omega
    · have t1 : decide (((k : Int) + 1) ≤ 2) = false := decide_eq_false (by omega)
      have hk' : k = 2 := by omega
      have HT := Lib.hid hk'
      clear hk'
      gi_wp2
      go_end0
      exact ⟨⟨_, rfl⟩, .inl ⟨ys, by rw [← HT.out]; exact HYS.out, HJS.out⟩⟩
end Go.Proofs.YtgbnmnkgelklbaaDoor.Iso
