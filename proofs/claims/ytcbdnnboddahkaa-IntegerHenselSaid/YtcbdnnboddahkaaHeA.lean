/-
  WALK: the roots of an odd number modulo a power of 2.
-/
import Derived.Test.YtcbdnnboddahkaaHe9
namespace Go.Proofs.Ytcbdnnboddahkaa.He
open Nt
open Go.RowKit
open Ws (new_one infoI)
set_option linter.unusedVariables false
set_option linter.unusedSimpArgs false
set_option maxRecDepth 100000
set_option maxHeartbeats 4000000 in
theorem two_any (u : Int) (e : Nat) (w : World) (he : 1 ≤ e) (hq : (2 : Int) ^ e ≤ 1000000000) (h0 : 0 ≤ u) (h1 : u < 2 ^ e) (ho : u % 2 = 1) :
    Calls Try.prog 160 #[.int .i64 u, .int .i64 (2 ^ e)] w fun e' w' => RtOut w u (2 ^ e) 1000000000 e' w' := by
  obtain ⟨i0, hi, hz0, hz1, hz2⟩ := info_parts infoI
  have HIR := Lib.hid (IR.start ho)
  obtain ⟨q, hqq⟩ : ∃ q, (2 : Int) ^ e = q := ⟨_, rfl⟩
  have HQ := Lib.hid hqq
  rw [hqq] at hq h1 ⊢
  have hown0 := World.ownsRow_lit (base := w.heap.size) (size := 1) (e := 3) w #[Value.int IntKind.i64 1] 1 (Nat.le_refl _) (by unfold maxLen; omega) rfl
  have hB0 : Below w.heap.size w (w.alloc (Obj.cells #[Value.int IntKind.i64 1] 3)) := (Below.refl _ _).alloc (Nat.le_refl _) _
  have HO0 := Lib.hid hown0
  have HB0 := Lib.hid hB0
  clear ho hqq hown0 hB0
  go_enter Try.func160, Try.ntmps160
  go_wp2
  go_loopg [5, 6] e (fun gg t5 t6 wr => ∃ (i : Nat) (m : Int) (A : Option Addr) (c : Nat) (zs : List Int), (1 ≤ i ∧ i ≤ e ∧ e - i ≤ gg ∧ m = 2 ^ i ∧ IR u m zs ∧ (zs.length : Int) ≤ m ∧ LI w.heap.size wr A c zs ∧ Below w.heap.size w wr) ∧ t5 = .slice A zs.length c ∧ t6 = .int .i64 m)
  case atStart => exact ⟨1, 2, some ⟨w.heap.size, 0, none⟩, 1, [1], ⟨Nat.le_refl _, he, by omega, by simp, HIR.out, by simp, HO0.out, HB0.out⟩, rfl, rfl⟩
  case round =>
    obtain ⟨i, m, A, c, zs, ⟨hi1, hi2, hg, hm, hir, hzl, hli, hbel⟩, rfl, rfl⟩ := hrel
    obtain ⟨wo, rfl⟩ : ∃ wo : World, wo = wr := ⟨_, rfl⟩
    have HM := Lib.hid hm
    have HR := Lib.hid hir
    have HL := Lib.hid hli
    have HB := Lib.hid hbel
    have hm1 : 1 ≤ m := by rw [hm]; have : (0 : Int) < 2 ^ i := Int.pow_pos (by omega); omega
    clear hm hir hli hbel HIR HO0 HB0
    by_cases hie : i < e
    · have hmq : 2 * m ≤ q := by
        rw [HM.out, ← HQ.out, Int.mul_comm, ← Int.pow_succ]; exact pow_mono (by omega) hie
      have hHB := HB.out.size
      have hmlt : m < q := by omega
      have HLT := Lib.hid HL.out.lt
      go_wp2
      go_loopg [7, 20] zs.length (fun gg t7 t20 wi => ∃ (kk : Nat) (A3 : Option Addr) (c3 : Nat) (ys : List Int), (kk ≤ zs.length ∧ zs.length - kk ≤ gg ∧ ys = (zs.take kk).flatMap (cand u m) ∧ ys.length ≤ 2 * kk ∧ LI wo.heap.size wi A3 c3 ys ∧ Below wo.heap.size wo wi) ∧ t7 = .slice A3 ys.length c3 ∧ t20 = .int .i64 kk)
      case atStart => exact ⟨0, none, 0, [], ⟨Nat.zero_le _, by omega, by simp, by simp, LI.nil_ _ _, Below.refl _ _⟩, rfl, rfl⟩
      case round =>
        obtain ⟨kk, A3, c3, ys, ⟨hk, hg2, hys, hyl, hli2, hbel2⟩, rfl, rfl⟩ := hrel
        obtain ⟨wi, rfl⟩ : ∃ wi : World, wi = wr := ⟨_, rfl⟩
        have HYS0 := Lib.hid hys
        have HO1 := Lib.hid hli2
        have HBI := Lib.hid hbel2
        clear hys hli2 hbel2
        by_cases hkz : kk < zs.length
        · obtain ⟨b, r, rfl, EX, hcell, hb1, hb2⟩ := (HL.out.below HBI.out HLT.out).at_ hkz
          have hrr := (HR.out.2 r).1 (by rw [← EX.out]; exact List.getElem_mem hkz)
          obtain ⟨hr0, hr1, _⟩ := hrr
          go_wp2
          clear hcell
          go_loopg [7, 29] 2 (fun gg t7 t29 wi2 => ∃ (ii : Nat) (J : Int) (A3 : Option Addr) (c3 : Nat) (ys : List Int), (ii ≤ 2 ∧ J = ii ∧ 2 - ii ≤ gg ∧ ys = (zs.take kk).flatMap (cand u m) ++ ([r, r + m].take ii).filter (okR u m) ∧ ys.length ≤ 2 * kk + ii ∧ LI wo.heap.size wi2 A3 c3 ys ∧ Below wo.heap.size wo wi2) ∧ t7 = .slice A3 ys.length c3 ∧ t29 = .int .i64 J)
          case atStart => exact ⟨0, 0, A3, c3, ys, ⟨Nat.zero_le _, by omega, by omega, by simpa using HYS0.out, by omega, HO1.out, HBI.out⟩, rfl, rfl⟩
          case round =>
            clear HYS0 HO1 HBI
            obtain ⟨ii, J, A3, c3, ys, ⟨hii, hJ, hg3, hys, hyl, hli2, hbel2⟩, rfl, rfl⟩ := hrel
            obtain ⟨wi, rfl⟩ : ∃ wi : World, wi = wr := ⟨_, rfl⟩
            have HYS := Lib.hid hys
            have HO := Lib.hid hli2
            have HBI2 := Lib.hid hbel2
            have hHB2 := hbel2.size
            clear hys hli2 hbel2
            by_cases hi0 : ii = 0
            · subst hi0
              obtain rfl : J = 0 := by omega
              have hix : ∀ w, (Instr.index 60 (.agg #[.int .i64 r, .int .i64 (r + m)]) (.int .i64 0)).run Try.prog w = .ok (.int .i64 r) w := fun _ => by kernel_rfl
              clear hJ
              have hx0 : 0 ≤ r := by omega
              have hx1 : r ≤ 1000000000 := by omega
              have hsq : 0 ≤ r * r ∧ r * r ≤ 1000000000 * 1000000000 := ⟨Int.mul_nonneg hx0 hx0, Int.mul_le_mul hx1 hx1 hx0 (by omega)⟩
              obtain ⟨hsq1, hsq2⟩ := hsq
              cases hP : okR u m r with
              | true =>
                have hPb : ((r * r - u).tmod (2 * m) == 0) = true := hP
                have HYN : Hid (ys ++ [r] = (zs.take kk).flatMap (cand u m) ++ ([r, r + m].take 1).filter (okR u m)) := Lib.hid (by
                  rw [HYS.out, List.append_assoc]; congr 1; simp [hP, List.filter_cons]; try (split <;> simp))
                clear hP
                go_wp2_with (at_builtin; refine wpList_append_own _ rfl _ _ 74 rfl wo.heap.size 3 i0 (.int .i64 0) 1 8 Try.underlying74 hi hz0 hz1 hz2 rfl (by decide) _ _ _ rfl (HO.out.alloc _) ⟨wi.heap.size, 0, none⟩ 1 1 [.int .i64 r] rfl rfl (new_one _ _ _ _ rfl) (by intro u hu; simp at hu; subst hu; rfl) (by unfold maxLen; omega) (by omega) (by have := HBI2.out.size; simp; omega) ?_)
                intro v2 w2 hown2 hgrow2 _
                have hbel3 : Below wo.heap.size wo w2 := (HBI2.out.alloc HBI2.out.size _).grown hgrow2 (by have := HBI2.out.size; simp; omega) (fun j hj => HO.out.lt_own j hj)
                have hown3 : w2.ownsRow wo.heap.size 3 1 v2 (ys ++ [r]).length (ivs (ys ++ [r])) := by
                  rw [ivs_append, List.length_append]; exact hown2
                obtain ⟨A4, c4, rfl, hli4⟩ := LI.of hown3
                have HO4 := Lib.hid hli4
                have HB4 := Lib.hid hbel3
                have hyl4 : (ys ++ [r]).length ≤ 2 * kk + 1 := by simp; omega
                clear hown2 hgrow2 hown3 hbel3 hli4 HO HBI2
                go_wp2
                go_roundg (2 - 1)
                case rel => exact ⟨1, 1, A4, c4, ys ++ [r], ⟨by omega, by omega, by omega, HYN.out, hyl4, HO4.out, HB4.out⟩, rfl, by go_num⟩
                case measure => omega
              | false =>
                have hPb : ((r * r - u).tmod (2 * m) == 0) = false := hP
                have HYN : Hid (ys = (zs.take kk).flatMap (cand u m) ++ ([r, r + m].take 1).filter (okR u m)) := Lib.hid (by
                  rw [HYS.out]; congr 1; simp [hP, List.filter_cons])
                clear hP
                go_wp2
                go_roundg (2 - 1)
                case rel => exact ⟨1, 1, A3, c3, ys, ⟨by omega, by omega, by omega, HYN.out, by omega, HO.out, HBI2.out⟩, rfl, by go_num⟩
                case measure => omega
            · by_cases hi1' : ii = 1
              · subst hi1'
                obtain rfl : J = 1 := by omega
                have hix : ∀ w, (Instr.index 60 (.agg #[.int .i64 r, .int .i64 (r + m)]) (.int .i64 1)).run Try.prog w = .ok (.int .i64 (r + m)) w := fun _ => by kernel_rfl
                clear hJ
                have hx0 : 0 ≤ r + m := by omega
                have hx1 : r + m ≤ 1000000000 := by omega
                have hsq : 0 ≤ (r + m) * (r + m) ∧ (r + m) * (r + m) ≤ 1000000000 * 1000000000 := ⟨Int.mul_nonneg hx0 hx0, Int.mul_le_mul hx1 hx1 hx0 (by omega)⟩
                obtain ⟨hsq1, hsq2⟩ := hsq
                cases hP : okR u m (r + m) with
                | true =>
                  have hPb : (((r + m) * (r + m) - u).tmod (2 * m) == 0) = true := hP
                  have HYN : Hid (ys ++ [r + m] = (zs.take kk).flatMap (cand u m) ++ ([r, r + m].take 2).filter (okR u m)) := Lib.hid (by
                    rw [HYS.out, List.append_assoc]; congr 1; simp [hP, List.filter_cons]; try (split <;> simp))
                  clear hP
                  go_wp2_with (at_builtin; refine wpList_append_own _ rfl _ _ 74 rfl wo.heap.size 3 i0 (.int .i64 0) 1 8 Try.underlying74 hi hz0 hz1 hz2 rfl (by decide) _ _ _ rfl (HO.out.alloc _) ⟨wi.heap.size, 0, none⟩ 1 1 [.int .i64 (r + m)] rfl rfl (new_one _ _ _ _ rfl) (by intro u hu; simp at hu; subst hu; rfl) (by unfold maxLen; omega) (by omega) (by have := HBI2.out.size; simp; omega) ?_)
                  intro v2 w2 hown2 hgrow2 _
                  have hbel3 : Below wo.heap.size wo w2 := (HBI2.out.alloc HBI2.out.size _).grown hgrow2 (by have := HBI2.out.size; simp; omega) (fun j hj => HO.out.lt_own j hj)
                  have hown3 : w2.ownsRow wo.heap.size 3 1 v2 (ys ++ [r + m]).length (ivs (ys ++ [r + m])) := by
                    rw [ivs_append, List.length_append]; exact hown2
                  obtain ⟨A4, c4, rfl, hli4⟩ := LI.of hown3
                  have HO4 := Lib.hid hli4
                  have HB4 := Lib.hid hbel3
                  have hyl4 : (ys ++ [r + m]).length ≤ 2 * kk + 2 := by simp; omega
                  clear hown2 hgrow2 hown3 hbel3 hli4 HO HBI2
                  go_wp2
                  go_roundg (2 - 2)
                  case rel => exact ⟨2, 2, A4, c4, ys ++ [r + m], ⟨by omega, by omega, by omega, HYN.out, hyl4, HO4.out, HB4.out⟩, rfl, by go_num⟩
                  case measure => omega
                | false =>
                  have hPb : (((r + m) * (r + m) - u).tmod (2 * m) == 0) = false := hP
                  have HYN : Hid (ys = (zs.take kk).flatMap (cand u m) ++ ([r, r + m].take 2).filter (okR u m)) := Lib.hid (by
                    rw [HYS.out]; congr 1; simp [hP, List.filter_cons])
                  clear hP
                  go_wp2
                  go_roundg (2 - 2)
                  case rel => exact ⟨2, 2, A3, c3, ys, ⟨by omega, by omega, by omega, HYN.out, by omega, HO.out, HBI2.out⟩, rfl, by go_num⟩
                  case measure => omega
              · have hi2' : ii = 2 := by omega
                subst hi2'
                obtain rfl : J = 2 := by omega
                clear hJ
                have HYN : Hid (ys = (zs.take (kk + 1)).flatMap (cand u m)) := Lib.hid (by rw [take_flat hkz, HYS.out, EX.out]; rfl)
                go_wp2
                go_roundg (zs.length - (kk + 1))
                case rel => exact ⟨kk + 1, A3, c3, ys, ⟨by omega, by omega, HYN.out, by omega, HO.out, HBI2.out⟩, rfl, by go_num⟩
                case measure => omega
        · have hkk : kk = zs.length := by omega
          subst hkk
          have HN : Hid (IR u (m * 2) ys) := Lib.hid (by rw [HYS0.out, List.take_length, Int.mul_comm]; exact HR.out.step hm1)
          go_wp2
          go_roundg (e - (i + 1))
          case rel => exact ⟨i + 1, m * 2, A3, c3, ys, ⟨by omega, by omega, by omega, by rw [Int.pow_succ, ← HM.out], HN.out, by omega, HO1.out.mono hHB, HB.out.trans (HBI.out.mono hHB)⟩, rfl, by go_num⟩
          case measure => omega
    · have hie2 : i = e := by omega
      have hmq : m = q := by rw [HM.out, ← HQ.out, hie2]
      have HS := Lib.hid (srt_rts (by exact HR.out.1) (by exact HR.out.2))
      subst hie2 hmq
      go_wp2_with (go_at_call 139; fail)
      refine (sort_own w.heap.size zs.length _ zs _ HL.out (by omega)).mono ?_
      rintro e2 w2 ⟨rfl, hown, hgr⟩
      have HO := Lib.hid hown
      have HB1 : Hid (Below w.heap.size w w2) := Lib.hid (HB.out.grown hgr HB.out.size (fun j hj => (HL.out.lt_own j hj)))
      clear hown hgr
      go_wp2
      go_ret
      exact ⟨⟨_, _, rfl, HS.out, by rw [srt_length]; omega, by rw [srt_length]; exact HO.out⟩, HB1.out⟩
end Go.Proofs.Ytcbdnnboddahkaa.He
