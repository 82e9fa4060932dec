/-
  WALKS of the reference: a machine integer as an integer of words.
-/
import Derived.Test.YtcbdnnboddahkaaRmade
namespace Go.Proofs.Ytcbdnnboddahkaa.Ws
open Go.RowKit
set_option linter.unusedVariables false
set_option maxRecDepth 100000
/-- what a round keeps: the digits so far and those to come -/
def OfInv (N a : Nat) (zs : List Nat) : Prop := zs ++ D a = D N ∧ a ≤ N
theorem OfInv.step {N a : Nat} {zs : List Nat} (h : OfInv N a zs) (ha : a ≠ 0) : OfInv N (a / 65536) (zs ++ [a % 65536]) :=
  ⟨dgs_split (by decide) h.1 ha, by have := h.2; omega⟩
theorem OfInv.len {N a : Nat} {zs : List Nat} (h : OfInv N a zs) (hN : N < 18446744073709551616) : zs.length ≤ 4 := by
  have h1 : (D N).length ≤ 4 := dgs_length_le 65536 (by decide) 4 N (by rw [show 65536 ^ 4 = 18446744073709551616 from by decide]; exact hN)
  rw [← h.1, List.length_append] at h1; omega
set_option maxHeartbeats 4000000 in
theorem rOf_any (n : Int) (w : World) (h1 : -9223372036854775808 ≤ n) (h2 : n ≤ 9223372036854775807) :
    Calls Try.prog 25 #[.int .i64 n] w fun e w' => IntOut w n e w' := by
  obtain ⟨i0, hi, hz0, hz1, hz2⟩ := info_parts infoI
  by_cases hn : n < 0
  · obtain ⟨N, hN⟩ : ∃ N : Nat, n = -(N : Int) := ⟨n.natAbs, by omega⟩
    subst hN
    have hNp : 0 < N := by omega
    have hNb : N ≤ 9223372036854775808 := by omega
    have hd : decide ((-(N : Int)) < 0) = true := by simp; omega
    clear h1 h2
    go_enter Try.func25, Try.ntmps25
    go_wp2
    go_loopw [0, 3, 5] (fun t0 t3 _ wr => ∃ (a : Nat) (zs : List Nat), (OfInv N a zs ∧ wr.ownsRow (w.heap.size + 1) 3 1 t3 zs.length (vals .i64 zs) ∧ Cl wr w.heap.size false none 0 0 ∧ w.heap.size + 1 ≤ wr.heap.size ∧ Below w.heap.size w wr) ∧ t0 = .int .i64 (-(a : Int))) (fun t0 _ _ _ => (intOf t0).natAbs)
    case atStart => exact ⟨N, [], ⟨⟨rfl, Nat.le_refl _⟩, World.ownsRow_nil _ _ _ _, cl_new1 w, by simp, (Below.refl _ _).alloc (Nat.le_refl _) _⟩, rfl⟩
    case round =>
      obtain ⟨a, zs, ⟨hinv, hown, hcl, hsz, hbel⟩, rfl⟩ := hrel
      obtain ⟨wo, rfl⟩ : ∃ wo : World, wo = wr := ⟨_, rfl⟩
      have haN := hinv.2
      have hzl := hinv.len (by omega)
      have HI := Lib.hid hinv
      have HO := Lib.hid hown
      have HC := Lib.hid hcl
      have HB := Lib.hid hbel
      clear hinv hown hcl hbel
      by_cases ha : a = 0
      · subst ha
        have hzD : zs = D N := by have := HI.out.1; rw [show D 0 = [] from rfl, List.append_nil] at this; exact this
        subst hzD
        obtain ⟨A1, c1, rfl, -, hs⟩ := own_sl HO.out
        have HS := Lib.hid hs
        clear hs
        go_wp2_with fail
        refine (rmade_any true A1 c1 (D N) N _ HS.out (by omega) (D_lt N) (val_D N)).mono ?_
        rintro e w1 ⟨v, rfl, hi1, hbel⟩
        simp only [if_true] at hi1
        have hi2 := Lib.hid hi1
        obtain ⟨A2, c2, rfl, -⟩ := hi1
        obtain ⟨q1, q2, q3, q4⟩ := HC.out.below hbel (by omega)
        have HB1 := Lib.hid (HB.out.trans (hbel.mono HB.out.size))
        have hdz : decide ((-(N : Int)) < 0) = true := hd
        clear hbel
        go_wp2
        refine bodyPost_ret (v := .agg #[.bool true, .slice A2 (W (-(N : Int)).natAbs).length c2]) (by simp [results, Try.results25, go_sem, q1, q2]) rfl ?_
        have hf := hi2.out
        rw [hdz] at hf
        have h5 := Cl.stored ⟨q1, q2, q3, q4⟩ hf HB1.out (Nat.le_refl _)
        first | exact h5 | (simp only [Int.natAbs_neg, Int.natAbs_natCast] at h5 ⊢; exact h5)
      · have hne : (-(a : Int) != 0) = true := by rw [bne_iff_ne]; omega
        by_cases hr : a % 65536 = 0
        · have hr' : (a : Int) % 65536 ≤ 0 := by omega
          go_wp2_with (at_builtin; refine wpList_append_own _ rfl _ _ 74 rfl (w.heap.size + 1) 3 i0 (.int .i64 0) 1 8 Try.underlying74 hi hz0 hz1 hz2 rfl (by decide) _ _ _ rfl (HO.out.alloc _) ⟨wo.heap.size, 0, none⟩ 1 1 [.int .i64 (-((a : Int) % 65536))] rfl rfl (new_one _ _ _ _ rfl) (by intro u hu; simp at hu; subst hu; rfl) (by unfold maxLen; omega) (by omega) (by simp; omega) ?_)
          intro v2 w2 hown2 hgrow2 _
          have hbg : Below (w.heap.size + 1) wo w2 := ((Below.refl _ _).alloc (by omega) _).grown hgrow2 (by simp; omega) (fun j hj => (HO.out.lt j hj).1)
          have hown3 : w2.ownsRow (w.heap.size + 1) 3 1 v2 (zs ++ [a % 65536]).length (vals .i64 (zs ++ [a % 65536])) := by
            rw [vals_append, List.length_append]
            have e0 : vals .i64 [a % 65536] = [.int .i64 (-((a : Int) % 65536))] := by unfold vals; simp only [List.map_cons, List.map_nil]; rw [show ((a % 65536 : Nat) : Int) = -((a : Int) % 65536) from by omega]
            rw [e0]; exact hown2
          have HC2 := Lib.hid (HC.out.below hbg (by omega))
          have hz3 := hbg.size
          have HB2 := Lib.hid (HB.out.trans (hbg.mono (by omega)))
          have H3 := Lib.hid hown3
          have HN := Lib.hid (HI.out.step ha)
          clear hown2 hgrow2 hown3 hbg
          go_wp2
          go_roundw
          case rel => exact ⟨a / 65536, zs ++ [a % 65536], ⟨HN.out, H3.out, HC2.out, by omega, HB2.out⟩, by go_num⟩
          case measure => simp [intOf]; omega
        · have hr' : 0 < (a : Int) % 65536 := by omega
          go_wp2_with (at_builtin; refine wpList_append_own _ rfl _ _ 74 rfl (w.heap.size + 1) 3 i0 (.int .i64 0) 1 8 Try.underlying74 hi hz0 hz1 hz2 rfl (by decide) _ _ _ rfl (HO.out.alloc _) ⟨wo.heap.size, 0, none⟩ 1 1 [.int .i64 ((a : Int) % 65536)] rfl rfl (new_one _ _ _ _ rfl) (by intro u hu; simp at hu; subst hu; rfl) (by unfold maxLen; omega) (by omega) (by simp; omega) ?_)
          intro v2 w2 hown2 hgrow2 _
          have hbg : Below (w.heap.size + 1) wo w2 := ((Below.refl _ _).alloc (by omega) _).grown hgrow2 (by simp; omega) (fun j hj => (HO.out.lt j hj).1)
          have hown3 : w2.ownsRow (w.heap.size + 1) 3 1 v2 (zs ++ [a % 65536]).length (vals .i64 (zs ++ [a % 65536])) := by
            rw [vals_append, List.length_append]
            have e0 : vals .i64 [a % 65536] = [.int .i64 ((a : Int) % 65536)] := by unfold vals; simp only [List.map_cons, List.map_nil]; rw [show ((a % 65536 : Nat) : Int) = (a : Int) % 65536 from by omega]
            rw [e0]; exact hown2
          have HC2 := Lib.hid (HC.out.below hbg (by omega))
          have hz3 := hbg.size
          have HB2 := Lib.hid (HB.out.trans (hbg.mono (by omega)))
          have H3 := Lib.hid hown3
          have HN := Lib.hid (HI.out.step ha)
          clear hown2 hgrow2 hown3 hbg
          go_wp2
          go_roundw
          case rel => exact ⟨a / 65536, zs ++ [a % 65536], ⟨HN.out, H3.out, HC2.out, by omega, HB2.out⟩, by go_num⟩
          case measure => simp [intOf]; omega
  · obtain ⟨N, hN⟩ : ∃ N : Nat, n = (N : Int) := ⟨n.natAbs, by omega⟩
    subst hN
    have hNp : 0 ≤ N := by omega
    have hNb : N ≤ 9223372036854775808 := by omega
    have hd : decide (((N : Int)) < 0) = false := by simp
    clear h1 h2
    go_enter Try.func25, Try.ntmps25
    go_wp2
    go_loopw [0, 3, 5] (fun t0 t3 _ wr => ∃ (a : Nat) (zs : List Nat), (OfInv N a zs ∧ wr.ownsRow (w.heap.size + 1) 3 1 t3 zs.length (vals .i64 zs) ∧ Cl wr w.heap.size false none 0 0 ∧ w.heap.size + 1 ≤ wr.heap.size ∧ Below w.heap.size w wr) ∧ t0 = .int .i64 ((a : Int))) (fun t0 _ _ _ => (intOf t0).natAbs)
    case atStart => exact ⟨N, [], ⟨⟨rfl, Nat.le_refl _⟩, World.ownsRow_nil _ _ _ _, cl_new1 w, by simp, (Below.refl _ _).alloc (Nat.le_refl _) _⟩, rfl⟩
    case round =>
      obtain ⟨a, zs, ⟨hinv, hown, hcl, hsz, hbel⟩, rfl⟩ := hrel
      obtain ⟨wo, rfl⟩ : ∃ wo : World, wo = wr := ⟨_, rfl⟩
      have haN := hinv.2
      have hzl := hinv.len (by omega)
      have HI := Lib.hid hinv
      have HO := Lib.hid hown
      have HC := Lib.hid hcl
      have HB := Lib.hid hbel
      clear hinv hown hcl hbel
      by_cases ha : a = 0
      · subst ha
        have hzD : zs = D N := by have := HI.out.1; rw [show D 0 = [] from rfl, List.append_nil] at this; exact this
        subst hzD
        obtain ⟨A1, c1, rfl, -, hs⟩ := own_sl HO.out
        have HS := Lib.hid hs
        clear hs
        go_wp2_with fail
        refine (rmade_any false A1 c1 (D N) N _ HS.out (by omega) (D_lt N) (val_D N)).mono ?_
        rintro e w1 ⟨v, rfl, hi1, hbel⟩
        simp only [Bool.false_eq_true, if_false] at hi1
        have hi2 := Lib.hid hi1
        obtain ⟨A2, c2, rfl, -⟩ := hi1
        obtain ⟨q1, q2, q3, q4⟩ := HC.out.below hbel (by omega)
        have HB1 := Lib.hid (HB.out.trans (hbel.mono HB.out.size))
        have hdz : decide (((N : Int)) < 0) = false := hd
        clear hbel
        go_wp2
        refine bodyPost_ret (v := .agg #[.bool false, .slice A2 (W ((N : Int)).natAbs).length c2]) (by simp [results, Try.results25, go_sem, q1, q2]) rfl ?_
        have hf := hi2.out
        rw [hdz] at hf
        have h5 := Cl.stored ⟨q1, q2, q3, q4⟩ hf HB1.out (Nat.le_refl _)
        first | exact h5 | (simp only [Int.natAbs_neg, Int.natAbs_natCast] at h5 ⊢; exact h5)
      · have hne : ((a : Int) != 0) = true := by rw [bne_iff_ne]; omega
        by_cases hr : True
        · have hr' : ¬ (a : Int) % 65536 < 0 := by omega
          go_wp2_with (at_builtin; refine wpList_append_own _ rfl _ _ 74 rfl (w.heap.size + 1) 3 i0 (.int .i64 0) 1 8 Try.underlying74 hi hz0 hz1 hz2 rfl (by decide) _ _ _ rfl (HO.out.alloc _) ⟨wo.heap.size, 0, none⟩ 1 1 [.int .i64 ((a : Int) % 65536)] rfl rfl (new_one _ _ _ _ rfl) (by intro u hu; simp at hu; subst hu; rfl) (by unfold maxLen; omega) (by omega) (by simp; omega) ?_)
          intro v2 w2 hown2 hgrow2 _
          have hbg : Below (w.heap.size + 1) wo w2 := ((Below.refl _ _).alloc (by omega) _).grown hgrow2 (by simp; omega) (fun j hj => (HO.out.lt j hj).1)
          have hown3 : w2.ownsRow (w.heap.size + 1) 3 1 v2 (zs ++ [a % 65536]).length (vals .i64 (zs ++ [a % 65536])) := by
            rw [vals_append, List.length_append]
            have e0 : vals .i64 [a % 65536] = [.int .i64 ((a : Int) % 65536)] := by unfold vals; simp only [List.map_cons, List.map_nil]; rw [show ((a % 65536 : Nat) : Int) = (a : Int) % 65536 from by omega]
            rw [e0]; exact hown2
          have HC2 := Lib.hid (HC.out.below hbg (by omega))
          have hz3 := hbg.size
          have HB2 := Lib.hid (HB.out.trans (hbg.mono (by omega)))
          have H3 := Lib.hid hown3
          have HN := Lib.hid (HI.out.step ha)
          clear hown2 hgrow2 hown3 hbg
          go_wp2
          go_roundw
          case rel => exact ⟨a / 65536, zs ++ [a % 65536], ⟨HN.out, H3.out, HC2.out, by omega, HB2.out⟩, by go_num⟩
          case measure => simp [intOf]; omega
        · exact absurd trivial hr
end Go.Proofs.Ytcbdnnboddahkaa.Ws
