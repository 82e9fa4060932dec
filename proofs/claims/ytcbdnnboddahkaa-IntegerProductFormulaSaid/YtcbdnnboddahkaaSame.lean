/-
  WALKS: two equal integers in normal form are told equal; whether integers have few words.
-/
import Derived.Test.YtcbdnnboddahkaaOf
namespace Go.Proofs.Ytcbdnnboddahkaa.Ws
open Go.RowKit
set_option linter.unusedVariables false
set_option maxRecDepth 100000
set_option maxHeartbeats 1000000 in
theorem same_any (z : Int) (u v : Value) (w : World) (hu : IntIs w z u) (hv : IntIs w z v) (hl : (W z.natAbs).length ≤ 1000000) :
    Calls Try.prog 24 #[u, v] w fun e w' => e = .returned (.bool true) ∧ Below w.heap.size w w' := by
  obtain ⟨X, c, rfl, hx⟩ := hu
  obtain ⟨Y, d, rfl, hy⟩ := hv
  have hcx := hx.le
  have hmx := hx.max
  have hcy := hy.le
  have hmy := hy.max
  have hB : Below w.heap.size w ((w.alloc (.cells #[.bool (decide (z < 0)), .slice X (W z.natAbs).length c] 24)).alloc (.cells #[.bool (decide (z < 0)), .slice Y (W z.natAbs).length d] 24)) := by go_grown
  have hC : Cl ((w.alloc (.cells #[.bool (decide (z < 0)), .slice X (W z.natAbs).length c] 24)).alloc (.cells #[.bool (decide (z < 0)), .slice Y (W z.natAbs).length d] 24)) w.heap.size (decide (z < 0)) X (W z.natAbs).length c :=
    ⟨by simp [go_sem], by simp [go_sem], by simp [go_sem], by simp [go_sem]⟩
  have hD : Cl ((w.alloc (.cells #[.bool (decide (z < 0)), .slice X (W z.natAbs).length c] 24)).alloc (.cells #[.bool (decide (z < 0)), .slice Y (W z.natAbs).length d] 24)) (w.heap.size + 1) (decide (z < 0)) Y (W z.natAbs).length d :=
    ⟨by simp [go_sem], by simp [go_sem], by simp [go_sem], by simp [go_sem]⟩
  have HX := Lib.hid (hx.below hB)
  have HY := Lib.hid (hy.below hB)
  have HB := Lib.hid hB
  have HC := Lib.hid hC
  have HD := Lib.hid hD
  have hns : ((W z.natAbs).length != (W z.natAbs).length) = false := by simp
  have hns2 : (((W z.natAbs).length : Int) != (W z.natAbs).length) = false := by simp
  obtain ⟨s, hs⟩ : ∃ s, s = decide (z < 0) := ⟨_, rfl⟩
  rw [← hs] at HX HY HB HC HD ⊢
  have hss : (s != s) = false := by simp
  clear hx hy hB hC hD hs
  go_enter Try.func24, Try.ntmps24
  go_wp2
  generalize ((w.alloc (Obj.cells #[Value.bool s, Value.slice X (W z.natAbs).length c] 24)).alloc (Obj.cells #[Value.bool s, Value.slice Y (W z.natAbs).length d] 24)) = W1 at *
  go_loopw [5] (fun t5 wr => ∃ i : Nat, (i ≤ (W z.natAbs).length ∧ Dr W1 wr) ∧ t5 = .int .i64 i) (fun t5 _ => (W z.natAbs).length - (intOf t5).toNat)
  case atStart => exact ⟨0, ⟨by omega, Dr.refl _⟩, rfl⟩
  case round =>
    obtain ⟨i, ⟨hi, hdr⟩, rfl⟩ := hrel
    obtain ⟨n, rfl⟩ := hdr
    have k1 : (W1.drewN n).cell? ⟨w.heap.size, 1, none⟩ = some (.slice X (W z.natAbs).length c) := HC.out.c1
    have k2 : (W1.drewN n).cell? ⟨w.heap.size + 1, 1, none⟩ = some (.slice Y (W z.natAbs).length d) := HD.out.c1
    have HN : Hid (Dr W1 (W1.drewN n)) := Lib.hid ⟨n, rfl⟩
    by_cases hlt : i < (W z.natAbs).length
    · obtain ⟨b, o, x, rfl, EX, hcell, hb⟩ := (HX.out.rd.drewN n).at_ hlt
      obtain ⟨b', o', y, rfl, EY, hcell', hb'⟩ := (HY.out.rd.drewN n).at_ hlt
      have hxy : x = y := by rw [← EX.out, ← EY.out]
      subst hxy
      have ht : ((x : Int) != x) = false := by simp
      have ki0 : (0 : Int) ≤ (i : Int) := by omega
      have ki1 : (i : Int) < ((W z.natAbs).length : Int) := by omega
      generalize W1.drewN n = W2 at *
      go_wp2
      go_quiet (fail)
      go_wp2
      go_roundw
      case rel => exact ⟨i + 1, ⟨by omega, HN.out.step _⟩, by go_num⟩
      case measure => simp [intOf]; omega
    · generalize W1.drewN n = W2 at *
      go_wp2
      go_ret
      exact ⟨rfl, HB.out.trans (HN.out.below.mono HB.out.size)⟩
/-- whether integers have few words -/
def fewB (ls : List Nat) : Bool := ls.all (· ≤ 6)
structure Args (w : World) (g : Nat) (ls : List Nat) : Prop where
  cell : ∀ i, i < ls.length → ∃ A c, w.cell? ⟨g, i * 2 + 1, none⟩ = some (.slice A (ls.getD i 0) c)
theorem few_no {ls : List Nat} {i : Nat} (hi : i < ls.length) (h : 6 < ls.getD i 0) : false = fewB ls := by
  unfold fewB
  symm
  rw [List.all_eq_false]
  refine ⟨ls.getD i 0, ?_, by rw [decide_eq_true_iff]; omega⟩
  rw [List.getD_eq_getElem?_getD, List.getElem?_eq_getElem hi]
  exact List.getElem_mem hi
theorem few_yes {ls : List Nat} (h : ∀ j, j < ls.length → ls.getD j 0 ≤ 6) : true = fewB ls := by
  unfold fewB
  symm
  rw [List.all_eq_true]
  intro x hx
  obtain ⟨j, hj, rfl⟩ := List.getElem_of_mem hx
  have := h j hj
  rw [List.getD_eq_getElem?_getD, List.getElem?_eq_getElem hj] at this
  simpa using this
theorem retb' {a b : Bool} (h : a = b) : Ending.returned (.bool a) = .returned (.bool b) := by rw [h]
set_option maxHeartbeats 1000000 in
theorem short_any (g : Nat) (ls : List Nat) (w : World) (h : Args w g ls) (hl : ls.length ≤ 1000) (hls : ∀ x ∈ ls, x ≤ 9223372036854775807) :
    Calls Try.prog 19 #[.slice (some ⟨g, 0, none⟩) ls.length ls.length] w fun e w' => e = .returned (.bool (fewB ls)) ∧ w = w' := by
  have HA := Lib.hid h
  have HL := Lib.hid hls
  clear h hls
  go_enter Try.func19, Try.ntmps19
  go_wp2
  go_loop [3] (fun t3 => ∃ i : Nat, (i ≤ ls.length ∧ Hid (∀ j, j < i → ls.getD j 0 ≤ 6)) ∧ t3 = .int .i64 i) (fun t3 => ls.length - (intOf t3).toNat)
  case atStart => exact ⟨0, ⟨by omega, Lib.hid (fun j hj => by omega)⟩, rfl⟩
  case round =>
    obtain ⟨i, ⟨hi, HP⟩, rfl⟩ := hrel
    by_cases hlt : i < ls.length
    · obtain ⟨A, c, hc⟩ := HA.out.cell i hlt
      obtain ⟨x, hx⟩ : ∃ x, x = ls.getD i 0 := ⟨_, rfl⟩
      rw [← hx] at hc
      have hxm : x ≤ 9223372036854775807 := by
        rw [hx, List.getD_eq_getElem?_getD, List.getElem?_eq_getElem hlt]; exact HL.out _ (List.getElem_mem hlt)
      have HXX := Lib.hid hx
      clear hx
      by_cases h6 : x ≤ 6
      · go_wp2
        go_round
        case rel => exact ⟨i + 1, ⟨by omega, Lib.hid (fun j hj => by
          rcases Nat.lt_or_ge j i with h | h
          · exact HP.out j h
          · have : j = i := by omega
            rw [this, ← HXX.out]; exact h6)⟩, by go_num⟩
        case measure => simp [intOf]; omega
      · have HF := Lib.hid (few_no hlt (by rw [← HXX.out]; omega))
        go_wp2
        go_ret
        exact ⟨retb' HF.out, rfl⟩
    · have HF := Lib.hid (few_yes (fun j hj => HP.out j (by omega)))
      go_wp2
      go_ret
      exact ⟨retb' HF.out, rfl⟩
end Go.Proofs.Ytcbdnnboddahkaa.Ws
