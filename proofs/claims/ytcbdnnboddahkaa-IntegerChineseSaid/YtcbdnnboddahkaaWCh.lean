/-
  The walk of the law IntegerChinese; a list of residues that came in, opened.
-/
import Derived.Test.YtcbdnnboddahkaaChr
import Derived.Test.YtcbdnnboddahkaaAwake
import Derived.Deep.SlicePairs
import Derived.ProofKit
import Derived.OpenShut
namespace Go.Proofs.Ytcbdnnboddahkaa.Cn
open Go.RowKit Ws Go.ChangeShapes Go.WideShapes
set_option linter.unusedVariables false
set_option maxRecDepth 100000
theorem list_of {P : Nat → Int × Int → Prop} : ∀ n, (∀ i, i < n → ∃ q, P i q) → ∃ l : List (Int × Int), l.length = n ∧ ∀ i, i < n → P i (l.getD i (0, 0)) := by
  intro n
  induction n with
  | zero => intro _; exact ⟨[], rfl, fun i h => by omega⟩
  | succ n ih =>
    intro h
    obtain ⟨l, hl, hp⟩ := ih fun i hi => h i (by omega)
    obtain ⟨q, hq⟩ := h n (by omega)
    refine ⟨l ++ [q], by simp [hl], fun i hi => ?_⟩
    rcases Nat.lt_or_ge i n with h1 | h1
    · rw [List.getD_eq_getElem?_getD, List.getElem?_append_left (by omega), ← List.getD_eq_getElem?_getD]
      exact hp i h1
    · have : i = n := by omega
      subst this
      rw [List.getD_eq_getElem?_getD, List.getElem?_append_right (by omega)]
      simpa [hl] using hq
theorem open_Rs {H : Type} {enc : TypeId × Value → H} {W : World} {base : Nat} {spare : Nat → Bool} {held : Bool} {v : Value} {d : DataW H} {p : List MemPlace}
    {base0 : Nat} (hv : Value.okWide Try.prog W .any base0 64 v) (h : DataW.Trod enc Try.prog W base spare held 64 v d p) : ∃ A c ps, v = .slice A (List.length ps) c ∧ Rs W A ps ∧ List.length ps ≤ c ∧ c ≤ 9223372036854775807 := by
  obtain ⟨a0, l0, c0, rfl⟩ := okWide_slice Try.underlying64 hv
  obtain ⟨n, t0⟩ := h
  rcases Go.Deep.open_slice_pairs Try.underlying64 Try.underlying66 (by kernel_rfl) rfl rfl (by kernel_rfl) (by kernel_rfl) t0 with ⟨hc, hx⟩ | ⟨a, len, cap, m, k, V0, V1, D0, D1, P0, P1, hc, _, hl, hm, hmm, hx, hall⟩
  · simp [Value.cells] at hc
    obtain ⟨rfl, rfl, rfl⟩ := hc
    exact ⟨none, 0, [], rfl, fun h => by simp at h, Nat.le_refl _, by omega⟩
  · simp [Value.cells] at hc
    obtain ⟨rfl, rfl, rfl⟩ := hc
    have hlm : l0 ≤ m := by rw [hmm]; split <;> omega
    have each : ∀ i, i < l0 → ∃ q : Int × Int, W.cell? (a.add (i * 2)) = some (.int .i64 q.1) ∧ W.cell? (a.add (i * 2 + 1)) = some (.int .i64 q.2) := by
      intro i hi
      obtain ⟨h1, h2, h3, h4⟩ := hall i (by omega)
      obtain ⟨x, hx1, -, -⟩ := DataW.trod_int Try.underlying3 h3
      obtain ⟨y, hy1, -, -⟩ := DataW.trod_int Try.underlying3 h4
      simp only [List.cons.injEq, and_true] at hx1 hy1
      exact ⟨(x, y), by rw [h1, hx1], by rw [h2, hy1]⟩
    obtain ⟨l, hl1, hl2⟩ := list_of l0 each
    refine ⟨some a, c0, l, by rw [hl1], ?_, by omega, by unfold maxLen at hm; omega⟩
    intro h0
    obtain ⟨b, o, spot⟩ := a
    have hspot : spot = none := by simpa [Addr.add] using World.cell?_spot (hl2 0 (by omega)).1
    subst hspot
    refine ⟨b, o, rfl, fun j hj => ?_⟩
    have := hl2 j (by omega)
    rw [add_lit', add_lit', ← Nat.add_assoc] at this
    exact this
set_option maxHeartbeats 1000000 in
theorem walk_chinese (A : Option Addr) (c : Nat) (ps : List (Int × Int)) (w : World) (hA : Rs w A ps) (hc : ps.length ≤ c) (hcm : c ≤ 9223372036854775807) :
    Calls Try.prog 10 #[.slice A ps.length c] w fun e w' => e = .returned (.bool true) ∧ Below w.heap.size w w' := by
  have HA := Lib.hid hA
  clear hA
  by_cases hlen : 25 < ps.length
  · go_enter Try.func10, Try.ntmps10
    go_wp2_with fail
    refine (awake_any _).mono ?_
    rintro e w2 ⟨rfl, hb⟩
    have HB := Lib.hid hb
    clear hb
    go_wp2
    go_ret
    exact ⟨rfl, HB.out⟩
  · have hps : ps.length ≤ 25 := by omega
    go_enter Try.func10, Try.ntmps10
    go_wp2_with fail
    refine (chin_any A c ps _ HA.out hc hcm).mono ?_
    rintro e w1 ⟨⟨R, M, q, hco, rfl⟩, hb1⟩
    have HCO := Lib.hid hco
    have hB2 : Below w1.heap.size w1 (w1.alloc (Obj.cells #[Value.int IntKind.i64 R, Value.int IntKind.i64 M] 66)) := by go_grown
    have HB2 := Lib.hid (hb1.trans (hB2.mono hb1.size))
    have HP2 := Lib.hid (Pt.new w1 R M)
    clear hco hb1 hB2
    go_wp2_with fail
    generalize (w1.alloc (Obj.cells #[Value.int IntKind.i64 R, Value.int IntKind.i64 M] 66)) = W2 at *
    generalize w1.heap.size = g3 at *
    refine (rchin_any A c ps _ (HA.out.below HB2.out) hc hcm).mono ?_
    rintro e w3 ⟨⟨R', M', q', hco', rfl⟩, hb3⟩
    obtain ⟨rfl, rfl, rfl⟩ := HCO.out.unique hco'
    have hB4 : Below w3.heap.size w3 (w3.alloc (Obj.cells #[Value.int IntKind.i64 R, Value.int IntKind.i64 M] 66)) := by go_grown
    have HB4 := Lib.hid ((HB2.out.trans (hb3.mono HB2.out.size)).trans (hB4.mono (by have := HB2.out.size; have := hb3.size; omega)))
    have HP4 := Lib.hid ((HP2.out.below hb3 HP2.out.lt).below hB4 (Nat.lt_of_lt_of_le HP2.out.lt hb3.size))
    have HP5 := Lib.hid (Pt.new w3 R M)
    clear hco' hb3 hB4 HP2 HB2
    obtain ⟨p0, p1, -, -⟩ := HP4.out
    obtain ⟨q0, q1, -, -⟩ := HP5.out
    have hqq : (q != q) = false := by simp
    by_cases hq : q = 0
    · subst hq
      have HLAW := Lib.hid HCO.out.law
      obtain ⟨b1, b2, b3, b4⟩ := HCO.out.bd
      clear hqq q0 q1 HP5
      have hpx := Pt.new w3 R M
      obtain ⟨q0, q1, -, -⟩ := hpx
      go_wp2_with fail
      generalize (w3.alloc (Obj.cells #[Value.int IntKind.i64 R, Value.int IntKind.i64 M] 66)) = W5 at *
      clear q0 q1 p0 p1
      go_loopg [7] ps.length (fun gg t7 wr => ∃ kk : Nat, (kk ≤ ps.length ∧ ps.length - kk ≤ gg ∧ Pt wr g3 R M ∧ Below w.heap.size w wr) ∧ t7 = .int .i64 kk)
      case atStart => exact ⟨0, ⟨Nat.zero_le _, by omega, HP4.out, HB4.out⟩, rfl⟩
      case round =>
        obtain ⟨kk, ⟨hk, hg, hpt, hbel⟩, rfl⟩ := hrel
        obtain ⟨wi, rfl⟩ : ∃ wi : World, wi = wr := ⟨_, rfl⟩
        have HPT := Lib.hid hpt
        have HBI := Lib.hid hbel
        clear hpt hbel HP4 HB4
        by_cases hlt : kk < ps.length
        · obtain ⟨b, o, r, m, rfl, EQ, hc1, hc2, hbb⟩ := (HA.out.below HBI.out).at_ hlt
          obtain ⟨⟨hm1, hm2⟩, hdv, hmod⟩ := HLAW.out kk hlt
          rw [EQ.out] at hm1 hm2 hdv hmod
          have hm1 : 1 ≤ m := hm1
          have hm2 : m ≤ 1000000000 := hm2
          have hrem : (M % m != 0) = false := by rw [Int.emod_eq_zero_of_dvd hdv]; rfl
          have hne : (R % m != r % m) = false := by rw [show R % m = r % m from hmod]; simp
          obtain ⟨p0, p1, -, -⟩ := HPT.out
          clear hdv hmod
          go_wp2
          go_quiet ((go_at_call 50; exact quietE (bmod_any _ _ _ (by omega) (by omega))))
          go_wp2
          go_roundg (ps.length - (kk + 1))
          case rel => exact ⟨kk + 1, ⟨by omega, by omega, HPT.out.drewN nq, below_drawn HBI.out nq⟩, by go_num⟩
          case measure => omega
        · go_wp2_with fail
          refine (awake_any _).mono ?_
          rintro e w9 ⟨rfl, hb9⟩
          have HB9 := Lib.hid (HBI.out.trans (hb9.mono HBI.out.size))
          clear hb9
          go_wp2
          go_ret
          exact ⟨rfl, HB9.out⟩
    · have hq0 : (q == 0) = false := by rw [beq_eq_false_iff_ne]; exact hq
      clear hq
      go_wp2_with fail
      generalize (w3.alloc (Obj.cells #[Value.int IntKind.i64 R, Value.int IntKind.i64 M] 66)) = W5 at *
      clear q0 q1 p0 p1 HP5 hqq HP4
      refine wp_loop_rounds 1 ?_
      rw [rounds_succ]
      by_cases h0 : 0 < ps.length
      all_goals
        go_wp2_with fail
        refine (awake_any _).mono ?_
        rintro e w9 ⟨rfl, hb9⟩
        have HB9 := Lib.hid (HB4.out.trans (hb9.mono HB4.out.size))
        clear hb9
        go_wp2
        go_ret
        exact ⟨rfl, HB9.out⟩
end Go.Proofs.Ytcbdnnboddahkaa.Cn
