/-
  A list of elements that came in, opened.
-/
import Derived.Test.YtjloanplhbbomaaDoorLwO
import Derived.Test.YtjloanplhbbomaaDoorAlK
import Derived.Deep.SlicePairs
namespace Go.Proofs.YtjloanplhbbomaaDoor.Al
open Go.RowKit Go.Joins Go.ChangeShapes Go.WideShapes Go.ChangeAt Go.Deep
open Alm
set_option linter.unusedVariables false
set_option linter.unusedSimpArgs false
set_option maxRecDepth 100000
theorem open_quats {H : Type} {enc : TypeId × Value → H} {W : World} {base : Nat} {spare : Nat → Bool} {held : Bool} {v : Value} {d : DataW H} {p : List MemPlace}
    {base0 : Nat} (hv : Value.okWide Tryd.prog W .any base0 48 v) (h : DataW.Trod enc Tryd.prog W base spare held 48 v d p) : ∃ L n c, v = .slice L n c ∧ Qs W L n c := by
  obtain ⟨a0, l0, cap0, rfl⟩ := okWide_slice Tryd.underlying48 hv
  refine ⟨a0, l0, cap0, rfl, fun h2 => ?_⟩
  subst h2
  obtain ⟨k, t0⟩ := h
  rcases Go.Deep.open_slice Tryd.underlying48 t0 with hc | ⟨a, len, cap, m, n, D, Pl, hc, hb, hl, hm, hmm, hx, hall⟩
  · have := hc.1
    simp [Value.cells] at this
  · simp [Value.cells] at hc
    obtain ⟨rfl, rfl, rfl⟩ := hc
    have hlm : 2 ≤ m := by rw [hmm]; split <;> omega
    have ce : Tryd.prog.cellsOf 25 = 5 := by kernel_rfl
    have each : ∀ i, i < 2 → ∃ n0 n1 n2 n3 n4 : Int, W.cell? (a.add (i * 5)) = some (.int .i64 n0) ∧ W.cell? (a.add (i * 5 + 1)) = some (.int .i64 n1) ∧ W.cell? (a.add (i * 5 + 2)) = some (.int .i64 n2) ∧ W.cell? (a.add (i * 5 + 3)) = some (.int .i64 n3) ∧ W.cell? (a.add (i * 5 + 4)) = some (.int .i64 n4) := by
      intro i hi
      obtain ⟨cs', h1, h2⟩ := hall i (by omega)
      rw [ce] at h1
      obtain ⟨_, hlen, hcell⟩ := World.cells?_some h1
      match cs', hlen with
      | [v0, v1, v2, v3, v4], _ =>
        obtain ⟨n0, n1, n2, n3, n4, rfl, rfl, rfl, rfl, rfl, -⟩ := five_trod h2
        have e0 := hcell 0 (by omega)
        have e1 := hcell 1 (by omega)
        have e2 := hcell 2 (by omega)
        have e3 := hcell 3 (by omega)
        have e4 := hcell 4 (by omega)
        rw [Go.Deep.add_add] at e0 e1 e2 e3 e4
        exact ⟨n0, n1, n2, n3, n4, by simpa using e0, by simpa using e1, by simpa using e2, by simpa using e3, by simpa using e4⟩
    obtain ⟨x0, x1, x2, x3, x4, f0, f1, f2, f3, f4⟩ := each 0 (by omega)
    obtain ⟨y0, y1, y2, y3, y4, g0, g1, g2, g3, g4⟩ := each 1 (by omega)
    obtain ⟨b, o, spot⟩ := a
    have hspot : spot = none := by simpa [Addr.add] using World.cell?_spot f0
    subst hspot
    simp [Addr.add] at f0 f1 f2 f3 f4 g0 g1 g2 g3 g4
    refine ⟨b, o, x0, x1, x2, x3, x4, y0, y1, y2, y3, y4, rfl, ⟨fun x hx => ?_, by simp, by simp, Below.refl _ _⟩, hl, by unfold maxLen at hm; omega⟩
    simp only [List.mem_cons, List.not_mem_nil, or_false] at hx
    rcases hx with rfl | rfl | rfl | rfl | rfl | rfl | rfl | rfl | rfl | rfl <;> assumption
end Go.Proofs.YtjloanplhbbomaaDoor.Al
