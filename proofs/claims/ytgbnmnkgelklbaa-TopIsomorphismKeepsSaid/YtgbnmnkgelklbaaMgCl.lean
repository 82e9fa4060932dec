/-
  CLOSED FACTS on the program of this seat, that each law's row asks: once for all.
  Arguments that came in, opened: algebras, fractions, elements.
  Opening two elements as the walk hands them.
-/
import Derived.Test.YtgbnmnkgelklbaaRows
import Derived.WalkKit
import Derived.ProofKit
import Derived.OpenShut
import Derived.Test.YtgbnmnkgelklbaaChecked
import Derived.KernelRfl
import Derived.Lib.SmallJoins
import Derived.LaidMore
import Derived.Stop.Joined
namespace Go.Proofs.Ytgbnmnkgelklbaa.Closed
theorem own : ownKnob Try.prog.godebug = none := by kernel_rfl
theorem laidOut : laidOutB Try.prog = true := by kernel_rfl
theorem k1 : (laidOutB Try.prog) = true := by kernel_rfl
theorem k2 : (mapsRowed Try.prog) = true := by kernel_rfl
theorem k6 : ((Try.prog.stops == [])) = true := by kernel_rfl
theorem k8 : ((Try.prog.stopKnobs == [])) = true := by kernel_rfl
theorem k22 : ((Rows.topIsomorphismKeepsRow.plainKeys == Try.prog.plainKeys)) = true := by kernel_rfl
theorem k24 : (Try.prog.stopsHeard) = true := by kernel_rfl
theorem k25 : (Try.prog.mayEnter) = true := by kernel_rfl
theorem k26 : ((Rows.topIsomorphismKeepsRow.lifted == Try.prog.liftsFinal)) = true := by kernel_rfl
theorem k27 : ((Try.prog.make == some Rows.topIsomorphismKeepsRow.make)) = true := by kernel_rfl
end Go.Proofs.Ytgbnmnkgelklbaa.Closed
namespace Go.Proofs.Ytgbnmnkgelklbaa.Al
open Go.Joins Go.ChangeShapes Go.WideShapes Go.ChangeAt Go.RowKit Go.Deep
set_option maxRecDepth 100000
section
variable {H : Type} {enc : TypeId × Value → H} {w : World} {base : Nat} {spare : Nat → Bool} {held : Bool}
theorem open_alg {r : Reach} {b0 : Nat} {v : Value} {d : DataW H} {p : List MemPlace} (hv : Value.okWide Try.prog w r b0 23 v) (h : DataW.Trod enc Try.prog w base spare held 23 v d p) :
    ∃ n0 n1 : Int, v = .agg #[.int .i64 n0, .int .i64 n1] ∧ (Lit.int .i64 n0).wf = true ∧ (Lit.int .i64 n1).wf = true := by
  obtain ⟨v0, v1, y0, y1, n, rfl, -, -, h0, h1⟩ := open_agg2 Try.underlying23 (by kernel_rfl) (by kernel_rfl) hv h
  obtain ⟨n0, e0, -, wf0⟩ := DataW.trod_int Try.underlying3 h0
  obtain ⟨n1, e1, -, wf1⟩ := DataW.trod_int Try.underlying3 h1
  simp at e0 e1
  exact ⟨n0, n1, by rw [e0, e1], wf0, wf1⟩
theorem open_frac {r : Reach} {b0 : Nat} {v : Value} {d : DataW H} {p : List MemPlace} (hv : Value.okWide Try.prog w r b0 39 v) (h : DataW.Trod enc Try.prog w base spare held 39 v d p) :
    ∃ n0 n1 : Int, v = .agg #[.int .i64 n0, .int .i64 n1] ∧ (Lit.int .i64 n0).wf = true ∧ (Lit.int .i64 n1).wf = true := by
  obtain ⟨v0, v1, y0, y1, n, rfl, -, -, h0, h1⟩ := open_agg2 Try.underlying39 (by kernel_rfl) (by kernel_rfl) hv h
  obtain ⟨n0, e0, -, wf0⟩ := DataW.trod_int Try.underlying3 h0
  obtain ⟨n1, e1, -, wf1⟩ := DataW.trod_int Try.underlying3 h1
  simp at e0 e1
  exact ⟨n0, n1, by rw [e0, e1], wf0, wf1⟩
theorem five_cells {t : TypeId} {f0 f1 f2 f3 f4 : Field} {r : Reach} {b0 : Nat} {v : Value} {d : DataW H} {p : List MemPlace} (hs : Try.prog.underlying t = some (.struct #[f0, f1, f2, f3, f4])) (hone : oneCellFields Try.prog #[f0, f1, f2, f3, f4] = true) (hC : Try.prog.cellsOf t = 5)
    (hv : Value.okWide Try.prog w r b0 t v) (h : DataW.Trod enc Try.prog w base spare held t v d p) :
    ∃ (v0 v1 v2 v3 v4 : Value) (y0 y1 y2 y3 y4 : DataW H × List MemPlace) (n : Nat), v = .agg #[v0, v1, v2, v3, v4] ∧
      DataW.trod enc Try.prog w base spare held n f0.type [v0] = some y0 ∧ DataW.trod enc Try.prog w base spare held n f1.type [v1] = some y1 ∧ DataW.trod enc Try.prog w base spare held n f2.type [v2] = some y2 ∧ DataW.trod enc Try.prog w base spare held n f3.type [v3] = some y3 ∧ DataW.trod enc Try.prog w base spare held n f4.type [v4] = some y4 := by
  obtain ⟨cs, rfl, hsz⟩ := okWide_struct hs hv
  obtain ⟨l⟩ := cs
  match l, hsz.trans hC with
  | [a, b, c, e, g], _ =>
    obtain ⟨fuel, hf⟩ := h
    obtain ⟨xs, n, _, hx, _, hlen, hg⟩ := DataW.trod_struct hs hf
    obtain ⟨o0, k0⟩ := hone_of hone 0 f0 rfl
    obtain ⟨o1, k1⟩ := hone_of hone 1 f1 rfl
    obtain ⟨o2, k2⟩ := hone_of hone 2 f2 rfl
    obtain ⟨o3, k3⟩ := hone_of hone 3 f3 rfl
    obtain ⟨o4, k4⟩ := hone_of hone 4 f4 rfl
    match xs, hlen with
    | [y0, y1, y2, y3, y4], _ =>
      exact ⟨a, b, c, e, g, y0, y1, y2, y3, y4, n, rfl, by simpa [Value.cells, o0, k0] using hg 0 f0 rfl, by simpa [Value.cells, o1, k1] using hg 1 f1 rfl, by simpa [Value.cells, o2, k2] using hg 2 f2 rfl, by simpa [Value.cells, o3, k3] using hg 3 f3 rfl, by simpa [Value.cells, o4, k4] using hg 4 f4 rfl⟩
theorem open_quat {r : Reach} {b0 : Nat} {v : Value} {d : DataW H} {p : List MemPlace} (hv : Value.okWide Try.prog w r b0 35 v) (h : DataW.Trod enc Try.prog w base spare held 35 v d p) :
    ∃ n0 n1 n2 n3 n4 : Int, v = .agg #[.int .i64 n0, .int .i64 n1, .int .i64 n2, .int .i64 n3, .int .i64 n4] ∧ (Lit.int .i64 n0).wf = true ∧ (Lit.int .i64 n1).wf = true ∧ (Lit.int .i64 n2).wf = true ∧ (Lit.int .i64 n3).wf = true ∧ (Lit.int .i64 n4).wf = true := by
  obtain ⟨v0, v1, v2, v3, v4, y0, y1, y2, y3, y4, n, rfl, h0, h1, h2, h3, h4⟩ := five_cells Try.underlying35 (by kernel_rfl) (by kernel_rfl) hv h
  obtain ⟨n0, e0, -, wf0⟩ := DataW.trod_int Try.underlying3 h0
  obtain ⟨n1, e1, -, wf1⟩ := DataW.trod_int Try.underlying3 h1
  obtain ⟨n2, e2, -, wf2⟩ := DataW.trod_int Try.underlying3 h2
  obtain ⟨n3, e3, -, wf3⟩ := DataW.trod_int Try.underlying3 h3
  obtain ⟨n4, e4, -, wf4⟩ := DataW.trod_int Try.underlying3 h4
  simp at e0 e1 e2 e3 e4
  exact ⟨n0, n1, n2, n3, n4, by rw [e0, e1, e2, e3, e4], wf0, wf1, wf2, wf3, wf4⟩
end
end Go.Proofs.Ytgbnmnkgelklbaa.Al
namespace Go.Proofs.Ytgbnmnkgelklbaa.Ik
open Al Go.RowKit Go.Joins Go.ChangeShapes Go.WideShapes Go.ChangeAt Go.Deep
set_option linter.unusedVariables false
set_option maxRecDepth 100000
section
variable {H : Type} {enc : TypeId × Value → H} {w : World} {base : Nat} {spare : Nat → Bool} {held : Bool}
theorem five_trod {n : Nat} {a b c e g : Value} {y : DataW H × List MemPlace} (h : DataW.trod enc Try.prog w base spare held n 35 [a, b, c, e, g] = some y) :
    ∃ n0 n1 n2 n3 n4 : Int, a = .int .i64 n0 ∧ b = .int .i64 n1 ∧ c = .int .i64 n2 ∧ e = .int .i64 n3 ∧ g = .int .i64 n4 ∧ (Lit.int .i64 n0).wf = true ∧ (Lit.int .i64 n1).wf = true ∧ (Lit.int .i64 n2).wf = true ∧ (Lit.int .i64 n3).wf = true ∧ (Lit.int .i64 n4).wf = true := by
  obtain ⟨xs, m, _, hx, _, hlen, hg⟩ := DataW.trod_struct Try.underlying35 h
  match xs, hlen with
  | [y0, y1, y2, y3, y4], _ =>
    have g0 : DataW.trod enc Try.prog w base spare held m 3 [a] = some y0 := hg 0 _ rfl
    have g1 : DataW.trod enc Try.prog w base spare held m 3 [b] = some y1 := hg 1 _ rfl
    have g2 : DataW.trod enc Try.prog w base spare held m 3 [c] = some y2 := hg 2 _ rfl
    have g3 : DataW.trod enc Try.prog w base spare held m 3 [e] = some y3 := hg 3 _ rfl
    have g4 : DataW.trod enc Try.prog w base spare held m 3 [g] = some y4 := hg 4 _ rfl
    obtain ⟨n0, e0, -, wf0⟩ := DataW.trod_int Try.underlying3 g0
    obtain ⟨n1, e1, -, wf1⟩ := DataW.trod_int Try.underlying3 g1
    obtain ⟨n2, e2, -, wf2⟩ := DataW.trod_int Try.underlying3 g2
    obtain ⟨n3, e3, -, wf3⟩ := DataW.trod_int Try.underlying3 g3
    obtain ⟨n4, e4, -, wf4⟩ := DataW.trod_int Try.underlying3 g4
    refine ⟨n0, n1, n2, n3, n4, ?_, ?_, ?_, ?_, ?_, wf0, wf1, wf2, wf3, wf4⟩
    · simpa using e0
    · simpa using e1
    · simpa using e2
    · simpa using e3
    · simpa using e4
theorem open_two {r : Reach} {b0 : Nat} {v : Value} {d : DataW H} {p : List MemPlace} (hv : Value.okWide Try.prog w r b0 44 v) (h : DataW.Trod enc Try.prog w base spare held 44 v d p) :
    ∃ n0 n1 n2 n3 n4 n5 n6 n7 n8 n9 : Int, v = .agg #[.int .i64 n0, .int .i64 n1, .int .i64 n2, .int .i64 n3, .int .i64 n4, .int .i64 n5, .int .i64 n6, .int .i64 n7, .int .i64 n8, .int .i64 n9] ∧ (Lit.int .i64 n0).wf = true ∧ (Lit.int .i64 n1).wf = true ∧ (Lit.int .i64 n2).wf = true ∧ (Lit.int .i64 n3).wf = true ∧ (Lit.int .i64 n4).wf = true ∧ (Lit.int .i64 n5).wf = true ∧ (Lit.int .i64 n6).wf = true ∧ (Lit.int .i64 n7).wf = true ∧ (Lit.int .i64 n8).wf = true ∧ (Lit.int .i64 n9).wf = true := by
  obtain ⟨cs, rfl, hsz⟩ := okWide_struct Try.underlying44 hv
  obtain ⟨l⟩ := cs
  have hC : Try.prog.cellsOf 44 = 10 := by kernel_rfl
  match l, hsz.trans hC with
  | [v0, v1, v2, v3, v4, v5, v6, v7, v8, v9], _ =>
    obtain ⟨fuel, hf⟩ := h
    obtain ⟨xs, n, _, hx, _, hlen, hg⟩ := DataW.trod_struct Try.underlying44 hf
    match xs, hlen with
    | [y0, y1], _ =>
      have g0 : DataW.trod enc Try.prog w base spare held n 35 [v0, v1, v2, v3, v4] = some y0 := hg 0 _ rfl
      have g1 : DataW.trod enc Try.prog w base spare held n 35 [v5, v6, v7, v8, v9] = some y1 := hg 1 _ rfl
      obtain ⟨n0, n1, n2, n3, n4, rfl, rfl, rfl, rfl, rfl, f0, f1, f2, f3, f4⟩ := five_trod g0
      obtain ⟨n5, n6, n7, n8, n9, rfl, rfl, rfl, rfl, rfl, f5, f6, f7, f8, f9⟩ := five_trod g1
      exact ⟨n0, n1, n2, n3, n4, n5, n6, n7, n8, n9, rfl, f0, f1, f2, f3, f4, f5, f6, f7, f8, f9⟩
end
end Go.Proofs.Ytgbnmnkgelklbaa.Ik
