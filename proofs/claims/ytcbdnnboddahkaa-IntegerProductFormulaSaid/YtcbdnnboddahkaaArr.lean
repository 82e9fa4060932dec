/-
  An array of two machine integers that came in, opened.
-/
import Derived.Test.YtcbdnnboddahkaaChecked
import Derived.WalkKit
import Derived.ProofKit
import Derived.OpenShut
import Derived.KernelRfl
namespace Go.Proofs.Ytcbdnnboddahkaa
open Go.ChangeShapes Go.WideShapes Go.ChangeAt Go.RowKit
theorem Try.cells60 : Try.prog.cellsOf 60 = 2 := by kernel_rfl
theorem Try.cells3 : Try.prog.cellsOf 3 = 1 := by kernel_rfl
set_option maxRecDepth 100000 in
theorem open_arr2 {H : Type} {enc : TypeId × Value → H} {W : World} {base base' : Nat} {spare : Nat → Bool} {held : Bool} {v : Value} {d : DataW H} {p : List MemPlace}
    (hv : Value.okWide Try.prog W .any base 60 v) (h : DataW.Trod enc Try.prog W base' spare held 60 v d p) :
    ∃ n0 n1 : Int, v = .agg #[.int .i64 n0, .int .i64 n1] ∧ (Lit.int .i64 n0).wf = true ∧ (Lit.int .i64 n1).wf = true := by
  unfold Value.okWide at hv
  rw [Try.underlying60] at hv
  obtain ⟨cs, rfl, hsz, -⟩ := hv
  rw [Try.cells60] at hsz
  obtain ⟨c0, c1, rfl⟩ : ∃ c0 c1, cs = #[c0, c1] := by
    obtain ⟨l⟩ := cs
    match l, hsz with
    | [a, b], _ => exact ⟨a, b, rfl⟩
  obtain ⟨fuel, hf⟩ := h
  obtain ⟨xs, m, -, -, -, hl, hx⟩ := DataW.trod_array Try.underlying60 hf
  have h0 := hx 0 (by omega)
  have h1 := hx 1 (by omega)
  rw [Try.cells3] at h0 h1
  simp [Value.cells] at h0 h1
  rw [List.getElem?_eq_getElem (by omega)] at h0 h1
  obtain ⟨n0, e0, -, wf0⟩ := DataW.trod_int Try.underlying3 h0
  obtain ⟨n1, e1, -, wf1⟩ := DataW.trod_int Try.underlying3 h1
  simp at e0 e1
  exact ⟨n0, n1, by rw [e0, e1], wf0, wf1⟩
end Go.Proofs.Ytcbdnnboddahkaa
