/-
  An integer of words that came in, opened.
-/
import Derived.Test.YtcbdnnboddahkaaSame
import Derived.ProofKit
import Derived.OpenShut
import Derived.KernelRfl
import Derived.Lib.SmallJoins
namespace Go.Proofs.Ytcbdnnboddahkaa.Ws
open Go.ChangeShapes Go.WideShapes Go.ChangeAt Go.RowKit Go.Joins
theorem cells24 : Try.prog.cellsOf 24 = 2 := by kernel_rfl
theorem cells113 : Try.prog.cellsOf 113 = 1 := by kernel_rfl
theorem cells22 : Try.prog.cellsOf 22 = 1 := by kernel_rfl
theorem getD_toNat {zs : List Int} {i : Nat} (h : ∀ n ∈ zs, (0 : Int) ≤ n) : ((zs.map Int.toNat).getD i 0 : Int) = zs.getD i 0 := by
  rw [List.getD_eq_getElem?_getD, List.getD_eq_getElem?_getD, List.getElem?_map]
  cases hz : zs[i]? with
  | none => rfl
  | some x =>
    have := h x (List.mem_of_getElem? hz)
    simp; omega
set_option maxRecDepth 100000 in
theorem open_Int {H : Type} {enc : TypeId × Value → H} {W : World} {base base' : Nat} {spare : Nat → Bool} {held : Bool} {v : Value} {d : DataW H} {p : List MemPlace}
    (hv : Value.okWide Try.prog W .any base 24 v) (h : DataW.Trod enc Try.prog W base' spare held 24 v d p) :
    ∃ (neg : Bool) (A : Option Addr) (c : Nat) (xs : List Nat), v = .agg #[.bool neg, .slice A xs.length c] ∧ Sl W .u32 A c xs ∧ (∀ x ∈ xs, x < 4294967296) := by
  obtain ⟨c0, c1, y0, y1, m, rfl, -, -, hy0, hy1⟩ := open_agg2 Try.underlying24 (by kernel_rfl) cells24 hv h
  obtain ⟨b, e0, -⟩ := DataW.trod_bool Try.underlying4 hy0
  simp at e0
  subst e0
  rcases open_ints Try.underlying22 Try.underlying113 cells113 hy1 with ⟨e1, -⟩ | ⟨a, len, cap, zs, e1, hb, hl, hm, hz, -, hc, hw⟩
  · simp at e1
    subst e1
    exact ⟨b, none, 0, [], rfl, Sl.nil_, by simp⟩
  · simp at e1
    subst e1
    have hlz : len ≤ zs.length := by rw [hz]; split <;> omega
    have h0 : ∀ n ∈ zs, (0 : Int) ≤ n ∧ n < 4294967296 := fun n hn => by
      have := hw n hn
      simp only [Lit.wf, Bool.and_eq_true, decide_eq_true_eq] at this
      have h1 : IntKind.u32.min = 0 := rfl
      have h2 : IntKind.u32.max = 4294967295 := rfl
      omega
    have hlen : ((zs.take len).map Int.toNat).length = len := by simp; omega
    refine ⟨b, some a, cap, (zs.take len).map Int.toNat, by rw [hlen], ⟨?_, by rw [hlen]; exact hl, by unfold maxLen at hm; omega, fun h => by cases h⟩, ?_⟩
    · intro hp
      rw [hlen] at hp
      obtain ⟨bb, off, rfl, hcell⟩ := ints_at hc (by omega)
      refine ⟨bb, off, rfl, fun j hj => ?_⟩
      rw [hlen] at hj
      rw [hcell j (by omega), getD_toNat (fun n hn => (h0 n (List.mem_of_mem_take hn)).1)]
      rw [List.getD_eq_getElem?_getD, List.getD_eq_getElem?_getD, List.getElem?_take, if_pos hj]
    · intro x hx
      obtain ⟨n, hn, rfl⟩ := List.mem_map.1 hx
      have := h0 n (List.mem_of_mem_take hn)
      omega
end Go.Proofs.Ytcbdnnboddahkaa.Ws
