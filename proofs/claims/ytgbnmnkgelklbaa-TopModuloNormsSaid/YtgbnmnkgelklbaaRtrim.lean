/-
  New boxes (in the place of the text of this name, in a seat without the words' functions).
-/
import Derived.Test.YtgbnmnkgelklbaaChecked
import Derived.Test.YtgbnmnkgelklbaaMem
import Derived.OwnWalk
import Derived.Laws.AppendOwn
import Derived.KernelRfl
namespace Go.Proofs.Ytgbnmnkgelklbaa.Ws
open Go.RowKit
set_option linter.unusedVariables false
set_option maxRecDepth 100000
theorem infoI : (Try.prog.info? 3).map (fun i => (i.zero, i.size, i.bytes)) = some (some (.int .i64 0), 1, 8) := by kernel_rfl
theorem new_one (w : World) (u : Value) (T : TypeId) (n : Nat) (hn : n = w.heap.size) : ∀ (j : Nat) (x : Value), [u][j]? = some x → (w.alloc (.cells #[u] T)).cell? ((⟨n, 0, none⟩ : Addr).add j) = some x := by
  subst hn
  intro j x hj
  match j with
  | 0 => simp at hj; subst hj; simp [go_sem]
  | j + 1 => simp at hj
end Go.Proofs.Ytgbnmnkgelklbaa.Ws
