/-
  WALKS: lists of quaternions that a call made; the units, the program's.
-/
import Derived.Test.YteiflfmpkfhkoaaRt2
import Derived.Test.YteiflfmpkfhkoaaHwn
namespace Go.Proofs.Yteiflfmpkfhkoaa.Rt
open Go.RowKit
open Alm Hwm Al
set_option linter.unusedVariables false
set_option linter.unusedSimpArgs false
set_option maxRecDepth 100000
def flatH : List H → List Value
  | [] => []
  | q :: l => .int .i64 q.w :: .int .i64 q.x :: .int .i64 q.y :: .int .i64 q.z :: flatH l
theorem flatH_app : ∀ l m : List H, flatH (l ++ m) = flatH l ++ flatH m
  | [], m => rfl
  | q :: l, m => by simp only [List.cons_append, flatH]; rw [flatH_app l m]
theorem flatH_len : ∀ l : List H, (flatH l).length = l.length * 4
  | [] => rfl
  | q :: l => by simp only [flatH, List.length_cons]; rw [flatH_len l]; omega
theorem flatH_get : ∀ (l : List H) (i : Nat) (q : H), l[i]? = some q → (flatH l)[i * 4]? = some (.int .i64 q.w) ∧ (flatH l)[i * 4 + 1]? = some (.int .i64 q.x) ∧ (flatH l)[i * 4 + 2]? = some (.int .i64 q.y) ∧ (flatH l)[i * 4 + 3]? = some (.int .i64 q.z)
  | [], i, q, h => by simp at h
  | r :: l, 0, q, h => by simp at h; subst h; exact ⟨rfl, rfl, rfl, rfl⟩
  | r :: l, i + 1, q, h => by
    have := flatH_get l i q (by simpa using h)
    have e1 : (i + 1) * 4 = i * 4 + 4 := by omega
    rw [e1]; exact this
theorem infoH : (Try.prog.info? 97).map (fun i => (i.zero, i.size, i.bytes)) = some (some (.agg #[.int .i64 0, .int .i64 0, .int .i64 0, .int .i64 0]), 4, 32) := by kernel_rfl
theorem infoU : (Try.prog.info? 31).map (fun i => (i.zero, i.size, i.bytes)) = some (some (.agg #[.int .i64 0, .int .i64 0, .int .i64 0, .int .i64 0]), 4, 32) := by kernel_rfl
theorem infoQ : (Try.prog.info? 23).map (fun i => (i.zero, i.size, i.bytes)) = some (some (.agg #[.int .i64 0, .int .i64 0, .int .i64 0, .int .i64 0, .int .i64 0]), 5, 40) := by kernel_rfl
theorem four_new (w : World) (a b c d : Value) (T : TypeId) (n : Nat) (hn : n = w.heap.size) : ∀ (j : Nat) (x : Value), [a, b, c, d][j]? = some x → (w.alloc (.cells #[a, b, c, d] T)).cell? ((⟨n, 0, none⟩ : Addr).add j) = some x := by
  subst hn
  intro j x hj
  match j with
  | 0 => simp at hj; subst hj; simp [go_sem]
  | 1 => simp at hj; subst hj; simp [go_sem]
  | 2 => simp at hj; subst hj; simp [go_sem]
  | 3 => simp at hj; subst hj; simp [go_sem]
  | j + 4 => simp at hj
theorem five_new (w : World) (a b c d e : Value) (T : TypeId) (n : Nat) (hn : n = w.heap.size) : ∀ (j : Nat) (x : Value), [a, b, c, d, e][j]? = some x → (w.alloc (.cells #[a, b, c, d, e] T)).cell? ((⟨n, 0, none⟩ : Addr).add j) = some x := by
  subst hn
  intro j x hj
  match j with
  | 0 => simp at hj; subst hj; simp [go_sem]
  | 1 => simp at hj; subst hj; simp [go_sem]
  | 2 => simp at hj; subst hj; simp [go_sem]
  | 3 => simp at hj; subst hj; simp [go_sem]
  | 4 => simp at hj; subst hj; simp [go_sem]
  | j + 5 => simp at hj
/-- a list of quaternions that the call made -/
def LH (T : TypeId) (B : Nat) (w : World) (A : Option Addr) (c : Nat) (L : List H) : Prop := w.ownsRow B T 4 (.slice A L.length c) L.length (flatH L)
section
variable {T : TypeId}
theorem LH.of {B : Nat} {w : World} {v : Value} {L : List H} (h : w.ownsRow B T 4 v L.length (flatH L)) : ∃ A c, v = .slice A L.length c ∧ LH T B w A c L ∧ c ≤ 9223372036854775807 ∧ L.length ≤ c := by
  have h' := h
  rcases h.2 with ⟨rfl, h0⟩ | ⟨g, cap, cur, rfl, hb, hg, h1, h2, h3, h4⟩
  · exact ⟨none, 0, by rw [h0], by unfold LH; rw [h0]; rw [h0] at h'; exact h', by omega, by omega⟩
  · exact ⟨_, cap, rfl, h', by unfold maxLen at h2; omega, h1⟩
theorem LH.at_ {B : Nat} {w : World} {A : Option Addr} {c : Nat} {L : List H} (h : LH T B w A c L) {j : Nat} {q : H} (hj : L[j]? = some q) : ∃ b, A = some ⟨b, 0, none⟩ ∧ (w.cell? ⟨b, j * 4, none⟩ = some (.int .i64 q.w) ∧ w.cell? ⟨b, j * 4 + 1, none⟩ = some (.int .i64 q.x) ∧ w.cell? ⟨b, j * 4 + 2, none⟩ = some (.int .i64 q.y) ∧ w.cell? ⟨b, j * 4 + 3, none⟩ = some (.int .i64 q.z)) ∧ B ≤ b ∧ b < w.heap.size := by
  have hjl : j < L.length := (List.getElem?_eq_some_iff.1 hj).1
  rcases h.2 with ⟨h0, h1⟩ | ⟨g, cap, cur, hv, hb, hg, h1, h2, h3, h4⟩
  · omega
  · injection hv with e1 e2 e3
    subst e1 e3
    obtain ⟨f0, f1, f2, f3⟩ := flatH_get L j q hj
    refine ⟨g, rfl, ⟨?_, ?_, ?_, ?_⟩, hb, (Array.getElem?_eq_some_iff.1 hg).1⟩
    · rw [World.ownsRow.cellAt h (j * 4) (by omega)]; exact f0
    · rw [World.ownsRow.cellAt h (j * 4 + 1) (by omega)]; exact f1
    · rw [World.ownsRow.cellAt h (j * 4 + 2) (by omega)]; exact f2
    · rw [World.ownsRow.cellAt h (j * 4 + 3) (by omega)]; exact f3
theorem LH.below {B B' : Nat} {w w' : World} {A : Option Addr} {c : Nat} {L : List H} (h : LH T B w A c L) (hb : Below B' w w') (hB : ∀ a, A = some a → a.block < B') : LH T B w' A c L := by
  refine ⟨h.1, ?_⟩
  rcases h.2 with ⟨h0, h1⟩ | ⟨g, cap, cur, hv, h5, hg, h1, h2, h3, h4⟩
  · exact .inl ⟨h0, h1⟩
  · injection hv with e1 e2 e3
    subst e1 e3
    exact .inr ⟨g, c, cur, rfl, h5, (hb.block g (hB _ rfl)).trans hg, h1, h2, h3, h4⟩
theorem LH.lt {B : Nat} {w : World} {A : Option Addr} {c : Nat} {L : List H} (h : LH T B w A c L) : ∀ a, A = some a → a.block < w.heap.size := by
  intro a ha
  subst ha
  rcases h.2 with ⟨h0, h1⟩ | ⟨g, cap, cur, hv, h5, hg, h1, h2, h3, h4⟩
  · cases h0
  · injection hv with e1 e2 e3
    injection e1 with e1
    subst e1
    exact (Array.getElem?_eq_some_iff.1 hg).1
theorem LH.next {B : Nat} {w w' : World} {A : Option Addr} {c : Nat} {L : List H} (h : LH T B w A c L) (hb : Below w.heap.size w w') : LH T B w' A c L := LH.below h hb (LH.lt h)
/-- the list that a loop keeps -/
def PH (T : TypeId) (w2 wr : World) (v : Value) (L : List H) : Prop := wr.ownsRow w2.heap.size T 4 v L.length (flatH L) ∧ Below w2.heap.size w2 wr
theorem row_next {B : Nat} {e : TypeId} {size : Nat} {v : Value} {n : Nat} {xs : List Value} {w w' : World} (h : w.ownsRow B e size v n xs) (hb : Below w.heap.size w w') : w'.ownsRow B e size v n xs := by
  refine ⟨h.1, ?_⟩
  rcases h.2 with h0 | ⟨g, cap, cur, hv, h5, hg, r⟩
  · exact .inl h0
  · exact .inr ⟨g, cap, cur, hv, h5, (hb.block g (Array.getElem?_eq_some_iff.1 hg).1).trans hg, r⟩
theorem ownsRow_base' {B B' : Nat} {e : TypeId} {size : Nat} {v : Value} {n : Nat} {xs : List Value} {w : World} (h : w.ownsRow B e size v n xs) (hb : B' ≤ B) : w.ownsRow B' e size v n xs := by
  refine ⟨h.1, ?_⟩
  rcases h.2 with h0 | ⟨g, cap, cur, hv, h5, r⟩
  · exact .inl h0
  · exact .inr ⟨g, cap, cur, hv, Nat.le_trans hb h5, r⟩
theorem PH.next {w2 wr w' : World} {v : Value} {L : List H} (h : PH T w2 wr v L) (hb : Below wr.heap.size wr w') : PH T w2 w' v L :=
  ⟨row_next h.1 hb, h.2.trans (hb.mono h.2.size)⟩
end
end Go.Proofs.Yteiflfmpkfhkoaa.Rt
