/-
  Words for memory: a slice that reads as a list of numbers; an array of the call's own.
-/
import Derived.WalkKit
import Derived.ProofKit
import Derived.Below
import Derived.Lib.Hide
import Derived.Laws.OwnMore
import Derived.Laws.NewBlocks
import Derived.Deep.Draws
import Derived.Laws.Rows
import Derived.Deep.QuietTactic
import Derived.BigQuiet
import Derived.Outline
import Derived.Test.YtgbnmnkgelklbaaWd
namespace Go.Proofs.Ytgbnmnkgelklbaa.Ws
open Go.RowKit
set_option linter.unusedVariables false
theorem retk {k : IntKind} {a b : Int} (h : a = b) : Ending.returned (.int k a) = .returned (.int k b) := by rw [h]
theorem below_drawn {B : Nat} {a w : World} (h : Below B a w) (n : Nat) : Below B a (w.drewN n) := ⟨h.os, h.tape, h.output, h.size, h.block⟩
/-- the cells of a slice that begins at A read as the numbers xs -/
def Rd (w : World) (k : IntKind) (A : Option Addr) (xs : List Nat) : Prop :=
  0 < xs.length → ∃ b o, A = some ⟨b, o, none⟩ ∧ ∀ j, j < xs.length → w.cell? ⟨b, o + j, none⟩ = some (.int k (xs.getD j 0 : Nat))
section
variable {w w' : World} {k : IntKind} {A : Option Addr} {xs : List Nat} {B : Nat}
theorem Rd.nil_ : Rd w k A [] := fun h => absurd h (by simp)
theorem Rd.keep (h : Rd w k A xs) (hk : ∀ b o, b < w.heap.size → w'.cell? ⟨b, o, none⟩ = w.cell? ⟨b, o, none⟩) : Rd w' k A xs := by
  intro h0
  obtain ⟨b, o, rfl, hc⟩ := h h0
  refine ⟨b, o, rfl, fun j hj => ?_⟩
  rw [hk b _ (World.block_lt_of_cell? w ⟨b, o + j, none⟩ (hc j hj)), hc j hj]
theorem Rd.below (h : Rd w k A xs) (hb : Below w.heap.size w w') : Rd w' k A xs := h.keep fun b o hl => hb.cell (p := ⟨b, o, none⟩) hl
theorem Rd.drewN (h : Rd w k A xs) (n : Nat) : Rd (w.drewN n) k A xs := h
theorem Rd.drew (h : Rd w k A xs) : Rd w.drew k A xs := h
theorem Rd.alloc (h : Rd w k A xs) (o : Obj) : Rd (w.alloc o) k A xs := h.keep fun b i hl => World.cell?_alloc_lt w o ⟨b, i, none⟩ hl
/-- the cell at a place -/
theorem Rd.at_ (h : Rd w k A xs) {j : Nat} (hj : j < xs.length) : ∃ b o x, A = some ⟨b, o, none⟩ ∧ Hid (xs.getD j 0 = x) ∧ w.cell? ⟨b, o + j, none⟩ = some (.int k (x : Nat)) ∧ b < w.heap.size := by
  obtain ⟨b, o, rfl, hc⟩ := h (by omega)
  exact ⟨b, o, _, rfl, Lib.hid rfl, hc j hj, World.block_lt_of_cell? w ⟨b, o + j, none⟩ (hc j hj)⟩
theorem Rd.take_ (h : Rd w k A xs) (n : Nat) : Rd w k A (xs.take n) := by
  intro h0
  obtain ⟨b, o, rfl, hc⟩ := h (by simp at h0; omega)
  refine ⟨b, o, rfl, fun j hj => ?_⟩
  simp at hj
  rw [hc j (by omega), List.getD_eq_getElem?_getD, List.getD_eq_getElem?_getD, List.getElem?_take, if_pos (by omega)]
end
/-- block g is an array of numbers of the kind k, none frozen -/
def Ar (w : World) (g : Nat) (k : IntKind) (T : TypeId) (zs : List Nat) : Prop := w.heap[g]? = some (.cells ((zs.map fun x => Value.int k (x : Nat)).toArray) T (0, 0))
section
variable {w w' : World} {g : Nat} {k : IntKind} {T : TypeId} {zs : List Nat}
theorem Ar.lt (h : Ar w g k T zs) : g < w.heap.size := by
  rcases Nat.lt_or_ge g w.heap.size with hlt | hge
  · exact hlt
  · unfold Ar at h; rw [Array.getElem?_eq_none hge] at h; cases h
theorem Ar.cell (h : Ar w g k T zs) {j : Nat} (hj : j < zs.length) : w.cell? ⟨g, j, none⟩ = some (.int k (zs.getD j 0 : Nat)) := by
  rw [cell_of_row w g j _ T (0, 0) h]
  rw [List.getD_eq_getElem?_getD, List.getElem?_eq_getElem hj]
  simp [hj]
theorem Ar.cell' (h : Ar w g k T zs) {j : Nat} (hj : j < zs.length) : ∃ x, Hid (zs.getD j 0 = x) ∧ w.cell? ⟨g, j, none⟩ = some (.int k (x : Nat)) := ⟨_, Lib.hid rfl, h.cell hj⟩
theorem Ar.frozen (h : Ar w g k T zs) (j : Nat) : w.frozen? ⟨g, j, none⟩ = false := by
  unfold Ar at h; simp [World.frozen?, h]
theorem Ar.rd (h : Ar w g k T zs) : Rd w k (some ⟨g, 0, none⟩) zs := fun _ => ⟨g, 0, rfl, fun j hj => by rw [Nat.zero_add]; exact h.cell hj⟩
theorem Ar.drewN (h : Ar w g k T zs) (n : Nat) : Ar (w.drewN n) g k T zs := h
theorem Ar.drew (h : Ar w g k T zs) : Ar w.drew g k T zs := h
theorem Ar.alloc (h : Ar w g k T zs) (o : Obj) : Ar (w.alloc o) g k T zs := (Below.heap_alloc w o g h.lt).trans h
theorem Ar.below {B : Nat} (h : Ar w g k T zs) (hb : Below B w w') (hg : g < B) : Ar w' g k T zs := (hb.block g hg).trans h
theorem Ar.far (h : Ar w g k T zs) {p : Addr} (hp : g ≠ p.block) (u : Value) : Ar (w.setCell p u) g k T zs := (Below.heap_setCell w p u g hp).trans h
theorem Ar.grown {row : Option Nat} (h : Ar w g k T zs) (hb : w.grownBy w' row) (hg : some g ≠ row) : Ar w' g k T zs := (hb.block g h.lt hg).trans h
theorem Ar.set_ (h : Ar w g k T zs) (i y : Nat) : Ar (w.setCell ⟨g, i, none⟩ (.int k (y : Nat))) g k T (zs.set i y) := by
  unfold Ar at h ⊢
  simp only [World.setCell, Array.getElem?_modify, h]
  simp [List.map_set]
theorem Ar.seti (h : Ar w g k T zs) {i y : Nat} {v : Int} (hv : v = (y : Int)) : Ar (w.setCell ⟨g, i, none⟩ (.int k v)) g k T (zs.set i y) := by subst hv; exact h.set_ i y
theorem Ar.new (w : World) (k : IntKind) (T : TypeId) (zs : List Nat) : Ar (w.alloc (.cells ((zs.map fun x => Value.int k (x : Nat)).toArray) T)) w.heap.size k T zs := heap_alloc_new w _
end
/-- what the world of a new array is called -/
def newAr (k : IntKind) (T : TypeId) (zs : List Nat) : Obj := .cells ((zs.map fun x => Value.int k (x : Nat)).toArray) T
theorem Ar.new' (w : World) (k : IntKind) (T : TypeId) (zs : List Nat) : Ar (w.alloc (newAr k T zs)) w.heap.size k T zs := heap_alloc_new w _
theorem made_zeros (k : IntKind) (T : TypeId) (n : Nat) : Obj.cells (madeCells #[.int k 0] n) T = newAr k T (List.replicate n 0) := by
  unfold newAr
  congr 1
  apply Array.ext'
  rw [toList_madeCells_one]
  simp
/-- make of zeros -/
theorem make_zeros {P : Program} {t e : TypeId} {i : TypeInfo} {k : IntKind} {bytes : Nat} (ht : P.underlying t = some (.slice e)) (hi : P.info? e = some i) (hz : i.zero = some (.int k 0)) (hs : i.size = 1) (hby : i.bytes = bytes)
    (n : Nat) (hn : bytes * n ≤ 281474976710656) (h63 : n ≤ 9223372036854775807) (w : World) (m : Int) (hm : m = (n : Int)) :
    (Instr.makeSlice t (.int .i64 m) (.int .i64 m)).run P w = .ok (.slice (some ⟨w.heap.size, 0, none⟩) n n) (w.alloc (newAr k e (List.replicate n 0))) := by
  subst hm
  have hb' : (i.bytes : Int) * (n : Int) ≤ 281474976710656 := by
    have h : ((i.bytes * n : Nat) : Int) ≤ 281474976710656 := by rw [hby]; omega
    rwa [Int.natCast_mul] at h
  have hr := run_make (P := P) w t e i (.int k 0) ht hi hz .i64 .i64 n n (by omega) (Int.le_refl _) hb' (by omega)
  simp only [Int.toNat_natCast] at hr
  rw [hr, hs, Nat.mul_one]
  show Result.ok _ (w.alloc (Obj.cells (madeCells #[Value.int k 0] n) e)) = _
  rw [made_zeros]
/-- a slice value that came in or was made: what a walk may use -/
structure Sl (w : World) (k : IntKind) (A : Option Addr) (c : Nat) (xs : List Nat) : Prop where
  rd : Rd w k A xs
  le : xs.length ≤ c
  max : c ≤ 9223372036854775807
  nil : A = none → c = 0
section
variable {w w' : World} {k : IntKind} {A : Option Addr} {c : Nat} {xs : List Nat}
theorem Sl.below (h : Sl w k A c xs) (hb : Below w.heap.size w w') : Sl w' k A c xs := ⟨h.rd.below hb, h.le, h.max, h.nil⟩
theorem Sl.drewN (h : Sl w k A c xs) (n : Nat) : Sl (w.drewN n) k A c xs := ⟨h.rd.drewN n, h.le, h.max, h.nil⟩
theorem Sl.alloc (h : Sl w k A c xs) (o : Obj) : Sl (w.alloc o) k A c xs := ⟨h.rd.alloc o, h.le, h.max, h.nil⟩
theorem Sl.take_ (h : Sl w k A c xs) (n : Nat) : Sl w k A c (xs.take n) := ⟨h.rd.take_ n, by have := h.le; simp; omega, h.max, h.nil⟩
theorem Sl.nil_ : Sl w k none 0 [] := ⟨Rd.nil_, by simp, by omega, fun _ => rfl⟩
theorem Ar.sl {g : Nat} {T : TypeId} (h : Ar w g k T xs) (hm : xs.length ≤ 9223372036854775807) : Sl w k (some ⟨g, 0, none⟩) xs.length xs := ⟨h.rd, Nat.le_refl _, hm, fun h => by cases h⟩
end
/-- the values of a list of numbers -/
def vals (k : IntKind) (xs : List Nat) : List Value := xs.map fun x => Value.int k (x : Nat)
theorem vals_length (k : IntKind) (xs : List Nat) : (vals k xs).length = xs.length := by simp [vals]
theorem vals_append (k : IntKind) (xs ys : List Nat) : vals k (xs ++ ys) = vals k xs ++ vals k ys := by simp [vals]
theorem vals_one (k : IntKind) (xs : List Nat) : ∀ u ∈ vals k xs, u.oneCell' = true := by
  intro u hu
  obtain ⟨x, _, rfl⟩ := List.mem_map.1 hu
  rfl
theorem add_lit' (b o j : Nat) : (⟨b, o, none⟩ : Addr).add j = ⟨b, o + j, none⟩ := by unfold Addr.add; split <;> simp_all
theorem Rd.cells {w : World} {k : IntKind} {ad : Addr} {xs : List Nat} (h : Rd w k (some ad) xs) : ∀ (j : Nat) (u : Value), (vals k xs)[j]? = some u → w.cell? (ad.add j) = some u := by
  intro j u hu
  obtain ⟨hj, he⟩ := List.getElem?_eq_some_iff.1 hu
  have hjl : j < xs.length := by simpa [vals] using hj
  obtain ⟨b, o, e, hc⟩ := h (by omega)
  injection e with e
  subst e
  rw [add_lit', hc j hjl, ← he]
  simp [vals, List.getD_eq_getElem?_getD, List.getElem?_eq_getElem hjl]
theorem own_sl {w : World} {base n : Nat} {T : TypeId} {k : IntKind} {v : Value} {xs : List Nat} (h : w.ownsRow base T 1 v n (vals k xs)) : ∃ A c, v = .slice A xs.length c ∧ n = xs.length ∧ Sl w k A c xs := by
  have hn : n = xs.length := by have := h.1; rw [vals_length] at this; omega
  subst hn
  rcases h.2 with ⟨rfl, h0⟩ | ⟨g, cap, cur, rfl, hb, hg, h1, h2, h3, h4⟩
  · have : xs = [] := List.eq_nil_of_length_eq_zero h0
    subst this
    exact ⟨none, 0, rfl, rfl, Sl.nil_⟩
  · refine ⟨_, cap, rfl, rfl, ⟨fun _ => ⟨g, 0, rfl, fun j hj => ?_⟩, h1, h2, fun h => by cases h⟩⟩
    rw [Nat.zero_add, h.cellAt j (by omega)]
    simp [vals, List.getD_eq_getElem?_getD, hj]
/-- a result that is a slice of numbers -/
def SlOut (w : World) (k : IntKind) (xs : List Nat) (e : Ending) (w' : World) : Prop := ∃ A c, e = .returned (.slice A xs.length c) ∧ Sl w' k A c xs ∧ Below w.heap.size w w'
/-- the digits of the words, of the half words -/
def W (n : Nat) : List Nat := dgs 4294967296 n
def D (n : Nat) : List Nat := dgs 65536 n
theorem W_lt (n : Nat) : ∀ x ∈ W n, x < 4294967296 := dgs_lt _ (by decide) n
theorem D_lt (n : Nat) : ∀ x ∈ D n, x < 65536 := dgs_lt _ (by decide) n
theorem val_W (n : Nat) : val 4294967296 (W n) = n := val_dgs _ (by decide) n
theorem val_D (n : Nat) : val 65536 (D n) = n := val_dgs _ (by decide) n
theorem trim_W {xs : List Nat} (h : ∀ x ∈ xs, x < 4294967296) : trimL xs = W (val 4294967296 xs) := (dgs_val _ (by decide) xs h).symm
theorem trim_D {xs : List Nat} (h : ∀ x ∈ xs, x < 65536) : trimL xs = D (val 65536 xs) := (dgs_val _ (by decide) xs h).symm
theorem W_nil {n : Nat} : W n = [] ↔ n = 0 := dgs_nil _ _ (by decide)
theorem D_nil {n : Nat} : D n = [] ↔ n = 0 := dgs_nil _ _ (by decide)
end Go.Proofs.Ytgbnmnkgelklbaa.Ws
