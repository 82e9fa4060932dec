/-
  Two lists of elements that grow side by side, each kept in a box.
-/
import Derived.Test.YtgbnmnkgelklbaaDoorIs2
import Derived.Test.YtgbnmnkgelklbaaDoorIs5
namespace Go.Proofs.YtgbnmnkgelklbaaDoor.Iso
open Go.RowKit Go.Shelf
open Alm Al
set_option linter.unusedVariables false
set_option linter.unusedSimpArgs false
set_option maxRecDepth 100000
/-- blocks of cells lie as they lay -/
def CK (W W' : World) : Prop := ∀ (g : Nat) (o : Obj), W.heap[g]? = some o → o.isCells = true → W'.heap[g]? = some o
theorem CK.below {W W' : World} (hb : Below W.heap.size W W') : CK W W' := fun g o h _ => (hb.block g (Array.getElem?_eq_some_iff.1 h).1).trans h
theorem CK.grown {W W' : World} {row : Option Nat} (hg : W.grownBy W' row) (hr : ∀ r, row = some r → ∃ o : Obj, W.heap[r]? = some o ∧ o.isCells = false) : CK W W' := fun g o h hc => by
  refine (hg.block g (Array.getElem?_eq_some_iff.1 h).1 fun e => ?_).trans h
  obtain ⟨o', h', hc'⟩ := hr g e.symm
  rw [h] at h'
  cases h'
  rw [hc] at hc'
  cases hc'
theorem CK.alloc (W : World) (o : Obj) : CK W (W.alloc o) := CK.below ((Below.refl _ W).alloc (Nat.le_refl _) o)
theorem cells_at {W : World} {a : Addr} {v : Value} (h : W.cell? a = some v) : ∃ o : Obj, W.heap[a.block]? = some o ∧ o.isCells = true := cells_of_cell h
theorem CK.cell {W W' : World} (hc : CK W W') {a : Addr} {v : Value} (h : W.cell? a = some v) : W'.cell? a = W.cell? a ∧ W'.frozen? a = W.frozen? a := by
  obtain ⟨o, ho, hoc⟩ := cells_at h
  have e : W'.heap[a.block]? = W.heap[a.block]? := (hc _ _ ho hoc).trans ho.symm
  exact ⟨World.cell?_of_block e, World.frozen?_of_block e⟩
theorem KL.ck {w0 W W' : World} {cs : List (Nat × Nat × Value)} {fs : List (Nat × Nat)} (h : KL w0 cs fs W) (hc : CK W W') (hb : Below w0.heap.size w0 W') : KL w0 cs fs W' :=
  ⟨fun x hx => (hc.cell (h.c x hx)).1.trans (h.c x hx), fun x hx => by rw [(hc.cell (h.d x hx)).1]; exact h.g x hx, fun x hx => (hc.cell (h.d x hx)).2.trans (h.f x hx), hb⟩
theorem KL.belowN {w0 W W' : World} {n0 : Nat} {cs : List (Nat × Nat × Value)} {fs : List (Nat × Nat)} (h : KL w0 cs fs W) (hz : ∀ x ∈ cs, x.1 < n0) (hf : ∀ x ∈ fs, x.1 < n0) (hn : w0.heap.size ≤ n0) (hb : Below n0 W W') : KL w0 cs fs W' :=
  ⟨fun x hx => (hb.cell (p := ⟨x.1, x.2.1, none⟩) (hz x hx)).trans (h.c x hx), fun x hx => by rw [hb.cell (p := ⟨x.1, x.2, none⟩) (hf x hx)]; exact h.g x hx,
    fun x hx => (hb.frozen (p := ⟨x.1, x.2, none⟩) (hf x hx)).trans (h.f x hx), h.bel.trans (hb.mono hn)⟩
theorem row_ck {B : Nat} {e : TypeId} {size : Nat} {v : Value} {n : Nat} {xs : List Value} {W W' : World} (h : W.ownsRow B e size v n xs) (hc : CK W W') : W'.ownsRow B e size v n xs := by
  refine ⟨h.1, ?_⟩
  rcases h.2 with h0 | ⟨g, cap, cur, hv, h5, hg, r⟩
  · exact .inl h0
  · exact .inr ⟨g, cap, cur, hv, h5, hc g _ hg rfl, r⟩
theorem box_ck {W W' : World} {B : Nat} {t : TypeId} {v : Value} (h : Boxed W B t v) (hc : CK W W') : Boxed W' B t v := hc B _ h rfl
structure TL (n0 : Nat) (W : World) (v1 v2 : Value) (L1 L2 : List Q) : Prop where
  b1 : Boxed W n0 46 v1
  b2 : Boxed W (n0 + 1) 46 v2
  r1 : W.ownsRow n0 39 5 v1 L1.length (flatQ L1)
  r2 : W.ownsRow n0 39 5 v2 L2.length (flatQ L2)
  ne : ∀ g, v1.ownBlock = some g → v2.ownBlock = some g → False
theorem TL.ck {n0 : Nat} {W W' : World} {v1 v2 : Value} {L1 L2 : List Q} (h : TL n0 W v1 v2 L1 L2) (hc : CK W W') : TL n0 W' v1 v2 L1 L2 :=
  ⟨box_ck h.b1 hc, box_ck h.b2 hc, row_ck h.r1 hc, row_ck h.r2 hc, h.ne⟩
theorem KeepsOthers.below {W W' : World} (hb : Below W.heap.size W W') : KeepsOthers W W' := ⟨hb.size, fun k o h _ => (hb.block k (Array.getElem?_eq_some_iff.1 h).1).trans h⟩
theorem own_keep {W W' : World} {n0 : Nat} {v v' : Value} {L : List Q} {xs : List Value} {m : Nat} {tmp : Obj} {row : Option Nat} (h : W.ownsRow n0 39 5 v L.length (flatQ L)) (hg : (W.alloc tmp).grownBy W' row) (hne : ∀ g, row = some g → v.ownBlock = some g → False) : W'.ownsRow n0 39 5 v L.length (flatQ L) := by
  refine (h.alloc tmp).kept hg ?_
  cases hv : v.ownBlock with
  | none => exact .inl rfl
  | some g => exact .inr fun e => hne g e.symm hv
/-- the block of an element -/
def QBx (W : World) (b : Nat) (q : Q) : Prop := W.heap[b]? = some (.cells #[.int .i64 q.w, .int .i64 q.x, .int .i64 q.y, .int .i64 q.z, .int .i64 q.d] 39 (0, 0))
theorem QBx.ck {W W' : World} {b : Nat} {q : Q} (h : QBx W b q) (hc : CK W W') : QBx W' b q := hc b _ h rfl
theorem QBx.cells {W : World} {b : Nat} {q : Q} (h : QBx W b q) : W.cell? ⟨b, 0, none⟩ = some (.int .i64 q.w) ∧ W.cell? ⟨b, 1, none⟩ = some (.int .i64 q.x) ∧ W.cell? ⟨b, 2, none⟩ = some (.int .i64 q.y) ∧ W.cell? ⟨b, 3, none⟩ = some (.int .i64 q.z) ∧ W.cell? ⟨b, 4, none⟩ = some (.int .i64 q.d) := by
  have h' : W.heap[b]? = _ := h
  simp [World.cell?, h']
theorem QBx.lt {W : World} {b : Nat} {q : Q} (h : QBx W b q) : b < W.heap.size := (Array.getElem?_eq_some_iff.1 h).1
/-- behind an append to one of the two lists -/
theorem QBx.app {n0 : Nat} {W w1 : World} {v : Value} {L : List Q} {q : Q} {b B : Nat} {tmp : Obj} {v' : Value} (h : QBx W b q) (hr : W.ownsRow n0 39 5 v L.length (flatQ L)) (hne : ∀ g, v.ownBlock = some g → g ≠ b) (hg : (W.alloc tmp).grownBy w1 v.ownBlock) (hB : b ≠ B) : QBx (w1.setCell ⟨B, 0, none⟩ v') b q := by
  have h1 : (W.alloc tmp).heap[b]? = _ := (CK.alloc W tmp) b _ h rfl
  have h2 := (hg.block b (Array.getElem?_eq_some_iff.1 h1).1 fun e => hne b e.symm rfl).trans h1
  exact ((grownBy_setCell' w1 B v').block b (Array.getElem?_eq_some_iff.1 h2).1 fun e => hB (by injection e)).trans h2
theorem TL.app1 {n0 : Nat} {W w1 : World} {v1 v2 v' : Value} {L1 L2 : List Q} {q : Q} {tmp : Obj} {Bx : Nat} (h : TL n0 W v1 v2 L1 L2) (hq : QBx W Bx q) (hq1 : ∀ g, v1.ownBlock = some g → g ≠ Bx) (hBx : n0 + 2 ≤ Bx) (hn : n0 ≤ W.heap.size)
    (hown : w1.ownsRow n0 39 5 v' (L1 ++ [q]).length (flatQ (L1 ++ [q]))) (hg : (W.alloc tmp).grownBy w1 v1.ownBlock) (hat : v'.ownBlock = v1.ownBlock ∨ v'.ownBlock = some (W.alloc tmp).heap.size) :
    Boxed w1 n0 46 v1 ∧ TL n0 (w1.setCell ⟨n0, 0, none⟩ v') v' v2 (L1 ++ [q]) L2 ∧ KeepsOthers W (w1.setCell ⟨n0, 0, none⟩ v') ∧ Below n0 W (w1.setCell ⟨n0, 0, none⟩ v') ∧ QBx (w1.setCell ⟨n0, 0, none⟩ v') Bx q := by
  obtain ⟨h1, h2, h3, h4, h5⟩ := h.b1.appended (by decide) h.r1 hn (Nat.le_refl _) hown hg
  have e2 := (h.b2.alloc tmp).kept hg (h.b2.not_row (by decide) h.r1)
  have k2 : w1.ownsRow n0 39 5 v2 L2.length (flatQ L2) := own_keep (v' := v') (xs := []) (m := 0) h.r2 hg fun g e1 e2 => h.ne g e1 e2
  refine ⟨h1, ⟨h2, e2.other (by omega) v', h3, k2.kept (grownBy_setCell' w1 n0 v') (.inr (h1.not_row (by decide) k2).symm), fun g eg1 eg2 => ?_⟩, h4, h5, hq.app h.r1 hq1 hg (by omega)⟩
  rcases hat with hat | hat
  · exact h.ne g (by rw [← hat]; exact eg1) eg2
  · have := (h.r2.lt g eg2).2
    rw [hat] at eg1
    injection eg1 with eg1
    simp at eg1
    omega
theorem TL.app2 {n0 : Nat} {W w1 : World} {v1 v2 v' : Value} {L1 L2 : List Q} {q : Q} {tmp : Obj} (h : TL n0 W v1 v2 L1 L2) (hn : n0 + 1 ≤ W.heap.size)
    (hown : w1.ownsRow n0 39 5 v' (L2 ++ [q]).length (flatQ (L2 ++ [q]))) (hg : (W.alloc tmp).grownBy w1 v2.ownBlock) (hat : v'.ownBlock = v2.ownBlock ∨ v'.ownBlock = some (W.alloc tmp).heap.size) :
    Boxed w1 (n0 + 1) 46 v2 ∧ TL n0 (w1.setCell ⟨n0 + 1, 0, none⟩ v') v1 v' L1 (L2 ++ [q]) ∧ KeepsOthers W (w1.setCell ⟨n0 + 1, 0, none⟩ v') ∧ Below n0 W (w1.setCell ⟨n0 + 1, 0, none⟩ v') := by
  obtain ⟨h1, h2, h3, h4, h5⟩ := h.b2.appended (by decide) h.r2 (by omega) (by omega) hown hg
  have e2 := (h.b1.alloc tmp).kept hg (h.b1.not_row (by decide) h.r2)
  have k2 : w1.ownsRow n0 39 5 v1 L1.length (flatQ L1) := own_keep (v' := v') (xs := []) (m := 0) h.r1 hg fun g e1 e2 => h.ne g e2 e1
  refine ⟨h1, ⟨e2.other (by omega) v', h2, k2.kept (grownBy_setCell' w1 (n0 + 1) v') (.inr (h1.not_row (by decide) k2).symm), h3, fun g eg1 eg2 => ?_⟩, h4, h5⟩
  rcases hat with hat | hat
  · exact h.ne g eg1 (by rw [← hat]; exact eg2)
  · have := (h.r1.lt g eg1).2
    rw [hat] at eg2
    injection eg2 with eg2
    simp at eg2
    omega
/-- five cells, written anew -/
theorem KL.put5n {w0 : World} {cs : List (Nat × Nat × Value)} {fs : List (Nat × Nat)} {w : World} {p : Nat} (a' b' c' d' e' : Int) (h : KL w0 cs fs w) (hf : (p, 0) ∈ fs ∧ (p, 1) ∈ fs ∧ (p, 2) ∈ fs ∧ (p, 3) ∈ fs ∧ (p, 4) ∈ fs) (hp : ∀ x ∈ cs, p ≠ x.1) (hw : w0.heap.size ≤ p) :
    KL w0 ((p, 0, .int .i64 a') :: (p, 1, .int .i64 b') :: (p, 2, .int .i64 c') :: (p, 3, .int .i64 d') :: (p, 4, .int .i64 e') :: cs) fs (((((w.setCell ⟨p, 0, none⟩ (.int .i64 a')).setCell ⟨p, 1, none⟩ (.int .i64 b')).setCell ⟨p, 2, none⟩ (.int .i64 c')).setCell ⟨p, 3, none⟩ (.int .i64 d')).setCell ⟨p, 4, none⟩ (.int .i64 e')) := by
  have c0 := h.d (p, 0) hf.1
  have c1 := h.d (p, 1) hf.2.1
  have c2 := h.d (p, 2) hf.2.2.1
  have c3 := h.d (p, 3) hf.2.2.2.1
  have c4 := h.d (p, 4) hf.2.2.2.2
  simp only [] at c0 c1 c2 c3 c4
  have h1 := ((((h.set p 0 (.int .i64 a') hp hw).set p 1 (.int .i64 b') hp hw).set p 2 (.int .i64 c') hp hw).set p 3 (.int .i64 d') hp hw).set p 4 (.int .i64 e') hp hw
  refine ⟨fun x hx => ?_, h1.g, h1.f, h1.bel⟩
  simp only [List.mem_cons] at hx
  rcases hx with rfl | rfl | rfl | rfl | rfl | hx
  · simp [go_sem, c0, c1, c2, c3, c4]
  · simp [go_sem, c0, c1, c2, c3, c4]
  · simp [go_sem, c0, c1, c2, c3, c4]
  · simp [go_sem, c0, c1, c2, c3, c4]
  · simp [go_sem, c0, c1, c2, c3, c4]
  · exact h1.c x hx
/-- what a walk keeps: cells, and that nothing that was there has turned -/
def K_Sf (A B C D a0 a1 a2 a3 a4 e0 e1 e2 e3 e4 : Int) (b1 b2 R S : Nat) (w w' : World) : Prop := KL w [(b1, 0, .int .i64 A), (b1, 1, .int .i64 B), (b2, 0, .int .i64 C), (b2, 1, .int .i64 D), (R, 0, .int .i64 a0), (R, 1, .int .i64 a1), (R, 2, .int .i64 a2), (R, 3, .int .i64 a3), (R, 4, .int .i64 a4), (S, 0, .int .i64 e0), (S, 1, .int .i64 e1), (S, 2, .int .i64 e2), (S, 3, .int .i64 e3), (S, 4, .int .i64 e4)] [] w'
theorem K_Sf.below {A B C D a0 a1 a2 a3 a4 e0 e1 e2 e3 e4 : Int} {b1 b2 R S : Nat} {w w1 w2 : World} (hb : Below w1.heap.size w1 w2) (h : K_Sf A B C D a0 a1 a2 a3 a4 e0 e1 e2 e3 e4 b1 b2 R S w w1) : K_Sf A B C D a0 a1 a2 a3 a4 e0 e1 e2 e3 e4 b1 b2 R S w w2 := KL.below hb h
theorem K_Sf.draws {A B C D a0 a1 a2 a3 a4 e0 e1 e2 e3 e4 : Int} {b1 b2 R S : Nat} {w w1 : World} (n : Nat) (h : K_Sf A B C D a0 a1 a2 a3 a4 e0 e1 e2 e3 e4 b1 b2 R S w w1) : K_Sf A B C D a0 a1 a2 a3 a4 e0 e1 e2 e3 e4 b1 b2 R S w (w1.drewN n) := KL.draws n h
theorem K_Sf.drew {A B C D a0 a1 a2 a3 a4 e0 e1 e2 e3 e4 : Int} {b1 b2 R S : Nat} {w w1 : World} (h : K_Sf A B C D a0 a1 a2 a3 a4 e0 e1 e2 e3 e4 b1 b2 R S w w1) : K_Sf A B C D a0 a1 a2 a3 a4 e0 e1 e2 e3 e4 b1 b2 R S w w1.drew := KL.draws 1 h
theorem K_Sf.alloc {A B C D a0 a1 a2 a3 a4 e0 e1 e2 e3 e4 : Int} {b1 b2 R S : Nat} {w w1 : World} (o : Obj) (h : K_Sf A B C D a0 a1 a2 a3 a4 e0 e1 e2 e3 e4 b1 b2 R S w w1) : K_Sf A B C D a0 a1 a2 a3 a4 e0 e1 e2 e3 e4 b1 b2 R S w (w1.alloc o) := KL.alloc o h
theorem K_Sf.set {A B C D a0 a1 a2 a3 a4 e0 e1 e2 e3 e4 : Int} {b1 b2 R S : Nat} {w w1 : World} (h : K_Sf A B C D a0 a1 a2 a3 a4 e0 e1 e2 e3 e4 b1 b2 R S w w1) (b i : Nat) (v : Value) (hb : b ≠ b1 ∧ b ≠ b2 ∧ b ≠ R ∧ b ≠ S ∧ w.heap.size ≤ b) : K_Sf A B C D a0 a1 a2 a3 a4 e0 e1 e2 e3 e4 b1 b2 R S w (w1.setCell ⟨b, i, none⟩ v) :=
  KL.set h b i v (by intro x hx; simp only [List.mem_cons, List.not_mem_nil, or_false] at hx; rcases hx with rfl | rfl | rfl | rfl | rfl | rfl | rfl | rfl | rfl | rfl | rfl | rfl | rfl | rfl <;> simp only [] <;> omega) (by omega)
theorem K_Sf.bel {A B C D a0 a1 a2 a3 a4 e0 e1 e2 e3 e4 : Int} {b1 b2 R S : Nat} {w w1 : World} (h : K_Sf A B C D a0 a1 a2 a3 a4 e0 e1 e2 e3 e4 b1 b2 R S w w1) : Below w.heap.size w w1 := KL.bel h
theorem K_Sf.cells {A B C D a0 a1 a2 a3 a4 e0 e1 e2 e3 e4 : Int} {b1 b2 R S : Nat} {w w' : World} (h : K_Sf A B C D a0 a1 a2 a3 a4 e0 e1 e2 e3 e4 b1 b2 R S w w') : w'.cell? ⟨b1, 0, none⟩ = some (.int .i64 A) ∧ w'.cell? ⟨b1, 1, none⟩ = some (.int .i64 B) ∧ w'.cell? ⟨b2, 0, none⟩ = some (.int .i64 C) ∧ w'.cell? ⟨b2, 1, none⟩ = some (.int .i64 D) ∧ w'.cell? ⟨R, 0, none⟩ = some (.int .i64 a0) ∧ w'.cell? ⟨R, 1, none⟩ = some (.int .i64 a1) ∧ w'.cell? ⟨R, 2, none⟩ = some (.int .i64 a2) ∧ w'.cell? ⟨R, 3, none⟩ = some (.int .i64 a3) ∧ w'.cell? ⟨R, 4, none⟩ = some (.int .i64 a4) ∧ w'.cell? ⟨S, 0, none⟩ = some (.int .i64 e0) ∧ w'.cell? ⟨S, 1, none⟩ = some (.int .i64 e1) ∧ w'.cell? ⟨S, 2, none⟩ = some (.int .i64 e2) ∧ w'.cell? ⟨S, 3, none⟩ = some (.int .i64 e3) ∧ w'.cell? ⟨S, 4, none⟩ = some (.int .i64 e4) := ⟨h.c (b1, 0, .int .i64 A) (by simp), h.c (b1, 1, .int .i64 B) (by simp), h.c (b2, 0, .int .i64 C) (by simp), h.c (b2, 1, .int .i64 D) (by simp), h.c (R, 0, .int .i64 a0) (by simp), h.c (R, 1, .int .i64 a1) (by simp), h.c (R, 2, .int .i64 a2) (by simp), h.c (R, 3, .int .i64 a3) (by simp), h.c (R, 4, .int .i64 a4) (by simp), h.c (S, 0, .int .i64 e0) (by simp), h.c (S, 1, .int .i64 e1) (by simp), h.c (S, 2, .int .i64 e2) (by simp), h.c (S, 3, .int .i64 e3) (by simp), h.c (S, 4, .int .i64 e4) (by simp)⟩
theorem K_Sf.zs {A B C D a0 a1 a2 a3 a4 e0 e1 e2 e3 e4 : Int} {b1 b2 R S : Nat} {w w' : World} (h : K_Sf A B C D a0 a1 a2 a3 a4 e0 e1 e2 e3 e4 b1 b2 R S w w') : b1 < w'.heap.size ∧ b2 < w'.heap.size ∧ R < w'.heap.size ∧ S < w'.heap.size ∧ True := ⟨KL.z h (x := (b1, 0, .int .i64 A)) (by simp), KL.z h (x := (b2, 0, .int .i64 C)) (by simp), KL.z h (x := (R, 0, .int .i64 a0)) (by simp), KL.z h (x := (S, 0, .int .i64 e0)) (by simp), trivial⟩
theorem K_Sf.ks {A B C D a0 a1 a2 a3 a4 e0 e1 e2 e3 e4 : Int} {b1 b2 R S : Nat} {w w' : World} (h : K_Sf A B C D a0 a1 a2 a3 a4 e0 e1 e2 e3 e4 b1 b2 R S w w') : (w'.cell? ⟨b1, 0, none⟩ = some (.int .i64 A) ∧ w'.cell? ⟨b1, 1, none⟩ = some (.int .i64 B) ∧ w'.cell? ⟨b2, 0, none⟩ = some (.int .i64 C) ∧ w'.cell? ⟨b2, 1, none⟩ = some (.int .i64 D) ∧ w'.cell? ⟨R, 0, none⟩ = some (.int .i64 a0) ∧ w'.cell? ⟨R, 1, none⟩ = some (.int .i64 a1) ∧ w'.cell? ⟨R, 2, none⟩ = some (.int .i64 a2) ∧ w'.cell? ⟨R, 3, none⟩ = some (.int .i64 a3) ∧ w'.cell? ⟨R, 4, none⟩ = some (.int .i64 a4) ∧ w'.cell? ⟨S, 0, none⟩ = some (.int .i64 e0) ∧ w'.cell? ⟨S, 1, none⟩ = some (.int .i64 e1) ∧ w'.cell? ⟨S, 2, none⟩ = some (.int .i64 e2) ∧ w'.cell? ⟨S, 3, none⟩ = some (.int .i64 e3) ∧ w'.cell? ⟨S, 4, none⟩ = some (.int .i64 e4)) ∧ K_Sf A B C D a0 a1 a2 a3 a4 e0 e1 e2 e3 e4 b1 b2 R S w w' := ⟨h.cells, h⟩
theorem Sr_store {A B C D : Int} {b1 b2 R S : Nat} {w W : World} (h : K_Sr A B C D b1 b2 R S w W) (hR : w.heap.size ≤ R) (hS : w.heap.size ≤ S) (n1 : R ≠ b1) (n2 : R ≠ b2) (n3 : S ≠ b1) (n4 : S ≠ b2) (n5 : R ≠ S) (a0 a1 a2 a3 a4 e0 e1 e2 e3 e4 : Int) :
    K_Sf A B C D a0 a1 a2 a3 a4 e0 e1 e2 e3 e4 b1 b2 R S w ((((((((((W.setCell ⟨R, 0, none⟩ (.int .i64 a0)).setCell ⟨R, 1, none⟩ (.int .i64 a1)).setCell ⟨R, 2, none⟩ (.int .i64 a2)).setCell ⟨R, 3, none⟩ (.int .i64 a3)).setCell ⟨R, 4, none⟩ (.int .i64 a4)).setCell ⟨S, 0, none⟩ (.int .i64 e0)).setCell ⟨S, 1, none⟩ (.int .i64 e1)).setCell ⟨S, 2, none⟩ (.int .i64 e2)).setCell ⟨S, 3, none⟩ (.int .i64 e3)).setCell ⟨S, 4, none⟩ (.int .i64 e4)) ∧
    KeepsOthers W ((((((((((W.setCell ⟨R, 0, none⟩ (.int .i64 a0)).setCell ⟨R, 1, none⟩ (.int .i64 a1)).setCell ⟨R, 2, none⟩ (.int .i64 a2)).setCell ⟨R, 3, none⟩ (.int .i64 a3)).setCell ⟨R, 4, none⟩ (.int .i64 a4)).setCell ⟨S, 0, none⟩ (.int .i64 e0)).setCell ⟨S, 1, none⟩ (.int .i64 e1)).setCell ⟨S, 2, none⟩ (.int .i64 e2)).setCell ⟨S, 3, none⟩ (.int .i64 e3)).setCell ⟨S, 4, none⟩ (.int .i64 e4)) := by
  constructor
  · have h1 := KL.put5n (p := R) a0 a1 a2 a3 a4 h (by simp) (by intro x hx; simp only [List.mem_cons, List.not_mem_nil, or_false] at hx; rcases hx with rfl | rfl | rfl | rfl <;> assumption) hR
    have h3 := KL.put5n (p := S) e0 e1 e2 e3 e4 h1 (by simp) (by intro x hx; simp only [List.mem_cons, List.not_mem_nil, or_false] at hx; rcases hx with rfl | rfl | rfl | rfl | rfl | rfl | rfl | rfl | rfl <;> first | assumption | exact fun e => n5 e.symm) hS
    exact ⟨fun x hx => h3.c x (by simp only [List.mem_cons, List.not_mem_nil, or_false] at hx; rcases hx with rfl | rfl | rfl | rfl | rfl | rfl | rfl | rfl | rfl | rfl | rfl | rfl | rfl | rfl <;> simp), by simp, by simp, h3.bel⟩
  · repeat (first | (with_reducible exact KeepsOthers.refl _) | (with_reducible refine KeepsOthers.trans ?_ (KeepsOthers.setCell _ _ _)))
theorem heap_drew (W : World) (o : Option Obj) (k : Nat) (h : W.heap[k]? = o) : W.drew.heap[k]? = o := h
/-- the deferred calls' record, taken -/
theorem Sf_taken {A B C D a0 a1 a2 a3 a4 e0 e1 e2 e3 e4 : Int} {b1 b2 R S Dd : Nat} {w W : World} (h : K_Sf A B C D a0 a1 a2 a3 a4 e0 e1 e2 e3 e4 b1 b2 R S w W) (hd : W.heap[Dd]? = some (.deferred (some []))) (hn : w.heap.size ≤ Dd) : K_Sf A B C D a0 a1 a2 a3 a4 e0 e1 e2 e3 e4 b1 b2 R S w (W.putObj Dd (.deferred none)) :=
  KL.ck h (CK.grown (grownBy_putObj' W Dd (.deferred none)) (fun r e => by cases e; exact ⟨_, hd, rfl⟩)) ((K_Sf.bel h).grown (grownBy_putObj' W Dd (.deferred none)) (K_Sf.bel h).size (fun k e => by cases e; omega))
/-- what a search returns -/
def IsV (E : Int) : Option (Q × Q) → Value
  | none => .tuple #[.agg #[.int .i64 0, .int .i64 0, .int .i64 0, .int .i64 0, .int .i64 0], .agg #[.int .i64 0, .int .i64 0, .int .i64 0, .int .i64 0, .int .i64 0], .int .i64 E]
  | some (p, q) => .tuple #[.agg #[.int .i64 (p).w, .int .i64 (p).x, .int .i64 (p).y, .int .i64 (p).z, .int .i64 (p).d], .agg #[.int .i64 (q).w, .int .i64 (q).x, .int .i64 (q).y, .int .i64 (q).z, .int .i64 (q).d], .int .i64 0]
theorem Dl_chk {f : Q → Bool} {q : Q} (h : q ∈ Dl f 2) : chkQ q.w q.x q.y q.z q.d = 0 := by
  obtain ⟨h0, h1, h2, h3, h4, -⟩ := Dl_mem h
  rw [h0]
  exact box_chk h1 h2 h3 ⟨h4.1, by have := h4.2; omega⟩
end Go.Proofs.YtgbnmnkgelklbaaDoor.Iso
