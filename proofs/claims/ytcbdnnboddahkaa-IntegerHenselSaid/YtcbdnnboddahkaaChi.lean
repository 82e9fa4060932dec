/-
  WALKS: lists of residues; the first residue that passes a test.
-/
import Derived.Test.YtcbdnnboddahkaaBezQ
import Derived.Test.YtcbdnnboddahkaaChm
import Derived.Test.YtcbdnnboddahkaaMem
import Derived.Shelf.Abstract
import Derived.Deep.LoopGhost
import Derived.Handy
namespace Go.Proofs.Ytcbdnnboddahkaa.Cn
open Go.RowKit Ws
set_option linter.unusedVariables false
set_option maxRecDepth 100000
/-- the cells of a slice that begins at A read as the residues ps -/
def Rs (w : World) (A : Option Addr) (ps : List (Int × Int)) : Prop :=
  0 < ps.length → ∃ b o, A = some ⟨b, o, none⟩ ∧ ∀ j, j < ps.length → w.cell? ⟨b, o + j * 2, none⟩ = some (.int .i64 (ps.getD j (0, 0)).1) ∧ w.cell? ⟨b, o + j * 2 + 1, none⟩ = some (.int .i64 (ps.getD j (0, 0)).2)
theorem Rs.below {w w' : World} {A : Option Addr} {ps : List (Int × Int)} (h : Rs w A ps) (hb : Below w.heap.size w w') : Rs w' A ps := by
  intro h0
  obtain ⟨b, o, rfl, hc⟩ := h h0
  refine ⟨b, o, rfl, fun j hj => ?_⟩
  obtain ⟨h1, h2⟩ := hc j hj
  exact ⟨(hb.cell (p := ⟨b, o + j * 2, none⟩) (World.block_lt_of_cell? w ⟨b, o + j * 2, none⟩ h1)).trans h1, (hb.cell (p := ⟨b, o + j * 2 + 1, none⟩) (World.block_lt_of_cell? w ⟨b, o + j * 2 + 1, none⟩ h2)).trans h2⟩
theorem Rs.at_ {w : World} {A : Option Addr} {ps : List (Int × Int)} (h : Rs w A ps) {j : Nat} (hj : j < ps.length) : ∃ b o r m, A = some ⟨b, o, none⟩ ∧ Hid (ps.getD j (0, 0) = (r, m)) ∧ w.cell? ⟨b, o + j * 2, none⟩ = some (.int .i64 r) ∧ w.cell? ⟨b, o + j * 2 + 1, none⟩ = some (.int .i64 m) ∧ b < w.heap.size := by
  obtain ⟨b, o, rfl, hc⟩ := h (by omega)
  obtain ⟨h1, h2⟩ := hc j hj
  exact ⟨b, o, _, _, rfl, Lib.hid rfl, h1, h2, World.block_lt_of_cell? w ⟨b, o + j * 2, none⟩ h1⟩
theorem Rs.take_ {w : World} {A : Option Addr} {ps : List (Int × Int)} (h : Rs w A ps) (n : Nat) : Rs w A (ps.take n) := by
  intro h0
  obtain ⟨b, o, rfl, hc⟩ := h (by simp at h0; omega)
  refine ⟨b, o, rfl, fun j hj => ?_⟩
  simp at hj
  rw [List.getD_eq_getElem?_getD, List.getElem?_take, if_pos (by omega), ← List.getD_eq_getElem?_getD]
  exact hc j (by omega)
theorem any_no {p : Int × Int → Bool} {ps : List (Int × Int)} (h : ∀ j, j < ps.length → p (ps.getD j (0, 0)) = false) : false = ps.any p := by
  symm
  rw [List.any_eq_false]
  intro q hq
  obtain ⟨j, hj, rfl⟩ := List.getElem_of_mem hq
  have := h j hj
  rw [List.getD_eq_getElem?_getD, List.getElem?_eq_getElem hj] at this
  simpa using this
theorem any_yes {p : Int × Int → Bool} {ps : List (Int × Int)} {j : Nat} (hj : j < ps.length) (h : p (ps.getD j (0, 0)) = true) : true = ps.any p := by
  symm
  rw [List.any_eq_true]
  refine ⟨_, List.getElem_mem hj, ?_⟩
  rw [List.getD_eq_getElem?_getD, List.getElem?_eq_getElem hj] at h
  simpa using h
theorem mem_getD {ps : List (Int × Int)} {j : Nat} {q : Int × Int} (hj : j < ps.length) (h : ps.getD j (0, 0) = q) : q ∈ ps := by
  rw [List.getD_eq_getElem?_getD, List.getElem?_eq_getElem hj] at h
  subst h
  exact List.getElem_mem hj
theorem retB {a b : Bool} (h : a = b) : Ending.returned (.bool a) = .returned (.bool b) := by rw [h]
theorem quietE {f : FuncId} {args : Array Value} {w : World} {n : Nat} {v : Value} (h : Calls Try.prog f args (w.drewN n) fun e w' => e = .returned v ∧ w.drewN n = w') : Calls Try.prog f args (w.drewN n) fun e w'' => e = .returned v ∧ ∃ m, w'' = w.drewN m :=
  h.mono fun _ _ ⟨he, hm⟩ => ⟨he, n, hm.symm⟩
def FiOut (p : Int × Int → Bool) (ps : List (Int × Int)) (e : Ending) : Prop := ∃ v : Int, e = .returned (.int .i64 v) ∧ decide (0 ≤ v) = ps.any p ∧ -1 ≤ v ∧ v ≤ 9223372036854775807
def Test_ (p : Int × Int → Bool) (g : Nat) (lb : Array Value) (ps : List (Int × Int)) (w : World) : Prop := ∀ (r m : Int) (w1 : World), (r, m) ∈ ps → Below w.heap.size w w1 → Calls Try.prog g (#[.agg #[.int .i64 r, .int .i64 m]] ++ lb) w1 fun e w2 => e = .returned (.bool (p (r, m))) ∧ Below w1.heap.size w1 w2
set_option maxHeartbeats 1000000 in
theorem fidx_any (p : Int × Int → Bool) (g : Nat) (lb : Array Value) (eg : ∀ args w, (callFunc g args).run Try.prog w = .ok (.enter g args) w) (A : Option Addr) (c : Nat) (ps : List (Int × Int)) (w : World) (hA : Rs w A ps) (hc : ps.length ≤ c) (hcm : c ≤ 9223372036854775807) (hp : Test_ p g lb ps w) :
    Calls Try.prog 153 #[.slice A ps.length c, .func (.func g) #[] lb] w fun e w' => FiOut p ps e ∧ Below w.heap.size w w' := by
  have HA := Lib.hid hA
  have HP := Lib.hid hp
  clear hA hp
  go_enter Try.func153, Try.ntmps153
  go_wp2
  go_loopg [5, 8] ps.length (fun gg _ t8 wr => ∃ kk : Nat, (kk ≤ ps.length ∧ ps.length - kk ≤ gg ∧ (∀ j, j < kk → p (ps.getD j (0, 0)) = false) ∧ Below w.heap.size w wr) ∧ t8 = .int .i64 kk)
  case atStart => exact ⟨0, ⟨Nat.zero_le _, by omega, fun j hj => by omega, Below.refl _ _⟩, rfl⟩
  case round =>
    obtain ⟨kk, ⟨hk, hg, hno, hbel⟩, rfl⟩ := hrel
    have HNO := Lib.hid hno
    have HB := Lib.hid hbel
    clear hno hbel
    by_cases hlt : kk < ps.length
    · obtain ⟨b, o, r, m, rfl, EQ, hc1, hc2, hb⟩ := (HA.out.below HB.out).at_ hlt
      cases hq : p (r, m) with
      | true =>
        have HY : Hid (p (ps.getD kk (0, 0)) = true) := Lib.hid (by rw [EQ.out]; exact hq)
        go_wp2_with (go_at_fn g; refine (HP.out r m _ (mem_getD hlt EQ.out) HB.out).mono ?_; rw [hq]; rintro e w2 ⟨rfl, hb2⟩)
        go_ret
        exact ⟨⟨_, rfl, by rw [← any_yes hlt HY.out]; simp, by omega, by omega⟩, HB.out.trans (hb2.mono HB.out.size)⟩
      | false =>
        have HN : Hid (∀ j, j < kk + 1 → p (ps.getD j (0, 0)) = false) := Lib.hid (fun j hj => by
          rcases Nat.lt_or_ge j kk with h | h
          · exact HNO.out j h
          · have : j = kk := by omega
            subst this
            rw [EQ.out]; exact hq)
        go_wp2_with (go_at_fn g; refine (HP.out r m _ (mem_getD hlt EQ.out) HB.out).mono ?_; rw [hq]; rintro e w2 ⟨rfl, hb2⟩)
        go_roundg (ps.length - (kk + 1))
        case rel => exact ⟨kk + 1, ⟨by omega, by omega, HN.out, HB.out.trans (hb2.mono HB.out.size)⟩, by go_num⟩
        case measure => omega
    · have hkl : kk = ps.length := by omega
      have HF : Hid (false = ps.any p) := Lib.hid (any_no (by rw [← hkl]; exact HNO.out))
      clear hkl
      go_wp2
      go_ret
      exact ⟨⟨-1, rfl, by rw [← HF.out]; decide, by omega, by omega⟩, HB.out⟩
theorem contains_any (p : Int × Int → Bool) (g : Nat) (lb : Array Value) (eg : ∀ args w, (callFunc g args).run Try.prog w = .ok (.enter g args) w) (A : Option Addr) (c : Nat) (ps : List (Int × Int)) (w : World) (hA : Rs w A ps) (hc : ps.length ≤ c) (hcm : c ≤ 9223372036854775807) (hp : Test_ p g lb ps w) :
    Calls Try.prog 123 #[.slice A ps.length c, .func (.func g) #[] lb] w fun e w' => e = .returned (.bool (ps.any p)) ∧ Below w.heap.size w w' := by
  have HA := Lib.hid hA
  have HP := Lib.hid hp
  clear hA hp
  go_enter Try.func123, Try.ntmps123
  go_wp2_with fail
  refine (fidx_any p g lb eg A c ps w HA.out hc hcm HP.out).mono ?_
  rintro e w1 ⟨⟨v, rfl, hv, h1, h2⟩, hb⟩
  go_wp2
  go_ret
  exact ⟨rfl, hb⟩
theorem test_mod (ps : List (Int × Int)) (w : World) : Test_ (fun q => !modB q.2) 124 #[] ps w := by
  intro r m w1 _ _
  show Calls Try.prog 124 #[.agg #[.int .i64 r, .int .i64 m]] w1 _
  go_enter Try.func124, Try.ntmps124
  go_wp2_with (go_at_call 118; refine (isMod_any m _).mono ?_; rintro e w2 ⟨rfl, rfl⟩)
  go_ret
  exact ⟨rfl, by go_grown⟩
/-- do two residues contradict each other? -/
def clB (p q : Int × Int) : Bool := p.1 % gz p.2 q.2 != q.1 % gz p.2 q.2
theorem clB_iff {p q : Int × Int} : clB p q = true ↔ clP p q := by unfold clB clP; rw [bne_iff_ne]
theorem contra_any (r m r' m' : Int) (w : World) (h1 : 1 ≤ m) (h2 : m ≤ 1000000000) (h3 : 1 ≤ m') (h4 : m' ≤ 1000000000) :
    Calls Try.prog 126 #[.agg #[.int .i64 r, .int .i64 m], .agg #[.int .i64 r', .int .i64 m']] w fun e w' => e = .returned (.bool (clB (r, m) (r', m'))) ∧ Below w.heap.size w w' := by
  have hg := gz_pos (a := m) h3
  have hgl : gz m m' ≤ m' := Int.le_of_dvd (by omega) (gz_right m m')
  go_enter Try.func126, Try.ntmps126
  go_wp2_with fail
  refine (cofactor_any m m' _ (by omega) h2 h3 h4).mono ?_
  rintro e w1 ⟨⟨x, rfl, hx, hx1, hx2⟩, rfl⟩
  have HX := Lib.hid hx
  clear hx
  rw [show ((Int.gcd m m' : Nat) : Int) = gz m m' from rfl]
  have hcb : (r % gz m m' != r' % gz m m') = clB (r, m) (r', m') := rfl
  have HCB := Lib.hid hcb
  clear hcb
  generalize gz m m' = g at *
  have hB : Below w.heap.size w ((w.alloc (Obj.cells #[Value.int IntKind.i64 r, Value.int IntKind.i64 m] 66)).alloc (Obj.cells #[Value.int IntKind.i64 r', Value.int IntKind.i64 m'] 66)) := by go_grown
  have c0 : ((w.alloc (Obj.cells #[Value.int IntKind.i64 r, Value.int IntKind.i64 m] 66)).alloc (Obj.cells #[Value.int IntKind.i64 r', Value.int IntKind.i64 m'] 66)).cell? ⟨w.heap.size, 0, none⟩ = some (.int .i64 r) := by simp [go_sem]
  have c2 : ((w.alloc (Obj.cells #[Value.int IntKind.i64 r, Value.int IntKind.i64 m] 66)).alloc (Obj.cells #[Value.int IntKind.i64 r', Value.int IntKind.i64 m'] 66)).cell? ⟨w.heap.size + 1, 0, none⟩ = some (.int .i64 r') := by simp [go_sem]
  have HB := Lib.hid hB
  clear hB
  go_wp2
  generalize ((w.alloc (Obj.cells #[Value.int IntKind.i64 r, Value.int IntKind.i64 m] 66)).alloc (Obj.cells #[Value.int IntKind.i64 r', Value.int IntKind.i64 m'] 66)) = W0 at *
  go_quiet ((go_at_call 114; exact quietE (residue_any _ _ _ hg (by omega))))
  go_wp2
  go_ret
  exact ⟨retB HCB.out, below_drawn HB.out _⟩
end Go.Proofs.Ytcbdnnboddahkaa.Cn
