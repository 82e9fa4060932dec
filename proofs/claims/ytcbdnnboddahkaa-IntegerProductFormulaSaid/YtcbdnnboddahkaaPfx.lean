/-
  WALK of the law IntegerProductFormula: it returns true for all arguments.
-/
import Derived.Test.YtcbdnnboddahkaaMgPf
import Derived.Test.YtcbdnnboddahkaaMgV
import Derived.Test.YtcbdnnboddahkaaRo
import Derived.Test.YtcbdnnboddahkaaMgAw
import Derived.Deep.QuietTactic
import Derived.Laws.OwnMore
import Derived.Outline
namespace Go.Proofs.Ytcbdnnboddahkaa.Pf
open Go.RowKit
open Nt (Pr)
open Ws (IntE IntE.below IntE.of Of_v Mul_v Cmp_v Root_any RtOut VOut cmpI cmpI_cases SqR W_len_lt)
open Rm (flat flat_app flat_len flat_get PL FtEnd Factor_any)
set_option linter.unusedVariables false
set_option linter.unusedSimpArgs false
set_option maxRecDepth 100000
theorem below_up {B : Nat} {w W w2 : World} (hb : Below W.heap.size W w2) (h : Below B w W) (hB : B ≤ W.heap.size) : Below B w w2 := h.trans (hb.mono hB)
/-- what a cell holds -/
@[irreducible] def cv (w : World) (b i : Nat) : Value := (w.cell? ⟨b, i, none⟩).getD undef
theorem cv_of {w : World} {b i : Nat} (h : (w.cell? ⟨b, i, none⟩).isSome = true) : w.cell? ⟨b, i, none⟩ = some (cv w b i) := by
  unfold cv
  obtain ⟨v, hv⟩ := Option.isSome_iff_exists.1 h
  rw [hv]; rfl
/-- cells that are known, cells that may be written, nothing that was there turned -/
structure KL (w0 : World) (cs : List (Nat × Nat × Value)) (fs : List (Nat × Nat)) (w : World) : Prop where
  c : ∀ x ∈ cs, w.cell? ⟨x.1, x.2.1, none⟩ = some x.2.2
  g : ∀ x ∈ fs, (w.cell? ⟨x.1, x.2, none⟩).isSome = true
  f : ∀ x ∈ fs, w.frozen? ⟨x.1, x.2, none⟩ = false
  bel : Below w0.heap.size w0 w
section
variable {w0 : World} {cs : List (Nat × Nat × Value)} {fs : List (Nat × Nat)} {w w' : World}
theorem KL.d (h : KL w0 cs fs w) (x : Nat × Nat) (hx : x ∈ fs) : w.cell? ⟨x.1, x.2, none⟩ = some (cv w x.1 x.2) := cv_of (h.g x hx)
theorem KL.z (h : KL w0 cs fs w) {x : Nat × Nat × Value} (hx : x ∈ cs) : x.1 < w.heap.size := World.block_lt_of_cell? w ⟨x.1, x.2.1, none⟩ (h.c x hx)
theorem KL.zf (h : KL w0 cs fs w) {x : Nat × Nat} (hx : x ∈ fs) : x.1 < w.heap.size := World.block_lt_of_cell? w ⟨x.1, x.2, none⟩ (h.d x hx)
theorem KL.below (hb : Below w.heap.size w w') (h : KL w0 cs fs w) : KL w0 cs fs w' :=
  ⟨fun x hx => (hb.cell (p := ⟨x.1, x.2.1, none⟩) (h.z hx)).trans (h.c x hx), fun x hx => by rw [hb.cell (p := ⟨x.1, x.2, none⟩) (h.zf hx)]; exact h.g x hx,
    fun x hx => (hb.frozen (p := ⟨x.1, x.2, none⟩) (h.zf hx)).trans (h.f x hx), h.bel.trans (hb.mono h.bel.size)⟩
theorem KL.draws (n : Nat) (h : KL w0 cs fs w) : KL w0 cs fs (w.drewN n) := h.below (below_draws (Below.refl _ _) n)
theorem KL.alloc (o : Obj) (h : KL w0 cs fs w) : KL w0 cs fs (w.alloc o) := h.below ((Below.refl _ _).alloc (Nat.le_refl _) o)
theorem KL.set (h : KL w0 cs fs w) (b i : Nat) (v : Value) (hb : ∀ x ∈ cs, b ≠ x.1) (h0 : w0.heap.size ≤ b) : KL w0 cs fs (w.setCell ⟨b, i, none⟩ v) := by
  refine ⟨fun x hx => ?_, fun x hx => ?_, fun x hx => ?_, h.bel.setCell h0 _⟩
  · rw [World.cell?_setCell_other _ _ _ _ (fun e => hb x hx (by injection e))]; exact h.c x hx
  · obtain ⟨u, hu⟩ := cell?_setCell_some (p := ⟨b, i, none⟩) (x := v) (h.d x hx)
    rw [hu]; rfl
  · rw [World.frozen?_setCell]; exact h.f x hx
end
theorem mulb {x y X Y : Int} (hx : -X ≤ x ∧ x ≤ X) (hy : 0 ≤ y ∧ y ≤ Y) : -(X * Y) ≤ x * y ∧ x * y ≤ X * Y := by
  have hX : 0 ≤ X := by omega
  have h1 : x * y ≤ X * y := Int.mul_le_mul_of_nonneg_right hx.2 hy.1
  have h2 : X * y ≤ X * Y := Int.mul_le_mul_of_nonneg_left hy.2 hX
  have h3 : -X * y ≤ x * y := Int.mul_le_mul_of_nonneg_right hx.1 hy.1
  rw [Int.neg_mul] at h3
  omega
theorem Root_v {w : World} {b : Bool} {z : Int} {k : Nat} {u : Value} (hu : IntE w b z k u) (hz : 0 ≤ z) (hz2 : z ≤ 2000000000) : Calls Try.prog 44 #[u] w fun e w' => ∃ (r : Nat) (A : Option Addr) (l c : Nat), r * r ≤ z.natAbs ∧ e = .returned (.tuple #[.agg #[.bool false, .slice A l c], .int .i64 0]) ∧ IntE w' true r 2 (.agg #[.bool false, .slice A l c]) ∧ Below w.heap.size w w' := by
  obtain ⟨⟨nx, X, c, xs, rfl, h1, rfl, h3⟩, -⟩ := hu
  refine (Root_any nx X c xs w h1).mono ?_
  rintro e w' ⟨r, A, c', hr, -, rfl, hi, hb⟩
  have h4 := (hr hz).1
  have h5 : r ≤ r * r := by
    rcases Nat.eq_zero_or_pos r with h0 | h0
    · omega
    · exact Nat.le_mul_of_pos_right r h0
  refine ⟨r, A, _, c', h4, ?_, IntE.of hi (W_len_lt (by rw [Int.natAbs_natCast]; omega)) (by omega), hb⟩
  rw [if_neg (by omega)]
theorem quietE {f : FuncId} {args : Array Value} {w : World} {n : Nat} {v : Value} (h : Calls Try.prog f args (w.drewN n) fun e w' => e = .returned v ∧ w.drewN n = w') : Calls Try.prog f args (w.drewN n) fun e w'' => e = .returned v ∧ ∃ m, w'' = w.drewN m :=
  h.mono fun _ _ ⟨he, hm⟩ => ⟨he, n, hm.symm⟩
theorem own_ne {w : World} {B B' : Nat} {e e' : TypeId} {k k' n n' : Nat} {v v' : Value} {xs ys : List Value} (h : w.ownsRow B e k v n xs) (h' : w.ownsRow B' e' k' v' n' ys) (hne : e ≠ e') : v.ownBlock = none ∨ v.ownBlock ≠ v'.ownBlock := by
  rcases h.2 with ⟨rfl, _⟩ | ⟨g, cap, cur, rfl, _, hg, _⟩
  · exact .inl rfl
  · refine .inr ?_
    rcases h'.2 with ⟨rfl, _⟩ | ⟨g', cap', cur', rfl, _, hg', _⟩
    · intro hh; simp [Value.ownBlock] at hh
    · intro hh
      simp [Value.ownBlock] at hh
      subst hh
      rw [hg] at hg'
      injection hg' with hg'
      injection hg' with _ h3
      exact hne h3
theorem LP.grown {B : Nat} {w w' : World} {A : Option Addr} {c : Nat} {L : List (Nat × Nat)} {row : Option Nat} (h : LP B w A c L) (hg : w.grownBy w' row) (hne : (Value.slice A L.length c).ownBlock = none ∨ (Value.slice A L.length c).ownBlock ≠ row) : LP B w' A c L := World.ownsRow.kept h hg hne
theorem tPw : 80 ≠ 3 := by decide
theorem LP.al {B : Nat} {w : World} {A : Option Addr} {c : Nat} {L : List (Nat × Nat)} (h : LP B w A c L) (o : Obj) : LP B (w.alloc o) A c L := World.ownsRow.alloc h o
/-- a place is not there yet: the list grows -/
theorem places_step {B : Nat} {w w' wx : World} {A : Option Addr} {c q : Nat} {pl : List Nat} {v' : Value} (ho : LN B w A c pl) (hr : w'.ownsRow B 3 1 v' (pl.length + 1) (nvs pl ++ [.int .i64 q])) : w'.ownsRow B 3 1 v' (pl ++ [q]).length (nvs (pl ++ [q])) := by
  rw [nvs_app, List.length_append]; exact hr
def inW (n : Int) : Bool := withinB n (-20000) 20000
theorem bad_ways {a b c : Int} (h : ¬ ((inW a && inW b && inW c) = true ∧ a ≠ 0 ∧ b ≠ 0 ∧ c ≠ 0)) : inW a = false ∨ inW a = true ∧ (inW b = false ∨ inW b = true ∧ (inW c = false ∨ inW c = true ∧ ((a == 0) = true ∨ (a == 0) = false ∧ ((b == 0) = true ∨ (b == 0) = false ∧ (c == 0) = true)))) := by
  rcases h1 : inW a with _ | _
  · exact .inl rfl
  refine .inr ⟨rfl, ?_⟩
  rcases h2 : inW b with _ | _
  · exact .inl rfl
  refine .inr ⟨rfl, ?_⟩
  rcases h3 : inW c with _ | _
  · exact .inl rfl
  refine .inr ⟨rfl, ?_⟩
  rcases h4 : (a == 0) with _ | _
  · refine .inr ⟨rfl, ?_⟩
    rcases h5 : (b == 0) with _ | _
    · refine .inr ⟨rfl, ?_⟩
      rcases h6 : (c == 0) with _ | _
      · exact absurd ⟨by rw [h1, h2, h3]; rfl, by simpa using h4, by simpa using h5, by simpa using h6⟩ h
      · rfl
    · exact .inl rfl
  · exact .inl rfl
set_option maxHeartbeats 1600000 in
theorem pf_bad (a b X0 X1 X2 : Int) (w : World) (h : ¬ ((inW a && inW b && inW X2) = true ∧ a ≠ 0 ∧ b ≠ 0 ∧ X2 ≠ 0)) :
    Calls Try.prog 14 #[.int .i64 a, .int .i64 b, .agg #[.int .i64 X0, .int .i64 X1, .int .i64 X2]] w fun e w' => e = .returned (.bool true) ∧ Below w.heap.size w w' := by
  have h' := bad_ways h
  clear h
  unfold inW at h'
  rcases h' with t1 | ⟨t1, t2 | ⟨t2, t3 | ⟨t3, t4 | ⟨t4, t5 | ⟨t5, t6⟩⟩⟩⟩⟩
  all_goals
    go_enter Try.func14, Try.ntmps14
    go_wp2_with (first | (go_at_call 53; refine (within_any _ _ _ _).mono ?_; rintro e w' ⟨rfl, rfl⟩) | (go_at_call 20; refine (awake_any _).mono ?_; rintro e w2 ⟨rfl, hA⟩))
    go_ret
    exact ⟨rfl, below_up hA (by (repeat (first | (with_reducible exact Below.refl _ _) | (with_reducible exact HB.out) | (with_reducible refine below_draws ?_ _) | (with_reducible refine Below.alloc ?_ (by go_size) _) | (with_reducible refine Below.setCell ?_ (by go_size) _) | (with_reducible refine Below.alloc ?_ (by simp <;> omega) _) | (with_reducible refine Below.setCell ?_ (by simp <;> omega) _)))) (by simp <;> omega)⟩
set_option maxHeartbeats 3200000 in
theorem pf_ok (a b X0 X1 X2 : Int) (w : World) (ha : -20000 ≤ a ∧ a ≤ 20000) (hb : -20000 ≤ b ∧ b ≤ 20000) (hc : -20000 ≤ X2 ∧ X2 ≤ 20000) (a0 : a ≠ 0) (b0 : b ≠ 0) (c0 : X2 ≠ 0) :
    Calls Try.prog 14 #[.int .i64 a, .int .i64 b, .agg #[.int .i64 X0, .int .i64 X1, .int .i64 X2]] w fun e w' => e = .returned (.bool true) ∧ Below w.heap.size w w' := by
  obtain ⟨i0, hi, hz0, hz1, hz2⟩ := info_parts infoI
  have t1 : withinB a (-20000) 20000 = true := decide_eq_true ha
  have t2 : withinB b (-20000) 20000 = true := decide_eq_true hb
  have t3 : withinB X2 (-20000) 20000 = true := decide_eq_true hc
  have t4 : (a == 0) = false := by rw [beq_eq_false_iff_ne]; exact a0
  have t5 : (b == 0) = false := by rw [beq_eq_false_iff_ne]; exact b0
  have t6 : (X2 == 0) = false := by rw [beq_eq_false_iff_ne]; exact c0
  have hab : -400000000 ≤ a * b ∧ a * b ≤ 400000000 := by
    have : (a * b).natAbs = a.natAbs * b.natAbs := Int.natAbs_mul a b
    have h2 : a.natAbs * b.natAbs ≤ 20000 * 20000 := Nat.mul_le_mul (by omega) (by omega)
    omega
  have hab' : 2 * a * b = 2 * (a * b) := Int.mul_assoc _ _ _
  have e1 := IntWalk.i64_in (2 * a) (by omega)
  have e2 := IntWalk.i64_in (2 * a * b) (by omega)
  have BA := Lib.hid (fun W => babs_any (2 * a * b) W (by omega))
  obtain ⟨n, hn⟩ : ∃ n, (2 * a * b).natAbs = n := ⟨_, rfl⟩
  rw [hn] at BA
  have HN := Lib.hid hn
  have A0 := Lib.hid a0
  have B0 := Lib.hid b0
  have C0 := Lib.hid c0
  clear hn hab' hab a0 b0 c0
  have HOL : Hid (((w.alloc (.cells #[.int .i64 X0, .int .i64 X1, .int .i64 X2] 72)).alloc (.cells #[.int .i64 0] 3)).ownsRow (w.heap.size + 1) 3 1 (.slice (some ⟨w.heap.size + 1, 0, none⟩) 1 1) 1 [.int .i64 0]) := Lib.hid (by
    have := World.ownsRow_lit (base := w.heap.size + 1) (size := 1) (e := 3) (w.alloc (.cells #[.int .i64 X0, .int .i64 X1, .int .i64 X2] 72)) #[Value.int IntKind.i64 0] 1 (by simp) (by unfold maxLen; omega) rfl
    simpa using this)
  go_enter Try.func14, Try.ntmps14
  go_wp2_with (first | (go_at_call 53; refine (within_any _ _ _ _).mono ?_; rintro e w' ⟨rfl, rfl⟩) | (go_at_call 65; (with_reducible refine (BA.out _).mono ?_); rintro e w' ⟨rfl, rfl⟩) | (at_builtin; refine wpList_append_own _ rfl _ _ 74 rfl (w.heap.size + 1) 3 i0 (.int .i64 0) 1 8 Try.underlying74 hi hz0 hz1 hz2 rfl (by decide) _ _ _ rfl (HOL.out.alloc _) ⟨w.heap.size + 1 + 1, 0, none⟩ 1 1 [.int .i64 2] rfl rfl (one_new _ _ _ _ (by simp)) (by intro u hu; simp at hu; subst hu; rfl) (by unfold maxLen; omega) (by omega) (by simp) ?_; intro v0 w2 hown hgrow _))
  have hb2 : Below (w.heap.size + 1) (w.alloc (.cells #[.int .i64 X0, .int .i64 X1, .int .i64 X2] 72)) w2 := ((((Below.refl _ _).alloc (by simp) _).alloc (by simp) _).grown hgrow (by simp) (fun j hj => by have : w.heap.size + 1 = j := Option.some.inj hj; omega))
  obtain ⟨x0_, x1_, x2_⟩ : (w.alloc (.cells #[.int .i64 X0, .int .i64 X1, .int .i64 X2] 72)).cell? ⟨w.heap.size, 0, none⟩ = some (.int .i64 X0) ∧ (w.alloc (.cells #[.int .i64 X0, .int .i64 X1, .int .i64 X2] 72)).cell? ⟨w.heap.size, 1, none⟩ = some (.int .i64 X1) ∧ Below w.heap.size w (w.alloc (.cells #[.int .i64 X0, .int .i64 X1, .int .i64 X2] 72)) := ⟨by simp [go_sem], by simp [go_sem], by (repeat (first | (with_reducible exact Below.refl _ _) | (with_reducible exact HB.out) | (with_reducible refine below_draws ?_ _) | (with_reducible refine Below.alloc ?_ (by go_size) _) | (with_reducible refine Below.setCell ?_ (by go_size) _) | (with_reducible refine Below.alloc ?_ (by simp <;> omega) _) | (with_reducible refine Below.setCell ?_ (by simp <;> omega) _)))⟩
  have hxs : (w.alloc (.cells #[.int .i64 X0, .int .i64 X1, .int .i64 X2] 72)).heap.size = w.heap.size + 1 := by simp
  generalize w.alloc (.cells #[.int .i64 X0, .int .i64 X1, .int .i64 X2] 72) = wx at *
  have HX0 := Lib.hid x0_
  have HX1 := Lib.hid x1_
  have HX2 := Lib.hid x2_
  have HXS := Lib.hid hxs
  obtain ⟨A0', c0', rfl, hLN, hcm, hcl⟩ := LN.of (l := [0, 2]) hown
  have HLN := Lib.hid hLN
  have HB := Lib.hid hb2
  clear hown hgrow hb2 x0_ x1_ x2_ hxs hLN HOL
  have FA := Lib.hid (fun W => Factor_any a.natAbs W (by have := A0.out; omega) (by omega))
  have FB := Lib.hid (fun W => Factor_any b.natAbs W (by have := B0.out; omega) (by omega))
  have BA1 := Lib.hid (fun W => babs_any a W (by omega))
  have BA2 := Lib.hid (fun W => babs_any b W (by omega))
  refine (BA1.out _).mono ?_
  rintro e w3 ⟨rfl, rfl⟩
  go_wp2_with fail
  refine (FA.out _).mono ?_
  rintro e w4 ⟨v1, L, rfl, hL, hlen, hown, hbel⟩
  obtain ⟨Aa, ca, rfl, hLP, hca, hlca⟩ := LP.of hown
  have hs2 : w.heap.size + 1 ≤ w2.heap.size := by have := HB.out.size; have := HXS.out; omega
  have HB4 := Lib.hid (HB.out.trans (hbel.mono hs2))
  have HLN4 := Lib.hid (LN.below HLN.out hbel (LN.lt HLN.out))
  have HL := Lib.hid hL
  have HP4 := Lib.hid hLP
  clear hlen hown hbel hL hLP HLN HB hs2
  go_wp2_with fail
  refine (BA2.out _).mono ?_
  rintro e w3 ⟨rfl, rfl⟩
  go_wp2_with fail
  refine (FB.out _).mono ?_
  rintro e w5 ⟨v2, M, rfl, hM, hlen, hown, hbel⟩
  obtain ⟨Ab, cb, rfl, hMP, hcb, hlcb⟩ := LP.of hown
  have hs2 : w.heap.size + 1 ≤ w4.heap.size := by have := HB4.out.size; have := HXS.out; omega
  have HB5 := Lib.hid (HB4.out.trans (hbel.mono hs2))
  have HLN5 := Lib.hid (LN.below HLN4.out hbel (LN.lt HLN4.out))
  have HP5 := Lib.hid (LP.below HP4.out hbel (LP.lt HP4.out))
  have HM := Lib.hid hM
  have HQ5 := Lib.hid hMP
  clear hlen hown hbel hM hMP HLN4 HB4 HP4 hs2
  have hl1 : L.length ≤ 14 := by
    have := PL_len (n := a.natAbs) (by have := A0.out; omega) (by omega)
    rw [← HL.out, List.length_map] at this; exact this
  have hm1 : M.length ≤ 14 := by
    have := PL_len (n := b.natAbs) (by have := B0.out; omega) (by omega)
    rw [← HM.out, List.length_map] at this; exact this
  go_wp2_with fail
  go_loopw [9, 14] (fun t9 t14 wr => ∃ (k : Nat) (pl : List Nat) (A : Option Addr) (c : Nat), (k ≤ L.length ∧ Pls a b ((L.take k).map Prod.fst) pl ∧ pl.length ≤ 2 + k ∧ LN (w.heap.size + 1) wr A c pl ∧ pl.length ≤ c ∧ c ≤ 9223372036854775807 ∧ LP w2.heap.size wr Aa ca L ∧ LP w4.heap.size wr Ab cb M ∧ Below (w.heap.size + 1) wx wr) ∧ t14 = .int .i64 k ∧ t9 = .slice A pl.length c) (fun _ t14 _ => L.length - (intOf t14).toNat)
  case atStart => exact ⟨0, [0, 2], A0', c0', ⟨Nat.zero_le _, Pls.start a b, by simp, HLN5.out, hcl, hcm, HP5.out, HQ5.out, HB5.out⟩, rfl, rfl⟩
  case round =>
    obtain ⟨k, pl, A, c, ⟨hkl, hpl, hll, hln, hcl, hcm, hp1, hp2, hbel⟩, rfl, rfl⟩ := hrel
    obtain ⟨wo, rfl⟩ : ∃ wo : World, wo = wr := ⟨_, rfl⟩
    have hws : w.heap.size + 1 ≤ wo.heap.size := by have := hbel.size; have := HXS.out; omega
    have HPL := Lib.hid hpl
    have HLN := Lib.hid hln
    have HP1 := Lib.hid hp1
    have HP2 := Lib.hid hp2
    have HB := Lib.hid hbel
    clear hpl hln hp1 hp2 hbel
    by_cases hlt : k < L.length
    · have hq : L[k]? = some L[k] := List.getElem?_eq_getElem hlt
      obtain ⟨b_, ea_, g0, -, -, -⟩ := LP.at_ HP1.out hq
      obtain ⟨q, hqq⟩ : ∃ q, L[k] = q := ⟨_, rfl⟩
      rw [hqq] at hq g0
      have hq2 : (L.map Prod.fst)[k]? = some q.1 := by rw [List.getElem?_map, hq]; rfl
      have hpr := PL_at (by rw [HL.out] at hq2; exact hq2)
      have htk : (L.take (k + 1)).map Prod.fst = (L.take k).map Prod.fst ++ [q.1] := by rw [List.take_add_one, hq, List.map_append]; rfl
      have HPR := Lib.hid hpr
      have HTK := Lib.hid htk
      have HHA := Lib.hid (has_any pl q.1 _ A c wo HLN.out (by omega) hcl hcm)
      clear hq hqq hq2 hpr htk
      subst ea_
      go_wp2_with fail
      refine HHA.out.mono ?_
      rintro e w' ⟨rfl, rfl⟩
      by_cases hmem : q.1 ∈ pl
      · have ht : decide (q.1 ∈ pl) = true := decide_eq_true hmem
        have HST := Lib.hid (HPL.out.skip hmem HPR.out.1)
        clear hmem
        go_wp2
        go_roundw
        case rel => exact ⟨k + 1, pl, A, c, ⟨by omega, by rw [HTK.out]; exact HST.out, by omega, HLN.out, hcl, hcm, HP1.out, HP2.out, HB.out⟩, by go_num, rfl⟩
        case measure => simp [intOf]; omega
      · have ht : decide (q.1 ∈ pl) = false := decide_eq_false hmem
        have HST := Lib.hid (HPL.out.take hmem HPR.out.1 (.inl HPR.out.2))
        clear hmem
        go_wp2_with (at_builtin; refine wpList_append_own _ rfl _ _ 74 rfl (w.heap.size + 1) 3 i0 (.int .i64 0) 1 8 Try.underlying74 hi hz0 hz1 hz2 rfl (by decide) _ _ _ rfl (World.ownsRow.alloc HLN.out _) ⟨wo.heap.size, 0, none⟩ 1 1 [.int .i64 q.1] rfl rfl (one_new _ _ _ _ rfl) (by intro u hu; simp at hu; subst hu; rfl) (by unfold maxLen; omega) (by omega) (by simp; omega) ?_)
        intro v2 wn hown2 hgrow2 _
        have hp1' := LP.grown (LP.al HP1.out (.cells #[.int .i64 q.1] 3)) hgrow2 (own_ne HP1.out HLN.out tPw)
        have hp2' := LP.grown (LP.al HP2.out (.cells #[.int .i64 q.1] 3)) hgrow2 (own_ne HP2.out HLN.out tPw)
        have hbel2 : Below (w.heap.size + 1) wx wn := (HB.out.alloc hws _).grown hgrow2 (by simp; omega) (fun j hj => (World.ownsRow.lt HLN.out j hj).1)
        obtain ⟨A', c', rfl, hln', hcm', hcl'⟩ := LN.of (l := pl ++ [q.1]) (by rw [List.length_append, nvs_app]; exact hown2)
        have H1 := Lib.hid hp1'
        have H2 := Lib.hid hp2'
        have H3 := Lib.hid hbel2
        have H4 := Lib.hid hln'
        have hlen' : (pl ++ [q.1]).length = pl.length + 1 := by simp
        have H5 := Lib.hid hlen'
        clear hp1' hp2' hbel2 hln' hown2 hgrow2
        go_wp2
        go_roundw
        case rel => exact ⟨k + 1, pl ++ [q.1], A', c', ⟨by omega, by rw [HTK.out]; exact HST.out, by omega, H4.out, hcl', hcm', H1.out, H2.out, H3.out⟩, by go_num, by simp⟩
        case measure => simp [intOf]; omega
    · have hk : k = L.length := by omega
      subst hk
      have HPL1 : Hid (Pls a b (L.map Prod.fst) pl) := Lib.hid (by have := HPL.out; rwa [List.take_length] at this)
      clear HPL
      go_wp2_with fail
      go_loopw [9, 15] (fun t9 t15 wr => ∃ (k : Nat) (pl : List Nat) (A : Option Addr) (c : Nat), (k ≤ M.length ∧ Pls a b (L.map Prod.fst ++ (M.take k).map Prod.fst) pl ∧ pl.length ≤ L.length + 2 + k ∧ LN (w.heap.size + 1) wr A c pl ∧ pl.length ≤ c ∧ c ≤ 9223372036854775807 ∧ LP w2.heap.size wr Aa ca L ∧ LP w4.heap.size wr Ab cb M ∧ Below (w.heap.size + 1) wx wr) ∧ t15 = .int .i64 k ∧ t9 = .slice A pl.length c) (fun _ t15 _ => M.length - (intOf t15).toNat)
      case atStart => exact ⟨0, pl, A, c, ⟨Nat.zero_le _, by simpa using HPL1.out, by omega, HLN.out, hcl, hcm, HP1.out, HP2.out, HB.out⟩, rfl, rfl⟩
      case round =>
        obtain ⟨k, pl2, A2, c2, ⟨hkl, hpl, hll2, hln, hcl2, hcm2, hp1, hp2, hbel⟩, rfl, rfl⟩ := hrel
        obtain ⟨wo2, rfl⟩ : ∃ wo : World, wo = wr := ⟨_, rfl⟩
        have hws2 : w.heap.size + 1 ≤ wo2.heap.size := by have := hbel.size; have := HXS.out; omega
        have HPL := Lib.hid hpl
        have HLN2 := Lib.hid hln
        have HP12 := Lib.hid hp1
        have HP22 := Lib.hid hp2
        have HB2 := Lib.hid hbel
        clear hpl hln hp1 hp2 hbel
        by_cases hlt : k < M.length
        · have hq : M[k]? = some M[k] := List.getElem?_eq_getElem hlt
          obtain ⟨b_, ea_, g0, -, -, -⟩ := LP.at_ HP22.out hq
          obtain ⟨q, hqq⟩ : ∃ q, M[k] = q := ⟨_, rfl⟩
          rw [hqq] at hq g0
          have hq2 : (M.map Prod.fst)[k]? = some q.1 := by rw [List.getElem?_map, hq]; rfl
          have hpr := PL_at (by rw [HM.out] at hq2; exact hq2)
          have htk : (M.take (k + 1)).map Prod.fst = (M.take k).map Prod.fst ++ [q.1] := by rw [List.take_add_one, hq, List.map_append]; rfl
          have HPR := Lib.hid hpr
          have HTK := Lib.hid htk
          have HHA := Lib.hid (has_any pl2 q.1 _ A2 c2 wo2 HLN2.out (by omega) hcl2 hcm2)
          clear hq hqq hq2 hpr htk
          subst ea_
          go_wp2_with fail
          refine HHA.out.mono ?_
          rintro e w' ⟨rfl, rfl⟩
          by_cases hmem : q.1 ∈ pl2
          · have ht : decide (q.1 ∈ pl2) = true := decide_eq_true hmem
            have HST := Lib.hid (HPL.out.skip hmem HPR.out.1)
            clear hmem
            go_wp2
            go_roundw
            case rel => exact ⟨k + 1, pl2, A2, c2, ⟨by omega, by rw [HTK.out, ← List.append_assoc]; exact HST.out, by omega, HLN2.out, hcl2, hcm2, HP12.out, HP22.out, HB2.out⟩, by go_num, rfl⟩
            case measure => simp [intOf]; omega
          · have ht : decide (q.1 ∈ pl2) = false := decide_eq_false hmem
            have HST := Lib.hid (HPL.out.take hmem HPR.out.1 (.inr HPR.out.2))
            clear hmem
            go_wp2_with (at_builtin; refine wpList_append_own _ rfl _ _ 74 rfl (w.heap.size + 1) 3 i0 (.int .i64 0) 1 8 Try.underlying74 hi hz0 hz1 hz2 rfl (by decide) _ _ _ rfl (World.ownsRow.alloc HLN2.out _) ⟨wo2.heap.size, 0, none⟩ 1 1 [.int .i64 q.1] rfl rfl (one_new _ _ _ _ rfl) (by intro u hu; simp at hu; subst hu; rfl) (by unfold maxLen; omega) (by omega) (by simp; omega) ?_)
            intro v2 wn hown2 hgrow2 _
            have hp1' := LP.grown (LP.al HP12.out (.cells #[.int .i64 q.1] 3)) hgrow2 (own_ne HP12.out HLN2.out tPw)
            have hp2' := LP.grown (LP.al HP22.out (.cells #[.int .i64 q.1] 3)) hgrow2 (own_ne HP22.out HLN2.out tPw)
            have hbel2 : Below (w.heap.size + 1) wx wn := (HB2.out.alloc hws2 _).grown hgrow2 (by simp; omega) (fun j hj => (World.ownsRow.lt HLN2.out j hj).1)
            obtain ⟨A', c', rfl, hln', hcm', hcl'⟩ := LN.of (l := pl2 ++ [q.1]) (by rw [List.length_append, nvs_app]; exact hown2)
            have H1 := Lib.hid hp1'
            have H2 := Lib.hid hp2'
            have H3 := Lib.hid hbel2
            have H4 := Lib.hid hln'
            have hlen' : (pl2 ++ [q.1]).length = pl2.length + 1 := by simp
            have H5 := Lib.hid hlen'
            clear hp1' hp2' hbel2 hln' hown2 hgrow2
            go_wp2
            go_roundw
            case rel => exact ⟨k + 1, pl2 ++ [q.1], A', c', ⟨by omega, by rw [HTK.out, ← List.append_assoc]; exact HST.out, by omega, H4.out, hcl', hcm', H1.out, H2.out, H3.out⟩, by go_num, by simp⟩
            case measure => simp [intOf]; omega
        · have hk : k = M.length := by omega
          subst hk
          have HPL2 : Hid (Pls a b (L.map Prod.fst ++ M.map Prod.fst) pl2) := Lib.hid (by have := HPL.out; rwa [List.take_length] at this)
          clear HPL
          have HDN : Hid (P a b pl2 = 1) := Lib.hid (by have := HPL2.out; rw [HL.out, HM.out] at this; exact this.done A0.out B0.out)
          have HAT : Hid (∀ p ∈ pl2, Pla p ∧ (0 < p → p ∣ (2 * a * b).natAbs) ∧ p ≤ a.natAbs + b.natAbs + 2) := Lib.hid (fun p hp => HPL2.out.at_ A0.out B0.out hp)
          have cx0 : wo2.cell? ⟨w.heap.size, 0, none⟩ = some (.int .i64 X0) := (HB2.out.cell (p := ⟨w.heap.size, 0, none⟩) (by simp)).trans HX0.out
          have cx1 : wo2.cell? ⟨w.heap.size, 1, none⟩ = some (.int .i64 X1) := (HB2.out.cell (p := ⟨w.heap.size, 1, none⟩) (by simp)).trans HX1.out
          have MU := Lib.hid (fun W => bmod_any X0 200 W (by omega) (by omega))
          have MV := Lib.hid (fun W => bmod_any X1 200 W (by omega) (by omega))
          have u0 := Int.emod_nonneg X0 (show (200 : Int) ≠ 0 by omega)
          have u1 := Int.emod_lt_of_pos X0 (show (0 : Int) < 200 by omega)
          have v0 := Int.emod_nonneg X1 (show (200 : Int) ≠ 0 by omega)
          have v1 := Int.emod_lt_of_pos X1 (show (0 : Int) < 200 by omega)
          clear HP12 HP22 HPL2 HL HM HP1 HP2 HPL1 HLN hl1 hm1 HP5 HQ5 HLN5
          generalize X0 % 200 = u at *
          generalize X1 % 200 = v at *
          go_wp2_with fail
          go_quiet (first | (go_at_call 50; with_reducible exact quietE (MU.out _)) | (go_at_call 50; with_reducible exact quietE (MV.out _)))
          clear cx0 cx1
          have mb1 := mulb (X := 20000) (Y := 200) ha ⟨u0, Int.le_of_lt u1⟩
          have mb2 := mulb (X := 4000000) (Y := 200) mb1 ⟨u0, Int.le_of_lt u1⟩
          have mb3 := mulb (X := 20000) (Y := 200) hb ⟨v0, Int.le_of_lt v1⟩
          have mb4 := mulb (X := 4000000) (Y := 200) mb3 ⟨v0, Int.le_of_lt v1⟩
          have f1 := IntWalk.i64_in (a * u) (by omega)
          have f2 := IntWalk.i64_in (a * u * u) (by omega)
          have f3 := IntWalk.i64_in (b * v) (by omega)
          have f4 := IntWalk.i64_in (b * v * v) (by omega)
          have f5 := IntWalk.i64_in (a * u * u + b * v * v) (by omega)
          have hvb : -1600000000 ≤ a * u * u + b * v * v ∧ a * u * u + b * v * v ≤ 1600000000 := by omega
          have HSV : Hid (∀ r : Nat, 0 < a * u * u + b * v * v → (r : Int) * r = a * u * u + b * v * v → ∀ p, Pla p → hs a b p = 1) := Lib.hid (fun r h1 h2 p hp => solved hp A0.out B0.out (square_of h2 h1) h2.symm)
          have hl6 := LN.below HLN2.out (below_draws (Below.refl _ _) nq) (LN.lt HLN2.out)
          have hb6 := below_draws HB2.out nq
          have hs6 : w.heap.size + 1 ≤ (wo2.drewN nq).heap.size := by have := hb6.size; have := HXS.out; omega
          clear mb1 mb2 mb3 mb4 MU MV u0 u1 v0 v1 HLN2 HB2
          generalize wo2.drewN nq = w6 at hl6 hb6 hs6 ⊢
          have HLN6 := Lib.hid hl6
          have HB6 := Lib.hid hb6
          clear hl6 hb6
          go_wp2_with fail
          clear f1 f2 f3 f4 f5
          generalize a * u * u + b * v * v = val at *
          refine (babs_any val _ (by omega)).mono ?_
          rintro e w7 ⟨rfl, rfl⟩
          go_wp2_with fail
          refine (Of_v ((val.natAbs : Nat) : Int) (by omega) (by omega)).mono ?_
          rintro e w7 ⟨n7, A7, l7, c7, rfl, hi7, hb7⟩
          have HLN7 := Lib.hid (LN.below HLN6.out hb7 (LN.lt HLN6.out))
          have HB7 := Lib.hid (HB6.out.trans (hb7.mono hs6))
          have HI7 := Lib.hid hi7
          clear hi7 hb7 HLN6 HB6
          go_wp2_with fail
          refine (Root_v HI7.out (by omega) (by omega)).mono ?_
          rintro e w8 ⟨r, A8, l8, c8, hr, rfl, hi8, hb8⟩
          have hs7 : w.heap.size + 1 ≤ w7.heap.size := by have := HB7.out.size; have := HXS.out; omega
          have HLN8 := Lib.hid (LN.below HLN7.out hb8 (LN.lt HLN7.out))
          have HB8 := Lib.hid (HB7.out.trans (hb8.mono hs7))
          have HI8 := Lib.hid hi8
          have HR := Lib.hid hr
          have hs8 : w.heap.size + 1 ≤ w8.heap.size := by have := HB8.out.size; have := HXS.out; omega
          clear hi8 hb8 HLN7 HB7 HI7 hr
          by_cases hv0 : 0 < val
          · have HVP := Lib.hid hv0
            have hi9 := HI8.out.below ((Below.refl w8.heap.size w8).alloc (Nat.le_refl _) (.cells #[.bool false, .slice A8 l8 c8] 24))
            have HI9 := Lib.hid hi9
            clear hi9
            go_wp2_with fail
            refine (Mul_v HI9.out HI9.out (by omega) (by omega)).mono ?_
            rintro e w10 ⟨n10, A10, l10, c10, rfl, hi10, hb10⟩
            have HLN9 := Lib.hid (LN.below (LN.below HLN8.out ((Below.refl w8.heap.size w8).alloc (Nat.le_refl _) (.cells #[.bool false, .slice A8 l8 c8] 24)) (LN.lt HLN8.out)) hb10 (fun x hx => Nat.lt_of_lt_of_le (LN.lt HLN8.out x hx) (by simp)))
            have HB10 := Lib.hid ((HB8.out.alloc hs8 (.cells #[.bool false, .slice A8 l8 c8] 24)).trans (hb10.mono (by simp; omega)))
            have HI10 := Lib.hid hi10
            have hs10 : w.heap.size + 1 ≤ w10.heap.size := by have := HB10.out.size; have := HXS.out; omega
            clear hi10 hb10 HI9 HI8 HB8
            go_wp2_with fail
            refine (Of_v val (by omega) (by omega)).mono ?_
            rintro e w11 ⟨n11, A11, l11, c11, rfl, hi11, hb11⟩
            have HLN10 := Lib.hid (LN.below HLN9.out hb11 (LN.lt HLN9.out))
            have HI11 := Lib.hid (IntE.below HI10.out hb11)
            have HI12 := Lib.hid hi11
            have HB11 := Lib.hid (HB10.out.trans (hb11.mono hs10))
            have hs11 : w.heap.size + 1 ≤ w11.heap.size := by have := HB11.out.size; have := HXS.out; omega
            clear hi11 hb11 HLN9 HB10 HI10
            go_wp2_with fail
            refine (Cmp_v HI11.out HI12.out).mono ?_
            rintro e wf ⟨rfl, hb12⟩
            have hlnf := LN.below HLN10.out hb12 (LN.lt HLN10.out)
            have hbf := HB11.out.trans (hb12.mono hs11)
            clear hb12 HLN10 HB11 HI11 HI12 HLN8
            have HLN9 := Lib.hid hlnf
            have HB9 := Lib.hid hbf
            clear hlnf hbf
            have HS : Hid (∀ p, Pla p → (cmpI ((r : Int) * r) val == 0) = true → hs a b p = 1) := Lib.hid (fun p hp h => HSV.out r HVP.out (by
              have h0 : cmpI ((r : Int) * r) val = 0 := by simpa using h
              unfold cmpI at h0
              split at h0
              · cases h0
              · split at h0
                · cases h0
                · omega) p hp)
            go_wp2_with fail
            generalize (cmpI ((r : Int) * r) val == 0) = S at *
            have HBW : Hid (Below w.heap.size w wf) := Lib.hid (HX2.out.trans (HB9.out.mono (by omega)))
            clear HB9
            go_loopw [22, 23] (fun t22 t23 wr => ∃ k : Nat, (k ≤ pl2.length ∧ wf = wr) ∧ t23 = .int .i64 k ∧ t22 = .int .i64 (P a b (pl2.take k))) (fun _ t23 _ => pl2.length - (intOf t23).toNat)
            case atStart => exact ⟨0, ⟨Nat.zero_le _, rfl⟩, rfl, rfl⟩
            case round =>
              obtain ⟨k, ⟨hkl, rfl⟩, rfl, rfl⟩ := hrel
              by_cases hlt : k < pl2.length
              · have hq : pl2[k]? = some pl2[k] := List.getElem?_eq_getElem hlt
                obtain ⟨p, hpp⟩ : ∃ p, pl2[k] = p := ⟨_, rfl⟩
                rw [hpp] at hq
                obtain ⟨b_, ea_, g0, -, -⟩ := LN.at_ HLN9.out hq
                obtain ⟨hp1, hp2, hp3⟩ := HAT.out p (List.mem_of_getElem? hq)
                have hpl : Plas (pl2.take k) := fun p hp => (HAT.out p (List.mem_of_mem_take hp)).1
                have hPk := P_pm A0.out B0.out hpl
                have hTK := P_take (a := a) (b := b) hq
                have hbc0 : b * X2 ≠ 0 := Int.mul_ne_zero B0.out C0.out
                have hbb : -400000000 ≤ b * X2 ∧ b * X2 ≤ 400000000 := by
                  have e1 : (b * X2).natAbs = b.natAbs * X2.natAbs := Int.natAbs_mul b X2
                  have e2 : b.natAbs * X2.natAbs ≤ 20000 * 20000 := Nat.mul_le_mul (by omega) (by omega)
                  omega
                have H1 := Lib.hid (fun W => (hil63 a b p W).mono fun e w' ⟨h, hw⟩ => (And.intro (hil_hs h A0.out B0.out hp1 (by omega) ⟨by omega, by omega⟩ ⟨by omega, by omega⟩) hw))
                have H2 := Lib.hid (fun W => (hil63 a X2 p W).mono fun e w' ⟨h, hw⟩ => (And.intro (hil_hs h A0.out C0.out hp1 (by omega) ⟨by omega, by omega⟩ ⟨by omega, by omega⟩) hw))
                have H3 := Lib.hid (fun W => (hil63 a (b * X2) p W).mono fun e w' ⟨h, hw⟩ => (And.intro (hil_hs h A0.out hbc0 hp1 (by omega) ⟨by omega, by omega⟩ ⟨by omega, by omega⟩) hw))
                rw [hs_mul hp1 A0.out B0.out C0.out] at H3
                have hs1 := hs_pm hp1 A0.out B0.out
                have ht1 := hs_pm hp1 A0.out C0.out
                have hSS := HS.out p hp1
                have hmod : 0 < p → (n : Int) % (p : Int) = 0 ∧ (n : Int).tmod (p : Int) = 0 := fun h0 => by
                  have hd := hp2 h0
                  rw [HN.out] at hd
                  have hd' : (p : Int) ∣ (n : Int) := Int.natCast_dvd_natCast.2 hd
                  exact ⟨Int.emod_eq_zero_of_dvd hd', Int.tmod_eq_zero_of_dvd hd'⟩
                have f0 := IntWalk.i64_in (b * X2) (by omega)
                generalize hs a b p = s at *
                generalize hs a X2 p = t at *
                obtain ⟨Pk, hPP⟩ : ∃ x, P a b (pl2.take k) = x := ⟨_, rfl⟩
                rw [hPP] at hPk hTK ⊢
                have hst : -1 ≤ s * t ∧ s * t ≤ 1 := by rcases hs1 with e | e <;> rcases ht1 with e' | e' <;> rw [e, e'] <;> decide
                have hps : -1 ≤ Pk * s ∧ Pk * s ≤ 1 := by rcases hs1 with e | e <;> rcases hPk with e' | e' <;> rw [e, e'] <;> decide
                have hss : s * s = 1 := by rcases hs1 with e | e <;> rw [e] <;> decide
                have f1 : IntKind.i64.wrap (s * s) = 1 := by rw [hss]; rfl
                have f2 := IntWalk.i64_in (s * t) (by omega)
                have f3 := IntWalk.i64_in (Pk * s) (by omega)
                have HTK := Lib.hid hTK
                have hsw : S = false ∨ S = true ∧ (s != 1) = false := by rcases S with _ | _; exact .inl rfl; exact .inr ⟨rfl, by rw [hSS rfl]; rfl⟩
                have hpw : (decide ((0 : Int) < (p : Int)) = false ∧ ¬ 0 < p ∧ decide (0 < p) = false) ∨ (decide ((0 : Int) < (p : Int)) = true ∧ ¬ (p : Int) = 0 ∧ (n : Int) % (p : Int) = 0 ∧ (n : Int).tmod (p : Int) = 0) := by
                  by_cases h0 : 0 < p
                  · obtain ⟨m1, m2⟩ := hmod h0
                    exact .inr ⟨decide_eq_true (by omega), by omega, m1, m2⟩
                  · exact .inl ⟨decide_eq_false (by omega), h0, decide_eq_false h0⟩
                clear hq hpp hp1 hp2 hp3 hpl hPk hTK hbc0 hbb hs1 ht1 hSS hmod hPP hst hps hss
                subst ea_
                rcases hsw with rfl | ⟨rfl, q0⟩ <;> rcases hpw with ⟨q1, q2, q3⟩ | ⟨q1, q2, q3, q4⟩
                all_goals
                  go_wp2_with fail
                  refine (H1.out _).mono ?_
                  rintro e w' ⟨rfl, rfl⟩
                  go_wp2_with fail
                  refine (H2.out _).mono ?_
                  rintro e w' ⟨rfl, rfl⟩
                  go_wp2_with fail
                  refine (H3.out _).mono ?_
                  rintro e w' ⟨rfl, rfl⟩
                  go_wp2
                  go_roundw
                  case rel => exact ⟨k + 1, ⟨by omega, by first | trivial | rfl⟩, by go_num, by rw [HTK.out]⟩
                  case measure => simp [intOf]; omega
              · have hk : k = pl2.length := by omega
                subst hk
                have hP1 : P a b (pl2.take pl2.length) = 1 := by rw [List.take_length]; exact HDN.out
                rw [hP1]
                clear hP1
                go_wp2_with (go_at_call 20; refine (awake_any _).mono ?_; rintro e w2 ⟨rfl, hA⟩)
                go_ret
                exact ⟨rfl, HBW.out.trans (hA.mono HBW.out.size)⟩
          · have HLN9 := Lib.hid (LN.below HLN8.out ((Below.refl w8.heap.size w8).alloc (Nat.le_refl _) (.cells #[.bool false, .slice A8 l8 c8] 24)) (LN.lt HLN8.out))
            have HB9 := Lib.hid (HB8.out.alloc hs8 (.cells #[.bool false, .slice A8 l8 c8] 24))
            clear HI8 HB8 HLN8
            go_wp2_with fail
            generalize w8.alloc (.cells #[.bool false, .slice A8 l8 c8] 24) = wf at *
            have HBW : Hid (Below w.heap.size w wf) := Lib.hid (HX2.out.trans (HB9.out.mono (by omega)))
            clear HB9
            go_loopw [22, 23] (fun t22 t23 wr => ∃ k : Nat, (k ≤ pl2.length ∧ wf = wr) ∧ t23 = .int .i64 k ∧ t22 = .int .i64 (P a b (pl2.take k))) (fun _ t23 _ => pl2.length - (intOf t23).toNat)
            case atStart => exact ⟨0, ⟨Nat.zero_le _, rfl⟩, rfl, rfl⟩
            case round =>
              obtain ⟨k, ⟨hkl, rfl⟩, rfl, rfl⟩ := hrel
              by_cases hlt : k < pl2.length
              · have hq : pl2[k]? = some pl2[k] := List.getElem?_eq_getElem hlt
                obtain ⟨p, hpp⟩ : ∃ p, pl2[k] = p := ⟨_, rfl⟩
                rw [hpp] at hq
                obtain ⟨b_, ea_, g0, -, -⟩ := LN.at_ HLN9.out hq
                obtain ⟨hp1, hp2, hp3⟩ := HAT.out p (List.mem_of_getElem? hq)
                have hpl : Plas (pl2.take k) := fun p hp => (HAT.out p (List.mem_of_mem_take hp)).1
                have hPk := P_pm A0.out B0.out hpl
                have hTK := P_take (a := a) (b := b) hq
                have hbc0 : b * X2 ≠ 0 := Int.mul_ne_zero B0.out C0.out
                have hbb : -400000000 ≤ b * X2 ∧ b * X2 ≤ 400000000 := by
                  have e1 : (b * X2).natAbs = b.natAbs * X2.natAbs := Int.natAbs_mul b X2
                  have e2 : b.natAbs * X2.natAbs ≤ 20000 * 20000 := Nat.mul_le_mul (by omega) (by omega)
                  omega
                have H1 := Lib.hid (fun W => (hil63 a b p W).mono fun e w' ⟨h, hw⟩ => (And.intro (hil_hs h A0.out B0.out hp1 (by omega) ⟨by omega, by omega⟩ ⟨by omega, by omega⟩) hw))
                have H2 := Lib.hid (fun W => (hil63 a X2 p W).mono fun e w' ⟨h, hw⟩ => (And.intro (hil_hs h A0.out C0.out hp1 (by omega) ⟨by omega, by omega⟩ ⟨by omega, by omega⟩) hw))
                have H3 := Lib.hid (fun W => (hil63 a (b * X2) p W).mono fun e w' ⟨h, hw⟩ => (And.intro (hil_hs h A0.out hbc0 hp1 (by omega) ⟨by omega, by omega⟩ ⟨by omega, by omega⟩) hw))
                rw [hs_mul hp1 A0.out B0.out C0.out] at H3
                have hs1 := hs_pm hp1 A0.out B0.out
                have ht1 := hs_pm hp1 A0.out C0.out
                have hmod : 0 < p → (n : Int) % (p : Int) = 0 ∧ (n : Int).tmod (p : Int) = 0 := fun h0 => by
                  have hd := hp2 h0
                  rw [HN.out] at hd
                  have hd' : (p : Int) ∣ (n : Int) := Int.natCast_dvd_natCast.2 hd
                  exact ⟨Int.emod_eq_zero_of_dvd hd', Int.tmod_eq_zero_of_dvd hd'⟩
                have f0 := IntWalk.i64_in (b * X2) (by omega)
                generalize hs a b p = s at *
                generalize hs a X2 p = t at *
                obtain ⟨Pk, hPP⟩ : ∃ x, P a b (pl2.take k) = x := ⟨_, rfl⟩
                rw [hPP] at hPk hTK ⊢
                have hst : -1 ≤ s * t ∧ s * t ≤ 1 := by rcases hs1 with e | e <;> rcases ht1 with e' | e' <;> rw [e, e'] <;> decide
                have hps : -1 ≤ Pk * s ∧ Pk * s ≤ 1 := by rcases hs1 with e | e <;> rcases hPk with e' | e' <;> rw [e, e'] <;> decide
                have hss : s * s = 1 := by rcases hs1 with e | e <;> rw [e] <;> decide
                have f1 : IntKind.i64.wrap (s * s) = 1 := by rw [hss]; rfl
                have f2 := IntWalk.i64_in (s * t) (by omega)
                have f3 := IntWalk.i64_in (Pk * s) (by omega)
                have HTK := Lib.hid hTK
                have hpw : (decide ((0 : Int) < (p : Int)) = false ∧ ¬ 0 < p ∧ decide (0 < p) = false) ∨ (decide ((0 : Int) < (p : Int)) = true ∧ ¬ (p : Int) = 0 ∧ (n : Int) % (p : Int) = 0 ∧ (n : Int).tmod (p : Int) = 0) := by
                  by_cases h0 : 0 < p
                  · obtain ⟨m1, m2⟩ := hmod h0
                    exact .inr ⟨decide_eq_true (by omega), by omega, m1, m2⟩
                  · exact .inl ⟨decide_eq_false (by omega), h0, decide_eq_false h0⟩
                clear hq hpp hp1 hp2 hp3 hpl hPk hTK hbc0 hbb hs1 ht1 hmod hPP hst hps hss
                subst ea_
                rcases hpw with ⟨q1, q2, q3⟩ | ⟨q1, q2, q3, q4⟩
                all_goals
                  go_wp2_with fail
                  refine (H1.out _).mono ?_
                  rintro e w' ⟨rfl, rfl⟩
                  go_wp2_with fail
                  refine (H2.out _).mono ?_
                  rintro e w' ⟨rfl, rfl⟩
                  go_wp2_with fail
                  refine (H3.out _).mono ?_
                  rintro e w' ⟨rfl, rfl⟩
                  go_wp2
                  go_roundw
                  case rel => exact ⟨k + 1, ⟨by omega, by first | trivial | rfl⟩, by go_num, by rw [HTK.out]⟩
                  case measure => simp [intOf]; omega
              · have hk : k = pl2.length := by omega
                subst hk
                have hP1 : P a b (pl2.take pl2.length) = 1 := by rw [List.take_length]; exact HDN.out
                rw [hP1]
                clear hP1
                go_wp2_with (go_at_call 20; refine (awake_any _).mono ?_; rintro e w2 ⟨rfl, hA⟩)
                go_ret
                exact ⟨rfl, HBW.out.trans (hA.mono HBW.out.size)⟩

theorem pf_any (a b X0 X1 X2 : Int) (w : World) : Calls Try.prog 14 #[.int .i64 a, .int .i64 b, .agg #[.int .i64 X0, .int .i64 X1, .int .i64 X2]] w fun e w' => e = .returned (.bool true) ∧ Below w.heap.size w w' := by
  by_cases h : (inW a && inW b && inW X2) = true ∧ a ≠ 0 ∧ b ≠ 0 ∧ X2 ≠ 0
  · obtain ⟨h1, h2, h3, h4⟩ := h
    rw [Bool.and_eq_true, Bool.and_eq_true] at h1
    exact pf_ok a b X0 X1 X2 w (withinB_of h1.1.1) (withinB_of h1.1.2) (withinB_of h1.2) h2 h3 h4
  · exact pf_bad a b X0 X1 X2 w h
section
open Go.ChangeShapes Go.WideShapes Go.ChangeAt
theorem cells_arr3 : Try.prog.cellsOf 72 = 3 := by kernel_rfl
theorem cells_int : Try.prog.cellsOf 3 = 1 := by kernel_rfl
theorem open_arr3 {H : Type} {enc : TypeId × Value → H} {W : World} {base base' : Nat} {spare : Nat → Bool} {held : Bool} {v : Value} {d : DataW H} {p : List MemPlace}
    (hv : Value.okWide Try.prog W .any base 72 v) (h : DataW.Trod enc Try.prog W base' spare held 72 v d p) :
    ∃ n0 n1 n2 : Int, v = .agg #[.int .i64 n0, .int .i64 n1, .int .i64 n2] := by
  unfold Value.okWide at hv
  rw [Try.underlying72] at hv
  obtain ⟨cs, rfl, hsz, -⟩ := hv
  rw [cells_arr3] at hsz
  obtain ⟨c0, c1, c2, rfl⟩ : ∃ c0 c1 c2, cs = #[c0, c1, c2] := by
    obtain ⟨l⟩ := cs
    match l, hsz with
    | [a, b, c], _ => exact ⟨a, b, c, rfl⟩
  obtain ⟨fuel, hf⟩ := h
  obtain ⟨xs, m, -, -, -, hl, hx⟩ := DataW.trod_array Try.underlying72 hf
  have h0 := hx 0 (by omega)
  have h1 := hx 1 (by omega)
  have h2 := hx 2 (by omega)
  rw [cells_int] at h0 h1 h2
  simp [Value.cells] at h0 h1 h2
  rw [List.getElem?_eq_getElem (by omega)] at h0 h1 h2
  obtain ⟨n0, e0, -, -⟩ := DataW.trod_int Try.underlying3 h0
  obtain ⟨n1, e1, -, -⟩ := DataW.trod_int Try.underlying3 h1
  obtain ⟨n2, e2, -, -⟩ := DataW.trod_int Try.underlying3 h2
  simp at e0 e1 e2
  exact ⟨n0, n1, n2, by rw [e0, e1, e2]⟩
end
end Go.Proofs.Ytcbdnnboddahkaa.Pf
