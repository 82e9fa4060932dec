/-
  WALKS: lists of elements.
-/
import Derived.Test.YteiflfmpkfhkoaaRtR
import Derived.Test.YteiflfmpkfhkoaaRt7
namespace Go.Proofs.Yteiflfmpkfhkoaa.Rt
open Go.RowKit
open Alm Hwm Al
set_option linter.unusedVariables false
set_option linter.unusedSimpArgs false
set_option maxRecDepth 100000
def flatQ : List Q → List Value
  | [] => []
  | q :: l => .int .i64 q.w :: .int .i64 q.x :: .int .i64 q.y :: .int .i64 q.z :: .int .i64 q.d :: flatQ l
theorem flatQ_app : ∀ l m : List Q, flatQ (l ++ m) = flatQ l ++ flatQ m
  | [], m => rfl
  | q :: l, m => by simp only [List.cons_append, flatQ]; rw [flatQ_app l m]
theorem flatQ_get : ∀ (l : List Q) (i : Nat) (q : Q), l[i]? = some q → (flatQ l)[i * 5]? = some (.int .i64 q.w) ∧ (flatQ l)[i * 5 + 1]? = some (.int .i64 q.x) ∧ (flatQ l)[i * 5 + 2]? = some (.int .i64 q.y) ∧ (flatQ l)[i * 5 + 3]? = some (.int .i64 q.z) ∧ (flatQ l)[i * 5 + 4]? = some (.int .i64 q.d)
  | [], i, q, h => by simp at h
  | r :: l, 0, q, h => by simp at h; subst h; exact ⟨rfl, rfl, rfl, rfl, rfl⟩
  | r :: l, i + 1, q, h => by
    have := flatQ_get l i q (by simpa using h)
    have e1 : (i + 1) * 5 = i * 5 + 5 := by omega
    rw [e1]; exact this
/-- the list of elements that a loop keeps -/
def PQ (w2 wr : World) (v : Value) (L : List Q) : Prop := wr.ownsRow w2.heap.size 23 5 v L.length (flatQ L) ∧ Below w2.heap.size w2 wr
theorem PQ.next {w2 wr w' : World} {v : Value} {L : List Q} (h : PQ w2 wr v L) (hb : Below wr.heap.size wr w') : PQ w2 w' v L :=
  ⟨row_next h.1 hb, h.2.trans (hb.mono h.2.size)⟩
/-- a list of elements that can be read -/
def RQ (w : World) (A : Option Addr) (L : List Q) : Prop := ∀ (j : Nat) (q : Q), L[j]? = some q → ∃ b, A = some ⟨b, 0, none⟩ ∧ w.cell? ⟨b, j * 5, none⟩ = some (.int .i64 q.w) ∧ w.cell? ⟨b, j * 5 + 1, none⟩ = some (.int .i64 q.x) ∧ w.cell? ⟨b, j * 5 + 2, none⟩ = some (.int .i64 q.y) ∧ w.cell? ⟨b, j * 5 + 3, none⟩ = some (.int .i64 q.z) ∧ w.cell? ⟨b, j * 5 + 4, none⟩ = some (.int .i64 q.d)
theorem RQ.of {B : Nat} {w : World} {v : Value} {L : List Q} (h : w.ownsRow B 23 5 v L.length (flatQ L)) : ∃ A c, v = .slice A L.length c ∧ RQ w A L ∧ c ≤ 9223372036854775807 ∧ L.length ≤ c := by
  have h' := h
  rcases h.2 with ⟨rfl, h0⟩ | ⟨g, cap, cur, rfl, hb, hg, h1, h2, h3, h4⟩
  · refine ⟨none, 0, by rw [h0], fun j q hj => ?_, by omega, by omega⟩
    have := (List.getElem?_eq_some_iff.1 hj).1
    omega
  · refine ⟨_, cap, rfl, fun j q hj => ?_, by unfold maxLen at h2; omega, h1⟩
    have hjl : j < L.length := (List.getElem?_eq_some_iff.1 hj).1
    obtain ⟨f0, f1, f2, f3, f4⟩ := flatQ_get L j q hj
    refine ⟨g, rfl, ?_, ?_, ?_, ?_, ?_⟩
    · rw [World.ownsRow.cellAt h' (j * 5) (by omega)]; exact f0
    · rw [World.ownsRow.cellAt h' (j * 5 + 1) (by omega)]; exact f1
    · rw [World.ownsRow.cellAt h' (j * 5 + 2) (by omega)]; exact f2
    · rw [World.ownsRow.cellAt h' (j * 5 + 3) (by omega)]; exact f3
    · rw [World.ownsRow.cellAt h' (j * 5 + 4) (by omega)]; exact f4
set_option maxHeartbeats 6400000 in
theorem results_any (L : List H) (B : Nat) (A : Option Addr) (c : Nat) (w : World) (hL : LH 97 B w A c L) (hx : ∀ x ∈ L, HB 100000000000000000 x) (hn : L.length ≤ 100000) (hc : c ≤ 9223372036854775807) (hlc : L.length ≤ c) :
    Calls Try.prog 78 #[.slice A L.length c] w fun e w' => ∃ v, e = .returned v ∧ w'.ownsRow w.heap.size 23 5 v (L.map toQ).length (flatQ (L.map toQ)) ∧ Below w.heap.size w w' := by
  obtain ⟨i0, hi, hz0, hz1, hz2⟩ := info_parts infoQ
  have HL := Lib.hid hL
  have HX := Lib.hid hx
  have TK := Lib.hid (fun (i : Nat) (u : H) (h : L[i]? = some u) => show (L.take (i + 1)).map toQ = (L.take i).map toQ ++ [toQ u] by rw [take_snoc h]; simp)
  clear hL hx
  go_enter Try.func78, Try.ntmps78
  go_wp2_with fail
  go_loopw [3, 8] (fun t3 t8 wr => ∃ k : Nat, (k ≤ L.length ∧ PQ w wr t3 ((L.take k).map toQ)) ∧ t8 = .int .i64 k) (fun _ t8 _ => L.length - (intOf t8).toNat)
  case atStart => exact ⟨0, ⟨Nat.zero_le _, World.ownsRow_nil _ _ _ _, Below.refl _ _⟩, rfl⟩
  case round =>
    obtain ⟨k, ⟨hk, hP⟩, rfl⟩ := hrel
    obtain ⟨wo, rfl⟩ : ∃ wo : World, wo = wr := ⟨_, rfl⟩
    have hL := LH.next HL.out hP.2
    have HP := Lib.hid hP
    clear hP
    by_cases hlt : k < L.length
    · have hq : L[k]? = some L[k] := List.getElem?_eq_getElem hlt
      have hm := HX.out L[k] (List.getElem_mem hlt)
      obtain ⟨b, rfl, ⟨e0, e1, e2, e3⟩, gb, gz⟩ := LH.at_ hL hq
      have TX := Lib.hid (TK.out k L[k] hq)
      generalize L[k] = x at *
      have RS := Lib.hid (fun W => result_h x W hm)
      clear hm hq hL
      obtain ⟨x0, x1, x2, x3⟩ := x
      generalize hqq : toQ ⟨x0, x1, x2, x3⟩ = q at *
      obtain ⟨q0, q1, q2, q3, q4⟩ := q
      simp only [] at e0 e1 e2 e3 RS
      have hll : ((L.take k).map toQ).length = k := by rw [List.length_map, List.length_take]; omega
      clear hqq
      go_wp2_with fail
      refine (RS.out _).mono ?_
      rintro e w5 ⟨rfl, hb⟩
      have hb5 : Below wo.heap.size wo w5 := below_up hb ((Below.refl _ _).alloc (Nat.le_refl _) _) (by simp)
      have HP5 := Lib.hid (PQ.next HP.out hb5)
      have hs5 := HP5.out.2.size
      clear hb hb5 e0 e1 e2 e3
      go_wp2_with (at_builtin; refine wpList_append_own _ rfl _ _ 40 rfl w.heap.size 23 i0 (.agg #[.int .i64 0, .int .i64 0, .int .i64 0, .int .i64 0, .int .i64 0]) 5 40 Try.underlying40 hi hz0 hz1 hz2 rfl (by decide) _ _ _ rfl (HP5.out.1.alloc _) ⟨w5.heap.size, 0, none⟩ 1 1 [.int .i64 q0, .int .i64 q1, .int .i64 q2, .int .i64 q3, .int .i64 q4] rfl rfl (five_new _ _ _ _ _ _ _ _ rfl) (by intro u hu; simp at hu; rcases hu with rfl | rfl | rfl | rfl | rfl <;> rfl) (by unfold maxLen; omega) (by omega) (by simp; omega) ?_)
      intro v2 wn hown2 hgrow2 _
      have hbel2 : Below w.heap.size w wn := (HP5.out.2.alloc hs5 _).grown hgrow2 (by simp; omega) (fun j hj => (HP5.out.1.lt j hj).1)
      have hP2 : PQ w wn v2 ((L.take (k + 1)).map toQ) := by
        rw [TX.out]
        exact ⟨by (simp only [flatQ_app, List.length_append, flatQ, List.length_cons, List.length_nil, Nat.zero_add, List.length_map, List.length_take, List.map_take] at hown2 ⊢; rw [Nat.min_eq_left (by omega)]; exact hown2), hbel2⟩
      have HP3 := Lib.hid hP2
      clear hown2 hgrow2 hbel2 hP2
      go_wp2
      go_roundw
      case rel => exact ⟨k + 1, ⟨by omega, HP3.out⟩, by go_num⟩
      case measure => simp [intOf]; omega
    · have hke : k = L.length := by omega
      have HE := Lib.hid hke
      clear hke hL
      go_wp2
      go_ret
      have h := HP.out
      rw [HE.out, List.take_length] at h
      exact ⟨_, rfl, h.1, h.2⟩
set_option maxHeartbeats 6400000 in
theorem Quats_any (L : List H) (B : Nat) (A : Option Addr) (c : Nat) (w : World) (hL : LH 31 B w A c L) (hx : ∀ x ∈ L, par x ∧ HB 1000000000000000000 x) (hn : L.length ≤ 100000) (hc : c ≤ 9223372036854775807) (hlc : L.length ≤ c) :
    Calls Try.prog 30 #[.slice A L.length c] w fun e w' => ∃ v, e = .returned v ∧ w'.ownsRow w.heap.size 23 5 v (L.map toQ).length (flatQ (L.map toQ)) ∧ Below w.heap.size w w' := by
  obtain ⟨i0, hi, hz0, hz1, hz2⟩ := info_parts infoQ
  have HL := Lib.hid hL
  have HX := Lib.hid hx
  have TK := Lib.hid (fun (i : Nat) (u : H) (h : L[i]? = some u) => show (L.take (i + 1)).map toQ = (L.take i).map toQ ++ [toQ u] by rw [take_snoc h]; simp)
  clear hL hx
  go_enter Try.func30, Try.ntmps30
  go_wp2_with fail
  go_loopw [3, 4] (fun t3 t4 wr => ∃ k : Nat, (k ≤ L.length ∧ PQ w wr t3 ((L.take k).map toQ)) ∧ t4 = .int .i64 k) (fun _ t4 _ => L.length - (intOf t4).toNat)
  case atStart => exact ⟨0, ⟨Nat.zero_le _, World.ownsRow_nil _ _ _ _, Below.refl _ _⟩, rfl⟩
  case round =>
    obtain ⟨k, ⟨hk, hP⟩, rfl⟩ := hrel
    obtain ⟨wo, rfl⟩ : ∃ wo : World, wo = wr := ⟨_, rfl⟩
    have hL := LH.next HL.out hP.2
    have HP := Lib.hid hP
    clear hP
    by_cases hlt : k < L.length
    · have hq : L[k]? = some L[k] := List.getElem?_eq_getElem hlt
      have hm := HX.out L[k] (List.getElem_mem hlt)
      obtain ⟨b, rfl, ⟨e0, e1, e2, e3⟩, gb, gz⟩ := LH.at_ hL hq
      have TX := Lib.hid (TK.out k L[k] hq)
      generalize L[k] = x at *
      have RS := Lib.hid (fun W => rQuat_h x W hm.1 hm.2)
      clear hm hq hL
      obtain ⟨x0, x1, x2, x3⟩ := x
      generalize hqq : toQ ⟨x0, x1, x2, x3⟩ = q at *
      obtain ⟨q0, q1, q2, q3, q4⟩ := q
      simp only [] at e0 e1 e2 e3 RS
      have hll : ((L.take k).map toQ).length = k := by rw [List.length_map, List.length_take]; omega
      clear hqq
      go_wp2_with fail
      refine (RS.out _).mono ?_
      rintro e w5 ⟨rfl, hb⟩
      have hb5 : Below wo.heap.size wo w5 := hb
      have HP5 := Lib.hid (PQ.next HP.out hb5)
      have hs5 := HP5.out.2.size
      clear hb hb5 e0 e1 e2 e3
      go_wp2_with (at_builtin; refine wpList_append_own _ rfl _ _ 40 rfl w.heap.size 23 i0 (.agg #[.int .i64 0, .int .i64 0, .int .i64 0, .int .i64 0, .int .i64 0]) 5 40 Try.underlying40 hi hz0 hz1 hz2 rfl (by decide) _ _ _ rfl (HP5.out.1.alloc _) ⟨w5.heap.size, 0, none⟩ 1 1 [.int .i64 q0, .int .i64 q1, .int .i64 q2, .int .i64 q3, .int .i64 q4] rfl rfl (five_new _ _ _ _ _ _ _ _ rfl) (by intro u hu; simp at hu; rcases hu with rfl | rfl | rfl | rfl | rfl <;> rfl) (by unfold maxLen; omega) (by omega) (by simp; omega) ?_)
      intro v2 wn hown2 hgrow2 _
      have hbel2 : Below w.heap.size w wn := (HP5.out.2.alloc hs5 _).grown hgrow2 (by simp; omega) (fun j hj => (HP5.out.1.lt j hj).1)
      have hP2 : PQ w wn v2 ((L.take (k + 1)).map toQ) := by
        rw [TX.out]
        exact ⟨by (simp only [flatQ_app, List.length_append, flatQ, List.length_cons, List.length_nil, Nat.zero_add, List.length_map, List.length_take, List.map_take] at hown2 ⊢; rw [Nat.min_eq_left (by omega)]; exact hown2), hbel2⟩
      have HP3 := Lib.hid hP2
      clear hown2 hgrow2 hbel2 hP2
      go_wp2
      go_roundw
      case rel => exact ⟨k + 1, ⟨by omega, HP3.out⟩, by go_num⟩
      case measure => simp [intOf]; omega
    · have hke : k = L.length := by omega
      have HE := Lib.hid hke
      clear hke hL
      go_wp2
      go_ret
      have h := HP.out
      rw [HE.out, List.take_length] at h
      exact ⟨_, rfl, h.1, h.2⟩
set_option maxHeartbeats 3200000 in
theorem SameQuats_same (L : List Q) (A1 A2 : Option Addr) (c1 c2 : Nat) (w : World) (h1 : RQ w A1 L) (h2 : RQ w A2 L) (hn : L.length ≤ 100000) (hc1 : c1 ≤ 9223372036854775807) (hl1 : L.length ≤ c1) (hc2 : c2 ≤ 9223372036854775807) (hl2 : L.length ≤ c2) :
    Calls Try.prog 28 #[.slice A1 L.length c1, .slice A2 L.length c2] w fun e w' => e = .returned (.bool true) ∧ Below w.heap.size w w' := by
  have H1 := Lib.hid h1
  have H2 := Lib.hid h2
  clear h1 h2
  go_enter Try.func28, Try.ntmps28
  go_wp2_with fail
  go_loopw [5] (fun t5 wr => ∃ k : Nat, (k ≤ L.length ∧ Below w.heap.size w wr ∧ RQ wr A1 L ∧ RQ wr A2 L) ∧ t5 = .int .i64 k) (fun t5 _ => L.length - (intOf t5).toNat)
  case atStart => exact ⟨0, ⟨Nat.zero_le _, Below.refl _ _, H1.out, H2.out⟩, rfl⟩
  case round =>
    obtain ⟨k, ⟨hk, hb, r1, r2⟩, rfl⟩ := hrel
    obtain ⟨wo, rfl⟩ : ∃ wo : World, wo = wr := ⟨_, rfl⟩
    have HB := Lib.hid hb
    have R1 := Lib.hid r1
    have R2 := Lib.hid r2
    clear hb r1 r2
    by_cases hlt : k < L.length
    · have hq : L[k]? = some L[k] := List.getElem?_eq_getElem hlt
      obtain ⟨b, rfl, e0, e1, e2, e3, e4⟩ := R1.out k _ hq
      obtain ⟨b', rfl, g0, g1, g2, g3, g4⟩ := R2.out k _ hq
      generalize L[k] = q at *
      clear hq
      go_wp2
      go_quiet (fail)
      go_wp2
      go_roundw
      case rel => exact ⟨k + 1, ⟨by omega, below_draws HB.out _, R1.out, R2.out⟩, by go_num⟩
      case measure => simp [intOf]; omega
    · go_wp2
      go_ret
      exact ⟨rfl, HB.out⟩
theorem Units_any (w : World) :
    Calls Try.prog 29 #[] w fun e w' => ∃ v, e = .returned v ∧ w'.ownsRow w.heap.size 23 5 v (U24.map toQ).length (flatQ (U24.map toQ)) ∧ Below w.heap.size w w' := by
  have hl : U24.length ≤ 100000 := by decide +kernel
  have hb : ∀ x ∈ U24, HB 100000000000000000 x := fun x hx => by
    obtain ⟨h0, h1, h2, h3⟩ := U24_hb x hx
    exact ⟨by omega, by omega, by omega, by omega⟩
  have UN := Lib.hid (fun W => units_any W)
  have RS := Lib.hid (fun B A c W h h1 h2 => results_any U24 B A c W h hb hl h1 h2)
  clear hl hb
  go_enter Try.func29, Try.ntmps29
  go_wp2_with fail
  refine (UN.out _).mono ?_
  rintro e w1 ⟨v, rfl, hown, hb⟩
  obtain ⟨Aa, c, rfl, hLH, hc, hlc⟩ := LH.of hown
  have HB := Lib.hid hb
  clear hb hown
  go_wp2_with fail
  refine (RS.out _ _ _ _ hLH hc hlc).mono ?_
  rintro e w2 ⟨v, rfl, hown, hb⟩
  have HO := Lib.hid (ownsRow_base' hown HB.out.size)
  have HB2 := Lib.hid (HB.out.trans (hb.mono HB.out.size))
  clear hb hown
  go_wp2
  go_ret
  exact ⟨v, rfl, HO.out, HB2.out⟩
end Go.Proofs.Yteiflfmpkfhkoaa.Rt
