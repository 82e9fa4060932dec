/-
  WALKS: the ramified primes.
-/
import Derived.Test.YtgbnmnkgelklbaaDoorRm2
import Derived.Test.YtgbnmnkgelklbaaDoorAl6
import Derived.Test.YtgbnmnkgelklbaaDoorHil2
import Derived.Lib.SmallJoins
namespace Go.Proofs.YtgbnmnkgelklbaaDoor.Rm
open Go.RowKit
open Nt (Pr)
open Al
set_option linter.unusedVariables false
set_option linter.unusedSimpArgs false
set_option maxRecDepth 100000
/-- a list of pairs that a call made -/
def LP (B : Nat) (w : World) (A : Option Addr) (c : Nat) (L : List (Nat × Nat)) : Prop := w.ownsRow B 88 2 (.slice A L.length c) L.length (flat L)
theorem LP.of {B : Nat} {w : World} {v : Value} {L : List (Nat × Nat)} (h : w.ownsRow B 88 2 v L.length (flat L)) : ∃ A c, v = .slice A L.length c ∧ LP B w A c L ∧ c ≤ 9223372036854775807 ∧ L.length ≤ c := by
  have h' := h
  rcases h.2 with ⟨rfl, h0⟩ | ⟨g, cap, cur, rfl, hb, hg, h1, h2, h3, h4⟩
  · exact ⟨none, 0, by rw [h0], by unfold LP; rw [h0]; rw [h0] at h'; exact h', by omega, by omega⟩
  · exact ⟨_, cap, rfl, h', by unfold maxLen at h2; omega, h1⟩
theorem LP.at_ {B : Nat} {w : World} {A : Option Addr} {c : Nat} {L : List (Nat × Nat)} (h : LP B w A c L) {j : Nat} {q : Nat × Nat} (hj : L[j]? = some q) : ∃ b, A = some ⟨b, 0, none⟩ ∧ w.cell? ⟨b, j * 2, none⟩ = some (.int .i64 q.1) ∧ w.cell? ⟨b, j * 2 + 1, none⟩ = some (.int .i64 q.2) ∧ B ≤ b ∧ b < w.heap.size := by
  have hjl : j < L.length := (List.getElem?_eq_some_iff.1 hj).1
  rcases h.2 with ⟨h0, h1⟩ | ⟨g, cap, cur, hv, hb, hg, h1, h2, h3, h4⟩
  · omega
  · injection hv with e1 e2 e3
    subst e1 e3
    obtain ⟨f0, f1⟩ := flat_get L j q hj
    refine ⟨g, rfl, ?_, ?_, hb, (Array.getElem?_eq_some_iff.1 hg).1⟩
    · rw [World.ownsRow.cellAt h (j * 2) (by omega)]; exact f0
    · rw [World.ownsRow.cellAt h (j * 2 + 1) (by omega)]; exact f1
theorem LP.below {B B' : Nat} {w w' : World} {A : Option Addr} {c : Nat} {L : List (Nat × Nat)} (h : LP B w A c L) (hb : Below B' w w') (hB : ∀ a, A = some a → a.block < B') : LP B w' A c L := by
  refine ⟨h.1, ?_⟩
  rcases h.2 with ⟨h0, h1⟩ | ⟨g, cap, cur, hv, h5, hg, h1, h2, h3, h4⟩
  · exact .inl ⟨h0, h1⟩
  · injection hv with e1 e2 e3
    subst e1 e3
    exact .inr ⟨g, c, cur, rfl, h5, (hb.block g (hB _ rfl)).trans hg, h1, h2, h3, h4⟩
theorem LP.lt {B : Nat} {w : World} {A : Option Addr} {c : Nat} {L : List (Nat × Nat)} (h : LP B w A c L) : ∀ a, A = some a → a.block < w.heap.size := by
  intro a ha
  subst ha
  rcases h.2 with ⟨h0, h1⟩ | ⟨g, cap, cur, hv, h5, hg, h1, h2, h3, h4⟩
  · cases h0
  · injection hv with e1 e2 e3
    injection e1 with e1
    subst e1
    exact (Array.getElem?_eq_some_iff.1 hg).1
/-- a list of numbers as cells -/
def nvs (l : List Nat) : List Value := l.map fun q : Nat => .int .i64 q
theorem infoI : (Tryd.prog.info? 3).map (fun i => (i.zero, i.size, i.bytes)) = some (some (.int .i64 0), 1, 8) := by kernel_rfl
def RmEnd (l : List Nat) (w : World) (e : Ending) (w' : World) : Prop := ∃ v : Value, e = .returned v ∧ w'.ownsRow w.heap.size 3 1 v l.length (nvs l) ∧ Below w.heap.size w w'
/-- the primes among the first k whose symbol is -1 -/
noncomputable def hl (A B : Int) (L : List (Nat × Nat)) (k : Nat) : List Nat := ((L.take k).map Prod.fst).filter fun q : Nat => (hv A B q).1 == -1
theorem hl_len (A B : Int) (L : List (Nat × Nat)) (k : Nat) : (hl A B L k).length ≤ L.length := by
  unfold hl
  refine Nat.le_trans (List.length_filter_le _ _) ?_
  rw [List.length_map, List.length_take]; omega
theorem hl_take {A B : Int} {L : List (Nat × Nat)} {k : Nat} {q : Nat × Nat} (h : L[k]? = some q) (hh : (hv A B q.1).1 = -1) : hl A B L (k + 1) = hl A B L k ++ [q.1] := by
  unfold hl
  rw [List.take_add_one, h, List.map_append, List.filter_append]
  simp [hh]
theorem hl_drop {A B : Int} {L : List (Nat × Nat)} {k : Nat} {q : Nat × Nat} (h : L[k]? = some q) (hh : (hv A B q.1).1 ≠ -1) : hl A B L (k + 1) = hl A B L k := by
  unfold hl
  rw [List.take_add_one, h, List.map_append, List.filter_append]
  simp [hh]
theorem hl_end {A B : Int} {L : List (Nat × Nat)} {N : Nat} (eN : (2 * A * B).natAbs = N) (n1 : 1 ≤ N) (hA : A ≠ 0) (hB : B ≠ 0) (h1 : -1000 ≤ A ∧ A ≤ 1000) (h2 : -1000 ≤ B ∧ B ≤ 1000) (hL : L.map Prod.fst = PL N (N + 1)) : hl A B L L.length = RL A B 1001 := by
  unfold hl
  rw [List.take_length, hL, ← PL_far (N := max (N + 1) 1001) n1 (Nat.le_max_left _ _), ← eN, RL_of]
  exact RL_far hA hB (by omega) (by omega) (Nat.le_max_right _ _)
theorem one_new (w : World) (u : Value) (T : TypeId) (n : Nat) (hn : n = w.heap.size) : ∀ (j : Nat) (x : Value), [u][j]? = some x → (w.alloc (.cells #[u] T)).cell? ((⟨n, 0, none⟩ : Addr).add j) = some x := by
  subst hn
  intro j x hj
  match j with
  | 0 => simp at hj; subst hj; simp [go_sem]
  | j + 1 => simp at hj
/-- what a walk keeps: cells, and that nothing that was there has turned -/
def K_Rk (A B : Int) (b1 : Nat) (w w' : World) : Prop := KL w [(b1, 0, .int .i64 A), (b1, 1, .int .i64 B)] [] w'
theorem K_Rk.below {A B : Int} {b1 : Nat} {w w1 w2 : World} (hb : Below w1.heap.size w1 w2) (h : K_Rk A B b1 w w1) : K_Rk A B b1 w w2 := KL.below hb h
theorem K_Rk.draws {A B : Int} {b1 : Nat} {w w1 : World} (n : Nat) (h : K_Rk A B b1 w w1) : K_Rk A B b1 w (w1.drewN n) := KL.draws n h
theorem K_Rk.drew {A B : Int} {b1 : Nat} {w w1 : World} (h : K_Rk A B b1 w w1) : K_Rk A B b1 w w1.drew := KL.draws 1 h
theorem K_Rk.alloc {A B : Int} {b1 : Nat} {w w1 : World} (o : Obj) (h : K_Rk A B b1 w w1) : K_Rk A B b1 w (w1.alloc o) := KL.alloc o h
theorem K_Rk.set {A B : Int} {b1 : Nat} {w w1 : World} (h : K_Rk A B b1 w w1) (b i : Nat) (v : Value) (hb : b ≠ b1 ∧ w.heap.size ≤ b) : K_Rk A B b1 w (w1.setCell ⟨b, i, none⟩ v) :=
  KL.set h b i v (by intro x hx; simp only [List.mem_cons, List.not_mem_nil, or_false] at hx; rcases hx with rfl | rfl <;> simp only [] <;> omega) (by omega)
theorem K_Rk.bel {A B : Int} {b1 : Nat} {w w1 : World} (h : K_Rk A B b1 w w1) : Below w.heap.size w w1 := KL.bel h
theorem K_Rk.cells {A B : Int} {b1 : Nat} {w w' : World} (h : K_Rk A B b1 w w') : w'.cell? ⟨b1, 0, none⟩ = some (.int .i64 A) ∧ w'.cell? ⟨b1, 1, none⟩ = some (.int .i64 B) := ⟨h.c (b1, 0, .int .i64 A) (by simp), h.c (b1, 1, .int .i64 B) (by simp)⟩
theorem K_Rk.zs {A B : Int} {b1 : Nat} {w w' : World} (h : K_Rk A B b1 w w') : b1 < w'.heap.size ∧ True := ⟨KL.z h (x := (b1, 0, .int .i64 A)) (by simp), trivial⟩
theorem K_Rk.ks {A B : Int} {b1 : Nat} {w w' : World} (h : K_Rk A B b1 w w') : (w'.cell? ⟨b1, 0, none⟩ = some (.int .i64 A) ∧ w'.cell? ⟨b1, 1, none⟩ = some (.int .i64 B)) ∧ K_Rk A B b1 w w' := ⟨h.cells, h⟩
theorem size_bd {A B : Int} (hA : A ≠ 0) (hB : B ≠ 0) (h1 : -1000 ≤ A ∧ A ≤ 1000) (h2 : -1000 ≤ B ∧ B ≤ 1000) : (-2000 ≤ 2 * A ∧ 2 * A ≤ 2000) ∧ (-2000000 ≤ 2 * A * B ∧ 2 * A * B ≤ 2000000) ∧ 2 * A * B ≠ 0 := by
  have h3 : -2000 ≤ 2 * A ∧ 2 * A ≤ 2000 := by omega
  exact ⟨h3, Alm.mb 2000 1000 h3 h2, Int.mul_ne_zero (Int.mul_ne_zero (by omega) hA) hB⟩
set_option maxHeartbeats 4000000 in
theorem ramified_any (A B : Int) (w : World) (hA : A ≠ 0) (hB : B ≠ 0) (h1 : -1000 ≤ A ∧ A ≤ 1000) (h2 : -1000 ≤ B ∧ B ≤ 1000) :
    Calls Tryd.prog 26 #[.agg #[.int .i64 A, .int .i64 B]] w fun e w' => RmEnd (RL A B 1001) w e w' := by
  obtain ⟨i0, hi, hz0, hz1, hz2⟩ := info_parts infoI
  obtain ⟨⟨s1, s1'⟩, ⟨s2, s2'⟩, s3⟩ := size_bd hA hB h1 h2
  have hN : ∃ N : Nat, (2 * A * B).natAbs = N ∧ 1 ≤ N ∧ N ≤ 2000000 := ⟨_, rfl, by omega, by omega⟩
  obtain ⟨N, eN, n1, n2⟩ := hN
  have FT := Lib.hid (fun W => Factor_any N W n1 (by omega))
  have EN := Lib.hid eN
  have HH := Lib.hid (And.intro hA (And.intro hB (And.intro h1 h2)))
  have hsz : (2 * A * B < 0 ∧ -(2 * A * B) = (N : Int)) ∨ (¬ 2 * A * B < 0 ∧ 2 * A * B = (N : Int)) := by omega
  clear hA hB h1 h2 s3 eN
  rcases hsz with ⟨hs, he⟩ | ⟨hs, he⟩
  all_goals
    have HE := Lib.hid he
    clear he
    go_enter Tryd.func26, Tryd.ntmps26
    go_wp2_with fail
    rw [HE.out]
    refine (FT.out _).mono ?_
    rintro e w2 ⟨v, L, rfl, hL, hlen, hown, hbel⟩
    have hK : K_Rk A B w.heap.size w w2 := K_Rk.below hbel ⟨by simp [go_sem], by simp, by simp, by (repeat (first | (with_reducible exact Below.refl _ _) | (with_reducible exact HB.out) | (with_reducible refine below_draws ?_ _) | (with_reducible refine Below.alloc ?_ (by go_size) _) | (with_reducible refine Below.setCell ?_ (by go_size) _) | (with_reducible refine Below.alloc ?_ (by simp <;> omega) _) | (with_reducible refine Below.setCell ?_ (by simp <;> omega) _)))⟩
    obtain ⟨Aa, c, rfl, hLP, hc, hlc⟩ := LP.of hown
    have HP := Lib.hid hLP
    have HL := Lib.hid hL
    clear hown hbel hLP hL
    obtain ⟨c0_, c1_⟩ := K_Rk.cells hK; obtain ⟨z0_, -⟩ := K_Rk.zs hK; have HK := Lib.hid hK; clear hK
    go_wp2_with fail
    go_loopw [6, 28] (fun t6 t28 wr => ∃ k : Nat, (k ≤ L.length ∧ wr.ownsRow w2.heap.size 3 1 t6 (hl A B L k).length (nvs (hl A B L k)) ∧ Below w2.heap.size w2 wr) ∧ t28 = .int .i64 k) (fun _ t28 _ => L.length - (intOf t28).toNat)
    case atStart => exact ⟨0, ⟨Nat.zero_le _, World.ownsRow_nil _ _ _ _, Below.refl _ _⟩, rfl⟩
    case round =>
      obtain ⟨k, ⟨hkl, hown, hbel⟩, rfl⟩ := hrel
      obtain ⟨wo, rfl⟩ : ∃ wo : World, wo = wr := ⟨_, rfl⟩
      clear c0_ c1_ z0_
      have hP := LP.below HP.out hbel (LP.lt HP.out)
      have hK := K_Rk.below hbel HK.out
      have hll : (hl A B L k).length ≤ L.length := hl_len A B L k
      have HO := Lib.hid hown
      have HB := Lib.hid hbel
      clear hown hbel
      by_cases hlt : k < L.length
      · have hq : L[k]? = some L[k] := List.getElem?_eq_getElem hlt
        have HQ := Lib.hid hq
        obtain ⟨b, rfl, g0, g1, -, gz⟩ := LP.at_ hP hq
        obtain ⟨c0_, c1_⟩ := K_Rk.cells hK
        obtain ⟨z0_, -⟩ := K_Rk.zs hK
        generalize hqq : L[k] = q at *
        have HL1 := Lib.hid (hil63 A B q.1)
        clear hP hK hq hqq
        go_wp2_with fail
        refine (HL1.out _).mono ?_
        rintro e w5 ⟨he, rfl⟩
        obtain rfl := hil_v he
        clear he
        by_cases hh : (hv A B q.1).1 = -1
        · have ht : ((hv A B q.1).1 == -1) = true := by rw [hh]; rfl
          have NX := Lib.hid (hl_take HQ.out hh)
          clear hh
          go_wp2_with (at_builtin; refine wpList_append_own _ rfl _ _ 25 rfl w2.heap.size 3 i0 (.int .i64 0) 1 8 Tryd.underlying25 hi hz0 hz1 hz2 rfl (by decide) _ _ _ rfl ((HO.out.alloc _).alloc _) ⟨wo.heap.size + 1, 0, none⟩ 1 1 [.int .i64 q.1] rfl rfl (one_new _ _ _ _ (by simp)) (by intro u hu; simp at hu; subst hu; rfl) (by unfold maxLen; omega) (by omega) (by have := HB.out.size; simp; omega) ?_)
          intro v2 wn hown2 hgrow2 _
          have hbel2 : Below w2.heap.size w2 wn := ((HB.out.alloc HB.out.size _).alloc (by have := HB.out.size; simp; omega) _).grown hgrow2 (by have := HB.out.size; simp; omega) (fun j hj => (HO.out.lt j hj).1)
          have hown3 : wn.ownsRow w2.heap.size 3 1 v2 (hl A B L (k + 1)).length (nvs (hl A B L (k + 1))) := by rw [NX.out, List.length_append]; unfold nvs; rw [List.map_append]; exact hown2
          have H3 := Lib.hid hown3
          have HB2 := Lib.hid hbel2
          clear hown2 hgrow2 hbel2 hown3
          go_wp2
          go_roundw
          case rel => exact ⟨k + 1, ⟨by omega, H3.out, HB2.out⟩, by go_num⟩
          case measure => simp [intOf]; omega
        · have ht : ((hv A B q.1).1 == -1) = false := by rw [beq_eq_false_iff_ne]; exact hh
          have NX := Lib.hid (hl_drop HQ.out hh)
          clear hh
          go_wp2
          go_roundw
          case rel => exact ⟨k + 1, ⟨by omega, by rw [NX.out]; exact HO.out.alloc _, HB.out.alloc HB.out.size _⟩, by go_num⟩
          case measure => simp [intOf]; omega
      · have hk : k = L.length := by omega
        have HKL := Lib.hid hk
        have HKK := Lib.hid hK
        clear hk hP hK
        go_wp2
        go_ret
        refine ⟨_, rfl, ?_, K_Rk.bel HKK.out⟩
        rw [← hl_end EN.out n1 HH.out.1 HH.out.2.1 HH.out.2.2.1 HH.out.2.2.2 HL.out, ← HKL.out]
        exact Go.Joins.ownsRow_le HO.out (K_Rk.bel HK.out).size
end Go.Proofs.YtgbnmnkgelklbaaDoor.Rm
