/-
  WALK: the first roots modulo a power of a prime.
-/
import Derived.Test.YtcbdnnboddahkaaHeB
namespace Go.Proofs.Ytcbdnnboddahkaa.He
open Nt
open Go.RowKit
open Ws (new_one infoI)
set_option linter.unusedVariables false
set_option linter.unusedSimpArgs false
set_option maxRecDepth 100000
theorem LI.set {B b j : Nat} {w : World} {c : Nat} {zs : List Int} (h : LI B w (some ⟨b, 0, none⟩) c zs) (hj : j < zs.length) (y : Int) : LI B (w.setCell ⟨b, j, none⟩ (.int .i64 y)) (some ⟨b, 0, none⟩) c (zs.set j y) := by
  unfold LI at h ⊢
  rw [List.length_set]
  refine ⟨by simp [ivs], ?_⟩
  rcases h.2 with ⟨h0, h1⟩ | ⟨g, cap, cur, hv, h5, hg, h1, h2, h3, h4⟩
  · cases h0
  · injection hv with e1 e2 e3
    injection e1 with e1
    injection e1 with e1
    subst e1 e3
    refine .inr ⟨b, c, cur.set! j (.int .i64 y), rfl, h5, ?_, h1, h2, by simpa using h3, ?_⟩
    · simp only [World.setCell, Array.getElem?_modify, hg]
      simp
    · rw [Nat.mul_one] at h4 ⊢
      have : (cur.set! j (.int .i64 y)).toList.take zs.length = (cur.toList.take zs.length).set j (.int .i64 y) := by simp [List.take_set]
      rw [this, h4]
      simp [ivs, List.map_set]
theorem LI.frozen {B b : Nat} {w : World} {c : Nat} {zs : List Int} (h : LI B w (some ⟨b, 0, none⟩) c zs) (j : Nat) : w.frozen? ⟨b, j, none⟩ = false := by
  rcases h.2 with ⟨h0, h1⟩ | ⟨g, cap, cur, hv, h5, hg, h1, h2, h3, h4⟩
  · cases h0
  · injection hv with e1 e2 e3
    injection e1 with e1
    injection e1 with e1
    subst e1
    simp [World.frozen?, hg]
def mulI (s : Int) (i : Nat) (zs : List Int) : List Int := (zs.take i).map (· * s) ++ zs.drop i
theorem mulI_len (s : Int) (i : Nat) (zs : List Int) : (mulI s i zs).length = zs.length := by simp [mulI]; omega
theorem mulI_get {s : Int} {i : Nat} {zs : List Int} (h : i < zs.length) (h' : i < (mulI s i zs).length) : (mulI s i zs)[i] = zs[i] := by
  simp [mulI, List.getElem_append, Nat.min_eq_left (Nat.le_of_lt h)]
theorem mulI_set {s : Int} {i : Nat} {zs : List Int} (h : i < zs.length) : (mulI s i zs).set i (zs[i] * s) = mulI s (i + 1) zs := by
  unfold mulI
  rw [List.set_append_right _ _ (by simp; omega)]
  have e : i - ((zs.take i).map (· * s)).length = 0 := by simp; omega
  rw [e, List.drop_eq_getElem_cons h, List.set_cons_zero, List.take_succ_eq_append_getElem h, List.map_append]
  simp
theorem raise_at (p e : Int) (n : Nat) (w : World) (he : e = n) (hp : 1 ≤ p) (hp2 : p ≤ 1000000000) (h : p ^ n ≤ 1000000000) (hn : n ≤ 9223372036854775807) :
    Calls Try.prog 159 #[.int .i64 p, .int .i64 e] w fun e w' => e = .returned (.int .i64 (p ^ n)) ∧ w = w' := by
  subst he; exact raise_any p n w hp hp2 h hn
def FrOut (w : World) (a q : Int) (e : Ending) (w' : World) : Prop := (∃ (A : Option Addr) (c : Nat) (zs : List Int) (s : Int), e = .returned (.tuple #[.slice A zs.length c, .int .i64 s]) ∧ FR a q s zs ∧ zs.length ≤ 1000000000 ∧ LI w.heap.size w' A c zs) ∧ Below w.heap.size w w'
theorem split_lem {a u p : Int} {j k : Nat} (h2 : 2 ≤ p) (ha : a = u * p ^ j) (hu : 0 < u) (h1 : a < p ^ k) : j < k ∧ u < p ^ (k - j) := by
  have hpj : 0 < p ^ j := Int.pow_pos (by omega)
  have hle : 1 * p ^ j ≤ u * p ^ j := Int.mul_le_mul_of_nonneg_right (by omega) (by omega)
  have hjk : j < k := by
    rcases Nat.lt_or_ge j k with h | h
    · exact h
    · have := pow_mono (p := p) (by omega) h
      omega
  refine ⟨hjk, ?_⟩
  have hq : p ^ k = p ^ (k - j) * p ^ j := by rw [← Int.pow_add]; congr 1; omega
  rw [ha, hq] at h1
  exact Int.lt_of_mul_lt_mul_right h1 (by omega)
set_option maxHeartbeats 4000000 in
theorem first_any (a p : Int) (k : Nat) (w : World) (hp : Pr p.toNat) (h2 : 2 ≤ p) (hpm : p ≤ 1000000000) (hk : 1 ≤ k) (hk3 : k ≤ 40) (hq : p ^ k ≤ 1000000000) (h0 : 0 ≤ a) (h1 : a < p ^ k) :
    Calls Try.prog 146 #[.int .i64 a, .int .i64 p, .int .i64 k, .int .i64 (p ^ k)] w fun e w' => FrOut w a (p ^ k) e w' := by
  by_cases ha : a = 0
  · subst ha
    have HF := Lib.hid (fr_zero (k := k) hp h2)
    have HRA : Hid (∀ e : Int, e = ((k - k / 2 : Nat) : Int) → ∀ w : World, Calls Try.prog 159 #[.int .i64 p, .int .i64 e] w fun e' w' => e' = .returned (.int .i64 (p ^ (k - k / 2))) ∧ w = w') := Lib.hid (fun e he w => raise_at p e _ w he (by omega) hpm (by have := pow_mono (p := p) (by omega) (show k - k / 2 ≤ k by omega); omega) (by omega))
    have hown0 := World.ownsRow_lit (base := w.heap.size) (size := 1) (e := 3) w #[Value.int IntKind.i64 0] 1 (Nat.le_refl _) (by unfold maxLen; omega) rfl
    have hB0 : Below w.heap.size w (w.alloc (Obj.cells #[Value.int IntKind.i64 0] 3)) := (Below.refl _ _).alloc (Nat.le_refl _) _
    have HO0 : Hid (LI w.heap.size (w.alloc (Obj.cells #[Value.int IntKind.i64 0] 3)) (some ⟨w.heap.size, 0, none⟩) 1 [0]) := Lib.hid hown0
    have HB0 := Lib.hid hB0
    clear hown0 hB0 hp
    generalize p ^ (k - k / 2) = s at *
    generalize p ^ k = q at *
    go_enter Try.func146, Try.ntmps146
    go_wp2_with (go_at_call 159; refine (HRA.out _ (by omega) _).mono ?_; rintro e w2 ⟨rfl, rfl⟩)
    go_ret2
    exact ⟨⟨_, _, [0], s, rfl, HF.out, by simp, HO0.out⟩, HB0.out⟩
  · have hab : ((a : Int) == 0) = false := by rw [beq_eq_false_iff_ne]; exact ha
    have HST := Lib.hid (strip_any a p w ha h2 (by omega) (by omega) (by omega))
    have ha0 : 0 < a := by omega
    have HPR := Lib.hid hp
    clear ha hp
    obtain ⟨q, hqq⟩ : ∃ q, p ^ k = q := ⟨_, rfl⟩
    have HQ := Lib.hid hqq
    rw [hqq] at hq h1 ⊢
    clear hqq
    go_enter Try.func146, Try.ntmps146
    go_wp2_with (go_at_call 128; fail)
    refine HST.out.mono ?_
    rintro e w2 ⟨⟨u, j, rfl, ⟨s1, s2, s3, s4⟩, hnu⟩, rfl⟩
    have hu0 : 0 < u := s4.1 ha0
    obtain ⟨hjk, hut⟩ := split_lem h2 s1 hu0 (by rw [HQ.out]; exact h1)
    have HS1 := Lib.hid s1
    have HNU := Lib.hid hnu
    have HUT := Lib.hid hut
    clear s1 s2 s3 s4 hnu hut HST
    by_cases hodd : j % 2 = 1
    · obtain ⟨n, rfl⟩ : ∃ n, j = 2 * n + 1 := ⟨j / 2, by omega⟩
      have HF : Hid (FR a q q []) := Lib.hid (by rw [HS1.out, ← HQ.out]; exact fr_odd HPR.out h2 HNU.out hjk)
      have hjm : ((2 * n + 1 : Nat) : Int) % 2 = 1 := by omega
      go_wp2
      go_ret2
      exact ⟨⟨none, 0, [], q, rfl, HF.out, by simp, LI.nil_ _ _⟩, Below.refl _ _⟩
    · obtain ⟨n, rfl⟩ : ∃ n, j = 2 * n := ⟨j / 2, by omega⟩
      have hjm : ((2 * n : Nat) : Int) % 2 = 0 := by omega
      have HRA : Hid (∀ e : Int, e = (n : Int) → Calls Try.prog 159 #[.int .i64 p, .int .i64 e] w fun e' w' => e' = .returned (.int .i64 (p ^ n)) ∧ w = w') := Lib.hid (fun e he => raise_at p e _ w he (by omega) hpm (by have := pow_mono (p := p) (by omega) (show n ≤ k by omega); rw [HQ.out] at this; omega) (by omega))
      have HFE : Hid (∀ zs, IsRts u (p ^ (k - 2 * n)) zs → FR a q (p ^ (k - 2 * n) * p ^ n) (zs.map (· * p ^ n))) := Lib.hid (fun zs h => by
        rw [HS1.out, ← HQ.out]; exact fr_even HPR.out h2 (by omega) h)
      have hqt : q = p ^ (k - 2 * n) * (p ^ n * p ^ n) := by rw [← HQ.out, ← Int.pow_add, ← Int.pow_add]; congr 1; omega
      have hsc : 1 ≤ p ^ n := by have : 0 < p ^ n := Int.pow_pos (by omega); omega
      have htt : 1 ≤ p ^ (k - 2 * n) := by have : 0 < p ^ (k - 2 * n) := Int.pow_pos (by omega); omega
      have htq : p ^ (k - 2 * n) ≤ q := by rw [← HQ.out]; exact pow_mono (by omega) (by omega)
      clear hodd
      by_cases hp2 : p = 2
      · subst hp2
        have HUR : Hid (Calls Try.prog 160 #[.int .i64 u, .int .i64 (2 ^ (k - 2 * n))] w fun e w' => RtOut w u (2 ^ (k - 2 * n)) 1000000000 e w') := Lib.hid (two_any u (k - 2 * n) w (by omega) (by omega) (by omega) HUT.out (by have := HNU.out; omega))
        have hpb : ((2 : Int) == 2) = true := rfl
        generalize (2 : Int) ^ n = sc at *
        generalize (2 : Int) ^ (k - 2 * n) = t at *
        have hts0 : 0 ≤ t * sc := Int.mul_nonneg (by omega) (by omega)
        have hts1 : t * sc ≤ q := by
          have h5 : t * sc * 1 ≤ t * sc * sc := Int.mul_le_mul_of_nonneg_left hsc hts0
          rw [hqt, ← Int.mul_assoc]; omega
        have hd1 : q / sc = t * sc := by rw [hqt, ← Int.mul_assoc]; exact Int.mul_ediv_cancel _ (by omega)
        have hd2 : t * sc / sc = t := Int.mul_ediv_cancel _ (by omega)
        clear hqt HUT
        go_wp2_with (first | (go_at_call 159; refine (HRA.out _ (by omega)).mono ?_; rintro e w2 ⟨rfl, rfl⟩) | (go_at_call 160; fail))
        refine HUR.out.mono ?_
        rintro e w2 ⟨⟨v, zs, rfl, hrt, hzl, hown⟩, hbel⟩
        obtain ⟨A, c, rfl, hli⟩ := LI.of hown
        have HF := Lib.hid (HFE.out zs hrt)
        have HZ : Hid (∀ z ∈ zs, 0 ≤ z ∧ z < t) := Lib.hid (fun z hz => by obtain ⟨z1, z2, -⟩ := (hrt.2 z).1 hz; exact ⟨z1, z2⟩)
        have HL := Lib.hid hli
        have HB := Lib.hid hbel
        have HD2 := Lib.hid hd2
        clear hrt hown hli hbel hd1 hd2 HUR HRA HFE
        go_wp2
        go_loopg [54] zs.length (fun gg t54 wr => ∃ (ii : Nat), (ii ≤ zs.length ∧ zs.length - ii ≤ gg ∧ LI w.heap.size wr A c (mulI sc ii zs) ∧ Below w.heap.size w wr) ∧ t54 = .int .i64 ii)
        case atStart => exact ⟨0, ⟨Nat.zero_le _, by omega, by simpa [mulI] using HL.out, HB.out⟩, rfl⟩
        case round =>
          obtain ⟨ii, ⟨hi, hg, hli, hbel⟩, rfl⟩ := hrel
          obtain ⟨wi, rfl⟩ : ∃ wi : World, wi = wr := ⟨_, rfl⟩
          have HL2 := Lib.hid hli
          have HB2 := Lib.hid hbel
          clear hli hbel HL HB
          by_cases hlt : ii < zs.length
          · obtain ⟨b, x, rfl, EX, hcell, hb1, hb2⟩ := HL2.out.at_ (j := ii) (by rw [mulI_len]; exact hlt)
            have EX2 : Hid (zs[ii] = x) := Lib.hid (by rw [← mulI_get (s := sc) hlt (by rw [mulI_len]; exact hlt)]; exact EX.out)
            have hx := HZ.out x (by rw [← EX2.out]; exact List.getElem_mem hlt)
            obtain ⟨hx0, hx1⟩ := hx
            have hxs0 : 0 ≤ x * sc := Int.mul_nonneg hx0 (by omega)
            have hxs1 : x * sc ≤ t * sc := Int.mul_le_mul_of_nonneg_right (by omega) (by omega)
            have HLN : Hid (LI w.heap.size (wi.setCell ⟨b, ii, none⟩ (.int .i64 (x * sc))) (some ⟨b, 0, none⟩) c (mulI sc (ii + 1) zs)) := Lib.hid (by
              rw [← mulI_set hlt, EX2.out]; exact HL2.out.set (by rw [mulI_len]; exact hlt) _)
            have HBN : Hid (Below w.heap.size w (wi.setCell ⟨b, ii, none⟩ (.int .i64 (x * sc)))) := Lib.hid (HB2.out.setCell hb1 _)
            have hfz := HL2.out.frozen ii
            go_wp2
            go_roundg (zs.length - (ii + 1))
            case rel => exact ⟨ii + 1, ⟨by omega, by omega, HLN.out, HBN.out⟩, by go_num⟩
            case measure => omega
          · have hil : ii = zs.length := by omega
            subst hil
            have HLZ : Hid (LI w.heap.size wi A c (zs.map (· * sc))) := Lib.hid (by have := HL2.out; simpa [mulI] using this)
            have hd2 := HD2.out
            go_wp2
            go_ret2
            exact ⟨⟨A, c, zs.map (· * sc), t * sc, by simp, HF.out, by simp; omega, HLZ.out⟩, HB2.out⟩
      · have HUR : Hid (Calls Try.prog 161 #[.int .i64 u, .int .i64 p, .int .i64 (p ^ (k - 2 * n))] w fun e w' => RtOut w u (p ^ (k - 2 * n)) 2 e w') := Lib.hid (uroots_any u p (k - 2 * n) w HPR.out (by omega) hpm (by omega) (by omega) (by omega) HUT.out HNU.out)
        have hpb : ((p : Int) == 2) = false := by rw [beq_eq_false_iff_ne]; exact hp2
        clear hp2
        generalize p ^ n = sc at *
        generalize p ^ (k - 2 * n) = t at *
        have hts0 : 0 ≤ t * sc := Int.mul_nonneg (by omega) (by omega)
        have hts1 : t * sc ≤ q := by
          have h5 : t * sc * 1 ≤ t * sc * sc := Int.mul_le_mul_of_nonneg_left hsc hts0
          rw [hqt, ← Int.mul_assoc]; omega
        have hd1 : q / sc = t * sc := by rw [hqt, ← Int.mul_assoc]; exact Int.mul_ediv_cancel _ (by omega)
        have hd2 : t * sc / sc = t := Int.mul_ediv_cancel _ (by omega)
        clear hqt HUT
        go_wp2_with (first | (go_at_call 159; refine (HRA.out _ (by omega)).mono ?_; rintro e w2 ⟨rfl, rfl⟩) | (go_at_call 161; fail))
        refine HUR.out.mono ?_
        rintro e w2 ⟨⟨v, zs, rfl, hrt, hzl, hown⟩, hbel⟩
        obtain ⟨A, c, rfl, hli⟩ := LI.of hown
        have HF := Lib.hid (HFE.out zs hrt)
        have HZ : Hid (∀ z ∈ zs, 0 ≤ z ∧ z < t) := Lib.hid (fun z hz => by obtain ⟨z1, z2, -⟩ := (hrt.2 z).1 hz; exact ⟨z1, z2⟩)
        have HL := Lib.hid hli
        have HB := Lib.hid hbel
        have HD2 := Lib.hid hd2
        clear hrt hown hli hbel hd1 hd2 HUR HRA HFE
        go_wp2
        go_loopg [54] zs.length (fun gg t54 wr => ∃ (ii : Nat), (ii ≤ zs.length ∧ zs.length - ii ≤ gg ∧ LI w.heap.size wr A c (mulI sc ii zs) ∧ Below w.heap.size w wr) ∧ t54 = .int .i64 ii)
        case atStart => exact ⟨0, ⟨Nat.zero_le _, by omega, by simpa [mulI] using HL.out, HB.out⟩, rfl⟩
        case round =>
          obtain ⟨ii, ⟨hi, hg, hli, hbel⟩, rfl⟩ := hrel
          obtain ⟨wi, rfl⟩ : ∃ wi : World, wi = wr := ⟨_, rfl⟩
          have HL2 := Lib.hid hli
          have HB2 := Lib.hid hbel
          clear hli hbel HL HB
          by_cases hlt : ii < zs.length
          · obtain ⟨b, x, rfl, EX, hcell, hb1, hb2⟩ := HL2.out.at_ (j := ii) (by rw [mulI_len]; exact hlt)
            have EX2 : Hid (zs[ii] = x) := Lib.hid (by rw [← mulI_get (s := sc) hlt (by rw [mulI_len]; exact hlt)]; exact EX.out)
            have hx := HZ.out x (by rw [← EX2.out]; exact List.getElem_mem hlt)
            obtain ⟨hx0, hx1⟩ := hx
            have hxs0 : 0 ≤ x * sc := Int.mul_nonneg hx0 (by omega)
            have hxs1 : x * sc ≤ t * sc := Int.mul_le_mul_of_nonneg_right (by omega) (by omega)
            have HLN : Hid (LI w.heap.size (wi.setCell ⟨b, ii, none⟩ (.int .i64 (x * sc))) (some ⟨b, 0, none⟩) c (mulI sc (ii + 1) zs)) := Lib.hid (by
              rw [← mulI_set hlt, EX2.out]; exact HL2.out.set (by rw [mulI_len]; exact hlt) _)
            have HBN : Hid (Below w.heap.size w (wi.setCell ⟨b, ii, none⟩ (.int .i64 (x * sc)))) := Lib.hid (HB2.out.setCell hb1 _)
            have hfz := HL2.out.frozen ii
            go_wp2
            go_roundg (zs.length - (ii + 1))
            case rel => exact ⟨ii + 1, ⟨by omega, by omega, HLN.out, HBN.out⟩, by go_num⟩
            case measure => omega
          · have hil : ii = zs.length := by omega
            subst hil
            have HLZ : Hid (LI w.heap.size wi A c (zs.map (· * sc))) := Lib.hid (by have := HL2.out; simpa [mulI] using this)
            have hd2 := HD2.out
            go_wp2
            go_ret2
            exact ⟨⟨A, c, zs.map (· * sc), t * sc, by simp, HF.out, by simp; omega, HLZ.out⟩, HB2.out⟩
end Go.Proofs.Ytcbdnnboddahkaa.He
