/-
  Decimal texts: plain mathematics. WALKS: bytes reversed in place. WALKS: the text of an integer, as the program writes it. WALKS: the text of an integer, as the program writes it. WALKS of the reference: the text of an integer. WALKS: is a text the digits of a number?
-/
import Derived.Test.YtcbdnnboddahkaaWd
import Derived.Test.YtcbdnnboddahkaaMul
import Derived.Deep.LoopGhost
import Derived.Handy
import Derived.Test.YtcbdnnboddahkaaCmp
import Derived.Test.YtcbdnnboddahkaaAddI
import Derived.Test.YtcbdnnboddahkaaRcmp
import Derived.Laws.IdiomStrings
import Derived.Test.YtcbdnnboddahkaaRd
import Derived.Laws.Strings
namespace Go.Proofs.Ytcbdnnboddahkaa.Tx
open Ws
set_option linter.unusedVariables false
/-- the text of a number with a sign -/
def txt (neg : Bool) (n : Nat) : List Nat := if n = 0 then [48] else (if neg then [45] else []) ++ ((dgs 10 n).map fun d => d + 48).reverse
/-- bytes as a string -/
def str (l : List Nat) : ByteArray := ⟨(l.map fun x => UInt8.ofNat x).toArray⟩
/-- within a group of digits: c is left of the group, m digits of it are to come, n is left of the number -/
def FIn (N : Nat) (ds : List Nat) (c m n : Nat) : Prop := (∀ d ∈ ds, d < 10) ∧ val 10 ds + 10 ^ ds.length * (c + 10 ^ m * n) = N ∧ c < 10 ^ m
theorem FIn.start {N n : Nat} {ds : List Nat} (hd : ∀ d ∈ ds, d < 10) (h : val 10 ds + 10 ^ ds.length * n = N) : FIn N ds (n % 1000000000) 9 (n / 1000000000) :=
  ⟨hd, by rw [show (10 : Nat) ^ 9 = 1000000000 from by decide, Nat.mod_add_div]; exact h, by rw [show (10 : Nat) ^ 9 = 1000000000 from by decide]; exact Nat.mod_lt _ (by decide)⟩
theorem FIn.step {N c m n : Nat} {ds : List Nat} (h : FIn N ds c (m + 1) n) : FIn N (ds ++ [c % 10]) (c / 10) m n := by
  obtain ⟨h1, h2, h3⟩ := h
  refine ⟨fun d hd => ?_, ?_, by rw [Nat.pow_succ] at h3; exact Nat.div_lt_of_lt_mul (by omega)⟩
  · rcases List.mem_append.1 hd with h | h
    · exact h1 d h
    · simp at h; omega
  · rw [val_snoc, List.length_append, List.length_singleton, Nat.pow_succ, Nat.mul_assoc, Nat.add_assoc, ← Nat.mul_add]
    rw [show c % 10 + 10 * (c / 10 + 10 ^ m * n) = c + 10 ^ (m + 1) * n from by rw [Nat.mul_add, ← Nat.add_assoc, Nat.mod_add_div, Nat.pow_succ, Nat.mul_comm (10 ^ m) 10, Nat.mul_assoc]]
    exact h2
theorem FIn.done {N c n : Nat} {ds : List Nat} (h : FIn N ds c 0 n) : (∀ d ∈ ds, d < 10) ∧ val 10 ds + 10 ^ ds.length * n = N := by
  obtain ⟨h1, h2, h3⟩ := h
  have : c = 0 := by simpa using h3
  subst this
  rw [Nat.pow_zero, Nat.one_mul, Nat.zero_add] at h2
  exact ⟨h1, h2⟩
theorem ten_len {N k L : Nat} (h1 : 10 ^ k ≤ N) (h2 : N < 4294967296 ^ L) : k < 10 * L := by
  rcases Nat.lt_or_ge k (10 * L) with h | h
  · exact h
  · have h3 : 10 ^ (10 * L) ≤ 10 ^ k := Nat.pow_le_pow_right (by decide) h
    have h4 : 4294967296 ^ L ≤ 10 ^ (10 * L) := by rw [Nat.pow_mul]; exact Nat.pow_le_pow_left (by decide) L
    omega
theorem digits_done {N : Nat} {ds : List Nat} (hd : ∀ d ∈ ds, d < 10) (h : val 10 ds = N) : trimL ds = dgs 10 N := by
  rw [← h]; exact (dgs_val 10 (by decide) ds hd).symm
theorem map_getD {ds : List Nat} {k : Nat} (hk : k < ds.length) : (ds.map fun d => d + 48).getD k 0 = ds.getD k 0 + 48 := by
  rw [List.getD_eq_getElem?_getD, List.getD_eq_getElem?_getD, List.getElem?_map, List.getElem?_eq_getElem hk]; rfl
/-- the zeros at the end are taken away -/
theorem strip_done {N k : Nat} {ds : List Nat} (hd : ∀ d ∈ ds, d < 10) (h : val 10 ds = N) (hk : k < ds.length) (h0 : ∀ j, k + 1 ≤ j → j < ds.length → ds.getD j 0 = 0) (h1 : ds.getD k 0 ≠ 0) :
    (ds.map fun d => d + 48).take (k + 1) = (dgs 10 N).map fun d => d + 48 := by
  rw [← digits_done hd h, trimL_found ds (k + 1) (by omega) h0 (.inr (by rw [Nat.add_sub_cancel]; exact h1)), List.map_take]
theorem some_digit {N k : Nat} {ds : List Nat} (h : val 10 ds = N) (hN : N ≠ 0) (hk : k ≤ ds.length) (h0 : ∀ j, k ≤ j → j < ds.length → ds.getD j 0 = 0) : 0 < k := by
  rcases Nat.eq_zero_or_pos k with h1 | h1
  · subst h1
    have := val_zero_from 10 ds 0 (by omega) h0
    simp [val] at this
    omega
  · exact h1
end Go.Proofs.Ytcbdnnboddahkaa.Tx
namespace Go.Proofs.Ytcbdnnboddahkaa.Tx
open Go.RowKit Ws
set_option linter.unusedVariables false
set_option maxRecDepth 100000
/-- the first cells of block g are the bytes xs, and none is frozen -/
def Cls (w : World) (g : Nat) (xs : List Nat) : Prop := ∀ k, k < xs.length → w.cell? ⟨g, k, none⟩ = some (.int .u8 (xs.getD k 0 : Nat)) ∧ w.frozen? ⟨g, k, none⟩ = false
theorem Cls.at_ {w : World} {g : Nat} {xs : List Nat} (h : Cls w g xs) {k : Nat} (hk : k < xs.length) : ∃ x, Hid (xs.getD k 0 = x) ∧ w.cell? ⟨g, k, none⟩ = some (.int .u8 (x : Nat)) ∧ w.frozen? ⟨g, k, none⟩ = false :=
  ⟨_, Lib.hid rfl, (h k hk).1, (h k hk).2⟩
theorem Cls.set_ {w : World} {g : Nat} {xs : List Nat} (h : Cls w g xs) {i y : Nat} (hi : i < xs.length) : Cls (w.setCell ⟨g, i, none⟩ (.int .u8 (y : Nat))) g (xs.set i y) := by
  intro k hk
  rw [List.length_set] at hk
  obtain ⟨h1, h2⟩ := h k hk
  rw [getD_set]
  by_cases e : i = k
  · subst e
    rw [if_pos ⟨rfl, hk⟩]
    exact ⟨by simp [go_sem, h1], by simpa [go_sem] using h2⟩
  · rw [if_neg (fun h => e h.1)]
    exact ⟨by rw [World.cell?_setCell_other _ _ _ _ (by intro h; injection h with _ h2; exact e h2)]; exact h1, by simpa [go_sem] using h2⟩
theorem Cls.drewN {w : World} {g : Nat} {xs : List Nat} (h : Cls w g xs) (n : Nat) : Cls (w.drewN n) g xs := h
def RvI (xs ys : List Nat) (i : Nat) : Prop := ys.length = xs.length ∧ ∀ k, k < xs.length → ys.getD k 0 = if i ≤ k ∧ k + i < xs.length then xs.getD k 0 else xs.getD (xs.length - 1 - k) 0
theorem RvI.start (xs : List Nat) : RvI xs xs 0 := ⟨rfl, fun k hk => by rw [if_pos ⟨by omega, by omega⟩]⟩
theorem RvI.step {xs ys : List Nat} {i j : Nat} (h : RvI xs ys i) (hij : i < j) (hj : j + i + 1 = xs.length) {a b : Nat} (ha : ys.getD i 0 = a) (hb : ys.getD j 0 = b) : RvI xs ((ys.set i b).set j a) (i + 1) := by
  obtain ⟨h1, h2⟩ := h
  refine ⟨by simpa using h1, fun k hk => ?_⟩
  rw [getD_set, getD_set, List.length_set]
  have e1 := h2 i (by omega)
  have e2 := h2 j (by omega)
  rw [if_pos ⟨by omega, by omega⟩] at e1 e2
  by_cases k1 : j = k
  · subst k1
    rw [if_pos ⟨rfl, by omega⟩, if_neg (by omega), ← ha, e1, show xs.length - 1 - j = i from by omega]
  · rw [if_neg (fun h => k1 h.1)]
    by_cases k2 : i = k
    · subst k2
      rw [if_pos ⟨rfl, by omega⟩, if_neg (by omega), ← hb, e2, show xs.length - 1 - i = j from by omega]
    · rw [if_neg (fun h => k2 h.1), h2 k hk]
      by_cases k3 : i ≤ k ∧ k + i < xs.length
      · rw [if_pos k3, if_pos ⟨by omega, by omega⟩]
      · rw [if_neg k3, if_neg (by omega)]
theorem RvI.done {xs ys : List Nat} {i : Nat} (h : RvI xs ys i) (hi : xs.length ≤ 2 * i + 1) : ys = xs.reverse := by
  obtain ⟨h1, h2⟩ := h
  refine ext_getD _ _ (by simp [h1]) fun k hk => ?_
  rw [h2 k (by omega)]
  have e : xs.reverse.getD k 0 = xs.getD (xs.length - 1 - k) 0 := by
    rw [List.getD_eq_getElem?_getD, List.getD_eq_getElem?_getD, List.getElem?_reverse (by omega)]
  rw [e]
  split
  · rw [show xs.length - 1 - k = k from by omega]
  · rfl
set_option maxHeartbeats 1000000 in
theorem rev_any (g c : Nat) (xs : List Nat) (w : World) (h : Cls w g xs) (hc : xs.length ≤ c) (hcm : c ≤ 9223372036854775807) :
    Calls Try.prog 110 #[.slice (some ⟨g, 0, none⟩) xs.length c] w fun e w' => e = .returned (.tuple #[]) ∧ Cls w' g xs.reverse ∧ Below g w w' := by
  have H := Lib.hid h
  clear h
  go_enter Try.func110, Try.ntmps110
  go_wp2
  go_loopg [2, 3] xs.length (fun gg t2 t3 wr => ∃ (i : Nat) (ys : List Nat), (xs.length - i ≤ gg ∧ 2 * i ≤ xs.length + 1 ∧ RvI xs ys i ∧ Cls wr g ys ∧ Below g w wr) ∧ t2 = .int .i64 i ∧ t3 = .int .i64 ((xs.length : Int) - 1 - i))
  case atStart => exact ⟨0, xs, ⟨by omega, by omega, RvI.start xs, H.out, Below.refl _ _⟩, rfl, by go_num⟩
  case round =>
    obtain ⟨i, ys, ⟨hg, hi, hrv, hcl, hbel⟩, rfl, rfl⟩ := hrel
    have hyl := hrv.1
    have HR := Lib.hid hrv
    have HC := Lib.hid hcl
    have HB := Lib.hid hbel
    have HYL := Lib.hid hyl
    clear hrv hcl hbel hyl
    by_cases hlt : 2 * i + 1 < xs.length
    · obtain ⟨j, hj⟩ : ∃ j, j + i + 1 = xs.length := ⟨xs.length - 1 - i, by omega⟩
      have ej : (xs.length : Int) - 1 - i = (j : Int) := by omega
      rw [ej]
      obtain ⟨a, EA, ca, fa⟩ := HC.out.at_ (k := i) (by have := HYL.out; omega)
      obtain ⟨b, EB, cb, fb⟩ := HC.out.at_ (k := j) (by have := HYL.out; omega)
      have HN := Lib.hid (HR.out.step (by omega) hj EA.out EB.out)
      have HS := Lib.hid ((HC.out.set_ (i := i) (y := b) (by have := HYL.out; omega)).set_ (i := j) (y := a) (by have := HYL.out; simp; omega))
      clear ej
      go_wp2_with fail
      go_region
      go_wp2
      go_roundg (xs.length - (i + 1))
      case rel => exact ⟨i + 1, _, ⟨by omega, by omega, HN.out, HS.out.drewN 1, below_drawn ((HB.out.setCell (p := ⟨g, i, none⟩) (Nat.le_refl _) _).setCell (p := ⟨g, j, none⟩) (Nat.le_refl _) _) 1⟩, by go_num, congrArg (Value.int .i64) (by omega)⟩
      case measure => omega
    · have HD := Lib.hid (HR.out.done (by omega))
      go_wp2
      go_end0
      exact ⟨rfl, by rw [← HD.out]; exact HC.out, HB.out⟩
end Go.Proofs.Ytcbdnnboddahkaa.Tx
namespace Go.Proofs.Ytcbdnnboddahkaa.Tx
open Go.RowKit Ws
set_option linter.unusedVariables false
set_option maxRecDepth 100000
theorem infoB : (Try.prog.info? 5).map (fun i => (i.zero, i.size, i.bytes)) = some (some (.int .u8 0), 1, 1) := by kernel_rfl
/-- the quotient lies in a new array -/
def DbOut (N d : Nat) (w : World) (e : Ending) (w' : World) : Prop := ∃ (qs : List Nat) (c : Nat), e = .returned (.tuple #[.slice (some ⟨w.heap.size, 0, none⟩) (W (N / d)).length c, .int .u32 (N % d : Nat)]) ∧ Ar w' w.heap.size .u32 113 qs ∧ (∀ q ∈ qs, q < 4294967296) ∧ val 4294967296 qs = N / d ∧ qs.length = c ∧ c ≤ 4294967296 ∧ Below w.heap.size w w'
set_option maxHeartbeats 1000000 in
theorem dbw_new (A : Option Addr) (c : Nat) (N : Nat) (d : Nat) (w : World) (hx : Sl w .u32 A c (W N)) (hlx : (W N).length ≤ 4294967296) (hd0 : 1 ≤ d) (hd : d < 4294967296) :
    Calls Try.prog 109 #[.slice A (W N).length c, .int .u32 d] w fun e w' => DbOut N d w e w' := by
  have hmk := makeW (W N).length (by omega) (W N).length (by omega)
  have bx := W_lt N
  obtain ⟨xs, hxs⟩ : ∃ xs, W N = xs := ⟨_, rfl⟩
  have hval : val 4294967296 xs = N := by rw [← hxs, val_W]
  rw [hxs] at hx hlx bx hmk ⊢
  obtain ⟨hrx, hcx, hmx, _⟩ := hx
  have HX := Lib.hid hrx
  have BX := Lib.hid bx
  have HV := Lib.hid hval
  clear hrx bx hxs hval
  go_enter Try.func109, Try.ntmps109
  go_wp2
  go_loopw [7, 8, 9] (fun t7 t8 _ wr => ∃ (k r : Nat) (qs : List Nat), (DivInv d xs qs k r ∧ k ≤ xs.length ∧ Ar wr w.heap.size .u32 113 qs ∧ Below w.heap.size w wr) ∧ t7 = .int .u64 r ∧ t8 = .int .i64 ((k : Int) - 1)) (fun _ t8 _ _ => (intOf t8 + 1).toNat)
  case atStart => exact ⟨xs.length, 0, _, ⟨DivInv.start xs hd0, Nat.le_refl _, Ar.new' _ _ _ _, (Below.refl _ _).alloc (Nat.le_refl _) _⟩, rfl, rfl⟩
  case round =>
    obtain ⟨k, r, qs, ⟨hinv, hk, har, hbel⟩, rfl, rfl⟩ := hrel
    have hrd := hinv.2.2.1
    have HI := Lib.hid hinv
    have HA := Lib.hid har
    have HB := Lib.hid hbel
    clear hinv har hbel
    by_cases h0 : k = 0
    · subst h0
      have hd2 := HI.out.done
      have HD := Lib.hid hd2.1
      have HM := Lib.hid hd2.2
      have HL := Lib.hid HI.out.2.1
      have hrm : r % 4294967296 = r := Nat.mod_eq_of_lt (by omega)
      clear hd2
      go_wp2_with fail
      refine (trim_ar w.heap.size xs.length 113 qs _ _ (by exact HA.out) (by exact HL.out) (by omega) HI.out.1 HD.out).mono ?_
      rintro e w1 ⟨rfl, hs, rfl⟩
      clear hs
      go_wp2
      go_ret2
      exact ⟨qs, xs.length, by rw [← HM.out, HV.out]; rfl, HA.out, HI.out.1, by rw [HD.out, HV.out], HL.out, hlx, HB.out⟩
    · obtain ⟨i, rfl⟩ : ∃ i, k = i + 1 := ⟨k - 1, by omega⟩
      have hlt : i < xs.length := by omega
      obtain ⟨b, o, x, rfl, EX, hcell, hb⟩ := (HX.out.below HB.out).at_ hlt
      have hxb : x < 4294967296 := by rw [← EX.out]; exact getD_lt BX.out (by decide) i
      obtain ⟨z, EZ, hz⟩ := HA.out.cell' (j := i) (by have := HI.out.2.1; omega)
      have hfz := HA.out.frozen i
      have HN := Lib.hid (HI.out.step hlt EX.out hxb hd)
      obtain ⟨k1, k2⟩ := div_step (B := 4294967296) (by decide) hrd hxb (by omega)
      have hor := or_word r x (by omega) hxb
      have ed : ((r : Int) * 4294967296 + x) / d = (((r * 4294967296 + x) / d : Nat) : Int) := by rw [Int.natCast_ediv]; congr 1
      have em : ((r : Int) * 4294967296 + x) % d = (((r * 4294967296 + x) % d : Nat) : Int) := by rw [Int.natCast_emod]; congr 1
      have n1 : 0 ≤ ((r : Int) * 4294967296 + x) / d := by rw [ed]; exact Int.natCast_nonneg _
      have n2 : ((r : Int) * 4294967296 + x) / d < 4294967296 := by rw [ed]; exact Int.ofNat_lt.2 k1
      have n3 : 0 ≤ ((r : Int) * 4294967296 + x) % d := by rw [em]; exact Int.natCast_nonneg _
      have n4 : ((r : Int) * 4294967296 + x) % d < 4294967296 := by rw [em]; exact Int.ofNat_lt.2 (Nat.lt_trans k2 hd)
      have ED := Lib.hid ed
      have EM := Lib.hid em
      clear h0 ed em k1 k2
      go_wp2
      go_roundw
      case rel => exact ⟨i, (r * 4294967296 + x) % d, qs.set i ((r * 4294967296 + x) / d), ⟨HN.out, by omega, HA.out.seti (by exact ED.out), HB.out.setCell (Nat.le_refl _) _⟩, congrArg (Value.int .u64) EM.out, by go_num⟩
      case measure => simp [intOf]
/-- a text under way: bytes in an array of the call's own -/
def Own (w : World) (base : Nat) (v : Value) (es : List Nat) : Prop := w.ownsRow base 5 1 v es.length (vals .u8 es)
theorem Own.below {w w' : World} {base : Nat} {v : Value} {es : List Nat} (h : Own w base v es) (hb : Below w.heap.size w w') : Own w' base v es := by
  refine ⟨h.1, ?_⟩
  rcases h.2 with hn | ⟨g, cap, cur, hv, hbg, hg, rest⟩
  · exact .inl hn
  · have hlt : g < w.heap.size := by
      rcases Nat.lt_or_ge g w.heap.size with h1 | h1
      · exact h1
      · rw [Array.getElem?_eq_none h1] at hg; cases hg
    exact .inr ⟨g, cap, cur, hv, hbg, (hb.block g hlt).trans hg, rest⟩
theorem Own.ne {w : World} {base g : Nat} {v : Value} {es qs : List Nat} (h : Own w base v es) (ha : Ar w g .u32 113 qs) : some g ≠ v.ownBlock := by
  rcases h.2 with ⟨rfl, _⟩ | ⟨g', cap, cur, rfl, hbg, hg, rest⟩
  · simp [Value.ownBlock]
  · intro e
    simp [Value.ownBlock] at e
    subst e
    unfold Ar at ha
    rw [hg] at ha
    simp at ha
theorem Own.slice {w : World} {base : Nat} {v : Value} {es : List Nat} (h : Own w base v es) (h0 : 0 < es.length) : ∃ g cap, v = .slice (some ⟨g, 0, none⟩) es.length cap ∧ base ≤ g ∧ es.length ≤ cap ∧ cap ≤ 9223372036854775807 ∧ Cls w g es ∧ (∀ k, k ≤ es.length → Own w base (.slice (some ⟨g, 0, none⟩) k cap) (es.take k)) := by
  rcases h.2 with ⟨_, hn⟩ | ⟨g, cap, cur, rfl, hbg, hg, h1, h2, h3, h4⟩
  · omega
  · refine ⟨g, cap, rfl, hbg, h1, by unfold maxLen at h2; omega, fun k hk => ?_, fun k hk => ?_⟩
    · have hc := World.ownsRow.cellAt (w := w) (base := base) (e := 5) (g := g) (n := es.length) (cap := cap) (xs := vals .u8 es) ⟨h.1, .inr ⟨g, cap, cur, rfl, hbg, hg, h1, h2, h3, h4⟩⟩ k (by omega)
      refine ⟨?_, by simp [World.frozen?, hg]⟩
      rw [hc]
      simp [vals, List.getD_eq_getElem?_getD, hk]
    · have e : (es.take k).length = k := by simp; omega
      unfold Own
      rw [e]
      refine ⟨by simp [vals]; omega, .inr ⟨g, cap, cur, rfl, hbg, hg, by omega, h2, h3, ?_⟩⟩
      rw [Nat.mul_one] at h4 ⊢
      have : vals .u8 (es.take k) = (vals .u8 es).take k := by simp [vals, List.map_take]
      rw [this, ← h4, List.take_take, Nat.min_eq_left hk]
end Go.Proofs.Ytcbdnnboddahkaa.Tx
namespace Go.Proofs.Ytcbdnnboddahkaa.Tx
open Go.RowKit Ws
set_option linter.unusedVariables false
set_option maxRecDepth 100000
theorem str_conv (w : World) (g cap n : Nat) (es : List Nat) (h : Cls w g es) (hb : ∀ e ∈ es, e < 256) (hn : es.length = n) :
    (convert 128 9 (.slice (some ⟨g, 0, none⟩) n cap)).run Try.prog w = .ok (.string (str es)) w := by
  subst hn
  have h1 := run_convert_bytes_back (P := Try.prog) w 128 9 5 ⟨g, 0, none⟩ cap (es.map fun x => UInt8.ofNat x) Try.underlying128 Try.underlying5 Try.underlying9 (fun j hj => by
    have hj' : j < es.length := by simpa using hj
    rw [add_lit', Nat.zero_add, (h j hj').1]
    have hlt := hb es[j] (List.getElem_mem hj')
    simp [List.getD_eq_getElem?_getD, hj']
    omega)
  rw [List.length_map] at h1
  exact h1
def FmtOut (neg : Bool) (N : Nat) (w : World) (e : Ending) (w' : World) : Prop := e = .returned (.string (str (txt neg N))) ∧ Below w.heap.size w w'
theorem txt_lt (neg : Bool) (N : Nat) : ∀ e ∈ txt neg N, e < 256 := by
  intro e he
  unfold txt at he
  split at he
  · simp at he; omega
  · rcases List.mem_append.1 he with h | h
    · cases neg <;> simp at h; omega
    · obtain ⟨d, hd, rfl⟩ := List.mem_map.1 (List.mem_reverse.1 h)
      have := dgs_lt 10 (by decide) N d hd; omega
theorem rev_n (g c n : Nat) (xs : List Nat) (w : World) (h : Cls w g xs) (hn : xs.length = n) (hc : n ≤ c) (hcm : c ≤ 9223372036854775807) :
    Calls Try.prog 110 #[.slice (some ⟨g, 0, none⟩) n c] w fun e w' => e = .returned (.tuple #[]) ∧ Cls w' g xs.reverse ∧ Below g w w' := by
  subst hn; exact rev_any g c xs w h hc hcm
theorem txt_pos {N : Nat} (h : N ≠ 0) : ((dgs 10 N).map fun d => d + 48).reverse = txt false N := by unfold txt; rw [if_neg h]; rfl
theorem txt_neg {N : Nat} (h : N ≠ 0) : (((dgs 10 N).map fun d => d + 48) ++ [45]).reverse = txt true N := by unfold txt; rw [if_neg h]; simp
theorem Own.alloc {w : World} {base : Nat} {v : Value} {es : List Nat} (h : Own w base v es) (o : Obj) : Own (w.alloc o) base v es := World.ownsRow.alloc h o
set_option maxHeartbeats 2000000 in
theorem format_any (neg : Bool) (A : Option Addr) (c : Nat) (xs : List Nat) (w : World) (h : IntIn w neg A c xs) :
    Calls Try.prog 42 #[.agg #[.bool neg, .slice A xs.length c]] w fun e w' => FmtOut neg (iv neg xs).natAbs w e w' := by
  obtain ⟨i0, hi, hz0, hz1, hz2⟩ := info_parts infoB
  have hB : Below w.heap.size w (w.alloc (Obj.cells #[Value.bool neg, Value.slice A xs.length c] 24)) := by go_grown
  have hC : Cl (w.alloc (Obj.cells #[Value.bool neg, Value.slice A xs.length c] 24)) w.heap.size neg A xs.length c :=
    ⟨by simp [go_sem], by simp [go_sem], by simp [go_sem], by simp [go_sem]⟩
  have hZ : (w.alloc (Obj.cells #[Value.bool neg, Value.slice A xs.length c] 24)).heap.size = w.heap.size + 1 := by simp
  have hlen := h.len
  have hwl := h.wlen
  have H := Lib.hid h
  have HB := Lib.hid hB
  have HC := Lib.hid hC
  have HZ := Lib.hid hZ
  clear h hB hC hZ
  obtain ⟨N, hN⟩ : ∃ N, (iv neg xs).natAbs = N := ⟨_, rfl⟩
  have HN := Lib.hid hN
  by_cases h0 : N = 0
  · have hl0 : (((W N).length : Int) == 0) = true := by rw [h0]; rfl
    have HT : Hid (txt neg N = [48]) := Lib.hid (by unfold txt; rw [if_pos h0])
    go_enter Try.func42, Try.ntmps42
    go_wp2_with fail
    generalize (w.alloc (Obj.cells #[Value.bool neg, Value.slice A xs.length c] 24)) = W0 at *
    obtain ⟨x0, x1, -, -⟩ := HC.out
    go_wp2_with fail
    refine (trim_in (w0 := w) H.out HB.out).mono ?_
    rw [hN]
    rintro e w1 ⟨rfl, -, rfl⟩
    clear h0
    go_wp2
    go_ret
    exact ⟨by rw [HN.out, HT.out]; rfl, HB.out⟩
  · have hl0 : (((W N).length : Int) == 0) = false := by
      have : (W N).length ≠ 0 := fun h => h0 (W_nil.1 (List.eq_nil_of_length_eq_zero h))
      rw [beq_eq_false_iff_ne]; omega
    have hwN : (W N).length ≤ 1000000 := by rw [← hN]; omega
    have H0 := Lib.hid h0
    go_enter Try.func42, Try.ntmps42
    go_wp2_with fail
    generalize (w.alloc (Obj.cells #[Value.bool neg, Value.slice A xs.length c] 24)) = W0 at *
    obtain ⟨x0, x1, -, -⟩ := HC.out
    go_wp2_with fail
    refine (trim_in (w0 := w) H.out HB.out).mono ?_
    rw [hN]
    rintro e w1 ⟨rfl, hs1, rfl⟩
    have hca := hs1.le
    have hcam := hs1.max
    have HS1 := Lib.hid hs1
    clear hs1 h0 hN
    go_wp2
    go_loopg [3, 4, 5, 20] N (fun n t3 t4 _ _ wr => ∃ (A1 : Option Addr) (c1 : Nat) (ds : List Nat), (((∀ d ∈ ds, d < 10) ∧ val 10 ds + 10 ^ ds.length * n = N) ∧ (W n).length ≤ 1000000 ∧ ds.length ≤ 10 * (W N).length + 9 ∧ Sl wr .u32 A1 c1 (W n) ∧ Own wr (w.heap.size + 1) t4 (ds.map fun d => d + 48) ∧ Below (w.heap.size + 1) W0 wr) ∧ t3 = .slice A1 (W n).length c1)
    case atStart => exact ⟨A, c, [], ⟨⟨fun d hd => by simp at hd, by simp [val]⟩, hwN, by simp, HS1.out, World.ownsRow_nil _ _ _ _, Below.refl _ _⟩, rfl⟩
    case round =>
      obtain ⟨A1, c1, ds, ⟨⟨hd10, hdv⟩, hwn, hdl, hsl, hown, hbel⟩, rfl⟩ := hrel
      obtain ⟨wo, rfl⟩ : ∃ wo : World, wo = wr := ⟨_, rfl⟩
      obtain ⟨n0, rfl⟩ : ∃ n0 : Nat, n0 = gk := ⟨_, rfl⟩
      have hc1 := hsl.le
      have hc1m := hsl.max
      have HD10 := Lib.hid hd10
      have HDV := Lib.hid hdv
      have HSL := Lib.hid hsl
      have HO := Lib.hid hown
      have HBW := Lib.hid hbel
      clear hd10 hdv hsl hown hbel
      by_cases hn0 : n0 = 0
      · subst hn0
        have hv : val 10 ds = N := by have := HDV.out; simpa using this
        have hds : 0 < ds.length := by
          rcases Nat.eq_zero_or_pos ds.length with h | h
          · rw [List.eq_nil_of_length_eq_zero h] at hv; exact absurd hv.symm H0.out
          · exact h
        obtain ⟨g, cap, hv4, hbg, hle, hcm, hcl, htk⟩ := Own.slice HO.out (by simpa using hds)
        rw [List.length_map] at hle
        subst hv4
        have HV := Lib.hid hv
        have HCL := Lib.hid hcl
        have HTK := Lib.hid htk
        have hsz := HBW.out.size
        have hz0' := HZ.out
        obtain ⟨y0, y1, -, -⟩ := HC.out.below HBW.out (by omega)
        have hlm : (ds.map fun d => d + 48).length = ds.length := by simp
        rw [hlm]
        clear hv hcl htk HDV HO HSL hlm x0 x1
        go_wp2
        go_loopg [4] ds.length (fun k t4 wr => ((k ≤ ds.length ∧ ∀ j, k ≤ j → j < ds.length → ds.getD j 0 = 0) ∧ wr = wo) ∧ t4 = .slice (some ⟨g, 0, none⟩) k cap)
        case atStart => exact ⟨⟨⟨Nat.le_refl _, fun j h1 h2 => by omega⟩, rfl⟩, rfl⟩
        case round =>
          obtain ⟨⟨⟨hk, hz⟩, hwr⟩, rfl⟩ := hrel
          subst hwr
          have hkp : 0 < gk := some_digit HV.out H0.out hk hz
          obtain ⟨m, rfl⟩ : ∃ m, gk = m + 1 := ⟨gk - 1, by omega⟩
          obtain ⟨x, EX, hcx, hfx⟩ := HCL.out.at_ (k := m) (by simp; omega)
          have hxe : x = ds.getD m 0 + 48 := by rw [← EX.out, map_getD (by omega)]
          have HZS := Lib.hid hz
          clear hz hkp
          by_cases hd0 : ds.getD m 0 = 0
          · have hx48 : x = 48 := by omega
            subst hx48
            have HZN : Hid (∀ j, m ≤ j → j < ds.length → ds.getD j 0 = 0) := Lib.hid (fun j h1 h2 => by
              rcases Nat.lt_or_ge m j with h | h
              · exact HZS.out j (by omega) h2
              · have : j = m := by omega
                subst this; exact hd0)
            clear hd0 hxe EX
            go_wp2
            go_roundg m
            case rel => exact ⟨⟨⟨by omega, HZN.out⟩, rfl⟩, rfl⟩
            case measure => omega
          · have hx48 : ((x : Int) == 48) = false := by rw [beq_eq_false_iff_ne]; omega
            have hsd := strip_done HD10.out HV.out (by omega) HZS.out hd0
            have HSD := Lib.hid hsd
            have hln : ((dgs 10 N).map fun d => d + 48).length = m + 1 := by rw [← hsd]; simp; omega
            have hlt9 : ∀ e ∈ (dgs 10 N).map (fun d => d + 48), e < 256 := by
              intro e he
              obtain ⟨d, hd, rfl⟩ := List.mem_map.1 he
              have := dgs_lt 10 (by decide) N d hd; omega
            have hown := HTK.out (m + 1) (by simp; omega)
            rw [hsd] at hown
            have HOW := Lib.hid hown
            have HLN := Lib.hid hln
            have HLT := Lib.hid hlt9
            clear hsd hd0 hxe EX hln hlt9 hown HTK HCL HD10 HV HZS
            have hNz := H0.out
            cases neg
            · obtain ⟨g', cap', hv', hbg', hle', hcm', hcl', -⟩ := Own.slice HOW.out (by rw [HLN.out]; omega)
              rw [HLN.out] at hv' hle'
              injection hv' with hv1 hv2 hv3
              injection hv1 with hv1
              injection hv1 with hv1 hv4
              subst hv1 hv3
              have HCL' := Lib.hid hcl'
              clear hcl' hbg'
              go_wp2_with fail
              refine (rev_n g cap (m + 1) _ _ HCL'.out HLN.out (by omega) (by omega)).mono ?_
              rw [txt_pos hNz]
              rintro e w5 ⟨rfl, hcl5, hb5⟩
              have hl5 : (txt false N).length = m + 1 := by rw [← txt_pos hNz, List.length_reverse, HLN.out]
              have hcv := str_conv w5 g cap (m + 1) _ hcl5 (txt_lt false N) hl5
              have HB5 := Lib.hid (HB.out.trans ((HBW.out.mono (by omega)).trans (hb5.mono (by omega))))
              clear hcl5 hb5 hl5
              go_wp2
              go_ret
              exact ⟨by rw [HN.out]; rfl, HB5.out⟩
            · go_wp2_with (at_builtin; refine wpList_append_own _ rfl _ _ 128 rfl (w.heap.size + 1) 5 i0 (.int .u8 0) 1 1 Try.underlying128 hi hz0 hz1 hz2 rfl (by decide) _ _ _ rfl (World.ownsRow.alloc HOW.out _) ⟨wr.heap.size, 0, none⟩ 1 1 [.int .u8 45] rfl rfl (new_one _ _ _ _ rfl) (by intro u hu; simp at hu; subst hu; rfl) (by unfold maxLen; rw [HLN.out]; omega) (by rw [HLN.out]; omega) (by simp; omega) ?_)
              intro v2 w4 hown2 hgrow2 _
              have hown4 : Own w4 (w.heap.size + 1) v2 (((dgs 10 N).map fun d => d + 48) ++ [45]) := by
                unfold Own
                rw [vals_append, show List.length (((dgs 10 N).map fun d => d + 48) ++ [45]) = (dgs 10 N).length + 1 from by simp]
                exact hown2
              have hbel4 : Below (w.heap.size + 1) W0 w4 := (HBW.out.alloc (by omega) _).grown hgrow2 (by simp; omega) (fun j hj => (World.ownsRow.lt HOW.out j hj).1)
              have hl2 : (((dgs 10 N).map fun d => d + 48) ++ [45]).length = m + 2 := by rw [List.length_append, HLN.out]; rfl
              obtain ⟨g', cap', hv', hbg', hle', hcm', hcl', -⟩ := Own.slice hown4 (by rw [hl2]; omega)
              subst hv'
              rw [hl2] at hle' ⊢
              have HCL' := Lib.hid hcl'
              have HB4 := Lib.hid hbel4
              have HL2 := Lib.hid hl2
              have hsz4 := hbel4.size
              clear hcl' hown2 hgrow2 hown4 hbel4 hl2 y0 y1
              go_wp2_with fail
              refine (rev_n g' cap' (m + 2) _ _ HCL'.out HL2.out (by omega) (by omega)).mono ?_
              rw [txt_neg hNz]
              rintro e w5 ⟨rfl, hcl5, hb5⟩
              have hl5 : (txt true N).length = m + 2 := by rw [← txt_neg hNz, List.length_reverse, HL2.out]
              have hcv := str_conv w5 g' cap' (m + 2) _ hcl5 (txt_lt true N) hl5
              have HB5 := Lib.hid (HB.out.trans ((HB4.out.mono (by omega)).trans (hb5.mono (by omega))))
              clear hcl5 hb5 hl5
              go_wp2
              go_ret
              exact ⟨by rw [HN.out]; rfl, HB5.out⟩
      · have hgt : decide (0 < (W n0).length) = true := by
          have : (W n0).length ≠ 0 := fun h => hn0 (W_nil.1 (List.eq_nil_of_length_eq_zero h))
          rw [decide_eq_true_iff]; omega
        have hdl2 : ds.length < 10 * (W N).length := by
          refine ten_len ?_ (dgs_length_lt 4294967296 (by decide) N)
          have := HDV.out
          have h2 : 10 ^ ds.length * 1 ≤ 10 ^ ds.length * n0 := Nat.mul_le_mul_left _ (by omega)
          omega
        have HST := Lib.hid (FIn.start HD10.out HDV.out)
        have hw2 : (W (n0 / 1000000000)).length ≤ 1000000 := Nat.le_trans (W_len_mono (Nat.div_le_self _ _)) hwn
        have hmd : n0 % 1000000000 < 1000000000 := Nat.mod_lt _ (by decide)
        go_wp2_with fail
        refine (dbw_new A1 c1 n0 1000000000 _ HSL.out (by omega) (by omega) (by omega)).mono ?_
        rintro e w2 ⟨qs, cq, rfl, haq, hqb, hqv, hql, hcq, hb2⟩
        have HAQ := Lib.hid haq
        have HQB := Lib.hid hqb
        have HQV := Lib.hid hqv
        have HQL := Lib.hid hql
        have HO2 := Lib.hid (HO.out.below hb2)
        have hs0 := HBW.out.size
        have HB2 := Lib.hid (HBW.out.trans (hb2.mono (by have := HZ.out; omega)))
        clear haq hqb hqv hql hb2 HSL HO HBW
        generalize wo.heap.size = g at *
        go_wp2
        go_loopg [4, 5, 20] 9 (fun m t4 t5 t20 wi => ∃ (es : List Nat) (ch : Nat), (FIn N es ch m (n0 / 1000000000) ∧ ch < 4294967296 ∧ m ≤ 9 ∧ es.length + m ≤ 10 * (W N).length + 8 ∧ Ar wi g .u32 113 qs ∧ Own wi (w.heap.size + 1) t4 (es.map fun d => d + 48) ∧ Below (w.heap.size + 1) W0 wi) ∧ t5 = .int .u32 ch ∧ t20 = .int .i64 (9 - (m : Int)))
        case atStart => exact ⟨ds, _, ⟨HST.out, by omega, Nat.le_refl _, by omega, HAQ.out, HO2.out, HB2.out⟩, rfl, rfl⟩
        case round =>
          obtain ⟨es, ch, ⟨hfi, hch, hm, hel, har, hown, hbel⟩, rfl, rfl⟩ := hrel
          obtain ⟨wi, rfl⟩ : ∃ wi : World, wi = wr := ⟨_, rfl⟩
          have HFI := Lib.hid hfi
          have HAR := Lib.hid har
          have HO3 := Lib.hid hown
          have HB3 := Lib.hid hbel
          clear hfi har hown hbel HAQ HO2 HB2 HST
          by_cases hm0 : gk = 0
          · subst hm0
            have hdn := HFI.out.done
            have HDN := Lib.hid hdn
            have hst := HAR.out.trimmed (by have := HQL.out; omega) HQB.out HQV.out
            have hsl := hst.1
            rw [HQL.out] at hsl
            have HSL3 := Lib.hid hsl
            clear hdn hst hsl
            go_wp2
            go_roundg (n0 / 1000000000)
            case rel => exact ⟨some ⟨g, 0, none⟩, cq, es, ⟨HDN.out, hw2, by omega, HSL3.out, HO3.out, HB3.out⟩, rfl⟩
            case measure => omega
          · obtain ⟨m, rfl⟩ : ∃ m, gk = m + 1 := ⟨gk - 1, by omega⟩
            have HN2 := Lib.hid HFI.out.step
            have hsz := HB3.out.size
            have hz0' := HZ.out
            have hmod10 : ch % 10 < 10 := Nat.mod_lt _ (by decide)
            clear hm0 HFI
            go_wp2_with (at_builtin; refine wpList_append_own _ rfl _ _ 128 rfl (w.heap.size + 1) 5 i0 (.int .u8 0) 1 1 Try.underlying128 hi hz0 hz1 hz2 rfl (by decide) _ _ _ rfl (World.ownsRow.alloc HO3.out _) ⟨wi.heap.size, 0, none⟩ 1 1 [.int .u8 (48 + (ch : Int) % 10)] rfl rfl (new_one _ _ _ _ rfl) (by intro u hu; simp at hu; subst hu; rfl) (by unfold maxLen; simp; omega) (by simp; omega) (by simp; omega) ?_)
            intro v2 w4 hown2 hgrow2 _
            have hown4 : Own w4 (w.heap.size + 1) v2 ((es ++ [ch % 10]).map fun d => d + 48) := by
              unfold Own
              rw [List.map_append, vals_append, show (List.length ((es.map fun d => d + 48) ++ ([ch % 10].map fun d => d + 48))) = es.length + 1 from by simp]
              have e0 : vals .u8 ([ch % 10].map fun d => d + 48) = [.int .u8 (48 + (ch : Int) % 10)] := by simp [vals]; omega
              rw [e0]; exact hown2
            have har4 : Ar w4 g .u32 113 qs := (HAR.out.alloc _).grown hgrow2 (Own.ne HO3.out HAR.out)
            have hbel4 : Below (w.heap.size + 1) W0 w4 := (HB3.out.alloc (by omega) _).grown hgrow2 (by simp; omega) (fun j hj => (World.ownsRow.lt HO3.out j hj).1)
            have HO4 := Lib.hid hown4
            have HAR4 := Lib.hid har4
            have HB4 := Lib.hid hbel4
            clear hown2 hgrow2 hown4 har4 hbel4
            go_wp2
            go_roundg m
            case rel => exact ⟨es ++ [ch % 10], ch / 10, ⟨HN2.out, by omega, by omega, by simp; omega, HAR4.out, HO4.out, HB4.out⟩, congrArg (Value.int .u32) (by omega), congrArg (Value.int .i64) (by omega)⟩
            case measure => omega
end Go.Proofs.Ytcbdnnboddahkaa.Tx
namespace Go.Proofs.Ytcbdnnboddahkaa.Tx
open Go.RowKit Ws
set_option linter.unusedVariables false
set_option maxRecDepth 100000
theorem D_ten : D 10 = [10] := by unfold D; rw [dgs_pos 65536 10 (by decide) (by decide)]; rfl
theorem D_small {d : Nat} (h : d ≠ 0) (h2 : d < 65536) : D d = [d] := by
  unfold D
  rw [dgs_pos 65536 d (by decide) h, Nat.mod_eq_of_lt h2, Nat.div_eq_of_lt h2]; rfl
theorem rdiv_ten (X : Option Addr) (cx a g : Nat) (w : World) (hx : Sl w .i64 X cx (D a)) (hy : Sl w .i64 (some ⟨g, 0, none⟩) 1 [10]) (hla : (D a).length ≤ 3000000) :
    Calls Try.prog 106 #[.slice X (D a).length cx, .slice (some ⟨g, 0, none⟩) 1 1] w fun e w' => QrD a 10 w e w' := by
  have h := rdiv_any X (some ⟨g, 0, none⟩) cx 1 a 10 w hx (by rw [D_ten]; exact hy) (by decide) hla (by rw [D_ten]; decide)
  rw [show (D 10).length = 1 from by rw [D_ten]; rfl] at h
  exact h
theorem dec_ex (d : Nat) (h : d < 10) : (ByteArray.mk #[48, 49, 50, 51, 52, 53, 54, 55, 56, 57]).extract d (d + 1) = str [d + 48] := by
  rcases (by omega : d = 0 ∨ d = 1 ∨ d = 2 ∨ d = 3 ∨ d = 4 ∨ d = 5 ∨ d = 6 ∨ d = 7 ∨ d = 8 ∨ d = 9) with h | h | h | h | h | h | h | h | h | h <;> subst h <;> decide +kernel
theorem str_add (x : Nat) (l : List Nat) : str [x] ++ str l = str (x :: l) := by
  unfold str
  rw [ByteArray.mk_append_mk]
  simp
theorem str_size (l : List Nat) : (str l).size = l.length := by unfold str; simp [ByteArray.size]
theorem dgs_len_le (n : Nat) : (dgs 10 n).length ≤ 5 * (D n).length := by
  refine dgs_length_le 10 (by decide) _ _ ?_
  have h1 := dgs_length_lt 65536 (by decide) n
  have h2 : (65536 : Nat) ^ (D n).length ≤ 10 ^ (5 * (D n).length) := by rw [Nat.pow_mul]; exact Nat.pow_le_pow_left (by decide) _
  exact Nat.lt_of_lt_of_le h1 h2
set_option maxHeartbeats 2000000 in
theorem rformat_any (neg : Bool) (A : Option Addr) (c : Nat) (xs : List Nat) (w : World) (h : IntIn w neg A c xs) :
    Calls Try.prog 43 #[.agg #[.bool neg, .slice A xs.length c]] w fun e w' => FmtOut neg (iv neg xs).natAbs w e w' := by
  have hB : Below w.heap.size w (w.alloc (Obj.cells #[Value.bool neg, Value.slice A xs.length c] 24)) := by go_grown
  have hC : Cl (w.alloc (Obj.cells #[Value.bool neg, Value.slice A xs.length c] 24)) w.heap.size neg A xs.length c :=
    ⟨by simp [go_sem], by simp [go_sem], by simp [go_sem], by simp [go_sem]⟩
  have hZ : (w.alloc (Obj.cells #[Value.bool neg, Value.slice A xs.length c] 24)).heap.size = w.heap.size + 1 := by simp
  have hdl := h.dlen
  have H := Lib.hid h
  have HB := Lib.hid hB
  have HC := Lib.hid hC
  have HZ := Lib.hid hZ
  clear h hB hC hZ
  obtain ⟨N, hN⟩ : ∃ N, (iv neg xs).natAbs = N := ⟨_, rfl⟩
  have HN := Lib.hid hN
  rw [hN] at hdl
  by_cases h0 : N = 0
  · have hl0 : (((D N).length : Int) == 0) = true := by rw [h0]; rfl
    have HT : Hid (txt neg N = [48]) := Lib.hid (by unfold txt; rw [if_pos h0])
    go_enter Try.func43, Try.ntmps43
    go_wp2_with fail
    generalize (w.alloc (Obj.cells #[Value.bool neg, Value.slice A xs.length c] 24)) = W0 at *
    obtain ⟨x0, x1, -, -⟩ := HC.out
    go_wp2_with fail
    refine (rdigits_any neg A c xs _ (H.out.below HB.out)).mono ?_
    rw [hN]
    rintro e w1 ⟨A1, c1, rfl, -, hb1⟩
    have HB1 := Lib.hid (HB.out.trans (hb1.mono HB.out.size))
    clear h0 hb1
    go_wp2
    go_ret
    exact ⟨by rw [HN.out, HT.out]; rfl, HB1.out⟩
  · have hl0 : (((D N).length : Int) == 0) = false := by
      have : (D N).length ≠ 0 := fun h => h0 (D_nil.1 (List.eq_nil_of_length_eq_zero h))
      rw [beq_eq_false_iff_ne]; omega
    have H0 := Lib.hid h0
    have hdc := dgs_len_le N
    go_enter Try.func43, Try.ntmps43
    go_wp2_with fail
    generalize (w.alloc (Obj.cells #[Value.bool neg, Value.slice A xs.length c] 24)) = W0 at *
    obtain ⟨x0, x1, -, -⟩ := HC.out
    go_wp2_with fail
    refine (rdigits_any neg A c xs _ (H.out.below HB.out)).mono ?_
    rw [hN]
    rintro e w1 ⟨A1, c1, rfl, hs1, hb1⟩
    have hca := hs1.le
    have hcam := hs1.max
    have HS1 := Lib.hid hs1
    have HB1 := Lib.hid hb1
    have hsz1 := hb1.size
    clear hs1 h0 hN hb1 x0 x1
    go_wp2
    go_loopg [3, 4, 5, 6, 7, 16] N (fun n t3 t4 _ _ _ _ wr => ∃ (A1 : Option Addr) (c1 : Nat) (ds : List Nat), (dgs 10 N = ds ++ dgs 10 n ∧ (D n).length ≤ (D N).length ∧ Sl wr .i64 A1 c1 (D n) ∧ Below W0.heap.size W0 wr) ∧ t3 = .slice A1 (D n).length c1 ∧ t4 = .string (str ((ds.map fun d => d + 48).reverse)))
    case atStart => exact ⟨A1, c1, [], ⟨rfl, Nat.le_refl _, HS1.out, HB1.out⟩, rfl, rfl⟩
    case round =>
      obtain ⟨A2, c2, ds, ⟨hds, hdn, hsl, hbel⟩, rfl, rfl⟩ := hrel
      obtain ⟨wo, rfl⟩ : ∃ wo : World, wo = wr := ⟨_, rfl⟩
      obtain ⟨n0, rfl⟩ : ∃ n0 : Nat, n0 = gk := ⟨_, rfl⟩
      have hc2 := hsl.le
      have hc2m := hsl.max
      have hdsl : ds.length ≤ (dgs 10 N).length := by rw [hds]; simp
      have HDS := Lib.hid hds
      have HSL := Lib.hid hsl
      have HBW := Lib.hid hbel
      clear hds hsl hbel HS1 HB1
      by_cases hn0 : n0 = 0
      · subst hn0
        have hd : dgs 10 N = ds := by have := HDS.out; simpa [dgs_zero] using this
        have hz0' := HZ.out
        obtain ⟨y0, y1, -, -⟩ := HC.out.below HBW.out (by omega)
        have HB9 := Lib.hid (HB.out.trans (HBW.out.mono HB.out.size))
        have hls : (str ((ds.map fun d => d + 48).reverse)).size ≤ 100000000 := by rw [str_size]; simp; omega
        cases neg
        · have HT : Hid (txt false N = (ds.map fun d => d + 48).reverse) := Lib.hid (by rw [← txt_pos H0.out, hd])
          go_wp2
          go_ret
          exact ⟨by rw [HN.out, HT.out]; rfl, HB9.out⟩
        · have HT : Hid (txt true N = 45 :: (ds.map fun d => d + 48).reverse) := Lib.hid (by rw [← txt_neg H0.out, hd]; simp)
          have hadd : ∀ w, (Op.stringOp .add (ByteArray.mk #[45]) (str ((ds.map fun d => d + 48).reverse))).run Try.prog w = .ok (.string (str (45 :: (ds.map fun d => d + 48).reverse))) w := fun w => by
            rw [run_string_add_sum w _ _ (by rw [show (ByteArray.mk #[45]).size = 1 from rfl]; omega), show ByteArray.mk #[45] = str [45] from rfl, str_add]
          go_wp2
          go_ret
          exact ⟨by rw [HN.out, HT.out]; rfl, HB9.out⟩
      · have hgt : decide (0 < (D n0).length) = true := by
          have : (D n0).length ≠ 0 := fun h => hn0 (D_nil.1 (List.eq_nil_of_length_eq_zero h))
          rw [decide_eq_true_iff]; omega
        have hnw := newI wo 10
        have hbn : Below wo.heap.size wo (wo.alloc (Obj.cells #[Value.int IntKind.i64 ((10 : Nat) : Int)] 3)) := (Below.refl _ _).alloc (Nat.le_refl _) _
        have HNW := Lib.hid hnw
        have HSL1 := Lib.hid (HSL.out.below hbn)
        have HBW1 := Lib.hid (HBW.out.trans (hbn.mono HBW.out.size))
        have HDN : Hid (dgs 10 N = (ds ++ [n0 % 10]) ++ dgs 10 (n0 / 10)) := Lib.hid (by rw [HDS.out, dgs_pos 10 n0 (by decide) hn0, List.append_assoc]; rfl)
        have hm10 : n0 % 10 < 10 := Nat.mod_lt _ (by decide)
        have hls : (str ((ds.map fun d => d + 48).reverse)).size ≤ 100000000 := by rw [str_size]; simp; omega
        have hex := dec_ex (n0 % 10) hm10
        have hadd : ∀ w, (Op.stringOp .add (str [n0 % 10 + 48]) (str ((ds.map fun d => d + 48).reverse))).run Try.prog w = .ok (.string (str ((n0 % 10 + 48) :: (ds.map fun d => d + 48).reverse))) w := fun w => by
          rw [run_string_add_sum w _ _ (by rw [str_size [n0 % 10 + 48]]; simp only [List.length_singleton]; omega), str_add]
        have HFL : Hid ((n0 % 10 + 48) :: (ds.map fun d => d + 48).reverse = ((ds ++ [n0 % 10]).map fun d => d + 48).reverse) := Lib.hid (by simp)
        have hdn2 : (D (n0 / 10)).length ≤ (D N).length := Nat.le_trans (D_len_mono (Nat.div_le_self _ _)) hdn
        clear hnw hbn
        go_wp2_with fail
        refine (rdiv_ten A2 c2 n0 wo.heap.size _ HSL1.out HNW.out (by omega)).mono ?_
        rintro e w3 ⟨A3, c3, A4, c4, rfl, hs3, hs4, hb3⟩
        have HS3 := Lib.hid hs3
        have HB3 := Lib.hid (HBW1.out.trans (hb3.mono HBW1.out.size))
        have hc4 := hs4.le
        have hc4m := hs4.max
        clear hb3 HNW HSL1 HBW1 HSL HBW hs3
        generalize hdd : n0 % 10 = d at *
        clear hdd
        by_cases hd0 : d = 0
        · subst hd0
          clear hs4
          go_wp2
          go_roundg (n0 / 10)
          case rel => exact ⟨A3, c3, ds ++ [0], ⟨HDN.out, hdn2, HS3.out, HB3.out⟩, rfl, congrArg (fun l => Value.string (str l)) HFL.out⟩
          case measure => omega
        · have hDd := D_small hd0 (by omega)
          have hrd := hs4.rd
          rw [hDd] at hrd hc4 ⊢
          obtain ⟨b, o, x, rfl, EX, hcx, hbx⟩ := hrd.at_ (j := 0) (by simp)
          have hxd : x = d := by have := EX.out; simpa using this.symm
          subst hxd
          rw [Nat.add_zero] at hcx
          clear hrd hs4 hDd EX
          go_wp2
          go_roundg (n0 / 10)
          case rel => exact ⟨A3, c3, ds ++ [x], ⟨HDN.out, hdn2, HS3.out, HB3.out⟩, rfl, congrArg (fun l => Value.string (str l)) HFL.out⟩
          case measure => omega
end Go.Proofs.Ytcbdnnboddahkaa.Tx
namespace Go.Proofs.Ytcbdnnboddahkaa.Tx
open Go.RowKit Ws
set_option linter.unusedVariables false
set_option maxRecDepth 100000
/-- s is the text of the bytes l -/
structure Is (s : ByteArray) (l : List Nat) : Prop where
  eq : s = str l
  lt : ∀ x ∈ l, x < 256
theorem Is.size {s : ByteArray} {l : List Nat} (h : Is s l) : s.size = l.length := by rw [h.eq, str_size]
theorem Is.get {s : ByteArray} {l : List Nat} (h : Is s l) {i : Nat} (hi : i < s.size) : s[i].toNat = l.getD i 0 := by
  obtain ⟨rfl, hl⟩ := h
  rw [str_size] at hi
  have hlt := hl l[i] (List.getElem_mem hi)
  have e : (str l)[i]'(by rw [str_size]; exact hi) = UInt8.ofNat l[i] := by
    unfold str
    show (List.map (fun x => UInt8.ofNat x) l).toArray[i]'_ = _
    simp
  rw [e, List.getD_eq_getElem?_getD, List.getElem?_eq_getElem hi]
  simp
  omega
theorem Is.toList {s : ByteArray} {l : List Nat} (h : Is s l) : s.toList = l.map fun x => UInt8.ofNat x := by
  rw [h.eq, ByteArray.toList_eq]; rfl
theorem ofNat_inj {x y : Nat} (hx : x < 256) (hy : y < 256) (h : UInt8.ofNat x = UInt8.ofNat y) : x = y := by
  have := congrArg UInt8.toNat h
  simp at this
  omega
theorem map_ofNat_inj : ∀ {l m : List Nat}, (∀ x ∈ l, x < 256) → (∀ x ∈ m, x < 256) → (l.map fun x => UInt8.ofNat x) = (m.map fun x => UInt8.ofNat x) → l = m
  | [], [], _, _, _ => rfl
  | [], _ :: _, _, _, h => by simp at h
  | _ :: _, [], _, _, h => by simp at h
  | x :: l, y :: m, hl, hm, h => by
    simp only [List.map_cons, List.cons.injEq] at h
    rw [ofNat_inj (hl x (by simp)) (hm y (by simp)) h.1, map_ofNat_inj (fun z hz => hl z (by simp [hz])) (fun z hz => hm z (by simp [hz])) h.2]
theorem Is.eql {s : ByteArray} {l m : List Nat} (h : Is s l) (hm : ∀ x ∈ m, x < 256) : (s.toList == m.map fun x => UInt8.ofNat x) = decide (l = m) := by
  rw [h.toList]
  by_cases e : l = m
  · subst e; simp
  · have : ¬ (l.map fun x => UInt8.ofNat x) = (m.map fun x => UInt8.ofNat x) := fun h2 => e (map_ofNat_inj h.lt hm h2)
    simp [e, this]
theorem Is.eq48 {s : ByteArray} {l : List Nat} (h : Is s l) : (s.toList == [48]) = decide (l = [48]) := h.eql (m := [48]) (by simp)
theorem Is.empty {s : ByteArray} {l : List Nat} (h : Is s l) : s.toList.isEmpty = decide (l = []) := by
  rw [h.toList]; cases l <;> simp
theorem is_of (s : ByteArray) : Is s (s.data.toList.map UInt8.toNat) := by
  refine ⟨?_, fun x hx => ?_⟩
  · unfold str
    rw [List.map_map]
    have : (fun x => UInt8.ofNat x) ∘ UInt8.toNat = id := by funext x; simp
    rw [this]
    simp
  · obtain ⟨b, _, rfl⟩ := List.mem_map.1 hx
    exact b.toNat_lt
def digB (c : Nat) : Bool := decide (48 ≤ c) && decide (c ≤ 57)
/-- the digits of a number without zeros ahead -/
def numB (l : List Nat) : Bool := l.all digB && (decide (l = [48]) || (decide (l ≠ []) && decide (l.getD 0 0 ≠ 48)))
theorem all_dig {l : List Nat} (h : ∀ j, j < l.length → digB (l.getD j 0) = true) : l.all digB = true := by
  rw [List.all_eq_true]
  intro x hx
  obtain ⟨j, hj, rfl⟩ := List.getElem_of_mem hx
  have := h j hj
  rw [List.getD_eq_getElem?_getD, List.getElem?_eq_getElem hj] at this
  exact this
theorem not_dig {l : List Nat} {j : Nat} (hj : j < l.length) (h : digB (l.getD j 0) = false) : numB l = false := by
  unfold numB
  have : l.all digB = false := by
    rw [List.all_eq_false]
    refine ⟨l[j], List.getElem_mem hj, ?_⟩
    rw [List.getD_eq_getElem?_getD, List.getElem?_eq_getElem hj] at h
    simpa using h
  rw [this]; rfl
set_option maxHeartbeats 1000000 in
theorem isnum_any (s : ByteArray) (l : List Nat) (w : World) (h : Is s l) (hl : l.length ≤ 1000000000) :
    Calls Try.prog 107 #[.string s] w fun e w' => e = .returned (.bool (numB l)) ∧ w = w' := by
  have hsz := h.size
  have HS := Lib.hid hsz
  have H := Lib.hid h
  have hsb : s.size ≤ 1000000000 := by omega
  clear hsz h
  go_enter Try.func107, Try.ntmps107
  go_wp2
  go_loop [3, 6] (fun _ t6 => ∃ i : Nat, (i ≤ s.size ∧ ∀ j, j < i → digB (l.getD j 0) = true) ∧ t6 = .int .i64 i) (fun _ t6 => s.size - (intOf t6).toNat)
  case atStart => exact ⟨0, ⟨by omega, fun j hj => by omega⟩, rfl⟩
  case round =>
    obtain ⟨i, ⟨hi, hall⟩, rfl⟩ := hrel
    have HA := Lib.hid hall
    clear hall
    by_cases hlt : i < s.size
    · obtain ⟨c, hc⟩ : ∃ c, l.getD i 0 = c := ⟨_, rfl⟩
      have HC := Lib.hid hc
      have hget : s[i].toNat = c := by rw [H.out.get hlt, hc]
      clear hc
      by_cases h1 : 48 ≤ c
      · by_cases h2 : c ≤ 57
        · have HN : Hid (∀ j, j < i + 1 → digB (l.getD j 0) = true) := Lib.hid (fun j hj => by
            rcases Nat.lt_or_ge j i with h | h
            · exact HA.out j h
            · have : j = i := by omega
              subst this
              rw [HC.out]; simp [digB, h1, h2])
          go_wp2
          go_round
          case rel => exact ⟨i + 1, ⟨by omega, HN.out⟩, by go_num⟩
          case measure => simp [intOf]; omega
        · have HF : Hid (numB l = false) := Lib.hid (not_dig (j := i) (by have := HS.out; omega) (by rw [HC.out]; simp [digB, h2]))
          go_wp2
          go_ret
          exact ⟨by rw [HF.out]; rfl, rfl⟩
      · have HF : Hid (numB l = false) := Lib.hid (not_dig (j := i) (by have := HS.out; omega) (by rw [HC.out]; simp [digB, h1]))
        go_wp2
        go_ret
        exact ⟨by rw [HF.out]; rfl, rfl⟩
    · have HD := Lib.hid (all_dig (l := l) (fun j hj => HA.out j (by have := HS.out; omega)))
      have h48 := H.out.eq48
      have hem := H.out.empty
      by_cases hA : l = [48]
      · have HF : Hid (numB l = true) := Lib.hid (by unfold numB; rw [HD.out, hA]; rfl)
        rw [decide_eq_true hA] at h48
        clear hem hA
        go_wp2
        go_ret
        exact ⟨by rw [HF.out]; rfl, rfl⟩
      · rw [decide_eq_false hA] at h48
        by_cases hB : l = []
        · have HF : Hid (numB l = false) := Lib.hid (by unfold numB; rw [hB]; rfl)
          rw [decide_eq_true hB] at hem
          clear hA hB
          go_wp2
          go_ret
          exact ⟨by rw [HF.out]; rfl, rfl⟩
        · rw [decide_eq_false hB] at hem
          have h0 : 0 < s.size := by
            have := HS.out
            rcases Nat.eq_zero_or_pos l.length with h | h
            · exact absurd (List.eq_nil_of_length_eq_zero h) hB
            · omega
          have hget : s[0].toNat = l.getD 0 0 := H.out.get h0
          have HF : Hid (numB l = (((l.getD 0 0 : Nat) : Int) != 48)) := Lib.hid (by
            unfold numB; rw [HD.out, decide_eq_false hA, decide_eq_true hB]
            by_cases e : l.getD 0 0 = 48
            · rw [e]; rfl
            · have e2 : (((l.getD 0 0 : Nat) : Int) != 48) = true := by rw [bne_iff_ne]; omega
              rw [decide_eq_true e, e2]; rfl)
          clear hA hB
          generalize l.getD 0 0 = c0 at *
          go_wp2
          go_ret
          exact ⟨by rw [HF.out]; rfl, rfl⟩
end Go.Proofs.Ytcbdnnboddahkaa.Tx
