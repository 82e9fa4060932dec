/-
  WALKS of the reference: the digits of an integer of words.
-/
import Derived.Test.YtcbdnnboddahkaaRsub
import Derived.Test.YtcbdnnboddahkaaOf
import Derived.Deep.AppendLies
import Derived.Laws.BitsAllLaws
namespace Go.Proofs.Ytcbdnnboddahkaa.Ws
open Go.RowKit
set_option linter.unusedVariables false
set_option maxRecDepth 100000
structure DK (W0 : World) (g b i : Nat) (A : Option Addr) (n c x : Nat) (w : World) : Prop where
  c1 : w.cell? ⟨g, 1, none⟩ = some (.slice A n c)
  cx : w.cell? ⟨b, i, none⟩ = some (.int .u32 x)
  lb : b < g
  sz : g + 1 ≤ w.heap.size
  bel : Below (g + 1) W0 w
section
variable {W0 w w' : World} {g b i : Nat} {A : Option Addr} {n c x : Nat}
theorem DK.below (hb : Below (g + 1) w w') (h : DK W0 g b i A n c x w) : DK W0 g b i A n c x w' :=
  ⟨(hb.cell (p := ⟨g, 1, none⟩) (by simp)).trans h.c1, (hb.cell (p := ⟨b, i, none⟩) (by have := h.lb; simp; omega)).trans h.cx, h.lb, Nat.le_trans h.sz hb.size, h.bel.trans hb⟩
theorem DK.draws (m : Nat) (h : DK W0 g b i A n c x w) : DK W0 g b i A n c x (w.drewN m) := h.below (below_drawn (Below.refl _ _) m)
theorem DK.alloc (o : Obj) (h : DK W0 g b i A n c x w) : DK W0 g b i A n c x (w.alloc o) := h.below ((Below.refl _ _).alloc h.sz o)
theorem DK.ks (h : DK W0 g b i A n c x w) : (w.cell? ⟨g, 1, none⟩ = some (.slice A n c) ∧ w.cell? ⟨b, i, none⟩ = some (.int .u32 x)) ∧ DK W0 g b i A n c x w := ⟨⟨h.c1, h.cx⟩, h⟩
end
def pairs (xs : List Nat) : List Nat := xs.flatMap fun x => [x % 65536, x / 65536]
theorem pairs_succ (xs : List Nat) (k x : Nat) (hk : k < xs.length) (hx : xs.getD k 0 = x) : pairs (xs.take (k + 1)) = pairs (xs.take k) ++ [x % 65536, x / 65536] := by
  have := pairs_take_succ 65536 xs k hk
  rw [hx] at this; exact this
theorem pairs_len (xs : List Nat) (k : Nat) (hk : k ≤ xs.length) : (pairs (xs.take k)).length = 2 * k := by
  have := pairs_length 65536 (xs.take k)
  rw [List.length_take, Nat.min_eq_left hk] at this; exact this
set_option maxHeartbeats 4000000 in
theorem rdigits_any (neg : Bool) (A : Option Addr) (c : Nat) (xs : List Nat) (w : World) (h : IntIn w neg A c xs) :
    Calls Try.prog 89 #[.agg #[.bool neg, .slice A xs.length c]] w fun e w' => SlOut w .i64 (D (iv neg xs).natAbs) e w' := by
  obtain ⟨i0, hi, hz0, hz1, hz2⟩ := info_parts infoI
  have hlen := h.len
  have hcm := h.sl.max
  have hlc := h.sl.le
  have HX := Lib.hid h
  clear h
  go_enter Try.func89, Try.ntmps89
  go_wp2
  go_loopw [3, 4] (fun t3 t4 wr => ∃ k : Nat, (k ≤ xs.length ∧ wr.ownsRow (w.heap.size + 1) 3 1 t3 (pairs (xs.take k)).length (vals .i64 (pairs (xs.take k))) ∧ wr.cell? ⟨w.heap.size, 1, none⟩ = some (.slice A xs.length c) ∧ w.heap.size + 1 ≤ wr.heap.size ∧ Below w.heap.size w wr) ∧ t4 = .int .i64 k) (fun _ t4 _ => xs.length - (intOf t4).toNat)
  case atStart => exact ⟨0, ⟨by omega, by simpa [pairs, vals] using World.ownsRow_nil _ _ _ _, by simp [go_sem], by simp, (Below.refl _ _).alloc (Nat.le_refl _) _⟩, rfl⟩
  case round =>
    obtain ⟨k, ⟨hk, hown, hc1, hsz, hbel⟩, rfl⟩ := hrel
    obtain ⟨wo, rfl⟩ : ∃ wo : World, wo = wr := ⟨_, rfl⟩
    have hpl := pairs_len xs k hk
    have HO := Lib.hid hown
    have HB := Lib.hid hbel
    have HP := Lib.hid hpl
    clear hown hbel hpl
    by_cases hlt : k < xs.length
    · obtain ⟨b, o, x, rfl, EX, hcell, hb⟩ := (HX.out.sl.rd.below HB.out).at_ hlt
      have hbw : b < w.heap.size := by
        obtain ⟨b', o', e, hc⟩ := HX.out.sl.rd (by omega)
        injection e with e; injection e with e1 e2
        subst e1
        exact World.block_lt_of_cell? w ⟨b, o' + 0, none⟩ (hc 0 (by omega))
      have hxb : x < 4294967296 := by rw [← EX.out]; exact getD_lt HX.out.lt (by decide) k
      have hk0 : DK wo w.heap.size b (o + k) (some ⟨b, o, none⟩) xs.length c x wo := ⟨hc1, hcell, hbw, hsz, Below.refl _ _⟩
      have hrow : ∀ j, u3.ownBlock = some j → w.heap.size + 1 ≤ j := fun j hj => (HO.out.lt j hj).1
      have HR := Lib.hid hrow
      obtain ⟨lo, hlo⟩ : ∃ lo, lo = x % 65536 := ⟨_, rfl⟩
      obtain ⟨hh, hhi⟩ : ∃ hh, hh = x / 65536 := ⟨_, rfl⟩
      have e1 : IntKind.i64.wrap ((x : Int).tmod 65536) = (lo : Int) := by
        rw [Int.tmod_eq_emod_of_nonneg (by omega)]; simp only [IntKind.wrap_i64]; omega
      have e2 : IntKind.i64.wrap (IntKind.u32.wrap ((x : Int) / 65536)) = (hh : Int) := by
        simp only [IntKind.wrap_i64, IntKind.wrap_u32']; omega
      have HLO := Lib.hid hlo
      have HHI := Lib.hid hhi
      have hps := pairs_succ xs k x hlt EX.out
      rw [← hlo, ← hhi] at hps
      have HPS := Lib.hid hps
      clear hlo hhi hps
      have ki0 : (0 : Int) ≤ (k : Int) := by omega
      have ki1 : (k : Int) < (xs.length : Int) := by omega
      clear hrow
      go_wp2
      go_region_held3 (fun w' => (w'.cell? ⟨w.heap.size, 1, none⟩ = some (.slice (some ⟨b, o, none⟩) xs.length c) ∧ w'.cell? ⟨b, o + k, none⟩ = some (.int .u32 x)) ∧ DK wo w.heap.size b (o + k) (some ⟨b, o, none⟩) xs.length c x w')
        (first | exact DK.ks (by assumption) | exact DK.ks (DK.draws 1 (by assumption)) | exact DK.ks (DK.alloc _ (by assumption)) | exact DK.ks (DK.draws 1 (DK.alloc _ (by assumption))) | exact DK.ks (DK.alloc _ (DK.draws 1 (by assumption))))
        ((refine step_append_lies _ (by rfl) _ _ _ (by rfl) (w.heap.size + 1) 3 i0 _ 1 8 Try.underlying74 hi hz0 hz1 hz2 rfl (by omega) u3 (pairs (xs.take k)).length (vals .i64 (pairs (xs.take k))) (by rfl) ((HO.out.alloc _).drew) ⟨wo.heap.size, 0, none⟩ 2 2 [.int .i64 (lo : Nat), .int .i64 (hh : Nat)] (by rfl) (by rfl) (World.news_of_block (cs := #[.int .i64 (lo : Nat), .int .i64 (hh : Nat)]) (t := 3) (fr := (0, 0)) (heap_alloc_new wo _)) (by simp [Value.oneCell']) (by omega) (by unfold maxLen; have := HP.out; omega) (by have := HP.out; omega) (by simp; omega) (wo.heap.size + 1) (by simp) ?_; intro gg cap w1 hown1 hgrow hat hlt1; have hk' := DK.below ((((Below.refl _ _).alloc hsz _).drew).grown hgrow (by simp; omega) HR.out) hk0))
      have hown3 : w1.ownsRow (w.heap.size + 1) 3 1 (.slice (some ⟨gg, 0, none⟩) ((pairs (xs.take k)).length + 2) cap) (pairs (xs.take (k + 1))).length (vals .i64 (pairs (xs.take (k + 1)))) := by
        rw [HPS.out, vals_append, List.length_append]; exact hown1
      have H3 := Lib.hid hown3
      have HB2 := Lib.hid (HB.out.trans (hk'.bel.mono (by omega)))
      have hc2 := hk'.c1
      have hs2 := hk'.sz
      clear hown1 hgrow hat hown3 e1 e2 hc1 hcell
      go_wp2
      go_roundw
      case rel => exact ⟨k + 1, ⟨by omega, H3.out, hc2, hs2, HB2.out⟩, by go_num⟩
      case measure => simp [intOf]; omega
    · have hkk : k = xs.length := by omega
      have ho := HO.out
      rw [hkk, List.take_of_length_le (Nat.le_refl _)] at ho
      obtain ⟨A1, c1, rfl, -, hs⟩ := own_sl ho
      have hpl2 : (pairs xs).length ≤ 2000000 := by have := HP.out; rw [hkk, List.take_of_length_le (Nat.le_refl _)] at this; omega
      have HS := Lib.hid hs
      have hpv : val 65536 (pairs xs) = (iv neg xs).natAbs := by rw [iv_natAbs]; exact val_pairs 65536 xs
      have HPV := Lib.hid hpv
      have HPB := Lib.hid (pairs_lt (B := 65536) (by decide) (xs := xs) HX.out.lt)
      have hlp : (pairs (xs.take k)).length = (pairs xs).length := by rw [hkk, List.take_of_length_le (Nat.le_refl _)]
      clear ho hs hpv hkk hlp
      go_wp2_with fail
      refine (rtrim_any A1 c1 (pairs xs) _ _ HS.out (by omega) HPB.out HPV.out).mono ?_
      rintro e w1 ⟨A2, c2, rfl, hs2, hbel⟩
      have HS2 := Lib.hid hs2
      have HB2 := Lib.hid (HB.out.trans (hbel.mono HB.out.size))
      clear hs2 hbel
      go_wp2
      go_ret
      exact ⟨_, _, rfl, HS2.out, HB2.out⟩
end Go.Proofs.Ytcbdnnboddahkaa.Ws
