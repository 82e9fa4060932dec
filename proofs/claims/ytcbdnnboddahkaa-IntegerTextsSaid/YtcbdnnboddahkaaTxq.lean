/-
  WALKS of the reference: a text read.
-/
import Derived.Test.YtcbdnnboddahkaaTxo
import Derived.Test.YtcbdnnboddahkaaGc
namespace Go.Proofs.Ytcbdnnboddahkaa.Tx
open Go.RowKit Ws
set_option linter.unusedVariables false
set_option maxRecDepth 100000
theorem rtimesTen {A : Option Addr} {c v g : Nat} {w : World} (hx : Sl w .i64 A c (D v)) (hy : Ar w g .i64 3 [10]) (h : (D v).length ≤ 8000000) :
    Calls Try.prog 104 #[.slice A (D v).length c, .slice (some ⟨g, 0, none⟩) 1 1] w fun e w' => SlOut w .i64 (D (v * 10)) e w' := by
  have h1 := rtimes_list A (some ⟨g, 0, none⟩) c 1 (D v) [10] w hx (hy.sl (by simp)) (D_lt v) (by simp) h (by simp)
  rw [val_D, show val 65536 [10] = 10 from by simp [val]] at h1
  exact h1
theorem D_ten' {v k : Nat} (h : v < 10 ^ k) : (D v).length ≤ k := by
  refine dgs_length_le 65536 (by decide) _ _ ?_
  exact Nat.lt_of_lt_of_le h (Nat.pow_le_pow_left (by decide) k)
theorem fv_lt (l : List Nat) : fv l < 10 ^ l.length := by
  unfold fv
  have h : ∀ c ∈ l.filter digB, c ≤ 57 := by
    intro c hc
    have := (List.mem_filter.1 hc).2
    unfold digB at this
    rw [Bool.and_eq_true, decide_eq_true_iff, decide_eq_true_iff] at this
    omega
  exact Nat.lt_of_lt_of_le (dv_lt h) (Nat.pow_le_pow_right (by decide) (List.length_filter_le _ _))
theorem neg_len {l : List Nat} : (decide (0 < l.length) && negB l) = negB l := by
  cases l with
  | nil => rfl
  | cons c t => simp
theorem sgn_abs (b : Bool) (n : Nat) : (if b = true then -(n : Int) else (n : Int)).natAbs = n := by cases b <;> simp
theorem sgn_neg (b : Bool) (n : Nat) : decide ((if b = true then -(n : Int) else (n : Int)) < 0) = (b && decide (n ≠ 0)) := by
  cases b
  · simp
  · by_cases h : n = 0
    · subst h; rfl
    · rw [decide_eq_true (show n ≠ 0 from h)]
      exact decide_eq_true (by show -(n : Int) < 0; omega)
set_option maxHeartbeats 4000000 in
theorem rparse_any (s : ByteArray) (l : List Nat) (w : World) (h : Is s l) (hl : l.length ≤ 1000000000) :
    Calls Try.prog 41 #[.string s] w fun e w' => PsOut l w e w' := by
  have hB : Below w.heap.size w (w.alloc (Obj.cells #[Value.bool false, Value.slice none 0 0] 24)) := by go_grown
  have hR : Cl (w.alloc (Obj.cells #[Value.bool false, Value.slice none 0 0] 24)) w.heap.size false none 0 0 :=
    ⟨by simp [go_sem], by simp [go_sem], by simp [go_sem], by simp [go_sem]⟩
  have hZ : (w.alloc (Obj.cells #[Value.bool false, Value.slice none 0 0] 24)).heap.size = w.heap.size + 1 := by simp
  have hsz := h.size
  have hsm : s.size ≤ 1000000000 := by omega
  have H := Lib.hid h
  have HB := Lib.hid hB
  have HR := Lib.hid hR
  have HZ := Lib.hid hZ
  have HSS := Lib.hid hsz
  clear h hB hR hZ
  by_cases hlen : 400 < l.length
  · have HPZ : Hid (pz l = 0) := Lib.hid (by unfold pz; rw [if_pos hlen])
    have HPE : Hid (pe l = 8) := Lib.hid (by unfold pe; rw [if_pos hlen])
    have hs400 : 400 < s.size := by omega
    clear hsz
    go_enter Try.func41, Try.ntmps41
    go_wp2_with fail
    generalize (w.alloc (Obj.cells #[Value.bool false, Value.slice none 0 0] 24)) = W0 at *
    obtain ⟨r0, r1, r2, r3⟩ := HR.out
    go_wp2
    refine bodyPost_ret (v := .tuple #[.agg #[.bool false, .slice none 0 0], .int .i64 8]) (by simp [results, Try.results41, go_sem, r0, r1]) rfl ?_
    first | exact ⟨_, by rw [HPE.out], by rw [HPZ.out]; exact IntIs.zero' _, HB.out⟩ | exact PsOut.stored HR.out (by rw [HPZ.out]; exact IntIs.zero' _) HB.out (Nat.le_refl _) HPE.out.symm
  · have hs400 : s.size ≤ 400 := by omega
    have hl400 : l.length ≤ 400 := by omega
    clear hsz
    go_enter Try.func41, Try.ntmps41
    go_wp2_with fail
    generalize (w.alloc (Obj.cells #[Value.bool false, Value.slice none 0 0] 24)) = W0 at *
    go_wp2
    go_loopg [4, 5, 6] l.length (fun gg t4 t5 t6 wr => ∃ (kk : Nat) (A1 : Option Addr) (c1 : Nat), (kk ≤ l.length ∧ l.length - kk ≤ gg ∧ Sl wr .i64 A1 c1 (D (fv (l.take kk))) ∧ Below W0.heap.size W0 wr) ∧ t4 = .slice A1 (D (fv (l.take kk))).length c1 ∧ t5 = .bool (decide (0 < kk) && negB l) ∧ t6 = .int .i64 kk)
    case atStart => exact ⟨0, none, 0, ⟨Nat.zero_le _, by omega, Sl.nil_, Below.refl _ _⟩, rfl, rfl, rfl⟩
    case round =>
      obtain ⟨kk, A1, c1, ⟨hk, hg, hsl, hbw⟩, rfl, rfl, rfl⟩ := hrel
      have hc1 := hsl.le
      have hc1m := hsl.max
      have hvl : (D (fv (l.take kk))).length ≤ 400 := Nat.le_trans (D_ten' (fv_lt _)) (by simp; omega)
      have hvl2 : (D (fv (l.take kk) * 10)).length ≤ 4000000 := by
        have h1 := fv_lt (l.take kk)
        have h2 : fv (l.take kk) * 10 < 10 ^ ((l.take kk).length + 1) := by rw [Nat.pow_succ]; omega
        have := D_ten' h2
        simp at this
        omega
      by_cases hlt : kk < l.length
      · have hks : kk < s.size := by have := HSS.out; omega
        obtain ⟨c, hc⟩ : ∃ c, l.getD kk 0 = c := ⟨_, rfl⟩
        have hget : s[kk].toNat = c := by rw [H.out.get hks, hc]
        have HC := Lib.hid hc
        by_cases hk0 : kk = 0
        · subst hk0
          have HNV : Hid (negB l = decide (c = 45)) := Lib.hid (by unfold negB; rw [hc])
          clear hc
          by_cases h45 : c = 45
          · subst h45
            have HTK : Hid (fv (l.take (0 + 1)) = fv (l.take 0)) := Lib.hid (by rw [fv_take hlt, HC.out]; rfl)
            go_wp2
            go_roundg (l.length - (0 + 1))
            case rel => exact ⟨0 + 1, A1, c1, ⟨by omega, by omega, by rw [HTK.out]; exact hsl, hbw⟩, congrArg (fun n => Value.slice A1 (D n).length c1) HTK.out.symm, congrArg Value.bool (by rw [HNV.out]; rfl), rfl⟩
            case measure => omega
          · have hne : ((c : Int) == 45) = false := by rw [beq_eq_false_iff_ne]; omega
            have HNB : Hid ((decide (0 < 0) && negB l) = (decide (0 < 0 + 1) && negB l)) := Lib.hid (by rw [HNV.out, decide_eq_false h45]; rfl)
            obtain ⟨kk, hkk⟩ : ∃ kk, kk = 0 := ⟨0, rfl⟩
            have hkz : ((kk : Int) == 0) = true := by rw [hkk]; rfl
            clear h45
            by_cases h1 : 48 ≤ c
            · by_cases h2 : c ≤ 57
              · obtain ⟨dd, hdd⟩ : ∃ dd, c = dd + 48 := ⟨c - 48, by omega⟩
                subst hdd
                have hd9 : dd ≤ 9 := by omega
                have HTK : Hid (fv (l.take (0 + 1)) = fv (l.take 0) * 10 + dd) := Lib.hid (by rw [fv_take hlt, HC.out, if_pos (by simp [digB]; omega)]; omega)
                have hd16 : dd < 65536 := by omega
                have hw8 : IntKind.u8.wrap (dd : Int) = dd := by simp only [IntKind.wrap_u8]; omega
                have hw64 : IntKind.i64.wrap (dd : Int) = dd := by simp only [IntKind.wrap_i64]; omega
                have hdl1 : (D dd).length ≤ 4000000 := by have := D_ten' (v := dd) (k := 1) (by omega); omega
                generalize fv (l.take 0) = v at *
                clear h1 h2
                go_wp2_with fail
                have h' : Sl wr.drew .i64 A1 c1 (D v) := hsl.drewN 1
                clear hsl
                have hsl := h'
                clear h'
                have h' : Below W0.heap.size W0 wr.drew := below_drawn hbw 1
                clear hbw
                have hbw := h'
                clear h'
                refine wp_region_held_drew (S := fun _ => True) (by kernel_rfl) trivial (fun hHeld => ?_)
                generalize wr.drew = wd at *
                refine wpAnyH_take (i := 0) (v := ?vt28) rfl (by kernel_rfl) (by kernel_rfl) (by kernel_rfl) (fun _ _ _ h => h) (Or.inl ⟨by rfl, ?yt28⟩) hHeld ?rt28
                case yt28 => intro w9 hSw; go_simp; first | done | with_reducible rfl
                try simp only [Act.put]
                refine wpAnyH_take (i := 3) (v := ?vt29) rfl (by kernel_rfl) (by kernel_rfl) (by kernel_rfl) (fun _ _ _ h => h) (Or.inl ⟨by rfl, ?yt29⟩) hHeld ?rt29
                case yt29 => intro w9 hSw; go_simp; first | done | with_reducible rfl
                try simp only [Act.put]
                refine wpAnyH_take (i := 4) (v := ?vt30) rfl (by kernel_rfl) (by kernel_rfl) (by kernel_rfl) (fun _ _ _ h => h) (Or.inl ⟨by rfl, ?yt30⟩) hHeld ?rt30
                case yt30 => intro w9 hSw; go_simp; first | done | with_reducible rfl
                try simp only [Act.put]
                refine wpAnyH_take (i := 5) (v := ?vt31) rfl (by kernel_rfl) (by kernel_rfl) (by kernel_rfl) (fun _ _ _ h => h) (Or.inl ⟨by rfl, ?yt31⟩) hHeld ?rt31
                case yt31 => intro w9 hSw; go_simp; first | done | with_reducible rfl
                try simp only [Act.put]
                refine wpAnyH_take (i := 6) (v := ?vt32) rfl (by kernel_rfl) (by kernel_rfl) (by kernel_rfl) (fun _ _ _ h => h) (Or.inl ⟨by rfl, ?yt32⟩) hHeld ?rt32
                case yt32 => intro w9 hSw; go_simp; first | done | with_reducible rfl
                try simp only [Act.put]
                refine wpAnyH_take (i := 7) (v := ?vt33) rfl (by kernel_rfl) (by kernel_rfl) (by kernel_rfl) (fun _ _ _ h => h) (Or.inl ⟨by rfl, ?yt33⟩) hHeld ?rt33
                case yt33 => intro w9 hSw; go_simp; first | done | with_reducible rfl
                try simp only [Act.put]
                refine wpAnyH_ready (rs := [1, 8]) (by kernel_rfl) (by simp) ?_
                refine (AllReadyH.cons rfl (fun K hK => ?_) (AllReadyH.cons rfl (fun K hK => ?_) AllReadyH.nil))
                · go_simp
                  have hb1 : Below wd.heap.size wd (wd.alloc (Obj.cells #[Value.int IntKind.i64 (10)] 3)) := (Below.refl _ _).alloc (Nat.le_refl _) _
                  have ha1 : Ar (wd.alloc (Obj.cells #[Value.int IntKind.i64 (10)] 3)) wd.heap.size .i64 3 [10] := Ar.new wd .i64 3 [10]
                  have h' := hsl.below hb1
                  clear hsl
                  have hsl := h'
                  clear h'
                  have h' := hbw.trans (hb1.mono hbw.size)
                  clear hbw hb1
                  have hbw := h'
                  clear h'
                  refine hK.out _ _ trivial (fun hHeld => ?_)
                  clear hK K
                  try simp only [Act.put]
                  generalize hW1 : (wd.alloc (Obj.cells #[Value.int IntKind.i64 (10)] 3)) = w1 at *
                  generalize hG1 : wd.heap.size = g1 at *
                  clear hW1 hG1
                  refine wpAnyH_ready (rs := [2, 8]) (by kernel_rfl) (by simp) ?_
                  refine (AllReadyH.cons rfl (fun K hK => ?_) (AllReadyH.cons rfl (fun K hK => ?_) AllReadyH.nil))
                  · go_simp
                    go_at_call 104
                    refine (rtimesTen (v := v) (g := g1) hsl ha1 (by omega)).mono ?_
                    rintro e wm ⟨Am, cm, rfl, hsm, hbel⟩
                    have h' := hsl.below hbel
                    clear hsl
                    have hsl := h'
                    clear h'
                    have h' := ha1.below hbel ha1.lt
                    clear ha1
                    have ha1 := h'
                    clear h'
                    have h' := hbw.trans (hbel.mono hbw.size)
                    clear hbw hbel
                    have hbw := h'
                    clear h'
                    try go_wp2_with fail
                    refine hK.out _ _ trivial (fun hHeld => ?_)
                    clear hK K
                    try simp only [Act.put]
                    refine wpAnyH_ready (rs := [8]) (by kernel_rfl) (by simp) ?_
                    refine (AllReadyH.cons rfl (fun K hK => ?_) AllReadyH.nil)
                    go_simp
                    have hb8 : Below wm.heap.size wm (wm.alloc (Obj.cells #[Value.int IntKind.i64 (dd : Nat)] 3)) := (Below.refl _ _).alloc (Nat.le_refl _) _
                    have ha8 : Ar (wm.alloc (Obj.cells #[Value.int IntKind.i64 (dd : Nat)] 3)) wm.heap.size .i64 3 [dd] := Ar.new wm .i64 3 [dd]
                    have h' := hsm.below hb8
                    clear hsm
                    have hsm := h'
                    clear h'
                    have h' := hbw.trans (hb8.mono hbw.size)
                    clear hbw hb8
                    have hbw := h'
                    clear h'
                    refine hK.out _ _ trivial (fun hHeld => ?_)
                    clear hK K
                    try simp only [Act.put]
                    generalize hW8 : (wm.alloc (Obj.cells #[Value.int IntKind.i64 (dd : Nat)] 3)) = w8 at *
                    generalize hG8 : wm.heap.size = g8 at *
                    clear hW8 hG8
                    refine wpAnyH_ready (rs := [9]) (by kernel_rfl) (by simp) ?_
                    refine (AllReadyH.cons rfl (fun K hK => ?_) AllReadyH.nil)
                    go_simp
                    go_at_call 108
                    refine (rtrim_n (some ⟨g8, 0, none⟩) 1 1 [dd] _ dd (ha8.sl (by simp)) rfl (by omega) (by simpa using hd16) (by simp [val])).mono ?_
                    rintro e wt ⟨At, ct, rfl, hst, hbel⟩
                    have h' := hsm.below hbel
                    clear hsm
                    have hsm := h'
                    clear h'
                    have h' := hbw.trans (hbel.mono hbw.size)
                    clear hbw hbel
                    have hbw := h'
                    clear h'
                    try go_wp2_with fail
                    refine hK.out _ _ trivial (fun hHeld => ?_)
                    clear hK K
                    try simp only [Act.put]
                    refine wpAnyH_ready (rs := [10]) (by kernel_rfl) (by simp) ?_
                    refine (AllReadyH.cons rfl (fun K hK => ?_) AllReadyH.nil)
                    go_simp
                    go_at_call 99
                    refine (rplusD hsm hst (by omega) (by omega)).mono ?_
                    rintro e wa ⟨Aa, ca, rfl, hsa, hbel⟩
                    have h' := hbw.trans (hbel.mono hbw.size)
                    clear hbw hbel
                    have hbw := h'
                    clear h'
                    try go_wp2_with fail
                    refine hK.out _ _ trivial (fun hHeld => ?_)
                    clear hK K
                    try simp only [Act.put]
                    refine wpAnyH_take (i := 11) (v := ?vz34) rfl (by kernel_rfl) (by kernel_rfl) (by kernel_rfl) (fun _ _ _ h => h) (Or.inl ⟨by rfl, ?yz34⟩) hHeld ?rz34
                    case yz34 => intro w9 hSw; go_simp; first | done | with_reducible rfl
                    try simp only [Act.put]
                    refine wpAnyH_done (by kernel_rfl) ?_ _
                    clear hHeld
                    go_wp2
                    go_roundg (l.length - (0 + 1))
                    case rel => exact ⟨0 + 1, Aa, ca, ⟨by omega, by omega, by rw [HTK.out]; exact hsa, hbw⟩, congrArg (fun n => Value.slice Aa (D n).length ca) HTK.out.symm, congrArg Value.bool HNB.out, rfl⟩
                    case measure => omega
                  · go_simp
                    have hb8 : Below w1.heap.size w1 (w1.alloc (Obj.cells #[Value.int IntKind.i64 (dd : Nat)] 3)) := (Below.refl _ _).alloc (Nat.le_refl _) _
                    have ha8 : Ar (w1.alloc (Obj.cells #[Value.int IntKind.i64 (dd : Nat)] 3)) w1.heap.size .i64 3 [dd] := Ar.new w1 .i64 3 [dd]
                    have h' := hsl.below hb8
                    clear hsl
                    have hsl := h'
                    clear h'
                    have h' := ha1.below hb8 ha1.lt
                    clear ha1
                    have ha1 := h'
                    clear h'
                    have h' := hbw.trans (hb8.mono hbw.size)
                    clear hbw hb8
                    have hbw := h'
                    clear h'
                    refine hK.out _ _ trivial (fun hHeld => ?_)
                    clear hK K
                    try simp only [Act.put]
                    generalize hW8 : (w1.alloc (Obj.cells #[Value.int IntKind.i64 (dd : Nat)] 3)) = w8 at *
                    generalize hG8 : w1.heap.size = g8 at *
                    clear hW8 hG8
                    refine wpAnyH_ready (rs := [2]) (by kernel_rfl) (by simp) ?_
                    refine (AllReadyH.cons rfl (fun K hK => ?_) AllReadyH.nil)
                    go_simp
                    go_at_call 104
                    refine (rtimesTen (v := v) (g := g1) hsl ha1 (by omega)).mono ?_
                    rintro e wm ⟨Am, cm, rfl, hsm, hbel⟩
                    have h' := ha8.below hbel ha8.lt
                    clear ha8
                    have ha8 := h'
                    clear h'
                    have h' := hbw.trans (hbel.mono hbw.size)
                    clear hbw hbel
                    have hbw := h'
                    clear h'
                    try go_wp2_with fail
                    refine hK.out _ _ trivial (fun hHeld => ?_)
                    clear hK K
                    try simp only [Act.put]
                    refine wpAnyH_ready (rs := [9]) (by kernel_rfl) (by simp) ?_
                    refine (AllReadyH.cons rfl (fun K hK => ?_) AllReadyH.nil)
                    go_simp
                    go_at_call 108
                    refine (rtrim_n (some ⟨g8, 0, none⟩) 1 1 [dd] _ dd (ha8.sl (by simp)) rfl (by omega) (by simpa using hd16) (by simp [val])).mono ?_
                    rintro e wt ⟨At, ct, rfl, hst, hbel⟩
                    have h' := hsm.below hbel
                    clear hsm
                    have hsm := h'
                    clear h'
                    have h' := hbw.trans (hbel.mono hbw.size)
                    clear hbw hbel
                    have hbw := h'
                    clear h'
                    try go_wp2_with fail
                    refine hK.out _ _ trivial (fun hHeld => ?_)
                    clear hK K
                    try simp only [Act.put]
                    refine wpAnyH_ready (rs := [10]) (by kernel_rfl) (by simp) ?_
                    refine (AllReadyH.cons rfl (fun K hK => ?_) AllReadyH.nil)
                    go_simp
                    go_at_call 99
                    refine (rplusD hsm hst (by omega) (by omega)).mono ?_
                    rintro e wa ⟨Aa, ca, rfl, hsa, hbel⟩
                    have h' := hbw.trans (hbel.mono hbw.size)
                    clear hbw hbel
                    have hbw := h'
                    clear h'
                    try go_wp2_with fail
                    refine hK.out _ _ trivial (fun hHeld => ?_)
                    clear hK K
                    try simp only [Act.put]
                    refine wpAnyH_take (i := 11) (v := ?vz35) rfl (by kernel_rfl) (by kernel_rfl) (by kernel_rfl) (fun _ _ _ h => h) (Or.inl ⟨by rfl, ?yz35⟩) hHeld ?rz35
                    case yz35 => intro w9 hSw; go_simp; first | done | with_reducible rfl
                    try simp only [Act.put]
                    refine wpAnyH_done (by kernel_rfl) ?_ _
                    clear hHeld
                    go_wp2
                    go_roundg (l.length - (0 + 1))
                    case rel => exact ⟨0 + 1, Aa, ca, ⟨by omega, by omega, by rw [HTK.out]; exact hsa, hbw⟩, congrArg (fun n => Value.slice Aa (D n).length ca) HTK.out.symm, congrArg Value.bool HNB.out, rfl⟩
                    case measure => omega
                · go_simp
                  have hb8 : Below wd.heap.size wd (wd.alloc (Obj.cells #[Value.int IntKind.i64 (dd : Nat)] 3)) := (Below.refl _ _).alloc (Nat.le_refl _) _
                  have ha8 : Ar (wd.alloc (Obj.cells #[Value.int IntKind.i64 (dd : Nat)] 3)) wd.heap.size .i64 3 [dd] := Ar.new wd .i64 3 [dd]
                  have h' := hsl.below hb8
                  clear hsl
                  have hsl := h'
                  clear h'
                  have h' := hbw.trans (hb8.mono hbw.size)
                  clear hbw hb8
                  have hbw := h'
                  clear h'
                  refine hK.out _ _ trivial (fun hHeld => ?_)
                  clear hK K
                  try simp only [Act.put]
                  generalize hW8 : (wd.alloc (Obj.cells #[Value.int IntKind.i64 (dd : Nat)] 3)) = w8 at *
                  generalize hG8 : wd.heap.size = g8 at *
                  clear hW8 hG8
                  refine wpAnyH_ready (rs := [1]) (by kernel_rfl) (by simp) ?_
                  refine (AllReadyH.cons rfl (fun K hK => ?_) AllReadyH.nil)
                  go_simp
                  have hb1 : Below w8.heap.size w8 (w8.alloc (Obj.cells #[Value.int IntKind.i64 (10)] 3)) := (Below.refl _ _).alloc (Nat.le_refl _) _
                  have ha1 : Ar (w8.alloc (Obj.cells #[Value.int IntKind.i64 (10)] 3)) w8.heap.size .i64 3 [10] := Ar.new w8 .i64 3 [10]
                  have h' := hsl.below hb1
                  clear hsl
                  have hsl := h'
                  clear h'
                  have h' := ha8.below hb1 ha8.lt
                  clear ha8
                  have ha8 := h'
                  clear h'
                  have h' := hbw.trans (hb1.mono hbw.size)
                  clear hbw hb1
                  have hbw := h'
                  clear h'
                  refine hK.out _ _ trivial (fun hHeld => ?_)
                  clear hK K
                  try simp only [Act.put]
                  generalize hW1 : (w8.alloc (Obj.cells #[Value.int IntKind.i64 (10)] 3)) = w1 at *
                  generalize hG1 : w8.heap.size = g1 at *
                  clear hW1 hG1
                  refine wpAnyH_ready (rs := [2]) (by kernel_rfl) (by simp) ?_
                  refine (AllReadyH.cons rfl (fun K hK => ?_) AllReadyH.nil)
                  go_simp
                  go_at_call 104
                  refine (rtimesTen (v := v) (g := g1) hsl ha1 (by omega)).mono ?_
                  rintro e wm ⟨Am, cm, rfl, hsm, hbel⟩
                  have h' := ha8.below hbel ha8.lt
                  clear ha8
                  have ha8 := h'
                  clear h'
                  have h' := hbw.trans (hbel.mono hbw.size)
                  clear hbw hbel
                  have hbw := h'
                  clear h'
                  try go_wp2_with fail
                  refine hK.out _ _ trivial (fun hHeld => ?_)
                  clear hK K
                  try simp only [Act.put]
                  refine wpAnyH_ready (rs := [9]) (by kernel_rfl) (by simp) ?_
                  refine (AllReadyH.cons rfl (fun K hK => ?_) AllReadyH.nil)
                  go_simp
                  go_at_call 108
                  refine (rtrim_n (some ⟨g8, 0, none⟩) 1 1 [dd] _ dd (ha8.sl (by simp)) rfl (by omega) (by simpa using hd16) (by simp [val])).mono ?_
                  rintro e wt ⟨At, ct, rfl, hst, hbel⟩
                  have h' := hsm.below hbel
                  clear hsm
                  have hsm := h'
                  clear h'
                  have h' := hbw.trans (hbel.mono hbw.size)
                  clear hbw hbel
                  have hbw := h'
                  clear h'
                  try go_wp2_with fail
                  refine hK.out _ _ trivial (fun hHeld => ?_)
                  clear hK K
                  try simp only [Act.put]
                  refine wpAnyH_ready (rs := [10]) (by kernel_rfl) (by simp) ?_
                  refine (AllReadyH.cons rfl (fun K hK => ?_) AllReadyH.nil)
                  go_simp
                  go_at_call 99
                  refine (rplusD hsm hst (by omega) (by omega)).mono ?_
                  rintro e wa ⟨Aa, ca, rfl, hsa, hbel⟩
                  have h' := hbw.trans (hbel.mono hbw.size)
                  clear hbw hbel
                  have hbw := h'
                  clear h'
                  try go_wp2_with fail
                  refine hK.out _ _ trivial (fun hHeld => ?_)
                  clear hK K
                  try simp only [Act.put]
                  refine wpAnyH_take (i := 11) (v := ?vz36) rfl (by kernel_rfl) (by kernel_rfl) (by kernel_rfl) (fun _ _ _ h => h) (Or.inl ⟨by rfl, ?yz36⟩) hHeld ?rz36
                  case yz36 => intro w9 hSw; go_simp; first | done | with_reducible rfl
                  try simp only [Act.put]
                  refine wpAnyH_done (by kernel_rfl) ?_ _
                  clear hHeld
                  go_wp2
                  go_roundg (l.length - (0 + 1))
                  case rel => exact ⟨0 + 1, Aa, ca, ⟨by omega, by omega, by rw [HTK.out]; exact hsa, hbw⟩, congrArg (fun n => Value.slice Aa (D n).length ca) HTK.out.symm, congrArg Value.bool HNB.out, rfl⟩
                  case measure => omega
              · have HTK : Hid (fv (l.take (0 + 1)) = fv (l.take 0)) := Lib.hid (by rw [fv_take hlt, HC.out, if_neg (by simp [digB]; omega)])
                go_wp2
                go_roundg (l.length - (0 + 1))
                case rel => exact ⟨0 + 1, A1, c1, ⟨by omega, by omega, by rw [HTK.out]; exact hsl, hbw⟩, congrArg (fun n => Value.slice A1 (D n).length c1) HTK.out.symm, congrArg Value.bool HNB.out, rfl⟩
                case measure => omega
            · have HTK : Hid (fv (l.take (0 + 1)) = fv (l.take 0)) := Lib.hid (by rw [fv_take hlt, HC.out, if_neg (by simp [digB]; omega)])
              go_wp2
              go_roundg (l.length - (0 + 1))
              case rel => exact ⟨0 + 1, A1, c1, ⟨by omega, by omega, by rw [HTK.out]; exact hsl, hbw⟩, congrArg (fun n => Value.slice A1 (D n).length c1) HTK.out.symm, congrArg Value.bool HNB.out, rfl⟩
              case measure => omega
        · have hkz : ((kk : Int) == 0) = false := by rw [beq_eq_false_iff_ne]; omega
          have HNB : Hid ((decide (0 < kk) && negB l) = (decide (0 < kk + 1) && negB l)) := Lib.hid (by rw [decide_eq_true (show 0 < kk by omega), decide_eq_true (show 0 < kk + 1 by omega)])
          generalize hfl : (decide (0 < kk) && negB l) = fl at *
          clear hc hk0 hfl
          by_cases h1 : 48 ≤ c
          · by_cases h2 : c ≤ 57
            · obtain ⟨dd, hdd⟩ : ∃ dd, c = dd + 48 := ⟨c - 48, by omega⟩
              subst hdd
              have hd9 : dd ≤ 9 := by omega
              have HTK : Hid (fv (l.take (kk + 1)) = fv (l.take kk) * 10 + dd) := Lib.hid (by rw [fv_take hlt, HC.out, if_pos (by simp [digB]; omega)]; omega)
              have hd16 : dd < 65536 := by omega
              have hw8 : IntKind.u8.wrap (dd : Int) = dd := by simp only [IntKind.wrap_u8]; omega
              have hw64 : IntKind.i64.wrap (dd : Int) = dd := by simp only [IntKind.wrap_i64]; omega
              have hdl1 : (D dd).length ≤ 4000000 := by have := D_ten' (v := dd) (k := 1) (by omega); omega
              generalize fv (l.take kk) = v at *
              clear h1 h2
              go_wp2_with fail
              have h' : Sl wr.drew .i64 A1 c1 (D v) := hsl.drewN 1
              clear hsl
              have hsl := h'
              clear h'
              have h' : Below W0.heap.size W0 wr.drew := below_drawn hbw 1
              clear hbw
              have hbw := h'
              clear h'
              refine wp_region_held_drew (S := fun _ => True) (by kernel_rfl) trivial (fun hHeld => ?_)
              generalize wr.drew = wd at *
              refine wpAnyH_take (i := 0) (v := ?vt19) rfl (by kernel_rfl) (by kernel_rfl) (by kernel_rfl) (fun _ _ _ h => h) (Or.inl ⟨by rfl, ?yt19⟩) hHeld ?rt19
              case yt19 => intro w9 hSw; go_simp; first | done | with_reducible rfl
              try simp only [Act.put]
              refine wpAnyH_take (i := 3) (v := ?vt20) rfl (by kernel_rfl) (by kernel_rfl) (by kernel_rfl) (fun _ _ _ h => h) (Or.inl ⟨by rfl, ?yt20⟩) hHeld ?rt20
              case yt20 => intro w9 hSw; go_simp; first | done | with_reducible rfl
              try simp only [Act.put]
              refine wpAnyH_take (i := 4) (v := ?vt21) rfl (by kernel_rfl) (by kernel_rfl) (by kernel_rfl) (fun _ _ _ h => h) (Or.inl ⟨by rfl, ?yt21⟩) hHeld ?rt21
              case yt21 => intro w9 hSw; go_simp; first | done | with_reducible rfl
              try simp only [Act.put]
              refine wpAnyH_take (i := 5) (v := ?vt22) rfl (by kernel_rfl) (by kernel_rfl) (by kernel_rfl) (fun _ _ _ h => h) (Or.inl ⟨by rfl, ?yt22⟩) hHeld ?rt22
              case yt22 => intro w9 hSw; go_simp; first | done | with_reducible rfl
              try simp only [Act.put]
              refine wpAnyH_take (i := 6) (v := ?vt23) rfl (by kernel_rfl) (by kernel_rfl) (by kernel_rfl) (fun _ _ _ h => h) (Or.inl ⟨by rfl, ?yt23⟩) hHeld ?rt23
              case yt23 => intro w9 hSw; go_simp; first | done | with_reducible rfl
              try simp only [Act.put]
              refine wpAnyH_take (i := 7) (v := ?vt24) rfl (by kernel_rfl) (by kernel_rfl) (by kernel_rfl) (fun _ _ _ h => h) (Or.inl ⟨by rfl, ?yt24⟩) hHeld ?rt24
              case yt24 => intro w9 hSw; go_simp; first | done | with_reducible rfl
              try simp only [Act.put]
              refine wpAnyH_ready (rs := [1, 8]) (by kernel_rfl) (by simp) ?_
              refine (AllReadyH.cons rfl (fun K hK => ?_) (AllReadyH.cons rfl (fun K hK => ?_) AllReadyH.nil))
              · go_simp
                have hb1 : Below wd.heap.size wd (wd.alloc (Obj.cells #[Value.int IntKind.i64 (10)] 3)) := (Below.refl _ _).alloc (Nat.le_refl _) _
                have ha1 : Ar (wd.alloc (Obj.cells #[Value.int IntKind.i64 (10)] 3)) wd.heap.size .i64 3 [10] := Ar.new wd .i64 3 [10]
                have h' := hsl.below hb1
                clear hsl
                have hsl := h'
                clear h'
                have h' := hbw.trans (hb1.mono hbw.size)
                clear hbw hb1
                have hbw := h'
                clear h'
                refine hK.out _ _ trivial (fun hHeld => ?_)
                clear hK K
                try simp only [Act.put]
                generalize hW1 : (wd.alloc (Obj.cells #[Value.int IntKind.i64 (10)] 3)) = w1 at *
                generalize hG1 : wd.heap.size = g1 at *
                clear hW1 hG1
                refine wpAnyH_ready (rs := [2, 8]) (by kernel_rfl) (by simp) ?_
                refine (AllReadyH.cons rfl (fun K hK => ?_) (AllReadyH.cons rfl (fun K hK => ?_) AllReadyH.nil))
                · go_simp
                  go_at_call 104
                  refine (rtimesTen (v := v) (g := g1) hsl ha1 (by omega)).mono ?_
                  rintro e wm ⟨Am, cm, rfl, hsm, hbel⟩
                  have h' := hsl.below hbel
                  clear hsl
                  have hsl := h'
                  clear h'
                  have h' := ha1.below hbel ha1.lt
                  clear ha1
                  have ha1 := h'
                  clear h'
                  have h' := hbw.trans (hbel.mono hbw.size)
                  clear hbw hbel
                  have hbw := h'
                  clear h'
                  try go_wp2_with fail
                  refine hK.out _ _ trivial (fun hHeld => ?_)
                  clear hK K
                  try simp only [Act.put]
                  refine wpAnyH_ready (rs := [8]) (by kernel_rfl) (by simp) ?_
                  refine (AllReadyH.cons rfl (fun K hK => ?_) AllReadyH.nil)
                  go_simp
                  have hb8 : Below wm.heap.size wm (wm.alloc (Obj.cells #[Value.int IntKind.i64 (dd : Nat)] 3)) := (Below.refl _ _).alloc (Nat.le_refl _) _
                  have ha8 : Ar (wm.alloc (Obj.cells #[Value.int IntKind.i64 (dd : Nat)] 3)) wm.heap.size .i64 3 [dd] := Ar.new wm .i64 3 [dd]
                  have h' := hsm.below hb8
                  clear hsm
                  have hsm := h'
                  clear h'
                  have h' := hbw.trans (hb8.mono hbw.size)
                  clear hbw hb8
                  have hbw := h'
                  clear h'
                  refine hK.out _ _ trivial (fun hHeld => ?_)
                  clear hK K
                  try simp only [Act.put]
                  generalize hW8 : (wm.alloc (Obj.cells #[Value.int IntKind.i64 (dd : Nat)] 3)) = w8 at *
                  generalize hG8 : wm.heap.size = g8 at *
                  clear hW8 hG8
                  refine wpAnyH_ready (rs := [9]) (by kernel_rfl) (by simp) ?_
                  refine (AllReadyH.cons rfl (fun K hK => ?_) AllReadyH.nil)
                  go_simp
                  go_at_call 108
                  refine (rtrim_n (some ⟨g8, 0, none⟩) 1 1 [dd] _ dd (ha8.sl (by simp)) rfl (by omega) (by simpa using hd16) (by simp [val])).mono ?_
                  rintro e wt ⟨At, ct, rfl, hst, hbel⟩
                  have h' := hsm.below hbel
                  clear hsm
                  have hsm := h'
                  clear h'
                  have h' := hbw.trans (hbel.mono hbw.size)
                  clear hbw hbel
                  have hbw := h'
                  clear h'
                  try go_wp2_with fail
                  refine hK.out _ _ trivial (fun hHeld => ?_)
                  clear hK K
                  try simp only [Act.put]
                  refine wpAnyH_ready (rs := [10]) (by kernel_rfl) (by simp) ?_
                  refine (AllReadyH.cons rfl (fun K hK => ?_) AllReadyH.nil)
                  go_simp
                  go_at_call 99
                  refine (rplusD hsm hst (by omega) (by omega)).mono ?_
                  rintro e wa ⟨Aa, ca, rfl, hsa, hbel⟩
                  have h' := hbw.trans (hbel.mono hbw.size)
                  clear hbw hbel
                  have hbw := h'
                  clear h'
                  try go_wp2_with fail
                  refine hK.out _ _ trivial (fun hHeld => ?_)
                  clear hK K
                  try simp only [Act.put]
                  refine wpAnyH_take (i := 11) (v := ?vz25) rfl (by kernel_rfl) (by kernel_rfl) (by kernel_rfl) (fun _ _ _ h => h) (Or.inl ⟨by rfl, ?yz25⟩) hHeld ?rz25
                  case yz25 => intro w9 hSw; go_simp; first | done | with_reducible rfl
                  try simp only [Act.put]
                  refine wpAnyH_done (by kernel_rfl) ?_ _
                  clear hHeld
                  go_wp2
                  go_roundg (l.length - (kk + 1))
                  case rel => exact ⟨kk + 1, Aa, ca, ⟨by omega, by omega, by rw [HTK.out]; exact hsa, hbw⟩, congrArg (fun n => Value.slice Aa (D n).length ca) HTK.out.symm, congrArg Value.bool HNB.out, by go_num⟩
                  case measure => omega
                · go_simp
                  have hb8 : Below w1.heap.size w1 (w1.alloc (Obj.cells #[Value.int IntKind.i64 (dd : Nat)] 3)) := (Below.refl _ _).alloc (Nat.le_refl _) _
                  have ha8 : Ar (w1.alloc (Obj.cells #[Value.int IntKind.i64 (dd : Nat)] 3)) w1.heap.size .i64 3 [dd] := Ar.new w1 .i64 3 [dd]
                  have h' := hsl.below hb8
                  clear hsl
                  have hsl := h'
                  clear h'
                  have h' := ha1.below hb8 ha1.lt
                  clear ha1
                  have ha1 := h'
                  clear h'
                  have h' := hbw.trans (hb8.mono hbw.size)
                  clear hbw hb8
                  have hbw := h'
                  clear h'
                  refine hK.out _ _ trivial (fun hHeld => ?_)
                  clear hK K
                  try simp only [Act.put]
                  generalize hW8 : (w1.alloc (Obj.cells #[Value.int IntKind.i64 (dd : Nat)] 3)) = w8 at *
                  generalize hG8 : w1.heap.size = g8 at *
                  clear hW8 hG8
                  refine wpAnyH_ready (rs := [2]) (by kernel_rfl) (by simp) ?_
                  refine (AllReadyH.cons rfl (fun K hK => ?_) AllReadyH.nil)
                  go_simp
                  go_at_call 104
                  refine (rtimesTen (v := v) (g := g1) hsl ha1 (by omega)).mono ?_
                  rintro e wm ⟨Am, cm, rfl, hsm, hbel⟩
                  have h' := ha8.below hbel ha8.lt
                  clear ha8
                  have ha8 := h'
                  clear h'
                  have h' := hbw.trans (hbel.mono hbw.size)
                  clear hbw hbel
                  have hbw := h'
                  clear h'
                  try go_wp2_with fail
                  refine hK.out _ _ trivial (fun hHeld => ?_)
                  clear hK K
                  try simp only [Act.put]
                  refine wpAnyH_ready (rs := [9]) (by kernel_rfl) (by simp) ?_
                  refine (AllReadyH.cons rfl (fun K hK => ?_) AllReadyH.nil)
                  go_simp
                  go_at_call 108
                  refine (rtrim_n (some ⟨g8, 0, none⟩) 1 1 [dd] _ dd (ha8.sl (by simp)) rfl (by omega) (by simpa using hd16) (by simp [val])).mono ?_
                  rintro e wt ⟨At, ct, rfl, hst, hbel⟩
                  have h' := hsm.below hbel
                  clear hsm
                  have hsm := h'
                  clear h'
                  have h' := hbw.trans (hbel.mono hbw.size)
                  clear hbw hbel
                  have hbw := h'
                  clear h'
                  try go_wp2_with fail
                  refine hK.out _ _ trivial (fun hHeld => ?_)
                  clear hK K
                  try simp only [Act.put]
                  refine wpAnyH_ready (rs := [10]) (by kernel_rfl) (by simp) ?_
                  refine (AllReadyH.cons rfl (fun K hK => ?_) AllReadyH.nil)
                  go_simp
                  go_at_call 99
                  refine (rplusD hsm hst (by omega) (by omega)).mono ?_
                  rintro e wa ⟨Aa, ca, rfl, hsa, hbel⟩
                  have h' := hbw.trans (hbel.mono hbw.size)
                  clear hbw hbel
                  have hbw := h'
                  clear h'
                  try go_wp2_with fail
                  refine hK.out _ _ trivial (fun hHeld => ?_)
                  clear hK K
                  try simp only [Act.put]
                  refine wpAnyH_take (i := 11) (v := ?vz26) rfl (by kernel_rfl) (by kernel_rfl) (by kernel_rfl) (fun _ _ _ h => h) (Or.inl ⟨by rfl, ?yz26⟩) hHeld ?rz26
                  case yz26 => intro w9 hSw; go_simp; first | done | with_reducible rfl
                  try simp only [Act.put]
                  refine wpAnyH_done (by kernel_rfl) ?_ _
                  clear hHeld
                  go_wp2
                  go_roundg (l.length - (kk + 1))
                  case rel => exact ⟨kk + 1, Aa, ca, ⟨by omega, by omega, by rw [HTK.out]; exact hsa, hbw⟩, congrArg (fun n => Value.slice Aa (D n).length ca) HTK.out.symm, congrArg Value.bool HNB.out, by go_num⟩
                  case measure => omega
              · go_simp
                have hb8 : Below wd.heap.size wd (wd.alloc (Obj.cells #[Value.int IntKind.i64 (dd : Nat)] 3)) := (Below.refl _ _).alloc (Nat.le_refl _) _
                have ha8 : Ar (wd.alloc (Obj.cells #[Value.int IntKind.i64 (dd : Nat)] 3)) wd.heap.size .i64 3 [dd] := Ar.new wd .i64 3 [dd]
                have h' := hsl.below hb8
                clear hsl
                have hsl := h'
                clear h'
                have h' := hbw.trans (hb8.mono hbw.size)
                clear hbw hb8
                have hbw := h'
                clear h'
                refine hK.out _ _ trivial (fun hHeld => ?_)
                clear hK K
                try simp only [Act.put]
                generalize hW8 : (wd.alloc (Obj.cells #[Value.int IntKind.i64 (dd : Nat)] 3)) = w8 at *
                generalize hG8 : wd.heap.size = g8 at *
                clear hW8 hG8
                refine wpAnyH_ready (rs := [1]) (by kernel_rfl) (by simp) ?_
                refine (AllReadyH.cons rfl (fun K hK => ?_) AllReadyH.nil)
                go_simp
                have hb1 : Below w8.heap.size w8 (w8.alloc (Obj.cells #[Value.int IntKind.i64 (10)] 3)) := (Below.refl _ _).alloc (Nat.le_refl _) _
                have ha1 : Ar (w8.alloc (Obj.cells #[Value.int IntKind.i64 (10)] 3)) w8.heap.size .i64 3 [10] := Ar.new w8 .i64 3 [10]
                have h' := hsl.below hb1
                clear hsl
                have hsl := h'
                clear h'
                have h' := ha8.below hb1 ha8.lt
                clear ha8
                have ha8 := h'
                clear h'
                have h' := hbw.trans (hb1.mono hbw.size)
                clear hbw hb1
                have hbw := h'
                clear h'
                refine hK.out _ _ trivial (fun hHeld => ?_)
                clear hK K
                try simp only [Act.put]
                generalize hW1 : (w8.alloc (Obj.cells #[Value.int IntKind.i64 (10)] 3)) = w1 at *
                generalize hG1 : w8.heap.size = g1 at *
                clear hW1 hG1
                refine wpAnyH_ready (rs := [2]) (by kernel_rfl) (by simp) ?_
                refine (AllReadyH.cons rfl (fun K hK => ?_) AllReadyH.nil)
                go_simp
                go_at_call 104
                refine (rtimesTen (v := v) (g := g1) hsl ha1 (by omega)).mono ?_
                rintro e wm ⟨Am, cm, rfl, hsm, hbel⟩
                have h' := ha8.below hbel ha8.lt
                clear ha8
                have ha8 := h'
                clear h'
                have h' := hbw.trans (hbel.mono hbw.size)
                clear hbw hbel
                have hbw := h'
                clear h'
                try go_wp2_with fail
                refine hK.out _ _ trivial (fun hHeld => ?_)
                clear hK K
                try simp only [Act.put]
                refine wpAnyH_ready (rs := [9]) (by kernel_rfl) (by simp) ?_
                refine (AllReadyH.cons rfl (fun K hK => ?_) AllReadyH.nil)
                go_simp
                go_at_call 108
                refine (rtrim_n (some ⟨g8, 0, none⟩) 1 1 [dd] _ dd (ha8.sl (by simp)) rfl (by omega) (by simpa using hd16) (by simp [val])).mono ?_
                rintro e wt ⟨At, ct, rfl, hst, hbel⟩
                have h' := hsm.below hbel
                clear hsm
                have hsm := h'
                clear h'
                have h' := hbw.trans (hbel.mono hbw.size)
                clear hbw hbel
                have hbw := h'
                clear h'
                try go_wp2_with fail
                refine hK.out _ _ trivial (fun hHeld => ?_)
                clear hK K
                try simp only [Act.put]
                refine wpAnyH_ready (rs := [10]) (by kernel_rfl) (by simp) ?_
                refine (AllReadyH.cons rfl (fun K hK => ?_) AllReadyH.nil)
                go_simp
                go_at_call 99
                refine (rplusD hsm hst (by omega) (by omega)).mono ?_
                rintro e wa ⟨Aa, ca, rfl, hsa, hbel⟩
                have h' := hbw.trans (hbel.mono hbw.size)
                clear hbw hbel
                have hbw := h'
                clear h'
                try go_wp2_with fail
                refine hK.out _ _ trivial (fun hHeld => ?_)
                clear hK K
                try simp only [Act.put]
                refine wpAnyH_take (i := 11) (v := ?vz27) rfl (by kernel_rfl) (by kernel_rfl) (by kernel_rfl) (fun _ _ _ h => h) (Or.inl ⟨by rfl, ?yz27⟩) hHeld ?rz27
                case yz27 => intro w9 hSw; go_simp; first | done | with_reducible rfl
                try simp only [Act.put]
                refine wpAnyH_done (by kernel_rfl) ?_ _
                clear hHeld
                go_wp2
                go_roundg (l.length - (kk + 1))
                case rel => exact ⟨kk + 1, Aa, ca, ⟨by omega, by omega, by rw [HTK.out]; exact hsa, hbw⟩, congrArg (fun n => Value.slice Aa (D n).length ca) HTK.out.symm, congrArg Value.bool HNB.out, by go_num⟩
                case measure => omega
            · have HTK : Hid (fv (l.take (kk + 1)) = fv (l.take kk)) := Lib.hid (by rw [fv_take hlt, HC.out, if_neg (by simp [digB]; omega)])
              go_wp2
              go_roundg (l.length - (kk + 1))
              case rel => exact ⟨kk + 1, A1, c1, ⟨by omega, by omega, by rw [HTK.out]; exact hsl, hbw⟩, congrArg (fun n => Value.slice A1 (D n).length c1) HTK.out.symm, congrArg Value.bool HNB.out, by go_num⟩
              case measure => omega
          · have HTK : Hid (fv (l.take (kk + 1)) = fv (l.take kk)) := Lib.hid (by rw [fv_take hlt, HC.out, if_neg (by simp [digB]; omega)])
            go_wp2
            go_roundg (l.length - (kk + 1))
            case rel => exact ⟨kk + 1, A1, c1, ⟨by omega, by omega, by rw [HTK.out]; exact hsl, hbw⟩, congrArg (fun n => Value.slice A1 (D n).length c1) HTK.out.symm, congrArg Value.bool HNB.out, by go_num⟩
            case measure => omega
      · have hkl : kk = l.length := by omega
        subst hkl
        have hsz2 := HSS.out
        have hnl := neg_len (l := l)
        rw [hnl]
        rw [List.take_of_length_le (Nat.le_refl _)] at hsl hc1 hvl ⊢
        have HSL := Lib.hid hsl
        have HCL := Lib.hid (HR.out.below hbw (by have := HZ.out; omega))
        have HBW := Lib.hid (HB.out.trans (hbw.mono HB.out.size))
        have hgs : w.heap.size < wr.heap.size := by have := hbw.size; have := HZ.out; omega
        clear hsl hbw hnl
        go_wp2_with fail
        refine (madeD (neg := negB l) (n := fv l) HSL.out (by omega)).mono ?_
        obtain ⟨z, hz⟩ : ∃ z, (if negB l = true then -((fv l : Nat) : Int) else (fv l : Int)) = z := ⟨_, rfl⟩
        have hzn : z.natAbs = fv l := by rw [← hz, sgn_abs]
        have hzs : decide (z < 0) = (negB l && decide (fv l ≠ 0)) := by rw [← hz, sgn_neg]
        rw [hz]
        rintro e w4 ⟨v4, rfl, hi4, hb4⟩
        have HI4 := Lib.hid hi4
        obtain ⟨A4, c4, rfl, hs4⟩ := hi4
        have hbn : Below w4.heap.size w4 (w4.alloc (Obj.cells #[Value.bool (decide (z < 0)), Value.slice A4 (W z.natAbs).length c4] 24)) := (Below.refl _ _).alloc (Nat.le_refl _) _
        have hwl : (W z.natAbs).length ≤ 1000000 := by rw [hzn]; exact Nat.le_trans (ten_W (fv_lt l)) (by omega)
        have hin : IntIn (w4.alloc (Obj.cells #[Value.bool (decide (z < 0)), Value.slice A4 (W z.natAbs).length c4] 24)) (decide (z < 0)) A4 c4 (W z.natAbs) := ⟨hs4.below hbn, W_lt _, hwl⟩
        have HIN := Lib.hid hin
        have HC7 : Hid (Cl (w4.alloc (Obj.cells #[Value.bool (decide (z < 0)), Value.slice A4 (W z.natAbs).length c4] 24)) w4.heap.size (decide (z < 0)) A4 (W z.natAbs).length c4) := Lib.hid ⟨by simp [go_sem], by simp [go_sem], by simp [go_sem], by simp [go_sem]⟩
        have HI7 := Lib.hid (HI4.out.below hbn)
        have HCL7 := Lib.hid ((HCL.out.below hb4 hgs).below hbn (Nat.lt_of_lt_of_le hgs hb4.size))
        have HB7 := Lib.hid ((HBW.out.trans (hb4.mono HBW.out.size)).trans (hbn.mono (by have := HBW.out.size; have := hb4.size; omega)))
        have hg7 : w4.heap.size < (w4.alloc (Obj.cells #[Value.bool (decide (z < 0)), Value.slice A4 (W z.natAbs).length c4] 24)).heap.size := by simp
        have hgs7 : w.heap.size < w4.heap.size := Nat.lt_of_lt_of_le hgs hb4.size
        have htx : txt (decide (z < 0)) z.natAbs = txt (negB l && decide (fv l ≠ 0)) (fv l) := by rw [hzs, hzn]
        have HTX := Lib.hid htx
        have HZZ := Lib.hid hz
        have hiv : (iv (decide (z < 0)) (W z.natAbs)).natAbs = z.natAbs := by rw [iv_natAbs, val_W]
        have HIV := Lib.hid hiv
        clear hb4 hbn hs4 hin htx hz hzn hzs hiv HI4 HCL HBW HSL
        go_wp2_with fail
        generalize (w4.alloc (Obj.cells #[Value.bool (decide (z < 0)), Value.slice A4 (W z.natAbs).length c4] 24)) = W7 at *
        generalize w4.heap.size = g7 at *
        obtain ⟨q0, q1, -, -⟩ := HC7.out
        go_wp2_with fail
        refine (rformat_any (decide (z < 0)) A4 c4 (W z.natAbs) _ HIN.out).mono ?_
        rw [HIV.out]
        rintro e w8 ⟨rfl, hb8⟩
        rw [HTX.out]
        obtain ⟨q0', q1', -, -⟩ := HC7.out.below hb8 hg7
        have HCL8 := Lib.hid (HCL7.out.below hb8 (by omega))
        have HI8 := Lib.hid (HI7.out.below hb8)
        have HB8 := Lib.hid (HB7.out.trans (hb8.mono HB7.out.size))
        have hteq : ((str (txt (negB l && decide (fv l ≠ 0)) (fv l))).toList == s.toList) = decide (txt (negB l && decide (fv l ≠ 0)) (fv l) = l) := by
          rw [H.out.toList]
          exact Is.eql ⟨rfl, txt_lt _ _⟩ H.out.lt
        obtain ⟨p0, p1, p2, p3⟩ := HCL8.out
        clear hb8 q0 q1
        by_cases hok : txt (negB l && decide (fv l ≠ 0)) (fv l) = l
        · have hokb := txt_ok hok
          have HPZ : Hid (pz l = z) := Lib.hid (by rw [← ok_z hlen hokb]; exact HZZ.out)
          have HPE : Hid (pe l = 0) := Lib.hid (by unfold pe; rw [if_neg hlen, hokb]; rfl)
          rw [decide_eq_true hok] at hteq
          have hteq2 : ((str (txt (negB l && decide (fv l ≠ 0)) (fv l))).toList != s.toList) = false := by rw [bne, hteq]; rfl
          clear hok hokb
          generalize txt (negB l && decide (fv l ≠ 0)) (fv l) = tx at *
          go_wp2
          refine bodyPost_ret (v := .tuple #[.agg #[.bool (decide (z < 0)), .slice A4 (W z.natAbs).length c4], .int .i64 0]) (by simp [results, Try.results41, go_sem, p0, p1]) rfl ?_
          exact PsOut.stored HCL8.out (by rw [HPZ.out]; exact HI8.out) HB8.out (Nat.le_refl _) HPE.out.symm
        · have hokb : okB l = false := by
            cases hb : okB l with
            | false => rfl
            | true => exact absurd (ok_txt hb) hok
          have HPZ : Hid (pz l = 0) := Lib.hid (by unfold pz; rw [if_neg hlen, hokb]; rfl)
          have HPE : Hid (pe l = 7) := Lib.hid (by unfold pe; rw [if_neg hlen, hokb]; rfl)
          rw [decide_eq_false hok] at hteq
          have hteq2 : ((str (txt (negB l && decide (fv l ≠ 0)) (fv l))).toList != s.toList) = true := by rw [bne, hteq]; rfl
          clear hok hokb
          generalize txt (negB l && decide (fv l ≠ 0)) (fv l) = tx at *
          go_wp2
          refine bodyPost_ret (v := .tuple #[.agg #[.bool false, .slice none 0 0], .int .i64 7]) (by simp [results, Try.results41, go_sem, p0, p1]) rfl ?_
          first | exact PsOut.stored HCL8.out (by rw [HPZ.out]; exact IntIs.zero' _) HB8.out (Nat.le_refl _) HPE.out.symm | exact ⟨_, by rw [HPE.out], by rw [HPZ.out]; exact IntIs.zero' _, HB8.out⟩
end Go.Proofs.Ytcbdnnboddahkaa.Tx
