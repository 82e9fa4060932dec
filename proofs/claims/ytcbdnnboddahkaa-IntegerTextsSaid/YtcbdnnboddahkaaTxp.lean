/-
  WALKS: a text read, as the program does it.
-/
import Derived.Test.YtcbdnnboddahkaaTxa
import Derived.Test.YtcbdnnboddahkaaMulI
import Derived.Deep.RegionHeld3
namespace Go.Proofs.Ytcbdnnboddahkaa.Tx
open Go.RowKit Ws
set_option linter.unusedVariables false
set_option maxRecDepth 100000
def negB (l : List Nat) : Bool := decide (l.getD 0 0 = 45)
def body (l : List Nat) : List Nat := if negB l then l.tail else l
def okB (l : List Nat) : Bool := numB (body l) && !(negB l && decide (body l = [48]))
/-- the number with some digits, the highest first -/
def dv (d : List Nat) : Nat := d.foldl (fun a c => a * 10 + (c - 48)) 0
def pz (l : List Nat) : Int := if 400 < l.length then 0 else if okB l then (if negB l then -(dv (body l) : Int) else dv (body l)) else 0
def pe (l : List Nat) : Int := if 400 < l.length then 8 else if okB l then 0 else 7
def PsOut (l : List Nat) (w : World) (e : Ending) (w' : World) : Prop := ∃ v, e = .returned (.tuple #[v, .int .i64 (pe l)]) ∧ IntIs w' (pz l) v ∧ Below w.heap.size w w'
def sg (b : Bool) (n : Nat) : Int := if b then -(n : Int) else n
theorem iv_sg (b : Bool) (n : Nat) : iv b (W n) = sg b n := iv_W b n
theorem PsOut.stored {l : List Nat} {w0 w : World} {g : Nat} {b b' : Bool} {A A' : Option Addr} {n c n' c' : Nat} {q : Int} (h : Cl w g b A n c) (hi : IntIs w (pz l) (.agg #[.bool b', .slice A' n' c'])) (hb : Below w0.heap.size w0 w) (hg : w0.heap.size ≤ g) (hq : q = pe l) :
    PsOut l w0 (.returned (.tuple #[.agg #[.bool b', .slice A' n' c'], .int .i64 q])) ((w.setCell ⟨g, 0, none⟩ (.bool b')).setCell ⟨g, 1, none⟩ (.slice A' n' c')) := by
  subst hq
  obtain ⟨v, e, hi', hb'⟩ := Cl.stored h hi hb hg
  injection e with e
  subst e
  exact ⟨_, rfl, hi', hb'⟩
theorem IntIs.zero' (w : World) : IntIs w 0 (.agg #[.bool false, .slice none 0 0]) := ⟨none, 0, rfl, Sl.nil_⟩
theorem dv_take {d : List Nat} {k : Nat} (hk : k < d.length) : dv (d.take (k + 1)) = dv (d.take k) * 10 + (d.getD k 0 - 48) := by
  unfold dv
  rw [List.take_succ_eq_append_getElem hk, List.foldl_append, List.getD_eq_getElem?_getD, List.getElem?_eq_getElem hk]
  rfl
theorem dv_lt : ∀ {d : List Nat}, (∀ c ∈ d, c ≤ 57) → dv d < 10 ^ d.length := by
  have key : ∀ (d : List Nat) (a k : Nat), (∀ c ∈ d, c ≤ 57) → a < 10 ^ k → d.foldl (fun a c => a * 10 + (c - 48)) a < 10 ^ (k + d.length) := by
    intro d
    induction d with
    | nil => intro a k _ h; exact h
    | cons c d ih =>
      intro a k hc ha
      have := ih (a * 10 + (c - 48)) (k + 1) (fun x hx => hc x (by simp [hx])) (by have := hc c (by simp); rw [Nat.pow_succ]; omega)
      rw [List.foldl_cons, List.length_cons, show k + (d.length + 1) = k + 1 + d.length from by omega]
      exact this
  intro d hd
  have := key d 0 0 hd (by decide)
  rw [Nat.zero_add] at this
  exact this
theorem mulTen {A : Option Addr} {c v g : Nat} {w : World} (hx : Sl w .u32 A c (W v)) (hy : Ar w g .u32 113 [10]) (h : (W v).length ≤ 4294967296) :
    Calls Try.prog 103 #[.slice A (W v).length c, .slice (some ⟨g, 0, none⟩) 1 1] w fun e w' => SlOut w .u32 (W (v * 10)) e w' := by
  have h1 := mul_any A (some ⟨g, 0, none⟩) c 1 (W v) [10] w hx (hy.sl (by simp)) (W_lt v) (by simp) h (by simp)
  rw [val_W, show val 4294967296 [10] = 10 from by simp [val]] at h1
  exact h1
theorem ten_W {v k : Nat} (h : v < 10 ^ k) : (W v).length ≤ k := by
  refine W_len_lt ?_
  exact Nat.lt_of_lt_of_le h (Nat.pow_le_pow_left (by decide) k)
theorem Is.tail {s : ByteArray} {l : List Nat} (h : Is s l) : Is (s.extract 1 s.size) l.tail := by
  obtain ⟨rfl, hl⟩ := h
  refine ⟨?_, fun x hx => hl x (List.mem_of_mem_tail hx)⟩
  rw [str_size]
  unfold str
  rw [ByteArray.extract_mk]
  congr 1
  cases l with
  | nil => simp
  | cons x t => simp [List.take_of_length_le]
theorem num_dig {d : List Nat} (h : numB d = true) : ∀ k, k < d.length → ∃ x, d.getD k 0 = x + 48 ∧ x ≤ 9 := by
  intro k hk
  unfold numB at h
  rw [Bool.and_eq_true] at h
  have := List.all_eq_true.1 h.1 d[k] (List.getElem_mem hk)
  unfold digB at this
  rw [Bool.and_eq_true, decide_eq_true_iff, decide_eq_true_iff] at this
  rw [List.getD_eq_getElem?_getD, List.getElem?_eq_getElem hk]
  exact ⟨d[k] - 48, by show d[k] = _; omega, by omega⟩
theorem num_le {d : List Nat} (h : numB d = true) : ∀ c ∈ d, c ≤ 57 := by
  intro c hc
  unfold numB at h
  rw [Bool.and_eq_true] at h
  have := List.all_eq_true.1 h.1 c hc
  unfold digB at this
  rw [Bool.and_eq_true, decide_eq_true_iff, decide_eq_true_iff] at this
  omega
set_option maxHeartbeats 2000000 in
theorem parse_any (s : ByteArray) (l : List Nat) (w : World) (h : Is s l) (hl : l.length ≤ 1000000000) :
    Calls Try.prog 40 #[.string s] w fun e w' => PsOut l w e w' := by
  have hB : Below w.heap.size w (w.alloc (Obj.cells #[Value.bool false, Value.slice none 0 0] 24)) := by go_grown
  have hR : Cl (w.alloc (Obj.cells #[Value.bool false, Value.slice none 0 0] 24)) w.heap.size false none 0 0 :=
    ⟨by simp [go_sem], by simp [go_sem], by simp [go_sem], by simp [go_sem]⟩
  have hZ : (w.alloc (Obj.cells #[Value.bool false, Value.slice none 0 0] 24)).heap.size = w.heap.size + 1 := by simp
  have hsz := h.size
  have hsm : s.size ≤ 1000000000 := by omega
  have H := Lib.hid h
  have HB := Lib.hid hB
  have HR := Lib.hid hR
  have HZ := Lib.hid hZ
  have HSS := Lib.hid hsz
  clear h hB hR hZ
  by_cases hlen : 400 < l.length
  · have HPZ : Hid (pz l = 0) := Lib.hid (by unfold pz; rw [if_pos hlen])
    have HPE : Hid (pe l = 8) := Lib.hid (by unfold pe; rw [if_pos hlen])
    have hs400 : 400 < s.size := by omega
    clear hsz
    go_enter Try.func40, Try.ntmps40
    go_wp2_with fail
    generalize (w.alloc (Obj.cells #[Value.bool false, Value.slice none 0 0] 24)) = W0 at *
    obtain ⟨r0, r1, r2, r3⟩ := HR.out
    go_wp2
    refine bodyPost_ret (v := .tuple #[.agg #[.bool false, .slice none 0 0], .int .i64 8]) (by simp [results, Try.results40, go_sem, r0, r1]) rfl ?_
    first | exact ⟨_, by rw [HPE.out], by rw [HPZ.out]; exact IntIs.zero' _, HB.out⟩ | exact PsOut.stored HR.out (by rw [HPZ.out]; exact IntIs.zero' _) HB.out (Nat.le_refl _) HPE.out.symm
  · have hs400 : s.size ≤ 400 := by omega
    clear hsz
    by_cases hs0 : 0 < s.size
    · obtain ⟨c0, hc0⟩ : ∃ c0, l.getD 0 0 = c0 := ⟨_, rfl⟩
      have hget0 : s[0].toNat = c0 := by rw [H.out.get hs0, hc0]
      by_cases hc45 : c0 = 45
      · subst hc45
        have hneg : negB l = true := by unfold negB; rw [hc0]; rfl
        obtain ⟨d, hd⟩ : ∃ d, l.tail = d := ⟨_, rfl⟩
        have hbody : body l = d := by unfold body; rw [hneg, ← hd]; rfl
        have HDS : Hid (Is (s.extract 1 s.size) d) := Lib.hid (hd ▸ H.out.tail)
        have hdl0 : d.length ≤ 400 := by rw [← hd]; simp; have := HSS.out; omega
        clear hc0 hd
        obtain ⟨ds, hds⟩ : ∃ ds, s.extract 1 s.size = ds := ⟨_, rfl⟩
        rw [hds] at HDS
        go_enter Try.func40, Try.ntmps40
        go_wp2_with fail
        generalize (w.alloc (Obj.cells #[Value.bool false, Value.slice none 0 0] 24)) = W0 at *
        obtain ⟨r0, r1, r2, r3⟩ := HR.out
        go_wp2_with fail
        refine (isnum_any ds d _ HDS.out (by omega)).mono ?_
        cases hnum : numB d with
        | false =>
          rintro e w1 ⟨rfl, rfl⟩
          have hok : okB l = false := by unfold okB; rw [hbody, hnum]; rfl
          have HPZ : Hid (pz l = 0) := Lib.hid (by unfold pz; rw [if_neg (by omega), hok]; rfl)
          have HPE : Hid (pe l = 7) := Lib.hid (by unfold pe; rw [if_neg (by omega), hok]; rfl)
          go_wp2
          refine bodyPost_ret (v := .tuple #[.agg #[.bool false, .slice none 0 0], .int .i64 7]) (by simp [results, Try.results40, go_sem, r0, r1]) rfl ?_
          first | exact ⟨_, by rw [HPE.out], by rw [HPZ.out]; exact IntIs.zero' _, HB.out⟩ | exact PsOut.stored HR.out (by rw [HPZ.out]; exact IntIs.zero' _) HB.out (Nat.le_refl _) HPE.out.symm
        | true =>
          rintro e w1 ⟨rfl, rfl⟩
          have h48 := HDS.out.eq48
          by_cases hz : d = [48]
          · rw [decide_eq_true hz] at h48
            have hok : okB l = false := by unfold okB; rw [hbody, hnum, hneg, hz]; rfl
            have HPZ : Hid (pz l = 0) := Lib.hid (by unfold pz; rw [if_neg (by omega), hok]; rfl)
            have HPE : Hid (pe l = 7) := Lib.hid (by unfold pe; rw [if_neg (by omega), hok]; rfl)
            clear hz
            go_wp2
            refine bodyPost_ret (v := .tuple #[.agg #[.bool false, .slice none 0 0], .int .i64 7]) (by simp [results, Try.results40, go_sem, r0, r1]) rfl ?_
            first | exact ⟨_, by rw [HPE.out], by rw [HPZ.out]; exact IntIs.zero' _, HB.out⟩ | exact PsOut.stored HR.out (by rw [HPZ.out]; exact IntIs.zero' _) HB.out (Nat.le_refl _) HPE.out.symm
          · rw [decide_eq_false hz] at h48
            have hok : okB l = true := by unfold okB; rw [hbody, hnum, hneg, decide_eq_false hz]; rfl
            have HPZ : Hid (pz l = sg true (dv d)) := Lib.hid (by unfold pz; rw [if_neg (by omega), hok, hneg, hbody]; rfl)
            have HPE : Hid (pe l = 0) := Lib.hid (by unfold pe; rw [if_neg (by omega), hok]; rfl)
            clear hz
            have hdl := hdl0
            have HND := Lib.hid (num_dig hnum)
            have HNL := Lib.hid (num_le hnum)
            have hsb : ds.size ≤ 400 := by have := HDS.out.size; omega
            have HSZ := Lib.hid HDS.out.size
            go_wp2
            go_loopg [6, 7, 37] d.length (fun gg t6 _ t37 wr => ∃ (kk : Nat) (A1 : Option Addr) (c1 : Nat), (kk ≤ d.length ∧ d.length - kk ≤ gg ∧ Sl wr .u32 A1 c1 (W (dv (d.take kk))) ∧ Below W0.heap.size W0 wr) ∧ t6 = .slice A1 (W (dv (d.take kk))).length c1 ∧ t37 = .int .i64 kk)
            case atStart => exact ⟨0, none, 0, ⟨Nat.zero_le _, by omega, Sl.nil_, Below.refl _ _⟩, rfl, rfl⟩
            case round =>
              obtain ⟨kk, A1, c1, ⟨hk, hg, hsl, hbw⟩, rfl, rfl⟩ := hrel
              have hc1 := hsl.le
              have hc1m := hsl.max
              by_cases hlt : kk < d.length
              · obtain ⟨dd, hdd, hd9⟩ := HND.out kk hlt
                have hks : kk < ds.size := by have := HSZ.out; omega
                have hget : ds[kk].toNat = dd + 48 := by rw [HDS.out.get hks, hdd]
                have hvl : (W (dv (d.take kk))).length ≤ 400 := Nat.le_trans (ten_W (dv_lt fun c hc => HNL.out c (List.mem_of_mem_take hc))) (by simp; omega)
                have HTK : Hid (dv (d.take (kk + 1)) = dv (d.take kk) * 10 + dd) := Lib.hid (by rw [dv_take hlt, hdd]; omega)
                have hvl2 : (W (dv (d.take kk) * 10)).length ≤ 4294967296 := by
                  have h1 : dv (d.take kk) < 10 ^ (d.take kk).length := dv_lt fun c hc => HNL.out c (List.mem_of_mem_take hc)
                  have h2 : dv (d.take kk) * 10 < 10 ^ ((d.take kk).length + 1) := by rw [Nat.pow_succ]; omega
                  have := ten_W h2
                  simp at this
                  omega
                have hdl1 : (W dd).length ≤ 4294967296 := by have := ten_W (v := dd) (k := 1) (by omega); omega
                have hd32 : dd < 4294967296 := by omega
                have hw8 : IntKind.u8.wrap (dd : Int) = dd := by simp only [IntKind.wrap_u8]; omega
                have hw32 : IntKind.u32.wrap (dd : Int) = dd := by simp only [IntKind.wrap_u32]; omega
                generalize dv (d.take kk) = v at *
                clear hdd
                go_wp2_with fail
                have h' : Sl wr.drew .u32 A1 c1 (W v) := hsl.drewN 1
                clear hsl
                have hsl := h'
                clear h'
                have h' : Below W0.heap.size W0 wr.drew := below_drawn hbw 1
                clear hbw
                have hbw := h'
                clear h'
                refine wp_region_held_drew (S := fun _ => True) (by kernel_rfl) trivial (fun hHeld => ?_)
                generalize wr.drew = wd at *
                refine wpAnyH_take (i := 0) (v := ?vt1) rfl (by kernel_rfl) (by kernel_rfl) (by kernel_rfl) (fun _ _ _ h => h) (Or.inl ⟨by rfl, ?yt1⟩) hHeld ?rt1
                case yt1 => intro w9 hSw; go_simp; first | done | with_reducible rfl
                try simp only [Act.put]
                refine wpAnyH_take (i := 3) (v := ?vt2) rfl (by kernel_rfl) (by kernel_rfl) (by kernel_rfl) (fun _ _ _ h => h) (Or.inl ⟨by rfl, ?yt2⟩) hHeld ?rt2
                case yt2 => intro w9 hSw; go_simp; first | done | with_reducible rfl
                try simp only [Act.put]
                refine wpAnyH_take (i := 4) (v := ?vt3) rfl (by kernel_rfl) (by kernel_rfl) (by kernel_rfl) (fun _ _ _ h => h) (Or.inl ⟨by rfl, ?yt3⟩) hHeld ?rt3
                case yt3 => intro w9 hSw; go_simp; first | done | with_reducible rfl
                try simp only [Act.put]
                refine wpAnyH_take (i := 5) (v := ?vt4) rfl (by kernel_rfl) (by kernel_rfl) (by kernel_rfl) (fun _ _ _ h => h) (Or.inl ⟨by rfl, ?yt4⟩) hHeld ?rt4
                case yt4 => intro w9 hSw; go_simp; first | done | with_reducible rfl
                try simp only [Act.put]
                refine wpAnyH_take (i := 6) (v := ?vt5) rfl (by kernel_rfl) (by kernel_rfl) (by kernel_rfl) (fun _ _ _ h => h) (Or.inl ⟨by rfl, ?yt5⟩) hHeld ?rt5
                case yt5 => intro w9 hSw; go_simp; first | done | with_reducible rfl
                try simp only [Act.put]
                refine wpAnyH_take (i := 7) (v := ?vt6) rfl (by kernel_rfl) (by kernel_rfl) (by kernel_rfl) (fun _ _ _ h => h) (Or.inl ⟨by rfl, ?yt6⟩) hHeld ?rt6
                case yt6 => intro w9 hSw; go_simp; first | done | with_reducible rfl
                try simp only [Act.put]
                refine wpAnyH_ready (rs := [1, 8]) (by kernel_rfl) (by simp) ?_
                refine (AllReadyH.cons rfl (fun K hK => ?_) (AllReadyH.cons rfl (fun K hK => ?_) AllReadyH.nil))
                · go_simp
                  have hb1 : Below wd.heap.size wd (wd.alloc (Obj.cells #[Value.int IntKind.u32 (10)] 113)) := (Below.refl _ _).alloc (Nat.le_refl _) _
                  have ha1 : Ar (wd.alloc (Obj.cells #[Value.int IntKind.u32 (10)] 113)) wd.heap.size .u32 113 [10] := Ar.new wd .u32 113 [10]
                  have h' := hsl.below hb1
                  clear hsl
                  have hsl := h'
                  clear h'
                  have h' := hbw.trans (hb1.mono hbw.size)
                  clear hbw hb1
                  have hbw := h'
                  clear h'
                  refine hK.out _ _ trivial (fun hHeld => ?_)
                  clear hK K
                  try simp only [Act.put]
                  generalize hW1 : (wd.alloc (Obj.cells #[Value.int IntKind.u32 (10)] 113)) = w1 at *
                  generalize hG1 : wd.heap.size = g1 at *
                  clear hW1 hG1
                  refine wpAnyH_ready (rs := [2, 8]) (by kernel_rfl) (by simp) ?_
                  refine (AllReadyH.cons rfl (fun K hK => ?_) (AllReadyH.cons rfl (fun K hK => ?_) AllReadyH.nil))
                  · go_simp
                    go_at_call 103
                    refine (mulTen (v := v) (g := g1) hsl ha1 (by omega)).mono ?_
                    rintro e wm ⟨Am, cm, rfl, hsm, hbel⟩
                    have h' := hsl.below hbel
                    clear hsl
                    have hsl := h'
                    clear h'
                    have h' := ha1.below hbel ha1.lt
                    clear ha1
                    have ha1 := h'
                    clear h'
                    have h' := hbw.trans (hbel.mono hbw.size)
                    clear hbw hbel
                    have hbw := h'
                    clear h'
                    try go_wp2_with fail
                    refine hK.out _ _ trivial (fun hHeld => ?_)
                    clear hK K
                    try simp only [Act.put]
                    refine wpAnyH_ready (rs := [8]) (by kernel_rfl) (by simp) ?_
                    refine (AllReadyH.cons rfl (fun K hK => ?_) AllReadyH.nil)
                    go_simp
                    have hb8 : Below wm.heap.size wm (wm.alloc (Obj.cells #[Value.int IntKind.u32 (dd : Nat)] 113)) := (Below.refl _ _).alloc (Nat.le_refl _) _
                    have ha8 : Ar (wm.alloc (Obj.cells #[Value.int IntKind.u32 (dd : Nat)] 113)) wm.heap.size .u32 113 [dd] := Ar.new wm .u32 113 [dd]
                    have h' := hsm.below hb8
                    clear hsm
                    have hsm := h'
                    clear h'
                    have h' := hbw.trans (hb8.mono hbw.size)
                    clear hbw hb8
                    have hbw := h'
                    clear h'
                    refine hK.out _ _ trivial (fun hHeld => ?_)
                    clear hK K
                    try simp only [Act.put]
                    generalize hW8 : (wm.alloc (Obj.cells #[Value.int IntKind.u32 (dd : Nat)] 113)) = w8 at *
                    generalize hG8 : wm.heap.size = g8 at *
                    clear hW8 hG8
                    refine wpAnyH_ready (rs := [9]) (by kernel_rfl) (by simp) ?_
                    refine (AllReadyH.cons rfl (fun K hK => ?_) AllReadyH.nil)
                    go_simp
                    go_at_call 88
                    refine (trim_ar g8 1 113 [dd] dd _ ha8 rfl (by omega) (by simpa using hd32) (by simp [val])).mono ?_
                    rintro e wt ⟨rfl, hst, rfl⟩
                    try go_wp2_with fail
                    refine hK.out _ _ trivial (fun hHeld => ?_)
                    clear hK K
                    try simp only [Act.put]
                    refine wpAnyH_ready (rs := [10]) (by kernel_rfl) (by simp) ?_
                    refine (AllReadyH.cons rfl (fun K hK => ?_) AllReadyH.nil)
                    go_simp
                    go_at_call 97
                    refine (addW hsm hst (by omega) (by omega)).mono ?_
                    rintro e wa ⟨Aa, ca, rfl, hsa, hbel⟩
                    have h' := hbw.trans (hbel.mono hbw.size)
                    clear hbw hbel
                    have hbw := h'
                    clear h'
                    try go_wp2_with fail
                    refine hK.out _ _ trivial (fun hHeld => ?_)
                    clear hK K
                    try simp only [Act.put]
                    refine wpAnyH_take (i := 11) (v := ?vz7) rfl (by kernel_rfl) (by kernel_rfl) (by kernel_rfl) (fun _ _ _ h => h) (Or.inl ⟨by rfl, ?yz7⟩) hHeld ?rz7
                    case yz7 => intro w9 hSw; go_simp; first | done | with_reducible rfl
                    try simp only [Act.put]
                    refine wpAnyH_done (by kernel_rfl) ?_ _
                    clear hHeld
                    go_wp2
                    go_roundg (d.length - (kk + 1))
                    case rel => exact ⟨kk + 1, Aa, ca, ⟨by omega, by omega, by rw [HTK.out]; exact hsa, hbw⟩, congrArg (fun n => Value.slice Aa (W n).length ca) HTK.out.symm, by go_num⟩
                    case measure => omega
                  · go_simp
                    have hb8 : Below w1.heap.size w1 (w1.alloc (Obj.cells #[Value.int IntKind.u32 (dd : Nat)] 113)) := (Below.refl _ _).alloc (Nat.le_refl _) _
                    have ha8 : Ar (w1.alloc (Obj.cells #[Value.int IntKind.u32 (dd : Nat)] 113)) w1.heap.size .u32 113 [dd] := Ar.new w1 .u32 113 [dd]
                    have h' := hsl.below hb8
                    clear hsl
                    have hsl := h'
                    clear h'
                    have h' := ha1.below hb8 ha1.lt
                    clear ha1
                    have ha1 := h'
                    clear h'
                    have h' := hbw.trans (hb8.mono hbw.size)
                    clear hbw hb8
                    have hbw := h'
                    clear h'
                    refine hK.out _ _ trivial (fun hHeld => ?_)
                    clear hK K
                    try simp only [Act.put]
                    generalize hW8 : (w1.alloc (Obj.cells #[Value.int IntKind.u32 (dd : Nat)] 113)) = w8 at *
                    generalize hG8 : w1.heap.size = g8 at *
                    clear hW8 hG8
                    refine wpAnyH_ready (rs := [2]) (by kernel_rfl) (by simp) ?_
                    refine (AllReadyH.cons rfl (fun K hK => ?_) AllReadyH.nil)
                    go_simp
                    go_at_call 103
                    refine (mulTen (v := v) (g := g1) hsl ha1 (by omega)).mono ?_
                    rintro e wm ⟨Am, cm, rfl, hsm, hbel⟩
                    have h' := ha8.below hbel ha8.lt
                    clear ha8
                    have ha8 := h'
                    clear h'
                    have h' := hbw.trans (hbel.mono hbw.size)
                    clear hbw hbel
                    have hbw := h'
                    clear h'
                    try go_wp2_with fail
                    refine hK.out _ _ trivial (fun hHeld => ?_)
                    clear hK K
                    try simp only [Act.put]
                    refine wpAnyH_ready (rs := [9]) (by kernel_rfl) (by simp) ?_
                    refine (AllReadyH.cons rfl (fun K hK => ?_) AllReadyH.nil)
                    go_simp
                    go_at_call 88
                    refine (trim_ar g8 1 113 [dd] dd _ ha8 rfl (by omega) (by simpa using hd32) (by simp [val])).mono ?_
                    rintro e wt ⟨rfl, hst, rfl⟩
                    try go_wp2_with fail
                    refine hK.out _ _ trivial (fun hHeld => ?_)
                    clear hK K
                    try simp only [Act.put]
                    refine wpAnyH_ready (rs := [10]) (by kernel_rfl) (by simp) ?_
                    refine (AllReadyH.cons rfl (fun K hK => ?_) AllReadyH.nil)
                    go_simp
                    go_at_call 97
                    refine (addW hsm hst (by omega) (by omega)).mono ?_
                    rintro e wa ⟨Aa, ca, rfl, hsa, hbel⟩
                    have h' := hbw.trans (hbel.mono hbw.size)
                    clear hbw hbel
                    have hbw := h'
                    clear h'
                    try go_wp2_with fail
                    refine hK.out _ _ trivial (fun hHeld => ?_)
                    clear hK K
                    try simp only [Act.put]
                    refine wpAnyH_take (i := 11) (v := ?vz8) rfl (by kernel_rfl) (by kernel_rfl) (by kernel_rfl) (fun _ _ _ h => h) (Or.inl ⟨by rfl, ?yz8⟩) hHeld ?rz8
                    case yz8 => intro w9 hSw; go_simp; first | done | with_reducible rfl
                    try simp only [Act.put]
                    refine wpAnyH_done (by kernel_rfl) ?_ _
                    clear hHeld
                    go_wp2
                    go_roundg (d.length - (kk + 1))
                    case rel => exact ⟨kk + 1, Aa, ca, ⟨by omega, by omega, by rw [HTK.out]; exact hsa, hbw⟩, congrArg (fun n => Value.slice Aa (W n).length ca) HTK.out.symm, by go_num⟩
                    case measure => omega
                · go_simp
                  have hb8 : Below wd.heap.size wd (wd.alloc (Obj.cells #[Value.int IntKind.u32 (dd : Nat)] 113)) := (Below.refl _ _).alloc (Nat.le_refl _) _
                  have ha8 : Ar (wd.alloc (Obj.cells #[Value.int IntKind.u32 (dd : Nat)] 113)) wd.heap.size .u32 113 [dd] := Ar.new wd .u32 113 [dd]
                  have h' := hsl.below hb8
                  clear hsl
                  have hsl := h'
                  clear h'
                  have h' := hbw.trans (hb8.mono hbw.size)
                  clear hbw hb8
                  have hbw := h'
                  clear h'
                  refine hK.out _ _ trivial (fun hHeld => ?_)
                  clear hK K
                  try simp only [Act.put]
                  generalize hW8 : (wd.alloc (Obj.cells #[Value.int IntKind.u32 (dd : Nat)] 113)) = w8 at *
                  generalize hG8 : wd.heap.size = g8 at *
                  clear hW8 hG8
                  refine wpAnyH_ready (rs := [1]) (by kernel_rfl) (by simp) ?_
                  refine (AllReadyH.cons rfl (fun K hK => ?_) AllReadyH.nil)
                  go_simp
                  have hb1 : Below w8.heap.size w8 (w8.alloc (Obj.cells #[Value.int IntKind.u32 (10)] 113)) := (Below.refl _ _).alloc (Nat.le_refl _) _
                  have ha1 : Ar (w8.alloc (Obj.cells #[Value.int IntKind.u32 (10)] 113)) w8.heap.size .u32 113 [10] := Ar.new w8 .u32 113 [10]
                  have h' := hsl.below hb1
                  clear hsl
                  have hsl := h'
                  clear h'
                  have h' := ha8.below hb1 ha8.lt
                  clear ha8
                  have ha8 := h'
                  clear h'
                  have h' := hbw.trans (hb1.mono hbw.size)
                  clear hbw hb1
                  have hbw := h'
                  clear h'
                  refine hK.out _ _ trivial (fun hHeld => ?_)
                  clear hK K
                  try simp only [Act.put]
                  generalize hW1 : (w8.alloc (Obj.cells #[Value.int IntKind.u32 (10)] 113)) = w1 at *
                  generalize hG1 : w8.heap.size = g1 at *
                  clear hW1 hG1
                  refine wpAnyH_ready (rs := [2]) (by kernel_rfl) (by simp) ?_
                  refine (AllReadyH.cons rfl (fun K hK => ?_) AllReadyH.nil)
                  go_simp
                  go_at_call 103
                  refine (mulTen (v := v) (g := g1) hsl ha1 (by omega)).mono ?_
                  rintro e wm ⟨Am, cm, rfl, hsm, hbel⟩
                  have h' := ha8.below hbel ha8.lt
                  clear ha8
                  have ha8 := h'
                  clear h'
                  have h' := hbw.trans (hbel.mono hbw.size)
                  clear hbw hbel
                  have hbw := h'
                  clear h'
                  try go_wp2_with fail
                  refine hK.out _ _ trivial (fun hHeld => ?_)
                  clear hK K
                  try simp only [Act.put]
                  refine wpAnyH_ready (rs := [9]) (by kernel_rfl) (by simp) ?_
                  refine (AllReadyH.cons rfl (fun K hK => ?_) AllReadyH.nil)
                  go_simp
                  go_at_call 88
                  refine (trim_ar g8 1 113 [dd] dd _ ha8 rfl (by omega) (by simpa using hd32) (by simp [val])).mono ?_
                  rintro e wt ⟨rfl, hst, rfl⟩
                  try go_wp2_with fail
                  refine hK.out _ _ trivial (fun hHeld => ?_)
                  clear hK K
                  try simp only [Act.put]
                  refine wpAnyH_ready (rs := [10]) (by kernel_rfl) (by simp) ?_
                  refine (AllReadyH.cons rfl (fun K hK => ?_) AllReadyH.nil)
                  go_simp
                  go_at_call 97
                  refine (addW hsm hst (by omega) (by omega)).mono ?_
                  rintro e wa ⟨Aa, ca, rfl, hsa, hbel⟩
                  have h' := hbw.trans (hbel.mono hbw.size)
                  clear hbw hbel
                  have hbw := h'
                  clear h'
                  try go_wp2_with fail
                  refine hK.out _ _ trivial (fun hHeld => ?_)
                  clear hK K
                  try simp only [Act.put]
                  refine wpAnyH_take (i := 11) (v := ?vz9) rfl (by kernel_rfl) (by kernel_rfl) (by kernel_rfl) (fun _ _ _ h => h) (Or.inl ⟨by rfl, ?yz9⟩) hHeld ?rz9
                  case yz9 => intro w9 hSw; go_simp; first | done | with_reducible rfl
                  try simp only [Act.put]
                  refine wpAnyH_done (by kernel_rfl) ?_ _
                  clear hHeld
                  go_wp2
                  go_roundg (d.length - (kk + 1))
                  case rel => exact ⟨kk + 1, Aa, ca, ⟨by omega, by omega, by rw [HTK.out]; exact hsa, hbw⟩, congrArg (fun n => Value.slice Aa (W n).length ca) HTK.out.symm, by go_num⟩
                  case measure => omega
              · have hkl : kk = d.length := by omega
                subst hkl
                have hsz2 := HSZ.out
                rw [List.take_of_length_le (Nat.le_refl _)] at hsl hc1 ⊢
                have hcl := HR.out.below hbw (by have := HZ.out; omega)
                have HCL := Lib.hid hcl
                have HSL := Lib.hid hsl
                have HBW := Lib.hid (HB.out.trans (hbw.mono HB.out.size))
                have hsw := hbw.size
                clear hsl hbw hcl
                go_wp2_with fail
                refine (signed_any true A1 c1 (W (dv d)) _ HSL.out (W_lt _)).mono ?_
                rw [iv_sg, ← HPZ.out]
                rintro e w4 ⟨v4, rfl, hi4, hb4⟩
                have hcl4 := HCL.out.below hb4 (by have := HZ.out; omega)
                have HB4 := Lib.hid (HBW.out.trans (hb4.mono HBW.out.size))
                have HI4 := Lib.hid hi4
                obtain ⟨A4, c4, rfl, -⟩ := hi4
                have HC4 := Lib.hid hcl4
                obtain ⟨q0, q1, q2, q3⟩ := hcl4
                clear hb4
                go_wp2
                refine bodyPost_ret (v := .tuple #[.agg #[.bool (decide (pz l < 0)), .slice A4 (W (pz l).natAbs).length c4], .int .i64 0]) (by simp [results, Try.results40, go_sem, q0, q1]) rfl ?_
                exact PsOut.stored HC4.out HI4.out HB4.out (Nat.le_refl _) HPE.out.symm
      · have hneg : negB l = false := by unfold negB; rw [hc0]; exact decide_eq_false hc45
        have hne : ((c0 : Int) == 45) = false := by rw [beq_eq_false_iff_ne]; omega
        obtain ⟨d, hd⟩ : ∃ d, l = d := ⟨_, rfl⟩
        have hbody : body l = d := by unfold body; rw [hneg, ← hd]; rfl
        obtain ⟨ds, rfl⟩ : ∃ ds, ds = s := ⟨s, rfl⟩
        have HDS : Hid (Is ds d) := Lib.hid (hd ▸ H.out)
        have hdl0 : d.length ≤ 400 := by rw [← hd]; have := HSS.out; omega
        clear hc0 hd hc45
        go_enter Try.func40, Try.ntmps40
        go_wp2_with fail
        generalize (w.alloc (Obj.cells #[Value.bool false, Value.slice none 0 0] 24)) = W0 at *
        obtain ⟨r0, r1, r2, r3⟩ := HR.out
        go_wp2_with fail
        refine (isnum_any ds d _ HDS.out (by omega)).mono ?_
        cases hnum : numB d with
        | false =>
          rintro e w1 ⟨rfl, rfl⟩
          have hok : okB l = false := by unfold okB; rw [hbody, hnum]; rfl
          have HPZ : Hid (pz l = 0) := Lib.hid (by unfold pz; rw [if_neg (by omega), hok]; rfl)
          have HPE : Hid (pe l = 7) := Lib.hid (by unfold pe; rw [if_neg (by omega), hok]; rfl)
          go_wp2
          refine bodyPost_ret (v := .tuple #[.agg #[.bool false, .slice none 0 0], .int .i64 7]) (by simp [results, Try.results40, go_sem, r0, r1]) rfl ?_
          first | exact ⟨_, by rw [HPE.out], by rw [HPZ.out]; exact IntIs.zero' _, HB.out⟩ | exact PsOut.stored HR.out (by rw [HPZ.out]; exact IntIs.zero' _) HB.out (Nat.le_refl _) HPE.out.symm
        | true =>
          rintro e w1 ⟨rfl, rfl⟩
          have hok : okB l = true := by unfold okB; rw [hbody, hnum, hneg]; rfl
          have HPZ : Hid (pz l = sg false (dv d)) := Lib.hid (by unfold pz; rw [if_neg (by omega), hok, hneg, hbody]; rfl)
          have HPE : Hid (pe l = 0) := Lib.hid (by unfold pe; rw [if_neg (by omega), hok]; rfl)
          have hdl := hdl0
          have HND := Lib.hid (num_dig hnum)
          have HNL := Lib.hid (num_le hnum)
          have hsb : ds.size ≤ 400 := by have := HDS.out.size; omega
          have HSZ := Lib.hid HDS.out.size
          go_wp2
          go_loopg [6, 7, 37] d.length (fun gg t6 _ t37 wr => ∃ (kk : Nat) (A1 : Option Addr) (c1 : Nat), (kk ≤ d.length ∧ d.length - kk ≤ gg ∧ Sl wr .u32 A1 c1 (W (dv (d.take kk))) ∧ Below W0.heap.size W0 wr) ∧ t6 = .slice A1 (W (dv (d.take kk))).length c1 ∧ t37 = .int .i64 kk)
          case atStart => exact ⟨0, none, 0, ⟨Nat.zero_le _, by omega, Sl.nil_, Below.refl _ _⟩, rfl, rfl⟩
          case round =>
            obtain ⟨kk, A1, c1, ⟨hk, hg, hsl, hbw⟩, rfl, rfl⟩ := hrel
            have hc1 := hsl.le
            have hc1m := hsl.max
            by_cases hlt : kk < d.length
            · obtain ⟨dd, hdd, hd9⟩ := HND.out kk hlt
              have hks : kk < ds.size := by have := HSZ.out; omega
              have hget : ds[kk].toNat = dd + 48 := by rw [HDS.out.get hks, hdd]
              have hvl : (W (dv (d.take kk))).length ≤ 400 := Nat.le_trans (ten_W (dv_lt fun c hc => HNL.out c (List.mem_of_mem_take hc))) (by simp; omega)
              have HTK : Hid (dv (d.take (kk + 1)) = dv (d.take kk) * 10 + dd) := Lib.hid (by rw [dv_take hlt, hdd]; omega)
              have hvl2 : (W (dv (d.take kk) * 10)).length ≤ 4294967296 := by
                have h1 : dv (d.take kk) < 10 ^ (d.take kk).length := dv_lt fun c hc => HNL.out c (List.mem_of_mem_take hc)
                have h2 : dv (d.take kk) * 10 < 10 ^ ((d.take kk).length + 1) := by rw [Nat.pow_succ]; omega
                have := ten_W h2
                simp at this
                omega
              have hdl1 : (W dd).length ≤ 4294967296 := by have := ten_W (v := dd) (k := 1) (by omega); omega
              have hd32 : dd < 4294967296 := by omega
              have hw8 : IntKind.u8.wrap (dd : Int) = dd := by simp only [IntKind.wrap_u8]; omega
              have hw32 : IntKind.u32.wrap (dd : Int) = dd := by simp only [IntKind.wrap_u32]; omega
              generalize dv (d.take kk) = v at *
              clear hdd
              go_wp2_with fail
              have h' : Sl wr.drew .u32 A1 c1 (W v) := hsl.drewN 1
              clear hsl
              have hsl := h'
              clear h'
              have h' : Below W0.heap.size W0 wr.drew := below_drawn hbw 1
              clear hbw
              have hbw := h'
              clear h'
              refine wp_region_held_drew (S := fun _ => True) (by kernel_rfl) trivial (fun hHeld => ?_)
              generalize wr.drew = wd at *
              refine wpAnyH_take (i := 0) (v := ?vt10) rfl (by kernel_rfl) (by kernel_rfl) (by kernel_rfl) (fun _ _ _ h => h) (Or.inl ⟨by rfl, ?yt10⟩) hHeld ?rt10
              case yt10 => intro w9 hSw; go_simp; first | done | with_reducible rfl
              try simp only [Act.put]
              refine wpAnyH_take (i := 3) (v := ?vt11) rfl (by kernel_rfl) (by kernel_rfl) (by kernel_rfl) (fun _ _ _ h => h) (Or.inl ⟨by rfl, ?yt11⟩) hHeld ?rt11
              case yt11 => intro w9 hSw; go_simp; first | done | with_reducible rfl
              try simp only [Act.put]
              refine wpAnyH_take (i := 4) (v := ?vt12) rfl (by kernel_rfl) (by kernel_rfl) (by kernel_rfl) (fun _ _ _ h => h) (Or.inl ⟨by rfl, ?yt12⟩) hHeld ?rt12
              case yt12 => intro w9 hSw; go_simp; first | done | with_reducible rfl
              try simp only [Act.put]
              refine wpAnyH_take (i := 5) (v := ?vt13) rfl (by kernel_rfl) (by kernel_rfl) (by kernel_rfl) (fun _ _ _ h => h) (Or.inl ⟨by rfl, ?yt13⟩) hHeld ?rt13
              case yt13 => intro w9 hSw; go_simp; first | done | with_reducible rfl
              try simp only [Act.put]
              refine wpAnyH_take (i := 6) (v := ?vt14) rfl (by kernel_rfl) (by kernel_rfl) (by kernel_rfl) (fun _ _ _ h => h) (Or.inl ⟨by rfl, ?yt14⟩) hHeld ?rt14
              case yt14 => intro w9 hSw; go_simp; first | done | with_reducible rfl
              try simp only [Act.put]
              refine wpAnyH_take (i := 7) (v := ?vt15) rfl (by kernel_rfl) (by kernel_rfl) (by kernel_rfl) (fun _ _ _ h => h) (Or.inl ⟨by rfl, ?yt15⟩) hHeld ?rt15
              case yt15 => intro w9 hSw; go_simp; first | done | with_reducible rfl
              try simp only [Act.put]
              refine wpAnyH_ready (rs := [1, 8]) (by kernel_rfl) (by simp) ?_
              refine (AllReadyH.cons rfl (fun K hK => ?_) (AllReadyH.cons rfl (fun K hK => ?_) AllReadyH.nil))
              · go_simp
                have hb1 : Below wd.heap.size wd (wd.alloc (Obj.cells #[Value.int IntKind.u32 (10)] 113)) := (Below.refl _ _).alloc (Nat.le_refl _) _
                have ha1 : Ar (wd.alloc (Obj.cells #[Value.int IntKind.u32 (10)] 113)) wd.heap.size .u32 113 [10] := Ar.new wd .u32 113 [10]
                have h' := hsl.below hb1
                clear hsl
                have hsl := h'
                clear h'
                have h' := hbw.trans (hb1.mono hbw.size)
                clear hbw hb1
                have hbw := h'
                clear h'
                refine hK.out _ _ trivial (fun hHeld => ?_)
                clear hK K
                try simp only [Act.put]
                generalize hW1 : (wd.alloc (Obj.cells #[Value.int IntKind.u32 (10)] 113)) = w1 at *
                generalize hG1 : wd.heap.size = g1 at *
                clear hW1 hG1
                refine wpAnyH_ready (rs := [2, 8]) (by kernel_rfl) (by simp) ?_
                refine (AllReadyH.cons rfl (fun K hK => ?_) (AllReadyH.cons rfl (fun K hK => ?_) AllReadyH.nil))
                · go_simp
                  go_at_call 103
                  refine (mulTen (v := v) (g := g1) hsl ha1 (by omega)).mono ?_
                  rintro e wm ⟨Am, cm, rfl, hsm, hbel⟩
                  have h' := hsl.below hbel
                  clear hsl
                  have hsl := h'
                  clear h'
                  have h' := ha1.below hbel ha1.lt
                  clear ha1
                  have ha1 := h'
                  clear h'
                  have h' := hbw.trans (hbel.mono hbw.size)
                  clear hbw hbel
                  have hbw := h'
                  clear h'
                  try go_wp2_with fail
                  refine hK.out _ _ trivial (fun hHeld => ?_)
                  clear hK K
                  try simp only [Act.put]
                  refine wpAnyH_ready (rs := [8]) (by kernel_rfl) (by simp) ?_
                  refine (AllReadyH.cons rfl (fun K hK => ?_) AllReadyH.nil)
                  go_simp
                  have hb8 : Below wm.heap.size wm (wm.alloc (Obj.cells #[Value.int IntKind.u32 (dd : Nat)] 113)) := (Below.refl _ _).alloc (Nat.le_refl _) _
                  have ha8 : Ar (wm.alloc (Obj.cells #[Value.int IntKind.u32 (dd : Nat)] 113)) wm.heap.size .u32 113 [dd] := Ar.new wm .u32 113 [dd]
                  have h' := hsm.below hb8
                  clear hsm
                  have hsm := h'
                  clear h'
                  have h' := hbw.trans (hb8.mono hbw.size)
                  clear hbw hb8
                  have hbw := h'
                  clear h'
                  refine hK.out _ _ trivial (fun hHeld => ?_)
                  clear hK K
                  try simp only [Act.put]
                  generalize hW8 : (wm.alloc (Obj.cells #[Value.int IntKind.u32 (dd : Nat)] 113)) = w8 at *
                  generalize hG8 : wm.heap.size = g8 at *
                  clear hW8 hG8
                  refine wpAnyH_ready (rs := [9]) (by kernel_rfl) (by simp) ?_
                  refine (AllReadyH.cons rfl (fun K hK => ?_) AllReadyH.nil)
                  go_simp
                  go_at_call 88
                  refine (trim_ar g8 1 113 [dd] dd _ ha8 rfl (by omega) (by simpa using hd32) (by simp [val])).mono ?_
                  rintro e wt ⟨rfl, hst, rfl⟩
                  try go_wp2_with fail
                  refine hK.out _ _ trivial (fun hHeld => ?_)
                  clear hK K
                  try simp only [Act.put]
                  refine wpAnyH_ready (rs := [10]) (by kernel_rfl) (by simp) ?_
                  refine (AllReadyH.cons rfl (fun K hK => ?_) AllReadyH.nil)
                  go_simp
                  go_at_call 97
                  refine (addW hsm hst (by omega) (by omega)).mono ?_
                  rintro e wa ⟨Aa, ca, rfl, hsa, hbel⟩
                  have h' := hbw.trans (hbel.mono hbw.size)
                  clear hbw hbel
                  have hbw := h'
                  clear h'
                  try go_wp2_with fail
                  refine hK.out _ _ trivial (fun hHeld => ?_)
                  clear hK K
                  try simp only [Act.put]
                  refine wpAnyH_take (i := 11) (v := ?vz16) rfl (by kernel_rfl) (by kernel_rfl) (by kernel_rfl) (fun _ _ _ h => h) (Or.inl ⟨by rfl, ?yz16⟩) hHeld ?rz16
                  case yz16 => intro w9 hSw; go_simp; first | done | with_reducible rfl
                  try simp only [Act.put]
                  refine wpAnyH_done (by kernel_rfl) ?_ _
                  clear hHeld
                  go_wp2
                  go_roundg (d.length - (kk + 1))
                  case rel => exact ⟨kk + 1, Aa, ca, ⟨by omega, by omega, by rw [HTK.out]; exact hsa, hbw⟩, congrArg (fun n => Value.slice Aa (W n).length ca) HTK.out.symm, by go_num⟩
                  case measure => omega
                · go_simp
                  have hb8 : Below w1.heap.size w1 (w1.alloc (Obj.cells #[Value.int IntKind.u32 (dd : Nat)] 113)) := (Below.refl _ _).alloc (Nat.le_refl _) _
                  have ha8 : Ar (w1.alloc (Obj.cells #[Value.int IntKind.u32 (dd : Nat)] 113)) w1.heap.size .u32 113 [dd] := Ar.new w1 .u32 113 [dd]
                  have h' := hsl.below hb8
                  clear hsl
                  have hsl := h'
                  clear h'
                  have h' := ha1.below hb8 ha1.lt
                  clear ha1
                  have ha1 := h'
                  clear h'
                  have h' := hbw.trans (hb8.mono hbw.size)
                  clear hbw hb8
                  have hbw := h'
                  clear h'
                  refine hK.out _ _ trivial (fun hHeld => ?_)
                  clear hK K
                  try simp only [Act.put]
                  generalize hW8 : (w1.alloc (Obj.cells #[Value.int IntKind.u32 (dd : Nat)] 113)) = w8 at *
                  generalize hG8 : w1.heap.size = g8 at *
                  clear hW8 hG8
                  refine wpAnyH_ready (rs := [2]) (by kernel_rfl) (by simp) ?_
                  refine (AllReadyH.cons rfl (fun K hK => ?_) AllReadyH.nil)
                  go_simp
                  go_at_call 103
                  refine (mulTen (v := v) (g := g1) hsl ha1 (by omega)).mono ?_
                  rintro e wm ⟨Am, cm, rfl, hsm, hbel⟩
                  have h' := ha8.below hbel ha8.lt
                  clear ha8
                  have ha8 := h'
                  clear h'
                  have h' := hbw.trans (hbel.mono hbw.size)
                  clear hbw hbel
                  have hbw := h'
                  clear h'
                  try go_wp2_with fail
                  refine hK.out _ _ trivial (fun hHeld => ?_)
                  clear hK K
                  try simp only [Act.put]
                  refine wpAnyH_ready (rs := [9]) (by kernel_rfl) (by simp) ?_
                  refine (AllReadyH.cons rfl (fun K hK => ?_) AllReadyH.nil)
                  go_simp
                  go_at_call 88
                  refine (trim_ar g8 1 113 [dd] dd _ ha8 rfl (by omega) (by simpa using hd32) (by simp [val])).mono ?_
                  rintro e wt ⟨rfl, hst, rfl⟩
                  try go_wp2_with fail
                  refine hK.out _ _ trivial (fun hHeld => ?_)
                  clear hK K
                  try simp only [Act.put]
                  refine wpAnyH_ready (rs := [10]) (by kernel_rfl) (by simp) ?_
                  refine (AllReadyH.cons rfl (fun K hK => ?_) AllReadyH.nil)
                  go_simp
                  go_at_call 97
                  refine (addW hsm hst (by omega) (by omega)).mono ?_
                  rintro e wa ⟨Aa, ca, rfl, hsa, hbel⟩
                  have h' := hbw.trans (hbel.mono hbw.size)
                  clear hbw hbel
                  have hbw := h'
                  clear h'
                  try go_wp2_with fail
                  refine hK.out _ _ trivial (fun hHeld => ?_)
                  clear hK K
                  try simp only [Act.put]
                  refine wpAnyH_take (i := 11) (v := ?vz17) rfl (by kernel_rfl) (by kernel_rfl) (by kernel_rfl) (fun _ _ _ h => h) (Or.inl ⟨by rfl, ?yz17⟩) hHeld ?rz17
                  case yz17 => intro w9 hSw; go_simp; first | done | with_reducible rfl
                  try simp only [Act.put]
                  refine wpAnyH_done (by kernel_rfl) ?_ _
                  clear hHeld
                  go_wp2
                  go_roundg (d.length - (kk + 1))
                  case rel => exact ⟨kk + 1, Aa, ca, ⟨by omega, by omega, by rw [HTK.out]; exact hsa, hbw⟩, congrArg (fun n => Value.slice Aa (W n).length ca) HTK.out.symm, by go_num⟩
                  case measure => omega
              · go_simp
                have hb8 : Below wd.heap.size wd (wd.alloc (Obj.cells #[Value.int IntKind.u32 (dd : Nat)] 113)) := (Below.refl _ _).alloc (Nat.le_refl _) _
                have ha8 : Ar (wd.alloc (Obj.cells #[Value.int IntKind.u32 (dd : Nat)] 113)) wd.heap.size .u32 113 [dd] := Ar.new wd .u32 113 [dd]
                have h' := hsl.below hb8
                clear hsl
                have hsl := h'
                clear h'
                have h' := hbw.trans (hb8.mono hbw.size)
                clear hbw hb8
                have hbw := h'
                clear h'
                refine hK.out _ _ trivial (fun hHeld => ?_)
                clear hK K
                try simp only [Act.put]
                generalize hW8 : (wd.alloc (Obj.cells #[Value.int IntKind.u32 (dd : Nat)] 113)) = w8 at *
                generalize hG8 : wd.heap.size = g8 at *
                clear hW8 hG8
                refine wpAnyH_ready (rs := [1]) (by kernel_rfl) (by simp) ?_
                refine (AllReadyH.cons rfl (fun K hK => ?_) AllReadyH.nil)
                go_simp
                have hb1 : Below w8.heap.size w8 (w8.alloc (Obj.cells #[Value.int IntKind.u32 (10)] 113)) := (Below.refl _ _).alloc (Nat.le_refl _) _
                have ha1 : Ar (w8.alloc (Obj.cells #[Value.int IntKind.u32 (10)] 113)) w8.heap.size .u32 113 [10] := Ar.new w8 .u32 113 [10]
                have h' := hsl.below hb1
                clear hsl
                have hsl := h'
                clear h'
                have h' := ha8.below hb1 ha8.lt
                clear ha8
                have ha8 := h'
                clear h'
                have h' := hbw.trans (hb1.mono hbw.size)
                clear hbw hb1
                have hbw := h'
                clear h'
                refine hK.out _ _ trivial (fun hHeld => ?_)
                clear hK K
                try simp only [Act.put]
                generalize hW1 : (w8.alloc (Obj.cells #[Value.int IntKind.u32 (10)] 113)) = w1 at *
                generalize hG1 : w8.heap.size = g1 at *
                clear hW1 hG1
                refine wpAnyH_ready (rs := [2]) (by kernel_rfl) (by simp) ?_
                refine (AllReadyH.cons rfl (fun K hK => ?_) AllReadyH.nil)
                go_simp
                go_at_call 103
                refine (mulTen (v := v) (g := g1) hsl ha1 (by omega)).mono ?_
                rintro e wm ⟨Am, cm, rfl, hsm, hbel⟩
                have h' := ha8.below hbel ha8.lt
                clear ha8
                have ha8 := h'
                clear h'
                have h' := hbw.trans (hbel.mono hbw.size)
                clear hbw hbel
                have hbw := h'
                clear h'
                try go_wp2_with fail
                refine hK.out _ _ trivial (fun hHeld => ?_)
                clear hK K
                try simp only [Act.put]
                refine wpAnyH_ready (rs := [9]) (by kernel_rfl) (by simp) ?_
                refine (AllReadyH.cons rfl (fun K hK => ?_) AllReadyH.nil)
                go_simp
                go_at_call 88
                refine (trim_ar g8 1 113 [dd] dd _ ha8 rfl (by omega) (by simpa using hd32) (by simp [val])).mono ?_
                rintro e wt ⟨rfl, hst, rfl⟩
                try go_wp2_with fail
                refine hK.out _ _ trivial (fun hHeld => ?_)
                clear hK K
                try simp only [Act.put]
                refine wpAnyH_ready (rs := [10]) (by kernel_rfl) (by simp) ?_
                refine (AllReadyH.cons rfl (fun K hK => ?_) AllReadyH.nil)
                go_simp
                go_at_call 97
                refine (addW hsm hst (by omega) (by omega)).mono ?_
                rintro e wa ⟨Aa, ca, rfl, hsa, hbel⟩
                have h' := hbw.trans (hbel.mono hbw.size)
                clear hbw hbel
                have hbw := h'
                clear h'
                try go_wp2_with fail
                refine hK.out _ _ trivial (fun hHeld => ?_)
                clear hK K
                try simp only [Act.put]
                refine wpAnyH_take (i := 11) (v := ?vz18) rfl (by kernel_rfl) (by kernel_rfl) (by kernel_rfl) (fun _ _ _ h => h) (Or.inl ⟨by rfl, ?yz18⟩) hHeld ?rz18
                case yz18 => intro w9 hSw; go_simp; first | done | with_reducible rfl
                try simp only [Act.put]
                refine wpAnyH_done (by kernel_rfl) ?_ _
                clear hHeld
                go_wp2
                go_roundg (d.length - (kk + 1))
                case rel => exact ⟨kk + 1, Aa, ca, ⟨by omega, by omega, by rw [HTK.out]; exact hsa, hbw⟩, congrArg (fun n => Value.slice Aa (W n).length ca) HTK.out.symm, by go_num⟩
                case measure => omega
            · have hkl : kk = d.length := by omega
              subst hkl
              have hsz2 := HSZ.out
              rw [List.take_of_length_le (Nat.le_refl _)] at hsl hc1 ⊢
              have hcl := HR.out.below hbw (by have := HZ.out; omega)
              have HCL := Lib.hid hcl
              have HSL := Lib.hid hsl
              have HBW := Lib.hid (HB.out.trans (hbw.mono HB.out.size))
              have hsw := hbw.size
              clear hsl hbw hcl
              go_wp2_with fail
              refine (signed_any false A1 c1 (W (dv d)) _ HSL.out (W_lt _)).mono ?_
              rw [iv_sg, ← HPZ.out]
              rintro e w4 ⟨v4, rfl, hi4, hb4⟩
              have hcl4 := HCL.out.below hb4 (by have := HZ.out; omega)
              have HB4 := Lib.hid (HBW.out.trans (hb4.mono HBW.out.size))
              have HI4 := Lib.hid hi4
              obtain ⟨A4, c4, rfl, -⟩ := hi4
              have HC4 := Lib.hid hcl4
              obtain ⟨q0, q1, q2, q3⟩ := hcl4
              clear hb4
              go_wp2
              refine bodyPost_ret (v := .tuple #[.agg #[.bool (decide (pz l < 0)), .slice A4 (W (pz l).natAbs).length c4], .int .i64 0]) (by simp [results, Try.results40, go_sem, q0, q1]) rfl ?_
              exact PsOut.stored HC4.out HI4.out HB4.out (Nat.le_refl _) HPE.out.symm
    · have hl0 : l = [] := List.eq_nil_of_length_eq_zero (by have := HSS.out; omega)
      have hneg : negB l = false := by unfold negB; rw [hl0]; rfl
      obtain ⟨d, hd⟩ : ∃ d, l = d := ⟨_, rfl⟩
      have hbody : body l = d := by unfold body; rw [hneg, ← hd]; rfl
      obtain ⟨ds, rfl⟩ : ∃ ds, ds = s := ⟨s, rfl⟩
      have HDS : Hid (Is ds d) := Lib.hid (hd ▸ H.out)
      have hnum : numB d = false := by rw [← hd, hl0]; rfl
      have hdl0 : d.length ≤ 400 := by rw [← hd]; have := HSS.out; omega
      have hok : okB l = false := by unfold okB; rw [hbody, hnum]; rfl
      have HPZ : Hid (pz l = 0) := Lib.hid (by unfold pz; rw [if_neg (by omega), hok]; rfl)
      have HPE : Hid (pe l = 7) := Lib.hid (by unfold pe; rw [if_neg (by omega), hok]; rfl)
      clear hd hl0
      go_enter Try.func40, Try.ntmps40
      go_wp2_with fail
      generalize (w.alloc (Obj.cells #[Value.bool false, Value.slice none 0 0] 24)) = W0 at *
      obtain ⟨r0, r1, r2, r3⟩ := HR.out
      go_wp2_with fail
      refine (isnum_any ds d _ HDS.out (by omega)).mono ?_
      rw [hnum]
      rintro e w1 ⟨rfl, rfl⟩
      go_wp2
      refine bodyPost_ret (v := .tuple #[.agg #[.bool false, .slice none 0 0], .int .i64 7]) (by simp [results, Try.results40, go_sem, r0, r1]) rfl ?_
      first | exact ⟨_, by rw [HPE.out], by rw [HPZ.out]; exact IntIs.zero' _, HB.out⟩ | exact PsOut.stored HR.out (by rw [HPZ.out]; exact IntIs.zero' _) HB.out (Nat.le_refl _) HPE.out.symm
end Go.Proofs.Ytcbdnnboddahkaa.Tx
