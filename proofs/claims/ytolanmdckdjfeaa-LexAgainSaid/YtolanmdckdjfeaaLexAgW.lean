/- LexAgain: the walk. -/
import Derived.Test.YtolanmdckdjfeaaLexDg
import Derived.Test.YtolanmdckdjfeaaLexPt
namespace Go.Proofs.Ytolanmdckdjfeaa
open Go.RowKit

theorem tk_v {l : List UInt8} {k v m : Nat} {t : List UInt8} (h : tk l = .ok k t v m) : v < 1000000 := by
  unfold tk at h
  split at h
  · unfold tkName at h
    split at h
    · cases h
    · simp only [Tk.ok.injEq] at h; omega
  · split at h
    · unfold tkNum at h
      split at h
      · cases h
      · split at h
        · cases h
        · rename_i hb
          simp only [Tk.ok.injEq] at h
          obtain ⟨_, _, rfl, _⟩ := h
          have h1 := numF_le (l.take (spn cD l)) 0 (spn_digits l)
          have h2 : 10 ^ (l.take (spn cD l)).length ≤ 10 ^ 6 := Nat.pow_le_pow_right (by omega) (by rw [List.length_take]; omega)
          omega
    · split at h
      · unfold tkText at h
        cases ht : txt l.tail with
        | none => rw [ht] at h; cases h
        | some z =>
          rw [ht] at h
          simp only at h
          split at h
          · cases h
          · simp only [Tk.ok.injEq] at h; omega
      · unfold tkMark at h
        split at h
        · simp only [Tk.ok.injEq] at h; omega
        · split at h
          · simp only [Tk.ok.injEq] at h; omega
          · cases h
theorem lxs_small : ∀ o l, ∀ u ∈ (lxs o l).1, u.v < 1000000 ∧ u.t.length ≤ l.length := by
  refine lxs_ind (P := fun _ l r => ∀ u ∈ r.1, u.v < 1000000 ∧ u.t.length ≤ l.length) ?_ ?_ ?_
  · intro o l _ u hu; cases hu
  · intro o l e _ _ u hu; cases hu
  · intro o l k t v m hs ht ih
    have hm := tk_len ht
    have htl := tk_tl ht
    generalize lxs (o + sk false l + m) ((l.drop (sk false l)).drop m) = R at ih ⊢
    simp only [List.length_drop] at ih hm
    have ih2 : ∀ u ∈ R.1, u.v < 1000000 ∧ u.t.length ≤ l.length := fun u hu => by have := ih u hu; omega
    unfold push
    split
    · intro u hu
      rcases List.mem_cons.1 hu with rfl | hu
      · exact ⟨tk_v ht, by simp only; omega⟩
      · exact ih2 u hu
    · exact ih2
theorem wrs_snoc {ts : List Tok} {k : Nat} (h : k < ts.length) : wrs (ts.take (k + 1)) = wrs (ts.take k) ++ (wrt ts[k] ++ [32]) := by
  unfold wrs
  rw [List.take_succ_eq_append_getElem h, List.flatMap_append, List.flatMap_singleton]
theorem wrs_take (ts : List Tok) (k : Nat) : (wrs (ts.take k)).length ≤ (wrs ts).length := by
  have : wrs ts = wrs (ts.take k) ++ wrs (ts.drop k) := by unfold wrs; rw [← List.flatMap_append, List.take_append_drop]
  rw [this, List.length_append]; omega
def AgRel (w : World) (T : List Tok) (v o i : Value) (wr : World) : Prop :=
  ∃ (k : Nat) (u : ByteArray), k ≤ T.length ∧ i = .int .i64 (k : Int) ∧ o = .string u ∧ Hid (u = ofL (wrs (T.take k))) ∧ Hid (Toks wr v T) ∧ Hid (Below w.heap.size w wr)
set_option maxRecDepth 100000 in
set_option maxHeartbeats 2000000 in
theorem again_walk (s : ByteArray) (w : World) (_hS : s.size ≤ 140737488351232) : Calls Try.prog 6 #[.string s] w (Ok w) := by
  clear _hS
  by_cases h1 : 1000 < s.size
  · go_enter Try.func6, Try.ntmps6
    go_wp2_with fail
    refine (awake_any _).mono ?_; rintro e w1 ⟨rfl, hb1⟩
    have HB1 := Lib.hid hb1
    clear hb1
    go_wp2_with fail
    refine (awake_any _).mono ?_; rintro e w2 ⟨rfl, hb2⟩
    have HB2 := Lib.hid (HB1.out.trans (hb2.mono HB1.out.size))
    clear hb2
    go_wp2
    go_ret
    exact ⟨rfl, HB2.out⟩
  · obtain ⟨l, hl⟩ : ∃ l, l = s.data.toList := ⟨_, rfl⟩
    have hs : s = ofL l := by rw [hl]; exact ofL_of s
    have hsz : s.size = l.length := by rw [hs, ofL_size]
    have HS := Lib.hid hs
    have hc1 : l.length ≤ 1000 := by omega
    have hag := lxs_again 0 l
    have hsm := lxs_small 0 l
    have hln := lxs_len 0 l
    rw [← full_small (by omega)] at hag hsm hln
    obtain ⟨R, hR⟩ : ∃ R, full l = R := ⟨_, rfl⟩
    rw [hR] at hag hsm hln
    obtain ⟨T, k0, x⟩ := R
    simp only at hag hsm hln
    have HF := Lib.hid hR
    have HSM := Lib.hid hsm
    clear hl hs hsz hR hsm
    by_cases hx : x = 0
    · subst hx
      obtain ⟨hwl, hagn⟩ := hag rfl
      obtain ⟨T2, hT2, hsame⟩ := hagn 0
      have HF2 := Lib.hid (show full (wrs T) = (T2, 0, 0) by rw [full_small (by omega)]; exact hT2)
      have HSAME := Lib.hid hsame
      have hT2l : T2.length ≤ 1000 := by have := hsame.1; omega
      have hTl : T.length ≤ 1000 := by omega
      have HWL := Lib.hid hwl
      clear hag hagn hT2 hsame hwl
      go_enter Try.func6, Try.ntmps6
      go_wp2_with fail
      refine (awake_any _).mono ?_; rintro e w1 ⟨rfl, hb1⟩
      have HB1 := Lib.hid hb1
      clear hb1
      go_wp2_with fail
      refine (tokens_at' s l HS.out _ _ _ HF.out _).mono ?_
      rintro e w2 ⟨v2, rfl, ht2, hb2⟩
      have HT := Lib.hid ht2
      have HB2 := Lib.hid (HB1.out.trans (hb2.mono HB1.out.size))
      clear ht2 hb2
      obtain ⟨A, c, hA⟩ := HT.out.shape
      subst hA
      go_wp2
      go_loopw [6, 7, 29] (fun o _ i wr => AgRel w T (.slice A T.length c) o i wr) (fun _ _ i _ => T.length - (intOf i).toNat)
      case atStart => exact ⟨0, _, by omega, rfl, rfl, rfl, HT, HB2⟩
      case round =>
        clear HT HB2
        obtain ⟨k, u, hk, rfl, rfl, HU, HT, HB⟩ := hrel
        have hul : u.size ≤ 2000 := by rw [HU.out, ofL_size]; have := wrs_take T k; have := HWL.out; omega
        have hsz := HB.out.size
        by_cases hlt : k < T.length
        · obtain ⟨ad, c', hs', hcap, d0, d1, d2, d3⟩ := toks_cell HT.out k hlt
          simp only [Value.slice.injEq, true_and] at hs'
          obtain ⟨rfl, rfl⟩ := hs'
          have hsn := wrs_snoc hlt
          have hsm := HSM.out T[k] (List.getElem_mem hlt)
          have hwk := wrs_take T (k + 1)
          obtain ⟨t, ht⟩ : ∃ t, t = T[k] := ⟨_, rfl⟩
          rw [← ht] at d0 d1 d2 d3 hsn hsm
          obtain ⟨q, hq⟩ : ∃ q, q = ofL (wrt t) := ⟨_, rfl⟩
          have hqs : q.size ≤ 3000 := by
            rw [hq, ofL_size]
            have := HWL.out
            rw [hsn, List.length_append, List.length_append] at hwk
            omega
          have hstep : Hid (u ++ (q ++ { data := #[32] }) = ofL (wrs (T.take (k + 1)))) := by
            unfold Hid
            rw [hsn, HU.out, hq]
            show ofL _ ++ (ofL _ ++ ofL [32]) = _
            rw [ofL_append, ofL_append]
          have HQ := Lib.hid hq
          have HWT := Lib.hid (write_tok t (by omega) (by omega))
          clear ht hsn hsm hwk hq
          unfold tokA at HWT
          go_wp2_with fail
          refine (HWT.out _).mono ?_
          rintro e w4 ⟨rfl, hb4⟩
          rw [← HQ.out]
          have HT4 := Lib.hid (HT.out.below hb4)
          have HB4 := Lib.hid (HB.out.trans (hb4.mono hsz))
          clear hb4
          go_wp2
          go_roundw
          case rel => exact ⟨k + 1, _, by omega, by go_num, rfl, hstep, HT4, HB4⟩
          case measure => simp [intOf]; omega
        · have hu2 : Hid (u = ofL (wrs T)) := by unfold Hid; rw [HU.out, List.take_of_length_le (by omega)]
          go_wp2_with fail
          refine (tokens_at' u (wrs T) hu2.out _ _ _ HF2.out _).mono ?_
          rintro e w4 ⟨v4, rfl, ht4, hb4⟩
          have HT4 := Lib.hid ht4
          have HTb := Lib.hid (HT.out.below hb4)
          have HB4 := Lib.hid (HB.out.trans (hb4.mono HB.out.size))
          clear ht4 hb4
          go_wp2_with fail
          refine (theirs_any v4 T2 _ HT4.out (by omega)).mono ?_
          rintro e w5 ⟨v5, rfl, ho5, hb5⟩
          have HT5 := Lib.hid (Toks.of_own ho5)
          have HTc := Lib.hid (HTb.out.below hb5)
          have HB5 := Lib.hid (HB4.out.trans (hb5.mono HB4.out.size))
          clear ho5 hb5
          go_wp2_with fail
          refine (theirs_any _ T _ HTc.out (by omega)).mono ?_
          rintro e w6 ⟨v6, rfl, ho6, hb6⟩
          have HT6 := Lib.hid (Toks.of_own ho6)
          have HT5b := Lib.hid (HT5.out.below hb6)
          have HB6 := Lib.hid (HB5.out.trans (hb6.mono HB5.out.size))
          clear ho6 hb6
          go_wp2_with fail
          refine (same_any v5 v6 T2 T false _ HT5b.out HT6.out HSAME.out (by omega)).mono ?_
          rintro e w7 ⟨rfl, m, rfl⟩
          go_wp2
          go_ret
          exact ⟨rfl, below_drewN HB6.out m⟩
    · have tx : ((x : Int) != 0) = true := by simp; omega
      clear hag hx
      go_enter Try.func6, Try.ntmps6
      go_wp2_with fail
      refine (awake_any _).mono ?_; rintro e w1 ⟨rfl, hb1⟩
      have HB1 := Lib.hid hb1
      clear hb1
      go_wp2_with fail
      refine (tokens_at' s l HS.out _ _ _ HF.out _).mono ?_
      rintro e w2 ⟨v2, rfl, ht2, hb2⟩
      have HB2 := Lib.hid (HB1.out.trans (hb2.mono HB1.out.size))
      clear ht2 hb2
      go_wp2
      go_ret
      exact ⟨rfl, HB2.out⟩
end Go.Proofs.Ytolanmdckdjfeaa
