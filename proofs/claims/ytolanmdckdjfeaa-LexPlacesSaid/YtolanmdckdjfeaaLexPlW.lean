/- LexPlaces: the walk (tools/lexpl_gen.py). -/
import Derived.Test.YtolanmdckdjfeaaLexPt
import Derived.Test.YtolanmdckdjfeaaRegion
import Derived.IntWalk
namespace Go.Proofs.Ytolanmdckdjfeaa
open Go.RowKit

theorem Toks.take {w : World} {ad : Addr} {c n j : Nat} {ts : List Tok} (h : Toks w (.slice (some ad) n c) ts) (hj : j ≤ ts.length) : Toks w (.slice (some ad) j c) (ts.take j) := by
  rcases h with ⟨h, _⟩ | ⟨ad', c', h, h2, hc⟩
  · cases h
  · simp only [Value.slice.injEq, Option.some.injEq] at h
    obtain ⟨rfl, _, rfl⟩ := h
    have hl : (ts.take j).length = j := by rw [List.length_take]; omega
    refine .inr ⟨ad, c, by rw [hl], by omega, fun i t ht => hc i t ?_⟩
    rw [List.getElem?_take] at ht
    split at ht
    · exact ht
    · cases ht
set_option maxRecDepth 100000 in
set_option maxHeartbeats 2000000 in
theorem places_walk (s : ByteArray) (n : Nat) (w : World) (_hS : s.size ≤ 140737488351232) (hn : n < 256) : Calls Try.prog 5 #[.string s, .int .u8 (n : Int)] w (Ok w) := by
  clear _hS
  by_cases h1 : 1000 < s.size
  · clear hn
    go_enter Try.func5, Try.ntmps5
    go_wp2_with fail
    refine (awake_any _).mono ?_; rintro e w1 ⟨rfl, hb1⟩
    have HB1 := Lib.hid hb1
    clear hb1
    go_wp2_with fail
    refine (awake_any _).mono ?_; rintro e w2 ⟨rfl, hb2⟩
    have HB2 := Lib.hid (HB1.out.trans (hb2.mono HB1.out.size))
    clear hb2
    go_wp2
    go_ret
    exact ⟨rfl, HB2.out⟩
  · obtain ⟨l, hl⟩ : ∃ l, l = s.data.toList := ⟨_, rfl⟩
    have hs : s = ofL l := by rw [hl]; exact ofL_of s
    have hsz : s.size = l.length := by rw [hs, ofL_size]
    have HS := Lib.hid hs
    have HZ := Lib.hid hsz
    have hc1 : l.length ≤ 1000 := by omega
    have hbad := lxs_bad 0 l
    have hpl := lxs_places 0 l
    have hlen := lxs_len 0 l
    rw [← full_small (by omega)] at hbad hpl hlen
    clear hl hs hsz
    obtain ⟨R, hR⟩ : ∃ R, full l = R := ⟨_, rfl⟩
    rw [hR] at hbad hpl hlen
    obtain ⟨T, k0, x⟩ := R
    have HF := Lib.hid hR
    clear hR
    simp only at hbad hpl hlen
    by_cases hx : x = 0
    · subst hx
      obtain ⟨p1, p2, p3⟩ := hpl rfl
      by_cases hT0 : T.length = 0
      · clear hbad hpl p1 p2 p3
        have e0 : T = [] := List.eq_nil_of_length_eq_zero hT0
        subst e0
        go_enter Try.func5, Try.ntmps5
        go_wp2_with fail
        refine (awake_any _).mono ?_; rintro e w1 ⟨rfl, hb1⟩
        have HB1 := Lib.hid hb1
        clear hb1
        go_wp2_with fail
        refine (tokens_at' s l HS.out _ _ _ HF.out _).mono ?_
        rintro e w2 ⟨v, rfl, ht2, hb2⟩
        have HT := Lib.hid ht2
        have HB2 := Lib.hid (HB1.out.trans (hb2.mono HB1.out.size))
        clear ht2 hb2
        obtain ⟨A, c, rfl⟩ := HT.out.shape
        go_wp2
        go_ret
        exact ⟨rfl, HB2.out⟩
      · have P1 := Lib.hid p1
        have P2 := Lib.hid p2
        have P3 := Lib.hid p3
        clear hbad hpl p1 p2 p3
        have hT1 : 1 ≤ T.length := by omega
        have hTI : ((T.length : Int) == 0) = false := Bool.eq_false_iff.2 fun h => by have := eq_of_beq h; omega
        obtain ⟨j, hj⟩ : ∃ j, j = n % T.length := ⟨_, rfl⟩
        have hjT : j < T.length := by rw [hj]; exact Nat.mod_lt _ (by omega)
        have hmod : (n : Int) % (T.length : Int) = (j : Int) := by rw [hj]; exact (Int.natCast_emod n T.length).symm
        obtain ⟨tj, htj⟩ : ∃ t, T[j]? = some t := ⟨T[j], List.getElem?_eq_getElem hjT⟩
        have hpj := P1.out j tj htj
        have HFC := Lib.hid (show full (l.take tj.p) = (T.take j, 0, 0) by
          have := P3.out j tj htj
          rw [Nat.sub_zero] at this
          rw [full_small (l := l.take tj.p) (by rw [List.length_take]; omega)]
          exact this)
        have HTJ := Lib.hid htj
        have HM := Lib.hid hmod
        clear hj hT0 htj hmod
        go_enter Try.func5, Try.ntmps5
        go_wp2_with fail
        refine (awake_any _).mono ?_; rintro e w1 ⟨rfl, hb1⟩
        have HB1 := Lib.hid hb1
        clear hb1
        go_wp2_with fail
        refine (tokens_at' s l HS.out _ _ _ HF.out _).mono ?_
        rintro e w2 ⟨v, rfl, ht2, hb2⟩
        have HT := Lib.hid ht2
        have HB2 := Lib.hid (HB1.out.trans (hb2.mono HB1.out.size))
        clear ht2 hb2
        obtain ⟨ad, c, rfl, hcap, d0, d1, d2, d3⟩ := toks_cell HT.out j hjT
        have htj : T[j] = tj := (List.getElem?_eq_some_iff.1 HTJ.out).2
        rw [htj] at d3
        obtain ⟨pj, hpe⟩ : ∃ pj, pj = tj.p := ⟨_, rfl⟩
        rw [← hpe] at d3 HFC hpj
        have D3 := Lib.hid d3
        clear d0 d1 d2 d3 htj hpe
        go_wp2
        go_loopw [8, 39] (fun _ i wr => ∃ k : Nat, k ≤ T.length ∧ i = .int .i64 k ∧ ∃ m, wr = w2.drewN m) (fun _ i _ => T.length - (intOf i).toNat)
        case atStart => exact ⟨0, Nat.zero_le _, rfl, 0, rfl⟩
        case round =>
          obtain ⟨k, hk, rfl, m, rfl⟩ := hrel
          by_cases hlt : k < T.length
          · obtain ⟨ad', c', hs', hcap', q0, q1, q2, q3⟩ := toks_cell HT.out k hlt
            simp only [Value.slice.injEq, Option.some.injEq, true_and] at hs'
            obtain ⟨rfl, rfl⟩ := hs'
            have hk1 := P1.out k T[k] (List.getElem?_eq_getElem hlt)
            obtain ⟨pk, hpk⟩ : ∃ pk, pk = T[k].p := ⟨_, rfl⟩
            rw [← hpk] at q3 hk1
            have hz := HZ.out
            have hk2 : pk < s.size := by omega
            clear q0 q1 q2 hcap'
            have tA : decide ((pk : Int) < 0) = false := by simp
            have tB : decide (s.size ≤ pk) = false := by simp; omega
            have tB2 : decide ((s.size : Int) ≤ (pk : Int)) = false := by simp; omega
            have HPK := Lib.hid hpk
            clear hpk hk1 hz hk2
            by_cases h0 : 0 < k
            · obtain ⟨j1, hj1⟩ : ∃ j1, k = j1 + 1 := ⟨k - 1, by omega⟩
              have hj1T : j1 < T.length := by omega
              obtain ⟨ad', c', hs', hcap', r0, r1, r2, r3⟩ := toks_cell HT.out j1 hj1T
              simp only [Value.slice.injEq, Option.some.injEq, true_and] at hs'
              obtain ⟨rfl, rfl⟩ := hs'
              have hlt1 := P2.out j1 T[j1] T[k] (List.getElem?_eq_getElem hj1T) (by rw [← hj1]; exact List.getElem?_eq_getElem hlt)
              obtain ⟨pi, hpi⟩ : ∃ pi, pi = T[j1].p := ⟨_, rfl⟩
              rw [← HPK.out, ← hpi] at hlt1
              rw [← hpi] at r3
              have hw1 : IntKind.i64.wrap ((k : Int) - 1) = (j1 : Int) := by rw [hj1]; rw [show ((j1 + 1 : Nat) : Int) - 1 = (j1 : Int) by omega]; exact IntWalk.i64_in _ (by omega)
              have tC : decide (pk ≤ pi) = false := by simp; omega
              have tC2 : decide ((pk : Int) ≤ (pi : Int)) = false := by simp; omega
              have t0 : decide (0 < (k : Int)) = true := by simp; omega
              have t02 : decide (0 < k) = true := by simp; omega
              have hj1n : (0 : Int) ≤ (j1 : Int) := by omega
              clear r0 r1 r2 hcap' hpi hj1 hlt1
              go_wp2
              go_quiet (fail)
              go_wp2
              go_roundw
              case rel => exact ⟨k + 1, by omega, by go_num, m + nq, by simp [World.drewN]⟩
              case measure => simp [intOf]; omega
            · have t0 : decide (0 < (k : Int)) = false := by simp; omega
              have t02 : decide (0 < k) = false := by simp; omega
              clear h0
              go_wp2
              go_quiet (fail)
              go_wp2
              go_roundw
              case rel => exact ⟨k + 1, by omega, by go_num, m + nq, by simp [World.drewN]⟩
              case measure => simp [intOf]; omega
          · have HTL : Hid (Toks (w2.drewN m) (.slice (some ad) T.length c) T) := HT.out
            have HB3 := Lib.hid (below_drewN HB2.out m)
            have D4 : (w2.drewN m).cell? ⟨(ad.add (j * 4)).block, (ad.add (j * 4)).off + 3, none⟩ = some (.int .i64 (pj : Int)) := D3.out
            generalize hw3 : w2.drewN m = w3 at *
            clear hw3
            have hM := HM.out
            have hpj1 : pj ≤ s.size := by have := HZ.out; omega
            have HEX := Lib.hid (show s.extract 0 pj = ofL (l.take pj) by rw [HS.out, ofL_extract]; simp)
            go_wp2_with fail
            refine (tokens_at' _ _ HEX.out _ _ _ HFC.out _).mono ?_
            rintro e w4 ⟨v10, rfl, ht4, hb4⟩
            have HT10 := Lib.hid ht4
            have HB4 := Lib.hid (HB3.out.trans (hb4.mono HB3.out.size))
            have HTS := Lib.hid ((HTL.out.below hb4).take (Nat.le_of_lt hjT))
            clear ht4 hb4 D4 hM
            go_wp2_with fail
            have HJ1 : j ≤ c := by omega
            rw [HM.out]
            refine region_phi (n := 105) (fun i v w' => match i with
                  | 0 => v = .int .i64 0
                  | 1 => v = .bool true
                  | 2 => v = .bool true
                  | 3 => v = v10
                  | 4 => Toks w' v (T.take j)
                  | 5 => v = .slice (some ad) T.length c
                  | 6 => v = .int .i64 (j : Int)
                  | 7 => v = .slice (some ad) j c
                  | 8 => Toks w' v (T.take j)
                  | 9 => v = .bool true
                  | 10 => v = .bool true
                  | 11 => v = .bool true
                  | _ => True) (by kernel_rfl) (by kernel_rfl) rfl ?_ (allOps_spec ?_) ?_
            · intro i v w1 w2 h hb
              match i, h with
              | 0, h => exact h
              | 1, h => exact h
              | 2, h => exact h
              | 3, h => exact h
              | 4, h => exact h.below hb
              | 5, h => exact h
              | 6, h => exact h
              | 7, h => exact h
              | 8, h => exact h.below hb
              | 9, h => exact h
              | 10, h => exact h
              | 11, h => exact h
              | _ + 12, _ => trivial
            · refine ⟨?_, ?_, ?_, ?_, ?_, ?_, ?_, ?_, ?_, ?_, ?_, ?_, trivial⟩
              · intro a w' hb hp
                have b12 : a.tmps[12]?.getD undef = .int .i64 0 := hb.at 12 (by kernel_rfl)
                exact step_run (v := .int .i64 0) rfl (by simp [execOp, Act.eval, b12]) rfl
              · intro a w' hb hp
                have h94 : a.tmps[94]?.getD undef = .int .i64 0 := slot_eq.symm.trans (hp ⟨0, .data⟩ (by simp) rfl _ rfl)
                exact step_run (v := .bool true) rfl (by simp [execOp, go_sem, h94]) rfl
              · intro a w' hb hp
                have h95 : a.tmps[95]?.getD undef = .bool true := slot_eq.symm.trans (hp ⟨1, .data⟩ (by simp) rfl _ rfl)
                exact step_run (v := .bool true) rfl (by simp [execOp, Act.eval, h95]) rfl
              · intro a w' hb hp
                have b10 : a.tmps[10]?.getD undef = v10 := hb.at 10 (by kernel_rfl)
                have g96 : a.tmps[96]?.getD undef = .bool true := slot_eq.symm.trans (hp ⟨2, .guard⟩ (by simp) rfl _ rfl)
                exact step_run (v := v10) (by simp [Region.wanted, yielded, bool_at g96]) (by simp [execOp, Act.eval, b10]) rfl
              · intro a w' hb hp
                have h97 : a.tmps[97]?.getD undef = v10 := slot_eq.symm.trans (hp ⟨3, .data⟩ (by simp) rfl _ rfl)
                have g96 : a.tmps[96]?.getD undef = .bool true := slot_eq.symm.trans (hp ⟨2, .guard⟩ (by simp) rfl _ rfl)
                refine step_call (f := 14) (args := #[v10]) (by simp [Region.wanted, yielded, bool_at g96]) (by simp [go_sem, h97]) ?_
                have hT : Toks w' (v10) (T.take j) := HT10.out.below hb.ext
                refine (theirs_any (v10) (T.take j) w' hT (by rw [List.length_take]; omega)).mono ?_
                rintro e w5 ⟨u, rfl, ho, hb5⟩
                exact ⟨u, rfl, hb5, Toks.of_own ho⟩
              · intro a w' hb hp
                have b5 : a.tmps[5]?.getD undef = .slice (some ad) T.length c := hb.at 5 (by kernel_rfl)
                have g96 : a.tmps[96]?.getD undef = .bool true := slot_eq.symm.trans (hp ⟨2, .guard⟩ (by simp) rfl _ rfl)
                exact step_run (v := .slice (some ad) T.length c) (by simp [Region.wanted, yielded, bool_at g96]) (by simp [execOp, Act.eval, b5]) rfl
              · intro a w' hb hp
                have b9 : a.tmps[9]?.getD undef = .int .i64 (j : Int) := hb.at 9 (by kernel_rfl)
                have g96 : a.tmps[96]?.getD undef = .bool true := slot_eq.symm.trans (hp ⟨2, .guard⟩ (by simp) rfl _ rfl)
                exact step_run (v := .int .i64 (j : Int)) (by simp [Region.wanted, yielded, bool_at g96]) (by simp [execOp, Act.eval, b9]) rfl
              · intro a w' hb hp
                have h99 : a.tmps[99]?.getD undef = .slice (some ad) T.length c := slot_eq.symm.trans (hp ⟨5, .data⟩ (by simp) rfl _ rfl)
                have h100 : a.tmps[100]?.getD undef = .int .i64 (j : Int) := slot_eq.symm.trans (hp ⟨6, .data⟩ (by simp) rfl _ rfl)
                have g96 : a.tmps[96]?.getD undef = .bool true := slot_eq.symm.trans (hp ⟨2, .guard⟩ (by simp) rfl _ rfl)
                exact step_run (v := .slice (some ad) j c) (by simp [Region.wanted, yielded, bool_at g96]) (by simp [execOp, go_sem, h99, h100, HJ1]) rfl
              · intro a w' hb hp
                have h101 : a.tmps[101]?.getD undef = .slice (some ad) j c := slot_eq.symm.trans (hp ⟨7, .data⟩ (by simp) rfl _ rfl)
                have g96 : a.tmps[96]?.getD undef = .bool true := slot_eq.symm.trans (hp ⟨2, .guard⟩ (by simp) rfl _ rfl)
                refine step_call (f := 14) (args := #[.slice (some ad) j c]) (by simp [Region.wanted, yielded, bool_at g96]) (by simp [go_sem, h101]) ?_
                have hT : Toks w' (.slice (some ad) j c) (T.take j) := HTS.out.below hb.ext
                refine (theirs_any (.slice (some ad) j c) (T.take j) w' hT (by rw [List.length_take]; omega)).mono ?_
                rintro e w5 ⟨u, rfl, ho, hb5⟩
                exact ⟨u, rfl, hb5, Toks.of_own ho⟩
              · intro a w' hb hp
                have g96 : a.tmps[96]?.getD undef = .bool true := slot_eq.symm.trans (hp ⟨2, .guard⟩ (by simp) rfl _ rfl)
                refine step_call (f := 13) (args := #[a.tmps[98]?.getD undef, a.tmps[102]?.getD undef, .bool true]) (by simp [Region.wanted, yielded, bool_at g96]) (by simp [go_sem]) ?_
                have hA : Toks w' (slotOf a (some 98)) (T.take j) := hp ⟨4, .data⟩ (by simp) rfl _ rfl
                have hB : Toks w' (slotOf a (some 102)) (T.take j) := hp ⟨8, .data⟩ (by simp) rfl _ rfl
                rw [slot_eq] at hA hB
                refine (same_any _ _ _ _ true w' hA hB (SameT.refl _ _) (by rw [List.length_take]; omega)).mono ?_
                rintro e w5 ⟨rfl, m, rfl⟩
                exact ⟨_, rfl, below_drewN (Below.refl _ _) m, rfl⟩
              · intro a w' hb hp
                have h96 : a.tmps[96]?.getD undef = .bool true := slot_eq.symm.trans (hp ⟨2, .data⟩ (by simp) rfl _ rfl)
                have h103 : a.tmps[103]?.getD undef = .bool true := slot_eq.symm.trans (hp ⟨9, .data⟩ (by simp) rfl _ rfl)
                exact step_run (v := .bool true) rfl (by simp [execOp, go_sem, h96, h103]) rfl
              · intro a w' hb hp
                have h104 : a.tmps[104]?.getD undef = .bool true := slot_eq.symm.trans (hp ⟨10, .data⟩ (by simp) rfl _ rfl)
                exact step_run (v := .bool true) rfl (by simp [execOp, Act.eval, h104]) rfl
            · intro vs w' hb hv
              have h11 : vs 11 = .bool true := hv 11 (by decide)
              simp only [putAll, Act.put, List.setIfInBounds_toArray, List.set_cons_zero, List.set_cons_succ, Nat.zero_add, Nat.reduceAdd, h11]
              clear hv h11
              have Hb := Lib.hid (HB4.out.trans (hb.mono HB4.out.size))
              clear hb
              go_wp2
              go_ret
              exact ⟨rfl, Hb.out⟩
    · have hT0 := hbad.1 hx
      subst hT0
      have tx : ((x : Int) != 0) = true := by simp; omega
      clear hbad hpl hlen hx
      go_enter Try.func5, Try.ntmps5
      go_wp2_with fail
      refine (awake_any _).mono ?_; rintro e w1 ⟨rfl, hb1⟩
      have HB1 := Lib.hid hb1
      clear hb1
      go_wp2_with fail
      refine (tokens_at' s l HS.out _ _ _ HF.out _).mono ?_
      rintro e w2 ⟨v, rfl, ht2, hb2⟩
      have HT := Lib.hid ht2
      have HB2 := Lib.hid (HB1.out.trans (hb2.mono HB1.out.size))
      clear ht2 hb2
      obtain ⟨A, c, rfl⟩ := HT.out.shape
      go_wp2
      go_ret
      exact ⟨rfl, HB2.out⟩
end Go.Proofs.Ytolanmdckdjfeaa
