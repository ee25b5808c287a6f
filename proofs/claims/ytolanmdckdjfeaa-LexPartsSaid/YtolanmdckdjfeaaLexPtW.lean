/- LexParts: the walk (tools/lexpt_gen.py). -/
import Derived.Test.YtolanmdckdjfeaaLexPt
import Derived.Test.YtolanmdckdjfeaaLexRune
namespace Go.Proofs.Ytolanmdckdjfeaa
open Go.RowKit

set_option maxRecDepth 100000 in
set_option maxHeartbeats 1000000 in
theorem parts_walk (a b : ByteArray) (w : World) (_hA : a.size ≤ 140737488351232) (_hB : b.size ≤ 140737488351232) : Calls Try.prog 8 #[.string a, .string b] w (Ok w) := by
  by_cases h1 : 1000 < a.size
  · clear _hA _hB
    go_enter Try.func8, Try.ntmps8
    go_wp2_with fail
    refine (awake_any _).mono ?_; rintro e w1 ⟨rfl, hb1⟩
    have HB1 := Lib.hid hb1
    clear hb1
    go_wp2_with fail
    refine (awake_any _).mono ?_; rintro e w2 ⟨rfl, hb2⟩
    have HB2 := Lib.hid (HB1.out.trans (hb2.mono HB1.out.size))
    clear hb2
    go_wp2
    go_ret
    exact ⟨rfl, HB2.out⟩
  · by_cases h2 : 1000 < b.size
    · clear _hA _hB
      go_enter Try.func8, Try.ntmps8
      go_wp2_with fail
      refine (awake_any _).mono ?_; rintro e w1 ⟨rfl, hb1⟩
      have HB1 := Lib.hid hb1
      clear hb1
      go_wp2_with fail
      refine (awake_any _).mono ?_; rintro e w2 ⟨rfl, hb2⟩
      have HB2 := Lib.hid (HB1.out.trans (hb2.mono HB1.out.size))
      clear hb2
      go_wp2
      go_ret
      exact ⟨rfl, HB2.out⟩
    · clear _hA _hB
      obtain ⟨la, hla⟩ : ∃ la, la = a.data.toList := ⟨_, rfl⟩
      obtain ⟨lb, hlb⟩ : ∃ lb, lb = b.data.toList := ⟨_, rfl⟩
      have ha : a = ofL la := by rw [hla]; exact ofL_of a
      have hb : b = ofL lb := by rw [hlb]; exact ofL_of b
      have sa : a.size = la.length := by rw [ha, ofL_size]
      have sb : b.size = lb.length := by rw [hb, ofL_size]
      have HA := Lib.hid ha
      have HBB := Lib.hid hb
      have hc1 : la.length ≤ 1000 := by omega
      have hc2 : lb.length ≤ 1000 := by omega
      have HSA := Lib.hid sa
      have HC := Lib.hid (show a ++ { data := #[10] } ++ b = ofL (la ++ 10 :: lb) by
        rw [ha, hb]
        show ofL la ++ ofL [10] ++ ofL lb = _
        rw [ofL_append, ofL_append, List.append_assoc]; rfl)
      have hcs := parts_cases la lb hc1 hc2
      clear hla hlb ha hb sa sb
      obtain ⟨R1, hR1⟩ : ∃ R, full la = R := ⟨_, rfl⟩
      obtain ⟨R2, hR2⟩ : ∃ R, full lb = R := ⟨_, rfl⟩
      obtain ⟨R3, hR3⟩ : ∃ R, full (la ++ 10 :: lb) = R := ⟨_, rfl⟩
      rw [hR1, hR2, hR3] at hcs
      obtain ⟨T1, k1, e1⟩ := R1
      obtain ⟨T2, k2, e2⟩ := R2
      have HFA := Lib.hid hR1
      have HFB := Lib.hid hR2
      clear hR1 hR2
      simp only at hcs
      rcases hcs with ⟨g1, rfl⟩ | ⟨rfl, g2, rfl⟩ | ⟨rfl, rfl, g3, g4⟩
      · have HFC := Lib.hid hR3
        clear hR3
        have t1 : ((e1 : Int) != 0) = true := by simp; omega
        clear g1
        go_enter Try.func8, Try.ntmps8
        go_wp2_with fail
        refine (awake_any _).mono ?_; rintro e w1 ⟨rfl, hb1⟩
        have HB1 := Lib.hid hb1
        clear hb1
        go_wp2_with fail
        refine (tokens_at' a la HA.out _ _ _ HFA.out _).mono ?_
        rintro e w2 ⟨v2, rfl, ht2, hb2⟩
        have HT2 := Lib.hid ht2
        have HB2 := Lib.hid (HB1.out.trans (hb2.mono HB1.out.size))
        clear ht2 hb2
        go_wp2_with fail
        refine (tokens_at' b lb HBB.out _ _ _ HFB.out _).mono ?_
        rintro e w3 ⟨v3, rfl, ht3, hb3⟩
        have HT3 := Lib.hid ht3
        have HT2b := Lib.hid (HT2.out.below hb3)
        have HB3 := Lib.hid (HB2.out.trans (hb3.mono HB2.out.size))
        clear ht3 hb3
        go_wp2_with fail
        refine (tokens_at' _ _ HC.out _ _ _ HFC.out _).mono ?_
        rintro e w4 ⟨v4, rfl, ht4, hb4⟩
        have HT4 := Lib.hid ht4
        have HT3b := Lib.hid (HT3.out.below hb4)
        have HT2c := Lib.hid (HT2b.out.below hb4)
        have HB4 := Lib.hid (HB3.out.trans (hb4.mono HB3.out.size))
        clear ht4 hb4
        go_wp2
        go_ret
        exact ⟨rfl, HB4.out⟩
      · have HFC := Lib.hid hR3
        clear hR3
        have t2 : ((e2 : Int) != 0) = true := by simp; omega
        obtain ⟨q, hq⟩ : ∃ q, q = k2 + (la.length + 1) := ⟨_, rfl⟩
        have hkq : k2 ≤ 1000 := by
          have h9 := lxs_at 0 lb
          have h8 := HFB.out
          rw [full_small (by omega)] at h8
          rw [h8] at h9
          simp only at h9; omega
        have tq : ((q : Int) == (k2 : Int) + (a.size : Int) + 1) = true := by have := HSA.out; simp; omega
        rw [← hq] at HFC
        clear g2 hq
        go_enter Try.func8, Try.ntmps8
        go_wp2_with fail
        refine (awake_any _).mono ?_; rintro e w1 ⟨rfl, hb1⟩
        have HB1 := Lib.hid hb1
        clear hb1
        go_wp2_with fail
        refine (tokens_at' a la HA.out _ _ _ HFA.out _).mono ?_
        rintro e w2 ⟨v2, rfl, ht2, hb2⟩
        have HT2 := Lib.hid ht2
        have HB2 := Lib.hid (HB1.out.trans (hb2.mono HB1.out.size))
        clear ht2 hb2
        go_wp2_with fail
        refine (tokens_at' b lb HBB.out _ _ _ HFB.out _).mono ?_
        rintro e w3 ⟨v3, rfl, ht3, hb3⟩
        have HT3 := Lib.hid ht3
        have HT2b := Lib.hid (HT2.out.below hb3)
        have HB3 := Lib.hid (HB2.out.trans (hb3.mono HB2.out.size))
        clear ht3 hb3
        go_wp2_with fail
        refine (tokens_at' _ _ HC.out _ _ _ HFC.out _).mono ?_
        rintro e w4 ⟨v4, rfl, ht4, hb4⟩
        have HT4 := Lib.hid ht4
        have HT3b := Lib.hid (HT3.out.below hb4)
        have HT2c := Lib.hid (HT2b.out.below hb4)
        have HB4 := Lib.hid (HB3.out.trans (hb4.mono HB3.out.size))
        clear ht4 hb4
        go_wp2
        go_ret
        exact ⟨rfl, HB4.out⟩
      · obtain ⟨T3, k3, e3⟩ := R3
        simp only [Prod.mk.injEq] at g3
        obtain ⟨rfl, rfl⟩ := g3
        have HFC := Lib.hid hR3
        have HSM := Lib.hid g4
        clear hR3 g4
        go_enter Try.func8, Try.ntmps8
        go_wp2_with fail
        refine (awake_any _).mono ?_; rintro e w1 ⟨rfl, hb1⟩
        have HB1 := Lib.hid hb1
        clear hb1
        go_wp2_with fail
        refine (tokens_at' a la HA.out _ _ _ HFA.out _).mono ?_
        rintro e w2 ⟨v2, rfl, ht2, hb2⟩
        have HT2 := Lib.hid ht2
        have HB2 := Lib.hid (HB1.out.trans (hb2.mono HB1.out.size))
        clear ht2 hb2
        go_wp2_with fail
        refine (tokens_at' b lb HBB.out _ _ _ HFB.out _).mono ?_
        rintro e w3 ⟨v3, rfl, ht3, hb3⟩
        have HT3 := Lib.hid ht3
        have HT2b := Lib.hid (HT2.out.below hb3)
        have HB3 := Lib.hid (HB2.out.trans (hb3.mono HB2.out.size))
        clear ht3 hb3
        go_wp2_with fail
        refine (tokens_at' _ _ HC.out _ _ _ HFC.out _).mono ?_
        rintro e w4 ⟨v4, rfl, ht4, hb4⟩
        have HT4 := Lib.hid ht4
        have HT3b := Lib.hid (HT3.out.below hb4)
        have HT2c := Lib.hid (HT2b.out.below hb4)
        have HB4 := Lib.hid (HB3.out.trans (hb4.mono HB3.out.size))
        clear ht4 hb4
        have hl1 := lxs_len 0 la
        have hl2 := lxs_len 0 lb
        have hl3 : T1.length ≤ 1000 := by have := congrArg (fun r : Res => r.1.length) HFA.out; rw [full_small (by omega)] at this; simp only at this; omega
        have hl4 : T2.length ≤ 1000 := by have := congrArg (fun r : Res => r.1.length) HFB.out; rw [full_small (by omega)] at this; simp only at this; omega
        have hl5 : T3.length ≤ 3000 := by have := HSM.out.1; rw [List.length_append] at this; omega
        clear hl1 hl2
        go_wp2_with fail
        refine (theirs_any v4 T3 _ HT4.out (by omega)).mono ?_
        rintro e w5 ⟨v5, rfl, ho5, hb5⟩
        have HO5 := Lib.hid ho5
        have HT2d := Lib.hid (HT2c.out.below hb5)
        have HT3c := Lib.hid (HT3b.out.below hb5)
        have HB5 := Lib.hid (HB4.out.trans (hb5.mono HB4.out.size))
        clear ho5 hb5
        go_wp2_with fail
        refine (theirs_any v2 T1 _ HT2d.out (by omega)).mono ?_
        rintro e w6 ⟨v6, rfl, ho6, hb6⟩
        have HO6 := Lib.hid ho6
        have HB56 := Lib.hid hb6
        have HO5b := Lib.hid (own_keepK HO5.out fun x hx _ => hb6.block x hx)
        have HT3d := Lib.hid (HT3c.out.below hb6)
        have HB6 := Lib.hid (HB5.out.trans (hb6.mono HB5.out.size))
        have hz6 := hb6.size
        clear ho6 hb6
        go_wp2_with fail
        refine (theirs_any v3 T2 _ HT3d.out (by omega)).mono ?_
        rintro e w7 ⟨v7, rfl, ho7, hb7⟩
        have HO7 := Lib.hid ho7
        have HB57 := Lib.hid (HB56.out.trans (hb7.mono hz6))
        have HO6b := Lib.hid (own_keepK HO6.out fun x hx _ => hb7.block x hx)
        have HO5c := Lib.hid (own_keepK HO5b.out fun x hx _ => hb7.block x hx)
        have HB7 := Lib.hid (HB6.out.trans (hb7.mono HB6.out.size))
        have hz7 := Nat.le_trans hz6 hb7.size
        clear ho7 hb7
        have hacc : (T1.length + T2.length) * 40 ≤ 140737488355328 := by omega
        go_wp2_with (at_builtin; refine appT (by simp [Region.wanted, yielded]) _ _ 27 rfl 38 _ 40 info_rtok Try.underlying27 rfl w5.heap.size _ _ _ rfl HO6b.out _ _ _ _ _ rfl HO7.out (tcells_one T2) hacc (by omega) hz7 ?_; intro v8 w8 hown8 hf8; have HO8 := Lib.hid hown8; have HF8 := Lib.hid hf8; clear hown8 hf8)
        have HB58 := Lib.hid (HB57.out.trans (HF8.out.below hz7))
        have HTA := Lib.hid ((Toks.of_own HO5.out).below HB58.out)
        have h8 := HO8.out
        rw [← List.flatMap_append] at h8
        have HTB := Lib.hid (Toks.of_own h8)
        have HBF := Lib.hid (HB5.out.trans (HB58.out.mono HB5.out.size))
        clear h8
        refine (same_any v5 v8 T3 (T1 ++ T2) false _ HTA.out HTB.out HSM.out (by omega)).mono ?_
        rintro e w9 ⟨rfl, m, rfl⟩
        go_wp2
        go_ret
        exact ⟨rfl, below_drewN HBF.out m⟩
end Go.Proofs.Ytolanmdckdjfeaa
