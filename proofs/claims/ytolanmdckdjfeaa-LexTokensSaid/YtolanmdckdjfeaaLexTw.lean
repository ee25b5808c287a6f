/- LexTokens: the walk. -/
import Derived.Test.YtolanmdckdjfeaaLexRo
import Derived.Test.YtolanmdckdjfeaaLexPr
import Derived.Test.YtolanmdckdjfeaaLexAw
import Derived.Test.YtolanmdckdjfeaaLaw
namespace Go.Proofs.Ytolanmdckdjfeaa
open Go.RowKit

theorem full_len (l : List UInt8) : (full l).1.length ≤ 8000 := by
  unfold full
  split
  · simp
  · have := lxs_len 0 l; omega
set_option maxRecDepth 100000 in
set_option maxHeartbeats 1000000 in
theorem tokens_walk (s : ByteArray) (w : World) (_hS : s.size ≤ 140737488351232) : Calls Try.prog 3 #[.string s] w (Ok w) := by
  clear _hS
  by_cases h1 : 8100 < s.size
  · go_enter Try.func3, Try.ntmps3
    go_wp2_with fail
    refine (awake_any _).mono ?_; rintro e w1 ⟨rfl, hb1⟩
    have HB1 := Lib.hid hb1
    clear hb1
    go_wp2_with fail
    refine (awake_any _).mono ?_; rintro e w2 ⟨rfl, hb2⟩
    have HB2 := Lib.hid (HB1.out.trans (hb2.mono HB1.out.size))
    clear hb2
    go_wp2
    go_ret
    exact ⟨rfl, HB2.out⟩
  · obtain ⟨l, hl⟩ : ∃ l, l = s.data.toList := ⟨_, rfl⟩
    have hs : s = ofL l := by rw [hl]; exact ofL_of s
    have HS := Lib.hid hs
    clear hl hs
    have hfl := full_len l
    obtain ⟨R, hR⟩ : ∃ R, full l = R := ⟨_, rfl⟩
    rw [hR] at hfl
    obtain ⟨T, k0, x⟩ := R
    have HR := Lib.hid hR
    simp only at hfl
    clear hR
    go_enter Try.func3, Try.ntmps3
    go_wp2_with fail
    refine (awake_any _).mono ?_; rintro e w1 ⟨rfl, hb1⟩
    have HB1 := Lib.hid hb1
    clear hb1
    go_wp2_with fail
    rw [HS.out]
    refine (tokens_any l _).mono ?_
    rw [HR.out]
    rintro e w2 ⟨v2, rfl, ht2, hb2⟩
    have HT2 : Hid (Toks w2 v2 T) := ht2
    have HB2 := Lib.hid (HB1.out.trans (hb2.mono HB1.out.size))
    clear ht2 hb2
    simp only
    go_wp2_with fail
    refine (rtokens_any l _).mono ?_
    rw [HR.out]
    rintro e w3 ⟨v3, rfl, ht3, hb3⟩
    have HT3 : Hid (Toks w3 v3 T) := ht3
    have HT2b := Lib.hid (HT2.out.below hb3)
    have HB3 := Lib.hid (HB2.out.trans (hb3.mono HB2.out.size))
    clear ht3 hb3
    simp only
    go_wp2_with fail
    refine (theirs_any v2 T _ HT2b.out (by omega)).mono ?_
    rintro e w4 ⟨v4, rfl, ho4, hb4⟩
    have HT4 := Lib.hid (Toks.of_own ho4)
    have HT3b := Lib.hid (HT3.out.below hb4)
    have HB4 := Lib.hid (HB3.out.trans (hb4.mono HB3.out.size))
    clear ho4 hb4
    go_wp2_with fail
    refine (same_any v4 v3 T T true _ HT4.out HT3b.out (SameT.refl _ _) (by omega)).mono ?_
    rintro e w5 ⟨rfl, m, rfl⟩
    go_wp2
    go_ret
    exact ⟨rfl, below_drewN HB4.out m⟩
end Go.Proofs.Ytolanmdckdjfeaa
