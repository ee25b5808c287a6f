/- LexNames: the walk. -/
import Derived.Test.YtolanmdckdjfeaaLexRn
import Derived.Test.YtolanmdckdjfeaaLexQo
import Derived.Test.YtolanmdckdjfeaaLexAw
import Derived.Test.YtolanmdckdjfeaaLaw
namespace Go.Proofs.Ytolanmdckdjfeaa
open Go.RowKit

set_option maxRecDepth 100000 in
set_option maxHeartbeats 1000000 in
theorem names_walk (s : ByteArray) (w : World) (_hS : s.size ≤ 140737488351232) : Calls Try.prog 4 #[.string s] w (Ok w) := by
  clear _hS
  by_cases h1 : 300 < s.size
  · go_enter Try.func4, Try.ntmps4
    go_wp2_with fail
    refine (awake_any _).mono ?_; rintro e w1 ⟨rfl, hb1⟩
    have HB1 := Lib.hid hb1
    clear hb1
    go_wp2_with fail
    refine (awake_any _).mono ?_; rintro e w2 ⟨rfl, hb2⟩
    have HB2 := Lib.hid (HB1.out.trans (hb2.mono HB1.out.size))
    clear hb2
    go_wp2
    go_ret
    exact ⟨rfl, HB2.out⟩
  · obtain ⟨l, hl⟩ : ∃ l, l = s.data.toList := ⟨_, rfl⟩
    have hs : s = ofL l := by rw [hl]; exact ofL_of s
    have hsz : s.size = l.length := by rw [hs, ofL_size]
    have HS := Lib.hid hs
    have hl3 : l.length ≤ 300 := by omega
    clear hl hs hsz
    obtain ⟨b1, hb1⟩ : ∃ b, nmB l = b := ⟨_, rfl⟩
    obtain ⟨b2, hb2⟩ : ∃ b, wdB l = b := ⟨_, rfl⟩
    have H1 := Lib.hid hb1
    have H2 := Lib.hid hb2
    clear hb1 hb2
    obtain ⟨q, hq⟩ : ∃ q, ofL (qt l) = q := ⟨_, rfl⟩
    have HQ := Lib.hid hq
    clear hq
    go_enter Try.func4, Try.ntmps4
    go_wp2_with fail
    refine (awake_any _).mono ?_; rintro e w1 ⟨rfl, hb1⟩
    have HB1 := Lib.hid hb1
    clear hb1
    go_wp2_with fail
    rw [HS.out]
    refine (isName_any l _).mono ?_; rintro e w2 ⟨rfl, rfl⟩; rw [H1.out]
    go_wp2_with fail
    refine (risName_any l _ (by omega)).mono ?_; rintro e w2 ⟨rfl, rfl⟩; rw [H1.out]
    go_wp2_with fail
    refine (isWord_any l _).mono ?_; rintro e w2 ⟨rfl, rfl⟩; rw [H2.out]
    go_wp2_with fail
    refine (risWord_any l _ (by omega)).mono ?_; rintro e w2 ⟨rfl, hb2⟩; rw [H2.out]
    have HB2 := Lib.hid (HB1.out.trans (hb2.mono HB1.out.size))
    clear hb2
    go_wp2_with fail
    refine (quote_s _ l rfl (by omega) _).mono ?_; rintro e w3 ⟨rfl, hb3⟩; rw [HQ.out]
    have HB3 := Lib.hid (HB2.out.trans (hb3.mono HB2.out.size))
    clear hb3
    go_wp2_with fail
    refine (rquote_any l (by omega) _).mono ?_; rintro e w4 ⟨rfl, rfl⟩; rw [HQ.out]
    go_wp2
    go_ret
    exact ⟨rfl, HB3.out⟩
end Go.Proofs.Ytolanmdckdjfeaa
