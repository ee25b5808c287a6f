/- Layer 9: the contracts of IsName, isKeyword and IsWord. -/
import Derived.Test.YtolanmdckdjfeaaLexScn
namespace Go.Proofs.Ytolanmdckdjfeaa
open Go.RowKit

def kws : List (List UInt8) := [[97, 103, 97, 105, 110], [97, 110, 100], [97, 115], [97, 116], [99, 97, 108, 108], [99, 104, 111, 105, 99, 101], [101, 108, 115, 101], [102, 114, 111, 109], [105, 102], [105, 110, 116], [108, 101, 110], [108, 111, 111, 112], [109, 101, 115, 115, 97, 103, 101], [111, 102], [111, 102, 102, 101, 114], [111, 110], [111, 114], [112, 97, 114], [112, 108, 97, 121, 115], [112, 114, 111, 116, 111, 99, 111, 108], [115, 101, 114, 118, 105, 99, 101], [116, 101, 120, 116], [116, 105, 109, 101, 115], [116, 111], [118, 97, 114], [119, 104, 101, 114, 101], [119, 104, 105, 108, 101], [119, 105, 116, 104, 105, 110]]
def kwB (l : List UInt8) : Bool := decide (l ∈ kws)
def nmB (l : List UInt8) : Bool := decide (1 ≤ l.length) && (decide (l.length ≤ 16) && (cL (nxt l) && decide (spn cN l = l.length)))
def wdB (l : List UInt8) : Bool := nmB l && !kwB l
set_option maxRecDepth 20000 in
set_option maxHeartbeats 1000000 in
theorem isKeyword_s (s : ByteArray) (w : World) : Calls Try.prog 34 #[.string s] w (BoolIs (kwB s.toList) w) := by
  go_enter Try.func34, Try.ntmps34
  go_wp2
  all_goals
    go_ret
    refine BoolIs.mk ?_
    simp_all [kwB, kws]
theorem isKeyword_any (l : List UInt8) (w : World) : Calls Try.prog 34 #[.string (ofL l)] w (BoolIs (kwB l) w) := by
  have := isKeyword_s (ofL l) w
  rwa [ofL_toList] at this
set_option maxHeartbeats 1000000 in
theorem isName_any (l : List UInt8) (w : World) : Calls Try.prog 15 #[.string (ofL l)] w (BoolIs (nmB l) w) := by
  obtain ⟨s, hs⟩ : ∃ s, s = ofL l := ⟨_, rfl⟩
  have hsz : s.size = l.length := by rw [hs, ofL_size]
  have hsl : s.toList = l := by rw [hs, ofL_toList]
  have hsd : s.data.toList = l := by rw [hs, ofL_data]
  rw [← hs]
  by_cases h0 : 1 ≤ l.length
  · have hne : s.toList ≠ [] := by rw [hsl]; intro e; rw [e] at h0; simp at h0
    have hne2 : (!s.toList.isEmpty) = true := by simpa using hne
    have h1 : 0 < s.size := by omega
    by_cases h16 : l.length ≤ 16
    · have h2 : s.size ≤ 16 := by omega
      have hg : s[0].toNat = nxt l := by
        subst hs
        rw [ofL_get l 0 h1, ← nxt_at (k := 0) (by omega), List.drop_zero]
      have HG := Lib.hid hg
      have HD := Lib.hid hsd
      have HZ := Lib.hid hsz
      have hs2 : s.size ≤ 140737488351232 := by omega
      cases hc : cL (nxt l) with
      | true =>
        have HC := Lib.hid hc
        obtain ⟨n, hn⟩ : ∃ n, spn cN l = n := ⟨_, rfl⟩
        have hb := Lib.hid (show nmB l = decide (n = l.length) by unfold nmB; rw [hc, hn]; simp [h0, h16])
        have HN := Lib.hid hn
        clear hs hsz hsl hsd h0 h16 hg hc hn
        go_enter Try.func15, Try.ntmps15
        go_wp2_with fail
        refine (isLetter_any _ _).mono ?_; rintro e w1 ⟨rfl, rfl⟩; rw [HG.out, HC.out]
        go_wp2_with fail
        refine (span_any _ _ (fun n w => isNamePart_any n w) ent_namePart _ _ hs2).mono ?_; rintro e w1 ⟨rfl, rfl⟩; rw [HD.out, HN.out]
        go_wp2
        go_ret
        refine BoolIs.mk ?_
        rw [hb.out, HZ.out]
        rw [Bool.eq_iff_iff]; simp; omega
      | false =>
        have HC := Lib.hid hc
        have hb := Lib.hid (show nmB l = false by unfold nmB; rw [hc]; simp)
        clear hs hsz hsl hsd h0 h16 hg hc
        go_enter Try.func15, Try.ntmps15
        go_wp2_with fail
        refine (isLetter_any _ _).mono ?_; rintro e w1 ⟨rfl, rfl⟩; rw [HG.out, HC.out]
        go_wp2
        go_ret
        exact BoolIs.mk hb.out.symm
    · have h2 : ¬ s.size ≤ 16 := by omega
      have hb := Lib.hid (show nmB l = false by unfold nmB; simp [h16])
      clear hs hsz hsl hsd h0 h16
      go_enter Try.func15, Try.ntmps15
      go_wp2
      go_ret
      exact BoolIs.mk hb.out.symm
  · have hne : s.toList = [] := by rw [hsl]; exact List.eq_nil_of_length_eq_zero (by omega)
    have hne2 : (!s.toList.isEmpty) = false := by rw [hne]; rfl
    have hb := Lib.hid (show nmB l = false by unfold nmB; simp [h0])
    clear hs hsz hsl hsd h0
    go_enter Try.func15, Try.ntmps15
    go_wp2
    go_ret
    exact BoolIs.mk hb.out.symm
theorem isWord_any (l : List UInt8) (w : World) : Calls Try.prog 17 #[.string (ofL l)] w (BoolIs (wdB l) w) := by
  cases hn : nmB l with
  | true =>
    have HN := Lib.hid hn
    have hb := Lib.hid (show wdB l = !kwB l by unfold wdB; rw [hn]; rfl)
    clear hn
    go_enter Try.func17, Try.ntmps17
    go_wp2_with fail
    refine (isName_any _ _).mono ?_; rintro e w1 ⟨rfl, rfl⟩; rw [HN.out]
    go_wp2_with fail
    refine (isKeyword_any _ _).mono ?_; rintro e w1 ⟨rfl, rfl⟩
    go_wp2
    go_ret
    exact BoolIs.mk hb.out.symm
  | false =>
    have HN := Lib.hid hn
    have hb := Lib.hid (show wdB l = false by unfold wdB; rw [hn]; rfl)
    clear hn
    go_enter Try.func17, Try.ntmps17
    go_wp2_with fail
    refine (isName_any _ _).mono ?_; rintro e w1 ⟨rfl, rfl⟩; rw [HN.out]
    go_wp2
    go_ret
    exact BoolIs.mk hb.out.symm
end Go.Proofs.Ytolanmdckdjfeaa
