/- LexTexts: the walk. -/
import Derived.Test.YtolanmdckdjfeaaLexQo
import Derived.Test.YtolanmdckdjfeaaLexPr
import Derived.Test.YtolanmdckdjfeaaLexAw
import Derived.Test.YtolanmdckdjfeaaLaw
namespace Go.Proofs.Ytolanmdckdjfeaa
open Go.RowKit

theorem txt_esc : ∀ (l r : List UInt8), (∀ c ∈ l, 32 ≤ c.toNat ∧ c.toNat ≤ 126) → txt (esc l ++ 34 :: r) = some (l, (esc l).length + 1)
  | [], r, _ => by
    show txt (34 :: r) = some ([], 1)
    rw [txt_cons, if_pos (by decide)]
  | c :: l, r, h => by
    have hc := h c (by simp)
    have ih := txt_esc l r fun x hx => h x (by simp [hx])
    have e : esc (c :: l) = escB c ++ esc l := rfl
    rw [e]
    unfold escB
    by_cases he : cE c.toNat = true
    · rw [if_pos he]
      show txt (92 :: c :: (esc l ++ 34 :: r)) = some (c :: l, (92 :: c :: esc l).length + 1)
      rw [txt_cons, if_neg (by decide), if_pos (by decide)]
      simp only
      rw [if_pos he, ih]; rfl
    · rw [if_neg he]
      show txt (c :: (esc l ++ 34 :: r)) = some (c :: l, (c :: esc l).length + 1)
      have h1 : ¬ c.toNat = 34 := fun h => he (by simp [cE, h])
      have h2 : ¬ c.toNat = 92 := fun h => he (by simp [cE, h])
      rw [txt_cons, if_neg h1, if_neg h2, if_pos hc, ih]; rfl
theorem tk_quote (l r : List UInt8) (h : ∀ c ∈ l, 32 ≤ c.toNat ∧ c.toNat ≤ 126) (hl : l.length ≤ 40) : tk (34 :: (esc l ++ 34 :: r)) = .ok 3 l 0 ((esc l).length + 2) := by
  unfold tk
  have e : nxt (34 :: (esc l ++ 34 :: r)) = 34 := rfl
  rw [e, if_neg (by decide), if_neg (by decide), if_pos rfl]
  unfold tkText
  rw [List.tail_cons, txt_esc l r h]
  simp only
  rw [if_neg (by omega)]
theorem full_quote (l : List UInt8) (h : ∀ c ∈ l, 32 ≤ c.toNat ∧ c.toNat ≤ 126) (hl : l.length ≤ 40) : full (qt l) = ([⟨3, l, 0, 0⟩], 0, 0) := by
  have hel := esc_len l
  have hq : qt l = 34 :: (esc l ++ 34 :: []) := rfl
  have hqs : (qt l).length = (esc l).length + 2 := by rw [hq]; simp
  rw [full_small (by omega)]
  have hs : sk false (qt l) = 0 := by rw [hq, sk, if_neg (by decide), if_neg (fun h => absurd h.1 (by decide))]
  rw [lxs_ok (k := 3) (t := l) (v := 0) (m := (esc l).length + 2) (by rw [hs]; omega) (by rw [hs, List.drop_zero, hq]; exact tk_quote l [] h hl), hs]
  simp only [List.drop_zero]
  rw [List.drop_eq_nil_of_le (by omega), lxs_end rfl]
  rfl
def TtRel (l : List UInt8) (i : Value) : Prop := ∃ k : Nat, k ≤ l.length ∧ i = .int .i64 (k : Int) ∧ ∀ c ∈ l.take k, 32 ≤ c.toNat ∧ c.toNat ≤ 126
set_option maxRecDepth 100000 in
set_option maxHeartbeats 1000000 in
theorem texts_walk (s : ByteArray) (w : World) (_hS : s.size ≤ 140737488351232) : Calls Try.prog 7 #[.string s] w (Ok w) := by
  clear _hS
  by_cases h1 : 40 < s.size
  · go_enter Try.func7, Try.ntmps7
    go_wp2_with fail
    refine (awake_any _).mono ?_; rintro e w1 ⟨rfl, hb1⟩
    have HB1 := Lib.hid hb1
    clear hb1
    go_wp2_with fail
    refine (awake_any _).mono ?_; rintro e w2 ⟨rfl, hb2⟩
    have HB2 := Lib.hid (HB1.out.trans (hb2.mono HB1.out.size))
    clear hb2
    go_wp2
    go_ret
    exact ⟨rfl, HB2.out⟩
  · obtain ⟨l, hl⟩ : ∃ l, l = s.data.toList := ⟨_, rfl⟩
    have hs : s = ofL l := by rw [hl]; exact ofL_of s
    have hsz : s.size = l.length := by rw [hs, ofL_size]
    have HS := Lib.hid hs
    have HZ := Lib.hid hsz
    clear hl hs hsz
    go_enter Try.func7, Try.ntmps7
    go_wp2_with fail
    refine (awake_any _).mono ?_; rintro e w1 ⟨rfl, hb1⟩
    have HB1 := Lib.hid hb1
    clear hb1
    go_wp2
    go_loop [3, 17] (fun _ i => TtRel l i) (fun _ i => s.size - (intOf i).toNat)
    case atStart => exact ⟨0, by omega, rfl, by simp⟩
    case round =>
      obtain ⟨k, hk, rfl, hc⟩ := hrel
      have HC := Lib.hid hc
      clear hc
      by_cases hlt : k < s.size
      · obtain ⟨c, hcc⟩ : ∃ c, l[k]? = some c := ⟨l[k]'(by have := HZ.out; omega), List.getElem?_eq_getElem _⟩
        have hg : (s[k]'hlt).toNat = c.toNat := by
          have e : s[k]'hlt = c := by
            have := HS.out
            subst this
            rw [ofL_get]
            exact (List.getElem?_eq_some_iff.1 hcc).2
          rw [e]
        obtain ⟨x, hx⟩ : ∃ x, x = c.toNat := ⟨_, rfl⟩
        rw [← hx] at hg
        have HXX := Lib.hid hx
        have HCC := Lib.hid hcc
        clear hcc hx
        by_cases hok : 32 ≤ x ∧ x ≤ 126
        · obtain ⟨ho1, ho2⟩ := hok
          go_wp2
          go_round
          case rel =>
            refine ⟨k + 1, by have := HZ.out; omega, by go_num, fun d hd => ?_⟩
            rw [List.take_add_one, HCC.out] at hd
            rcases List.mem_append.1 hd with hd | hd
            · exact HC.out d hd
            · simp at hd; subst hd; rw [← HXX.out]; exact ⟨ho1, ho2⟩
          case measure => simp [intOf]; omega
        · have hbad : x < 32 ∨ 126 < x := by omega
          clear hok
          rcases hbad with hb | hb
          all_goals
            go_wp2
            go_ret
            exact ⟨rfl, HB1.out⟩
      · have hall : Hid (∀ c ∈ l, 32 ≤ c.toNat ∧ c.toNat ≤ 126) := by
          unfold Hid
          have := HC.out
          rwa [List.take_of_length_le (by have := HZ.out; omega)] at this
        have hf := Lib.hid (full_quote l hall.out (by have := HZ.out; omega))
        go_wp2_with fail
        refine (quote_s s l HS.out (by have := HZ.out; omega) _).mono ?_; rintro e w2 ⟨rfl, hb2⟩
        have HB2 := Lib.hid (HB1.out.trans (hb2.mono HB1.out.size))
        clear hb2
        go_wp2_with fail
        refine (tokens_lit (qt l) _ _ _ hf.out _).mono ?_
        rintro e w3 ⟨v, rfl, ht, hb3⟩
        have HB3 := Lib.hid (HB2.out.trans (hb3.mono HB2.out.size))
        obtain ⟨ad, cp, rfl, hcp, a0, a1, a2, a3⟩ := toks_cell ht 0 (by simp)
        have A0 : w3.cell? ad = some (.int .i64 3) := a0
        have A1 : w3.cell? ⟨ad.block, ad.off + 1, none⟩ = some (.string s) := by rw [HS.out]; exact a1
        have A2 : w3.cell? ⟨ad.block, ad.off + 2, none⟩ = some (.int .i64 0) := a2
        have A3 : w3.cell? ⟨ad.block, ad.off + 3, none⟩ = some (.int .i64 0) := a3
        clear ht hb3 a0 a1 a2 a3
        go_wp2
        go_ret
        exact ⟨rfl, HB3.out⟩
end Go.Proofs.Ytolanmdckdjfeaa
