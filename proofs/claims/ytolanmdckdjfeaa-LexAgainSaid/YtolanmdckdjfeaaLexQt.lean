/- Layer 9: texts quoted; the contract of the reference's Quote. -/
import Derived.Test.YtolanmdckdjfeaaLexRune
namespace Go.Proofs.Ytolanmdckdjfeaa
open Go.RowKit

def escB (c : UInt8) : List UInt8 := if cE c.toNat = true then [92, c] else [c]
def esc (l : List UInt8) : List UInt8 := l.flatMap escB
def qt (l : List UInt8) : List UInt8 := 34 :: esc l ++ [34]
theorem esc_len (l : List UInt8) : (esc l).length ≤ 2 * l.length := by
  induction l with
  | nil => simp [esc]
  | cons c r ih =>
    have : (escB c).length ≤ 2 := by unfold escB; split <;> simp
    unfold esc at ih ⊢
    rw [List.flatMap_cons, List.length_append, List.length_cons]; omega
theorem esc_snoc {l : List UInt8} {k : Nat} {c : UInt8} (h : l[k]? = some c) : esc (l.take (k + 1)) = esc (l.take k) ++ escB c := by
  unfold esc
  rw [List.take_add_one, h, List.flatMap_append]; simp
def RqRel (l : List UInt8) (o i : Value) : Prop := ∃ (k : Nat) (s : ByteArray), k ≤ l.length ∧ i = .int .i64 (k : Int) ∧ o = .string s ∧ Hid (s = ofL (34 :: esc (l.take k)))
theorem rquote_s (s : ByteArray) (l : List UInt8) (hs : s = ofL l) (hl : l.length ≤ 10000) (w : World) : Calls Try.prog 20 #[.string s] w fun e w' => e = .returned (.string (ofL (qt l))) ∧ w = w' := by
  have hsz : s.size = l.length := by rw [hs, ofL_size]
  have HS := Lib.hid hs
  have HZ := Lib.hid hsz
  have hs1 : s.size ≤ 10000 := by omega
  clear hs hsz
  go_enter Try.func20, Try.ntmps20
  go_wp2
  go_loop [3, 4] (fun o i => RqRel l o i) (fun _ i => s.size - (intOf i).toNat)
  case atStart => exact ⟨0, _, by omega, rfl, rfl, rfl⟩
  case round =>
    obtain ⟨k, u, hk, rfl, rfl, HU⟩ := hrel
    have hul : u.size ≤ 30000 := by rw [HU.out, ofL_size]; have := esc_len (l.take k); simp at this ⊢; omega
    by_cases hlt : k < s.size
    · obtain ⟨c, hc⟩ : ∃ c, l[k]? = some c := ⟨l[k]'(by have := HZ.out; omega), List.getElem?_eq_getElem _⟩
      have hg : (s[k]'hlt).toNat = c.toNat := by
        have e : s[k]'hlt = c := by
          have := HS.out
          subst this
          rw [ofL_get]
          exact (List.getElem?_eq_some_iff.1 hc).2
        rw [e]
      have hex : s.extract k (k + 1) = ofL [c] := by
        rw [HS.out, ofL_extract, show k + 1 - k = 1 by omega]
        congr 1
        rw [List.take_one, List.head?_drop, hc]; rfl
      have HEX := Lib.hid hex
      have hexs : (s.extract k (k + 1)).size ≤ 1 := by rw [hex, ofL_size]; simp
      have hsn := Lib.hid (esc_snoc hc)
      have HC := Lib.hid hc
      have HN := Lib.hid hg
      obtain ⟨x, hx⟩ : ∃ x, x = c.toNat := ⟨_, rfl⟩
      rw [← hx] at hg
      have HXX := Lib.hid hx
      clear hc hex hx
      by_cases he : cE x = true
      · have hstep : Hid (u ++ { data := #[92] } ++ s.extract k (k + 1) = ofL (34 :: esc (l.take (k + 1)))) := by
          unfold Hid
          rw [HU.out, HEX.out, hsn.out]
          show ofL _ ++ ofL [92] ++ ofL [c] = _
          rw [ofL_append, ofL_append]
          congr 1
          unfold escB
          rw [← HXX.out, if_pos he]; simp
        have hcase : ((x : Int) == 34) = true ∨ (((x : Int) == 34) = false ∧ ((x : Int) == 92) = true) := by
          simp [cE] at he
          rcases he with rfl | rfl
          · exact .inl rfl
          · exact .inr ⟨rfl, rfl⟩
        clear he
        rcases hcase with t1 | ⟨t1, t2⟩
        all_goals
          go_wp2
          go_round
          case rel => exact ⟨k + 1, _, by have := HZ.out; omega, by go_num, rfl, hstep⟩
          case measure => simp [intOf]; omega
      · have hstep : Hid (u ++ s.extract k (k + 1) = ofL (34 :: esc (l.take (k + 1)))) := by
          unfold Hid
          rw [HU.out, HEX.out, hsn.out, ofL_append]
          congr 1
          unfold escB
          rw [← HXX.out, if_neg he]; simp
        have t1 : ((x : Int) == 34) = false := by simp [cE] at he; simp; omega
        have t2 : ((x : Int) == 92) = false := by simp [cE] at he; simp; omega
        clear he
        go_wp2
        go_round
        case rel => exact ⟨k + 1, _, by have := HZ.out; omega, by go_num, rfl, hstep⟩
        case measure => simp [intOf]; omega
    · have hend : Hid (u ++ { data := #[34] } = ofL (qt l)) := by
        unfold Hid
        rw [HU.out, List.take_of_length_le (by have := HZ.out; omega)]
        show ofL _ ++ ofL [34] = _
        rw [ofL_append]; rfl
      go_wp2
      go_ret
      exact ⟨congrArg (fun z => Ending.returned (.string z)) hend.out, rfl⟩
theorem rquote_any (l : List UInt8) (hl : l.length ≤ 10000) (w : World) : Calls Try.prog 20 #[.string (ofL l)] w fun e w' => e = .returned (.string (ofL (qt l))) ∧ w = w' := rquote_s _ l rfl hl w
end Go.Proofs.Ytolanmdckdjfeaa
