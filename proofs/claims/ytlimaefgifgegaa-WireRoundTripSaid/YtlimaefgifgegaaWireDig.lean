/- The contract of wire.digits. -/
import Derived.Test.YtlimaefgifgegaaRows
import Derived.WalkKit
import Derived.WalkSpells
import Derived.WalkLawsBesides
import Derived.Test.YtlimaefgifgegaaWireDigM
import Derived.Lib.Hide
namespace Go.Proofs.Ytlimaefgifgegaa
open Go.RowKit

def DigRel (xs : List Nat) (u i : Value) : Prop :=
  ∃ k q : Nat, k ≤ 9 ∧ k ≤ xs.length ∧ q < 128 ^ k ∧ i = .int .i64 k ∧ u = .int .u64 q ∧ digF 0 0 xs = digF k q (xs.drop k)
def DigPost (w : World) (xs : List Nat) (e : Ending) (w' : World) : Prop :=
  e = .returned (.tuple #[.int .u64 (digF 0 0 xs).1, .int .i64 (digF 0 0 xs).2]) ∧ w = w'

set_option maxRecDepth 20000 in
set_option maxHeartbeats 400000 in
theorem dig_any (A : Option Addr) (n c : Nat) (xs : List Nat) (w : World) (hn : xs.length = n) (hx : Bs w A xs) (hb : Byt xs) (hl : Room2 n) :
    Calls Try.prog 38 #[.slice A n c] w (DigPost w xs) := by
  have Hl := Lib.hid hl
  clear hl
  go_enter Try.func38, Try.ntmps38
  go_wp2
  go_loop [2, 8] (fun u i => DigRel xs u i) (fun _ i => n - (intOf i).toNat)
  case atStart => exact ⟨0, 0, by omega, by omega, by simp, rfl, rfl, rfl⟩
  case round =>
    obtain ⟨k, q, hk, hk2, hq, rfl, rfl, hd⟩ := hrel
    have Hq := Lib.hid hq; clear hq
    have He := Lib.hid hd; clear hd
    have Hn := Lib.hid hn; clear hn
    by_cases hlt : k < n
    · rcases hx with hx | ⟨ad, rfl, hc⟩
      · have := Hn.out; simp [hx] at this; omega
      have hlx : k < xs.length := by rw [Hn.out]; exact hlt
      have hcell := hc k _ (List.getElem?_eq_getElem hlx)
      have hby := hb _ (List.getElem_mem hlx)
      have hdrop : Hid (xs.drop k = xs[k] :: xs.drop (k + 1)) := List.drop_eq_getElem_cons hlx
      obtain ⟨c0, hc0⟩ : ∃ c0, c0 = xs[k] := ⟨_, rfl⟩
      rw [← hc0] at hcell hby hdrop
      unfold bv at hcell
      have Hc0 := Lib.hid hc0; clear hc0 hc hb
      have hand := and127 c0 hby
      have HX := Lib.hid (show digF 0 0 xs = digF k q (c0 :: xs.drop (k + 1)) by rw [He.out, hdrop.out])
      by_cases h9 : k = 9
      · have t9 : ((k : Int) == 9) = true := by simp; omega
        have H9 := Lib.hid h9; clear h9
        by_cases hgt : 1 < c0
        · go_wp2
          go_ret2
          refine ⟨?_, rfl⟩
          have e := HX.out
          rw [H9.out, dig_over hgt] at e
          rw [e]; rfl
        · have hlo : c0 < 128 := by omega
          by_cases hz : c0 = 0
          · have tz : ((c0 : Int) == 0) = true := by simp; omega
            have Hz := Lib.hid hz; clear hz
            have hk0 : 0 < k := by have := H9.out; omega
            go_wp2
            go_ret2
            refine ⟨?_, rfl⟩
            have e := HX.out
            rw [Hz.out, dig_zero hk0] at e
            rw [e]; rfl
          · have tz : ((c0 : Int) == 0) = false := by simp; omega
            go_wp2
            go_ret2
            refine ⟨?_, rfl⟩
            have e := HX.out
            rw [dig_end (fun h => hgt h.2) (fun h => hz h.1) hlo] at e
            rw [e, or_step _ _ _ Hq.out (by have := H9.out; subst this; exact or_room9 Hq.out hgt)]
            rfl
      · have t9 : ((k : Int) == 9) = false := by simp; omega
        have hk9 : k < 9 := by omega
        clear h9
        by_cases hlo : c0 < 128
        · by_cases hz : c0 = 0
          · have tz : ((c0 : Int) == 0) = true := by simp; omega
            have Hz := Lib.hid hz; clear hz
            by_cases hk0 : 0 < k
            · go_wp2
              go_ret2
              refine ⟨?_, rfl⟩
              have e := HX.out
              rw [Hz.out, dig_zero hk0] at e
              rw [e]; rfl
            · go_wp2
              go_ret2
              refine ⟨?_, rfl⟩
              have e := HX.out
              rw [dig_end (by omega) (by omega) hlo] at e
              rw [e, or_step _ _ _ Hq.out ((or_room Hq.out hk9).2)]
              rfl
          · have tz : ((c0 : Int) == 0) = false := by simp; omega
            go_wp2
            go_ret2
            refine ⟨?_, rfl⟩
            have e := HX.out
            rw [dig_end (by omega) (by omega) hlo] at e
            rw [e, or_step _ _ _ Hq.out ((or_room Hq.out hk9).2)]
            rfl
        · go_wp2
          go_round
          case rel =>
            have hr := or_room (c := c0) Hq.out hk9
            refine ⟨k + 1, q + c0 % 128 * 128 ^ k, by omega, by omega, hr.1, by go_num, ?_, ?_⟩
            · rw [or_step _ _ _ Hq.out hr.2]
            · rw [HX.out, dig_more hk9 hlo hby]
          case measure => simp [intOf]; omega
    · go_wp2
      go_ret2
      refine ⟨?_, rfl⟩
      have e := He.out
      rw [List.drop_eq_nil_of_le (by have := Hn.out; omega)] at e
      rw [e]; rfl
end Go.Proofs.Ytlimaefgifgegaa
