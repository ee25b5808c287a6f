/- The contract of the reference's SameInts. -/
import Derived.Test.YtlimaefgifgegaaWireIts
namespace Go.Proofs.Ytlimaefgifgegaa
open Go.RowKit
set_option maxHeartbeats 1000000 in
theorem sameints_any (A A2 : Option Addr) (c c2 : Nat) (l m : List Int) (w : World) (hx : Nsl w (.slice A l.length c) l) (hy : Nsl w (.slice A2 m.length c2) m) (hl : l.length ≤ 1000000) (hm : m.length ≤ 1000000) (hlm : l = m) :
    Calls Try.prog 15 #[.slice A l.length c, .slice A2 m.length c2] w fun e w' => e = .returned (.bool true) ∧ Below w.heap.size w w' := by
  subst hlm
  have Hx := Lib.hid hx; clear hx
  have Hy := Lib.hid hy; clear hy
  go_enter Try.func15, Try.ntmps15
  go_wp2
  go_loopw [5] (fun i wr => ∃ k : Nat, k ≤ l.length ∧ i = .int .i64 k ∧ Below w.heap.size w wr) (fun i _ => l.length - (intOf i).toNat)
  case atStart => exact ⟨0, by omega, rfl, Below.refl _ _⟩
  case round =>
    obtain ⟨k, hk, rfl, hbel⟩ := hrel
    have Hbel := Lib.hid hbel; clear hbel
    by_cases hlt : k < l.length
    · rcases Hx.out.below Hbel.out with ⟨_, h0⟩ | ⟨ad, c', hv, hc, hcell⟩
      · rw [h0] at hlt; simp at hlt
      simp only [Value.slice.injEq] at hv
      obtain ⟨rfl, _, rfl⟩ := hv
      rcases Hy.out.below Hbel.out with ⟨_, h0⟩ | ⟨ad2, c2', hv, hc2, hcell2⟩
      · rw [h0] at hlt; simp at hlt
      simp only [Value.slice.injEq] at hv
      obtain ⟨rfl, _, rfl⟩ := hv
      have h1 := hcell k _ (List.getElem?_eq_getElem hlt)
      have g1 := hcell2 k _ (List.getElem?_eq_getElem hlt)
      obtain ⟨x, hx⟩ : ∃ x, x = l[k] := ⟨_, rfl⟩
      rw [← hx] at h1 g1
      clear hx hcell hcell2
      unfold iv at h1 g1
      have i0 : (0 : Int) ≤ (k : Int) := by omega
      have i1 : (k : Int) < (l.length : Int) := by omega
      go_wp2
      go_region
      go_wp2
      go_roundw
      case rel => exact ⟨k + 1, by omega, by go_num, Hbel.out.drew⟩
      case measure => simp [intOf]; omega
    · go_wp2
      go_ret
      exact ⟨rfl, Hbel.out⟩
end Go.Proofs.Ytlimaefgifgegaa
