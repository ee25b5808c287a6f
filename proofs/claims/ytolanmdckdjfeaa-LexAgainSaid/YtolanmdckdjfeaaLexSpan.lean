/- Layer 9: the contract of span. -/
import Derived.Test.YtolanmdckdjfeaaLexSp
import Derived.Shelf.Abstract
namespace Go.Proofs.Ytolanmdckdjfeaa
open Go.RowKit

set_option maxHeartbeats 400000 in
theorem span_any (f : Nat) (p : Nat → Bool) (hf : IsSort f p) (hE : ∀ args w, (callFunc f args).run Try.prog w = .ok (.enter f args) w) (s : ByteArray) (w : World) (hs : s.size ≤ 140737488351232) :
    Calls Try.prog 30 #[.string s, .func (.func f) #[] #[]] w (SpnPost s p w) := by
  have HF : Hid (∀ (n : Nat) (w : World), Calls Try.prog f #[.int .u8 (n : Int)] w (BoolIs (p n) w)) := hf
  clear hf
  go_enter Try.func30, Try.ntmps30
  go_wp2
  go_loop [5] (SpnRel s p) (fun i => s.size - (intOf i).toNat)
  case atStart => exact ⟨0, by omega, rfl, by omega⟩
  case round =>
    obtain ⟨k, hk, rfl, hp⟩ := hrel
    have HP := Lib.hid hp; clear hp
    by_cases hlt : k < s.size
    · have hg := Lib.hid (ba_get s k hlt)
      cases hpc : p s[k].toNat with
      | true =>
        have Hpc := Lib.hid hpc; clear hpc
        go_wp2_with ((with_reducible refine (HF.out _ _).mono ?_); rintro e w' ⟨rfl, rfl⟩; rw [Hpc.out])
        go_round
        case rel =>
          refine ⟨k + 1, by omega, by go_num, fun j c hj hc => ?_⟩
          by_cases e : j = k
          · subst e
            rw [hg.out] at hc; cases hc
            exact Hpc.out
          · exact HP.out j c (by omega) hc
        case measure => simp [intOf]; omega
      | false =>
        have Hpc := Lib.hid hpc; clear hpc
        go_wp2_with ((with_reducible refine (HF.out _ _).mono ?_); rintro e w' ⟨rfl, rfl⟩; rw [Hpc.out])
        go_ret
        refine SpnPost.mk hk HP.out fun c hc => ?_
        rw [hg.out] at hc; cases hc
        exact Hpc.out
    · go_wp2
      go_ret
      refine SpnPost.mk hk HP.out fun c hc => ?_
      have : s.data.toList[k]? = none := List.getElem?_eq_none (by simp; exact Nat.le_of_not_lt hlt)
      rw [this] at hc; cases hc
theorem ent_namePart (args : Array Value) (w : World) : (callFunc 31 args).run Try.prog w = .ok (.enter 31 args) w := enters_of Try.func31 (by kernel_rfl) rfl args w
theorem ent_blank (args : Array Value) (w : World) : (callFunc 41 args).run Try.prog w = .ok (.enter 41 args) w := enters_of Try.func41 (by kernel_rfl) rfl args w
theorem ent_inLine (args : Array Value) (w : World) : (callFunc 44 args).run Try.prog w = .ok (.enter 44 args) w := enters_of Try.func44 (by kernel_rfl) rfl args w
theorem ent_digit (args : Array Value) (w : World) : (callFunc 47 args).run Try.prog w = .ok (.enter 47 args) w := enters_of Try.func47 (by kernel_rfl) rfl args w
end Go.Proofs.Ytolanmdckdjfeaa
