/- The contract of wire.Int onto a row of the call's own. -/
import Derived.Test.YtlimaefgifgegaaRows
import Derived.WalkKit
import Derived.WalkSpells
import Derived.WalkLawsBesides
import Derived.Test.YtlimaefgifgegaaWireM
import Derived.Lib.Hide
namespace Go.Proofs.Ytlimaefgifgegaa
open Go.RowKit

def IntRel (w : World) (B len : Nat) (xs : List Value) (z : Nat) (v' u : Value) (wr : World) : Prop :=
  ∃ (done : List Nat) (f q : Nat), q < 128 ^ (f + 1) ∧ U64 q ∧ u = .int .u64 q ∧ encF 9 z = done ++ encF f q ∧ wr.ownsRow B 5 1 v' (len + done.length) (xs ++ done.map bv) ∧ Frm 5 B w wr
def IntPost (w : World) (B len : Nat) (xs : List Value) (n : Int) (e : Ending) (w' : World) : Prop :=
  ∃ v', e = .returned v' ∧ w'.ownsRow B 5 1 v' (len + (enc n).length) (xs ++ (enc n).map bv) ∧ Frm 5 B w w'

set_option maxHeartbeats 400000 in
theorem int_own (n : Int) (w : World) (v : Value) (B len : Nat) (xs : List Value) (hB : B ≤ w.heap.size) (hown : w.ownsRow B 5 1 v len xs) (hn : I64 n) (hl : Room len) :
    Calls Try.prog 10 #[v, .int .i64 n] w (IntPost w B len xs n) := by
  have hzb := zig_bits n hn.1 hn.2
  have hzl := zig_lt n hn.1 hn.2
  have Hn := Lib.hid hn
  obtain ⟨i0, hi, hz0, hz1, hz2⟩ := info_parts info_u8
  go_enter Try.func10, Try.ntmps10
  go_wp2
  have hE : Hid (enc n = encF 9 (zig n)) := rfl
  generalize zig n = z at *
  clear hzb
  go_loopw [0, 5] (fun v' u wr => IntRel w B len xs z v' u wr) (fun _ u _ => (intOf u).toNat)
  case atStart => exact ⟨[], 9, z, by omega, hzl, rfl, rfl, by simpa using hown, Frm.refl _ _ _⟩
  case round =>
    obtain ⟨done, f, q, hq, hq2, rfl, henc, hown', hb⟩ := hrel
    have Hq := Lib.hid hq; clear hq
    have He := Lib.hid henc; clear henc
    clear hzl hn
    have hdl : Room2 (len + done.length) := Room2.of hl (by have := congrArg List.length He.out; have := encF_len 9 z; simp at *; omega)
    have hBr : B ≤ wr.heap.size := Nat.le_trans hB hb.size
    by_cases hlt : q < 128
    · have ht : decide ((128 : Int) ≤ (q : Int)) = false := by simp; omega
      go_wp2_with (at_builtin; refine app1 rfl _ _ 24 rfl 5 (.int .u8 0) info_u8 Try.underlying24 rfl B _ _ _ rfl hown' _ rfl rfl hdl hBr ?_; intro v' w1 hown1 hb1)
      go_ret
      refine ⟨v', rfl, ?_, hb.trans hb1⟩
      have e : enc n = done ++ [q] := by rw [hE.out, He.out, encF_small hlt]
      rw [e]
      simpa [bv, Nat.add_assoc] using hown1
    · have ht : decide ((128 : Int) ≤ (q : Int)) = true := by simp; omega
      go_wp2_with (at_builtin; refine app1 rfl _ _ 24 rfl 5 (.int .u8 0) info_u8 Try.underlying24 rfl B _ _ _ rfl hown' _ rfl rfl hdl hBr ?_; intro v' w1 hown1 hb1)
      go_roundw
      case rel =>
        cases f with
        | zero => exact absurd Hq.out (by omega)
        | succ f =>
          refine ⟨done ++ [q % 128 + 128], f, q / 128, ?_, ?_, by go_num, ?_, ?_, hb.trans hb1⟩
          · have := Hq.out; rw [Nat.pow_succ] at this; exact Nat.div_lt_of_lt_mul (by omega)
          · unfold U64 at *; omega
          · rw [He.out, encF_big (by omega)]; simp
          · rw [or128'] at hown1; simpa [bv, Nat.add_assoc] using hown1
      case measure => simp [intOf]; omega
end Go.Proofs.Ytlimaefgifgegaa
