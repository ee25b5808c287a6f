/- slices.Equal at equal lists of ints, bools and arcs (tools/gen_eqn.py). -/
import Derived.Test.YtcpjpogglecddaaDoorNfaRp
namespace Go.Proofs.YtcpjpogglecddaaDoor
open Go.RowKit
set_option maxHeartbeats 400000 in
theorem seq_int (va vb : Value) (l : List Int) (w : World) (ha : Sl iv w va l) (hb : Sl iv w vb l) (hl : l.length ≤ 1000000) :
    Calls Tryd.prog 39 #[va, vb] w fun e w' => e = .returned (.bool true) ∧ Below w.heap.size w w' := by
  obtain ⟨A, c, rfl⟩ := ha.shape
  obtain ⟨A2, c2, rfl⟩ := hb.shape
  have Ha := Lib.hid ha; have Hb := Lib.hid hb
  clear ha hb
  go_enter Tryd.func39, Tryd.ntmps39
  go_wp2
  go_loopw [13] (fun i wr => ∃ k : Nat, k ≤ l.length ∧ i = .int .i64 k ∧ ∃ m, wr = w.drewN m) (fun i _ => l.length - (intOf i).toNat)
  case atStart => exact ⟨0, Nat.zero_le _, rfl, 0, rfl⟩
  case round =>
    obtain ⟨k, hk, rfl, m, rfl⟩ := hrel
    by_cases hlt : k < l.length
    · obtain ⟨ad, c', hs, hcap, hcell⟩ := sl_cell Ha.out k hlt
      simp only [Value.slice.injEq, true_and] at hs
      obtain ⟨rfl, rfl⟩ := hs
      obtain ⟨ad2, c2', hs, hcap2, hcell2⟩ := sl_cell Hb.out k hlt
      simp only [Value.slice.injEq, true_and] at hs
      obtain ⟨rfl, rfl⟩ := hs
      generalize l[k] = x at *
      unfold iv at hcell hcell2
      have hne : (x != x) = false := by simp
      go_wp2
      go_quiet (fail)
      go_wp2
      go_roundw
      case rel => exact ⟨k + 1, by omega, by go_num, _, rfl⟩
      case measure => simp [intOf]; omega
    · obtain rfl : k = l.length := by omega
      go_wp2
      go_ret
      exact ⟨rfl, Below.drewN' (Below.refl _ w) m⟩
set_option maxHeartbeats 400000 in
theorem seq_bool (va vb : Value) (l : List Bool) (w : World) (ha : Sl bl w va l) (hb : Sl bl w vb l) (hl : l.length ≤ 1000000) :
    Calls Tryd.prog 40 #[va, vb] w fun e w' => e = .returned (.bool true) ∧ Below w.heap.size w w' := by
  obtain ⟨A, c, rfl⟩ := ha.shape
  obtain ⟨A2, c2, rfl⟩ := hb.shape
  have Ha := Lib.hid ha; have Hb := Lib.hid hb
  clear ha hb
  go_enter Tryd.func40, Tryd.ntmps40
  go_wp2
  go_loopw [13] (fun i wr => ∃ k : Nat, k ≤ l.length ∧ i = .int .i64 k ∧ ∃ m, wr = w.drewN m) (fun i _ => l.length - (intOf i).toNat)
  case atStart => exact ⟨0, Nat.zero_le _, rfl, 0, rfl⟩
  case round =>
    obtain ⟨k, hk, rfl, m, rfl⟩ := hrel
    by_cases hlt : k < l.length
    · obtain ⟨ad, c', hs, hcap, hcell⟩ := sl_cell Ha.out k hlt
      simp only [Value.slice.injEq, true_and] at hs
      obtain ⟨rfl, rfl⟩ := hs
      obtain ⟨ad2, c2', hs, hcap2, hcell2⟩ := sl_cell Hb.out k hlt
      simp only [Value.slice.injEq, true_and] at hs
      obtain ⟨rfl, rfl⟩ := hs
      generalize l[k] = x at *
      unfold bl at hcell hcell2
      have hne : (x != x) = false := by simp
      go_wp2
      go_quiet (fail)
      go_wp2
      go_roundw
      case rel => exact ⟨k + 1, by omega, by go_num, _, rfl⟩
      case measure => simp [intOf]; omega
    · obtain rfl : k = l.length := by omega
      go_wp2
      go_ret
      exact ⟨rfl, Below.drewN' (Below.refl _ w) m⟩
set_option maxHeartbeats 400000 in
theorem seq_arc (va vb : Value) (l : List Ac) (w : World) (ha : Acs w va l) (hb : Acs w vb l) (hl : l.length ≤ 1000000) :
    Calls Tryd.prog 41 #[va, vb] w fun e w' => e = .returned (.bool true) ∧ Below w.heap.size w w' := by
  obtain ⟨A, c, rfl⟩ := ha.shape
  obtain ⟨A2, c2, rfl⟩ := hb.shape
  have Ha := Lib.hid ha; have Hb := Lib.hid hb
  clear ha hb
  go_enter Tryd.func41, Tryd.ntmps41
  go_wp2
  go_loopw [13] (fun i wr => ∃ k : Nat, k ≤ l.length ∧ i = .int .i64 k ∧ ∃ m, wr = w.drewN m) (fun i _ => l.length - (intOf i).toNat)
  case atStart => exact ⟨0, Nat.zero_le _, rfl, 0, rfl⟩
  case round =>
    obtain ⟨k, hk, rfl, m, rfl⟩ := hrel
    by_cases hlt : k < l.length
    · obtain ⟨ad, rfl, _, hcap, y0, y1, y2⟩ := Ha.out.at k hlt
      obtain ⟨ad2, rfl, _, hcap2, z0, z1, z2⟩ := Hb.out.at k hlt
      generalize l[k] = x at *
      obtain ⟨x0, x1, x2⟩ := x
      dsimp only at y0 y1 y2 z0 z1 z2
      go_wp2
      go_quiet (fail)
      go_wp2
      go_roundw
      case rel => exact ⟨k + 1, by omega, by go_num, _, rfl⟩
      case measure => simp [intOf]; omega
    · obtain rfl : k = l.length := by omega
      go_wp2
      go_ret
      exact ⟨rfl, Below.drewN' (Below.refl _ w) m⟩
end Go.Proofs.YtcpjpogglecddaaDoor
