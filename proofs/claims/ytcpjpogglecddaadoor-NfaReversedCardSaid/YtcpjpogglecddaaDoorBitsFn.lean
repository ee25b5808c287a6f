/- The contracts of bits' small functions: used, word, possible, the operations. -/
import Derived.Test.YtcpjpogglecddaaDoorBitsM
import Derived.Test.YtcpjpogglecddaaDoorSl
import Derived.Laws.BitsAllLaws
namespace Go.Proofs.YtcpjpogglecddaaDoor
open Go.RowKit

theorem word_any (v : Value) (ws : List Nat) (i : Nat) (w : World) (h : Sl uv w v ws) (hl : Room2 ws.length) :
    Calls Tryd.prog 29 #[v, .int .i64 (i : Int)] w fun e w' => e = .returned (.int .u64 ((ws[i]?.getD 0 : Nat) : Int)) ∧ w = w' := by
  unfold Room2 at hl
  rcases h with ⟨rfl, rfl⟩ | ⟨ad, c, rfl, hc, hcell⟩
  · go_enter Tryd.func29, Tryd.ntmps29
    go_wp2
    go_ret
    exact ⟨rfl, rfl⟩
  · by_cases hlt : i < ws.length
    · have hcx := hcell i _ (List.getElem?_eq_getElem hlt)
      have e : ws[i]?.getD 0 = ws[i] := by rw [List.getElem?_eq_getElem hlt]; rfl
      rw [e]
      unfold uv at hcx
      clear hcell
      generalize ws[i] = x at *
      clear e
      go_enter Tryd.func29, Tryd.ntmps29
      go_wp2
      go_ret
      exact ⟨rfl, rfl⟩
    · have e : ws[i]?.getD 0 = 0 := by rw [List.getElem?_eq_none (by omega)]; rfl
      rw [e]
      clear e hcell
      go_enter Tryd.func29, Tryd.ntmps29
      go_wp2
      go_ret
      exact ⟨rfl, rfl⟩

theorem back_zero_step {ws : List Nat} {k : Nat} (h : ws[k]?.getD 0 = 0) : back ws (k + 1) = back ws k := by rw [back, if_pos h]
theorem back_stop {ws : List Nat} {k : Nat} (h : ws[k]?.getD 0 ≠ 0) : back ws (k + 1) = k + 1 := by rw [back, if_neg h]
/-- v[:k]. -/
def cutV : Value → Nat → Value
  | .slice A _ c, k => .slice A k c
  | v, _ => v
theorem used_start {ws : List Nat} {m : Int} (h : m = (min ws.length 64 : Nat)) : ∃ k : Nat, Value.int .i64 m = .int .i64 k ∧ k ≤ ws.length ∧ back ws k = ulen ws :=
  ⟨min ws.length 64, by rw [h], by omega, rfl⟩
theorem used_end {ws : List Nat} {w : World} {ad : Addr} {c k : Nat} (hk : k ≤ ws.length) (hb : back ws k = ulen ws) (h : Sl uv w (.slice (some ad) ws.length c) ws) (he : k = 0 ∨ back ws k = k) :
    Sl uv w (.slice (some ad) k c) (used ws) := by
  have e : back ws k = k := by
    rcases he with rfl | he
    · rfl
    · exact he
  unfold used
  rw [← hb, e]
  exact h.take ad c _ k hk
set_option maxHeartbeats 400000 in
theorem used_any (v : Value) (ws : List Nat) (w : World) (h : Sl uv w v ws) (hl : Room2 ws.length) :
    Calls Tryd.prog 28 #[v] w fun e w' => ∃ v', e = .returned v' ∧ v' = cutV v (ulen ws) ∧ Sl uv w v' (used ws) ∧ w = w' := by
  unfold Room2 at hl
  have hs := h
  rcases h with ⟨rfl, rfl⟩ | ⟨ad, c, rfl, hc, hcell⟩
  · go_enter Tryd.func28, Tryd.ntmps28
    go_wp2
    go_loop [3] (fun n => n = .int .i64 0) (fun _ => 0)
    case atStart => rfl
    case round =>
      subst hrel
      go_wp2
      go_ret
      exact ⟨_, rfl, rfl, Sl.nil, rfl⟩
  · have Hs := Lib.hid hs; clear hs
    have Hc := Lib.hid hcell; clear hcell
    go_enter Tryd.func28, Tryd.ntmps28
    go_wp2
    all_goals
      go_loop [3] (fun n => ∃ k : Nat, n = .int .i64 k ∧ k ≤ ws.length ∧ back ws k = ulen ws) (fun n => (intOf n).toNat)
      case atStart => exact used_start (by omega)
      case round =>
        obtain ⟨k, rfl, hk, hb⟩ := hrel
        have Hb := Lib.hid hb; clear hb
        clear h
        cases k with
        | zero =>
          go_wp2
          go_ret
          exact ⟨_, rfl, by rw [← Hb.out]; rfl, used_end (Nat.zero_le _) Hb.out Hs.out (.inl rfl), rfl⟩
        | succ k =>
          have hcx := Hc.out k _ (List.getElem?_eq_getElem (by omega))
          have e : ws[k]?.getD 0 = ws[k] := by rw [List.getElem?_eq_getElem (by omega)]; rfl
          by_cases hz : ws[k] = 0
          · have Hz := Lib.hid (e.trans hz); clear e
            rw [hz] at hcx
            unfold uv at hcx
            go_wp2
            go_round
            case rel => exact ⟨k, by go_num, by omega, (back_zero_step Hz.out).symm.trans Hb.out⟩
            case measure => simp [intOf]
          · have Hz := Lib.hid (e.symm ▸ hz : ws[k]?.getD 0 ≠ 0); clear e
            unfold uv at hcx
            generalize ws[k] = x at hcx hz
            have hx : ((x : Int) == 0) = false := by rw [beq_eq_false_iff_ne]; omega
            go_wp2
            go_ret
            exact ⟨_, rfl, by rw [← Hb.out, back_stop Hz.out]; rfl, used_end hk Hb.out Hs.out (.inr (back_stop Hz.out)), rfl⟩
end Go.Proofs.YtcpjpogglecddaaDoor
