/- The contracts of bits' small functions: used, word, possible, the operations. -/
import Derived.Test.YtockgbilbnheaaaDoorBitsM
import Derived.Test.YtockgbilbnheaaaDoorSl
import Derived.Laws.BitsAllLaws
import Derived.Laws.Bits128
namespace Go.Proofs.YtockgbilbnheaaaDoor
/- The contracts of bits' small functions: used, word, possible, the operations. -/
open Go.RowKit

theorem word_any (v : Value) (ws : List Nat) (i : Nat) (w : World) (h : Sl uv w v ws) (hl : Room2 ws.length) :
  Calls Tryd.prog 29 #[v, .int .i64 (i : Int)] w fun e w' => e = .returned (.int .u64 ((ws[i]?.getD 0 : Nat) : Int)) ∧ w = w' := by
 unfold Room2 at hl
 rcases h with ⟨rfl, rfl⟩ | ⟨ad, c, rfl, hc, hcell⟩
 ·go_enter Tryd.func29, Tryd.ntmps29
  go_wp2
  go_ret
  exact ⟨rfl, rfl⟩
 ·by_cases hlt : i < ws.length
  ·have hcx := hcell i _ (List.getElem?_eq_getElem hlt)
   have e : ws[i]?.getD 0 = ws[i] := by rw [List.getElem?_eq_getElem hlt]; rfl
   rw [e]
   unfold uv at hcx
   clear hcell
   generalize ws[i] = x at *
   clear e
   go_enter Tryd.func29, Tryd.ntmps29
   go_wp2
   go_ret
   exact ⟨rfl, rfl⟩
  ·have e : ws[i]?.getD 0 = 0 := by rw [List.getElem?_eq_none (by omega)]; rfl
   rw [e]
   clear e hcell
   go_enter Tryd.func29, Tryd.ntmps29
   go_wp2
   go_ret
   exact ⟨rfl, rfl⟩

theorem back_zero_step {ws : List Nat} {k : Nat} (h : ws[k]?.getD 0 = 0) : back ws (k + 1) = back ws k := by rw [back, if_pos h]
theorem back_stop {ws : List Nat} {k : Nat} (h : ws[k]?.getD 0 ≠ 0) : back ws (k + 1) = k + 1 := by rw [back, if_neg h]
/-- v[:k]. -/
def cutV : Value → Nat → Value
 | .slice A _ c, k => .slice A k c
 | v, _ => v
theorem used_start {ws : List Nat} {m : Int} (h : m = (min ws.length 64 : Nat)) : ∃ k : Nat, Value.int .i64 m = .int .i64 k ∧ k ≤ ws.length ∧ back ws k = ulen ws :=
 ⟨min ws.length 64, by rw [h], by omega, rfl⟩
theorem used_end {ws : List Nat} {w : World} {ad : Addr} {c k : Nat} (hk : k ≤ ws.length) (hb : back ws k = ulen ws) (h : Sl uv w (.slice (some ad) ws.length c) ws) (he : k = 0 ∨ back ws k = k) :
  Sl uv w (.slice (some ad) k c) (used ws) := by
 have e : back ws k = k := by
  rcases he with rfl | he
  ·rfl
  ·exact he
 unfold used
 rw [← hb, e]
 exact h.take ad c _ k hk
set_option maxHeartbeats 400000 in
theorem used_any (v : Value) (ws : List Nat) (w : World) (h : Sl uv w v ws) (hl : Room2 ws.length) :
  Calls Tryd.prog 28 #[v] w fun e w' => ∃ v', e = .returned v' ∧ v' = cutV v (ulen ws) ∧ Sl uv w v' (used ws) ∧ w = w' := by
 unfold Room2 at hl
 have hs := h
 rcases h with ⟨rfl, rfl⟩ | ⟨ad, c, rfl, hc, hcell⟩
 ·go_enter Tryd.func28, Tryd.ntmps28
  go_wp2
  go_loop [3] (fun n => n = .int .i64 0) (fun _ => 0)
  case atStart => rfl
  case round =>
   subst hrel
   go_wp2
   go_ret
   exact ⟨_, rfl, rfl, Sl.nil, rfl⟩
 ·have Hs := Lib.hid hs; clear hs
  have Hc := Lib.hid hcell; clear hcell
  go_enter Tryd.func28, Tryd.ntmps28
  go_wp2
  all_goals
   go_loop [3] (fun n => ∃ k : Nat, n = .int .i64 k ∧ k ≤ ws.length ∧ back ws k = ulen ws) (fun n => (intOf n).toNat)
   case atStart => exact used_start (by omega)
   case round =>
    obtain ⟨k, rfl, hk, hb⟩ := hrel
    have Hb := Lib.hid hb; clear hb
    clear h
    cases k with
    | zero =>
     go_wp2
     go_ret
     exact ⟨_, rfl, by rw [← Hb.out]; rfl, used_end (Nat.zero_le _) Hb.out Hs.out (.inl rfl), rfl⟩
    | succ k =>
     have hcx := Hc.out k _ (List.getElem?_eq_getElem (by omega))
     have e : ws[k]?.getD 0 = ws[k] := by rw [List.getElem?_eq_getElem (by omega)]; rfl
     by_cases hz : ws[k] = 0
     ·have Hz := Lib.hid (e.trans hz); clear e
      rw [hz] at hcx
      unfold uv at hcx
      go_wp2
      go_round
      case rel => exact ⟨k, by go_num, by omega, (back_zero_step Hz.out).symm.trans Hb.out⟩
      case measure => simp [intOf]
     ·have Hz := Lib.hid (e.symm ▸ hz : ws[k]?.getD 0 ≠ 0); clear e
      unfold uv at hcx
      generalize ws[k] = x at hcx hz
      have hx : ((x : Int) == 0) = false := by rw [beq_eq_false_iff_ne]; omega
      go_wp2
      go_ret
      exact ⟨_, rfl, by rw [← Hb.out, back_stop Hz.out]; rfl, used_end hk Hb.out Hs.out (.inr (back_stop Hz.out)), rfl⟩
/- The contracts of Len, Sub, Valid, Has and of what they call. -/
open Go.RowKit

theorem possible_any (n : Int) (w : World) : Calls Tryd.prog 30 #[.int .i64 n] w fun e w' => e = .returned (.bool (decide (0 ≤ n ∧ n < 4096))) ∧ w = w' := by
 by_cases h0 : 0 ≤ n
 ·by_cases h1 : n < 4096
  ·have hd : decide (0 ≤ n ∧ n < 4096) = true := decide_eq_true ⟨h0, h1⟩
   rw [hd]
   clear hd
   go_enter Tryd.func30, Tryd.ntmps30
   go_wp2
   go_ret
   exact ⟨rfl, rfl⟩
  ·have hd : decide (0 ≤ n ∧ n < 4096) = false := decide_eq_false fun h => h1 h.2
   rw [hd]
   clear hd
   go_enter Tryd.func30, Tryd.ntmps30
   go_wp2
   go_ret
   exact ⟨rfl, rfl⟩
 ·have hd : decide (0 ≤ n ∧ n < 4096) = false := decide_eq_false fun h => h0 h.1
  rw [hd]
  clear hd
  go_enter Tryd.func30, Tryd.ntmps30
  go_wp2
  go_ret
  exact ⟨rfl, rfl⟩

theorem msk85 : msk 85 8 = 6148914691236517205 := rfl
theorem msk51 : msk 51 8 = 3689348814741910323 := rfl
theorem msk15 : msk 15 8 = 1085102592571150095 := rfl
theorem ones_steps (x : Nat) (hx : U64 x) : ∃ s1 s2 y y1 y2 y3 : Nat,
  IntKind.u64.wrap (bits .and .u64 ((x : Int) / 2) 6148914691236517205 + bits .and .u64 (x : Int) 6148914691236517205) = (s1 : Int) ∧
  IntKind.u64.wrap (bits .and .u64 ((s1 : Int) / 4) 3689348814741910323 + bits .and .u64 (s1 : Int) 3689348814741910323) = (s2 : Int) ∧
  bits .and .u64 (IntKind.u64.wrap ((s2 : Int) / 16 + (s2 : Int))) 1085102592571150095 = (y : Int) ∧
  IntKind.u64.wrap ((y : Int) + (y : Int) / 256) = (y1 : Int) ∧ IntKind.u64.wrap ((y1 : Int) + (y1 : Int) / 65536) = (y2 : Int) ∧ IntKind.u64.wrap ((y2 : Int) + (y2 : Int) / 4294967296) = (y3 : Int) ∧
  y3 < 9223372036854775808 ∧ y3 % 128 = pc x := by
 unfold U64 at hx
 obtain ⟨Y1, Y2, a1, a2, a3, a4, a5, a6⟩ := pop_sum x
 have w64 : ∀ n : Nat, n < 18446744073709551616 → IntKind.u64.wrap (n : Int) = (n : Int) := fun n h => u64_wraps n (by omega) (by omega)
 have and2 : ∀ (a m : Nat), m < 18446744073709551616 → a < 18446744073709551616 → bits .and .u64 (a : Int) (m : Int) = ((a &&& m : Nat) : Int) := fun a m hm ha => u64_and_nat a m ha hm
 have le1 : ∀ a : Nat, a &&& 6148914691236517205 ≤ 6148914691236517205 := fun a => Nat.and_le_right
 have le2 : ∀ a : Nat, a &&& 3689348814741910323 ≤ 3689348814741910323 := fun a => Nat.and_le_right
 have e1 : IntKind.u64.wrap (bits .and .u64 ((x : Int) / 2) 6148914691236517205 + bits .and .u64 (x : Int) 6148914691236517205) = (st1 8 x : Int) := by
  rw [show (x : Int) / 2 = ((x / 2 : Nat) : Int) by omega, show (6148914691236517205 : Int) = ((6148914691236517205 : Nat) : Int) from rfl, and2 _ _ (by decide) (by omega), and2 _ _ (by decide) hx, ← Int.natCast_add]
  unfold st1
  rw [msk85]
  have h1 := le1 (x / 2)
  have h2 := le1 x
  exact w64 _ (by omega)
 have b1 : st1 8 x < 18446744073709551616 := by
  have h1 := le1 (x / 2)
  have h2 := le1 x
  unfold st1
  rw [msk85]
  omega
 have hp : popB 8 x = st3 8 (st2 8 (st1 8 x)) := rfl
 rw [hp] at a1
 clear hp
 generalize st1 8 x = s1 at e1 b1 a1
 have e2 : IntKind.u64.wrap (bits .and .u64 ((s1 : Int) / 4) 3689348814741910323 + bits .and .u64 (s1 : Int) 3689348814741910323) = (st2 8 s1 : Int) := by
  rw [show (s1 : Int) / 4 = ((s1 / 4 : Nat) : Int) by omega, show (3689348814741910323 : Int) = ((3689348814741910323 : Nat) : Int) from rfl, and2 _ _ (by decide) (by omega), and2 _ _ (by decide) b1, ← Int.natCast_add]
  unfold st2
  rw [msk51]
  have h1 := le2 (s1 / 4)
  have h2 := le2 s1
  exact w64 _ (by omega)
 have b2 : st2 8 s1 < 9223372036854775808 := by
  have h1 := le2 (s1 / 4)
  have h2 := le2 s1
  unfold st2
  rw [msk51]
  omega
 generalize st2 8 s1 = s2 at e2 b2 a1
 have e3 : bits .and .u64 (IntKind.u64.wrap ((s2 : Int) / 16 + (s2 : Int))) 1085102592571150095 = (st3 8 s2 : Int) := by
  rw [show (s2 : Int) / 16 + (s2 : Int) = ((s2 / 16 + s2 : Nat) : Int) by omega, w64 _ (by omega), show (1085102592571150095 : Int) = ((1085102592571150095 : Nat) : Int) from rfl, and2 _ _ (by decide) (by omega)]
  unfold st3
  rw [msk15]
 have b3 : st3 8 s2 < 18446744073709551616 := by
  have : st3 8 s2 ≤ 1085102592571150095 := by
   unfold st3
   rw [msk15]
   exact Nat.and_le_right
  omega
 generalize st3 8 s2 = y at e3 b3 a1
 refine ⟨s1, s2, y, Y1, Y2, Y2 + Y2 / 4294967296, e1, e2, e3, ?_, ?_, ?_, ?_, a6⟩
 ·rw [show (y : Int) + (y : Int) / 256 = ((y + y / 256 : Nat) : Int) by omega, w64 _ (by omega), a1]
 ·rw [show (Y1 : Int) + (Y1 : Int) / 65536 = ((Y1 + Y1 / 65536 : Nat) : Int) by omega, w64 _ (by omega), a3]
 ·rw [show (Y2 : Int) + (Y2 : Int) / 4294967296 = ((Y2 + Y2 / 4294967296 : Nat) : Int) by omega, w64 _ (by omega)]
 ·exact a5
set_option maxHeartbeats 400000 in
theorem ones_any (x : Nat) (w : World) (hx : U64 x) : Calls Tryd.prog 48 #[.int .u64 (x : Int)] w fun e w' => e = .returned (.int .i64 (pc x : Int)) ∧ w = w' := by
 obtain ⟨s1, s2, y, y1, y2, y3, k1, k2, k3, k4, k5, k6, hy, hp⟩ := ones_steps x hx
 have Hp := Lib.hid hp
 have k7 : IntKind.i64.wrap (y3 : Int) = (y3 : Int) := by rw [IntKind.wrap_i64]; omega
 have k8 : bits .and .i64 (y3 : Int) 127 = ((y3 % 128 : Nat) : Int) := by rw [i64_and127]; omega
 clear hp hx hy
 go_enter Tryd.func48, Tryd.ntmps48
 go_wp2
 go_ret
 refine ⟨?_, rfl⟩
 rw [← Hp.out]
 rfl
def psum (ws : List Nat) (k : Nat) : Nat := ((ws.take k).map pc).sum
theorem len_next {ws : List Nat} {k : Nat} (h : k < ulen ws) : psum ws (k + 1) = psum ws k + pc (ws[k]?.getD 0) := by
 have hl := (ulen_le ws).1
 have h1 : ws[k]? = some (ws[k]'(by omega)) := List.getElem?_eq_getElem (by omega)
 unfold psum
 rw [List.take_add_one, h1, List.map_append, List.sum_append]
 simp only [Option.toList_some, Option.getD_some, List.map_cons, List.map_nil, List.sum_cons, List.sum_nil, Nat.add_zero]
theorem pc_le (x : Nat) : pc x ≤ 64 := by
 unfold pc bitsN
 exact Nat.le_trans (List.length_filter_le _ _) (by simp)
theorem take_le (ws : List Nat) (k : Nat) : psum ws k ≤ 64 * k := by
 unfold psum
 induction k with
 | zero => simp
 | succ k ih =>
  rw [List.take_add_one, List.map_append, List.sum_append]
  cases ws[k]? with
  | none => simp only [Option.toList_none, List.map_nil, List.sum_nil]; omega
  | some x =>
   have := pc_le x
   simp only [Option.toList_some, List.map_cons, List.map_nil, List.sum_cons, List.sum_nil, Nat.add_zero]
   omega
set_option maxHeartbeats 400000 in
theorem len_any (v : Value) (ws : List Nat) (w : World) (h : Sl uv w v ws) (hl : Room2 ws.length) (hw : Wds ws) :
  Calls Tryd.prog 24 #[v] w fun e w' => e = .returned (.int .i64 (slen ws : Int)) ∧ w = w' := by
 rw [show slen ws = psum ws (ulen ws) from rfl]
 have H := Lib.hid h; have Hl := Lib.hid hl; have Hw := Lib.hid hw
 clear h hl hw
 have hu := (ulen_le ws).2
 have hul := (ulen_le ws).1
 go_enter Tryd.func24, Tryd.ntmps24
 go_wp2_with fail
 refine (used_any v ws _ H.out Hl.out).mono ?_
 rintro e w1 ⟨v1, rfl, _, h1, rfl⟩
 have hc : ∀ k, k < ulen ws → ∃ ad c, v1 = .slice (some ad) (ulen ws) c ∧ ulen ws ≤ c ∧ w.cell? (ad.add k) = some (.int .u64 ((ws[k]?.getD 0 : Nat) : Int)) := by
  intro k hk
  rcases h1 with ⟨rfl, h0⟩ | ⟨ad, c, rfl, hc, hcell⟩
  ·have := congrArg List.length h0
   rw [used_len, List.length_nil] at this
   omega
  ·rw [used_len] at hc ⊢
   refine ⟨ad, c, rfl, hc, hcell k _ ?_⟩
   rw [used, List.getElem?_take, if_pos hk, List.getElem?_eq_getElem (by omega)]
   rfl
 obtain ⟨A1, c1, rfl⟩ := h1.shape
 rw [used_len] at hc ⊢
 clear h1
 have Hc := Lib.hid hc; clear hc
 have Hu := Lib.hid hul; clear hul
 go_wp2_with fail
 go_loop [3, 9] (fun n i => ∃ k : Nat, k ≤ ulen ws ∧ i = .int .i64 k ∧ n = .int .i64 (psum ws k : Int)) (fun _ i => ulen ws - (intOf i).toNat)
 case atStart => exact ⟨0, Nat.zero_le _, rfl, rfl⟩
 case round =>
  obtain ⟨k, hk, rfl, rfl⟩ := hrel
  by_cases hlt : k < ulen ws
  ·obtain ⟨ad, c, hs, hcap, hcell⟩ := Hc.out k hlt
   simp only [Value.slice.injEq, true_and] at hs
   obtain ⟨rfl, rfl⟩ := hs
   have hn := Lib.hid (len_next hlt)
   have hx := Lib.hid (Hw.out.at k)
   have hle := take_le ws k
   have hpc := pc_le (ws[k]?.getD 0)
   generalize ws[k]?.getD 0 = x at *
   generalize psum ws k = n at *
   go_wp2_with fail
   refine (ones_any x _ hx.out).mono ?_
   rintro e w3 ⟨rfl, rfl⟩
   generalize pc x = y at *
   go_wp2
   go_round
   case rel => exact ⟨k + 1, by omega, by go_num, by rw [hn.out]; rfl⟩
   case measure => simp [intOf]; omega
  ·obtain rfl : k = ulen ws := by omega
   go_wp2
   go_ret
   exact ⟨rfl, rfl⟩
end Go.Proofs.YtockgbilbnheaaaDoor
