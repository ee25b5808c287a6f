/- The contracts of the reference's List, With and Union. -/
import Derived.Test.YtaedijblgogmmaaDoorBitsRef
namespace Go.Proofs.YtaedijblgogmmaaDoor
open Go.RowKit

theorem bitl_range (w : Nat) (j : Nat) : ((List.range (j + 1)).filter w.testBit) = ((List.range j).filter w.testBit) ++ if w.testBit j = true then [j] else [] := by
  rw [List.range_succ, List.filter_append]
  by_cases h : w.testBit j = true
  · simp [h]
  · simp [h]
theorem elsW_len (ws : List Nat) (k : Nat) : (elsW ws k).length ≤ 64 * k := by
  unfold elsW
  exact Nat.le_trans (List.length_filter_le _ _) (by simp)
theorem elsW_end (ws : List Nat) : elsW ws (min ws.length 64) = els ws := by
  have h : ulen ws ≤ min ws.length 64 := back_le _ _
  obtain ⟨d, hd⟩ : ∃ d, min ws.length 64 = ulen ws + d := ⟨min ws.length 64 - ulen ws, by omega⟩
  have hall : ∀ k, elsW ws (ulen ws + k) = elsW ws (ulen ws) := by
    intro k
    induction k with
    | zero => rfl
    | succ k ih => rw [← Nat.add_assoc, elsW_succ, wat_zero ws _ (by omega), bitl_zero, List.map_nil, List.append_nil, ih]
  rw [hd, hall, elsW_ulen]
theorem shr_and (x j : Nat) (hx : U64 x) : bits .and .u64 ((x : Int) / 2 ^ j) 1 = ((x / 2 ^ j % 2 : Nat) : Int) := by
  have e : ((x : Int) / 2 ^ j) = ((x / 2 ^ j : Nat) : Int) := by
    rw [Int.natCast_ediv, Int.natCast_pow, show ((2 : Nat) : Int) = 2 from rfl]
  rw [e, show (1 : Int) = ((1 : Nat) : Int) from rfl, u64_and_nat _ _ (Nat.lt_of_le_of_lt (Nat.div_le_self _ _) hx) (by decide)]
  exact congrArg (fun n : Nat => (n : Int)) (Nat.and_two_pow_sub_one_eq_mod _ 1)
set_option maxHeartbeats 2000000 in
theorem rlist_any (v : Value) (ws : List Nat) (w : World) (h : Sl uv w v ws) (hl : Room2 ws.length) (hw : Wds ws) :
    Calls Tryd.prog 13 #[v] w (LGot w (els ws)) := by
  obtain ⟨A, c, rfl⟩ := h.shape
  have H := Lib.hid h; have Hw := Lib.hid hw
  unfold Room2 at hl
  clear h hw
  go_enter Tryd.func13, Tryd.ntmps13
  go_wp2
  go_loopw [3, 4] (fun o i wr => ∃ k : Nat, k ≤ ws.length ∧ k ≤ 64 ∧ i = .int .i64 k ∧ wr.ownsRow w.heap.size 3 1 o (elsW ws k).length ((elsW ws k).map nv) ∧ Below w.heap.size w wr) (fun _ i _ => 64 - (intOf i).toNat)
  case atStart => exact ⟨0, Nat.zero_le _, by omega, rfl, World.ownsRow_nil _ _ _ _, Below.refl _ _⟩
  case round =>
    obtain ⟨k, hk, hk64, rfl, hown, hbel⟩ := hrel
    have Hbel := Lib.hid hbel
    have Hown := Lib.hid hown
    clear hown hbel
    by_cases hlt : k < ws.length
    · by_cases hlt2 : k < 64
      · obtain ⟨ad, c', hs, hcap, hcell⟩ := sl_cell H.out k hlt
        simp only [Value.slice.injEq, true_and] at hs
        obtain ⟨rfl, rfl⟩ := hs
        have hx := Hw.out _ (List.getElem_mem hlt)
        have hwat : wat ws k = ws[k] := by unfold wat; rw [if_pos hlt2, List.getElem?_eq_getElem hlt]; rfl
        have hsucc := elsW_succ ws k
        rw [hwat] at hsucc
        have hlen := elsW_len ws k
        generalize ws[k] = x at *
        generalize elsW ws k = E at *
        have Hx := Lib.hid hx; have Hsucc := Lib.hid hsucc; have Hcell := Lib.hid hcell
        clear hx hsucc hwat hcell
        have d1 : decide ((k : Int) < (ws.length : Int)) = true := decide_eq_true (by omega)
        have d2 : decide ((k : Int) < 64) = true := decide_eq_true (by omega)
        go_wp2
        go_loopw [3, 5] (fun o i wr => ∃ j : Nat, j ≤ 64 ∧ i = .int .i64 j ∧ wr.ownsRow w.heap.size 3 1 o (E ++ ((List.range j).filter x.testBit).map (64 * k + ·)).length ((E ++ ((List.range j).filter x.testBit).map (64 * k + ·)).map nv) ∧ Below w.heap.size w wr) (fun _ i _ => 64 - (intOf i).toNat)
        case atStart => exact ⟨0, by omega, rfl, by simpa using Hown.out, Hbel.out⟩
        case round =>
          obtain ⟨j, hj, rfl, hown, hbel⟩ := hrel
          have Hbel2 := Lib.hid hbel
          have hsz := hbel.size
          have hcx : wr.cell? (ad.add k) = some (uv x) := (hbel.cell (World.block_lt_of_cell? _ _ Hcell.out)).trans Hcell.out
          unfold uv at hcx
          by_cases hlj : j < 64
          · have hk1 := shr_and x j Hx.out
            have hbit : x.testBit j = decide (x / 2 ^ j % 2 = 1) := Nat.testBit_eq_decide_div_mod_eq
            have hr := bitl_range x j
            have hle : ((List.range j).filter x.testBit).length ≤ j := Nat.le_trans (List.length_filter_le _ _) (by simp)
            generalize x / 2 ^ j % 2 = bt at *
            generalize hout : (List.range j).filter x.testBit = out at *
            have Hr := Lib.hid hr
            clear hr hbel hout
            have d3 : decide ((j : Int) < 64) = true := decide_eq_true (by omega)
            cases hb : x.testBit j with
            | true =>
              have hbt : ((bt : Int) == 1) = true := by
                have := of_decide_eq_true (hbit.symm.trans hb)
                rw [beq_iff_eq]; omega
              have hrr := Hr.out
              rw [if_pos hb] at hrr
              have hol : (E ++ out.map (64 * k + ·)).length ≤ 64 * k + 64 := by simp; omega
              have hrr2 : E ++ (out ++ [j]).map (64 * k + ·) = (E ++ out.map (64 * k + ·)) ++ [64 * k + j] := by simp
              rw [← hrr] at hrr2
              generalize (E ++ out.map (64 * k + ·)) = L at *
              have Hrr := Lib.hid hrr2
              clear hrr2
              clear hrr hbit hb hle
              go_wp2_with (at_builtin; refine app1S rfl _ _ 25 rfl 3 (.int .i64 0) 8 info_int rfl (by kernel_rfl) w.heap.size _ _ _ rfl hown (.int .i64 (64 * (k : Int) + (j : Int))) rfl rfl (by omega) (by omega) hsz ?_; intro v' w2 hown2 hfr)
              have Hb2 := Lib.hid (Hbel2.out.trans ((hfr.below hsz)))
              have Hown2 := Lib.hid hown2
              clear hown2 hfr hown
              go_roundw
              case rel => exact ⟨j + 1, by omega, by go_num, by rw [Hrr.out, List.length_append, List.map_append]; exact Hown2.out, Hb2.out⟩
              case measure => simp [intOf]; omega
            | false =>
              have hbt : ((bt : Int) == 1) = false := by
                have := of_decide_eq_false (hbit.symm.trans hb)
                rw [beq_eq_false_iff_ne]; omega
              have hrr := Hr.out
              rw [if_neg (by rw [hb]; decide), List.append_nil] at hrr
              have Hrr := Lib.hid hrr
              have Hown2 := Lib.hid hown
              clear hrr hbit hb hown
              go_wp2
              go_roundw
              case rel => exact ⟨j + 1, by omega, by go_num, by rw [Hrr.out]; exact Hown2.out, Hbel2.out⟩
              case measure => simp [intOf]; omega
          · obtain rfl : j = 64 := by omega
            have Hown2 := Lib.hid hown
            clear hown
            go_wp2
            go_roundw
            case rel => exact ⟨k + 1, by omega, by omega, by go_num, by rw [Hsucc.out]; exact Hown2.out, Hbel2.out⟩
            case measure => simp [intOf]; omega
      · have hown2 := Hown.out
        rw [show k = 64 by omega, show elsW ws 64 = els ws from rfl] at hown2
        have Hown2 := Lib.hid hown2
        clear Hown hown2
        go_wp2
        go_ret
        exact ⟨_, rfl, Sl.of_own Hown2.out, Hbel.out⟩
    · obtain rfl : k = ws.length := by omega
      have he := elsW_end ws
      rw [show min ws.length 64 = ws.length by omega] at he
      rw [he] at Hown
      go_wp2
      go_ret
      exact ⟨_, rfl, Sl.of_own Hown.out, Hbel.out⟩
end Go.Proofs.YtaedijblgogmmaaDoor
