/- The contracts of Sub and Has. -/
import Derived.Test.YtcpjpogglecddaaDoorBitsLen
namespace Go.Proofs.YtcpjpogglecddaaDoor
open Go.RowKit

/-- used(v), as a loop reads it. -/
theorem used_cells {v1 : Value} {ws : List Nat} {w : World} (h1 : Sl uv w v1 (used ws)) : ∀ k, k < ulen ws → ∃ ad c, v1 = .slice (some ad) (ulen ws) c ∧ ulen ws ≤ c ∧ w.cell? (ad.add k) = some (.int .u64 ((ws[k]?.getD 0 : Nat) : Int)) := by
  have hul := (ulen_le ws).1
  intro k hk
  rcases h1 with ⟨rfl, h0⟩ | ⟨ad, c, rfl, hc, hcell⟩
  · have := congrArg List.length h0
    rw [used_len, List.length_nil] at this
    omega
  · rw [used_len] at hc ⊢
    refine ⟨ad, c, rfl, hc, hcell k _ ?_⟩
    rw [used, List.getElem?_take, if_pos hk, List.getElem?_eq_getElem (by omega)]
    rfl
def subM (a b : List Nat) : Bool := (List.range (ulen a)).all fun i => andn (a[i]?.getD 0) (b[i]?.getD 0) == 0
theorem andn_zero (y : Nat) : andn 0 y = 0 := by
  apply Nat.eq_of_testBit_eq
  intro i
  rw [andn_bit]
  simp
theorem subM_iff (a b : List Nat) : subM a b = true ↔ ∀ i, andn (wat a i) (wat b i) = 0 := by
  unfold subM
  rw [List.all_eq_true]
  have h64 := (ulen_le a).2
  constructor
  · intro h i
    by_cases hi : i < ulen a
    · have := h i (List.mem_range.2 hi)
      rw [beq_iff_eq] at this
      unfold wat
      rw [if_pos (by omega), if_pos (by omega)]
      exact this
    · rw [wat_zero a i (by omega)]
      exact andn_zero _
  · intro h i hi
    have hi := List.mem_range.1 hi
    have := h i
    unfold wat at this
    rw [if_pos (by omega), if_pos (by omega)] at this
    rw [beq_iff_eq]
    exact this
theorem andn_run (x y : Nat) (hx : U64 x) (hy : U64 y) : bits .andNot .u64 (x : Int) (y : Int) = ((andn x y : Nat) : Int) := (u64_andNot_nat _ _ hx hy).trans (congrArg (fun n : Nat => (n : Int)) (andn_eq x y hx hy))
set_option maxHeartbeats 400000 in
theorem sub_any (va vb : Value) (a b : List Nat) (w : World) (ha : Sl uv w va a) (hb : Sl uv w vb b) (la : Room2 a.length) (lb : Room2 b.length) (wa : Wds a) (wb : Wds b) :
    Calls Tryd.prog 13 #[va, vb] w fun e w' => e = .returned (.bool (subM a b)) ∧ w = w' := by
  have Ha := Lib.hid ha; have Hb := Lib.hid hb; have La := Lib.hid la; have Lb := Lib.hid lb; have Wa := Lib.hid wa; have Wb := Lib.hid wb
  clear ha hb la lb wa wb
  have hu := (ulen_le a).2
  go_enter Tryd.func13, Tryd.ntmps13
  go_wp2_with fail
  refine (used_any va a _ Ha.out La.out).mono ?_
  rintro e w1 ⟨v1, rfl, _, h1, rfl⟩
  have Hc := Lib.hid (used_cells h1)
  obtain ⟨A1, c1, rfl⟩ := h1.shape
  rw [used_len] at Hc ⊢
  clear h1
  go_wp2_with fail
  go_loop [10] (fun i => ∃ k : Nat, k ≤ ulen a ∧ i = .int .i64 k ∧ ∀ i, i < k → andn (a[i]?.getD 0) (b[i]?.getD 0) = 0) (fun i => ulen a - (intOf i).toNat)
  case atStart => exact ⟨0, Nat.zero_le _, rfl, fun i hi => by omega⟩
  case round =>
    obtain ⟨k, hk, rfl, hall⟩ := hrel
    have Hall := Lib.hid hall; clear hall
    by_cases hlt : k < ulen a
    · obtain ⟨ad, c, hs, hcap, hcell⟩ := Hc.out k hlt
      simp only [Value.slice.injEq, true_and] at hs
      obtain ⟨rfl, rfl⟩ := hs
      have hr := andn_run _ _ (Wa.out.at k) (Wb.out.at k)
      go_wp2_with fail
      refine (word_any vb b k _ Hb.out Lb.out).mono ?_
      rintro e w3 ⟨rfl, rfl⟩
      by_cases hz : andn (a[k]?.getD 0) (b[k]?.getD 0) = 0
      · have hnext : ∀ i, i < k + 1 → andn (a[i]?.getD 0) (b[i]?.getD 0) = 0 := by
          intro i hi
          by_cases e : i = k
          · subst e; exact hz
          · exact Hall.out i (by omega)
        have Hn := Lib.hid hnext; clear hnext
        rw [hz] at hr
        clear hz
        go_wp2
        go_round
        case rel => exact ⟨k + 1, by omega, by go_num, Hn.out⟩
        case measure => simp [intOf]; omega
      · have hf : subM a b = false := by
          rw [Bool.eq_false_iff]
          intro h
          have := List.all_eq_true.1 h k (List.mem_range.2 hlt)
          rw [beq_iff_eq] at this
          exact hz this
        have Hf := Lib.hid hf; clear hf
        have hne : (((andn (a[k]?.getD 0) (b[k]?.getD 0) : Nat) : Int) != 0) = true := by rw [bne_iff_ne]; omega
        generalize andn (a[k]?.getD 0) (b[k]?.getD 0) = z at *
        go_wp2
        go_ret
        exact ⟨by rw [Hf.out]; rfl, rfl⟩
    · have hf : subM a b = true := by
        unfold subM
        rw [List.all_eq_true]
        intro i hi
        rw [beq_iff_eq]
        exact Hall.out i (by have := List.mem_range.1 hi; omega)
      have Hf := Lib.hid hf; clear hf
      go_wp2
      go_ret
      exact ⟨by rw [Hf.out]; rfl, rfl⟩

end Go.Proofs.YtcpjpogglecddaaDoor
