/- The contract of Equal. -/
import Derived.Test.YtcpjpogglecddaaDoorBitsLen
import Derived.Deep.QuietTactic
import Derived.BigQuiet
namespace Go.Proofs.YtcpjpogglecddaaDoor
open Go.RowKit

set_option maxHeartbeats 400000 in
theorem sleq_any (va vb : Value) (a b : List Nat) (w : World) (ha : Sl uv w va a) (hb : Sl uv w vb b) (la : Room2 a.length) (lb : Room2 b.length) :
    Calls Tryd.prog 27 #[va, vb] w fun e w' => e = .returned (.bool (decide (a = b))) ∧ ∃ m, w' = w.drewN m := by
  obtain ⟨A, c, rfl⟩ := ha.shape
  obtain ⟨A2, c2, rfl⟩ := hb.shape
  have Ha := Lib.hid ha; have Hb := Lib.hid hb
  unfold Room2 at la lb
  clear ha hb
  by_cases hl : a.length = b.length
  · go_enter Tryd.func27, Tryd.ntmps27
    have Hl := Lib.hid hl
    rw [← hl] at Hb ⊢
    clear hl
    go_wp2
    go_loopw [13] (fun i wr => ∃ k : Nat, k ≤ a.length ∧ i = .int .i64 k ∧ a.take k = b.take k ∧ ∃ m, wr = w.drewN m) (fun i _ => a.length - (intOf i).toNat)
    case atStart => exact ⟨0, Nat.zero_le _, rfl, rfl, 0, rfl⟩
    case round =>
      obtain ⟨k, hk, rfl, hall, m, rfl⟩ := hrel
      have Hall := Lib.hid hall; clear hall
      by_cases hlt : k < a.length
      · obtain ⟨ad, c', hs, hcap, hcell⟩ := sl_cell Ha.out k hlt
        simp only [Value.slice.injEq, true_and] at hs
        obtain ⟨rfl, rfl⟩ := hs
        obtain ⟨ad2, c2', hs, hcap2, hcell2⟩ := sl_cell Hb.out k (by have := Hl.out; omega)
        simp only [Value.slice.injEq] at hs
        obtain ⟨rfl, hl2, rfl⟩ := hs
        clear hl2
        have hab : a.take (k + 1) = b.take (k + 1) ↔ a[k] = b[k]'(by have := Hl.out; omega) := by
          have := Hl.out
          rw [List.take_succ_eq_append_getElem hlt, List.take_succ_eq_append_getElem (l := b) (by omega), Hall.out]
          exact ⟨fun h => by simpa using List.append_cancel_left h, fun h => by rw [h]⟩
        have Hab := Lib.hid hab; clear hab
        have hne : ¬ a[k] = b[k]'(by have := Hl.out; omega) → a ≠ b := fun h e => by subst e; exact h rfl
        have Hne := Lib.hid hne; clear hne
        generalize a[k] = x at *
        generalize b[k]'(by have := Hl.out; omega) = y at *
        unfold uv at hcell hcell2
        by_cases hxy : x = y
        · have hn := Lib.hid (Hab.out.2 hxy)
          have hne : ((x : Int) != (y : Int)) = false := by rw [bne_eq_false_iff_eq]; omega
          clear hxy
          go_wp2
          go_quiet (fail)
          go_wp2
          go_roundw
          case rel => exact ⟨k + 1, by omega, by go_num, hn.out, _, rfl⟩
          case measure => simp [intOf]; omega
        · have hd : decide (a = b) = false := decide_eq_false (Hne.out hxy)
          have hne : ((x : Int) != (y : Int)) = true := by rw [bne_iff_ne]; omega
          have Hd := Lib.hid hd
          clear hxy hd
          go_wp2
          go_quiet (fail)
          go_wp2
          go_ret
          exact ⟨by rw [Hd.out]; rfl, m + nq, by simp⟩
      · have hd : decide (a = b) = true := by
          rw [decide_eq_true_iff]
          have := Hall.out
          have h2 := Hl.out
          rwa [List.take_of_length_le (by omega), List.take_of_length_le (by omega)] at this
        have Hd := Lib.hid hd
        clear hd
        go_wp2
        go_ret
        exact ⟨by rw [Hd.out]; rfl, _, rfl⟩
  · have hd : decide (a = b) = false := decide_eq_false fun h => hl (congrArg List.length h)
    rw [hd]
    have hne : ((a.length : Int) != (b.length : Int)) = true := by rw [bne_iff_ne]; omega
    clear hd hl
    go_enter Tryd.func27, Tryd.ntmps27
    go_wp2
    go_ret
    exact ⟨rfl, 0, rfl⟩
theorem equal_any (va vb : Value) (a b : List Nat) (w : World) (ha : Sl uv w va a) (hb : Sl uv w vb b) (la : Room2 a.length) (lb : Room2 b.length) :
    Calls Tryd.prog 12 #[va, vb] w fun e w' => e = .returned (.bool (decide (used a = used b))) ∧ ∃ m, w' = w.drewN m := by
  have Ha := Lib.hid ha; have Hb := Lib.hid hb; have La := Lib.hid la; have Lb := Lib.hid lb
  clear ha hb la lb
  have ra : Room2 (used a).length := by rw [used_len]; have := (ulen_le a).2; unfold Room2; omega
  have rb : Room2 (used b).length := by rw [used_len]; have := (ulen_le b).2; unfold Room2; omega
  have Ra := Lib.hid ra; have Rb := Lib.hid rb
  clear ra rb
  go_enter Tryd.func12, Tryd.ntmps12
  go_wp2_with fail
  refine (used_any va a _ Ha.out La.out).mono ?_
  rintro e w1 ⟨v1, rfl, hv1, h1, rfl⟩
  have H1 := Lib.hid h1
  clear h1 hv1
  go_wp2_with fail
  refine (used_any vb b _ Hb.out Lb.out).mono ?_
  rintro e w1 ⟨v2, rfl, hv2, h2, rfl⟩
  have H2 := Lib.hid h2
  clear h2 hv2
  go_wp2_with fail
  refine (sleq_any v1 v2 _ _ _ H1.out H2.out Ra.out Rb.out).mono ?_
  rintro e w1 ⟨rfl, m, rfl⟩
  go_wp2
  go_ret
  exact ⟨rfl, m, rfl⟩
end Go.Proofs.YtcpjpogglecddaaDoor
