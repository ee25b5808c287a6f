/- Layer 9: the contracts of the reference's Digits and Write. -/
import Derived.Test.YtolanmdckdjfeaaLexAg
import Derived.Test.YtolanmdckdjfeaaLexRune
namespace Go.Proofs.Ytolanmdckdjfeaa
open Go.RowKit

set_option maxRecDepth 20000 in
set_option maxHeartbeats 1000000 in
theorem digits_any : ∀ (n : Nat), n < 10000000 → ∀ w : World, Calls Try.prog 39 #[.int .i64 (n : Int)] w fun e w' => e = .returned (.string (ofL (dg n))) ∧ w = w' := by
  intro n
  induction n using Nat.strongRecOn with
  | ind n ih =>
    intro hn w
    by_cases h10 : n < 10
    · have hd := Lib.hid (show dg n = [UInt8.ofNat (48 + n)] by unfold dg; rw [if_pos h10])
      obtain ⟨d, hdd⟩ : ∃ d, d = 48 + n := ⟨_, rfl⟩
      rw [← hdd] at hd
      have hr := rune_str d (by omega) w
      have e48 : 48 + (n : Int) = (d : Int) := by omega
      have hd2 : d < 128 := by omega
      clear hdd ih
      go_enter Try.func39, Try.ntmps39
      go_wp2
      go_ret
      exact ⟨by rw [hd.out]; rfl, rfl⟩
    · have hd := Lib.hid (show dg n = dg (n / 10) ++ [UInt8.ofNat (48 + n % 10)] by rw [dg, if_neg h10])
      obtain ⟨q, hq⟩ : ∃ q, q = n / 10 := ⟨_, rfl⟩
      obtain ⟨r, hrr⟩ : ∃ r, r = n % 10 := ⟨_, rfl⟩
      obtain ⟨d, hdd⟩ : ∃ d, d = 48 + r := ⟨_, rfl⟩
      rw [← hq, ← hrr, ← hdd] at hd
      have hih := Lib.hid (ih q (by omega) (by omega))
      have hr := rune_str d (by omega) w
      have e48 : 48 + (r : Int) = (d : Int) := by omega
      have eq : (n : Int) / 10 = (q : Int) := by omega
      have er : (n : Int) % 10 = (r : Int) := by omega
      have hd2 : d < 128 := by omega
      have hrl : r < 10 := by omega
      have hql : (dg q).length ≤ 1000000000 := by
        have : ∀ m, (dg m).length ≤ m + 1 := by
          intro m
          induction m using Nat.strongRecOn with
          | ind m ih2 =>
            rw [dg]
            split
            · simp
            · have := ih2 (m / 10) (by omega)
              rw [List.length_append]; simp; omega
        have := this q; omega
      have hqs : (ofL (dg q)).size ≤ 1000000000 := by rw [ofL_size]; exact hql
      have hds : (ofL [UInt8.ofNat d]).size ≤ 1 := by rw [ofL_size]; simp
      clear hq hrr hdd ih hql
      go_enter Try.func39, Try.ntmps39
      go_wp2_with fail
      refine (hih.out _).mono ?_; rintro e w1 ⟨rfl, rfl⟩
      go_wp2
      go_ret
      refine ⟨?_, rfl⟩
      rw [hd.out, ← ofL_append]; rfl
def tokA (t : Tok) : Value := .agg #[.int .i64 (t.k : Int), .string (ofL t.t), .int .i64 (t.v : Int), .int .i64 (t.p : Int)]
theorem write_tok (t : Tok) (hv : t.v < 10000000) (hl : t.t.length ≤ 10000) (w : World) : Calls Try.prog 21 #[tokA t] w fun e w' => e = .returned (.string (ofL (wrt t))) ∧ Below w.heap.size w w' := by
  obtain ⟨k, s, v, p⟩ := t
  unfold tokA
  simp only at hv hl ⊢
  have HB : Hid (Below w.heap.size w (w.alloc (.cells #[.int .i64 (k : Int), .string (ofL s), .int .i64 (v : Int), .int .i64 (p : Int)] 38))) := (Below.refl _ _).alloc (Nat.le_refl _) _
  by_cases h2 : k = 2
  · have hw := Lib.hid (show wrt ⟨k, s, v, p⟩ = dg v by unfold wrt; rw [if_pos h2])
    have t2 : ((k : Int) == 2) = true := by rw [h2]; rfl
    clear h2
    go_enter Try.func21, Try.ntmps21
    go_wp2_with fail
    refine (digits_any v hv _).mono ?_; rintro e w1 ⟨rfl, rfl⟩
    go_wp2
    go_ret
    exact ⟨by rw [hw.out]; rfl, HB.out⟩
  · have t2 : ((k : Int) == 2) = false := by simp; omega
    by_cases h3 : k = 3
    · have hw := Lib.hid (show wrt ⟨k, s, v, p⟩ = qt s by unfold wrt; rw [if_neg h2, if_pos h3])
      have t3 : ((k : Int) == 3) = true := by rw [h3]; rfl
      clear h2 h3
      go_enter Try.func21, Try.ntmps21
      go_wp2_with fail
      refine (rquote_any s hl _).mono ?_; rintro e w1 ⟨rfl, rfl⟩
      go_wp2
      go_ret
      exact ⟨by rw [hw.out]; rfl, HB.out⟩
    · have hw := Lib.hid (show wrt ⟨k, s, v, p⟩ = s by unfold wrt; rw [if_neg h2, if_neg h3])
      have t3 : ((k : Int) == 3) = false := by simp; omega
      clear h2 h3
      go_enter Try.func21, Try.ntmps21
      go_wp2
      go_ret
      exact ⟨by rw [hw.out]; rfl, HB.out⟩
end Go.Proofs.Ytolanmdckdjfeaa
