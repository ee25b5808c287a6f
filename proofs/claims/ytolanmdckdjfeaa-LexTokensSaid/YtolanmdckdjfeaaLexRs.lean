/- Layer 9: the contracts of the reference's skip and text. -/
import Derived.Test.YtolanmdckdjfeaaLexTxt
import Derived.Test.YtolanmdckdjfeaaLexRune
namespace Go.Proofs.Ytolanmdckdjfeaa
open Go.RowKit

theorem at_ofL {s : ByteArray} {l : List UInt8} (hs : s = ofL l) {k : Nat} (h : k < s.size) : (s[k]'h).toNat = nxt (l.drop k) := by
  subst hs
  rw [ofL_get, nxt_at (by rwa [ofL_size] at h)]
theorem drop_cons {l : List UInt8} {k : Nat} (h : k < l.length) : ∃ c, l.drop k = c :: l.drop (k + 1) ∧ nxt (l.drop k) = c.toNat ∧ l[k]? = some c :=
  ⟨l[k], List.drop_eq_getElem_cons h, nxt_at h, List.getElem?_eq_getElem h⟩
theorem ret_nat {a b : Nat} (h : a = b) : Ending.returned (.int .i64 (a : Int)) = .returned (.int .i64 (b : Int)) := by rw [h]
def RkRel (l : List UInt8) (R : Nat) (v : Value) : Prop := ∃ j : Nat, j ≤ l.length ∧ v = .int .i64 (j : Int) ∧ j + sk false (l.drop j) = R
def RkRel2 (l : List UInt8) (R j0 : Nat) (v : Value) : Prop := ∃ j : Nat, j ≤ l.length ∧ j0 ≤ j ∧ v = .int .i64 (j : Int) ∧ j + sk true (l.drop j) = R
set_option maxRecDepth 20000 in
set_option maxHeartbeats 2000000 in
theorem rskip_any (s : ByteArray) (l : List UInt8) (hs : s = ofL l) (k : Nat) (hk : k ≤ l.length) (hl : l.length ≤ 8000) (w : World) :
    Calls Try.prog 27 #[.string s, .int .i64 (k : Int)] w fun e w' => e = .returned (.int .i64 ((k + sk false (l.drop k) : Nat) : Int)) ∧ w = w' := by
  have hsz : s.size = l.length := by rw [hs, ofL_size]
  have HS := Lib.hid hs
  have HZ := Lib.hid hsz
  have hs8 : s.size ≤ 8000 := by omega
  obtain ⟨R, hR⟩ : ∃ R, R = k + sk false (l.drop k) := ⟨_, rfl⟩
  rw [← hR]
  have HR := Lib.hid hR
  clear hs hsz hl hR
  go_enter Try.func27, Try.ntmps27
  go_wp2
  go_loop [1, 10, 35] (fun i _ _ => RkRel l R i) (fun i _ _ => s.size - (intOf i).toNat)
  case atStart => exact ⟨k, hk, rfl, HR.out.symm⟩
  case round =>
    obtain ⟨j, hj, rfl, hq⟩ := hrel
    have HQ := Lib.hid hq
    clear hq
    by_cases hlt : j < s.size
    · obtain ⟨c, hd, hn, -⟩ := drop_cons (l := l) (k := j) (by have := HZ.out; omega)
      have hx := at_ofL HS.out hlt
      rw [hn] at hx
      obtain ⟨x, hxc⟩ : ∃ x, x = c.toNat := ⟨_, rfl⟩
      rw [← hxc] at hx
      have HD := Lib.hid hd
      have HN := Lib.hid hn
      have HXC := Lib.hid hxc
      clear hd hn hxc
      by_cases hB : cB x = true
      · have hstep : Hid (sk false (l.drop j) = sk false (l.drop (j + 1)) + 1) := by
          unfold Hid
          rw [HD.out, sk, ← HXC.out, if_pos hB]
        have hcase : ((x : Int) == 32) = true ∨ (((x : Int) == 32) = false ∧ ((x : Int) == 9) = true) ∨ (((x : Int) == 32) = false ∧ ((x : Int) == 9) = false ∧ ((x : Int) == 10) = true) ∨ (((x : Int) == 32) = false ∧ ((x : Int) == 9) = false ∧ ((x : Int) == 10) = false ∧ ((x : Int) == 13) = true) := by
          simp [cB] at hB
          rcases hB with ((rfl | rfl) | rfl) | rfl <;> decide
        clear hB
        rcases hcase with t1 | ⟨t1, t2⟩ | ⟨t1, t2, t3⟩ | ⟨t1, t2, t3, t4⟩
        all_goals
          go_wp2
          go_round
          case rel => exact ⟨j + 1, by have := HZ.out; omega, by go_num, by have := HQ.out; have := hstep.out; omega⟩
          case measure => simp [intOf]; omega
      · have hBf : cB x = false := by simpa using hB
        have hBc : cB c.toNat = false := by rw [← HXC.out]; exact hBf
        have t1 : ((x : Int) == 32) = false := by simp [cB] at hBf; simp; omega
        have t2 : ((x : Int) == 9) = false := by simp [cB] at hBf; simp; omega
        have t3 : ((x : Int) == 10) = false := by simp [cB] at hBf; simp; omega
        have t4 : ((x : Int) == 13) = false := by simp [cB] at hBf; simp; omega
        have HBC := Lib.hid hBc
        clear hB hBf hBc
        by_cases h47 : x = 47
        · have t5 : ((x : Int) == 47) = true := by rw [h47]; rfl
          by_cases h2 : j + 1 < s.size
          · obtain ⟨c2, hd2, hn2, -⟩ := drop_cons (l := l) (k := j + 1) (by have := HZ.out; omega)
            have hy := at_ofL HS.out h2
            rw [hn2] at hy
            obtain ⟨y, hyc⟩ : ∃ y, y = c2.toNat := ⟨_, rfl⟩
            rw [← hyc] at hy
            have HN2 := Lib.hid hn2
            have HYC := Lib.hid hyc
            have h2i : (j : Int) + 1 < (s.size : Int) := by omega
            have hnat : ((j : Int) + 1).toNat = j + 1 := by omega
            clear hd2 hn2 hyc
            by_cases hy47 : y = 47
            · have t6 : ((y : Int) == 47) = true := by rw [hy47]; rfl
              have hst : Hid (j + sk true (l.drop j) = R) := by
                unfold Hid
                rw [← HQ.out, HD.out]
                have e1 : sk true (c :: l.drop (j + 1)) = sk true (l.drop (j + 1)) + 1 := by rw [sk, if_neg (by rw [← HXC.out]; omega)]
                have e2 : sk false (c :: l.drop (j + 1)) = sk true (l.drop (j + 1)) + 1 := by
                  rw [sk, if_neg (by rw [HBC.out]; simp), if_pos ⟨by rw [← HXC.out]; exact h47, by rw [HN2.out, ← HYC.out]; exact hy47⟩]
                rw [e1, e2]
              have hne : Hid (nxt (l.drop j) ≠ 10) := by unfold Hid; rw [HN.out, ← HXC.out]; omega
              clear h47 hy47
              obtain ⟨j0, hj0⟩ : ∃ j0, j0 = j := ⟨_, rfl⟩
              have HJ0 := Lib.hid hj0
              clear hj0
              go_wp2
              go_loop [1] (fun i => RkRel2 l R j0 i) (fun i => s.size - (intOf i).toNat)
              case atStart => exact ⟨j, hj, by have := HJ0.out; omega, rfl, hst.out⟩
              case round =>
                obtain ⟨q, hq1, hq2, rfl, hq3⟩ := hrel
                have HQ3 := Lib.hid hq3
                clear hq3
                by_cases hqs : q < s.size
                · obtain ⟨d, hd, hn, -⟩ := drop_cons (l := l) (k := q) (by have := HZ.out; omega)
                  have hz := at_ofL HS.out hqs
                  rw [hn] at hz
                  obtain ⟨z, hzc⟩ : ∃ z, z = d.toNat := ⟨_, rfl⟩
                  rw [← hzc] at hz
                  have HD3 := Lib.hid hd
                  have HN3 := Lib.hid hn
                  have HZC := Lib.hid hzc
                  clear hd hn hzc
                  by_cases h10 : z = 10
                  · have t7 : ((z : Int) != 10) = false := by rw [h10]; rfl
                    have hlt0 : j0 < q := by
                      by_cases e : q = j0
                      · have := hne.out
                        rw [← HJ0.out, ← e, HN3.out, ← HZC.out] at this
                        exact absurd h10 this
                      · omega
                    have hfin : Hid (q + sk false (l.drop q) = R) := by
                      unfold Hid
                      rw [← HQ3.out, HD3.out]
                      have e1 : sk true (d :: l.drop (q + 1)) = sk false (l.drop (q + 1)) + 1 := by rw [sk, if_pos (by rw [← HZC.out]; exact h10)]
                      have e2 : sk false (d :: l.drop (q + 1)) = sk false (l.drop (q + 1)) + 1 := by rw [sk, if_pos (by rw [← HZC.out, h10]; decide)]
                      rw [e1, e2]
                    clear h10
                    go_wp2
                    go_round
                    case rel => exact ⟨q, by have := HZ.out; omega, rfl, hfin.out⟩
                    case measure => have := HJ0.out; simp [intOf]; omega
                  · have t7 : ((z : Int) != 10) = true := by simp; omega
                    have hfin : Hid (q + 1 + sk true (l.drop (q + 1)) = R) := by
                      unfold Hid
                      rw [← HQ3.out, HD3.out]
                      have e1 : sk true (d :: l.drop (q + 1)) = sk true (l.drop (q + 1)) + 1 := by rw [sk, if_neg (by rw [← HZC.out]; exact h10)]
                      rw [e1]; omega
                    clear h10
                    go_wp2
                    go_round
                    case rel => exact ⟨q + 1, by have := HZ.out; omega, by omega, by go_num, hfin.out⟩
                    case measure => simp [intOf]; omega
                · have hfin : Hid (q + sk false (l.drop q) = R) := by
                    unfold Hid
                    rw [← HQ3.out, List.drop_eq_nil_of_le (by have := HZ.out; omega)]; rfl
                  have hqj : j0 < q := by have := HJ0.out; omega
                  go_wp2
                  go_round
                  case rel => exact ⟨q, by have := HZ.out; omega, rfl, hfin.out⟩
                  case measure => have := HJ0.out; simp [intOf]; omega
            · have t6 : ((y : Int) == 47) = false := by simp; omega
              have h0 : Hid (sk false (l.drop j) = 0) := by
                unfold Hid
                rw [HD.out]
                exact sk_none HBC.out fun h => hy47 (by rw [HYC.out, ← HN2.out]; exact h.2)
              clear h47 hy47
              go_wp2
              go_ret
              exact ⟨ret_nat (by have := HQ.out; have := h0.out; omega), rfl⟩
          · have h0 : Hid (sk false (l.drop j) = 0) := by
              unfold Hid
              rw [HD.out]
              refine sk_none HBC.out fun h => ?_
              have := h.2
              rw [nxt_end (by have := HZ.out; omega)] at this
              cases this
            have h2i : ¬ (j : Int) + 1 < (s.size : Int) := by omega
            clear h47
            go_wp2
            go_ret
            exact ⟨ret_nat (by have := HQ.out; have := h0.out; omega), rfl⟩
        · have t5 : ((x : Int) == 47) = false := by simp; omega
          have h0 : Hid (sk false (l.drop j) = 0) := by
            unfold Hid
            rw [HD.out]
            exact sk_none HBC.out fun h => h47 (by rw [HXC.out]; exact h.1)
          clear h47
          go_wp2
          go_ret
          exact ⟨ret_nat (by have := HQ.out; have := h0.out; omega), rfl⟩
    · have h0 : Hid (sk false (l.drop j) = 0) := by
        unfold Hid
        rw [List.drop_eq_nil_of_le (by have := HZ.out; omega)]; rfl
      go_wp2
      go_ret
      exact ⟨ret_nat (by have := HQ.out; have := h0.out; omega), rfl⟩
end Go.Proofs.Ytolanmdckdjfeaa
