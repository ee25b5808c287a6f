/- The contract of the reference's Parse. -/
import Derived.Test.YtkjconhhandhlabSumParse
namespace Go.Proofs.Ytkjconhhandhlab
open Go.RowKit

theorem okd_no {c : Nat} (h : ¬ okd c) : c < 48 ∨ (57 < c ∧ c < 97) ∨ 102 < c := by unfold okd at h; omega
theorem dv_lo {c : Nat} (h2 : c ≤ 57) : dv c = c - 48 := by unfold dv; rw [if_pos h2]
theorem dv_hi {c : Nat} (h1 : 97 ≤ c) : dv c = c - 87 := by unfold dv; rw [if_neg (by omega)]
theorem pres_bad {l : List Nat} {k : Nat} (hk : k < l.length) (h : ¬ okd l[k]) : pres l = (0, 3) := by
  rw [pres, if_neg]
  rintro ⟨_, hall⟩
  exact h (hall _ (List.getElem_mem hk))
theorem parrel_next {l : List Nat} {k q : Nat} (hk : k < l.length) (h16 : k < 16) (hq : q = val (l.take k)) (hg : ∀ c ∈ l.take k, okd c) (hd : okd l[k]) {h i : Value}
    (hh : h = .int .u64 ((q * 16 + dv l[k] : Nat) : Int)) (hi : i = .int .i64 ((k : Int) + 1)) : ParRel l h i := by
  refine ⟨k + 1, by omega, by rw [hi]; rfl, by rw [val_take _ _ hk, ← hq, hh], ?_⟩
  intro c hc
  rw [List.take_succ_eq_append_getElem hk, List.mem_append, List.mem_singleton] at hc
  rcases hc with hc | rfl
  · exact hg c hc
  · exact hd

set_option maxHeartbeats 400000 in
theorem rparse_16 (s : ByteArray) (w : World) (h16 : s.size = 16) : Calls Try.prog 20 #[.string s] w (ParsePost w (bytesOf s)) := by
  have hlen := bytesOf_len s
  have Hl := Lib.hid hlen; clear hlen
  go_enter Try.func20, Try.ntmps20
  go_wp2
  go_loop [4, 5] (fun h i => ParRel (bytesOf s) h i) (fun _ i => 16 - (intOf i).toNat)
  case atStart => exact ⟨0, by omega, rfl, rfl, by simp⟩
  case round =>
    obtain ⟨k, hk, rfl, rfl, hg⟩ := hrel
    have Hg := Lib.hid hg; clear hg
    by_cases hlt : k < 16
    · have hks : k < s.size := by omega
      have hkl : k < (bytesOf s).length := by have := Hl.out; omega
      have hq : val ((bytesOf s).take k) < 1152921504606846976 := by
        refine Nat.lt_of_lt_of_le (val_lt _ Hg.out) ?_
        refine Nat.le_trans (Nat.pow_le_pow_right (by decide) (show ((bytesOf s).take k).length ≤ 15 by simp; omega)) (by decide)
      obtain ⟨q, hqe⟩ : ∃ q, q = val ((bytesOf s).take k) := ⟨_, rfl⟩
      rw [← hqe] at hq ⊢
      have Hq := Lib.hid hqe; clear hqe
      have hb : s[k].toNat < 256 := s[k].toNat_lt
      have he := Lib.hid (bytesOf_at s k hks)
      by_cases hd : okd s[k].toNat
      · have Hd := Lib.hid hd
        rcases hd with ⟨h1, h2⟩ | ⟨h1, h2⟩
        · go_wp2
          go_round
          case rel => exact parrel_next hkl hlt Hq.out Hg.out (by rw [he.out]; exact Hd.out) (by rw [he.out, dv_lo h2]; congr 1; omega) rfl
          case measure => simp [intOf]; omega
        · go_wp2
          go_round
          case rel => exact parrel_next hkl hlt Hq.out Hg.out (by rw [he.out]; exact Hd.out) (by rw [he.out, dv_hi h1]; congr 1; omega) rfl
          case measure => simp [intOf]; omega
      · have Hb := Lib.hid (pres_bad hkl (by rw [he.out]; exact hd))
        have h3 := okd_no hd
        clear hd
        rcases h3 with h1 | ⟨h1, h2⟩ | h1
        all_goals
          go_wp2
          go_ret2
          exact ⟨0, 3, rfl, Hb.out, rfl⟩
    · obtain rfl : k = 16 := by omega
      have hg : Good (bytesOf s) := by
        have h1 : (bytesOf s).length = 16 := Hl.out.trans h16
        exact ⟨h1, by have := Hg.out; rwa [List.take_of_length_le (by omega)] at this⟩
      have HG := Lib.hid hg; clear hg
      go_wp2
      go_ret2
      refine ⟨_, 0, rfl, ?_, rfl⟩
      rw [pres, if_pos HG.out, List.take_of_length_le (by have := HG.out.1; omega)]

set_option maxHeartbeats 400000 in
theorem rparse_no (s : ByteArray) (w : World) (h16 : ¬ s.size = 16) (hs : s.size ≤ 140737488351232) : Calls Try.prog 20 #[.string s] w (ParsePost w (bytesOf s)) := by
  have hlen := bytesOf_len s
  have hp : pres (bytesOf s) = (0, 3) := by unfold pres; rw [if_neg (by unfold Good; omega)]
  have Hp := Lib.hid hp; clear hp hlen
  have t1 : ((s.size : Int) == 16) = false := by simp; omega
  have t2 : ((s.size : Int) != 16) = true := by simp; omega
  clear h16
  go_enter Try.func20, Try.ntmps20
  go_wp2
  go_loop [4, 5] (fun h i => ∃ (k : Nat) (q : Int), k ≤ s.size ∧ i = .int .i64 k ∧ h = .int .u64 q) (fun _ i => s.size - (intOf i).toNat)
  case atStart => exact ⟨0, 0, by omega, rfl, rfl⟩
  case round =>
    obtain ⟨k, q, hk, rfl, rfl⟩ := hrel
    by_cases hlt : k < s.size
    · have hb : s[k].toNat < 256 := s[k].toNat_lt
      by_cases hd : okd s[k].toNat
      · rcases hd with ⟨h1, h2⟩ | ⟨h1, h2⟩
        all_goals
          go_wp2
          go_round
          case rel => exact ⟨k + 1, _, by omega, by go_num, rfl⟩
          case measure => simp [intOf]; omega
      · have h3 := okd_no hd
        clear hd
        rcases h3 with h1 | ⟨h1, h2⟩ | h1
        all_goals
          go_wp2
          go_ret2
          exact ⟨0, 3, rfl, Hp.out, rfl⟩
    · go_wp2
      go_ret2
      exact ⟨0, 3, rfl, Hp.out, rfl⟩
theorem rparse_any (s : ByteArray) (w : World) (hs : s.size ≤ 140737488351232) : Calls Try.prog 20 #[.string s] w (ParsePost w (bytesOf s)) := by
  by_cases h : s.size = 16
  · exact rparse_16 s w h
  · exact rparse_no s w h hs
end Go.Proofs.Ytkjconhhandhlab
