/- The order of lists; the contracts of slices.Compare, of bits.Compare and of the reference's Compare. -/
import Derived.Test.YtaedijblgogmmaaDoorBitsList
import Derived.Deep.QuietTactic
import Derived.BigQuiet
namespace Go.Proofs.YtaedijblgogmmaaDoor
open Go.RowKit

def lexc : List Nat → List Nat → Int
  | [], [] => 0
  | [], _ :: _ => -1
  | _ :: _, [] => 1
  | x :: s, y :: t => if x < y then -1 else if y < x then 1 else lexc s t
theorem lexc_range : ∀ a b : List Nat, -1 ≤ lexc a b ∧ lexc a b ≤ 1
  | [], [] => by simp [lexc]
  | [], _ :: _ => by simp [lexc]
  | _ :: _, [] => by simp [lexc]
  | x :: s, y :: t => by
    have := lexc_range s t
    unfold lexc
    split
    · simp
    · split
      · simp
      · exact this
theorem lexc_anti : ∀ a b : List Nat, lexc b a = -lexc a b
  | [], [] => rfl
  | [], _ :: _ => rfl
  | _ :: _, [] => rfl
  | x :: s, y :: t => by
    have := lexc_anti s t
    unfold lexc
    by_cases h1 : x < y
    · rw [if_neg (by omega), if_pos h1, if_pos h1]; rfl
    · by_cases h2 : y < x
      · rw [if_pos h2, if_neg h1, if_pos h2]
      · rw [if_neg h2, if_neg h1, if_neg h1, if_neg h2, this]
theorem lexc_zero : ∀ a b : List Nat, lexc a b = 0 ↔ a = b
  | [], [] => by simp [lexc]
  | [], _ :: _ => by simp [lexc]
  | _ :: _, [] => by simp [lexc]
  | x :: s, y :: t => by
    have := lexc_zero s t
    unfold lexc
    by_cases h1 : x < y
    · rw [if_pos h1]; simp; omega
    · by_cases h2 : y < x
      · rw [if_neg h1, if_pos h2]; simp; omega
      · rw [if_neg h1, if_neg h2, this]
        obtain rfl : x = y := by omega
        simp
theorem lexc_le : ∀ a b c : List Nat, lexc a b ≤ 0 → lexc b c ≤ 0 → lexc a c ≤ 0 ∧ (lexc a b < 0 ∨ lexc b c < 0 → lexc a c < 0)
  | [], [], [], _, _ => by simp [lexc]
  | [], [], _ :: _, _, _ => by simp [lexc]
  | [], _ :: _, [], _, h => by simp [lexc] at h
  | [], _ :: _, _ :: _, _, _ => by simp [lexc]
  | _ :: _, [], _, h, _ => by simp [lexc] at h
  | _ :: _, _ :: _, [], _, h => by simp [lexc] at h
  | x :: s, y :: t, z :: u, h1, h2 => by
    have ih := lexc_le s t u
    unfold lexc at h1 h2 ⊢
    by_cases a1 : x < y
    · by_cases a2 : y < z
      · simp only [if_pos a1, if_pos a2, if_pos (show x < z by omega)]; simp
      · rw [if_neg a2] at h2
        by_cases a3 : z < y
        · rw [if_pos a3] at h2; omega
        · obtain rfl : y = z := by omega
          simp only [if_pos a1]; simp
    · rw [if_neg a1] at h1
      by_cases a4 : y < x
      · rw [if_pos a4] at h1; omega
      · obtain rfl : x = y := by omega
        rw [if_neg a4] at h1
        by_cases a2 : x < z
        · simp only [if_pos a2]; simp
        · rw [if_neg a2] at h2
          by_cases a3 : z < x
          · rw [if_pos a3] at h2; omega
          · obtain rfl : x = z := by omega
            rw [if_neg a3] at h2
            simp only [Nat.lt_irrefl, if_false]
            exact ih h1 h2
theorem lexc_drop (a b : List Nat) : ∀ k, k ≤ a.length → k ≤ b.length → a.take k = b.take k → lexc a b = lexc (a.drop k) (b.drop k)
  | 0, _, _, _ => by simp
  | k + 1, ha, hb, h => by
    have e1 := List.take_succ_eq_append_getElem (l := a) (i := k) (by omega)
    have e2 := List.take_succ_eq_append_getElem (l := b) (i := k) (by omega)
    rw [e1, e2] at h
    obtain ⟨h1, h2⟩ := List.append_inj h (by simp; omega)
    have h3 : a[k] = b[k] := by simpa using h2
    rw [lexc_drop a b k (by omega) (by omega) h1, List.drop_eq_getElem_cons (by omega), List.drop_eq_getElem_cons (l := b) (by omega), lexc, h3]
    simp
theorem lexc_at {a b : List Nat} {k : Nat} (ha : k < a.length) (hb : k < b.length) (h : a.take k = b.take k) : lexc a b = if a[k] < b[k] then -1 else if b[k] < a[k] then 1 else lexc (a.drop (k + 1)) (b.drop (k + 1)) := by
  rw [lexc_drop a b k (by omega) (by omega) h, List.drop_eq_getElem_cons ha, List.drop_eq_getElem_cons hb, lexc]
theorem lexc_end {a b : List Nat} (hab : a.length ≤ b.length) (h : a.take a.length = b.take a.length) : lexc a b = if a.length < b.length then -1 else 0 := by
  rw [lexc_drop a b a.length (Nat.le_refl _) hab h, List.drop_length]
  by_cases hl : a.length < b.length
  · rw [if_pos hl, List.drop_eq_getElem_cons hl, lexc]
  · rw [if_neg hl, List.drop_of_length_le (by omega), lexc]
theorem lexc_more {a b : List Nat} (hab : b.length < a.length) (h : a.take b.length = b.take b.length) : lexc a b = 1 := by
  rw [lexc_drop a b b.length (by omega) (Nat.le_refl _) h, List.drop_length, List.drop_eq_getElem_cons hab, lexc]

theorem nan_any (n : Int) (w : World) : Calls Tryd.prog 56 #[.int .i64 n] w fun e w' => e = .returned (.bool false) ∧ w = w' := by
  go_enter Tryd.func56, Tryd.ntmps56
  go_wp2
  go_ret
  exact ⟨by simp, rfl⟩
def cmpI (x y : Nat) : Int := if x < y then -1 else if y < x then 1 else 0
theorem cmp_any (x y : Nat) (w : World) : Calls Tryd.prog 53 #[.int .i64 (x : Int), .int .i64 (y : Int)] w fun e w' => e = .returned (.int .i64 (cmpI x y)) ∧ w = w' := by
  by_cases h1 : x < y
  · rw [show cmpI x y = -1 by unfold cmpI; rw [if_pos h1]]
    go_enter Tryd.func53, Tryd.ntmps53
    go_wp2_with fail
    refine (nan_any _ _).mono ?_
    rintro e w1 ⟨rfl, rfl⟩
    go_wp2_with fail
    refine (nan_any _ _).mono ?_
    rintro e w1 ⟨rfl, rfl⟩
    go_wp2
    go_ret
    exact ⟨rfl, rfl⟩
  · by_cases h2 : y < x
    · rw [show cmpI x y = 1 by unfold cmpI; rw [if_neg h1, if_pos h2]]
      go_enter Tryd.func53, Tryd.ntmps53
      go_wp2_with fail
      refine (nan_any _ _).mono ?_
      rintro e w1 ⟨rfl, rfl⟩
      go_wp2_with fail
      refine (nan_any _ _).mono ?_
      rintro e w1 ⟨rfl, rfl⟩
      go_wp2
      go_ret
      exact ⟨rfl, rfl⟩
    · rw [show cmpI x y = 0 by unfold cmpI; rw [if_neg h1, if_neg h2]]
      go_enter Tryd.func53, Tryd.ntmps53
      go_wp2_with fail
      refine (nan_any _ _).mono ?_
      rintro e w1 ⟨rfl, rfl⟩
      go_wp2_with fail
      refine (nan_any _ _).mono ?_
      rintro e w1 ⟨rfl, rfl⟩
      go_wp2
      go_ret
      exact ⟨rfl, rfl⟩

set_option maxHeartbeats 1000000 in
theorem slcmp_any (va vb : Value) (a b : List Nat) (w : World) (ha : Sl nv w va a) (hb : Sl nv w vb b) (la : a.length ≤ 10000) (lb : b.length ≤ 10000) :
    Calls Tryd.prog 48 #[va, vb] w fun e w' => e = .returned (.int .i64 (lexc a b)) ∧ w = w' := by
  obtain ⟨A, c, rfl⟩ := ha.shape
  obtain ⟨A2, c2, rfl⟩ := hb.shape
  have Ha := Lib.hid ha; have Hb := Lib.hid hb
  clear ha hb
  obtain ⟨na, hna⟩ : ∃ n, n = a.length := ⟨_, rfl⟩
  obtain ⟨nb, hnb⟩ : ∃ n, n = b.length := ⟨_, rfl⟩
  rw [← hna] at Ha la ⊢
  rw [← hnb] at Hb lb ⊢
  have Hna := Lib.hid hna; have Hnb := Lib.hid hnb
  clear hna hnb
  go_enter Tryd.func48, Tryd.ntmps48
  go_wp2
  go_loop [11] (fun i => ∃ k : Nat, k ≤ na ∧ k ≤ nb ∧ i = .int .i64 k ∧ a.take k = b.take k) (fun i => na - (intOf i).toNat)
  case atStart => exact ⟨0, Nat.zero_le _, Nat.zero_le _, rfl, rfl⟩
  case round =>
    obtain ⟨k, hk, hk2, rfl, hall⟩ := hrel
    have Hall := Lib.hid hall; clear hall
    by_cases hlt : k < na
    · obtain ⟨ad, c', hs, hcap, hcell⟩ := sl_cell Ha.out k (by have := Hna.out; omega)
      simp only [Value.slice.injEq] at hs
      obtain ⟨rfl, hn1, rfl⟩ := hs
      clear hn1 hcap
      by_cases hlt2 : k < nb
      · obtain ⟨ad2, c2', hs, hcap2, hcell2⟩ := sl_cell Hb.out k (by have := Hnb.out; omega)
        simp only [Value.slice.injEq] at hs
        obtain ⟨rfl, hn2, rfl⟩ := hs
        clear hn2 hcap2
        have hat := lexc_at (by have := Hna.out; omega) (by have := Hnb.out; omega) Hall.out
        have hab : a.take (k + 1) = b.take (k + 1) ↔ a[k]'(by have := Hna.out; omega) = b[k]'(by have := Hnb.out; omega) := by
          have := Hna.out
          have := Hnb.out
          rw [List.take_succ_eq_append_getElem (l := a) (by omega), List.take_succ_eq_append_getElem (l := b) (by omega), Hall.out]
          exact ⟨fun h => by simpa using List.append_cancel_left h, fun h => by rw [h]⟩
        generalize a[k]'(by have := Hna.out; omega) = x at *
        generalize b[k]'(by have := Hnb.out; omega) = y at *
        have Hat := Lib.hid hat; have Hab := Lib.hid hab
        unfold nv at hcell hcell2
        clear hat hab
        go_wp2_with fail
        refine (cmp_any x y _).mono ?_
        rintro e w1 ⟨rfl, rfl⟩
        by_cases hx1 : x < y
        · have hr : lexc a b = -1 := by rw [Hat.out, if_pos hx1]
          have Hr := Lib.hid hr
          rw [show cmpI x y = -1 by unfold cmpI; rw [if_pos hx1]]
          clear hr
          go_wp2
          go_ret
          exact ⟨by rw [Hr.out]; rfl, rfl⟩
        · by_cases hx2 : y < x
          · have hr : lexc a b = 1 := by rw [Hat.out, if_neg hx1, if_pos hx2]
            have Hr := Lib.hid hr
            rw [show cmpI x y = 1 by unfold cmpI; rw [if_neg hx1, if_pos hx2]]
            clear hr
            go_wp2
            go_ret
            exact ⟨by rw [Hr.out]; rfl, rfl⟩
          · rw [show cmpI x y = 0 by unfold cmpI; rw [if_neg hx1, if_neg hx2]]
            have Hn := Lib.hid (Hab.out.2 (by omega))
            go_wp2
            go_round
            case rel => exact ⟨k + 1, by omega, by omega, by go_num, Hn.out⟩
            case measure => simp [intOf]; omega
      · have hr : lexc a b = 1 := by
          have h1 := Hna.out
          have h2 := Hnb.out
          obtain rfl : k = b.length := by omega
          exact lexc_more (by omega) Hall.out
        have Hr := Lib.hid hr
        clear hr
        unfold nv at hcell
        generalize a[k]'(by have := Hna.out; omega) = x at *
        go_wp2
        go_ret
        exact ⟨by rw [Hr.out]; rfl, rfl⟩
    · have hr : lexc a b = if na < nb then -1 else 0 := by
        have h1 := Hna.out
        have h2 := Hnb.out
        subst h1 h2
        obtain rfl : k = a.length := by omega
        exact lexc_end hk2 Hall.out
      have Hr := Lib.hid hr
      clear hr
      by_cases hl : na < nb
      · go_wp2
        go_ret
        exact ⟨by rw [Hr.out, if_pos hl]; rfl, rfl⟩
      · go_wp2
        go_ret
        exact ⟨by rw [Hr.out, if_neg hl]; rfl, rfl⟩

theorem compare_any (va vb : Value) (a b : List Nat) (w : World) (ha : Sl uv w va a) (hb : Sl uv w vb b) (la : Room2 a.length) (lb : Room2 b.length) (wa : Wds a) (wb : Wds b) (hT : Tab w) :
    Calls Tryd.prog 25 #[va, vb] w fun e w' => e = .returned (.int .i64 (lexc (els a) (els b))) ∧ Below w.heap.size w w' := by
  have Ha := Lib.hid ha; have Hb := Lib.hid hb; have La := Lib.hid la; have Lb := Lib.hid lb; have Wa := Lib.hid wa; have Wb := Lib.hid wb; have HT := Lib.hid hT
  clear ha hb la lb wa wb hT
  go_enter Tryd.func25, Tryd.ntmps25
  go_wp2_with fail
  refine (list_any va a _ Ha.out La.out Wa.out HT.out).mono ?_
  rintro e w1 ⟨v1, rfl, h1, hb1⟩
  have H1 := Lib.hid h1; have Hb1 := Lib.hid hb1
  clear h1 hb1
  go_wp2_with fail
  refine (list_any vb b _ (Hb.out.below Hb1.out) Lb.out Wb.out (HT.out.below Hb1.out HT.out.size)).mono ?_
  rintro e w2 ⟨v2, rfl, h2, hb2⟩
  have H2 := Lib.hid h2; have Hb2 := Lib.hid hb2
  clear h2 hb2
  go_wp2_with fail
  refine (slcmp_any v1 v2 _ _ _ (H1.out.below Hb2.out) H2.out (by have := els_len_le a; omega) (by have := els_len_le b; omega)).mono ?_
  rintro e w3 ⟨rfl, rfl⟩
  go_wp2
  go_ret
  exact ⟨rfl, Hb1.out.trans (Hb2.out.mono Hb1.out.size)⟩
end Go.Proofs.YtaedijblgogmmaaDoor
