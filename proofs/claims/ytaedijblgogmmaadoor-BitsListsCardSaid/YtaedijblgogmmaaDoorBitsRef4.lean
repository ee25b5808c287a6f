/- The contracts of the reference's Union, Compare and Valid. -/
import Derived.Test.YtaedijblgogmmaaDoorBitsRef3
namespace Go.Proofs.YtaedijblgogmmaaDoor
open Go.RowKit

def runion (a b : List Nat) : List Nat := b.foldl rwith a
theorem runion_next {a b : List Nat} {k : Nat} (hk : k < b.length) : runion a (b.take (k + 1)) = rwith (runion a (b.take k)) b[k] := by
  unfold runion
  rw [List.take_succ_eq_append_getElem hk, List.foldl_append]
  rfl
theorem runion_len (b : List Nat) : ∀ a : List Nat, (runion a b).length ≤ a.length + b.length := by
  induction b with
  | nil => intro a; simp [runion]
  | cons n b ih =>
    intro a
    have h1 := ih (rwith a n)
    have h2 := rgo_len n a
    unfold runion rwith at *
    rw [List.foldl_cons]
    simp only [List.length_cons]
    omega
theorem runion_mem (b : List Nat) (m : Nat) : ∀ a : List Nat, m ∈ runion a b ↔ m ∈ a ∨ m ∈ b := by
  induction b with
  | nil => intro a; simp [runion]
  | cons n b ih =>
    intro a
    have h1 := ih (rwith a n)
    unfold runion at *
    rw [List.foldl_cons, h1, rwith_mem, List.mem_cons, or_assoc]
theorem runion_asc (b : List Nat) : ∀ {a : List Nat}, Asc a → Asc (runion a b) := by
  induction b with
  | nil => intro a h; exact h
  | cons n b ih => intro a h; unfold runion; rw [List.foldl_cons]; exact ih (rwith_asc h n)
set_option maxHeartbeats 1000000 in
theorem runion_any (v vb : Value) (a b : List Nat) (w : World) (h : Sl nv w v a) (hb : Sl nv w vb b) (hl : a.length + b.length ≤ 10000) :
    Calls Tryd.prog 16 #[v, vb] w (LGot w (runion a b)) := by
  obtain ⟨A, c, rfl⟩ := hb.shape
  have H := Lib.hid h; have Hb := Lib.hid hb
  clear h hb
  have hg0 : (w.alloc (.cells #[] 3)).ownsRow w.heap.size 3 1 (.slice (some ⟨w.heap.size, 0, none⟩) 0 0) 0 [] := own_litS w _ _ 0 _ [] rfl rfl (by decide) rfl
  go_enter Tryd.func16, Tryd.ntmps16
  go_wp2_with (at_builtin; refine appS (f := nv) rfl _ _ 25 rfl 3 (.int .i64 0) 8 info_int rfl (by kernel_rfl) (fun _ => rfl) w.heap.size _ 0 [] rfl hg0 _ a rfl (H.out.below ((Below.refl _ w).alloc (Nat.le_refl _) _)) (by omega) (by omega) (by simp) ?_; intro v0 w2 hown hfr)
  have HO := Lib.hid (Sl.of_own hown)
  have HB := Lib.hid (((Below.refl w.heap.size w).alloc (Nat.le_refl _) _).trans (hfr.below (by simp)))
  clear hown hfr hg0
  go_loopw [5, 6] (fun o i wr => ∃ k : Nat, k ≤ b.length ∧ i = .int .i64 k ∧ Sl nv wr o (runion a (b.take k)) ∧ Below w.heap.size w wr) (fun _ i _ => b.length - (intOf i).toNat)
  case atStart => exact ⟨0, Nat.zero_le _, rfl, HO.out, HB.out⟩
  case round =>
    obtain ⟨k, hk, rfl, ho, hbel⟩ := hrel
    have Ho := Lib.hid ho
    have Hbel := Lib.hid hbel
    by_cases hlt : k < b.length
    · obtain ⟨ad, c', hs, hcap, hcell⟩ := sl_cell (Hb.out.below hbel) k hlt
      simp only [Value.slice.injEq, true_and] at hs
      obtain ⟨rfl, rfl⟩ := hs
      have hnext := runion_next (a := a) hlt
      have hlen := runion_len (b.take k) a
      rw [List.length_take] at hlen
      generalize b[k] = x at *
      have Hnext := Lib.hid hnext
      generalize runion a (b.take k) = L at *
      unfold nv at hcell
      clear ho hbel hnext
      go_wp2_with fail
      refine (rwith_any _ L x _ Ho.out (by omega)).mono ?_
      rintro e w3 ⟨v3, rfl, h3, hb3⟩
      have H3 := Lib.hid h3
      have Hb3 := Lib.hid (Hbel.out.trans (hb3.mono Hbel.out.size))
      clear h3 hb3
      go_wp2
      go_roundw
      case rel => exact ⟨k + 1, by omega, by go_num, by rw [Hnext.out]; exact H3.out, Hb3.out⟩
      case measure => simp [intOf]; omega
    · rw [List.take_of_length_le (by omega)] at Ho
      clear ho hbel
      go_wp2
      go_ret
      exact ⟨_, rfl, Ho.out, Hbel.out⟩

set_option maxHeartbeats 1000000 in
theorem rcompare_any (va vb : Value) (a b : List Nat) (w : World) (ha : Sl nv w va a) (hb : Sl nv w vb b) (la : a.length ≤ 10000) (lb : b.length ≤ 10000) :
    Calls Tryd.prog 26 #[va, vb] w fun e w' => e = .returned (.int .i64 (lexc a b)) ∧ ∃ m, w' = w.drewN m := by
  obtain ⟨A, c, rfl⟩ := ha.shape
  obtain ⟨A2, c2, rfl⟩ := hb.shape
  have Ha := Lib.hid ha; have Hb := Lib.hid hb
  clear ha hb
  obtain ⟨na, hna⟩ : ∃ n, n = a.length := ⟨_, rfl⟩
  obtain ⟨nb, hnb⟩ : ∃ n, n = b.length := ⟨_, rfl⟩
  rw [← hna] at Ha la ⊢
  rw [← hnb] at Hb lb ⊢
  have Hna := Lib.hid hna; have Hnb := Lib.hid hnb
  clear hna hnb
  go_enter Tryd.func26, Tryd.ntmps26
  go_wp2
  go_loopw [5] (fun i wr => ∃ k : Nat, k ≤ na ∧ k ≤ nb ∧ i = .int .i64 k ∧ a.take k = b.take k ∧ ∃ m, wr = w.drewN m) (fun i _ => na - (intOf i).toNat)
  case atStart => exact ⟨0, Nat.zero_le _, Nat.zero_le _, rfl, rfl, 0, rfl⟩
  case round =>
    obtain ⟨k, hk, hk2, rfl, hall, m, rfl⟩ := hrel
    have Hall := Lib.hid hall; clear hall
    by_cases hlt : k < na
    · have d1 : decide ((k : Int) < (na : Int)) = true := decide_eq_true (by omega)
      obtain ⟨ad, c', hs, hcap, hcell⟩ := sl_cell Ha.out k (by have := Hna.out; omega)
      simp only [Value.slice.injEq] at hs
      obtain ⟨rfl, hn1, rfl⟩ := hs
      clear hn1 hcap
      by_cases hlt2 : k < nb
      · have d2 : decide ((k : Int) < (nb : Int)) = true := decide_eq_true (by omega)
        obtain ⟨ad2, c2', hs, hcap2, hcell2⟩ := sl_cell Hb.out k (by have := Hnb.out; omega)
        simp only [Value.slice.injEq] at hs
        obtain ⟨rfl, hn2, rfl⟩ := hs
        clear hn2 hcap2
        have hat := lexc_at (by have := Hna.out; omega) (by have := Hnb.out; omega) Hall.out
        have hab : a.take (k + 1) = b.take (k + 1) ↔ a[k]'(by have := Hna.out; omega) = b[k]'(by have := Hnb.out; omega) := by
          have := Hna.out
          have := Hnb.out
          rw [List.take_succ_eq_append_getElem (l := a) (by omega), List.take_succ_eq_append_getElem (l := b) (by omega), Hall.out]
          exact ⟨fun h => by simpa using List.append_cancel_left h, fun h => by rw [h]⟩
        generalize a[k]'(by have := Hna.out; omega) = x at *
        generalize b[k]'(by have := Hnb.out; omega) = y at *
        have Hat := Lib.hid hat; have Hab := Lib.hid hab
        unfold nv at hcell hcell2
        clear hat hab
        by_cases hx1 : x < y
        · have hr : lexc a b = -1 := by rw [Hat.out, if_pos hx1]
          have Hr := Lib.hid hr
          have d3 : decide ((x : Int) < (y : Int)) = true := decide_eq_true (by omega)
          clear hr
          go_wp2
          go_quiet (fail)
          go_wp2
          go_ret
          exact ⟨by rw [Hr.out]; rfl, m + nq, by simp⟩
        · have d3 : decide ((x : Int) < (y : Int)) = false := decide_eq_false (by omega)
          by_cases hx2 : y < x
          · have hr : lexc a b = 1 := by rw [Hat.out, if_neg hx1, if_pos hx2]
            have Hr := Lib.hid hr
            have d4 : decide ((y : Int) < (x : Int)) = true := decide_eq_true (by omega)
            clear hr
            go_wp2
            go_quiet (fail)
            go_wp2
            go_quiet (fail)
            go_wp2
            go_ret
            exact ⟨by rw [Hr.out]; rfl, _, by simp; rfl⟩
          · have Hn := Lib.hid (Hab.out.2 (by omega))
            have d4 : decide ((y : Int) < (x : Int)) = false := decide_eq_false (by omega)
            go_wp2
            go_quiet (fail)
            go_wp2
            go_quiet (fail)
            go_wp2
            go_roundw
            case rel => exact ⟨k + 1, by omega, by omega, by go_num, Hn.out, _, rfl⟩
            case measure => simp [intOf]; omega
      · have hr : lexc a b = 1 := by
          have h1 := Hna.out
          have h2 := Hnb.out
          obtain rfl : k = b.length := by omega
          exact lexc_more (by omega) Hall.out
        have Hr := Lib.hid hr
        have d2 : decide ((k : Int) < (nb : Int)) = false := decide_eq_false (by omega)
        have d3 : decide ((na : Int) < (nb : Int)) = false := decide_eq_false (by omega)
        have d4 : decide ((nb : Int) < (na : Int)) = true := decide_eq_true (by omega)
        clear hr
        go_wp2
        go_ret
        exact ⟨by rw [Hr.out]; rfl, _, rfl⟩
    · have hr : lexc a b = if na < nb then -1 else 0 := by
        have h1 := Hna.out
        have h2 := Hnb.out
        subst h1 h2
        obtain rfl : k = a.length := by omega
        exact lexc_end hk2 Hall.out
      have Hr := Lib.hid hr
      have d1 : decide ((k : Int) < (na : Int)) = false := decide_eq_false (by omega)
      clear hr
      by_cases hl : na < nb
      · go_wp2
        go_ret
        exact ⟨by rw [Hr.out, if_pos hl]; rfl, _, rfl⟩
      · go_wp2
        go_ret
        exact ⟨by rw [Hr.out, if_neg hl]; rfl, _, rfl⟩

theorem canon_iff (ws : List Nat) : ulen ws = ws.length ↔ ws.length ≤ 64 ∧ (ws.length = 0 ∨ ws[ws.length - 1]?.getD 0 ≠ 0) := by
  have h := ulen_le ws
  constructor
  · intro e
    refine ⟨by omega, ?_⟩
    by_cases h0 : ws.length = 0
    · exact .inl h0
    · right
      have := wat_top ws (by omega)
      rw [e] at this
      unfold wat at this
      rw [if_pos (by omega)] at this
      exact this
  · rintro ⟨h1, h2⟩
    unfold ulen
    rw [show min ws.length 64 = ws.length by omega]
    rcases h2 with h2 | h2
    · rw [h2]; rfl
    · cases hl : ws.length with
      | zero => rfl
      | succ n =>
        rw [hl] at h2
        exact back_stop (by simpa using h2)
theorem rvalid_any (v : Value) (ws : List Nat) (w : World) (h : Sl uv w v ws) (hl : Room2 ws.length) :
    Calls Tryd.prog 30 #[v] w fun e w' => e = .returned (.bool (decide (ulen ws = ws.length))) ∧ w = w' := by
  obtain ⟨A, c, rfl⟩ := h.shape
  have H := Lib.hid h
  unfold Room2 at hl
  clear h
  have hd : decide (ulen ws = ws.length) = decide (ws.length ≤ 64 ∧ (ws.length = 0 ∨ ws[ws.length - 1]?.getD 0 ≠ 0)) := by rw [decide_eq_decide, canon_iff]
  rw [hd]
  clear hd
  by_cases h1 : ws.length ≤ 64
  · by_cases h0 : ws.length = 0
    · have hd : decide (ws.length ≤ 64 ∧ (ws.length = 0 ∨ ws[ws.length - 1]?.getD 0 ≠ 0)) = true := decide_eq_true ⟨h1, .inl h0⟩
      rw [hd]
      obtain ⟨n, hn⟩ : ∃ n, n = ws.length := ⟨_, rfl⟩
      rw [← hn] at H h0 h1 hl ⊢
      have t0 : ((n : Int) == 0) = true := by rw [beq_iff_eq]; omega
      have t1 : decide ((n : Int) ≤ 64) = true := decide_eq_true (by omega)
      clear hn hd h0
      go_enter Tryd.func30, Tryd.ntmps30
      go_wp2
      go_ret
      exact ⟨rfl, rfl⟩
    · obtain ⟨ad, c', hs, hcap, hcell⟩ := sl_cell H.out (ws.length - 1) (by omega)
      simp only [Value.slice.injEq, true_and] at hs
      obtain ⟨rfl, rfl⟩ := hs
      have hd : decide (ws.length ≤ 64 ∧ (ws.length = 0 ∨ ws[ws.length - 1]?.getD 0 ≠ 0)) = (((ws[ws.length - 1]'(by omega) : Nat) : Int) != 0) := by
        rw [List.getElem?_eq_getElem (by omega), Bool.eq_iff_iff, decide_eq_true_iff, bne_iff_ne]
        simp only [Option.getD_some]
        omega
      rw [hd]
      generalize ws[ws.length - 1]'(by omega) = x at *
      obtain ⟨n, hn⟩ : ∃ n, n = ws.length := ⟨_, rfl⟩
      rw [← hn] at H h0 h1 hl hcell hcap ⊢
      have t0 : ((n : Int) == 0) = false := by rw [beq_eq_false_iff_ne]; omega
      have t1 : decide ((n : Int) ≤ 64) = true := decide_eq_true (by omega)
      obtain ⟨m, rfl⟩ : ∃ m, n = m + 1 := ⟨n - 1, by omega⟩
      rw [Nat.add_sub_cancel] at hcell
      unfold uv at hcell
      clear hn hd h0 H
      go_enter Tryd.func30, Tryd.ntmps30
      go_wp2
      go_ret
      exact ⟨rfl, rfl⟩
  · have hd : decide (ws.length ≤ 64 ∧ (ws.length = 0 ∨ ws[ws.length - 1]?.getD 0 ≠ 0)) = false := decide_eq_false fun h => h1 h.1
    rw [hd]
    have t1 : decide ((ws.length : Int) ≤ 64) = false := decide_eq_false (by omega)
    clear hd
    go_enter Tryd.func30, Tryd.ntmps30
    go_wp2
    go_ret
    exact ⟨rfl, rfl⟩
end Go.Proofs.YtaedijblgogmmaaDoor
