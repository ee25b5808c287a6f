/- The contracts of the reference's Few, Valid, nodes and Same on graphs. -/
import Derived.Test.YtnhhhnhakpambaaGraphValid
namespace Go.Proofs.Ytnhhhnhakpambaa
open Go.RowKit

theorem below_drew {B : Nat} {a b : World} (h : Below B a b) (n : Nat) : Below B a (b.drewN n) := ⟨h.os, h.tape, h.output, h.size, h.block⟩
def fewb {α : Type} (g : List (List α)) : Bool := decide (g.length ≤ 60) && g.all fun l => decide (l.length ≤ 60)
theorem few_lim {α : Type} {g : List (List α)} (h : fewb g = true) : Lim g := by
  unfold fewb at h
  simp only [Bool.and_eq_true, decide_eq_true_eq, List.all_eq_true] at h
  refine ⟨by omega, fun i => ?_⟩
  rcases Nat.lt_or_ge i g.length with h1 | h1
  · rw [row_get h1]; have := h.2 _ (List.getElem_mem h1); omega
  · rw [row_big h1]; simp
theorem few_len {α : Type} {g : List (List α)} (h : fewb g = true) : g.length ≤ 60 := by
  unfold fewb at h
  simp only [Bool.and_eq_true, decide_eq_true_eq, List.all_eq_true] at h
  exact h.1
theorem few_next {α : Type} {g : List (List α)} {k : Nat} (hk : k < g.length) (h : ((g.take k).all fun l => decide (l.length ≤ 60)) = true) (hr : (row g k).length ≤ 60) : ((g.take (k + 1)).all fun l => decide (l.length ≤ 60)) = true := by
  rw [List.take_succ_eq_append_getElem hk, List.all_append, h]
  rw [row_get hk] at hr
  simp [hr]
theorem few_bad {α : Type} {g : List (List α)} {k : Nat} (hk : k < g.length) (hr : ¬ (row g k).length ≤ 60) : fewb g = false := by
  rw [row_get hk] at hr
  rw [Bool.eq_false_iff]
  intro h
  unfold fewb at h
  simp only [Bool.and_eq_true, decide_eq_true_eq, List.all_eq_true] at h
  exact hr (h.2 _ (List.getElem_mem hk))
set_option maxHeartbeats 1000000 in
theorem few_any {α : Type} {f : α → Value} (v : Value) (g : List (List α)) (w : World) (h : Gr f w v g) (hl : g.length ≤ 17592186044000) :
    Calls Try.prog 12 #[v] w fun e w' => e = .returned (.bool (fewb g)) ∧ w = w' := by
  obtain ⟨A, c, rfl⟩ := h.shape
  have H := Lib.hid h
  clear h
  obtain ⟨R, hR⟩ : ∃ R, R = fewb g := ⟨_, rfl⟩
  rw [← hR]
  have HR := Lib.hid hR
  clear hR
  go_enter Try.func12, Try.ntmps12
  go_wp2
  go_loop [3] (fun i => ∃ k : Nat, k ≤ g.length ∧ i = .int .i64 k ∧ ((g.take k).all fun l => decide (l.length ≤ 60)) = true) (fun i => g.length - (intOf i).toNat)
  case atStart => exact ⟨0, Nat.zero_le _, rfl, rfl⟩
  case round =>
    obtain ⟨k, hk, rfl, hall⟩ := hrel
    have Hall := Lib.hid hall; clear hall
    by_cases hlt : k < g.length
    · obtain ⟨ad, c', A', cr, hs, hcap, hcell, hrow⟩ := gr_cell H.out k hlt
      simp only [Value.slice.injEq, true_and] at hs
      obtain ⟨rfl, rfl⟩ := hs
      clear hrow
      by_cases h60 : (row g k).length ≤ 60
      · have Hn := Lib.hid (few_next hlt Hall.out h60)
        go_wp2
        go_round
        case rel => exact ⟨k + 1, by omega, by go_num, Hn.out⟩
        case measure => simp [intOf]; omega
      · have Hn := Lib.hid (HR.out.trans (few_bad hlt h60))
        go_wp2
        go_ret
        exact ⟨by rw [Hn.out]; rfl, rfl⟩
    · have hall := Hall.out
      rw [List.take_of_length_le (by omega)] at hall
      have hr : R = decide ((g.length : Int) ≤ 60) := by
        rw [HR.out]; unfold fewb; rw [hall, Bool.and_true, decide_eq_decide]; omega
      have Hr := Lib.hid hr
      clear hr hall
      go_wp2
      go_ret
      exact ⟨by rw [Hr.out]; rfl, rfl⟩
set_option maxHeartbeats 2000000 in
theorem rvalid_any (v : Value) (g : List (List Int)) (w : World) (h : Gr iv w v g) (hl : Lim g) :
    Calls Try.prog 19 #[v] w (BoolB (vb g) w) := by
  obtain ⟨A, c, rfl⟩ := h.shape
  have H := Lib.hid h
  have HL := Lib.hid hl.2
  have hl1 := hl.1
  clear h hl
  by_cases h400 : 400 < g.length
  · have e : vb g = false := vb_false fun h => by have := h.1; omega
    rw [e]
    clear e
    go_enter Try.func19, Try.ntmps19
    go_wp2
    go_ret
    exact ⟨rfl, Below.refl _ _⟩
  · go_enter Try.func19, Try.ntmps19
    go_wp2
    go_loopw [3] (fun i wr => ∃ k : Nat, k ≤ g.length ∧ i = .int .i64 k ∧ (∀ j < k, ∀ m (hm : m < (row g j).length), OkE g.length (row g j) m hm) ∧ ∃ q, wr = w.drewN q) (fun i _ => g.length - (intOf i).toNat)
    case atStart => exact ⟨0, Nat.zero_le _, rfl, by intro j hj; omega, 0, rfl⟩
    case round =>
      obtain ⟨k, hk, rfl, hok, q, rfl⟩ := hrel
      have Hok := Lib.hid hok
      clear hok
      by_cases hlt : k < g.length
      · obtain ⟨ad, c', A', cr, hs, hcap, hcell, hrow⟩ := gr_cell H.out k hlt
        simp only [Value.slice.injEq, true_and] at hs
        obtain ⟨rfl, rfl⟩ := hs
        have Hrow := Lib.hid hrow
        have hrl := HL.out k
        clear hrow
        go_wp2
        go_loopw [4] (fun i wr => ∃ m : Nat, m ≤ (row g k).length ∧ i = .int .i64 m ∧ (∀ j < m, ∀ (hm : j < (row g k).length), OkE g.length (row g k) j hm) ∧ ∃ q, wr = w.drewN q) (fun i _ => (row g k).length - (intOf i).toNat)
        case atStart => exact ⟨0, Nat.zero_le _, rfl, by intro j hj; omega, q, rfl⟩
        case round =>
          obtain ⟨m, hm, rfl, hokm, q2, rfl⟩ := hrel
          have Hokm := Lib.hid hokm
          clear hokm
          by_cases hltm : m < (row g k).length
          · obtain ⟨adr, cr', hsr, hcapr, hcellr⟩ := sl_cell Hrow.out m hltm
            simp only [Value.slice.injEq, true_and] at hsr
            obtain ⟨rfl, rfl⟩ := hsr
            have Hprev : Hid (∀ h0 : 0 < m, w.cell? (adr.add (m - 1)) = some (iv (row g k)[m - 1])) := fun h0 => by
              obtain ⟨adr', cr'', hsr, _, h⟩ := sl_cell Hrow.out (m - 1) (by omega)
              simp only [Value.slice.injEq, true_and, Option.some.injEq] at hsr
              obtain ⟨rfl, _⟩ := hsr
              exact h
            by_cases hbad : OkE g.length (row g k) m hltm
            · obtain ⟨o1, o2, o3⟩ := hbad
              have Hnext : Hid (∀ j < m + 1, ∀ (hm : j < (row g k).length), OkE g.length (row g k) j hm) := fun j hj hm' => by
                rcases Nat.lt_succ_iff_lt_or_eq.1 hj with h1 | rfl
                · exact Hokm.out j h1 hm'
                · exact ⟨o1, o2, o3⟩
              by_cases hm0 : m = 0
              · have hm0' : m ≤ 0 := by omega
                clear o3 Hprev hm0
                generalize (row g k)[m] = x at *
                unfold iv at hcellr
                have d1 : decide (x < 0) = false := decide_eq_false (by omega)
                have d2 : decide ((g.length : Int) ≤ x) = false := decide_eq_false (by omega)
                have d3 : decide ((0 : Int) < (m : Int)) = false := decide_eq_false (by omega)
                have d5 : decide (0 < m) = false := decide_eq_false (by omega)
                clear hm0'
                go_wp2
                go_quiet (fail)
                go_wp2
                go_roundw
                case rel => exact ⟨m + 1, by omega, by go_num, Hnext.out, q2 + nq, by simp⟩
                case measure => simp [intOf]; omega
              · have hprev := Hprev.out (by omega)
                have o4 := o3 (by omega)
                have hm0' : 0 < m := by omega
                have i1 : (1 : Int) ≤ (m : Int) := by omega
                have i2 : (m : Int) - 1 < ((row g k).length : Int) := by omega
                have i3 : ((m : Int) - 1).toNat = m - 1 := by omega
                have i4 : IntKind.i64.wrap ((m : Int) - 1) = (m : Int) - 1 := IntWalk.i64_in _ (by omega)
                have i5 : (0 : Int) ≤ (m : Int) - 1 := by omega
                clear o3 Hprev
                generalize (row g k)[m] = x at *
                generalize (row g k)[m - 1] = y at *
                unfold iv at hcellr hprev
                have d1 : decide (x < 0) = false := decide_eq_false (by omega)
                have d2 : decide ((g.length : Int) ≤ x) = false := decide_eq_false (by omega)
                have d3 : decide ((0 : Int) < (m : Int)) = true := decide_eq_true (by omega)
                have d4 : decide (x ≤ y) = false := decide_eq_false (by omega)
                go_wp2
                go_quiet (fail)
                go_wp2
                go_roundw
                case rel => exact ⟨m + 1, by omega, by go_num, Hnext.out, q2 + nq, by simp⟩
                case measure => simp [intOf]; omega
            · have hvb : vb g = false := vb_false fun hv => hbad (hv.2 k m hltm)
              have Hvb := Lib.hid hvb
              clear hvb
              by_cases hnd : 0 ≤ (row g k)[m] ∧ (row g k)[m] < (g.length : Int)
              · have hm0' : 0 < m := Nat.pos_of_ne_zero fun e => hbad ⟨hnd.1, hnd.2, fun h => by omega⟩
                have hprev := Hprev.out hm0'
                have o4 : (row g k)[m] ≤ (row g k)[m - 1] := Int.not_lt.1 fun h => hbad ⟨hnd.1, hnd.2, fun _ => h⟩
                obtain ⟨o1, o2⟩ := hnd
                have i1 : (1 : Int) ≤ (m : Int) := by omega
                have i2 : (m : Int) - 1 < ((row g k).length : Int) := by omega
                have i3 : ((m : Int) - 1).toNat = m - 1 := by omega
                have i4 : IntKind.i64.wrap ((m : Int) - 1) = (m : Int) - 1 := IntWalk.i64_in _ (by omega)
                have i5 : (0 : Int) ≤ (m : Int) - 1 := by omega
                clear Hprev hbad
                generalize (row g k)[m] = x at *
                generalize (row g k)[m - 1] = y at *
                unfold iv at hcellr hprev
                have d1 : decide (x < 0) = false := decide_eq_false (by omega)
                have d2 : decide ((g.length : Int) ≤ x) = false := decide_eq_false (by omega)
                have d3 : decide ((0 : Int) < (m : Int)) = true := decide_eq_true (by omega)
                have d4 : decide (x ≤ y) = true := decide_eq_true (by omega)
                go_wp2
                go_quiet (fail)
                go_wp2
                go_ret
                exact ⟨by rw [Hvb.out]; rfl, below_drew (Below.drewNs w _) _⟩
              · clear Hprev hbad
                generalize (row g k)[m] = x at *
                unfold iv at hcellr
                by_cases hx0 : x < 0
                · have d1 : decide (x < 0) = true := decide_eq_true hx0
                  clear hx0 hnd
                  go_wp2
                  go_quiet (fail)
                  go_wp2
                  go_ret
                  exact ⟨by rw [Hvb.out]; rfl, below_drew (Below.drewNs w _) _⟩
                · have d1 : decide (x < 0) = false := decide_eq_false hx0
                  have p2 : (g.length : Int) ≤ x := Int.not_lt.1 fun h => hnd ⟨by omega, h⟩
                  have d2 : decide ((g.length : Int) ≤ x) = true := decide_eq_true p2
                  clear hx0 hnd p2
                  go_wp2
                  go_quiet (fail)
                  go_wp2
                  go_ret
                  exact ⟨by rw [Hvb.out]; rfl, below_drew (Below.drewNs w _) _⟩
          · obtain rfl : m = (row g k).length := by omega
            have Hnext : Hid (∀ j < k + 1, ∀ m (hm : m < (row g j).length), OkE g.length (row g j) m hm) := fun j hj m' hm' => by
              rcases Nat.lt_succ_iff_lt_or_eq.1 hj with h1 | rfl
              · exact Hok.out j h1 m' hm'
              · exact Hokm.out m' hm' hm'
            go_wp2
            go_roundw
            case rel => exact ⟨k + 1, by omega, by go_num, Hnext.out, q2, rfl⟩
            case measure => simp [intOf]; omega
      · have hvb : vb g = true := vb_true ⟨by omega, fun j m hm => Hok.out j (by have := List.getElem_mem hm; have := row_lt this; omega) m hm⟩
        have Hvb := Lib.hid hvb
        clear hvb
        go_wp2
        go_ret
        exact ⟨by rw [Hvb.out]; rfl, Below.drewNs w _⟩
set_option maxHeartbeats 1000000 in
theorem rnodes_any {α : Type} {f : α → Value} (v vl : Value) (g : List (List α)) (l : List Int) (w : World) (h : Gr f w v g) (hn : Sl iv w vl l) (hnl : l.length ≤ 10000) :
    Calls Try.prog 45 #[v, vl] w (BoolB (nb g.length l) w) := by
  obtain ⟨A, c, rfl⟩ := h.shape
  obtain ⟨A2, c2, rfl⟩ := hn.shape
  have Hn := Lib.hid hn
  clear h hn
  obtain ⟨R, hR⟩ : ∃ R, R = nb g.length l := ⟨_, rfl⟩
  rw [← hR]
  have HR := Lib.hid hR
  clear hR
  go_enter Try.func45, Try.ntmps45
  go_wp2
  go_loopw [5] (fun i wr => ∃ k : Nat, k ≤ l.length ∧ i = .int .i64 k ∧ NodesI g.length (l.take k) ∧ ∃ q, wr = w.drewN q) (fun i _ => l.length - (intOf i).toNat)
  case atStart => exact ⟨0, Nat.zero_le _, rfl, by simp [NodesI], 0, rfl⟩
  case round =>
    obtain ⟨k, hk, rfl, hall, q, rfl⟩ := hrel
    have Hall := Lib.hid hall; clear hall
    by_cases hlt : k < l.length
    · obtain ⟨ad, c', hs, hcap, hcell⟩ := sl_cell Hn.out k hlt
      simp only [Value.slice.injEq, true_and] at hs
      obtain ⟨rfl, rfl⟩ := hs
      have Hok := Lib.hid (fun h => nodes_next hlt Hall.out h)
      have Hbad : Hid (¬ (0 ≤ l[k] ∧ l[k] < (g.length : Int)) → nb g.length l = false) := fun h => nb_false fun hh => h (hh _ (List.getElem_mem hlt))
      generalize l[k] = x at *
      unfold iv at hcell
      by_cases hx0 : x < 0
      · have d1 : decide (x < 0) = true := decide_eq_true hx0
        have Hr2 := Lib.hid (HR.out.trans (Hbad.out fun h => by omega))
        clear Hok Hbad
        go_wp2
        go_ret
        exact ⟨by rw [Hr2.out]; rfl, Below.drewNs w _⟩
      · have d1 : decide (x < 0) = false := decide_eq_false hx0
        by_cases hx : x < (g.length : Int)
        · have d2 : decide ((g.length : Int) ≤ x) = false := decide_eq_false (by omega)
          have Hnx := Lib.hid (Hok.out ⟨by omega, hx⟩)
          clear Hok Hbad
          go_wp2
          go_roundw
          case rel => exact ⟨k + 1, by omega, by go_num, Hnx.out, _, rfl⟩
          case measure => simp [intOf]; omega
        · have d2 : decide ((g.length : Int) ≤ x) = true := decide_eq_true (by omega)
          have Hr2 := Lib.hid (HR.out.trans (Hbad.out fun h => by omega))
          clear Hok Hbad
          go_wp2
          go_ret
          exact ⟨by rw [Hr2.out]; rfl, Below.drewNs w _⟩
    · have Hr2 := Lib.hid (HR.out.trans (nb_true (by have := Hall.out; rwa [List.take_of_length_le (by omega)] at this)))
      go_wp2
      go_ret
      exact ⟨by rw [Hr2.out]; rfl, Below.drewNs w _⟩
end Go.Proofs.Ytnhhhnhakpambaa
