/- The contracts of isNode, Valid and check. -/
import Derived.Test.YtnhhhnhakpambaaRef03
namespace Go.Proofs.Ytnhhhnhakpambaa
open Go.RowKit

theorem isnode_any (n x : Int) (w : World) : Calls Try.prog 37 #[.int .i64 n, .int .i64 x] w fun e w' => e = .returned (.bool (decide (0 ≤ x ∧ x < n))) ∧ w = w' := by
  by_cases h0 : 0 ≤ x
  · have d0 : decide (0 ≤ x) = true := decide_eq_true h0
    have e : decide (0 ≤ x ∧ x < n) = decide (x < n) := by simp [h0]
    rw [e]
    clear e h0
    go_enter Try.func37, Try.ntmps37
    go_wp2
    go_ret
    exact ⟨rfl, rfl⟩
  · have d0 : decide (0 ≤ x) = false := decide_eq_false h0
    have e : decide (0 ≤ x ∧ x < n) = false := decide_eq_false fun h => h0 h.1
    rw [e]
    clear e h0
    go_enter Try.func37, Try.ntmps37
    go_wp2
    go_ret
    exact ⟨rfl, rfl⟩
set_option maxHeartbeats 1000000 in
theorem valid_any (v : Value) (g : List (List Int)) (w : World) (h : Gr iv w v g) (hl : Lim g) :
    Calls Try.prog 18 #[v] w (BoolB (vb g) w) := by
  obtain ⟨A, c, rfl⟩ := h.shape
  have H := Lib.hid h
  have HL := Lib.hid hl.2
  have hl1 := hl.1
  clear h hl
  by_cases h400 : 400 < g.length
  · have e : vb g = false := vb_false fun h => by have := h.1; omega
    rw [e]
    clear e
    go_enter Try.func18, Try.ntmps18
    go_wp2
    go_ret
    exact ⟨rfl, Below.refl _ _⟩
  · go_enter Try.func18, Try.ntmps18
    go_wp2
    go_loopw [12] (fun i wr => ∃ k : Nat, k ≤ g.length ∧ i = .int .i64 k ∧ (∀ j < k, ∀ m (hm : m < (row g j).length), OkE g.length (row g j) m hm) ∧ Below w.heap.size w wr) (fun i _ => g.length - (intOf i).toNat)
    case atStart => exact ⟨0, Nat.zero_le _, rfl, by intro j hj; omega, Below.refl _ _⟩
    case round =>
      obtain ⟨k, hk, rfl, hok, hbel⟩ := hrel
      have Hok := Lib.hid hok
      have Hbel := Lib.hid hbel
      clear hok
      by_cases hlt : k < g.length
      · obtain ⟨ad, c', A', cr, hs, hcap, hcell0, hrow⟩ := gr_cell H.out k hlt
        simp only [Value.slice.injEq, true_and] at hs
        obtain ⟨rfl, rfl⟩ := hs
        have hcell := (hbel.cell (World.block_lt_of_cell? _ _ hcell0)).trans hcell0
        have Hrow := Lib.hid hrow
        have hrl := HL.out k
        clear hbel hrow hcell0
        obtain ⟨wo, rfl⟩ : ∃ wo : World, wo = wr := ⟨_, rfl⟩
        go_wp2
        go_loopw [18] (fun i wr => ∃ m : Nat, m ≤ (row g k).length ∧ i = .int .i64 m ∧ (∀ j < m, ∀ (hm : j < (row g k).length), OkE g.length (row g k) j hm) ∧ Below w.heap.size w wr) (fun i _ => (row g k).length - (intOf i).toNat)
        case atStart => exact ⟨0, Nat.zero_le _, rfl, by intro j hj; omega, Hbel.out⟩
        case round =>
          obtain ⟨m, hm, rfl, hokm, hbel⟩ := hrel
          have Hokm := Lib.hid hokm
          have Hbel2 := Lib.hid hbel
          clear hokm
          by_cases hltm : m < (row g k).length
          · obtain ⟨adr, cr', hsr, hcapr, hcellr⟩ := sl_cell (Hrow.out.below hbel) m hltm
            simp only [Value.slice.injEq, true_and] at hsr
            obtain ⟨rfl, rfl⟩ := hsr
            have hx : (row g k)[m] = (row g k)[m] := rfl
            have Hprev : Hid (∀ h0 : 0 < m, wr.cell? (adr.add (m - 1)) = some (iv (row g k)[m - 1])) := fun h0 => by
              obtain ⟨adr', cr'', hsr, _, h⟩ := sl_cell (Hrow.out.below hbel) (m - 1) (by omega)
              simp only [Value.slice.injEq, true_and, Option.some.injEq] at hsr
              obtain ⟨rfl, _⟩ := hsr
              exact h
            by_cases hbad : OkE g.length (row g k) m hltm
            · obtain ⟨o1, o2, o3⟩ := hbad
              have Hnext : Hid (∀ j < m + 1, ∀ (hm : j < (row g k).length), OkE g.length (row g k) j hm) := fun j hj hm' => by
                rcases Nat.lt_succ_iff_lt_or_eq.1 hj with h1 | rfl
                · exact Hokm.out j h1 hm'
                · exact ⟨o1, o2, o3⟩
              have dn : decide (0 ≤ (row g k)[m] ∧ (row g k)[m] < (g.length : Int)) = true := decide_eq_true ⟨o1, o2⟩
              by_cases hm0 : m = 0
              · have hm0' : m ≤ 0 := by omega
                clear o1 o2 o3 hx hbel Hprev hm0
                generalize (row g k)[m] = x at *
                unfold iv at hcellr
                have Dn := Lib.hid dn
                clear dn
                go_wp2_with fail
                refine (isnode_any _ _ _).mono ?_
                rintro e w5 ⟨rfl, rfl⟩
                rw [Dn.out]
                go_wp2
                go_roundw
                case rel => exact ⟨m + 1, by omega, by go_num, Hnext.out, Hbel2.out⟩
                case measure => simp [intOf]; omega
              · have hprev := Hprev.out (by omega)
                have o4 := o3 (by omega)
                have hm0' : 0 < m := by omega
                have i1 : (1 : Int) ≤ (m : Int) := by omega
                have i2 : (m : Int) - 1 < ((row g k).length : Int) := by omega
                have i3 : ((m : Int) - 1).toNat = m - 1 := by omega
                clear o1 o2 o3 hx hbel Hprev
                generalize (row g k)[m] = x at *
                generalize (row g k)[m - 1] = y at *
                unfold iv at hcellr hprev
                have Dn := Lib.hid dn
                clear dn
                go_wp2_with fail
                refine (isnode_any _ _ _).mono ?_
                rintro e w5 ⟨rfl, rfl⟩
                rw [Dn.out]
                go_wp2
                go_roundw
                case rel => exact ⟨m + 1, by omega, by go_num, Hnext.out, Hbel2.out⟩
                case measure => simp [intOf]; omega
            · have hvb : vb g = false := vb_false fun hv => hbad (hv.2 k m hltm)
              have Hvb := Lib.hid hvb
              clear hvb
              by_cases hnd : 0 ≤ (row g k)[m] ∧ (row g k)[m] < (g.length : Int)
              · have hm0' : 0 < m := Nat.pos_of_ne_zero fun e => hbad ⟨hnd.1, hnd.2, fun h => by omega⟩
                have hprev := Hprev.out hm0'
                have o4 : (row g k)[m] ≤ (row g k)[m - 1] := Int.not_lt.1 fun h => hbad ⟨hnd.1, hnd.2, fun _ => h⟩
                have dn : decide (0 ≤ (row g k)[m] ∧ (row g k)[m] < (g.length : Int)) = true := decide_eq_true hnd
                have i1 : (1 : Int) ≤ (m : Int) := by omega
                have i2 : (m : Int) - 1 < ((row g k).length : Int) := by omega
                have i3 : ((m : Int) - 1).toNat = m - 1 := by omega
                clear hx hbel Hprev hbad hnd
                generalize (row g k)[m] = x at *
                generalize (row g k)[m - 1] = y at *
                unfold iv at hcellr hprev
                have Dn := Lib.hid dn
                clear dn
                go_wp2_with fail
                refine (isnode_any _ _ _).mono ?_
                rintro e w5 ⟨rfl, rfl⟩
                rw [Dn.out]
                go_wp2
                go_ret
                exact ⟨by rw [Hvb.out]; rfl, Hbel2.out⟩
              · have dn : decide (0 ≤ (row g k)[m] ∧ (row g k)[m] < (g.length : Int)) = false := decide_eq_false hnd
                clear hx hbel Hprev hbad hnd
                generalize (row g k)[m] = x at *
                unfold iv at hcellr
                have Dn := Lib.hid dn
                clear dn
                go_wp2_with fail
                refine (isnode_any _ _ _).mono ?_
                rintro e w5 ⟨rfl, rfl⟩
                rw [Dn.out]
                go_wp2
                go_ret
                exact ⟨by rw [Hvb.out]; rfl, Hbel2.out⟩
          · obtain rfl : m = (row g k).length := by omega
            have Hnext : Hid (∀ j < k + 1, ∀ m (hm : m < (row g j).length), OkE g.length (row g j) m hm) := fun j hj m' hm' => by
              rcases Nat.lt_succ_iff_lt_or_eq.1 hj with h1 | rfl
              · exact Hok.out j h1 m' hm'
              · exact Hokm.out m' hm' hm'
            clear hbel
            go_wp2
            go_roundw
            case rel => exact ⟨k + 1, by omega, by go_num, Hnext.out, Hbel2.out⟩
            case measure => simp [intOf]; omega
      · have hvb : vb g = true := vb_true ⟨by omega, fun j m hm => Hok.out j (by have := List.getElem_mem hm; have := row_lt this; omega) m hm⟩
        have Hvb := Lib.hid hvb
        clear hvb hbel
        go_wp2
        go_ret
        exact ⟨by rw [Hvb.out]; rfl, Hbel.out⟩
theorem below_refl (w : World) : Below w.heap.size w w := Below.refl _ w
/-- All numbers are nodes. -/
def NodesI (n : Nat) (l : List Int) : Prop := ∀ x ∈ l, 0 ≤ x ∧ x < n
noncomputable def nb (n : Nat) (l : List Int) : Bool := @decide (NodesI n l) (Classical.propDecidable _)
theorem nb_true {n : Nat} {l : List Int} (h : NodesI n l) : nb n l = true := @decide_eq_true _ (Classical.propDecidable _) h
theorem nb_false {n : Nat} {l : List Int} (h : ¬ NodesI n l) : nb n l = false := @decide_eq_false _ (Classical.propDecidable _) h
theorem nodes_next {n : Nat} {l : List Int} {k : Nat} (hk : k < l.length) (h : NodesI n (l.take k)) (hx : 0 ≤ l[k] ∧ l[k] < n) : NodesI n (l.take (k + 1)) := by
  intro x hx'
  rw [List.take_succ_eq_append_getElem hk, List.mem_append, List.mem_singleton] at hx'
  rcases hx' with h1 | rfl
  · exact h x h1
  · exact hx
/-- The code of what check returns. -/
noncomputable def chk (g : List (List Int)) (l : List Int) : Int := if vb g = false then 1 else if nb g.length l = true then 0 else 2
def IntB (k : IntKind) (n : Int) (w : World) (e : Ending) (w' : World) : Prop := e = .returned (.int k n) ∧ Below w.heap.size w w'
set_option maxHeartbeats 1000000 in
theorem check_any (v vl : Value) (g : List (List Int)) (l : List Int) (w : World) (h : Gr iv w v g) (hl : Lim g) (hn : Sl iv w vl l) (hnl : l.length ≤ 10000) :
    Calls Try.prog 40 #[v, vl] w (IntB .i64 (chk g l) w) := by
  obtain ⟨A, c, rfl⟩ := h.shape
  obtain ⟨A2, c2, rfl⟩ := hn.shape
  have H := Lib.hid h; have HL := Lib.hid hl; have Hn := Lib.hid hn
  have hgl := hl.1
  clear h hl hn
  cases hv : vb g with
  | false =>
    have e : chk g l = 1 := by unfold chk; rw [if_pos hv]
    rw [e]
    have Hv := Lib.hid hv
    clear e hv
    go_enter Try.func40, Try.ntmps40
    go_wp2_with fail
    refine (valid_any _ g _ H.out HL.out).mono ?_
    rintro e w1 ⟨rfl, hb⟩
    rw [Hv.out]
    have Hb := Lib.hid hb
    clear hb
    go_wp2
    go_ret
    exact ⟨rfl, Hb.out⟩
  | true =>
    obtain ⟨R, hR⟩ : ∃ R, R = chk g l := ⟨_, rfl⟩
    rw [← hR]
    have hR2 : R = if nb g.length l = true then 0 else 2 := by rw [hR]; unfold chk; rw [if_neg (by rw [hv]; decide)]
    have Hv := Lib.hid hv
    have HR := Lib.hid hR2
    clear hv hR hR2
    go_enter Try.func40, Try.ntmps40
    go_wp2_with fail
    refine (valid_any _ g _ H.out HL.out).mono ?_
    rintro e w1 ⟨rfl, hb⟩
    rw [Hv.out]
    have Hb := Lib.hid hb
    clear hb
    go_wp2
    go_loop [12] (fun i => ∃ k : Nat, k ≤ l.length ∧ i = .int .i64 k ∧ NodesI g.length (l.take k)) (fun i => l.length - (intOf i).toNat)
    case atStart => exact ⟨0, Nat.zero_le _, rfl, by simp [NodesI]⟩
    case round =>
      obtain ⟨k, hk, rfl, hall⟩ := hrel
      have Hall := Lib.hid hall; clear hall
      by_cases hlt : k < l.length
      · obtain ⟨ad, c', hs, hcap, hcell⟩ := sl_cell (Hn.out.below Hb.out) k hlt
        simp only [Value.slice.injEq, true_and] at hs
        obtain ⟨rfl, rfl⟩ := hs
        have Hok := Lib.hid (fun h => nodes_next hlt Hall.out h)
        have Hbad : Hid (¬ (0 ≤ l[k] ∧ l[k] < (g.length : Int)) → nb g.length l = false) := fun h => nb_false fun hh => h (hh _ (List.getElem_mem hlt))
        generalize l[k] = x at *
        unfold iv at hcell
        by_cases hx : 0 ≤ x ∧ x < (g.length : Int)
        · have hd := Lib.hid (decide_eq_true hx)
          have Hnx := Lib.hid (Hok.out hx)
          clear hx Hok Hbad
          go_wp2_with fail
          refine (isnode_any _ _ _).mono ?_
          rintro e w5 ⟨rfl, rfl⟩
          rw [hd.out]
          go_wp2
          go_round
          case rel => exact ⟨k + 1, by omega, by go_num, Hnx.out⟩
          case measure => simp [intOf]; omega
        · have hd := Lib.hid (decide_eq_false hx)
          have hb2 := Hbad.out hx
          have hR2 := HR.out
          rw [if_neg (by rw [hb2]; decide)] at hR2
          have HR2 := Lib.hid hR2
          clear hx Hok Hbad hb2 hR2
          go_wp2_with fail
          refine (isnode_any _ _ _).mono ?_
          rintro e w5 ⟨rfl, rfl⟩
          rw [hd.out]
          go_wp2
          go_ret
          exact ⟨by rw [HR2.out]; rfl, Hb.out⟩
      · have hR2 := HR.out
        rw [if_pos (nb_true (by have := Hall.out; rwa [List.take_of_length_le (by omega)] at this))] at hR2
        have HR2 := Lib.hid hR2
        clear hR2
        go_wp2
        go_ret
        exact ⟨by rw [HR2.out]; rfl, Hb.out⟩
end Go.Proofs.Ytnhhhnhakpambaa
