/- The contract of the reference's Same on graphs. -/
import Derived.Test.YtnhhhnhakpambaaGraphRef
namespace Go.Proofs.Ytnhhhnhakpambaa
open Go.RowKit

theorem graph_take {α : Type} {a b : List (List α)} {k : Nat} (ha : k < a.length) (hb : k < b.length) (h : a.take k = b.take k) : a.take (k + 1) = b.take (k + 1) ↔ row a k = row b k := by
  rw [List.take_succ_eq_append_getElem ha, List.take_succ_eq_append_getElem hb, h, row_get ha, row_get hb]
  exact ⟨fun h => by simpa using List.append_cancel_left h, fun h => by rw [h]⟩
theorem isame_is {va vb : Value} {a b : List Int} {w : World} {bb : Bool} (hd : decide (a = b) = bb) (ha : Sl iv w va a) (hb : Sl iv w vb b) (la : Room2 a.length) (lb : Room2 b.length) :
    Calls Try.prog 25 #[va, vb] w fun e w' => e = .returned (.bool bb) ∧ ∃ m, w' = w.drewN m := by
  have := isame_any va vb a b w ha hb la lb
  rwa [hd] at this
set_option maxHeartbeats 1000000 in
theorem rgsame_any (va vb : Value) (a b : List (List Int)) (w : World) (ha : Gr iv w va a) (hb : Gr iv w vb b) (la : Lim a) (lb : Lim b) :
    Calls Try.prog 17 #[va, vb] w fun e w' => e = .returned (.bool (decide (a = b))) ∧ ∃ m, w' = w.drewN m := by
  obtain ⟨A, c, rfl⟩ := ha.shape
  obtain ⟨A2, c2, rfl⟩ := hb.shape
  have Ha := Lib.hid ha; have Hb := Lib.hid hb; have La := Lib.hid la.2; have Lb := Lib.hid lb.2
  have hla := la.1
  have hlb := lb.1
  clear ha hb la lb
  by_cases hl : a.length = b.length
  · have Hl := Lib.hid hl
    rw [← hl] at Hb ⊢
    clear hl
    go_enter Try.func17, Try.ntmps17
    go_wp2
    go_loopw [5] (fun i wr => ∃ k : Nat, k ≤ a.length ∧ i = .int .i64 k ∧ Hid (a.take k = b.take k) ∧ ∃ m, wr = w.drewN m) (fun i _ => a.length - (intOf i).toNat)
    case atStart => exact ⟨0, Nat.zero_le _, rfl, Lib.hid rfl, 0, rfl⟩
    case round =>
      obtain ⟨k, hk, rfl, Hall, m, hwm⟩ := hrel
      have Hwm := Lib.hid hwm
      by_cases hlt : k < a.length
      · have hsame : ∀ p : Addr, wr.cell? p = w.cell? p := fun p => by rw [hwm]; rfl
        obtain ⟨ad, c', A', cr, hs, hcap, hcell, hrow⟩ := gr_cell Ha.out k hlt
        simp only [Value.slice.injEq, true_and] at hs
        obtain ⟨rfl, rfl⟩ := hs
        obtain ⟨ad2, c2', A2', cr2, hs, hcap2, hcell2, hrow2⟩ := gr_cell Hb.out k (by have := Hl.out; omega)
        simp only [Value.slice.injEq] at hs
        obtain ⟨rfl, hl2, rfl⟩ := hs
        clear hl2
        have Hab := Lib.hid (graph_take hlt (by have := Hl.out; omega) Hall.out)
        have hne : ¬ row a k = row b k → a ≠ b := fun h e => by subst e; exact h rfl
        have Hne := Lib.hid hne
        have Hra : Hid (Sl iv wr (.slice A' (row a k).length cr) (row a k)) := by show Sl _ _ _ _; rw [hwm]; exact hrow
        have Hrb : Hid (Sl iv wr (.slice A2' (row b k).length cr2) (row b k)) := by show Sl _ _ _ _; rw [hwm]; exact hrow2
        rw [← hsame] at hcell hcell2
        clear hsame hwm
        have hl1 := La.out k
        have hl3 := Lb.out k
        rw [← Hl.out] at hcap2
        clear hne hrow hrow2
        generalize row a k = x at *
        generalize row b k = y at *
        by_cases hxy : x = y
        · have hn := Lib.hid (Hab.out.2 hxy)
          have hd : decide (x = y) = true := decide_eq_true hxy
          have Hd := Lib.hid hd
          clear hxy hd Hne Hab
          go_wp2
          go_quiet ((go_at_call 25; exact Calls.quiet_of (isame_is Hd.out (Hra.out.drewN _) (Hrb.out.drewN _) (by unfold Room2; omega) (by unfold Room2; omega))))
          go_wp2
          go_roundw
          case rel => exact ⟨k + 1, by omega, by go_num, hn, m + nq, by rw [Hwm.out]; simp⟩
          case measure => simp [intOf]; omega
        · have Hde := Lib.hid (decide_eq_false (Hne.out hxy))
          have hd : decide (x = y) = false := decide_eq_false hxy
          have Hd := Lib.hid hd
          clear hxy hd Hne Hab
          go_wp2
          go_quiet ((go_at_call 25; exact Calls.quiet_of (isame_is Hd.out (Hra.out.drewN _) (Hrb.out.drewN _) (by unfold Room2; omega) (by unfold Room2; omega))))
          go_wp2
          go_ret
          exact ⟨by rw [Hde.out]; rfl, m + nq, by rw [Hwm.out]; simp⟩
      · have hd : decide (a = b) = true := by
          rw [decide_eq_true_iff]
          have := Hall.out
          have h2 := Hl.out
          rwa [List.take_of_length_le (by omega), List.take_of_length_le (by omega)] at this
        have Hd := Lib.hid hd
        clear hd hwm
        go_wp2
        go_ret
        exact ⟨by rw [Hd.out]; rfl, m, Hwm.out⟩
  · have hd : decide (a = b) = false := decide_eq_false fun h => hl (congrArg List.length h)
    rw [hd]
    have hne : ((a.length : Int) != (b.length : Int)) = true := by rw [bne_iff_ne]; omega
    clear hd hl
    go_enter Try.func17, Try.ntmps17
    go_wp2
    go_ret
    exact ⟨rfl, 0, rfl⟩
theorem rgsame_b {va vb : Value} {a b : List (List Int)} {w : World} (ha : Gr iv w va a) (hb : Gr iv w vb b) (la : Lim a) (lb : Lim b) :
    Calls Try.prog 17 #[va, vb] w (BoolB (decide (a = b)) w) :=
  (rgsame_any va vb a b w ha hb la lb).mono fun _ _ ⟨h1, m, h2⟩ => ⟨h1, by rw [h2]; exact Below.drewNs w m⟩
theorem cst_inj {a b : List (List Nat)} : cst a = cst b ↔ a = b := by
  constructor
  · intro h
    have := congrArg (List.map (List.map Int.toNat)) h
    simpa [cst, List.map_map, Function.comp_def] using this
  · rintro rfl; rfl
theorem rgsame_n {va vb : Value} {a b : List (List Nat)} {w : World} (ha : Gr nv w va a) (hb : Gr nv w vb b) (la : Lim a) (lb : Lim b) :
    Calls Try.prog 17 #[va, vb] w (BoolB (decide (a = b)) w) := by
  have := rgsame_b ha.cst hb.cst la.cst lb.cst
  simpa only [cst_inj] using this
end Go.Proofs.Ytnhhhnhakpambaa
