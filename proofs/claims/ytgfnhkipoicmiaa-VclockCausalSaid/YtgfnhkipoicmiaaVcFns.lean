/- The small functions of vclock and of its reference (tools/vc_gen.py). -/
import Derived.Test.YtgfnhkipoicmiaaVcM
import Derived.Deep.QuietTactic
import Derived.BigQuiet
namespace Go.Proofs.Ytgfnhkipoicmiaa
open Go.RowKit

theorem info_int : (Try.prog.info? 3).map (fun i => (i.zero, i.size, i.bytes)) = some (some (.int .i64 0), 1, 8) := by kernel_rfl
theorem ret_b {a b : Bool} (h : a = b) : Ending.returned (.bool a) = .returned (.bool b) := by rw [h]
theorem possible_any (n : Int) (w : World) : Calls Try.prog 27 #[.int .i64 n] w fun e w' => e = .returned (.bool (posB n)) ∧ w = w' := by
  obtain ⟨R, hR⟩ : ∃ R, R = posB n := ⟨_, rfl⟩
  rw [← hR]
  have HR := Lib.hid hR; clear hR
  by_cases h1 : 1 ≤ n
  · by_cases h2 : n ≤ 6
    · have hr : R = true := by rw [HR.out]; unfold posB; exact decide_eq_true ⟨h1, h2⟩
      subst hr
      go_enter Try.func27, Try.ntmps27
      go_wp2
      go_ret
      exact ⟨rfl, rfl⟩
    · have hr : R = false := by rw [HR.out]; unfold posB; exact decide_eq_false (fun h => h2 h.2)
      subst hr
      go_enter Try.func27, Try.ntmps27
      go_wp2
      go_ret
      exact ⟨rfl, rfl⟩
  · have hr : R = false := by rw [HR.out]; unfold posB; exact decide_eq_false (fun h => h1 h.1)
    subst hr
    go_enter Try.func27, Try.ntmps27
    go_wp2
    go_ret
    exact ⟨rfl, rfl⟩
theorem take_all_succ {l : List Int} {k : Nat} (hk : k < l.length) {P : Int → Prop} (h : ∀ x ∈ l.take k, P x) (hx : P l[k]) : ∀ x ∈ l.take (k + 1), P x := by
  rw [List.take_succ_eq_append_getElem hk]
  intro x h2
  rcases List.mem_append.1 h2 with h3 | h3
  · exact h x h3
  · rw [List.mem_singleton] at h3; rw [h3]; exact hx
theorem okB_bad {l : List Int} {k : Nat} (hk : k < l.length) (hx : ¬ InC l[k]) : okB l = false := by
  cases h : okB l with
  | false => rfl
  | true => exact absurd ((okB_iff.1 h).2 _ (List.getElem_mem hk)) hx
theorem okB_all {l : List Int} {k : Nat} (hk : ¬ k < l.length) (h : ∀ x ∈ l.take k, InC x) : okB l = posB l.length := by
  rw [List.take_of_length_le (by omega)] at h
  unfold okB
  rw [decide_eq_true h, Bool.and_true]
theorem okB_pos {l : List Int} (h : posB l.length = false) : okB l = false := by unfold okB; rw [h]; rfl

set_option maxHeartbeats 1000000 in
theorem valid_any (v : Value) (l : List Int) (w : World) (h : Sl iv w v l) (hl : l.length ≤ 1000) :
    Calls Try.prog 11 #[v] w fun e w' => e = .returned (.bool (okB l)) ∧ w = w' := by
  obtain ⟨A, c, rfl⟩ := h.shape
  have H := Lib.hid h
  clear h
  obtain ⟨R, hR⟩ : ∃ R, R = okB l := ⟨_, rfl⟩
  rw [← hR]
  have HR := Lib.hid hR; clear hR
  cases hp : posB l.length with
  | false =>
    have hr : R = false := by rw [HR.out]; exact okB_pos hp
    subst hr
    have Hp := Lib.hid hp; clear hp
    go_enter Try.func11, Try.ntmps11
    go_wp2_with fail
    refine (possible_any _ _).mono ?_
    rintro e w1 ⟨rfl, rfl⟩
    rw [Hp.out]
    go_wp2
    go_ret
    exact ⟨rfl, rfl⟩
  | true =>
    have Hp := Lib.hid hp; clear hp
    go_enter Try.func11, Try.ntmps11
    go_wp2_with fail
    refine (possible_any _ _).mono ?_
    rintro e w1 ⟨rfl, rfl⟩
    rw [Hp.out]
    go_wp2_with fail
    go_loop [11] (fun i => ∃ k : Nat, k ≤ l.length ∧ i = .int .i64 k ∧ ∀ x ∈ l.take k, InC x) (fun i => l.length - (intOf i).toNat)
    case atStart => exact ⟨0, Nat.zero_le _, rfl, by intro x hx; simp at hx⟩
    case round =>
      obtain ⟨k, hk, rfl, hall⟩ := hrel
      have Hall := Lib.hid hall; clear hall
      by_cases hlt : k < l.length
      · obtain ⟨ad, c', hs, hcap, hcell⟩ := sl_cell H.out k hlt
        simp only [Value.slice.injEq, true_and] at hs
        obtain ⟨rfl, rfl⟩ := hs
        have Hn := Lib.hid (fun h => take_all_succ hlt Hall.out h)
        have Hb := Lib.hid (fun h => HR.out.trans (okB_bad hlt h))
        generalize l[k] = x at *
        unfold iv at hcell
        by_cases hx : InC x
        · have Hn2 := Lib.hid (Hn.out hx)
          obtain ⟨h0, h1⟩ := hx
          clear Hn Hb
          go_wp2
          go_round
          case rel => exact ⟨k + 1, by omega, by go_num, Hn2.out⟩
          case measure => simp [intOf]; omega
        · have hr := Hb.out hx
          subst hr
          by_cases h0 : x < 0
          · clear hx Hn Hb
            go_wp2
            go_ret
            exact ⟨rfl, rfl⟩
          · have h1 : ¬ x ≤ 1099511627776 := fun h => hx ⟨by omega, h⟩
            clear hx Hn Hb
            go_wp2
            go_ret
            exact ⟨rfl, rfl⟩
      · have Hf := Lib.hid (HR.out.trans (okB_all hlt Hall.out))
        have hr : R = true := Hf.out.trans Hp.out
        subst hr
        clear Hf
        go_wp2
        go_ret
        exact ⟨rfl, rfl⟩
set_option maxHeartbeats 1000000 in
theorem rvalid_any (v : Value) (l : List Int) (w : World) (h : Sl iv w v l) (hl : l.length ≤ 1000) :
    Calls Try.prog 12 #[v] w fun e w' => e = .returned (.bool (okB l)) ∧ w = w' := by
  obtain ⟨A, c, rfl⟩ := h.shape
  have H := Lib.hid h
  clear h
  obtain ⟨R, hR⟩ : ∃ R, R = okB l := ⟨_, rfl⟩
  rw [← hR]
  have HR := Lib.hid hR; clear hR
  go_enter Try.func12, Try.ntmps12
  go_wp2_with fail
  go_loop [3] (fun i => ∃ k : Nat, k ≤ l.length ∧ i = .int .i64 k ∧ ∀ x ∈ l.take k, InC x) (fun i => l.length - (intOf i).toNat)
  case atStart => exact ⟨0, Nat.zero_le _, rfl, by intro x hx; simp at hx⟩
  case round =>
    obtain ⟨k, hk, rfl, hall⟩ := hrel
    have Hall := Lib.hid hall; clear hall
    by_cases hlt : k < l.length
    · obtain ⟨ad, c', hs, hcap, hcell⟩ := sl_cell H.out k hlt
      simp only [Value.slice.injEq, true_and] at hs
      obtain ⟨rfl, rfl⟩ := hs
      have Hn := Lib.hid (fun h => take_all_succ hlt Hall.out h)
      have Hb := Lib.hid (fun h => HR.out.trans (okB_bad hlt h))
      generalize l[k] = x at *
      unfold iv at hcell
      by_cases hx : InC x
      · have Hn2 := Lib.hid (Hn.out hx)
        obtain ⟨h0, h1⟩ := hx
        clear Hn Hb
        go_wp2
        go_round
        case rel => exact ⟨k + 1, by omega, by go_num, Hn2.out⟩
        case measure => simp [intOf]; omega
      · have hr := Hb.out hx
        subst hr
        by_cases h0 : x < 0
        · clear hx Hn Hb
          go_wp2
          go_ret
          exact ⟨rfl, rfl⟩
        · have h1 : ¬ x ≤ 1099511627776 := fun h => hx ⟨by omega, h⟩
          clear hx Hn Hb
          go_wp2
          go_ret
          exact ⟨rfl, rfl⟩
    · have Hf := Lib.hid (HR.out.trans (okB_all hlt Hall.out))
      clear HR
      unfold posB at Hf
      by_cases h1 : 1 ≤ l.length
      · by_cases h2 : l.length ≤ 6
        · have hr : R = true := by rw [Hf.out]; exact decide_eq_true (by omega)
          subst hr
          clear Hf
          go_wp2
          go_ret
          exact ⟨ret_b (decide_eq_true (by omega)), rfl⟩
        · have hr : R = false := by rw [Hf.out]; exact decide_eq_false (by omega)
          subst hr
          clear Hf
          go_wp2
          go_ret
          exact ⟨ret_b (decide_eq_false (by omega)), rfl⟩
      · have hr : R = false := by rw [Hf.out]; exact decide_eq_false (by omega)
        subst hr
        clear Hf
        go_wp2
        go_ret
        exact ⟨rfl, rfl⟩
theorem am_step {a b : List Int} {k : Nat} (h1 : k < a.length) (h2 : k < b.length) (h : ∀ i, i < k → a.getD i 0 ≤ b.getD i 0) (hx : a[k] ≤ b[k]) : ∀ i, i < k + 1 → a.getD i 0 ≤ b.getD i 0 := by
  intro i hi
  by_cases e : i = k
  · subst e
    rw [List.getD_eq_getElem?_getD, List.getD_eq_getElem?_getD, List.getElem?_eq_getElem h1, List.getElem?_eq_getElem h2]
    exact hx
  · exact h i (by omega)
theorem am_bad {a b : List Int} {k : Nat} (h1 : k < a.length) (h2 : k < b.length) (hx : ¬ a[k] ≤ b[k]) : amB a b = false := by
  cases h : amB a b with
  | false => rfl
  | true =>
    have h3 := (amB_iff.1 h).2 k h1
    rw [List.getD_eq_getElem?_getD, List.getD_eq_getElem?_getD, List.getElem?_eq_getElem h1, List.getElem?_eq_getElem h2] at h3
    exact absurd h3 hx
theorem am_len {a b : List Int} (h : ¬ a.length = b.length) : amB a b = false := by unfold amB; exact decide_eq_false (fun h2 => h h2.1)
theorem am_end {a b : List Int} {k : Nat} (hl : a.length = b.length) (hk : ¬ k < a.length) (h : ∀ i, i < k → a.getD i 0 ≤ b.getD i 0) : amB a b = true := amB_iff.2 ⟨hl, fun i hi => h i (by omega)⟩

set_option maxHeartbeats 1000000 in
theorem am_any (va vb : Value) (a b : List Int) (w : World) (ha : Sl iv w va a) (hb : Sl iv w vb b) (la : a.length ≤ 1000) :
    Calls Try.prog 28 #[va, vb] w fun e w' => e = .returned (.bool (amB a b)) ∧ ∃ m, w' = w.drewN m := by
  obtain ⟨A, c, rfl⟩ := ha.shape
  obtain ⟨A2, c2, rfl⟩ := hb.shape
  have Ha := Lib.hid ha; have Hb := Lib.hid hb
  clear ha hb
  obtain ⟨R, hR⟩ : ∃ R, R = amB a b := ⟨_, rfl⟩
  rw [← hR]
  have HR := Lib.hid hR; clear hR
  by_cases hl : a.length = b.length
  · have Hl := Lib.hid hl
    rw [← hl] at Hb ⊢
    clear hl
    go_enter Try.func28, Try.ntmps28
    go_wp2
    go_loopw [13] (fun i wr => ∃ k : Nat, k ≤ a.length ∧ i = .int .i64 k ∧ (∀ i, i < k → a.getD i 0 ≤ b.getD i 0) ∧ ∃ m, wr = w.drewN m) (fun i _ => a.length - (intOf i).toNat)
    case atStart => exact ⟨0, Nat.zero_le _, rfl, (by intro i hi; omega), 0, rfl⟩
    case round =>
      obtain ⟨k, hk, rfl, hall, m, rfl⟩ := hrel
      have Hall := Lib.hid hall; clear hall
      by_cases hlt : k < a.length
      · obtain ⟨ad, c', hs, hcap, hcell⟩ := sl_cell Ha.out k hlt
        simp only [Value.slice.injEq, true_and] at hs
        obtain ⟨rfl, rfl⟩ := hs
        have hltb : k < b.length := by have := Hl.out; omega
        obtain ⟨ad2, c2', hs, hcap2, hcell2⟩ := sl_cell Hb.out k hltb
        simp only [Value.slice.injEq] at hs
        obtain ⟨rfl, hl2, rfl⟩ := hs
        clear hl2
        have Hs := Lib.hid (fun h => am_step hlt hltb Hall.out h)
        have Hx := Lib.hid (fun h => HR.out.trans (am_bad hlt hltb h))
        generalize a[k] = x at *
        generalize b[k]'hltb = y at *
        unfold iv at hcell hcell2
        by_cases hxy : x ≤ y
        · have Hs2 := Lib.hid (Hs.out hxy)
          clear Hs Hx
          go_wp2
          go_quiet (fail)
          go_wp2
          go_roundw
          case rel => exact ⟨k + 1, by omega, by go_num, Hs2.out, _, rfl⟩
          case measure => simp [intOf]; omega
        · have hr := Hx.out hxy
          subst hr
          clear Hs Hx
          go_wp2
          go_quiet (fail)
          go_wp2
          go_ret
          exact ⟨rfl, m + nq, by simp⟩
      · have hr : R = true := HR.out.trans (am_end Hl.out hlt Hall.out)
        subst hr
        go_wp2
        go_ret
        exact ⟨rfl, _, rfl⟩
  · have hr : R = false := HR.out.trans (am_len hl)
    subst hr
    have hne : ((a.length : Int) != (b.length : Int)) = true := by rw [bne_iff_ne]; omega
    clear hl
    go_enter Try.func28, Try.ntmps28
    go_wp2
    go_ret
    exact ⟨rfl, 0, rfl⟩
set_option maxHeartbeats 1000000 in
theorem ram_any (va vb : Value) (a b : List Int) (w : World) (ha : Sl iv w va a) (hb : Sl iv w vb b) (la : a.length ≤ 1000) :
    Calls Try.prog 29 #[va, vb] w fun e w' => e = .returned (.bool (amB a b)) ∧ ∃ m, w' = w.drewN m := by
  obtain ⟨A, c, rfl⟩ := ha.shape
  obtain ⟨A2, c2, rfl⟩ := hb.shape
  have Ha := Lib.hid ha; have Hb := Lib.hid hb
  clear ha hb
  obtain ⟨R, hR⟩ : ∃ R, R = amB a b := ⟨_, rfl⟩
  rw [← hR]
  have HR := Lib.hid hR; clear hR
  by_cases hl : a.length = b.length
  · have Hl := Lib.hid hl
    rw [← hl] at Hb ⊢
    clear hl
    go_enter Try.func29, Try.ntmps29
    go_wp2
    go_loopw [5] (fun i wr => ∃ k : Nat, k ≤ a.length ∧ i = .int .i64 k ∧ (∀ i, i < k → a.getD i 0 ≤ b.getD i 0) ∧ ∃ m, wr = w.drewN m) (fun i _ => a.length - (intOf i).toNat)
    case atStart => exact ⟨0, Nat.zero_le _, rfl, (by intro i hi; omega), 0, rfl⟩
    case round =>
      obtain ⟨k, hk, rfl, hall, m, rfl⟩ := hrel
      have Hall := Lib.hid hall; clear hall
      by_cases hlt : k < a.length
      · obtain ⟨ad, c', hs, hcap, hcell⟩ := sl_cell Ha.out k hlt
        simp only [Value.slice.injEq, true_and] at hs
        obtain ⟨rfl, rfl⟩ := hs
        have hltb : k < b.length := by have := Hl.out; omega
        obtain ⟨ad2, c2', hs, hcap2, hcell2⟩ := sl_cell Hb.out k hltb
        simp only [Value.slice.injEq] at hs
        obtain ⟨rfl, hl2, rfl⟩ := hs
        clear hl2
        have Hs := Lib.hid (fun h => am_step hlt hltb Hall.out h)
        have Hx := Lib.hid (fun h => HR.out.trans (am_bad hlt hltb h))
        generalize a[k] = x at *
        generalize b[k]'hltb = y at *
        unfold iv at hcell hcell2
        by_cases hxy : x ≤ y
        · have Hs2 := Lib.hid (Hs.out hxy)
          clear Hs Hx
          go_wp2
          go_quiet (fail)
          go_wp2
          go_roundw
          case rel => exact ⟨k + 1, by omega, by go_num, Hs2.out, _, rfl⟩
          case measure => simp [intOf]; omega
        · have hr := Hx.out hxy
          subst hr
          clear Hs Hx
          go_wp2
          go_quiet (fail)
          go_wp2
          go_ret
          exact ⟨rfl, m + nq, by simp⟩
      · have hr : R = true := HR.out.trans (am_end Hl.out hlt Hall.out)
        subst hr
        go_wp2
        go_ret
        exact ⟨rfl, _, rfl⟩
  · have hr : R = false := HR.out.trans (am_len hl)
    subst hr
    have hne : ((a.length : Int) != (b.length : Int)) = true := by rw [bne_iff_ne]; omega
    clear hl
    go_enter Try.func29, Try.ntmps29
    go_wp2
    go_ret
    exact ⟨rfl, 0, rfl⟩
set_option maxHeartbeats 1000000 in
theorem before_any (va vb : Value) (a b : List Int) (w : World) (ha : Sl iv w va a) (hb : Sl iv w vb b) (la : a.length ≤ 1000) (lb : b.length ≤ 1000) :
    Calls Try.prog 13 #[va, vb] w fun e w' => e = .returned (.bool (bfB a b)) ∧ ∃ m, w' = w.drewN m := by
  have Ha := Lib.hid ha; have Hb := Lib.hid hb
  obtain ⟨A, c, rfl⟩ := ha.shape
  obtain ⟨A2, c2, rfl⟩ := hb.shape
  clear ha hb
  obtain ⟨R, hR⟩ : ∃ R, R = bfB a b := ⟨_, rfl⟩
  rw [← hR]
  have HR := Lib.hid hR; clear hR
  obtain ⟨p, hp⟩ : ∃ p, p = amB a b := ⟨_, rfl⟩
  obtain ⟨q, hq⟩ : ∃ q, q = amB b a := ⟨_, rfl⟩
  have C1 := Lib.hid (fun (w : World) (h1 : Sl iv w (.slice A a.length c) a) (h2 : Sl iv w (.slice A2 b.length c2) b) => am_any _ _ a b w h1 h2 la)
  have C2 := Lib.hid (fun (w : World) (h1 : Sl iv w (.slice A a.length c) a) (h2 : Sl iv w (.slice A2 b.length c2) b) => am_any _ _ b a w h2 h1 lb)
  unfold bfB at HR
  rw [← hp] at C1 HR
  rw [← hq] at C2 HR
  clear hp hq
  cases p with
  | false =>
    go_enter Try.func13, Try.ntmps13
    go_wp2_with fail
    refine (C1.out _ Ha.out Hb.out).mono ?_
    rintro e w1 ⟨rfl, m, rfl⟩
    go_wp2
    go_ret
    exact ⟨ret_b HR.out.symm, m, rfl⟩
  | true =>
    go_enter Try.func13, Try.ntmps13
    go_wp2_with fail
    refine (C1.out _ Ha.out Hb.out).mono ?_
    rintro e w1 ⟨rfl, m, rfl⟩
    go_wp2_with fail
    refine (C2.out _ (Ha.out.drewN _) (Hb.out.drewN _)).mono ?_
    rintro e w1 ⟨rfl, m2, rfl⟩
    go_wp2
    go_ret
    exact ⟨ret_b HR.out.symm, m + m2, by simp⟩
set_option maxHeartbeats 1000000 in
theorem conc_any (va vb : Value) (a b : List Int) (w : World) (ha : Sl iv w va a) (hb : Sl iv w vb b) (la : a.length ≤ 1000) (lb : b.length ≤ 1000) :
    Calls Try.prog 15 #[va, vb] w fun e w' => e = .returned (.bool (ccB a b)) ∧ ∃ m, w' = w.drewN m := by
  have Ha := Lib.hid ha; have Hb := Lib.hid hb
  obtain ⟨A, c, rfl⟩ := ha.shape
  obtain ⟨A2, c2, rfl⟩ := hb.shape
  clear ha hb
  obtain ⟨R, hR⟩ : ∃ R, R = ccB a b := ⟨_, rfl⟩
  rw [← hR]
  have HR := Lib.hid hR; clear hR
  obtain ⟨p, hp⟩ : ∃ p, p = amB a b := ⟨_, rfl⟩
  obtain ⟨q, hq⟩ : ∃ q, q = amB b a := ⟨_, rfl⟩
  have C1 := Lib.hid (fun (w : World) (h1 : Sl iv w (.slice A a.length c) a) (h2 : Sl iv w (.slice A2 b.length c2) b) => am_any _ _ a b w h1 h2 la)
  have C2 := Lib.hid (fun (w : World) (h1 : Sl iv w (.slice A a.length c) a) (h2 : Sl iv w (.slice A2 b.length c2) b) => am_any _ _ b a w h2 h1 lb)
  unfold ccB at HR
  rw [← hp] at C1 HR
  rw [← hq] at C2 HR
  clear hp hq
  by_cases hl : a.length = b.length
  · have he : ((a.length : Int) == (b.length : Int)) = true := by rw [beq_iff_eq]; omega
    rw [decide_eq_true hl] at HR
    clear hl
    cases p with
    | true =>
      go_enter Try.func15, Try.ntmps15
      go_wp2_with fail
      refine (C1.out _ Ha.out Hb.out).mono ?_
      rintro e w1 ⟨rfl, m, rfl⟩
      go_wp2
      go_ret
      exact ⟨ret_b HR.out.symm, m, rfl⟩
    | false =>
      go_enter Try.func15, Try.ntmps15
      go_wp2_with fail
      refine (C1.out _ Ha.out Hb.out).mono ?_
      rintro e w1 ⟨rfl, m, rfl⟩
      go_wp2_with fail
      refine (C2.out _ (Ha.out.drewN _) (Hb.out.drewN _)).mono ?_
      rintro e w1 ⟨rfl, m2, rfl⟩
      go_wp2
      go_ret
      exact ⟨ret_b HR.out.symm, m + m2, by simp⟩
  · have he : ((a.length : Int) == (b.length : Int)) = false := by rw [beq_eq_false_iff_ne]; omega
    rw [decide_eq_false hl] at HR
    clear hl
    go_enter Try.func15, Try.ntmps15
    go_wp2
    go_ret
    exact ⟨ret_b HR.out.symm, 0, rfl⟩
set_option maxHeartbeats 1000000 in
theorem equal_any (va vb : Value) (a b : List Int) (w : World) (ha : Sl iv w va a) (hb : Sl iv w vb b) (la : a.length ≤ 1000) (lb : b.length ≤ 1000) :
    Calls Try.prog 17 #[va, vb] w fun e w' => e = .returned (.bool (eqB a b)) ∧ ∃ m, w' = w.drewN m := by
  have Ha := Lib.hid ha; have Hb := Lib.hid hb
  obtain ⟨A, c, rfl⟩ := ha.shape
  obtain ⟨A2, c2, rfl⟩ := hb.shape
  clear ha hb
  obtain ⟨R, hR⟩ : ∃ R, R = eqB a b := ⟨_, rfl⟩
  rw [← hR]
  have HR := Lib.hid hR; clear hR
  obtain ⟨p, hp⟩ : ∃ p, p = amB a b := ⟨_, rfl⟩
  obtain ⟨q, hq⟩ : ∃ q, q = amB b a := ⟨_, rfl⟩
  have C1 := Lib.hid (fun (w : World) (h1 : Sl iv w (.slice A a.length c) a) (h2 : Sl iv w (.slice A2 b.length c2) b) => am_any _ _ a b w h1 h2 la)
  have C2 := Lib.hid (fun (w : World) (h1 : Sl iv w (.slice A a.length c) a) (h2 : Sl iv w (.slice A2 b.length c2) b) => am_any _ _ b a w h2 h1 lb)
  unfold eqB at HR
  rw [← hp] at C1 HR
  rw [← hq] at C2 HR
  clear hp hq
  cases p with
  | false =>
    go_enter Try.func17, Try.ntmps17
    go_wp2_with fail
    refine (C1.out _ Ha.out Hb.out).mono ?_
    rintro e w1 ⟨rfl, m, rfl⟩
    go_wp2
    go_ret
    exact ⟨ret_b HR.out.symm, m, rfl⟩
  | true =>
    go_enter Try.func17, Try.ntmps17
    go_wp2_with fail
    refine (C1.out _ Ha.out Hb.out).mono ?_
    rintro e w1 ⟨rfl, m, rfl⟩
    go_wp2_with fail
    refine (C2.out _ (Ha.out.drewN _) (Hb.out.drewN _)).mono ?_
    rintro e w1 ⟨rfl, m2, rfl⟩
    go_wp2
    go_ret
    exact ⟨ret_b HR.out.symm, m + m2, by simp⟩
set_option maxHeartbeats 1000000 in
theorem rbefore_any (va vb : Value) (a b : List Int) (w : World) (ha : Sl iv w va a) (hb : Sl iv w vb b) (la : a.length ≤ 1000) (lb : b.length ≤ 1000) :
    Calls Try.prog 14 #[va, vb] w fun e w' => e = .returned (.bool (bfB a b)) ∧ ∃ m, w' = w.drewN m := by
  have Ha := Lib.hid ha; have Hb := Lib.hid hb
  obtain ⟨A, c, rfl⟩ := ha.shape
  obtain ⟨A2, c2, rfl⟩ := hb.shape
  clear ha hb
  obtain ⟨R, hR⟩ : ∃ R, R = bfB a b := ⟨_, rfl⟩
  rw [← hR]
  have HR := Lib.hid hR; clear hR
  obtain ⟨p, hp⟩ : ∃ p, p = amB a b := ⟨_, rfl⟩
  obtain ⟨q, hq⟩ : ∃ q, q = amB b a := ⟨_, rfl⟩
  have C1 := Lib.hid (fun (w : World) (h1 : Sl iv w (.slice A a.length c) a) (h2 : Sl iv w (.slice A2 b.length c2) b) => ram_any _ _ a b w h1 h2 la)
  have C2 := Lib.hid (fun (w : World) (h1 : Sl iv w (.slice A a.length c) a) (h2 : Sl iv w (.slice A2 b.length c2) b) => ram_any _ _ b a w h2 h1 lb)
  unfold bfB at HR
  rw [← hp] at C1 HR
  rw [← hq] at C2 HR
  clear hp hq
  cases p with
  | false =>
    go_enter Try.func14, Try.ntmps14
    go_wp2_with fail
    refine (C1.out _ Ha.out Hb.out).mono ?_
    rintro e w1 ⟨rfl, m, rfl⟩
    go_wp2
    go_ret
    exact ⟨ret_b HR.out.symm, m, rfl⟩
  | true =>
    go_enter Try.func14, Try.ntmps14
    go_wp2_with fail
    refine (C1.out _ Ha.out Hb.out).mono ?_
    rintro e w1 ⟨rfl, m, rfl⟩
    go_wp2_with fail
    refine (C2.out _ (Ha.out.drewN _) (Hb.out.drewN _)).mono ?_
    rintro e w1 ⟨rfl, m2, rfl⟩
    go_wp2
    go_ret
    exact ⟨ret_b HR.out.symm, m + m2, by simp⟩
set_option maxHeartbeats 1000000 in
theorem rconc_any (va vb : Value) (a b : List Int) (w : World) (ha : Sl iv w va a) (hb : Sl iv w vb b) (la : a.length ≤ 1000) (lb : b.length ≤ 1000) :
    Calls Try.prog 16 #[va, vb] w fun e w' => e = .returned (.bool (ccB a b)) ∧ ∃ m, w' = w.drewN m := by
  have Ha := Lib.hid ha; have Hb := Lib.hid hb
  obtain ⟨A, c, rfl⟩ := ha.shape
  obtain ⟨A2, c2, rfl⟩ := hb.shape
  clear ha hb
  obtain ⟨R, hR⟩ : ∃ R, R = ccB a b := ⟨_, rfl⟩
  rw [← hR]
  have HR := Lib.hid hR; clear hR
  obtain ⟨p, hp⟩ : ∃ p, p = amB a b := ⟨_, rfl⟩
  obtain ⟨q, hq⟩ : ∃ q, q = amB b a := ⟨_, rfl⟩
  have C1 := Lib.hid (fun (w : World) (h1 : Sl iv w (.slice A a.length c) a) (h2 : Sl iv w (.slice A2 b.length c2) b) => ram_any _ _ a b w h1 h2 la)
  have C2 := Lib.hid (fun (w : World) (h1 : Sl iv w (.slice A a.length c) a) (h2 : Sl iv w (.slice A2 b.length c2) b) => ram_any _ _ b a w h2 h1 lb)
  unfold ccB at HR
  rw [← hp] at C1 HR
  rw [← hq] at C2 HR
  clear hp hq
  by_cases hl : a.length = b.length
  · have he : ((a.length : Int) == (b.length : Int)) = true := by rw [beq_iff_eq]; omega
    rw [decide_eq_true hl] at HR
    clear hl
    cases p with
    | true =>
      go_enter Try.func16, Try.ntmps16
      go_wp2_with fail
      refine (C1.out _ Ha.out Hb.out).mono ?_
      rintro e w1 ⟨rfl, m, rfl⟩
      go_wp2
      go_ret
      exact ⟨ret_b HR.out.symm, m, rfl⟩
    | false =>
      go_enter Try.func16, Try.ntmps16
      go_wp2_with fail
      refine (C1.out _ Ha.out Hb.out).mono ?_
      rintro e w1 ⟨rfl, m, rfl⟩
      go_wp2_with fail
      refine (C2.out _ (Ha.out.drewN _) (Hb.out.drewN _)).mono ?_
      rintro e w1 ⟨rfl, m2, rfl⟩
      go_wp2
      go_ret
      exact ⟨ret_b HR.out.symm, m + m2, by simp⟩
  · have he : ((a.length : Int) == (b.length : Int)) = false := by rw [beq_eq_false_iff_ne]; omega
    rw [decide_eq_false hl] at HR
    clear hl
    go_enter Try.func16, Try.ntmps16
    go_wp2
    go_ret
    exact ⟨ret_b HR.out.symm, 0, rfl⟩
set_option maxHeartbeats 1000000 in
theorem requal_any (va vb : Value) (a b : List Int) (w : World) (ha : Sl iv w va a) (hb : Sl iv w vb b) (la : a.length ≤ 1000) (lb : b.length ≤ 1000) :
    Calls Try.prog 18 #[va, vb] w fun e w' => e = .returned (.bool (eqB a b)) ∧ ∃ m, w' = w.drewN m := by
  have Ha := Lib.hid ha; have Hb := Lib.hid hb
  obtain ⟨A, c, rfl⟩ := ha.shape
  obtain ⟨A2, c2, rfl⟩ := hb.shape
  clear ha hb
  obtain ⟨R, hR⟩ : ∃ R, R = eqB a b := ⟨_, rfl⟩
  rw [← hR]
  have HR := Lib.hid hR; clear hR
  obtain ⟨p, hp⟩ : ∃ p, p = amB a b := ⟨_, rfl⟩
  obtain ⟨q, hq⟩ : ∃ q, q = amB b a := ⟨_, rfl⟩
  have C1 := Lib.hid (fun (w : World) (h1 : Sl iv w (.slice A a.length c) a) (h2 : Sl iv w (.slice A2 b.length c2) b) => ram_any _ _ a b w h1 h2 la)
  have C2 := Lib.hid (fun (w : World) (h1 : Sl iv w (.slice A a.length c) a) (h2 : Sl iv w (.slice A2 b.length c2) b) => ram_any _ _ b a w h2 h1 lb)
  unfold eqB at HR
  rw [← hp] at C1 HR
  rw [← hq] at C2 HR
  clear hp hq
  cases p with
  | false =>
    go_enter Try.func18, Try.ntmps18
    go_wp2_with fail
    refine (C1.out _ Ha.out Hb.out).mono ?_
    rintro e w1 ⟨rfl, m, rfl⟩
    go_wp2
    go_ret
    exact ⟨ret_b HR.out.symm, m, rfl⟩
  | true =>
    go_enter Try.func18, Try.ntmps18
    go_wp2_with fail
    refine (C1.out _ Ha.out Hb.out).mono ?_
    rintro e w1 ⟨rfl, m, rfl⟩
    go_wp2_with fail
    refine (C2.out _ (Ha.out.drewN _) (Hb.out.drewN _)).mono ?_
    rintro e w1 ⟨rfl, m2, rfl⟩
    go_wp2
    go_ret
    exact ⟨ret_b HR.out.symm, m + m2, by simp⟩
end Go.Proofs.Ytgfnhkipoicmiaa
