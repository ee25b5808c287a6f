/- SumSeal: for every input the law returns true. -/
import Derived.Test.YtkjconhhandhlabSumAwake
import Derived.Test.YtkjconhhandhlabSumROpen
import Derived.Test.YtkjconhhandhlabOpen
import Derived.Test.YtkjconhhandhlabRegion
namespace Go.Proofs.Ytkjconhhandhlab
open Go.RowKit

set_option maxHeartbeats 4000000 in
theorem sumseal_case (A : Option Addr) (c : Nat) (xs ys : List Nat) (w : World) (hx : Bsl w (.slice A xs.length c) xs) (hby : Byt xs) (hl : xs.length ≤ 600) (hyb : Byt ys) (hyl : ys.length ≤ 600) (code : Int) (hcase : code ≠ 0 ∨ (code = 0 ∧ sealed ys = xs))
    (hop : ∀ w', Bsl w' (.slice A xs.length c) xs → Calls Try.prog 15 #[.slice A xs.length c] w' (OpenPost w' code ys))
    (hrop : ∀ w', Bsl w' (.slice A xs.length c) xs → Calls Try.prog 16 #[.slice A xs.length c] w' (OpenPost w' code ys)) :
    Calls Try.prog 4 #[.slice A xs.length c] w (Ok w) := by
  have Hby := Lib.hid hby; clear hby
  have Hyb := Lib.hid hyb; clear hyb
  have Hx := Lib.hid hx; clear hx
  have Hop := Lib.hid hop; clear hop
  have Hrop := Lib.hid hrop; clear hrop
  have Hcase := Lib.hid hcase; clear hcase
  go_enter Try.func4, Try.ntmps4
  go_wp2_with fail
  refine (awake_any _).mono ?_
  rintro e w1 ⟨rfl, hb1⟩
  have Hb1 := Lib.hid hb1; clear hb1
  go_wp2_with fail
  refine (Hop.out _ (Hx.out.below Hb1.out)).mono ?_
  rintro e w2 ⟨v2, rfl, hown2, hb2⟩
  have Hb2 := Lib.hid hb2
  have hv2 := Bsl.of_own hown2
  obtain ⟨A2, c2, rfl⟩ := hv2.shape
  have Hv2 := Lib.hid hv2; clear hb2 hown2 hv2
  go_wp2_with fail
  refine (Hrop.out _ ((Hx.out.below Hb1.out).below Hb2.out)).mono ?_
  rintro e w3 ⟨v3, rfl, hown3, hb3⟩
  have Hb3 := Lib.hid (below_ext Hb1.out (below_ext Hb2.out hb3))
  have Harg := Lib.hid (show ∀ w', Below w3.heap.size w3 w' → Bsl w' (.slice A xs.length c) xs from fun w' h => (Hx.out.below Hb3.out).below h)
  have H2b := Lib.hid (Hv2.out.below hb3)
  have H2 := Lib.hid (show ∀ w', Below w3.heap.size w3 w' → (convert 23 9 (.slice A2 ys.length c2)).run Try.prog w' = .ok (.string (strOf ys)) w' from fun w' h => conv_str _ _ _ (H2b.out.below h))
  have H3 := Lib.hid (show ∀ w', Below w3.heap.size w3 w' → (convert 23 9 v3).run Try.prog w' = .ok (.string (strOf ys)) w' from fun w' h => conv_str _ _ _ ((Bsl.of_own hown3).below h))
  clear hb3 hown3
  go_wp2_with fail
  refine region_phi (n := 70) (fun i v w' => match i with
        | 0 => v = .slice A xs.length c
        | 1 => Bsl w' v (sealed xs)
        | 2 => v = .string (strOf (sealed xs))
        | 3 => v = .slice A xs.length c
        | 4 => Bsl w' v (sealed xs)
        | 5 => v = .string (strOf (sealed xs))
        | 6 => v = .bool false
        | 7 => v = .bool false
        | 8 => v = .slice A2 ys.length c2
        | 9 => v = .string (strOf ys)
        | 10 => v = v3
        | 11 => v = .string (strOf ys)
        | 12 => v = .bool false
        | 13 => v = .bool false
        | 14 => v = .bool false
        | 15 => v = .int .i64 code
        | 16 => v = .int .i64 code
        | 17 => v = .bool false
        | 18 => v = .bool false
        | _ => True) (by kernel_rfl) (by kernel_rfl) rfl ?_ (allOps_spec ?_) ?_
  · intro i v w w' h hb
    match i, h with
    | 0, h => exact h
    | 1, h => exact h.below hb
    | 2, h => exact h
    | 3, h => exact h
    | 4, h => exact h.below hb
    | 5, h => exact h
    | 6, h => exact h
    | 7, h => exact h
    | 8, h => exact h
    | 9, h => exact h
    | 10, h => exact h
    | 11, h => exact h
    | 12, h => exact h
    | 13, h => exact h
    | 14, h => exact h
    | 15, h => exact h
    | 16, h => exact h
    | 17, h => exact h
    | 18, h => exact h
    | _ + 19, _ => trivial
  · refine ⟨?_, ?_, ?_, ?_, ?_, ?_, ?_, ?_, ?_, ?_, ?_, ?_, ?_, ?_, ?_, ?_, ?_, ?_, ?_, trivial⟩
    · intro a w' hb hp
      have b0 : a.tmps[0]?.getD undef = .slice A xs.length c := hb.at 0 (by kernel_rfl)
      exact step_run (v := .slice A xs.length c) rfl (by simp [execOp, Act.eval, b0]) rfl
    · intro a w' hb hp
      have h24 : a.tmps[24]?.getD undef = .slice A xs.length c := slot_eq.symm.trans (hp ⟨0, .data⟩ (by simp) rfl _ rfl)
      refine step_call (f := 17) (args := #[.slice A xs.length c]) rfl (by simp [go_sem, h24]) ?_
      refine (seal_any A c xs _ (Harg.out _ hb.ext) Hby.out (by omega)).mono ?_
      rintro e w4 ⟨v, rfl, hown, hb4⟩
      exact ⟨v, rfl, hb4, Bsl.of_own hown⟩
    · intro a w' hb hp
      have hB : Bsl w' (slotOf a (some 25)) (sealed xs) := hp ⟨1, .data⟩ (by simp) rfl _ rfl
      rw [slot_eq] at hB
      exact step_run (v := .string (strOf (sealed xs))) rfl (by simp [execOp, go_sem, conv_str _ _ _ hB]) rfl
    · intro a w' hb hp
      have b0 : a.tmps[0]?.getD undef = .slice A xs.length c := hb.at 0 (by kernel_rfl)
      exact step_run (v := .slice A xs.length c) rfl (by simp [execOp, Act.eval, b0]) rfl
    · intro a w' hb hp
      have h27 : a.tmps[27]?.getD undef = .slice A xs.length c := slot_eq.symm.trans (hp ⟨3, .data⟩ (by simp) rfl _ rfl)
      refine step_call (f := 18) (args := #[.slice A xs.length c]) rfl (by simp [go_sem, h27]) ?_
      refine (rseal_any A c xs _ (Harg.out _ hb.ext) Hby.out (by omega)).mono ?_
      rintro e w4 ⟨v, rfl, hown, hb4⟩
      exact ⟨v, rfl, hb4, Bsl.of_own hown⟩
    · intro a w' hb hp
      have hB : Bsl w' (slotOf a (some 28)) (sealed xs) := hp ⟨4, .data⟩ (by simp) rfl _ rfl
      rw [slot_eq] at hB
      exact step_run (v := .string (strOf (sealed xs))) rfl (by simp [execOp, go_sem, conv_str _ _ _ hB]) rfl
    · intro a w' hb hp
      have h26 : a.tmps[26]?.getD undef = .string (strOf (sealed xs)) := slot_eq.symm.trans (hp ⟨2, .data⟩ (by simp) rfl _ rfl)
      have h29 : a.tmps[29]?.getD undef = .string (strOf (sealed xs)) := slot_eq.symm.trans (hp ⟨5, .data⟩ (by simp) rfl _ rfl)
      exact step_run (v := .bool false) rfl (by simp [execOp, go_sem, h26, h29]) rfl
    · intro a w' hb hp
      have h30 : a.tmps[30]?.getD undef = .bool false := slot_eq.symm.trans (hp ⟨6, .data⟩ (by simp) rfl _ rfl)
      exact step_run (v := .bool false) rfl (by simp [execOp, Act.eval, h30]) rfl
    · intro a w' hb hp
      have b3 : a.tmps[3]?.getD undef = .slice A2 ys.length c2 := hb.at 3 (by kernel_rfl)
      have g31 : a.tmps[31]?.getD undef = .bool false := slot_eq.symm.trans (hp ⟨7, .guard⟩ (by simp) rfl _ rfl)
      exact step_run (v := .slice A2 ys.length c2) (by simp [Region.wanted, yielded, bool_at g31]) (by simp [execOp, Act.eval, b3]) rfl
    · intro a w' hb hp
      have h32 : a.tmps[32]?.getD undef = .slice A2 ys.length c2 := slot_eq.symm.trans (hp ⟨8, .data⟩ (by simp) rfl _ rfl)
      have g31 : a.tmps[31]?.getD undef = .bool false := slot_eq.symm.trans (hp ⟨7, .guard⟩ (by simp) rfl _ rfl)
      exact step_run (v := .string (strOf ys)) (by simp [Region.wanted, yielded, bool_at g31]) (by simp [execOp, go_sem, h32, H2.out _ hb.ext]) rfl
    · intro a w' hb hp
      have b5 : a.tmps[5]?.getD undef = v3 := hb.at 5 (by kernel_rfl)
      have g31 : a.tmps[31]?.getD undef = .bool false := slot_eq.symm.trans (hp ⟨7, .guard⟩ (by simp) rfl _ rfl)
      exact step_run (v := v3) (by simp [Region.wanted, yielded, bool_at g31]) (by simp [execOp, Act.eval, b5]) rfl
    · intro a w' hb hp
      have h34 : a.tmps[34]?.getD undef = v3 := slot_eq.symm.trans (hp ⟨10, .data⟩ (by simp) rfl _ rfl)
      have g31 : a.tmps[31]?.getD undef = .bool false := slot_eq.symm.trans (hp ⟨7, .guard⟩ (by simp) rfl _ rfl)
      exact step_run (v := .string (strOf ys)) (by simp [Region.wanted, yielded, bool_at g31]) (by simp [execOp, go_sem, h34, H3.out _ hb.ext]) rfl
    · intro a w' hb hp
      have h33 : a.tmps[33]?.getD undef = .string (strOf ys) := slot_eq.symm.trans (hp ⟨9, .data⟩ (by simp) rfl _ rfl)
      have h35 : a.tmps[35]?.getD undef = .string (strOf ys) := slot_eq.symm.trans (hp ⟨11, .data⟩ (by simp) rfl _ rfl)
      have g31 : a.tmps[31]?.getD undef = .bool false := slot_eq.symm.trans (hp ⟨7, .guard⟩ (by simp) rfl _ rfl)
      exact step_run (v := .bool false) (by simp [Region.wanted, yielded, bool_at g31]) (by simp [execOp, go_sem, h33, h35]) rfl
    · intro a w' hb hp
      have h31 : a.tmps[31]?.getD undef = .bool false := slot_eq.symm.trans (hp ⟨7, .data⟩ (by simp) rfl _ rfl)
      have h36 : a.tmps[36]?.getD undef = .bool false := slot_eq.symm.trans (hp ⟨12, .data⟩ (by simp) rfl _ rfl)
      exact step_run (v := .bool false) rfl (by simp [execOp, go_sem, h31, h36]) rfl
    · intro a w' hb hp
      have h37 : a.tmps[37]?.getD undef = .bool false := slot_eq.symm.trans (hp ⟨13, .data⟩ (by simp) rfl _ rfl)
      exact step_run (v := .bool false) rfl (by simp [execOp, Act.eval, h37]) rfl
    · intro a w' hb hp
      have b4 : a.tmps[4]?.getD undef = .int .i64 code := hb.at 4 (by kernel_rfl)
      have g38 : a.tmps[38]?.getD undef = .bool false := slot_eq.symm.trans (hp ⟨14, .guard⟩ (by simp) rfl _ rfl)
      exact step_run (v := .int .i64 code) (by simp [Region.wanted, yielded, bool_at g38]) (by simp [execOp, Act.eval, b4]) rfl
    · intro a w' hb hp
      have b6 : a.tmps[6]?.getD undef = .int .i64 code := hb.at 6 (by kernel_rfl)
      have g38 : a.tmps[38]?.getD undef = .bool false := slot_eq.symm.trans (hp ⟨14, .guard⟩ (by simp) rfl _ rfl)
      exact step_run (v := .int .i64 code) (by simp [Region.wanted, yielded, bool_at g38]) (by simp [execOp, Act.eval, b6]) rfl
    · intro a w' hb hp
      have h39 : a.tmps[39]?.getD undef = .int .i64 code := slot_eq.symm.trans (hp ⟨15, .data⟩ (by simp) rfl _ rfl)
      have h40 : a.tmps[40]?.getD undef = .int .i64 code := slot_eq.symm.trans (hp ⟨16, .data⟩ (by simp) rfl _ rfl)
      have g38 : a.tmps[38]?.getD undef = .bool false := slot_eq.symm.trans (hp ⟨14, .guard⟩ (by simp) rfl _ rfl)
      exact step_run (v := .bool false) (by simp [Region.wanted, yielded, bool_at g38]) (by simp [execOp, go_sem, h39, h40]) rfl
    · intro a w' hb hp
      have h38 : a.tmps[38]?.getD undef = .bool false := slot_eq.symm.trans (hp ⟨14, .data⟩ (by simp) rfl _ rfl)
      have h41 : a.tmps[41]?.getD undef = .bool false := slot_eq.symm.trans (hp ⟨17, .data⟩ (by simp) rfl _ rfl)
      exact step_run (v := .bool false) rfl (by simp [execOp, go_sem, h38, h41]) rfl
  · intro vs w4 hb4 hv
    have h18 : vs 18 = .bool false := hv 18 (by decide)
    simp only [putAll, Act.put, List.setIfInBounds_toArray, List.set_cons_zero, List.set_cons_succ, Nat.zero_add, Nat.reduceAdd, h18]
    clear hv h18
    have Hb4 := Lib.hid (below_ext Hb3.out hb4)
    have Hy4 := Lib.hid (H2b.out.below hb4)
    have Harg4 := Lib.hid (Harg.out _ hb4)
    clear hb4
    go_wp2_with fail
    refine (seal_any A c xs _ Harg4.out Hby.out (by omega)).mono ?_
    rintro e w5 ⟨v5, rfl, hown5, hb5⟩
    obtain ⟨g5, cap5, rfl, hg5, hg6, hcap5⟩ := own_shape hown5 (by rw [sealed_len]; omega)
    rw [sealed_len] at hown5 hcap5 ⊢
    have Hb5 := Lib.hid hb5
    have Hown5 := Lib.hid hown5
    clear hb5 hown5
    go_wp2_with fail
    refine (open_long ⟨g5, 0, none⟩ cap5 xs.length xs (bts 8 (fnv fbase xs)) rfl (bts_len _ _) _ (Bsl.of_own Hown5.out) Hby.out (bts_byt _ _) (by omega) true (by simp)).mono ?_
    rintro e w7 ⟨v7, rfl, hown7, hb7⟩
    simp only [if_true] at hown7 ⊢
    have Hb47 := Lib.hid (below_ext Hb5.out hb7)
    have Hb7 := Lib.hid (below_ext Hb4.out Hb47.out)
    have H7 := Lib.hid (show ∀ w', Below w7.heap.size w7 w' → (convert 23 9 v7).run Try.prog w' = .ok (.string (strOf xs)) w' from fun w' h => conv_str _ _ _ ((Bsl.of_own hown7).below h))
    have H0 := Lib.hid (show ∀ w', Below w7.heap.size w7 w' → (convert 23 9 (.slice A xs.length c)).run Try.prog w' = .ok (.string (strOf xs)) w' from fun w' h => conv_str _ _ _ ((Harg4.out.below Hb47.out).below h))
    have Hy7 := Lib.hid (show ∀ w', Below w7.heap.size w7 w' → Bsl w' (.slice A2 ys.length c2) ys from fun w' h => (Hy4.out.below Hb47.out).below h)
    clear hb7 hown7
    go_wp2_with fail
    rcases Hcase.out with hc | ⟨hc, hs⟩
    · have Hcode := Lib.hid (show (code != 0) = true by simpa using hc)
      clear hc
      refine region_phi (n := 70) (fun i v w' => match i with
            | 0 => v = .int .i64 0
            | 1 => v = .bool true
            | 2 => v = .bool true
            | 3 => v = v7
            | 4 => v = .string (strOf xs)
            | 5 => v = .slice A xs.length c
            | 6 => v = .string (strOf xs)
            | 7 => v = .bool true
            | 8 => v = .bool true
            | 9 => v = .bool true
            | 10 => v = .int .i64 code
            | 11 => v = .bool true
            | 12 => v = .bool true
            | 13 => v = undef
            | 14 => v = undef
            | 15 => v = undef
            | 16 => v = undef
            | 17 => v = undef
            | 18 => v = undef
            | 19 => v = .bool true
            | 20 => v = .bool true
            | 21 => v = .bool true
            | _ => True) (by kernel_rfl) (by kernel_rfl) rfl ?_ (allOps_spec ?_) ?_
      · intro i v w w' h hb
        match i, h with
        | 0, h => exact h
        | 1, h => exact h
        | 2, h => exact h
        | 3, h => exact h
        | 4, h => exact h
        | 5, h => exact h
        | 6, h => exact h
        | 7, h => exact h
        | 8, h => exact h
        | 9, h => exact h
        | 10, h => exact h
        | 11, h => exact h
        | 12, h => exact h
        | 13, h => exact h
        | 14, h => exact h
        | 15, h => exact h
        | 16, h => exact h
        | 17, h => exact h
        | 18, h => exact h
        | 19, h => exact h
        | 20, h => exact h
        | 21, h => exact h
        | _ + 22, _ => trivial
      · refine ⟨?_, ?_, ?_, ?_, ?_, ?_, ?_, ?_, ?_, ?_, ?_, ?_, ?_, ?_, ?_, ?_, ?_, ?_, ?_, ?_, ?_, ?_, trivial⟩
        · intro a w' hb hp
          have b8 : a.tmps[8]?.getD undef = .int .i64 0 := hb.at 8 (by kernel_rfl)
          exact step_run (v := .int .i64 0) rfl (by simp [execOp, Act.eval, b8]) rfl
        · intro a w' hb hp
          have h49 : a.tmps[49]?.getD undef = .int .i64 0 := slot_eq.symm.trans (hp ⟨0, .data⟩ (by simp) rfl _ rfl)
          exact step_run (v := .bool true) rfl (by simp [execOp, go_sem, h49]) rfl
        · intro a w' hb hp
          have h50 : a.tmps[50]?.getD undef = .bool true := slot_eq.symm.trans (hp ⟨1, .data⟩ (by simp) rfl _ rfl)
          exact step_run (v := .bool true) rfl (by simp [execOp, Act.eval, h50]) rfl
        · intro a w' hb hp
          have b7 : a.tmps[7]?.getD undef = v7 := hb.at 7 (by kernel_rfl)
          have g51 : a.tmps[51]?.getD undef = .bool true := slot_eq.symm.trans (hp ⟨2, .guard⟩ (by simp) rfl _ rfl)
          exact step_run (v := v7) (by simp [Region.wanted, yielded, bool_at g51]) (by simp [execOp, Act.eval, b7]) rfl
        · intro a w' hb hp
          have h52 : a.tmps[52]?.getD undef = v7 := slot_eq.symm.trans (hp ⟨3, .data⟩ (by simp) rfl _ rfl)
          have g51 : a.tmps[51]?.getD undef = .bool true := slot_eq.symm.trans (hp ⟨2, .guard⟩ (by simp) rfl _ rfl)
          exact step_run (v := .string (strOf xs)) (by simp [Region.wanted, yielded, bool_at g51]) (by simp [execOp, go_sem, h52, H7.out _ hb.ext]) rfl
        · intro a w' hb hp
          have b0 : a.tmps[0]?.getD undef = .slice A xs.length c := hb.at 0 (by kernel_rfl)
          have g51 : a.tmps[51]?.getD undef = .bool true := slot_eq.symm.trans (hp ⟨2, .guard⟩ (by simp) rfl _ rfl)
          exact step_run (v := .slice A xs.length c) (by simp [Region.wanted, yielded, bool_at g51]) (by simp [execOp, Act.eval, b0]) rfl
        · intro a w' hb hp
          have h54 : a.tmps[54]?.getD undef = .slice A xs.length c := slot_eq.symm.trans (hp ⟨5, .data⟩ (by simp) rfl _ rfl)
          have g51 : a.tmps[51]?.getD undef = .bool true := slot_eq.symm.trans (hp ⟨2, .guard⟩ (by simp) rfl _ rfl)
          exact step_run (v := .string (strOf xs)) (by simp [Region.wanted, yielded, bool_at g51]) (by simp [execOp, go_sem, h54, H0.out _ hb.ext]) rfl
        · intro a w' hb hp
          have h53 : a.tmps[53]?.getD undef = .string (strOf xs) := slot_eq.symm.trans (hp ⟨4, .data⟩ (by simp) rfl _ rfl)
          have h55 : a.tmps[55]?.getD undef = .string (strOf xs) := slot_eq.symm.trans (hp ⟨6, .data⟩ (by simp) rfl _ rfl)
          have g51 : a.tmps[51]?.getD undef = .bool true := slot_eq.symm.trans (hp ⟨2, .guard⟩ (by simp) rfl _ rfl)
          exact step_run (v := .bool true) (by simp [Region.wanted, yielded, bool_at g51]) (by simp [execOp, go_sem, h53, h55]) rfl
        · intro a w' hb hp
          have h51 : a.tmps[51]?.getD undef = .bool true := slot_eq.symm.trans (hp ⟨2, .data⟩ (by simp) rfl _ rfl)
          have h56 : a.tmps[56]?.getD undef = .bool true := slot_eq.symm.trans (hp ⟨7, .data⟩ (by simp) rfl _ rfl)
          exact step_run (v := .bool true) rfl (by simp [execOp, go_sem, h51, h56]) rfl
        · intro a w' hb hp
          have h57 : a.tmps[57]?.getD undef = .bool true := slot_eq.symm.trans (hp ⟨8, .data⟩ (by simp) rfl _ rfl)
          exact step_run (v := .bool true) rfl (by simp [execOp, Act.eval, h57]) rfl
        · intro a w' hb hp
          have b4 : a.tmps[4]?.getD undef = .int .i64 code := hb.at 4 (by kernel_rfl)
          have g58 : a.tmps[58]?.getD undef = .bool true := slot_eq.symm.trans (hp ⟨9, .guard⟩ (by simp) rfl _ rfl)
          exact step_run (v := .int .i64 code) (by simp [Region.wanted, yielded, bool_at g58]) (by simp [execOp, Act.eval, b4]) rfl
        · intro a w' hb hp
          have h59 : a.tmps[59]?.getD undef = .int .i64 code := slot_eq.symm.trans (hp ⟨10, .data⟩ (by simp) rfl _ rfl)
          have g58 : a.tmps[58]?.getD undef = .bool true := slot_eq.symm.trans (hp ⟨9, .guard⟩ (by simp) rfl _ rfl)
          exact step_run (v := .bool true) (by simp [Region.wanted, yielded, bool_at g58]) (by simp [execOp, go_sem, h59, Hcode.out]) rfl
        · intro a w' hb hp
          have h60 : a.tmps[60]?.getD undef = .bool true := slot_eq.symm.trans (hp ⟨11, .data⟩ (by simp) rfl _ rfl)
          have g58 : a.tmps[58]?.getD undef = .bool true := slot_eq.symm.trans (hp ⟨9, .guard⟩ (by simp) rfl _ rfl)
          exact step_run (v := .bool true) (by simp [Region.wanted, yielded, bool_at g58]) (by simp [execOp, Act.eval, h60]) rfl
        · intro a w' hb hp
          have g61 : a.tmps[61]?.getD undef = .bool true := slot_eq.symm.trans (hp ⟨12, .guard⟩ (by simp) rfl _ rfl)
          exact step_off (by simp [Region.wanted, yielded, bool_at g61]) rfl
        · intro a w' hb hp
          have g61 : a.tmps[61]?.getD undef = .bool true := slot_eq.symm.trans (hp ⟨12, .guard⟩ (by simp) rfl _ rfl)
          exact step_off (by simp [Region.wanted, yielded, bool_at g61]) rfl
        · intro a w' hb hp
          have g61 : a.tmps[61]?.getD undef = .bool true := slot_eq.symm.trans (hp ⟨12, .guard⟩ (by simp) rfl _ rfl)
          exact step_off (by simp [Region.wanted, yielded, bool_at g61]) rfl
        · intro a w' hb hp
          have g61 : a.tmps[61]?.getD undef = .bool true := slot_eq.symm.trans (hp ⟨12, .guard⟩ (by simp) rfl _ rfl)
          exact step_off (by simp [Region.wanted, yielded, bool_at g61]) rfl
        · intro a w' hb hp
          have g61 : a.tmps[61]?.getD undef = .bool true := slot_eq.symm.trans (hp ⟨12, .guard⟩ (by simp) rfl _ rfl)
          exact step_off (by simp [Region.wanted, yielded, bool_at g61]) rfl
        · intro a w' hb hp
          have g61 : a.tmps[61]?.getD undef = .bool true := slot_eq.symm.trans (hp ⟨12, .guard⟩ (by simp) rfl _ rfl)
          exact step_off (by simp [Region.wanted, yielded, bool_at g61]) rfl
        · intro a w' hb hp
          have h61 : a.tmps[61]?.getD undef = .bool true := slot_eq.symm.trans (hp ⟨12, .data⟩ (by simp) rfl _ rfl)
          have g58 : a.tmps[58]?.getD undef = .bool true := slot_eq.symm.trans (hp ⟨9, .guard⟩ (by simp) rfl _ rfl)
          exact step_run (v := .bool true) (by simp [Region.wanted, yielded, bool_at g58]) (by simp [execOp, go_sem, h61]) rfl
        · intro a w' hb hp
          have h58 : a.tmps[58]?.getD undef = .bool true := slot_eq.symm.trans (hp ⟨9, .data⟩ (by simp) rfl _ rfl)
          have h68 : a.tmps[68]?.getD undef = .bool true := slot_eq.symm.trans (hp ⟨19, .data⟩ (by simp) rfl _ rfl)
          exact step_run (v := .bool true) rfl (by simp [execOp, go_sem, h58, h68]) rfl
        · intro a w' hb hp
          have h69 : a.tmps[69]?.getD undef = .bool true := slot_eq.symm.trans (hp ⟨20, .data⟩ (by simp) rfl _ rfl)
          exact step_run (v := .bool true) rfl (by simp [execOp, Act.eval, h69]) rfl
      · intro vs w8 hb8 hv
        have h21 : vs 21 = .bool true := hv 21 (by decide)
        simp only [putAll, Act.put, List.setIfInBounds_toArray, List.set_cons_zero, List.set_cons_succ, Nat.zero_add, Nat.reduceAdd, h21]
        clear hv
        have Hend := Lib.hid (below_ext Hb7.out hb8)
        clear hb8
        go_wp2
        go_ret
        exact ⟨rfl, Hend.out⟩
    · subst hc
      have Hsy := Lib.hid hs; clear hs
      refine region_phi (n := 70) (fun i v w' => match i with
            | 0 => v = .int .i64 0
            | 1 => v = .bool true
            | 2 => v = .bool true
            | 3 => v = v7
            | 4 => v = .string (strOf xs)
            | 5 => v = .slice A xs.length c
            | 6 => v = .string (strOf xs)
            | 7 => v = .bool true
            | 8 => v = .bool true
            | 9 => v = .bool true
            | 10 => v = .int .i64 0
            | 11 => v = .bool false
            | 12 => v = .bool false
            | 13 => v = .slice A2 ys.length c2
            | 14 => Bsl w' v xs
            | 15 => v = .string (strOf xs)
            | 16 => v = .slice A xs.length c
            | 17 => v = .string (strOf xs)
            | 18 => v = .bool true
            | 19 => v = .bool true
            | 20 => v = .bool true
            | 21 => v = .bool true
            | _ => True) (by kernel_rfl) (by kernel_rfl) rfl ?_ (allOps_spec ?_) ?_
      · intro i v w w' h hb
        match i, h with
        | 0, h => exact h
        | 1, h => exact h
        | 2, h => exact h
        | 3, h => exact h
        | 4, h => exact h
        | 5, h => exact h
        | 6, h => exact h
        | 7, h => exact h
        | 8, h => exact h
        | 9, h => exact h
        | 10, h => exact h
        | 11, h => exact h
        | 12, h => exact h
        | 13, h => exact h
        | 14, h => exact h.below hb
        | 15, h => exact h
        | 16, h => exact h
        | 17, h => exact h
        | 18, h => exact h
        | 19, h => exact h
        | 20, h => exact h
        | 21, h => exact h
        | _ + 22, _ => trivial
      · refine ⟨?_, ?_, ?_, ?_, ?_, ?_, ?_, ?_, ?_, ?_, ?_, ?_, ?_, ?_, ?_, ?_, ?_, ?_, ?_, ?_, ?_, ?_, trivial⟩
        · intro a w' hb hp
          have b8 : a.tmps[8]?.getD undef = .int .i64 0 := hb.at 8 (by kernel_rfl)
          exact step_run (v := .int .i64 0) rfl (by simp [execOp, Act.eval, b8]) rfl
        · intro a w' hb hp
          have h49 : a.tmps[49]?.getD undef = .int .i64 0 := slot_eq.symm.trans (hp ⟨0, .data⟩ (by simp) rfl _ rfl)
          exact step_run (v := .bool true) rfl (by simp [execOp, go_sem, h49]) rfl
        · intro a w' hb hp
          have h50 : a.tmps[50]?.getD undef = .bool true := slot_eq.symm.trans (hp ⟨1, .data⟩ (by simp) rfl _ rfl)
          exact step_run (v := .bool true) rfl (by simp [execOp, Act.eval, h50]) rfl
        · intro a w' hb hp
          have b7 : a.tmps[7]?.getD undef = v7 := hb.at 7 (by kernel_rfl)
          have g51 : a.tmps[51]?.getD undef = .bool true := slot_eq.symm.trans (hp ⟨2, .guard⟩ (by simp) rfl _ rfl)
          exact step_run (v := v7) (by simp [Region.wanted, yielded, bool_at g51]) (by simp [execOp, Act.eval, b7]) rfl
        · intro a w' hb hp
          have h52 : a.tmps[52]?.getD undef = v7 := slot_eq.symm.trans (hp ⟨3, .data⟩ (by simp) rfl _ rfl)
          have g51 : a.tmps[51]?.getD undef = .bool true := slot_eq.symm.trans (hp ⟨2, .guard⟩ (by simp) rfl _ rfl)
          exact step_run (v := .string (strOf xs)) (by simp [Region.wanted, yielded, bool_at g51]) (by simp [execOp, go_sem, h52, H7.out _ hb.ext]) rfl
        · intro a w' hb hp
          have b0 : a.tmps[0]?.getD undef = .slice A xs.length c := hb.at 0 (by kernel_rfl)
          have g51 : a.tmps[51]?.getD undef = .bool true := slot_eq.symm.trans (hp ⟨2, .guard⟩ (by simp) rfl _ rfl)
          exact step_run (v := .slice A xs.length c) (by simp [Region.wanted, yielded, bool_at g51]) (by simp [execOp, Act.eval, b0]) rfl
        · intro a w' hb hp
          have h54 : a.tmps[54]?.getD undef = .slice A xs.length c := slot_eq.symm.trans (hp ⟨5, .data⟩ (by simp) rfl _ rfl)
          have g51 : a.tmps[51]?.getD undef = .bool true := slot_eq.symm.trans (hp ⟨2, .guard⟩ (by simp) rfl _ rfl)
          exact step_run (v := .string (strOf xs)) (by simp [Region.wanted, yielded, bool_at g51]) (by simp [execOp, go_sem, h54, H0.out _ hb.ext]) rfl
        · intro a w' hb hp
          have h53 : a.tmps[53]?.getD undef = .string (strOf xs) := slot_eq.symm.trans (hp ⟨4, .data⟩ (by simp) rfl _ rfl)
          have h55 : a.tmps[55]?.getD undef = .string (strOf xs) := slot_eq.symm.trans (hp ⟨6, .data⟩ (by simp) rfl _ rfl)
          have g51 : a.tmps[51]?.getD undef = .bool true := slot_eq.symm.trans (hp ⟨2, .guard⟩ (by simp) rfl _ rfl)
          exact step_run (v := .bool true) (by simp [Region.wanted, yielded, bool_at g51]) (by simp [execOp, go_sem, h53, h55]) rfl
        · intro a w' hb hp
          have h51 : a.tmps[51]?.getD undef = .bool true := slot_eq.symm.trans (hp ⟨2, .data⟩ (by simp) rfl _ rfl)
          have h56 : a.tmps[56]?.getD undef = .bool true := slot_eq.symm.trans (hp ⟨7, .data⟩ (by simp) rfl _ rfl)
          exact step_run (v := .bool true) rfl (by simp [execOp, go_sem, h51, h56]) rfl
        · intro a w' hb hp
          have h57 : a.tmps[57]?.getD undef = .bool true := slot_eq.symm.trans (hp ⟨8, .data⟩ (by simp) rfl _ rfl)
          exact step_run (v := .bool true) rfl (by simp [execOp, Act.eval, h57]) rfl
        · intro a w' hb hp
          have b4 : a.tmps[4]?.getD undef = .int .i64 0 := hb.at 4 (by kernel_rfl)
          have g58 : a.tmps[58]?.getD undef = .bool true := slot_eq.symm.trans (hp ⟨9, .guard⟩ (by simp) rfl _ rfl)
          exact step_run (v := .int .i64 0) (by simp [Region.wanted, yielded, bool_at g58]) (by simp [execOp, Act.eval, b4]) rfl
        · intro a w' hb hp
          have h59 : a.tmps[59]?.getD undef = .int .i64 0 := slot_eq.symm.trans (hp ⟨10, .data⟩ (by simp) rfl _ rfl)
          have g58 : a.tmps[58]?.getD undef = .bool true := slot_eq.symm.trans (hp ⟨9, .guard⟩ (by simp) rfl _ rfl)
          exact step_run (v := .bool false) (by simp [Region.wanted, yielded, bool_at g58]) (by simp [execOp, go_sem, h59]) rfl
        · intro a w' hb hp
          have h60 : a.tmps[60]?.getD undef = .bool false := slot_eq.symm.trans (hp ⟨11, .data⟩ (by simp) rfl _ rfl)
          have g58 : a.tmps[58]?.getD undef = .bool true := slot_eq.symm.trans (hp ⟨9, .guard⟩ (by simp) rfl _ rfl)
          exact step_run (v := .bool false) (by simp [Region.wanted, yielded, bool_at g58]) (by simp [execOp, Act.eval, h60]) rfl
        · intro a w' hb hp
          have b3 : a.tmps[3]?.getD undef = .slice A2 ys.length c2 := hb.at 3 (by kernel_rfl)
          have g61 : a.tmps[61]?.getD undef = .bool false := slot_eq.symm.trans (hp ⟨12, .guard⟩ (by simp) rfl _ rfl)
          exact step_run (v := .slice A2 ys.length c2) (by simp [Region.wanted, yielded, bool_at g61]) (by simp [execOp, Act.eval, b3]) rfl
        · intro a w' hb hp
          have h62 : a.tmps[62]?.getD undef = .slice A2 ys.length c2 := slot_eq.symm.trans (hp ⟨13, .data⟩ (by simp) rfl _ rfl)
          have g61 : a.tmps[61]?.getD undef = .bool false := slot_eq.symm.trans (hp ⟨12, .guard⟩ (by simp) rfl _ rfl)
          refine step_call (f := 17) (args := #[.slice A2 ys.length c2]) (by simp [Region.wanted, yielded, bool_at g61]) (by simp [go_sem, h62]) ?_
          refine (seal_any A2 c2 ys _ (Hy7.out _ hb.ext) Hyb.out (by omega)).mono ?_
          rintro e w4 ⟨v, rfl, hown, hb4⟩
          rw [Hsy.out] at hown
          exact ⟨v, rfl, hb4, Bsl.of_own hown⟩
        · intro a w' hb hp
          have g61 : a.tmps[61]?.getD undef = .bool false := slot_eq.symm.trans (hp ⟨12, .guard⟩ (by simp) rfl _ rfl)
          have hB : Bsl w' (slotOf a (some 63)) xs := hp ⟨14, .data⟩ (by simp) rfl _ rfl
          rw [slot_eq] at hB
          exact step_run (v := .string (strOf xs)) (by simp [Region.wanted, yielded, bool_at g61]) (by simp [execOp, go_sem, conv_str _ _ _ hB]) rfl
        · intro a w' hb hp
          have b0 : a.tmps[0]?.getD undef = .slice A xs.length c := hb.at 0 (by kernel_rfl)
          have g61 : a.tmps[61]?.getD undef = .bool false := slot_eq.symm.trans (hp ⟨12, .guard⟩ (by simp) rfl _ rfl)
          exact step_run (v := .slice A xs.length c) (by simp [Region.wanted, yielded, bool_at g61]) (by simp [execOp, Act.eval, b0]) rfl
        · intro a w' hb hp
          have h65 : a.tmps[65]?.getD undef = .slice A xs.length c := slot_eq.symm.trans (hp ⟨16, .data⟩ (by simp) rfl _ rfl)
          have g61 : a.tmps[61]?.getD undef = .bool false := slot_eq.symm.trans (hp ⟨12, .guard⟩ (by simp) rfl _ rfl)
          exact step_run (v := .string (strOf xs)) (by simp [Region.wanted, yielded, bool_at g61]) (by simp [execOp, go_sem, h65, H0.out _ hb.ext]) rfl
        · intro a w' hb hp
          have h64 : a.tmps[64]?.getD undef = .string (strOf xs) := slot_eq.symm.trans (hp ⟨15, .data⟩ (by simp) rfl _ rfl)
          have h66 : a.tmps[66]?.getD undef = .string (strOf xs) := slot_eq.symm.trans (hp ⟨17, .data⟩ (by simp) rfl _ rfl)
          have g61 : a.tmps[61]?.getD undef = .bool false := slot_eq.symm.trans (hp ⟨12, .guard⟩ (by simp) rfl _ rfl)
          exact step_run (v := .bool true) (by simp [Region.wanted, yielded, bool_at g61]) (by simp [execOp, go_sem, h64, h66]) rfl
        · intro a w' hb hp
          have h61 : a.tmps[61]?.getD undef = .bool false := slot_eq.symm.trans (hp ⟨12, .data⟩ (by simp) rfl _ rfl)
          have h67 : a.tmps[67]?.getD undef = .bool true := slot_eq.symm.trans (hp ⟨18, .data⟩ (by simp) rfl _ rfl)
          have g58 : a.tmps[58]?.getD undef = .bool true := slot_eq.symm.trans (hp ⟨9, .guard⟩ (by simp) rfl _ rfl)
          exact step_run (v := .bool true) (by simp [Region.wanted, yielded, bool_at g58]) (by simp [execOp, go_sem, h61, h67]) rfl
        · intro a w' hb hp
          have h58 : a.tmps[58]?.getD undef = .bool true := slot_eq.symm.trans (hp ⟨9, .data⟩ (by simp) rfl _ rfl)
          have h68 : a.tmps[68]?.getD undef = .bool true := slot_eq.symm.trans (hp ⟨19, .data⟩ (by simp) rfl _ rfl)
          exact step_run (v := .bool true) rfl (by simp [execOp, go_sem, h58, h68]) rfl
        · intro a w' hb hp
          have h69 : a.tmps[69]?.getD undef = .bool true := slot_eq.symm.trans (hp ⟨20, .data⟩ (by simp) rfl _ rfl)
          exact step_run (v := .bool true) rfl (by simp [execOp, Act.eval, h69]) rfl
      · intro vs w8 hb8 hv
        have h21 : vs 21 = .bool true := hv 21 (by decide)
        simp only [putAll, Act.put, List.setIfInBounds_toArray, List.set_cons_zero, List.set_cons_succ, Nat.zero_add, Nat.reduceAdd, h21]
        clear hv
        have Hend := Lib.hid (below_ext Hb7.out hb8)
        clear hb8
        go_wp2
        go_ret
        exact ⟨rfl, Hend.out⟩
end Go.Proofs.Ytkjconhhandhlab
