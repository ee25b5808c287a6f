/- The law package's awake and few (tools/ordaw_gen.py). -/
import Derived.Test.YtcekfgahhicdcaaOrdExt
import Derived.Test.YtcekfgahhicdcaaLaw
import Derived.Test.YtcekfgahhicdcaaRegion
namespace Go.Proofs.Ytcekfgahhicdcaa
open Go.RowKit

theorem lit_sl {α : Type} (f : α → Value) (w : World) (e : TypeId) (cs : Array Value) (n : Nat) (xs : List α) (hn : xs.length = n) (hc : cs.toList = xs.map f) (fr : Nat × Nat) : Sl f (w.alloc (.cells cs e fr)) (.slice (some ⟨w.heap.size, 0, none⟩) n n) xs := by
  refine .inr ⟨⟨w.heap.size, 0, none⟩, n, by rw [hn], by omega, fun j b hj => ?_⟩
  have e' : (⟨w.heap.size, 0, none⟩ : Addr).add j = ⟨w.heap.size, j, none⟩ := by unfold Addr.add; split <;> simp_all
  rw [e', cell_of_row _ w.heap.size j _ _ _ (heap_alloc_new w _), ← Array.getElem?_toList, hc]
  simp [hj]
theorem aw_val : valO 3 [(2, 0)] = true := by decide +kernel
theorem aw_before : befO 3 [(2, 0)] 2 0 = true := by decide +kernel
theorem aw_conc : conO 3 [(2, 0)] 0 1 = true := by decide +kernel
theorem aw_is : isO 3 [(2, 0)] [1, 2, 0] = true := by decide +kernel
theorem aw_cut : cutO 3 [(2, 0)] [1, 2] = true := by decide +kernel
theorem aw_lin : linR 3 [(2, 0)] = ([1, 2, 0], 0) := by decide +kernel
theorem aw_ext : extR 3 [(2, 0)] 10 = (3, 0) := by decide +kernel
def fewB (N : Int) (m : Nat) : Bool := decide (N ≤ 12) && decide (m ≤ 80)
theorem few_any (N : Int) (A : Option Addr) (m c : Nat) (w : World) : Calls Try.prog 12 #[.agg #[.int .i64 N, .slice A m c]] w fun e w' => e = .returned (.bool (fewB N m)) ∧ Below w.heap.size w w' := by
  obtain ⟨R, hR⟩ : ∃ R, R = fewB N m := ⟨_, rfl⟩
  rw [← hR]
  have HR := Lib.hid hR; clear hR
  unfold fewB at HR
  by_cases h1 : N ≤ 12
  · go_enter Try.func12, Try.ntmps12
    go_wp2
    go_ret
    refine ⟨ret_b ?_, below_alloc _ _⟩
    rw [HR.out, decide_eq_true h1, Bool.true_and]
    by_cases h2 : m ≤ 80
    · rw [decide_eq_true h2]; exact decide_eq_true (by omega)
    · rw [decide_eq_false h2]; exact decide_eq_false (by omega)
  · have hr : R = false := by rw [HR.out, decide_eq_false h1]; rfl
    subst hr
    go_enter Try.func12, Try.ntmps12
    go_wp2
    go_ret
    exact ⟨rfl, below_alloc _ _⟩
set_option maxRecDepth 100000 in
set_option maxHeartbeats 4000000 in
theorem awake_any (w : World) : Calls Try.prog 11 #[] w (Ok w) := by
  obtain ⟨W, hW⟩ : ∃ W, W = (w.alloc (.cells #[.int .i64 2, .int .i64 0] 50)).alloc (.cells #[.int .i64 3, .slice (some ⟨w.heap.size, 0, none⟩) 1 1] 27) := ⟨_, rfl⟩
  have HW := Lib.hid hW
  have hb0 : Below w.heap.size w W := by rw [hW]; exact (below_alloc w _).trans ((below_alloc _ _).mono (by simp))
  have hsz : W.heap.size = w.heap.size + 2 := by rw [hW]; simp
  have ho : W.heap[w.heap.size + 1]? = some (.cells #[.int .i64 3, .slice (some ⟨w.heap.size, 0, none⟩) 1 1] 27 (0, 0)) := by
    rw [hW]
    have := heap_alloc_new (w.alloc (.cells #[.int .i64 2, .int .i64 0] 50)) (.cells #[.int .i64 3, .slice (some ⟨w.heap.size, 0, none⟩) 1 1] 27)
    simpa using this
  have he : W.heap[w.heap.size]? = some (.cells #[.int .i64 2, .int .i64 0] 50 (0, 0)) := by
    rw [hW]
    exact ((below_alloc (w.alloc (.cells #[.int .i64 2, .int .i64 0] 50)) _).block _ (by simp)).trans (heap_alloc_new w _)
  have KO := Lib.hid (show ∀ w', Below W.heap.size W w' → w'.heap[w.heap.size + 1]? = some (.cells #[.int .i64 3, .slice (some ⟨w.heap.size, 0, none⟩) 1 1] 27 (0, 0)) from fun w' h => (h.block _ (by omega)).trans ho)
  have KE := Lib.hid (show Prs W (.slice (some ⟨w.heap.size, 0, none⟩) 1 1) [(2, 0)] from .inr ⟨⟨w.heap.size, 0, none⟩, 1, rfl, Nat.le_refl _, fun j p hj => by
    match j, hj with
    | 0, hj => simp at hj; subst hj; exact ⟨cell_of_row _ _ 0 _ _ _ he, cell_of_row _ _ 1 _ _ _ he⟩⟩)
  have Hb0 := Lib.hid hb0
  clear hb0 he hW
  have hoW := ho
  rw [HW.out] at hoW
  clear ho
  go_enter Try.func11, Try.ntmps11
  go_wp2_with fail
  rw [← HW.out]
  refine (linear_any 3 _ [(2, 0)] _ KE.out (by decide)).mono ?_
  rintro e w1 ⟨lv, h1, ho1, hb1⟩
  rw [aw_lin] at h1 ho1
  subst h1
  have hsl := Sl.of_own ho1
  have Hb1 := Lib.hid hb1
  obtain ⟨ad, cl, rfl, hcl, _⟩ : ∃ ad cl, lv = .slice (some ad) 3 cl ∧ 3 ≤ cl ∧ True := by
    rcases hsl with ⟨_, h⟩ | ⟨ad, c, h, h2, _⟩
    · cases h
    · exact ⟨ad, c, h, h2, trivial⟩
  have Hsl := Lib.hid hsl
  have hk := KO.out _ hb1
  have k0 := cell_of_row _ _ 0 _ _ _ hk
  have k1 := cell_of_row _ _ 1 _ _ _ hk
  clear hb1 ho1 hsl hoW
  go_wp2_with fail
  refine (extensions_any 3 10 _ [(2, 0)] _ (KE.out.below Hb1.out) (by decide)).mono ?_
  rintro e w2 ⟨h1, hb2⟩
  rw [aw_ext] at h1
  subst h1
  have Hb2 := Lib.hid (bl2 Hb1.out hb2)
  have HL := Lib.hid (Hsl.out.below hb2)
  have HL2 := Lib.hid (show Sl iv w2 (.slice (some ad) 2 cl) [1, 2] from (HL.out.take ad cl 3 2 (by decide)))
  have HE := Lib.hid (KE.out.below Hb2.out)
  replace KO := Lib.hid (show ∀ w', Below w2.heap.size w2 w' → w'.heap[w.heap.size + 1]? = some (.cells #[.int .i64 3, .slice (some ⟨w.heap.size, 0, none⟩) 1 1] 27 (0, 0)) from fun w' h => KO.out _ (bl2 Hb2.out h))
  clear hb2 hk k0 k1 Hsl
  go_wp2_with fail
  refine region_phi (n := 57) (fun i v w' => match i with
        | 0 => v = .int .i64 0
        | 1 => v = .bool true
        | 2 => v = .bool true
        | 3 => v = .int .i64 0
        | 4 => v = .bool true
        | 5 => v = .bool true
        | 6 => v = .bool true
        | 7 => v = .int .i64 3
        | 8 => v = .bool true
        | 9 => v = .bool true
        | 10 => v = .bool true
        | 11 => v = .slice (some ad) 3 cl
        | 12 => Sl iv w' v [1, 2, 0]
        | 13 => v = .bool true
        | 14 => v = .bool true
        | 15 => v = .bool true
        | 16 => v = .agg #[.int .i64 3, .slice (some ⟨w.heap.size, 0, none⟩) 1 1]
        | 17 => v = .bool true
        | 18 => v = .bool true
        | 19 => v = .bool true
        | 20 => v = .agg #[.int .i64 3, .slice (some ⟨w.heap.size, 0, none⟩) 1 1]
        | 21 => v = .bool true
        | 22 => v = .bool true
        | 23 => v = .bool true
        | 24 => v = .agg #[.int .i64 3, .slice (some ⟨w.heap.size, 0, none⟩) 1 1]
        | 25 => v = .slice (some ad) 3 cl
        | 26 => v = .bool true
        | 27 => v = .bool true
        | 28 => v = .bool true
        | 29 => v = .agg #[.int .i64 3, .slice (some ⟨w.heap.size, 0, none⟩) 1 1]
        | 30 => v = .slice (some ad) 3 cl
        | 31 => v = .slice (some ad) 2 cl
        | 32 => v = .bool true
        | 33 => v = .bool true
        | 34 => v = .bool true
        | 35 => v = .agg #[.int .i64 3, .slice (some ⟨w.heap.size, 0, none⟩) 1 1]
        | 36 => v = .bool true
        | 37 => v = .bool true
        | 38 => v = .bool true
        | _ => True) (by kernel_rfl) (by kernel_rfl) rfl ?_ (allOps_spec ?_) ?_
  · intro i v w' w'' h hb
    match i, h with
    | 0, h => exact h
    | 1, h => exact h
    | 2, h => exact h
    | 3, h => exact h
    | 4, h => exact h
    | 5, h => exact h
    | 6, h => exact h
    | 7, h => exact h
    | 8, h => exact h
    | 9, h => exact h
    | 10, h => exact h
    | 11, h => exact h
    | 12, h => exact h.below hb
    | 13, h => exact h
    | 14, h => exact h
    | 15, h => exact h
    | 16, h => exact h
    | 17, h => exact h
    | 18, h => exact h
    | 19, h => exact h
    | 20, h => exact h
    | 21, h => exact h
    | 22, h => exact h
    | 23, h => exact h
    | 24, h => exact h
    | 25, h => exact h
    | 26, h => exact h
    | 27, h => exact h
    | 28, h => exact h
    | 29, h => exact h
    | 30, h => exact h
    | 31, h => exact h
    | 32, h => exact h
    | 33, h => exact h
    | 34, h => exact h
    | 35, h => exact h
    | 36, h => exact h
    | 37, h => exact h
    | 38, h => exact h
    | _ + 39, _ => trivial
  · refine ⟨?_, ?_, ?_, ?_, ?_, ?_, ?_, ?_, ?_, ?_, ?_, ?_, ?_, ?_, ?_, ?_, ?_, ?_, ?_, ?_, ?_, ?_, ?_, ?_, ?_, ?_, ?_, ?_, ?_, ?_, ?_, ?_, ?_, ?_, ?_, ?_, ?_, ?_, ?_, trivial⟩
    · intro a w' hb hp
      have b3 : a.tmps[3]?.getD undef = .int .i64 0 := hb.at 3 (by kernel_rfl)
      exact step_run (v := .int .i64 0) rfl (by simp [execOp, Act.eval, b3]) rfl
    · intro a w' hb hp
      have h19 : a.tmps[19]?.getD undef = .int .i64 0 := slot_eq.symm.trans (hp ⟨0, .data⟩ (by simp) rfl _ rfl)
      exact step_run (v := .bool true) rfl (by simp [execOp, go_sem, h19]) rfl
    · intro a w' hb hp
      have h20 : a.tmps[20]?.getD undef = .bool true := slot_eq.symm.trans (hp ⟨1, .data⟩ (by simp) rfl _ rfl)
      exact step_run (v := .bool true) rfl (by simp [execOp, Act.eval, h20]) rfl
    · intro a w' hb hp
      have b5 : a.tmps[5]?.getD undef = .int .i64 0 := hb.at 5 (by kernel_rfl)
      have g21 : a.tmps[21]?.getD undef = .bool true := slot_eq.symm.trans (hp ⟨2, .guard⟩ (by simp) rfl _ rfl)
      exact step_run (v := .int .i64 0) (by simp [Region.wanted, yielded, bool_at g21]) (by simp [execOp, Act.eval, b5]) rfl
    · intro a w' hb hp
      have h22 : a.tmps[22]?.getD undef = .int .i64 0 := slot_eq.symm.trans (hp ⟨3, .data⟩ (by simp) rfl _ rfl)
      have g21 : a.tmps[21]?.getD undef = .bool true := slot_eq.symm.trans (hp ⟨2, .guard⟩ (by simp) rfl _ rfl)
      exact step_run (v := .bool true) (by simp [Region.wanted, yielded, bool_at g21]) (by simp [execOp, go_sem, h22]) rfl
    · intro a w' hb hp
      have h21 : a.tmps[21]?.getD undef = .bool true := slot_eq.symm.trans (hp ⟨2, .data⟩ (by simp) rfl _ rfl)
      have h23 : a.tmps[23]?.getD undef = .bool true := slot_eq.symm.trans (hp ⟨4, .data⟩ (by simp) rfl _ rfl)
      exact step_run (v := .bool true) rfl (by simp [execOp, go_sem, h21, h23]) rfl
    · intro a w' hb hp
      have h24 : a.tmps[24]?.getD undef = .bool true := slot_eq.symm.trans (hp ⟨5, .data⟩ (by simp) rfl _ rfl)
      exact step_run (v := .bool true) rfl (by simp [execOp, Act.eval, h24]) rfl
    · intro a w' hb hp
      have b4 : a.tmps[4]?.getD undef = .int .i64 3 := hb.at 4 (by kernel_rfl)
      have g25 : a.tmps[25]?.getD undef = .bool true := slot_eq.symm.trans (hp ⟨6, .guard⟩ (by simp) rfl _ rfl)
      exact step_run (v := .int .i64 3) (by simp [Region.wanted, yielded, bool_at g25]) (by simp [execOp, Act.eval, b4]) rfl
    · intro a w' hb hp
      have h26 : a.tmps[26]?.getD undef = .int .i64 3 := slot_eq.symm.trans (hp ⟨7, .data⟩ (by simp) rfl _ rfl)
      have g25 : a.tmps[25]?.getD undef = .bool true := slot_eq.symm.trans (hp ⟨6, .guard⟩ (by simp) rfl _ rfl)
      exact step_run (v := .bool true) (by simp [Region.wanted, yielded, bool_at g25]) (by simp [execOp, go_sem, h26]) rfl
    · intro a w' hb hp
      have h25 : a.tmps[25]?.getD undef = .bool true := slot_eq.symm.trans (hp ⟨6, .data⟩ (by simp) rfl _ rfl)
      have h27 : a.tmps[27]?.getD undef = .bool true := slot_eq.symm.trans (hp ⟨8, .data⟩ (by simp) rfl _ rfl)
      exact step_run (v := .bool true) rfl (by simp [execOp, go_sem, h25, h27]) rfl
    · intro a w' hb hp
      have h28 : a.tmps[28]?.getD undef = .bool true := slot_eq.symm.trans (hp ⟨9, .data⟩ (by simp) rfl _ rfl)
      exact step_run (v := .bool true) rfl (by simp [execOp, Act.eval, h28]) rfl
    · intro a w' hb hp
      have b2 : a.tmps[2]?.getD undef = .slice (some ad) 3 cl := hb.at 2 (by kernel_rfl)
      have g29 : a.tmps[29]?.getD undef = .bool true := slot_eq.symm.trans (hp ⟨10, .guard⟩ (by simp) rfl _ rfl)
      exact step_run (v := .slice (some ad) 3 cl) (by simp [Region.wanted, yielded, bool_at g29]) (by simp [execOp, Act.eval, b2]) rfl
    · intro a w' hb hp
      have g29 : a.tmps[29]?.getD undef = .bool true := slot_eq.symm.trans (hp ⟨10, .guard⟩ (by simp) rfl _ rfl)
      refine step_on (by simp [Region.wanted, yielded, bool_at g29]) ?_
      unfold Oper.wp
      simp [execOp, go_sem]
      exact ⟨_, rfl, below_alloc _ _, lit_sl iv w' 3 #[.int .i64 1, .int .i64 2, .int .i64 0] 3 [1, 2, 0] rfl rfl (0, 0)⟩
    · intro a w' hb hp
      have h30 : a.tmps[30]?.getD undef = .slice (some ad) 3 cl := slot_eq.symm.trans (hp ⟨11, .data⟩ (by simp) rfl _ rfl)
      have g29 : a.tmps[29]?.getD undef = .bool true := slot_eq.symm.trans (hp ⟨10, .guard⟩ (by simp) rfl _ rfl)
      have hB : Sl iv w' (slotOf a (some 31)) [1, 2, 0] := hp ⟨12, .data⟩ (by simp) rfl _ rfl
      rw [slot_eq] at hB
      refine step_call (f := 21) (args := #[.slice (some ad) 3 cl, a.tmps[31]?.getD undef]) (by simp [Region.wanted, yielded, bool_at g29]) (by simp [go_sem, h30]) ?_
      refine (same_any _ _ [1, 2, 0] [1, 2, 0] _ (HL.out.below hb.ext) hB (by decide)).mono ?_
      rintro e w4 ⟨rfl, m, rfl⟩
      exact ⟨_, rfl, Below.drewNs _ _, rfl⟩
    · intro a w' hb hp
      have h29 : a.tmps[29]?.getD undef = .bool true := slot_eq.symm.trans (hp ⟨10, .data⟩ (by simp) rfl _ rfl)
      have h32 : a.tmps[32]?.getD undef = .bool true := slot_eq.symm.trans (hp ⟨13, .data⟩ (by simp) rfl _ rfl)
      exact step_run (v := .bool true) rfl (by simp [execOp, go_sem, h29, h32]) rfl
    · intro a w' hb hp
      have h33 : a.tmps[33]?.getD undef = .bool true := slot_eq.symm.trans (hp ⟨14, .data⟩ (by simp) rfl _ rfl)
      exact step_run (v := .bool true) rfl (by simp [execOp, Act.eval, h33]) rfl
    · intro a w' hb hp
      have b1 : a.tmps[1]?.getD undef = .pointer (some ⟨w.heap.size + 1, 0, none⟩) := hb.at 1 (by kernel_rfl)
      have g34 : a.tmps[34]?.getD undef = .bool true := slot_eq.symm.trans (hp ⟨15, .guard⟩ (by simp) rfl _ rfl)
      exact step_run (v := .agg #[.int .i64 3, .slice (some ⟨w.heap.size, 0, none⟩) 1 1]) (by simp [Region.wanted, yielded, bool_at g34]) (by simp [execOp, go_sem, b1, cell_of_row _ _ 0 _ _ _ (KO.out _ hb.ext), cell_of_row _ _ 1 _ _ _ (KO.out _ hb.ext)]) rfl
    · intro a w' hb hp
      have h35 : a.tmps[35]?.getD undef = .agg #[.int .i64 3, .slice (some ⟨w.heap.size, 0, none⟩) 1 1] := slot_eq.symm.trans (hp ⟨16, .data⟩ (by simp) rfl _ rfl)
      have g34 : a.tmps[34]?.getD undef = .bool true := slot_eq.symm.trans (hp ⟨15, .guard⟩ (by simp) rfl _ rfl)
      refine step_call (f := 15) (args := #[.agg #[.int .i64 3, .slice (some ⟨w.heap.size, 0, none⟩) 1 1], .int .i64 2, .int .i64 0]) (by simp [Region.wanted, yielded, bool_at g34]) (by simp [go_sem, h35]) ?_
      refine (before_any 3 2 0 _ [(2, 0)] _ (HE.out.below hb.ext) (by decide)).mono ?_
      rintro e w4 ⟨h9, hb4⟩
      rw [aw_before] at h9
      exact ⟨_, h9, hb4, rfl⟩
    · intro a w' hb hp
      have h34 : a.tmps[34]?.getD undef = .bool true := slot_eq.symm.trans (hp ⟨15, .data⟩ (by simp) rfl _ rfl)
      have h36 : a.tmps[36]?.getD undef = .bool true := slot_eq.symm.trans (hp ⟨17, .data⟩ (by simp) rfl _ rfl)
      exact step_run (v := .bool true) rfl (by simp [execOp, go_sem, h34, h36]) rfl
    · intro a w' hb hp
      have h37 : a.tmps[37]?.getD undef = .bool true := slot_eq.symm.trans (hp ⟨18, .data⟩ (by simp) rfl _ rfl)
      exact step_run (v := .bool true) rfl (by simp [execOp, Act.eval, h37]) rfl
    · intro a w' hb hp
      have b1 : a.tmps[1]?.getD undef = .pointer (some ⟨w.heap.size + 1, 0, none⟩) := hb.at 1 (by kernel_rfl)
      have g38 : a.tmps[38]?.getD undef = .bool true := slot_eq.symm.trans (hp ⟨19, .guard⟩ (by simp) rfl _ rfl)
      exact step_run (v := .agg #[.int .i64 3, .slice (some ⟨w.heap.size, 0, none⟩) 1 1]) (by simp [Region.wanted, yielded, bool_at g38]) (by simp [execOp, go_sem, b1, cell_of_row _ _ 0 _ _ _ (KO.out _ hb.ext), cell_of_row _ _ 1 _ _ _ (KO.out _ hb.ext)]) rfl
    · intro a w' hb hp
      have h39 : a.tmps[39]?.getD undef = .agg #[.int .i64 3, .slice (some ⟨w.heap.size, 0, none⟩) 1 1] := slot_eq.symm.trans (hp ⟨20, .data⟩ (by simp) rfl _ rfl)
      have g38 : a.tmps[38]?.getD undef = .bool true := slot_eq.symm.trans (hp ⟨19, .guard⟩ (by simp) rfl _ rfl)
      refine step_call (f := 17) (args := #[.agg #[.int .i64 3, .slice (some ⟨w.heap.size, 0, none⟩) 1 1], .int .i64 0, .int .i64 1]) (by simp [Region.wanted, yielded, bool_at g38]) (by simp [go_sem, h39]) ?_
      refine (conc_any 3 0 1 _ [(2, 0)] _ (HE.out.below hb.ext) (by decide)).mono ?_
      rintro e w4 ⟨h9, hb4⟩
      rw [aw_conc] at h9
      exact ⟨_, h9, hb4, rfl⟩
    · intro a w' hb hp
      have h38 : a.tmps[38]?.getD undef = .bool true := slot_eq.symm.trans (hp ⟨19, .data⟩ (by simp) rfl _ rfl)
      have h40 : a.tmps[40]?.getD undef = .bool true := slot_eq.symm.trans (hp ⟨21, .data⟩ (by simp) rfl _ rfl)
      exact step_run (v := .bool true) rfl (by simp [execOp, go_sem, h38, h40]) rfl
    · intro a w' hb hp
      have h41 : a.tmps[41]?.getD undef = .bool true := slot_eq.symm.trans (hp ⟨22, .data⟩ (by simp) rfl _ rfl)
      exact step_run (v := .bool true) rfl (by simp [execOp, Act.eval, h41]) rfl
    · intro a w' hb hp
      have b1 : a.tmps[1]?.getD undef = .pointer (some ⟨w.heap.size + 1, 0, none⟩) := hb.at 1 (by kernel_rfl)
      have g42 : a.tmps[42]?.getD undef = .bool true := slot_eq.symm.trans (hp ⟨23, .guard⟩ (by simp) rfl _ rfl)
      exact step_run (v := .agg #[.int .i64 3, .slice (some ⟨w.heap.size, 0, none⟩) 1 1]) (by simp [Region.wanted, yielded, bool_at g42]) (by simp [execOp, go_sem, b1, cell_of_row _ _ 0 _ _ _ (KO.out _ hb.ext), cell_of_row _ _ 1 _ _ _ (KO.out _ hb.ext)]) rfl
    · intro a w' hb hp
      have b2 : a.tmps[2]?.getD undef = .slice (some ad) 3 cl := hb.at 2 (by kernel_rfl)
      have g42 : a.tmps[42]?.getD undef = .bool true := slot_eq.symm.trans (hp ⟨23, .guard⟩ (by simp) rfl _ rfl)
      exact step_run (v := .slice (some ad) 3 cl) (by simp [Region.wanted, yielded, bool_at g42]) (by simp [execOp, Act.eval, b2]) rfl
    · intro a w' hb hp
      have h43 : a.tmps[43]?.getD undef = .agg #[.int .i64 3, .slice (some ⟨w.heap.size, 0, none⟩) 1 1] := slot_eq.symm.trans (hp ⟨24, .data⟩ (by simp) rfl _ rfl)
      have h44 : a.tmps[44]?.getD undef = .slice (some ad) 3 cl := slot_eq.symm.trans (hp ⟨25, .data⟩ (by simp) rfl _ rfl)
      have g42 : a.tmps[42]?.getD undef = .bool true := slot_eq.symm.trans (hp ⟨23, .guard⟩ (by simp) rfl _ rfl)
      refine step_call (f := 22) (args := #[.agg #[.int .i64 3, .slice (some ⟨w.heap.size, 0, none⟩) 1 1], .slice (some ad) 3 cl]) (by simp [Region.wanted, yielded, bool_at g42]) (by simp [go_sem, h43, h44]) ?_
      refine (islin_any 3 _ [(2, 0)] _ [1, 2, 0] _ (HE.out.below hb.ext) (by decide) (HL.out.below hb.ext)).mono ?_
      rintro e w4 ⟨h9, hb4⟩
      rw [aw_is] at h9
      exact ⟨_, h9, hb4, rfl⟩
    · intro a w' hb hp
      have h42 : a.tmps[42]?.getD undef = .bool true := slot_eq.symm.trans (hp ⟨23, .data⟩ (by simp) rfl _ rfl)
      have h45 : a.tmps[45]?.getD undef = .bool true := slot_eq.symm.trans (hp ⟨26, .data⟩ (by simp) rfl _ rfl)
      exact step_run (v := .bool true) rfl (by simp [execOp, go_sem, h42, h45]) rfl
    · intro a w' hb hp
      have h46 : a.tmps[46]?.getD undef = .bool true := slot_eq.symm.trans (hp ⟨27, .data⟩ (by simp) rfl _ rfl)
      exact step_run (v := .bool true) rfl (by simp [execOp, Act.eval, h46]) rfl
    · intro a w' hb hp
      have b1 : a.tmps[1]?.getD undef = .pointer (some ⟨w.heap.size + 1, 0, none⟩) := hb.at 1 (by kernel_rfl)
      have g47 : a.tmps[47]?.getD undef = .bool true := slot_eq.symm.trans (hp ⟨28, .guard⟩ (by simp) rfl _ rfl)
      exact step_run (v := .agg #[.int .i64 3, .slice (some ⟨w.heap.size, 0, none⟩) 1 1]) (by simp [Region.wanted, yielded, bool_at g47]) (by simp [execOp, go_sem, b1, cell_of_row _ _ 0 _ _ _ (KO.out _ hb.ext), cell_of_row _ _ 1 _ _ _ (KO.out _ hb.ext)]) rfl
    · intro a w' hb hp
      have b2 : a.tmps[2]?.getD undef = .slice (some ad) 3 cl := hb.at 2 (by kernel_rfl)
      have g47 : a.tmps[47]?.getD undef = .bool true := slot_eq.symm.trans (hp ⟨28, .guard⟩ (by simp) rfl _ rfl)
      exact step_run (v := .slice (some ad) 3 cl) (by simp [Region.wanted, yielded, bool_at g47]) (by simp [execOp, Act.eval, b2]) rfl
    · intro a w' hb hp
      have h49 : a.tmps[49]?.getD undef = .slice (some ad) 3 cl := slot_eq.symm.trans (hp ⟨30, .data⟩ (by simp) rfl _ rfl)
      have g47 : a.tmps[47]?.getD undef = .bool true := slot_eq.symm.trans (hp ⟨28, .guard⟩ (by simp) rfl _ rfl)
      exact step_run (v := .slice (some ad) 2 cl) (by simp [Region.wanted, yielded, bool_at g47]) (by simp [execOp, go_sem, h49, show ¬ ((cl : Int) < 2) by omega]) rfl
    · intro a w' hb hp
      have h48 : a.tmps[48]?.getD undef = .agg #[.int .i64 3, .slice (some ⟨w.heap.size, 0, none⟩) 1 1] := slot_eq.symm.trans (hp ⟨29, .data⟩ (by simp) rfl _ rfl)
      have h50 : a.tmps[50]?.getD undef = .slice (some ad) 2 cl := slot_eq.symm.trans (hp ⟨31, .data⟩ (by simp) rfl _ rfl)
      have g47 : a.tmps[47]?.getD undef = .bool true := slot_eq.symm.trans (hp ⟨28, .guard⟩ (by simp) rfl _ rfl)
      refine step_call (f := 24) (args := #[.agg #[.int .i64 3, .slice (some ⟨w.heap.size, 0, none⟩) 1 1], .slice (some ad) 2 cl]) (by simp [Region.wanted, yielded, bool_at g47]) (by simp [go_sem, h48, h50]) ?_
      refine (cut_any 3 _ [(2, 0)] _ [1, 2] _ (HE.out.below hb.ext) (by decide) (HL2.out.below hb.ext) (by decide)).mono ?_
      rintro e w4 ⟨h9, hb4⟩
      rw [aw_cut] at h9
      exact ⟨_, h9, hb4, rfl⟩
    · intro a w' hb hp
      have h47 : a.tmps[47]?.getD undef = .bool true := slot_eq.symm.trans (hp ⟨28, .data⟩ (by simp) rfl _ rfl)
      have h51 : a.tmps[51]?.getD undef = .bool true := slot_eq.symm.trans (hp ⟨32, .data⟩ (by simp) rfl _ rfl)
      exact step_run (v := .bool true) rfl (by simp [execOp, go_sem, h47, h51]) rfl
    · intro a w' hb hp
      have h52 : a.tmps[52]?.getD undef = .bool true := slot_eq.symm.trans (hp ⟨33, .data⟩ (by simp) rfl _ rfl)
      exact step_run (v := .bool true) rfl (by simp [execOp, Act.eval, h52]) rfl
    · intro a w' hb hp
      have b1 : a.tmps[1]?.getD undef = .pointer (some ⟨w.heap.size + 1, 0, none⟩) := hb.at 1 (by kernel_rfl)
      have g53 : a.tmps[53]?.getD undef = .bool true := slot_eq.symm.trans (hp ⟨34, .guard⟩ (by simp) rfl _ rfl)
      exact step_run (v := .agg #[.int .i64 3, .slice (some ⟨w.heap.size, 0, none⟩) 1 1]) (by simp [Region.wanted, yielded, bool_at g53]) (by simp [execOp, go_sem, b1, cell_of_row _ _ 0 _ _ _ (KO.out _ hb.ext), cell_of_row _ _ 1 _ _ _ (KO.out _ hb.ext)]) rfl
    · intro a w' hb hp
      have h54 : a.tmps[54]?.getD undef = .agg #[.int .i64 3, .slice (some ⟨w.heap.size, 0, none⟩) 1 1] := slot_eq.symm.trans (hp ⟨35, .data⟩ (by simp) rfl _ rfl)
      have g53 : a.tmps[53]?.getD undef = .bool true := slot_eq.symm.trans (hp ⟨34, .guard⟩ (by simp) rfl _ rfl)
      refine step_call (f := 13) (args := #[.agg #[.int .i64 3, .slice (some ⟨w.heap.size, 0, none⟩) 1 1]]) (by simp [Region.wanted, yielded, bool_at g53]) (by simp [go_sem, h54]) ?_
      refine (valid_any 3 _ [(2, 0)] _ (HE.out.below hb.ext) (by decide)).mono ?_
      rintro e w4 ⟨h9, hb4⟩
      rw [aw_val] at h9
      exact ⟨_, h9, hb4, rfl⟩
    · intro a w' hb hp
      have h53 : a.tmps[53]?.getD undef = .bool true := slot_eq.symm.trans (hp ⟨34, .data⟩ (by simp) rfl _ rfl)
      have h55 : a.tmps[55]?.getD undef = .bool true := slot_eq.symm.trans (hp ⟨36, .data⟩ (by simp) rfl _ rfl)
      exact step_run (v := .bool true) rfl (by simp [execOp, go_sem, h53, h55]) rfl
    · intro a w' hb hp
      have h56 : a.tmps[56]?.getD undef = .bool true := slot_eq.symm.trans (hp ⟨37, .data⟩ (by simp) rfl _ rfl)
      exact step_run (v := .bool true) rfl (by simp [execOp, Act.eval, h56]) rfl
  · intro vs w8 hb8 hv
    have h38 : vs 38 = .bool true := hv 38 (by decide)
    simp only [putAll, Act.put, List.setIfInBounds_toArray, List.set_cons_zero, List.set_cons_succ, Nat.zero_add, Nat.reduceAdd, h38]
    clear hv
    have Hend := Lib.hid (bl2 Hb0.out (bl2 Hb2.out hb8))
    clear hb8
    go_wp2
    go_ret
    exact ⟨rfl, Hend.out⟩
end Go.Proofs.Ytcekfgahhicdcaa
