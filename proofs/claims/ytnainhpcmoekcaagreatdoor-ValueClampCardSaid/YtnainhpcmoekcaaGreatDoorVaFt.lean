/- value: Fits of both sides (tools/gen_vfi.py fits). -/
import Derived.Test.YtnainhpcmoekcaaGreatDoorVaRf
import Derived.Test.YtnainhpcmoekcaaGreatDoorWd
namespace Go.Proofs.YtnainhpcmoekcaaGreatDoor
open Go.RowKit

def fiB (k lo hi kv n : Int) (s : Bs) : Bool := ((((soB k lo hi && vlB kv n s) && decide (k = kv)) && decide (lo ≤ nuI kv n s)) && decide (nuI kv n s ≤ hi))
set_option maxRecDepth 100000 in
set_option maxHeartbeats 1600000 in
theorem fits_any (k lo hi kv n : Int) (s : Bs) (w : World) : Calls Tryz.prog 19 #[so k lo hi, vl kv n s] w (Tells w (.bool (fiB k lo hi kv n s))) := by
  obtain ⟨N, hN⟩ : ∃ N, N = nuI kv n s := ⟨_, rfl⟩
  obtain ⟨a1, h1⟩ : ∃ a, a = soB k lo hi := ⟨_, rfl⟩
  obtain ⟨a2, h2⟩ : ∃ a, a = vlB kv n s := ⟨_, rfl⟩
  obtain ⟨a3, h3⟩ : ∃ a, a = decide (k = kv) := ⟨_, rfl⟩
  obtain ⟨a4, h4⟩ : ∃ a, a = decide (lo ≤ N) := ⟨_, rfl⟩
  obtain ⟨a5, h5⟩ : ∃ a, a = decide (N ≤ hi) := ⟨_, rfl⟩
  obtain ⟨b2, g2⟩ : ∃ b, b = (a1 && a2) := ⟨_, rfl⟩
  obtain ⟨b3, g3⟩ : ∃ b, b = (b2 && a3) := ⟨_, rfl⟩
  obtain ⟨b4, g4⟩ : ∃ b, b = (b3 && a4) := ⟨_, rfl⟩
  obtain ⟨b5, g5⟩ : ∃ b, b = (b4 && a5) := ⟨_, rfl⟩
  have HF := Lib.hid (show fiB k lo hi kv n s = b5 by rw [g5, g4, g3, g2, h1, h2, h3, h4, h5, hN]; rfl)
  have HS := Lib.hid (show ∀ w6, Calls Tryz.prog 15 #[.agg #[.int .i64 k, .int .i64 lo, .int .i64 hi]] w6 (Tells w6 (.bool a1)) from fun w6 => by rw [h1]; exact so_walk k lo hi w6)
  have HV := Lib.hid (show ∀ w6, Calls Tryz.prog 13 #[.agg #[.int .i64 kv, .int .i64 n, .string (ofL s)]] w6 (Tells w6 (.bool a2)) from fun w6 => by rw [h2]; exact valid_any kv n s w6)
  have HN := Lib.hid (show ∀ w6, Calls Tryz.prog 17 #[.agg #[.int .i64 kv, .int .i64 n, .string (ofL s)]] w6 (Tells w6 (.int .i64 N)) from fun w6 => by rw [hN]; exact number_any kv n s w6)
  have HE := Lib.hid (show (k == kv) = a3 ∧ decide (k = kv) = a3 from ⟨by rw [h3]; rfl, h3.symm⟩)
  have HL := Lib.hid h4.symm
  have HU := Lib.hid h5.symm
  have H2 := Lib.hid g2
  have H3 := Lib.hid g3
  have H4 := Lib.hid g4
  have H5 := Lib.hid g5
  clear h1 h2 h3 h4 h5 g2 g3 g4 g5 hN
  have HX0 := Lib.hid (@Bx.two w _ _ (.cells #[.int .i64 kv, .int .i64 n, .string (ofL s)] 25) 23 #[.int .i64 k, .int .i64 lo, .int .i64 hi] rfl (Below.refl _ _))
  have HY0 := Lib.hid (@Bx.two' w _ (.cells #[.int .i64 k, .int .i64 lo, .int .i64 hi] 23) _ 25 #[.int .i64 kv, .int .i64 n, .string (ofL s)] rfl (Below.refl _ _))
  have HB0 := Lib.hid (al2 w (.cells #[.int .i64 k, .int .i64 lo, .int .i64 hi] 23) (.cells #[.int .i64 kv, .int .i64 n, .string (ofL s)] 25))
  unfold so vl
  go_enter Tryz.func19, Tryz.ntmps19
  go_wp2_with fail
  obtain ⟨V, hV⟩ : ∃ V, V = (w.alloc (.cells #[.int .i64 k, .int .i64 lo, .int .i64 hi] 23)).alloc (.cells #[.int .i64 kv, .int .i64 n, .string (ofL s)] 25) := ⟨_, rfl⟩
  have HX := Lib.hid (show Bx V w.heap.size 23 #[.int .i64 k, .int .i64 lo, .int .i64 hi] by rw [hV]; exact HX0.out)
  have HY := Lib.hid (show Bx V (w.heap.size + 1) 25 #[.int .i64 kv, .int .i64 n, .string (ofL s)] by rw [hV]; exact HY0.out)
  have HB := Lib.hid (show Below w.heap.size w V by rw [hV]; exact HB0.out)
  rw [← hV]
  clear hV HX0 HY0 HB0
  refine region_phi (n := 32) (Wd [(false, .agg #[.int .i64 k, .int .i64 lo, .int .i64 hi]),
      (false, .bool a1),
      (false, .bool a1),
      ((!a1), .agg #[.int .i64 kv, .int .i64 n, .string (ofL s)]),
      ((!a1), .bool a2),
      (false, .bool b2),
      (false, .bool b2),
      ((!b2), .pointer (some ⟨w.heap.size, 0, none⟩)),
      ((!b2), .int .i64 k),
      ((!b2), .pointer (some ⟨w.heap.size + 1, 0, none⟩)),
      ((!b2), .int .i64 kv),
      ((!b2), .bool a3),
      (false, .bool b3),
      (false, .bool b3),
      ((!b3), .pointer (some ⟨w.heap.size, 1, none⟩)),
      ((!b3), .int .i64 lo),
      ((!b3), .agg #[.int .i64 kv, .int .i64 n, .string (ofL s)]),
      ((!b3), .int .i64 N),
      ((!b3), .bool a4),
      (false, .bool b4),
      (false, .bool b4),
      ((!b4), .agg #[.int .i64 kv, .int .i64 n, .string (ofL s)]),
      ((!b4), .int .i64 N),
      ((!b4), .pointer (some ⟨w.heap.size, 2, none⟩)),
      ((!b4), .int .i64 hi),
      ((!b4), .bool a5),
      (false, .bool b5),
      (false, .bool b5)]) (by kernel_rfl) (by kernel_rfl) rfl (fun _ _ _ _ h _ => h) (allOps_spec ?_) ?_
  · refine ⟨?_, ?_, ?_, ?_, ?_, ?_, ?_, ?_, ?_, ?_, ?_, ?_, ?_, ?_, ?_, ?_, ?_, ?_, ?_, ?_, ?_, ?_, ?_, ?_, ?_, ?_, ?_, ?_, trivial⟩
    · intro ac w' hb hp
      have b2 : ac.tmps[2]?.getD undef = .pointer (some ⟨w.heap.size, 0, none⟩) := hb.at 2 (by kernel_rfl)
      have q0 := (HX.out.below hb.ext).cell 0
      have q1 := (HX.out.below hb.ext).cell 1
      have q2 := (HX.out.below hb.ext).cell 2
      exact wd_run rfl rfl (by simp [execOp, go_sem, Act.eval, b2, q0, q1, q2])
    · intro ac w' hb hp
      refine step_call (f := 15) (args := #[.agg #[.int .i64 k, .int .i64 lo, .int .i64 hi]]) rfl (by simp [go_sem, wd_get (hp ⟨0, .data⟩ (by simp) rfl _ rfl) rfl rfl]) ?_
      exact (HS.out w').mono fun e w9 h9 => ⟨_, h9.1, h9.2, wd_mk rfl fun _ => rfl⟩
    · intro ac w' hb hp
      exact wd_run rfl rfl (by simp [execOp, go_sem, Act.eval, wd_get (hp ⟨1, .data⟩ (by simp) rfl _ rfl) rfl rfl])
    · intro ac w' hb hp
      have gg := wd_get (hp ⟨2, .guard⟩ (by simp) rfl _ rfl) rfl rfl
      by_cases hg : a1 = true
      · rw [hg] at gg
        have b3 : ac.tmps[3]?.getD undef = .pointer (some ⟨w.heap.size + 1, 0, none⟩) := hb.at 3 (by kernel_rfl)
        have q0 := (HY.out.below hb.ext).cell 0
        have q1 := (HY.out.below hb.ext).cell 1
        have q2 := (HY.out.below hb.ext).cell 2
        exact wd_run rfl (by simp [Region.wanted, yielded, bool_at gg]) (by simp [execOp, go_sem, Act.eval, b3, q0, q1, q2])
      · rw [Bool.not_eq_true] at hg
        rw [hg] at gg
        exact wd_off rfl (by rw [hg] <;> rfl) (by simp [Region.wanted, yielded, bool_at gg])
    · intro ac w' hb hp
      have gg := wd_get (hp ⟨2, .guard⟩ (by simp) rfl _ rfl) rfl rfl
      by_cases hg : a1 = true
      · rw [hg] at gg
        refine step_call (f := 13) (args := #[.agg #[.int .i64 kv, .int .i64 n, .string (ofL s)]]) (by simp [Region.wanted, yielded, bool_at gg]) (by simp [go_sem, wd_get (hp ⟨3, .data⟩ (by simp) rfl _ rfl) rfl (by rw [hg] <;> rfl)]) ?_
        exact (HV.out w').mono fun e w9 h9 => ⟨_, h9.1, h9.2, wd_mk rfl fun _ => rfl⟩
      · rw [Bool.not_eq_true] at hg
        rw [hg] at gg
        exact wd_off rfl (by rw [hg] <;> rfl) (by simp [Region.wanted, yielded, bool_at gg])
    · intro ac w' hb hp
      have gg := wd_get (hp ⟨2, .data⟩ (by simp) rfl _ rfl) rfl rfl
      by_cases hg : a1 = true
      · rw [hg] at gg
        exact wd_run2 (v := .bool a2) rfl rfl (by simp [execOp, go_sem, Act.eval, gg, wd_get (hp ⟨4, .data⟩ (by simp) rfl _ rfl) rfl (by rw [hg] <;> rfl)]) (by rw [H2.out, hg] <;> simp)
      · rw [Bool.not_eq_true] at hg
        rw [hg] at gg
        exact wd_run2 (v := .bool false) rfl rfl (by simp [execOp, go_sem, Act.eval, gg]) (by rw [H2.out, hg] <;> simp)
    · intro ac w' hb hp
      exact wd_run rfl rfl (by simp [execOp, go_sem, Act.eval, wd_get (hp ⟨5, .data⟩ (by simp) rfl _ rfl) rfl rfl])
    · intro ac w' hb hp
      have gg := wd_get (hp ⟨6, .guard⟩ (by simp) rfl _ rfl) rfl rfl
      by_cases hg : b2 = true
      · rw [hg] at gg
        have b2 : ac.tmps[2]?.getD undef = .pointer (some ⟨w.heap.size, 0, none⟩) := hb.at 2 (by kernel_rfl)
        exact wd_run rfl (by simp [Region.wanted, yielded, bool_at gg]) (by simp [execOp, go_sem, Act.eval, b2])
      · rw [Bool.not_eq_true] at hg
        rw [hg] at gg
        exact wd_off rfl (by rw [hg] <;> rfl) (by simp [Region.wanted, yielded, bool_at gg])
    · intro ac w' hb hp
      have gg := wd_get (hp ⟨6, .guard⟩ (by simp) rfl _ rfl) rfl rfl
      by_cases hg : b2 = true
      · rw [hg] at gg
        have q0 := (HX.out.below hb.ext).cell 0
        exact wd_run rfl (by simp [Region.wanted, yielded, bool_at gg]) (by simp [execOp, go_sem, Act.eval, wd_get (hp ⟨7, .data⟩ (by simp) rfl _ rfl) rfl (by rw [hg] <;> rfl), q0])
      · rw [Bool.not_eq_true] at hg
        rw [hg] at gg
        exact wd_off rfl (by rw [hg] <;> rfl) (by simp [Region.wanted, yielded, bool_at gg])
    · intro ac w' hb hp
      have gg := wd_get (hp ⟨6, .guard⟩ (by simp) rfl _ rfl) rfl rfl
      by_cases hg : b2 = true
      · rw [hg] at gg
        have b3 : ac.tmps[3]?.getD undef = .pointer (some ⟨w.heap.size + 1, 0, none⟩) := hb.at 3 (by kernel_rfl)
        exact wd_run rfl (by simp [Region.wanted, yielded, bool_at gg]) (by simp [execOp, go_sem, Act.eval, b3])
      · rw [Bool.not_eq_true] at hg
        rw [hg] at gg
        exact wd_off rfl (by rw [hg] <;> rfl) (by simp [Region.wanted, yielded, bool_at gg])
    · intro ac w' hb hp
      have gg := wd_get (hp ⟨6, .guard⟩ (by simp) rfl _ rfl) rfl rfl
      by_cases hg : b2 = true
      · rw [hg] at gg
        have q0 := (HY.out.below hb.ext).cell 0
        exact wd_run rfl (by simp [Region.wanted, yielded, bool_at gg]) (by simp [execOp, go_sem, Act.eval, wd_get (hp ⟨9, .data⟩ (by simp) rfl _ rfl) rfl (by rw [hg] <;> rfl), q0])
      · rw [Bool.not_eq_true] at hg
        rw [hg] at gg
        exact wd_off rfl (by rw [hg] <;> rfl) (by simp [Region.wanted, yielded, bool_at gg])
    · intro ac w' hb hp
      have gg := wd_get (hp ⟨6, .guard⟩ (by simp) rfl _ rfl) rfl rfl
      by_cases hg : b2 = true
      · rw [hg] at gg
        exact wd_run rfl (by simp [Region.wanted, yielded, bool_at gg]) (by simp [execOp, go_sem, Act.eval, wd_get (hp ⟨8, .data⟩ (by simp) rfl _ rfl) rfl (by rw [hg] <;> rfl), wd_get (hp ⟨10, .data⟩ (by simp) rfl _ rfl) rfl (by rw [hg] <;> rfl), HE.out.1])
      · rw [Bool.not_eq_true] at hg
        rw [hg] at gg
        exact wd_off rfl (by rw [hg] <;> rfl) (by simp [Region.wanted, yielded, bool_at gg])
    · intro ac w' hb hp
      have gg := wd_get (hp ⟨6, .data⟩ (by simp) rfl _ rfl) rfl rfl
      by_cases hg : b2 = true
      · rw [hg] at gg
        exact wd_run2 (v := .bool a3) rfl rfl (by simp [execOp, go_sem, Act.eval, gg, wd_get (hp ⟨11, .data⟩ (by simp) rfl _ rfl) rfl (by rw [hg] <;> rfl)]) (by rw [H3.out, hg] <;> simp)
      · rw [Bool.not_eq_true] at hg
        rw [hg] at gg
        exact wd_run2 (v := .bool false) rfl rfl (by simp [execOp, go_sem, Act.eval, gg]) (by rw [H3.out, hg] <;> simp)
    · intro ac w' hb hp
      exact wd_run rfl rfl (by simp [execOp, go_sem, Act.eval, wd_get (hp ⟨12, .data⟩ (by simp) rfl _ rfl) rfl rfl])
    · intro ac w' hb hp
      have gg := wd_get (hp ⟨13, .guard⟩ (by simp) rfl _ rfl) rfl rfl
      by_cases hg : b3 = true
      · rw [hg] at gg
        have b2 : ac.tmps[2]?.getD undef = .pointer (some ⟨w.heap.size, 0, none⟩) := hb.at 2 (by kernel_rfl)
        exact wd_run rfl (by simp [Region.wanted, yielded, bool_at gg]) (by simp [execOp, go_sem, Act.eval, b2])
      · rw [Bool.not_eq_true] at hg
        rw [hg] at gg
        exact wd_off rfl (by rw [hg] <;> rfl) (by simp [Region.wanted, yielded, bool_at gg])
    · intro ac w' hb hp
      have gg := wd_get (hp ⟨13, .guard⟩ (by simp) rfl _ rfl) rfl rfl
      by_cases hg : b3 = true
      · rw [hg] at gg
        have q0 := (HX.out.below hb.ext).cell 1
        exact wd_run rfl (by simp [Region.wanted, yielded, bool_at gg]) (by simp [execOp, go_sem, Act.eval, wd_get (hp ⟨14, .data⟩ (by simp) rfl _ rfl) rfl (by rw [hg] <;> rfl), q0])
      · rw [Bool.not_eq_true] at hg
        rw [hg] at gg
        exact wd_off rfl (by rw [hg] <;> rfl) (by simp [Region.wanted, yielded, bool_at gg])
    · intro ac w' hb hp
      have gg := wd_get (hp ⟨13, .guard⟩ (by simp) rfl _ rfl) rfl rfl
      by_cases hg : b3 = true
      · rw [hg] at gg
        have b3 : ac.tmps[3]?.getD undef = .pointer (some ⟨w.heap.size + 1, 0, none⟩) := hb.at 3 (by kernel_rfl)
        have q0 := (HY.out.below hb.ext).cell 0
        have q1 := (HY.out.below hb.ext).cell 1
        have q2 := (HY.out.below hb.ext).cell 2
        exact wd_run rfl (by simp [Region.wanted, yielded, bool_at gg]) (by simp [execOp, go_sem, Act.eval, b3, q0, q1, q2])
      · rw [Bool.not_eq_true] at hg
        rw [hg] at gg
        exact wd_off rfl (by rw [hg] <;> rfl) (by simp [Region.wanted, yielded, bool_at gg])
    · intro ac w' hb hp
      have gg := wd_get (hp ⟨13, .guard⟩ (by simp) rfl _ rfl) rfl rfl
      by_cases hg : b3 = true
      · rw [hg] at gg
        refine step_call (f := 17) (args := #[.agg #[.int .i64 kv, .int .i64 n, .string (ofL s)]]) (by simp [Region.wanted, yielded, bool_at gg]) (by simp [go_sem, wd_get (hp ⟨16, .data⟩ (by simp) rfl _ rfl) rfl (by rw [hg] <;> rfl)]) ?_
        exact (HN.out w').mono fun e w9 h9 => ⟨_, h9.1, h9.2, wd_mk rfl fun _ => rfl⟩
      · rw [Bool.not_eq_true] at hg
        rw [hg] at gg
        exact wd_off rfl (by rw [hg] <;> rfl) (by simp [Region.wanted, yielded, bool_at gg])
    · intro ac w' hb hp
      have gg := wd_get (hp ⟨13, .guard⟩ (by simp) rfl _ rfl) rfl rfl
      by_cases hg : b3 = true
      · rw [hg] at gg
        exact wd_run rfl (by simp [Region.wanted, yielded, bool_at gg]) (by simp [execOp, go_sem, Act.eval, wd_get (hp ⟨15, .data⟩ (by simp) rfl _ rfl) rfl (by rw [hg] <;> rfl), wd_get (hp ⟨17, .data⟩ (by simp) rfl _ rfl) rfl (by rw [hg] <;> rfl), HL.out])
      · rw [Bool.not_eq_true] at hg
        rw [hg] at gg
        exact wd_off rfl (by rw [hg] <;> rfl) (by simp [Region.wanted, yielded, bool_at gg])
    · intro ac w' hb hp
      have gg := wd_get (hp ⟨13, .data⟩ (by simp) rfl _ rfl) rfl rfl
      by_cases hg : b3 = true
      · rw [hg] at gg
        exact wd_run2 (v := .bool a4) rfl rfl (by simp [execOp, go_sem, Act.eval, gg, wd_get (hp ⟨18, .data⟩ (by simp) rfl _ rfl) rfl (by rw [hg] <;> rfl)]) (by rw [H4.out, hg] <;> simp)
      · rw [Bool.not_eq_true] at hg
        rw [hg] at gg
        exact wd_run2 (v := .bool false) rfl rfl (by simp [execOp, go_sem, Act.eval, gg]) (by rw [H4.out, hg] <;> simp)
    · intro ac w' hb hp
      exact wd_run rfl rfl (by simp [execOp, go_sem, Act.eval, wd_get (hp ⟨19, .data⟩ (by simp) rfl _ rfl) rfl rfl])
    · intro ac w' hb hp
      have gg := wd_get (hp ⟨20, .guard⟩ (by simp) rfl _ rfl) rfl rfl
      by_cases hg : b4 = true
      · rw [hg] at gg
        have b3 : ac.tmps[3]?.getD undef = .pointer (some ⟨w.heap.size + 1, 0, none⟩) := hb.at 3 (by kernel_rfl)
        have q0 := (HY.out.below hb.ext).cell 0
        have q1 := (HY.out.below hb.ext).cell 1
        have q2 := (HY.out.below hb.ext).cell 2
        exact wd_run rfl (by simp [Region.wanted, yielded, bool_at gg]) (by simp [execOp, go_sem, Act.eval, b3, q0, q1, q2])
      · rw [Bool.not_eq_true] at hg
        rw [hg] at gg
        exact wd_off rfl (by rw [hg] <;> rfl) (by simp [Region.wanted, yielded, bool_at gg])
    · intro ac w' hb hp
      have gg := wd_get (hp ⟨20, .guard⟩ (by simp) rfl _ rfl) rfl rfl
      by_cases hg : b4 = true
      · rw [hg] at gg
        refine step_call (f := 17) (args := #[.agg #[.int .i64 kv, .int .i64 n, .string (ofL s)]]) (by simp [Region.wanted, yielded, bool_at gg]) (by simp [go_sem, wd_get (hp ⟨21, .data⟩ (by simp) rfl _ rfl) rfl (by rw [hg] <;> rfl)]) ?_
        exact (HN.out w').mono fun e w9 h9 => ⟨_, h9.1, h9.2, wd_mk rfl fun _ => rfl⟩
      · rw [Bool.not_eq_true] at hg
        rw [hg] at gg
        exact wd_off rfl (by rw [hg] <;> rfl) (by simp [Region.wanted, yielded, bool_at gg])
    · intro ac w' hb hp
      have gg := wd_get (hp ⟨20, .guard⟩ (by simp) rfl _ rfl) rfl rfl
      by_cases hg : b4 = true
      · rw [hg] at gg
        have b2 : ac.tmps[2]?.getD undef = .pointer (some ⟨w.heap.size, 0, none⟩) := hb.at 2 (by kernel_rfl)
        exact wd_run rfl (by simp [Region.wanted, yielded, bool_at gg]) (by simp [execOp, go_sem, Act.eval, b2])
      · rw [Bool.not_eq_true] at hg
        rw [hg] at gg
        exact wd_off rfl (by rw [hg] <;> rfl) (by simp [Region.wanted, yielded, bool_at gg])
    · intro ac w' hb hp
      have gg := wd_get (hp ⟨20, .guard⟩ (by simp) rfl _ rfl) rfl rfl
      by_cases hg : b4 = true
      · rw [hg] at gg
        have q0 := (HX.out.below hb.ext).cell 2
        exact wd_run rfl (by simp [Region.wanted, yielded, bool_at gg]) (by simp [execOp, go_sem, Act.eval, wd_get (hp ⟨23, .data⟩ (by simp) rfl _ rfl) rfl (by rw [hg] <;> rfl), q0])
      · rw [Bool.not_eq_true] at hg
        rw [hg] at gg
        exact wd_off rfl (by rw [hg] <;> rfl) (by simp [Region.wanted, yielded, bool_at gg])
    · intro ac w' hb hp
      have gg := wd_get (hp ⟨20, .guard⟩ (by simp) rfl _ rfl) rfl rfl
      by_cases hg : b4 = true
      · rw [hg] at gg
        exact wd_run rfl (by simp [Region.wanted, yielded, bool_at gg]) (by simp [execOp, go_sem, Act.eval, wd_get (hp ⟨22, .data⟩ (by simp) rfl _ rfl) rfl (by rw [hg] <;> rfl), wd_get (hp ⟨24, .data⟩ (by simp) rfl _ rfl) rfl (by rw [hg] <;> rfl), HU.out])
      · rw [Bool.not_eq_true] at hg
        rw [hg] at gg
        exact wd_off rfl (by rw [hg] <;> rfl) (by simp [Region.wanted, yielded, bool_at gg])
    · intro ac w' hb hp
      have gg := wd_get (hp ⟨20, .data⟩ (by simp) rfl _ rfl) rfl rfl
      by_cases hg : b4 = true
      · rw [hg] at gg
        exact wd_run2 (v := .bool a5) rfl rfl (by simp [execOp, go_sem, Act.eval, gg, wd_get (hp ⟨25, .data⟩ (by simp) rfl _ rfl) rfl (by rw [hg] <;> rfl)]) (by rw [H5.out, hg] <;> simp)
      · rw [Bool.not_eq_true] at hg
        rw [hg] at gg
        exact wd_run2 (v := .bool false) rfl rfl (by simp [execOp, go_sem, Act.eval, gg]) (by rw [H5.out, hg] <;> simp)
    · intro ac w' hb hp
      exact wd_run rfl rfl (by simp [execOp, go_sem, Act.eval, wd_get (hp ⟨26, .data⟩ (by simp) rfl _ rfl) rfl rfl])
  · intro vz w9 hext hall
    have HEXT := Lib.hid hext
    have e27 : vz 27 = .bool b5 := hall 27 (by decide) rfl
    clear hext hall
    simp only [putAll, Act.put, List.setIfInBounds_toArray, List.set_cons_zero, List.set_cons_succ, Nat.zero_add, Nat.reduceAdd, e27]
    clear e27
    have HB9 := Lib.hid (below_ext2 HB.out HEXT.out)
    go_wp2_with fail
    go_ret
    exact ⟨by rw [HF.out]; rfl, HB9.out⟩
set_option maxRecDepth 100000 in
set_option maxHeartbeats 1600000 in
theorem rfits_any (k lo hi kv n : Int) (s : Bs) (w : World) : Calls Tryz.prog 20 #[so k lo hi, vl kv n s] w (Tells w (.bool (fiB k lo hi kv n s))) := by
  obtain ⟨N, hN⟩ : ∃ N, N = nuI kv n s := ⟨_, rfl⟩
  obtain ⟨a1, h1⟩ : ∃ a, a = soB k lo hi := ⟨_, rfl⟩
  obtain ⟨a2, h2⟩ : ∃ a, a = vlB kv n s := ⟨_, rfl⟩
  obtain ⟨a3, h3⟩ : ∃ a, a = decide (k = kv) := ⟨_, rfl⟩
  obtain ⟨a4, h4⟩ : ∃ a, a = decide (lo ≤ N) := ⟨_, rfl⟩
  obtain ⟨a5, h5⟩ : ∃ a, a = decide (N ≤ hi) := ⟨_, rfl⟩
  obtain ⟨b2, g2⟩ : ∃ b, b = (a1 && a2) := ⟨_, rfl⟩
  obtain ⟨b3, g3⟩ : ∃ b, b = (b2 && a3) := ⟨_, rfl⟩
  obtain ⟨b4, g4⟩ : ∃ b, b = (b3 && a4) := ⟨_, rfl⟩
  obtain ⟨b5, g5⟩ : ∃ b, b = (b4 && a5) := ⟨_, rfl⟩
  have HF := Lib.hid (show fiB k lo hi kv n s = b5 by rw [g5, g4, g3, g2, h1, h2, h3, h4, h5, hN]; rfl)
  have HS := Lib.hid (show ∀ w6, Calls Tryz.prog 16 #[.agg #[.int .i64 k, .int .i64 lo, .int .i64 hi]] w6 (Tells w6 (.bool a1)) from fun w6 => by rw [h1]; exact rso_walk k lo hi w6)
  have HV := Lib.hid (show ∀ w6, Calls Tryz.prog 14 #[.agg #[.int .i64 kv, .int .i64 n, .string (ofL s)]] w6 (Tells w6 (.bool a2)) from fun w6 => by rw [h2]; exact rvalid_any kv n s w6)
  have HN := Lib.hid (show ∀ w6, Calls Tryz.prog 18 #[.agg #[.int .i64 kv, .int .i64 n, .string (ofL s)]] w6 (Tells w6 (.int .i64 N)) from fun w6 => by rw [hN]; exact rnumber_any kv n s w6)
  have HE := Lib.hid (show (k == kv) = a3 ∧ decide (k = kv) = a3 from ⟨by rw [h3]; rfl, h3.symm⟩)
  have HL := Lib.hid h4.symm
  have HU := Lib.hid h5.symm
  have H2 := Lib.hid g2
  have H3 := Lib.hid g3
  have H4 := Lib.hid g4
  have H5 := Lib.hid g5
  clear h1 h2 h3 h4 h5 g2 g3 g4 g5 hN
  have HX0 := Lib.hid (@Bx.two w _ _ (.cells #[.int .i64 kv, .int .i64 n, .string (ofL s)] 25) 23 #[.int .i64 k, .int .i64 lo, .int .i64 hi] rfl (Below.refl _ _))
  have HY0 := Lib.hid (@Bx.two' w _ (.cells #[.int .i64 k, .int .i64 lo, .int .i64 hi] 23) _ 25 #[.int .i64 kv, .int .i64 n, .string (ofL s)] rfl (Below.refl _ _))
  have HB0 := Lib.hid (al2 w (.cells #[.int .i64 k, .int .i64 lo, .int .i64 hi] 23) (.cells #[.int .i64 kv, .int .i64 n, .string (ofL s)] 25))
  unfold so vl
  go_enter Tryz.func20, Tryz.ntmps20
  go_wp2_with fail
  obtain ⟨V, hV⟩ : ∃ V, V = (w.alloc (.cells #[.int .i64 k, .int .i64 lo, .int .i64 hi] 23)).alloc (.cells #[.int .i64 kv, .int .i64 n, .string (ofL s)] 25) := ⟨_, rfl⟩
  have HX := Lib.hid (show Bx V w.heap.size 23 #[.int .i64 k, .int .i64 lo, .int .i64 hi] by rw [hV]; exact HX0.out)
  have HY := Lib.hid (show Bx V (w.heap.size + 1) 25 #[.int .i64 kv, .int .i64 n, .string (ofL s)] by rw [hV]; exact HY0.out)
  have HB := Lib.hid (show Below w.heap.size w V by rw [hV]; exact HB0.out)
  rw [← hV]
  clear hV HX0 HY0 HB0
  refine region_phi (n := 32) (Wd [(false, .agg #[.int .i64 k, .int .i64 lo, .int .i64 hi]),
      (false, .bool a1),
      (false, .bool a1),
      ((!a1), .agg #[.int .i64 kv, .int .i64 n, .string (ofL s)]),
      ((!a1), .bool a2),
      (false, .bool b2),
      (false, .bool b2),
      ((!b2), .pointer (some ⟨w.heap.size, 0, none⟩)),
      ((!b2), .int .i64 k),
      ((!b2), .pointer (some ⟨w.heap.size + 1, 0, none⟩)),
      ((!b2), .int .i64 kv),
      ((!b2), .bool a3),
      (false, .bool b3),
      (false, .bool b3),
      ((!b3), .agg #[.int .i64 kv, .int .i64 n, .string (ofL s)]),
      ((!b3), .int .i64 N),
      ((!b3), .pointer (some ⟨w.heap.size, 1, none⟩)),
      ((!b3), .int .i64 lo),
      ((!b3), .bool a4),
      (false, .bool b4),
      (false, .bool b4),
      ((!b4), .agg #[.int .i64 kv, .int .i64 n, .string (ofL s)]),
      ((!b4), .int .i64 N),
      ((!b4), .pointer (some ⟨w.heap.size, 2, none⟩)),
      ((!b4), .int .i64 hi),
      ((!b4), .bool a5),
      (false, .bool b5),
      (false, .bool b5)]) (by kernel_rfl) (by kernel_rfl) rfl (fun _ _ _ _ h _ => h) (allOps_spec ?_) ?_
  · refine ⟨?_, ?_, ?_, ?_, ?_, ?_, ?_, ?_, ?_, ?_, ?_, ?_, ?_, ?_, ?_, ?_, ?_, ?_, ?_, ?_, ?_, ?_, ?_, ?_, ?_, ?_, ?_, ?_, trivial⟩
    · intro ac w' hb hp
      have b2 : ac.tmps[2]?.getD undef = .pointer (some ⟨w.heap.size, 0, none⟩) := hb.at 2 (by kernel_rfl)
      have q0 := (HX.out.below hb.ext).cell 0
      have q1 := (HX.out.below hb.ext).cell 1
      have q2 := (HX.out.below hb.ext).cell 2
      exact wd_run rfl rfl (by simp [execOp, go_sem, Act.eval, b2, q0, q1, q2])
    · intro ac w' hb hp
      refine step_call (f := 16) (args := #[.agg #[.int .i64 k, .int .i64 lo, .int .i64 hi]]) rfl (by simp [go_sem, wd_get (hp ⟨0, .data⟩ (by simp) rfl _ rfl) rfl rfl]) ?_
      exact (HS.out w').mono fun e w9 h9 => ⟨_, h9.1, h9.2, wd_mk rfl fun _ => rfl⟩
    · intro ac w' hb hp
      exact wd_run rfl rfl (by simp [execOp, go_sem, Act.eval, wd_get (hp ⟨1, .data⟩ (by simp) rfl _ rfl) rfl rfl])
    · intro ac w' hb hp
      have gg := wd_get (hp ⟨2, .guard⟩ (by simp) rfl _ rfl) rfl rfl
      by_cases hg : a1 = true
      · rw [hg] at gg
        have b3 : ac.tmps[3]?.getD undef = .pointer (some ⟨w.heap.size + 1, 0, none⟩) := hb.at 3 (by kernel_rfl)
        have q0 := (HY.out.below hb.ext).cell 0
        have q1 := (HY.out.below hb.ext).cell 1
        have q2 := (HY.out.below hb.ext).cell 2
        exact wd_run rfl (by simp [Region.wanted, yielded, bool_at gg]) (by simp [execOp, go_sem, Act.eval, b3, q0, q1, q2])
      · rw [Bool.not_eq_true] at hg
        rw [hg] at gg
        exact wd_off rfl (by rw [hg] <;> rfl) (by simp [Region.wanted, yielded, bool_at gg])
    · intro ac w' hb hp
      have gg := wd_get (hp ⟨2, .guard⟩ (by simp) rfl _ rfl) rfl rfl
      by_cases hg : a1 = true
      · rw [hg] at gg
        refine step_call (f := 14) (args := #[.agg #[.int .i64 kv, .int .i64 n, .string (ofL s)]]) (by simp [Region.wanted, yielded, bool_at gg]) (by simp [go_sem, wd_get (hp ⟨3, .data⟩ (by simp) rfl _ rfl) rfl (by rw [hg] <;> rfl)]) ?_
        exact (HV.out w').mono fun e w9 h9 => ⟨_, h9.1, h9.2, wd_mk rfl fun _ => rfl⟩
      · rw [Bool.not_eq_true] at hg
        rw [hg] at gg
        exact wd_off rfl (by rw [hg] <;> rfl) (by simp [Region.wanted, yielded, bool_at gg])
    · intro ac w' hb hp
      have gg := wd_get (hp ⟨2, .data⟩ (by simp) rfl _ rfl) rfl rfl
      by_cases hg : a1 = true
      · rw [hg] at gg
        exact wd_run2 (v := .bool a2) rfl rfl (by simp [execOp, go_sem, Act.eval, gg, wd_get (hp ⟨4, .data⟩ (by simp) rfl _ rfl) rfl (by rw [hg] <;> rfl)]) (by rw [H2.out, hg] <;> simp)
      · rw [Bool.not_eq_true] at hg
        rw [hg] at gg
        exact wd_run2 (v := .bool false) rfl rfl (by simp [execOp, go_sem, Act.eval, gg]) (by rw [H2.out, hg] <;> simp)
    · intro ac w' hb hp
      exact wd_run rfl rfl (by simp [execOp, go_sem, Act.eval, wd_get (hp ⟨5, .data⟩ (by simp) rfl _ rfl) rfl rfl])
    · intro ac w' hb hp
      have gg := wd_get (hp ⟨6, .guard⟩ (by simp) rfl _ rfl) rfl rfl
      by_cases hg : b2 = true
      · rw [hg] at gg
        have b2 : ac.tmps[2]?.getD undef = .pointer (some ⟨w.heap.size, 0, none⟩) := hb.at 2 (by kernel_rfl)
        exact wd_run rfl (by simp [Region.wanted, yielded, bool_at gg]) (by simp [execOp, go_sem, Act.eval, b2])
      · rw [Bool.not_eq_true] at hg
        rw [hg] at gg
        exact wd_off rfl (by rw [hg] <;> rfl) (by simp [Region.wanted, yielded, bool_at gg])
    · intro ac w' hb hp
      have gg := wd_get (hp ⟨6, .guard⟩ (by simp) rfl _ rfl) rfl rfl
      by_cases hg : b2 = true
      · rw [hg] at gg
        have q0 := (HX.out.below hb.ext).cell 0
        exact wd_run rfl (by simp [Region.wanted, yielded, bool_at gg]) (by simp [execOp, go_sem, Act.eval, wd_get (hp ⟨7, .data⟩ (by simp) rfl _ rfl) rfl (by rw [hg] <;> rfl), q0])
      · rw [Bool.not_eq_true] at hg
        rw [hg] at gg
        exact wd_off rfl (by rw [hg] <;> rfl) (by simp [Region.wanted, yielded, bool_at gg])
    · intro ac w' hb hp
      have gg := wd_get (hp ⟨6, .guard⟩ (by simp) rfl _ rfl) rfl rfl
      by_cases hg : b2 = true
      · rw [hg] at gg
        have b3 : ac.tmps[3]?.getD undef = .pointer (some ⟨w.heap.size + 1, 0, none⟩) := hb.at 3 (by kernel_rfl)
        exact wd_run rfl (by simp [Region.wanted, yielded, bool_at gg]) (by simp [execOp, go_sem, Act.eval, b3])
      · rw [Bool.not_eq_true] at hg
        rw [hg] at gg
        exact wd_off rfl (by rw [hg] <;> rfl) (by simp [Region.wanted, yielded, bool_at gg])
    · intro ac w' hb hp
      have gg := wd_get (hp ⟨6, .guard⟩ (by simp) rfl _ rfl) rfl rfl
      by_cases hg : b2 = true
      · rw [hg] at gg
        have q0 := (HY.out.below hb.ext).cell 0
        exact wd_run rfl (by simp [Region.wanted, yielded, bool_at gg]) (by simp [execOp, go_sem, Act.eval, wd_get (hp ⟨9, .data⟩ (by simp) rfl _ rfl) rfl (by rw [hg] <;> rfl), q0])
      · rw [Bool.not_eq_true] at hg
        rw [hg] at gg
        exact wd_off rfl (by rw [hg] <;> rfl) (by simp [Region.wanted, yielded, bool_at gg])
    · intro ac w' hb hp
      have gg := wd_get (hp ⟨6, .guard⟩ (by simp) rfl _ rfl) rfl rfl
      by_cases hg : b2 = true
      · rw [hg] at gg
        exact wd_run rfl (by simp [Region.wanted, yielded, bool_at gg]) (by simp [execOp, go_sem, Act.eval, wd_get (hp ⟨8, .data⟩ (by simp) rfl _ rfl) rfl (by rw [hg] <;> rfl), wd_get (hp ⟨10, .data⟩ (by simp) rfl _ rfl) rfl (by rw [hg] <;> rfl), HE.out.1])
      · rw [Bool.not_eq_true] at hg
        rw [hg] at gg
        exact wd_off rfl (by rw [hg] <;> rfl) (by simp [Region.wanted, yielded, bool_at gg])
    · intro ac w' hb hp
      have gg := wd_get (hp ⟨6, .data⟩ (by simp) rfl _ rfl) rfl rfl
      by_cases hg : b2 = true
      · rw [hg] at gg
        exact wd_run2 (v := .bool a3) rfl rfl (by simp [execOp, go_sem, Act.eval, gg, wd_get (hp ⟨11, .data⟩ (by simp) rfl _ rfl) rfl (by rw [hg] <;> rfl)]) (by rw [H3.out, hg] <;> simp)
      · rw [Bool.not_eq_true] at hg
        rw [hg] at gg
        exact wd_run2 (v := .bool false) rfl rfl (by simp [execOp, go_sem, Act.eval, gg]) (by rw [H3.out, hg] <;> simp)
    · intro ac w' hb hp
      exact wd_run rfl rfl (by simp [execOp, go_sem, Act.eval, wd_get (hp ⟨12, .data⟩ (by simp) rfl _ rfl) rfl rfl])
    · intro ac w' hb hp
      have gg := wd_get (hp ⟨13, .guard⟩ (by simp) rfl _ rfl) rfl rfl
      by_cases hg : b3 = true
      · rw [hg] at gg
        have b3 : ac.tmps[3]?.getD undef = .pointer (some ⟨w.heap.size + 1, 0, none⟩) := hb.at 3 (by kernel_rfl)
        have q0 := (HY.out.below hb.ext).cell 0
        have q1 := (HY.out.below hb.ext).cell 1
        have q2 := (HY.out.below hb.ext).cell 2
        exact wd_run rfl (by simp [Region.wanted, yielded, bool_at gg]) (by simp [execOp, go_sem, Act.eval, b3, q0, q1, q2])
      · rw [Bool.not_eq_true] at hg
        rw [hg] at gg
        exact wd_off rfl (by rw [hg] <;> rfl) (by simp [Region.wanted, yielded, bool_at gg])
    · intro ac w' hb hp
      have gg := wd_get (hp ⟨13, .guard⟩ (by simp) rfl _ rfl) rfl rfl
      by_cases hg : b3 = true
      · rw [hg] at gg
        refine step_call (f := 18) (args := #[.agg #[.int .i64 kv, .int .i64 n, .string (ofL s)]]) (by simp [Region.wanted, yielded, bool_at gg]) (by simp [go_sem, wd_get (hp ⟨14, .data⟩ (by simp) rfl _ rfl) rfl (by rw [hg] <;> rfl)]) ?_
        exact (HN.out w').mono fun e w9 h9 => ⟨_, h9.1, h9.2, wd_mk rfl fun _ => rfl⟩
      · rw [Bool.not_eq_true] at hg
        rw [hg] at gg
        exact wd_off rfl (by rw [hg] <;> rfl) (by simp [Region.wanted, yielded, bool_at gg])
    · intro ac w' hb hp
      have gg := wd_get (hp ⟨13, .guard⟩ (by simp) rfl _ rfl) rfl rfl
      by_cases hg : b3 = true
      · rw [hg] at gg
        have b2 : ac.tmps[2]?.getD undef = .pointer (some ⟨w.heap.size, 0, none⟩) := hb.at 2 (by kernel_rfl)
        exact wd_run rfl (by simp [Region.wanted, yielded, bool_at gg]) (by simp [execOp, go_sem, Act.eval, b2])
      · rw [Bool.not_eq_true] at hg
        rw [hg] at gg
        exact wd_off rfl (by rw [hg] <;> rfl) (by simp [Region.wanted, yielded, bool_at gg])
    · intro ac w' hb hp
      have gg := wd_get (hp ⟨13, .guard⟩ (by simp) rfl _ rfl) rfl rfl
      by_cases hg : b3 = true
      · rw [hg] at gg
        have q0 := (HX.out.below hb.ext).cell 1
        exact wd_run rfl (by simp [Region.wanted, yielded, bool_at gg]) (by simp [execOp, go_sem, Act.eval, wd_get (hp ⟨16, .data⟩ (by simp) rfl _ rfl) rfl (by rw [hg] <;> rfl), q0])
      · rw [Bool.not_eq_true] at hg
        rw [hg] at gg
        exact wd_off rfl (by rw [hg] <;> rfl) (by simp [Region.wanted, yielded, bool_at gg])
    · intro ac w' hb hp
      have gg := wd_get (hp ⟨13, .guard⟩ (by simp) rfl _ rfl) rfl rfl
      by_cases hg : b3 = true
      · rw [hg] at gg
        exact wd_run rfl (by simp [Region.wanted, yielded, bool_at gg]) (by simp [execOp, go_sem, Act.eval, wd_get (hp ⟨15, .data⟩ (by simp) rfl _ rfl) rfl (by rw [hg] <;> rfl), wd_get (hp ⟨17, .data⟩ (by simp) rfl _ rfl) rfl (by rw [hg] <;> rfl), HL.out])
      · rw [Bool.not_eq_true] at hg
        rw [hg] at gg
        exact wd_off rfl (by rw [hg] <;> rfl) (by simp [Region.wanted, yielded, bool_at gg])
    · intro ac w' hb hp
      have gg := wd_get (hp ⟨13, .data⟩ (by simp) rfl _ rfl) rfl rfl
      by_cases hg : b3 = true
      · rw [hg] at gg
        exact wd_run2 (v := .bool a4) rfl rfl (by simp [execOp, go_sem, Act.eval, gg, wd_get (hp ⟨18, .data⟩ (by simp) rfl _ rfl) rfl (by rw [hg] <;> rfl)]) (by rw [H4.out, hg] <;> simp)
      · rw [Bool.not_eq_true] at hg
        rw [hg] at gg
        exact wd_run2 (v := .bool false) rfl rfl (by simp [execOp, go_sem, Act.eval, gg]) (by rw [H4.out, hg] <;> simp)
    · intro ac w' hb hp
      exact wd_run rfl rfl (by simp [execOp, go_sem, Act.eval, wd_get (hp ⟨19, .data⟩ (by simp) rfl _ rfl) rfl rfl])
    · intro ac w' hb hp
      have gg := wd_get (hp ⟨20, .guard⟩ (by simp) rfl _ rfl) rfl rfl
      by_cases hg : b4 = true
      · rw [hg] at gg
        have b3 : ac.tmps[3]?.getD undef = .pointer (some ⟨w.heap.size + 1, 0, none⟩) := hb.at 3 (by kernel_rfl)
        have q0 := (HY.out.below hb.ext).cell 0
        have q1 := (HY.out.below hb.ext).cell 1
        have q2 := (HY.out.below hb.ext).cell 2
        exact wd_run rfl (by simp [Region.wanted, yielded, bool_at gg]) (by simp [execOp, go_sem, Act.eval, b3, q0, q1, q2])
      · rw [Bool.not_eq_true] at hg
        rw [hg] at gg
        exact wd_off rfl (by rw [hg] <;> rfl) (by simp [Region.wanted, yielded, bool_at gg])
    · intro ac w' hb hp
      have gg := wd_get (hp ⟨20, .guard⟩ (by simp) rfl _ rfl) rfl rfl
      by_cases hg : b4 = true
      · rw [hg] at gg
        refine step_call (f := 18) (args := #[.agg #[.int .i64 kv, .int .i64 n, .string (ofL s)]]) (by simp [Region.wanted, yielded, bool_at gg]) (by simp [go_sem, wd_get (hp ⟨21, .data⟩ (by simp) rfl _ rfl) rfl (by rw [hg] <;> rfl)]) ?_
        exact (HN.out w').mono fun e w9 h9 => ⟨_, h9.1, h9.2, wd_mk rfl fun _ => rfl⟩
      · rw [Bool.not_eq_true] at hg
        rw [hg] at gg
        exact wd_off rfl (by rw [hg] <;> rfl) (by simp [Region.wanted, yielded, bool_at gg])
    · intro ac w' hb hp
      have gg := wd_get (hp ⟨20, .guard⟩ (by simp) rfl _ rfl) rfl rfl
      by_cases hg : b4 = true
      · rw [hg] at gg
        have b2 : ac.tmps[2]?.getD undef = .pointer (some ⟨w.heap.size, 0, none⟩) := hb.at 2 (by kernel_rfl)
        exact wd_run rfl (by simp [Region.wanted, yielded, bool_at gg]) (by simp [execOp, go_sem, Act.eval, b2])
      · rw [Bool.not_eq_true] at hg
        rw [hg] at gg
        exact wd_off rfl (by rw [hg] <;> rfl) (by simp [Region.wanted, yielded, bool_at gg])
    · intro ac w' hb hp
      have gg := wd_get (hp ⟨20, .guard⟩ (by simp) rfl _ rfl) rfl rfl
      by_cases hg : b4 = true
      · rw [hg] at gg
        have q0 := (HX.out.below hb.ext).cell 2
        exact wd_run rfl (by simp [Region.wanted, yielded, bool_at gg]) (by simp [execOp, go_sem, Act.eval, wd_get (hp ⟨23, .data⟩ (by simp) rfl _ rfl) rfl (by rw [hg] <;> rfl), q0])
      · rw [Bool.not_eq_true] at hg
        rw [hg] at gg
        exact wd_off rfl (by rw [hg] <;> rfl) (by simp [Region.wanted, yielded, bool_at gg])
    · intro ac w' hb hp
      have gg := wd_get (hp ⟨20, .guard⟩ (by simp) rfl _ rfl) rfl rfl
      by_cases hg : b4 = true
      · rw [hg] at gg
        exact wd_run rfl (by simp [Region.wanted, yielded, bool_at gg]) (by simp [execOp, go_sem, Act.eval, wd_get (hp ⟨22, .data⟩ (by simp) rfl _ rfl) rfl (by rw [hg] <;> rfl), wd_get (hp ⟨24, .data⟩ (by simp) rfl _ rfl) rfl (by rw [hg] <;> rfl), HU.out])
      · rw [Bool.not_eq_true] at hg
        rw [hg] at gg
        exact wd_off rfl (by rw [hg] <;> rfl) (by simp [Region.wanted, yielded, bool_at gg])
    · intro ac w' hb hp
      have gg := wd_get (hp ⟨20, .data⟩ (by simp) rfl _ rfl) rfl rfl
      by_cases hg : b4 = true
      · rw [hg] at gg
        exact wd_run2 (v := .bool a5) rfl rfl (by simp [execOp, go_sem, Act.eval, gg, wd_get (hp ⟨25, .data⟩ (by simp) rfl _ rfl) rfl (by rw [hg] <;> rfl)]) (by rw [H5.out, hg] <;> simp)
      · rw [Bool.not_eq_true] at hg
        rw [hg] at gg
        exact wd_run2 (v := .bool false) rfl rfl (by simp [execOp, go_sem, Act.eval, gg]) (by rw [H5.out, hg] <;> simp)
    · intro ac w' hb hp
      exact wd_run rfl rfl (by simp [execOp, go_sem, Act.eval, wd_get (hp ⟨26, .data⟩ (by simp) rfl _ rfl) rfl rfl])
  · intro vz w9 hext hall
    have HEXT := Lib.hid hext
    have e27 : vz 27 = .bool b5 := hall 27 (by decide) rfl
    clear hext hall
    simp only [putAll, Act.put, List.setIfInBounds_toArray, List.set_cons_zero, List.set_cons_succ, Nat.zero_add, Nat.reduceAdd, e27]
    clear e27
    have HB9 := Lib.hid (below_ext2 HB.out HEXT.out)
    go_wp2_with fail
    go_ret
    exact ⟨by rw [HF.out]; rfl, HB9.out⟩
end Go.Proofs.YtnainhpcmoekcaaGreatDoor
