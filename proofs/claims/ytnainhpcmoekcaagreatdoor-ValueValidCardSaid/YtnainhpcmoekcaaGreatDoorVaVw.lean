/- ValueValid: for every input the law returns true (tools/gen_vfi.py valid). -/
import Derived.Test.YtnainhpcmoekcaaGreatDoorVaFt
import Derived.Test.YtnainhpcmoekcaaGreatDoorVaJ
import Derived.Test.YtnainhpcmoekcaaGreatDoorLaw
namespace Go.Proofs.YtnainhpcmoekcaaGreatDoor
open Go.RowKit

set_option maxRecDepth 100000 in
set_option maxHeartbeats 1600000 in
theorem valuevalid_walk (k lo hi kv n : Int) (s : Bs) (w : World) : Calls Tryz.prog 3 #[so k lo hi, vl kv n s] w (Tells w (.bool true)) := by
  unfold so vl
  go_enter Tryz.func3, Tryz.ntmps3
  go_wp2_with fail
  refine (awake_any _).mono ?_
  rintro e V ⟨rfl, hb⟩
  have HX := Lib.hid (Bx.two (T := 23) (cs := #[.int .i64 k, .int .i64 lo, .int .i64 hi]) rfl hb)
  have HY := Lib.hid (Bx.two' (T := 25) (cs := #[.int .i64 kv, .int .i64 n, .string (ofL s)]) rfl hb)
  have HB := Lib.hid (below_ext2 (al2 w _ _) hb)
  clear hb
  go_wp2_with fail
  refine region_phi (n := 35) (Wd [(false, .agg #[.int .i64 kv, .int .i64 n, .string (ofL s)]),
      (false, .bool (vlB kv n s)),
      (false, .agg #[.int .i64 kv, .int .i64 n, .string (ofL s)]),
      (false, .bool (vlB kv n s)),
      (false, .bool true),
      (false, .bool true),
      (false, .agg #[.int .i64 k, .int .i64 lo, .int .i64 hi]),
      (false, .bool (soB k lo hi)),
      (false, .agg #[.int .i64 k, .int .i64 lo, .int .i64 hi]),
      (false, .bool (soB k lo hi)),
      (false, .bool true),
      (false, .bool true),
      (false, .bool true),
      (false, .agg #[.int .i64 kv, .int .i64 n, .string (ofL s)]),
      (false, .int .i64 (nuI kv n s)),
      (false, .agg #[.int .i64 kv, .int .i64 n, .string (ofL s)]),
      (false, .int .i64 (nuI kv n s)),
      (false, .bool true),
      (false, .bool true),
      (false, .bool true),
      (false, .agg #[.int .i64 k, .int .i64 lo, .int .i64 hi]),
      (false, .agg #[.int .i64 kv, .int .i64 n, .string (ofL s)]),
      (false, .bool (fiB k lo hi kv n s)),
      (false, .agg #[.int .i64 k, .int .i64 lo, .int .i64 hi]),
      (false, .agg #[.int .i64 kv, .int .i64 n, .string (ofL s)]),
      (false, .bool (fiB k lo hi kv n s)),
      (false, .bool true),
      (false, .bool true),
      (false, .bool true)]) (by kernel_rfl) (by kernel_rfl) rfl (fun _ _ _ _ h _ => h) (allOps_spec ?_) ?_
  · refine ⟨?_, ?_, ?_, ?_, ?_, ?_, ?_, ?_, ?_, ?_, ?_, ?_, ?_, ?_, ?_, ?_, ?_, ?_, ?_, ?_, ?_, ?_, ?_, ?_, ?_, ?_, ?_, ?_, ?_, trivial⟩
    · intro ac w' hb hp
      have b3 : ac.tmps[3]?.getD undef = .pointer (some ⟨w.heap.size + 1, 0, none⟩) := hb.at 3 (by kernel_rfl)
      have q0 := (HY.out.below hb.ext).cell 0
      have q1 := (HY.out.below hb.ext).cell 1
      have q2 := (HY.out.below hb.ext).cell 2
      exact wd_run rfl rfl (by simp [execOp, go_sem, Act.eval, b3, q0, q1, q2])
    · intro ac w' hb hp
      refine step_call (f := 13) (args := #[.agg #[.int .i64 kv, .int .i64 n, .string (ofL s)]]) rfl (by simp [go_sem, wd_get (hp ⟨0, .data⟩ (by simp) rfl _ rfl) rfl rfl]) ?_
      exact (valid_any kv n s w').mono fun e w9 h9 => ⟨_, h9.1, h9.2, wd_mk rfl fun _ => rfl⟩
    · intro ac w' hb hp
      have b3 : ac.tmps[3]?.getD undef = .pointer (some ⟨w.heap.size + 1, 0, none⟩) := hb.at 3 (by kernel_rfl)
      have q0 := (HY.out.below hb.ext).cell 0
      have q1 := (HY.out.below hb.ext).cell 1
      have q2 := (HY.out.below hb.ext).cell 2
      exact wd_run rfl rfl (by simp [execOp, go_sem, Act.eval, b3, q0, q1, q2])
    · intro ac w' hb hp
      refine step_call (f := 14) (args := #[.agg #[.int .i64 kv, .int .i64 n, .string (ofL s)]]) rfl (by simp [go_sem, wd_get (hp ⟨2, .data⟩ (by simp) rfl _ rfl) rfl rfl]) ?_
      exact (rvalid_any kv n s w').mono fun e w9 h9 => ⟨_, h9.1, h9.2, wd_mk rfl fun _ => rfl⟩
    · exact fun ac w' hb hp => wd_run rfl rfl (by simp [execOp, go_sem, Act.eval, wd_get (hp ⟨1, .data⟩ (by simp) rfl _ rfl) rfl rfl, wd_get (hp ⟨3, .data⟩ (by simp) rfl _ rfl) rfl rfl])
    · exact fun ac w' hb hp => wd_run rfl rfl (by simp [execOp, go_sem, Act.eval, wd_get (hp ⟨4, .data⟩ (by simp) rfl _ rfl) rfl rfl])
    · intro ac w' hb hp
      have gg := wd_get (hp ⟨5, .guard⟩ (by simp) rfl _ rfl) rfl rfl
      have b2 : ac.tmps[2]?.getD undef = .pointer (some ⟨w.heap.size, 0, none⟩) := hb.at 2 (by kernel_rfl)
      have q0 := (HX.out.below hb.ext).cell 0
      have q1 := (HX.out.below hb.ext).cell 1
      have q2 := (HX.out.below hb.ext).cell 2
      exact wd_run rfl (by simp [Region.wanted, yielded, bool_at gg]) (by simp [execOp, go_sem, Act.eval, b2, q0, q1, q2])
    · intro ac w' hb hp
      have gg := wd_get (hp ⟨5, .guard⟩ (by simp) rfl _ rfl) rfl rfl
      refine step_call (f := 15) (args := #[.agg #[.int .i64 k, .int .i64 lo, .int .i64 hi]]) (by simp [Region.wanted, yielded, bool_at gg]) (by simp [go_sem, wd_get (hp ⟨6, .data⟩ (by simp) rfl _ rfl) rfl rfl]) ?_
      exact (so_walk k lo hi w').mono fun e w9 h9 => ⟨_, h9.1, h9.2, wd_mk rfl fun _ => rfl⟩
    · intro ac w' hb hp
      have gg := wd_get (hp ⟨5, .guard⟩ (by simp) rfl _ rfl) rfl rfl
      have b2 : ac.tmps[2]?.getD undef = .pointer (some ⟨w.heap.size, 0, none⟩) := hb.at 2 (by kernel_rfl)
      have q0 := (HX.out.below hb.ext).cell 0
      have q1 := (HX.out.below hb.ext).cell 1
      have q2 := (HX.out.below hb.ext).cell 2
      exact wd_run rfl (by simp [Region.wanted, yielded, bool_at gg]) (by simp [execOp, go_sem, Act.eval, b2, q0, q1, q2])
    · intro ac w' hb hp
      have gg := wd_get (hp ⟨5, .guard⟩ (by simp) rfl _ rfl) rfl rfl
      refine step_call (f := 16) (args := #[.agg #[.int .i64 k, .int .i64 lo, .int .i64 hi]]) (by simp [Region.wanted, yielded, bool_at gg]) (by simp [go_sem, wd_get (hp ⟨8, .data⟩ (by simp) rfl _ rfl) rfl rfl]) ?_
      exact (rso_walk k lo hi w').mono fun e w9 h9 => ⟨_, h9.1, h9.2, wd_mk rfl fun _ => rfl⟩
    · intro ac w' hb hp
      have gg := wd_get (hp ⟨5, .guard⟩ (by simp) rfl _ rfl) rfl rfl
      exact wd_run rfl (by simp [Region.wanted, yielded, bool_at gg]) (by simp [execOp, go_sem, Act.eval, wd_get (hp ⟨7, .data⟩ (by simp) rfl _ rfl) rfl rfl, wd_get (hp ⟨9, .data⟩ (by simp) rfl _ rfl) rfl rfl])
    · exact fun ac w' hb hp => wd_run rfl rfl (by simp [execOp, go_sem, Act.eval, wd_get (hp ⟨5, .data⟩ (by simp) rfl _ rfl) rfl rfl, wd_get (hp ⟨10, .data⟩ (by simp) rfl _ rfl) rfl rfl])
    · exact fun ac w' hb hp => wd_run rfl rfl (by simp [execOp, go_sem, Act.eval, wd_get (hp ⟨11, .data⟩ (by simp) rfl _ rfl) rfl rfl])
    · intro ac w' hb hp
      have gg := wd_get (hp ⟨12, .guard⟩ (by simp) rfl _ rfl) rfl rfl
      have b3 : ac.tmps[3]?.getD undef = .pointer (some ⟨w.heap.size + 1, 0, none⟩) := hb.at 3 (by kernel_rfl)
      have q0 := (HY.out.below hb.ext).cell 0
      have q1 := (HY.out.below hb.ext).cell 1
      have q2 := (HY.out.below hb.ext).cell 2
      exact wd_run rfl (by simp [Region.wanted, yielded, bool_at gg]) (by simp [execOp, go_sem, Act.eval, b3, q0, q1, q2])
    · intro ac w' hb hp
      have gg := wd_get (hp ⟨12, .guard⟩ (by simp) rfl _ rfl) rfl rfl
      refine step_call (f := 17) (args := #[.agg #[.int .i64 kv, .int .i64 n, .string (ofL s)]]) (by simp [Region.wanted, yielded, bool_at gg]) (by simp [go_sem, wd_get (hp ⟨13, .data⟩ (by simp) rfl _ rfl) rfl rfl]) ?_
      exact (number_any kv n s w').mono fun e w9 h9 => ⟨_, h9.1, h9.2, wd_mk rfl fun _ => rfl⟩
    · intro ac w' hb hp
      have gg := wd_get (hp ⟨12, .guard⟩ (by simp) rfl _ rfl) rfl rfl
      have b3 : ac.tmps[3]?.getD undef = .pointer (some ⟨w.heap.size + 1, 0, none⟩) := hb.at 3 (by kernel_rfl)
      have q0 := (HY.out.below hb.ext).cell 0
      have q1 := (HY.out.below hb.ext).cell 1
      have q2 := (HY.out.below hb.ext).cell 2
      exact wd_run rfl (by simp [Region.wanted, yielded, bool_at gg]) (by simp [execOp, go_sem, Act.eval, b3, q0, q1, q2])
    · intro ac w' hb hp
      have gg := wd_get (hp ⟨12, .guard⟩ (by simp) rfl _ rfl) rfl rfl
      refine step_call (f := 18) (args := #[.agg #[.int .i64 kv, .int .i64 n, .string (ofL s)]]) (by simp [Region.wanted, yielded, bool_at gg]) (by simp [go_sem, wd_get (hp ⟨15, .data⟩ (by simp) rfl _ rfl) rfl rfl]) ?_
      exact (rnumber_any kv n s w').mono fun e w9 h9 => ⟨_, h9.1, h9.2, wd_mk rfl fun _ => rfl⟩
    · intro ac w' hb hp
      have gg := wd_get (hp ⟨12, .guard⟩ (by simp) rfl _ rfl) rfl rfl
      exact wd_run rfl (by simp [Region.wanted, yielded, bool_at gg]) (by simp [execOp, go_sem, Act.eval, wd_get (hp ⟨14, .data⟩ (by simp) rfl _ rfl) rfl rfl, wd_get (hp ⟨16, .data⟩ (by simp) rfl _ rfl) rfl rfl])
    · exact fun ac w' hb hp => wd_run rfl rfl (by simp [execOp, go_sem, Act.eval, wd_get (hp ⟨12, .data⟩ (by simp) rfl _ rfl) rfl rfl, wd_get (hp ⟨17, .data⟩ (by simp) rfl _ rfl) rfl rfl])
    · exact fun ac w' hb hp => wd_run rfl rfl (by simp [execOp, go_sem, Act.eval, wd_get (hp ⟨18, .data⟩ (by simp) rfl _ rfl) rfl rfl])
    · intro ac w' hb hp
      have gg := wd_get (hp ⟨19, .guard⟩ (by simp) rfl _ rfl) rfl rfl
      have b2 : ac.tmps[2]?.getD undef = .pointer (some ⟨w.heap.size, 0, none⟩) := hb.at 2 (by kernel_rfl)
      have q0 := (HX.out.below hb.ext).cell 0
      have q1 := (HX.out.below hb.ext).cell 1
      have q2 := (HX.out.below hb.ext).cell 2
      exact wd_run rfl (by simp [Region.wanted, yielded, bool_at gg]) (by simp [execOp, go_sem, Act.eval, b2, q0, q1, q2])
    · intro ac w' hb hp
      have gg := wd_get (hp ⟨19, .guard⟩ (by simp) rfl _ rfl) rfl rfl
      have b3 : ac.tmps[3]?.getD undef = .pointer (some ⟨w.heap.size + 1, 0, none⟩) := hb.at 3 (by kernel_rfl)
      have q0 := (HY.out.below hb.ext).cell 0
      have q1 := (HY.out.below hb.ext).cell 1
      have q2 := (HY.out.below hb.ext).cell 2
      exact wd_run rfl (by simp [Region.wanted, yielded, bool_at gg]) (by simp [execOp, go_sem, Act.eval, b3, q0, q1, q2])
    · intro ac w' hb hp
      have gg := wd_get (hp ⟨19, .guard⟩ (by simp) rfl _ rfl) rfl rfl
      refine step_call (f := 19) (args := #[.agg #[.int .i64 k, .int .i64 lo, .int .i64 hi], .agg #[.int .i64 kv, .int .i64 n, .string (ofL s)]]) (by simp [Region.wanted, yielded, bool_at gg]) (by simp [go_sem, wd_get (hp ⟨20, .data⟩ (by simp) rfl _ rfl) rfl rfl, wd_get (hp ⟨21, .data⟩ (by simp) rfl _ rfl) rfl rfl]) ?_
      exact (fits_any k lo hi kv n s w').mono fun e w9 h9 => ⟨_, h9.1, h9.2, wd_mk rfl fun _ => rfl⟩
    · intro ac w' hb hp
      have gg := wd_get (hp ⟨19, .guard⟩ (by simp) rfl _ rfl) rfl rfl
      have b2 : ac.tmps[2]?.getD undef = .pointer (some ⟨w.heap.size, 0, none⟩) := hb.at 2 (by kernel_rfl)
      have q0 := (HX.out.below hb.ext).cell 0
      have q1 := (HX.out.below hb.ext).cell 1
      have q2 := (HX.out.below hb.ext).cell 2
      exact wd_run rfl (by simp [Region.wanted, yielded, bool_at gg]) (by simp [execOp, go_sem, Act.eval, b2, q0, q1, q2])
    · intro ac w' hb hp
      have gg := wd_get (hp ⟨19, .guard⟩ (by simp) rfl _ rfl) rfl rfl
      have b3 : ac.tmps[3]?.getD undef = .pointer (some ⟨w.heap.size + 1, 0, none⟩) := hb.at 3 (by kernel_rfl)
      have q0 := (HY.out.below hb.ext).cell 0
      have q1 := (HY.out.below hb.ext).cell 1
      have q2 := (HY.out.below hb.ext).cell 2
      exact wd_run rfl (by simp [Region.wanted, yielded, bool_at gg]) (by simp [execOp, go_sem, Act.eval, b3, q0, q1, q2])
    · intro ac w' hb hp
      have gg := wd_get (hp ⟨19, .guard⟩ (by simp) rfl _ rfl) rfl rfl
      refine step_call (f := 20) (args := #[.agg #[.int .i64 k, .int .i64 lo, .int .i64 hi], .agg #[.int .i64 kv, .int .i64 n, .string (ofL s)]]) (by simp [Region.wanted, yielded, bool_at gg]) (by simp [go_sem, wd_get (hp ⟨23, .data⟩ (by simp) rfl _ rfl) rfl rfl, wd_get (hp ⟨24, .data⟩ (by simp) rfl _ rfl) rfl rfl]) ?_
      exact (rfits_any k lo hi kv n s w').mono fun e w9 h9 => ⟨_, h9.1, h9.2, wd_mk rfl fun _ => rfl⟩
    · intro ac w' hb hp
      have gg := wd_get (hp ⟨19, .guard⟩ (by simp) rfl _ rfl) rfl rfl
      exact wd_run rfl (by simp [Region.wanted, yielded, bool_at gg]) (by simp [execOp, go_sem, Act.eval, wd_get (hp ⟨22, .data⟩ (by simp) rfl _ rfl) rfl rfl, wd_get (hp ⟨25, .data⟩ (by simp) rfl _ rfl) rfl rfl])
    · exact fun ac w' hb hp => wd_run rfl rfl (by simp [execOp, go_sem, Act.eval, wd_get (hp ⟨19, .data⟩ (by simp) rfl _ rfl) rfl rfl, wd_get (hp ⟨26, .data⟩ (by simp) rfl _ rfl) rfl rfl])
    · exact fun ac w' hb hp => wd_run rfl rfl (by simp [execOp, go_sem, Act.eval, wd_get (hp ⟨27, .data⟩ (by simp) rfl _ rfl) rfl rfl])
  · intro vz w9 hext hall
    have HEXT := Lib.hid hext
    have e28 : vz 28 = .bool true := hall 28 (by decide) rfl
    clear hext hall
    simp only [putAll, Act.put, List.setIfInBounds_toArray, List.set_cons_zero, List.set_cons_succ, Nat.zero_add, Nat.reduceAdd, e28]
    clear e28
    have HB9 := Lib.hid (below_ext2 HB.out HEXT.out)
    go_wp2_with fail
    go_ret
    exact ⟨rfl, HB9.out⟩
end Go.Proofs.YtnainhpcmoekcaaGreatDoor
