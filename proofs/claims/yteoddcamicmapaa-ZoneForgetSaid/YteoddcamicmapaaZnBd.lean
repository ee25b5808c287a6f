/- Layer 13: the contract of a zone's bound (tools/gen_zb.py). -/
import Derived.Test.YteoddcamicmapaaZnFn
namespace Go.Proofs.Yteoddcamicmapaa
open Go.RowKit

set_option maxRecDepth 20000 in
set_option maxHeartbeats 2000000 in
theorem bound_any (m i j : Nat) (v : Value) (b : List Int) (w : World) (h : Sl iv w v b) (hm : m ≤ 24) (hl : b.length = (m + 1) * (m + 1)) (hi : i ≤ m) (hj : j ≤ m) :
    Calls Try.prog 49 #[.agg #[.int .i64 (m : Int), v], .int .i64 (i : Int), .int .i64 (j : Int)] w (Tells w (.int .i64 (gt (m + 1) b i j))) := by
  have hlt := sq_lt (n := m + 1) (i := i) (j := j) (by omega) (by omega)
  obtain ⟨ad, c, rfl, hcap, hcell⟩ := sl_cell h (i * (m + 1) + j) (by omega)
  rw [gt_at (n := m + 1)] at hcell
  unfold iv at hcell
  have hat := fun w => at_any m i j (.slice (some ad) b.length c) w hm hi hj
  have hltp : i * (m + 1) + j < b.length := by omega
  generalize i * (m + 1) + j = p at *
  have HAT := Lib.hid hat
  have HLT : (p : Int) < (b.length : Int) := by omega
  have HC := Lib.hid ((((al1 w (.cells #[.int .i64 (m : Int), .slice (some ad) b.length c] 29))).cell (World.block_lt_of_cell? _ _ hcell)).trans hcell)
  have HX := Lib.hid (Bx.new w 29 #[.int .i64 (m : Int), .slice (some ad) b.length c])
  clear hcell h hlt hl hat
  go_enter Try.func49, Try.ntmps49
  go_wp2_with fail
  refine region_phi (n := 15) (Wd [(false, .pointer (some ⟨w.heap.size, 1, none⟩)),
      (false, .slice (some ad) b.length c),
      (false, .agg #[.int .i64 (m : Int), .slice (some ad) b.length c]),
      (false, .int .i64 (i : Int)),
      (false, .int .i64 (j : Int)),
      (false, .int .i64 (p : Int)),
      (false, .pointer (some (ad.add p))),
      (false, .int .i64 (gt (m + 1) b i j)),
      (false, .int .i64 (gt (m + 1) b i j))]) (by kernel_rfl) (by kernel_rfl) rfl (fun _ _ _ _ h _ => h) (allOps_spec ?_) ?_
  · refine ⟨?_, ?_, ?_, ?_, ?_, ?_, ?_, ?_, ?_, trivial⟩
    · intro a w' hb hp
      have b3 : a.tmps[3]?.getD undef = .pointer (some ⟨w.heap.size, 0, none⟩) := hb.at 3 (by kernel_rfl)
      exact wd_run rfl rfl (by simp [execOp, go_sem, Act.eval, b3])
    · intro a w' hb hp
      have q1 := (HX.out.below hb.ext).cell 1
      exact wd_run rfl rfl (by simp [execOp, go_sem, Act.eval, wd_get (hp ⟨0, .data⟩ (by simp) rfl _ rfl) rfl rfl, q1])
    · intro a w' hb hp
      have b3 : a.tmps[3]?.getD undef = .pointer (some ⟨w.heap.size, 0, none⟩) := hb.at 3 (by kernel_rfl)
      have q0 := (HX.out.below hb.ext).cell 0
      have q1 := (HX.out.below hb.ext).cell 1
      exact wd_run rfl rfl (by simp [execOp, go_sem, Act.eval, b3, q0, q1])
    · intro a w' hb hp
      have b1 : a.tmps[1]?.getD undef = .int .i64 (i : Int) := hb.at 1 (by kernel_rfl)
      exact wd_run rfl rfl (by simp [execOp, go_sem, Act.eval, b1])
    · intro a w' hb hp
      have b2 : a.tmps[2]?.getD undef = .int .i64 (j : Int) := hb.at 2 (by kernel_rfl)
      exact wd_run rfl rfl (by simp [execOp, go_sem, Act.eval, b2])
    · intro a w' hb hp
      refine step_call (f := 43) (args := #[.agg #[.int .i64 (m : Int), .slice (some ad) b.length c], .int .i64 (i : Int), .int .i64 (j : Int)]) rfl (by simp [go_sem, wd_get (hp ⟨2, .data⟩ (by simp) rfl _ rfl) rfl rfl, wd_get (hp ⟨3, .data⟩ (by simp) rfl _ rfl) rfl rfl, wd_get (hp ⟨4, .data⟩ (by simp) rfl _ rfl) rfl rfl]) ?_
      exact (HAT.out _).mono fun e w9 h9 => ⟨_, h9.1, h9.2, wd_mk rfl fun _ => rfl⟩
    · exact fun a w' hb hp => wd_run rfl rfl (by simp [execOp, go_sem, Act.eval, wd_get (hp ⟨1, .data⟩ (by simp) rfl _ rfl) rfl rfl, wd_get (hp ⟨5, .data⟩ (by simp) rfl _ rfl) rfl rfl, HLT])
    · intro a w' hb hp
      have qc := (hb.ext.cell (World.block_lt_of_cell? _ _ HC.out)).trans HC.out
      exact wd_run rfl rfl (by simp [execOp, go_sem, Act.eval, wd_get (hp ⟨6, .data⟩ (by simp) rfl _ rfl) rfl rfl, qc])
    · exact fun a w' hb hp => wd_run rfl rfl (by simp [execOp, go_sem, Act.eval, wd_get (hp ⟨7, .data⟩ (by simp) rfl _ rfl) rfl rfl])
  · intro vs w2 hext hall
    have HEXT := Lib.hid hext
    have e8 : vs 8 = .int .i64 (gt (m + 1) b i j) := hall 8 (by decide) rfl
    clear hext hall
    simp only [putAll, Act.put, List.setIfInBounds_toArray, List.set_cons_zero, List.set_cons_succ, Nat.zero_add, Nat.reduceAdd, e8]
    clear e8
    go_wp2
    go_ret
    exact Tells.of ((al1 w _).trans (HEXT.out.mono (by simp)))
end Go.Proofs.Yteoddcamicmapaa
