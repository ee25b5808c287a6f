/- Layer 13: the contract of permits (tools/gen_zp.py). -/
import Derived.Test.YteoddcamicmapaaZnZo
namespace Go.Proofs.Yteoddcamicmapaa
open Go.RowKit

/-- Whether all bounds F are at most those of b. -/
noncomputable def perB (n : Nat) (F : Nat → Nat → Int) (b : List Int) : Bool := open Classical in decide (∀ i j, i < n → j < n → F i j ≤ gt n b i j)
theorem perB_iff {n : Nat} {F : Nat → Nat → Int} {b : List Int} : perB n F b = true ↔ ∀ i j, i < n → j < n → F i j ≤ gt n b i j := by unfold perB; exact @decide_eq_true_iff _ (Classical.propDecidable _)
theorem perB_bad {n : Nat} {F : Nat → Nat → Int} {b : List Int} {i j : Nat} (hi : i < n) (hj : j < n) (h : gt n b i j < F i j) : perB n F b = false := by
  cases hp : perB n F b with
  | false => rfl
  | true => have := perB_iff.1 hp i j hi hj; omega
set_option maxRecDepth 20000 in
set_option maxHeartbeats 1000000 in
theorem permits_any (m : Nat) (v : Value) (b : List Int) (w : World) (h : Sl iv w v b) (hm : m ≤ 24) (hl : b.length = (m + 1) * (m + 1)) (K : Nat) (bd cp : Array Value) (F : Nat → Nat → Int) (hE : Ent K) (hF : FnAt K bd cp w (m + 1) F) :
    Calls Try.prog 58 #[.agg #[.int .i64 (m : Int), v], .func (.func K) bd cp] w (Tells w (.bool (perB (m + 1) F b))) := by
  obtain ⟨A, c, rfl⟩ := h.shape
  obtain ⟨R, hR⟩ : ∃ R, R = perB (m + 1) F b := ⟨_, rfl⟩
  rw [← hR]
  have HR := Lib.hid hR
  have H := Lib.hid h
  have HF := Lib.hid hF
  have HE := Lib.hid hE
  have HL := Lib.hid hl
  have HX0 := Lib.hid (Bx.new w 29 #[.int .i64 (m : Int), .slice A b.length c])
  clear h hF hE hl hR
  go_enter Try.func58, Try.ntmps58
  go_wp2_with fail
  go_loopw [10] (fun i wr => ∃ k : Nat, k ≤ m + 1 ∧ i = .int .i64 (k : Int) ∧ Hid (∀ i j, i < k → j < m + 1 → F i j ≤ gt (m + 1) b i j) ∧ Below w.heap.size w wr ∧ Bx wr w.heap.size 29 #[.int .i64 (m : Int), .slice A b.length c]) (fun i _ => m + 1 - (intOf i).toNat)
  case atStart => exact ⟨0, Nat.zero_le _, rfl, Lib.hid (by intro i j hi; omega), al1 w _, HX0.out⟩
  case round =>
    obtain ⟨k, hk, rfl, HA, hbel, hx⟩ := hrel
    by_cases hlt : k < m + 1
    · have HB := Lib.hid hbel
      have HX := Lib.hid hx
      obtain ⟨x0, x1⟩ := hx.k2
      clear hbel hx
      go_wp2_with fail
      go_loopw [16] (fun i wr => ∃ j : Nat, j ≤ m + 1 ∧ i = .int .i64 (j : Int) ∧ Hid (∀ l, l < j → F k l ≤ gt (m + 1) b k l) ∧ Below w.heap.size w wr ∧ Bx wr w.heap.size 29 #[.int .i64 (m : Int), .slice A b.length c]) (fun i _ => m + 1 - (intOf i).toNat)
      case atStart => exact ⟨0, Nat.zero_le _, rfl, Lib.hid (by intro i hi; omega), HB.out, HX.out⟩
      case round =>
        clear HB HX x0 x1
        obtain ⟨j, hj, rfl, HA2, hbel, hx⟩ := hrel
        by_cases hjl : j < m + 1
        · have HBEL := Lib.hid hbel
          have HX := Lib.hid hx
          have HCALL := Lib.hid (HF.out k j hlt hjl)
          clear hbel hx
          go_wp2_with fail
          refine region_phi (n := 30) (Wd [(false, .func (.func K) bd cp),
              (false, .int .i64 (k : Int)),
              (false, .int .i64 (j : Int)),
              (false, .int .i64 (F k j)),
              (false, .agg #[.int .i64 (m : Int), .slice A b.length c]),
              (false, .int .i64 (k : Int)),
              (false, .int .i64 (j : Int)),
              (false, .int .i64 (gt (m + 1) b k j)),
              (false, .bool (decide (gt (m + 1) b k j < F k j)))]) (by kernel_rfl) (by kernel_rfl) rfl (fun _ _ _ _ h _ => h) (allOps_spec ?_) ?_
          · refine ⟨?_, ?_, ?_, ?_, ?_, ?_, ?_, ?_, ?_, trivial⟩
            · intro a w' hb hp
              have b1 : a.tmps[1]?.getD undef = .func (.func K) bd cp := hb.at 1 (by kernel_rfl)
              exact wd_run rfl rfl (by simp [execOp, go_sem, Act.eval, b1])
            · intro a w' hb hp
              have b5 : a.tmps[5]?.getD undef = .int .i64 (k : Int) := hb.at 5 (by kernel_rfl)
              exact wd_run rfl rfl (by simp [execOp, go_sem, Act.eval, b5])
            · intro a w' hb hp
              have b6 : a.tmps[6]?.getD undef = .int .i64 (j : Int) := hb.at 6 (by kernel_rfl)
              exact wd_run rfl rfl (by simp [execOp, go_sem, Act.eval, b6])
            · intro a w' hb hp
              have h19 := wd_get (hp ⟨0, .data⟩ (by simp) rfl _ rfl) rfl rfl
              have h20 := wd_get (hp ⟨1, .data⟩ (by simp) rfl _ rfl) rfl rfl
              have h21 := wd_get (hp ⟨2, .data⟩ (by simp) rfl _ rfl) rfl rfl
              have hc := HCALL.out _ (HBEL.out.trans (hb.ext.mono HBEL.out.size))
              refine step_call (f := K) (args := bd ++ #[.int .i64 (k : Int), .int .i64 (j : Int)] ++ cp) rfl ?_ ?_
              · simp [execOp, go_sem, Act.eval, wd_get (hp ⟨0, .data⟩ (by simp) rfl _ rfl) rfl rfl, wd_get (hp ⟨1, .data⟩ (by simp) rfl _ rfl) rfl rfl, wd_get (hp ⟨2, .data⟩ (by simp) rfl _ rfl) rfl rfl]
                exact HE.out _ _
              · refine hc.mono ?_
                rintro e w9 ⟨rfl, h9⟩
                exact ⟨_, rfl, h9, wd_mk rfl fun _ => rfl⟩
            · intro a w' hb hp
              have b2 : a.tmps[2]?.getD undef = .pointer (some ⟨w.heap.size, 0, none⟩) := hb.at 2 (by kernel_rfl)
              have q0 := (HX.out.below hb.ext).cell 0
              have q1 := (HX.out.below hb.ext).cell 1
              exact wd_run rfl rfl (by simp [execOp, go_sem, Act.eval, b2, q0, q1])
            · intro a w' hb hp
              have b5 : a.tmps[5]?.getD undef = .int .i64 (k : Int) := hb.at 5 (by kernel_rfl)
              exact wd_run rfl rfl (by simp [execOp, go_sem, Act.eval, b5])
            · intro a w' hb hp
              have b6 : a.tmps[6]?.getD undef = .int .i64 (j : Int) := hb.at 6 (by kernel_rfl)
              exact wd_run rfl rfl (by simp [execOp, go_sem, Act.eval, b6])
            · intro a w' hb hp
              refine step_call (f := 49) (args := #[.agg #[.int .i64 (m : Int), .slice A b.length c], .int .i64 (k : Int), .int .i64 (j : Int)]) rfl (by simp [go_sem, wd_get (hp ⟨4, .data⟩ (by simp) rfl _ rfl) rfl rfl, wd_get (hp ⟨5, .data⟩ (by simp) rfl _ rfl) rfl rfl, wd_get (hp ⟨6, .data⟩ (by simp) rfl _ rfl) rfl rfl]) ?_
              exact (bound_any m k j _ b _ (H.out.below (HBEL.out.trans (hb.ext.mono HBEL.out.size))) hm HL.out (by omega) (by omega)).mono fun e w9 h9 => ⟨_, h9.1, h9.2, wd_mk rfl fun _ => rfl⟩
            · exact fun a w' hb hp => wd_run rfl rfl (by simp [execOp, go_sem, Act.eval, wd_get (hp ⟨3, .data⟩ (by simp) rfl _ rfl) rfl rfl, wd_get (hp ⟨7, .data⟩ (by simp) rfl _ rfl) rfl rfl])
          · intro vs w2 hext hall
            have HEXT := Lib.hid hext
            have e8 : vs 8 = .bool (decide (gt (m + 1) b k j < F k j)) := hall 8 (by decide) rfl
            clear hext hall
            simp only [putAll, Act.put, List.setIfInBounds_toArray, List.set_cons_zero, List.set_cons_succ, Nat.zero_add, Nat.reduceAdd, e8]
            clear e8
            have HB2 := Lib.hid (HBEL.out.trans (HEXT.out.mono HBEL.out.size))
            have HX2 := Lib.hid (HX.out.below HEXT.out)
            by_cases hc : gt (m + 1) b k j < F k j
            · have hr : R = false := HR.out.trans (perB_bad hlt hjl hc)
              subst hr
              rw [decide_eq_true hc]
              clear hc
              go_wp2
              go_ret
              exact Tells.of HB2.out
            · rw [decide_eq_false hc]
              have HA3 := Lib.hid (show ∀ l, l < j + 1 → F k l ≤ gt (m + 1) b k l from fun l hl2 => by
                by_cases e : l = j
                · subst e; omega
                · exact HA2.out l (by omega))
              clear hc
              go_wp2
              go_roundw
              case rel => exact ⟨j + 1, by omega, by go_num, HA3, HB2.out, HX2.out⟩
              case measure => simp [intOf]; omega
        · obtain rfl : j = m + 1 := by omega
          have HA3 := Lib.hid (show ∀ i j, i < k + 1 → j < m + 1 → F i j ≤ gt (m + 1) b i j from fun i j hi hj => by
            by_cases e : i = k
            · subst e; exact HA2.out j hj
            · exact HA.out i j (by omega) hj)
          have HBEL := Lib.hid hbel
          have HX := Lib.hid hx
          clear hbel hx
          go_wp2
          go_roundw
          case rel => exact ⟨k + 1, by omega, by go_num, HA3, HBEL.out, HX.out⟩
          case measure => simp [intOf]; omega
    · have hr : R = true := HR.out.trans (perB_iff.2 fun i j hi hj => HA.out i j (by omega) hj)
      subst hr
      have HBEL := Lib.hid hbel
      clear hbel hx
      go_wp2
      go_ret
      exact Tells.of HBEL.out
end Go.Proofs.Yteoddcamicmapaa
