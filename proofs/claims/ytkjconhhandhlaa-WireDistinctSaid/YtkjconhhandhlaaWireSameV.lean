/- The contract of the reference's SameValues. -/
import Derived.Test.YtkjconhhandhlaaWireVals
import Derived.Test.YtkjconhhandhlaaWireProper
import Derived.Test.YtkjconhhandhlaaRegion
namespace Go.Proofs.Ytkjconhhandhlaa
open Go.RowKit

def SvPost (w : World) (b : Bool) (e : Ending) (w' : World) : Prop := e = .returned (.bool b) ∧ Below w.heap.size w w'
theorem below_ext2 {a b c : World} (h : Below a.heap.size a b) (k : Below b.heap.size b c) : Below a.heap.size a c := h.trans (k.mono h.size)
theorem str_beq {s t : ByteArray} : (s.toList == t.toList) = decide (s = t) := by
  rw [Bool.eq_iff_iff, beq_iff_eq, decide_eq_true_iff]
  constructor
  · intro h
    apply ByteArray.ext
    apply Array.toList_inj.1
    simpa [ByteArray.toList_eq] using h
  · intro h; rw [h]

theorem vl_cmp {α : Type} (x0 y0 x1 y1 : Int) (x2 y2 : ByteArray) (r : Bool → α) (bb : Bool) (h : bb = decide ((x0, x1, x2) = (y0, y1, y2))) :
    (if x0 = y0 then if x1 = y1 then if x2.toList = y2.toList then r false else r true else r true else r true) = r (!bb) := by
  have e : x2.toList = y2.toList ↔ x2 = y2 := by
    have := str_beq (s := x2) (t := y2)
    constructor
    · intro h; rw [h] at this; simpa using this.symm
    · intro h; rw [h]
  rw [h]
  by_cases h0 : x0 = y0 <;> by_cases h1 : x1 = y1 <;> by_cases h2 : x2 = y2 <;> simp [h0, h1, h2, e]

set_option maxHeartbeats 1000000 in
theorem samevals_any (A A2 : Option Addr) (c c2 : Nat) (l m : List Vl) (w : World) (hx : Vals w (.slice A l.length c) l) (hy : Vals w (.slice A2 m.length c2) m) (hl : l.length ≤ 9223372036854775807) (hm : m.length ≤ 9223372036854775807) (b : Bool) (hb : b = decide (l = m)) :
    Calls Try.prog 34 #[.slice A l.length c, .slice A2 m.length c2] w (SvPost w b) := by
  have Hb := Lib.hid hb; clear hb
  have Hx := Lib.hid hx; clear hx
  have Hy := Lib.hid hy; clear hy
  by_cases hlen : l.length = m.length
  · have t0 : ((l.length : Int) != (m.length : Int)) = false := by rw [bne_eq_false_iff_eq]; omega
    have Hlen := Lib.hid hlen; clear hlen
    go_enter Try.func34, Try.ntmps34
    go_wp2
    go_loopw [5] (fun i wr => ∃ k : Nat, k ≤ l.length ∧ i = .int .i64 k ∧ l.take k = m.take k ∧ Below w.heap.size w wr) (fun i _ => l.length - (intOf i).toNat)
    case atStart => exact ⟨0, by omega, rfl, by simp, Below.refl _ _⟩
    case round =>
      obtain ⟨k, hk, rfl, htk, hbel⟩ := hrel
      have Hbel := Lib.hid hbel; clear hbel
      have Htk := Lib.hid htk; clear htk
      by_cases hlt : k < l.length
      · have hlt2 : k < m.length := by have := Hlen.out; omega
        rcases Hx.out.below Hbel.out with ⟨_, h0⟩ | ⟨ad, c', hv, hc, hcell⟩
        · rw [h0] at hlt; simp at hlt
        simp only [Value.slice.injEq] at hv
        obtain ⟨rfl, _, rfl⟩ := hv
        rcases Hy.out.below Hbel.out with ⟨_, h0⟩ | ⟨ad2, c2', hv, hc2, hcell2⟩
        · rw [h0] at hlt2; simp at hlt2
        simp only [Value.slice.injEq] at hv
        obtain ⟨rfl, _, rfl⟩ := hv
        obtain ⟨h1, h2, h3⟩ := hcell k _ (List.getElem?_eq_getElem hlt)
        obtain ⟨g1, g2, g3⟩ := hcell2 k _ (List.getElem?_eq_getElem hlt2)
        obtain ⟨⟨x0, x1, x2⟩, hx⟩ : ∃ x, x = l[k] := ⟨_, rfl⟩
        obtain ⟨⟨y0, y1, y2⟩, hy⟩ : ∃ y, y = m[k] := ⟨_, rfl⟩
        rw [← hx] at h1 h2 h3
        rw [← hy] at g1 g2 g3
        have HX := Lib.hid hx; have HY := Lib.hid hy; clear hx hy hcell hcell2
        simp only at h1 h2 h3 g1 g2 g3
        have i0 : (0 : Int) ≤ (k : Int) := by omega
        have i1 : (k : Int) < (l.length : Int) := by omega
        have i2 : (k : Int) < (m.length : Int) := by omega
        go_wp2
        obtain ⟨bb, hbb⟩ : ∃ bb, bb = decide ((x0, x1, x2) = (y0, y1, y2)) := ⟨_, rfl⟩
        have Hbb := Lib.hid hbb; clear hbb
        refine region_phi (n := 26) (fun i v w' => match i with
              | 0 => v = .slice (some ad) l.length c
              | 1 => v = .int .i64 (k : Int)
              | 2 => v = .pointer (some (ad.add (k * 3)))
              | 3 => v = .agg #[.int .i64 x0, .int .i64 x1, .string x2]
              | 4 => v = .slice (some ad2) m.length c2
              | 5 => v = .int .i64 (k : Int)
              | 6 => v = .pointer (some (ad2.add (k * 3)))
              | 7 => v = .agg #[.int .i64 y0, .int .i64 y1, .string y2]
              | 8 => v = .bool (!bb)
              | _ => True) (by kernel_rfl) (by kernel_rfl) rfl ?_ (allOps_spec ?_) ?_
        · intro i v w w' h hb
          match i, h with
          | 0, h => exact h
          | 1, h => exact h
          | 2, h => exact h
          | 3, h => exact h
          | 4, h => exact h
          | 5, h => exact h
          | 6, h => exact h
          | 7, h => exact h
          | 8, h => exact h
          | _ + 9, _ => trivial
        · refine ⟨?_, ?_, ?_, ?_, ?_, ?_, ?_, ?_, ?_, trivial⟩
          · intro a w' hb hp
            have b0 : a.tmps[0]?.getD undef = .slice (some ad) l.length c := hb.at 0 (by kernel_rfl)
            exact step_run (v := .slice (some ad) l.length c) rfl (by simp [execOp, Act.eval, b0]) rfl
          · intro a w' hb hp
            have b5 : a.tmps[5]?.getD undef = .int .i64 (k : Int) := hb.at 5 (by kernel_rfl)
            exact step_run (v := .int .i64 (k : Int)) rfl (by simp [execOp, Act.eval, b5]) rfl
          · intro a w' hb hp
            have h17 : a.tmps[17]?.getD undef = .slice (some ad) l.length c := slot_eq.symm.trans (hp ⟨0, .data⟩ (by simp) rfl _ rfl)
            have h18 : a.tmps[18]?.getD undef = .int .i64 (k : Int) := slot_eq.symm.trans (hp ⟨1, .data⟩ (by simp) rfl _ rfl)
            exact step_run (v := .pointer (some (ad.add (k * 3)))) rfl (by go_simp) rfl
          · intro a w' hb hp
            have h19 : a.tmps[19]?.getD undef = .pointer (some (ad.add (k * 3))) := slot_eq.symm.trans (hp ⟨2, .data⟩ (by simp) rfl _ rfl)
            have k1 : w'.cell? (ad.add (k * 3)) = some (.int .i64 x0) := by rw [hb.ext.cell (World.block_lt_of_cell? _ _ h1)]; exact h1
            have k2 : w'.cell? ⟨(ad.add (k * 3)).block, (ad.add (k * 3)).off + 1, none⟩ = some (.int .i64 x1) := by rw [hb.ext.cell (World.block_lt_of_cell? _ _ h2)]; exact h2
            have k3 : w'.cell? ⟨(ad.add (k * 3)).block, (ad.add (k * 3)).off + 2, none⟩ = some (.string x2) := by rw [hb.ext.cell (World.block_lt_of_cell? _ _ h3)]; exact h3
            exact step_run (v := .agg #[.int .i64 x0, .int .i64 x1, .string x2]) rfl (by go_simp) rfl
          · intro a w' hb hp
            have b1 : a.tmps[1]?.getD undef = .slice (some ad2) m.length c2 := hb.at 1 (by kernel_rfl)
            exact step_run (v := .slice (some ad2) m.length c2) rfl (by simp [execOp, Act.eval, b1]) rfl
          · intro a w' hb hp
            have b5 : a.tmps[5]?.getD undef = .int .i64 (k : Int) := hb.at 5 (by kernel_rfl)
            exact step_run (v := .int .i64 (k : Int)) rfl (by simp [execOp, Act.eval, b5]) rfl
          · intro a w' hb hp
            have h21 : a.tmps[21]?.getD undef = .slice (some ad2) m.length c2 := slot_eq.symm.trans (hp ⟨4, .data⟩ (by simp) rfl _ rfl)
            have h22 : a.tmps[22]?.getD undef = .int .i64 (k : Int) := slot_eq.symm.trans (hp ⟨5, .data⟩ (by simp) rfl _ rfl)
            exact step_run (v := .pointer (some (ad2.add (k * 3)))) rfl (by go_simp) rfl
          · intro a w' hb hp
            have h23 : a.tmps[23]?.getD undef = .pointer (some (ad2.add (k * 3))) := slot_eq.symm.trans (hp ⟨6, .data⟩ (by simp) rfl _ rfl)
            have k1 : w'.cell? (ad2.add (k * 3)) = some (.int .i64 y0) := by rw [hb.ext.cell (World.block_lt_of_cell? _ _ g1)]; exact g1
            have k2 : w'.cell? ⟨(ad2.add (k * 3)).block, (ad2.add (k * 3)).off + 1, none⟩ = some (.int .i64 y1) := by rw [hb.ext.cell (World.block_lt_of_cell? _ _ g2)]; exact g2
            have k3 : w'.cell? ⟨(ad2.add (k * 3)).block, (ad2.add (k * 3)).off + 2, none⟩ = some (.string y2) := by rw [hb.ext.cell (World.block_lt_of_cell? _ _ g3)]; exact g3
            exact step_run (v := .agg #[.int .i64 y0, .int .i64 y1, .string y2]) rfl (by go_simp) rfl
          · intro a w' hb hp
            have h20 : a.tmps[20]?.getD undef = .agg #[.int .i64 x0, .int .i64 x1, .string x2] := slot_eq.symm.trans (hp ⟨3, .data⟩ (by simp) rfl _ rfl)
            have h24 : a.tmps[24]?.getD undef = .agg #[.int .i64 y0, .int .i64 y1, .string y2] := slot_eq.symm.trans (hp ⟨7, .data⟩ (by simp) rfl _ rfl)
            exact step_run (v := .bool (!bb)) rfl (by go_simp; exact vl_cmp _ _ _ _ _ _ (fun z => Result.ok (Next.value (.bool z)) w') bb Hbb.out) rfl
        · intro vs w' hb hv
          have h8 : vs 8 = .bool (!bb) := hv 8 (by decide)
          simp only [putAll, Act.put, List.setIfInBounds_toArray, List.set_cons_zero, List.set_cons_succ, Nat.zero_add, Nat.reduceAdd, h8]
          clear hv h8
          have Hbe := Lib.hid (below_ext2 Hbel.out hb); clear hb
          cases bb with
          | true =>
            have hxy := Lib.hid (of_decide_eq_true Hbb.out.symm)
            go_wp2
            go_roundw
            case rel =>
              refine ⟨k + 1, by omega, by go_num, ?_, Hbe.out⟩
              rw [List.take_succ_eq_append_getElem hlt, List.take_succ_eq_append_getElem hlt2, Htk.out, ← HX.out, ← HY.out, hxy.out]
            case measure => simp [intOf]; omega
          | false =>
            have hxy := Lib.hid (of_decide_eq_false Hbb.out.symm)
            go_wp2
            go_ret
            refine ⟨?_, Hbe.out⟩
            have hne : b = false := by
              rw [Hb.out, decide_eq_false_iff_not]
              rintro rfl
              exact hxy.out (by rw [HX.out, HY.out])
            rw [hne]; rfl
      · have HB := Lib.hid (show b = true by
          rw [Hb.out, decide_eq_true_iff]
          have h := Htk.out
          rwa [List.take_of_length_le (by omega), List.take_of_length_le (by have := Hlen.out; omega)] at h)
        go_wp2
        go_ret
        exact ⟨by rw [HB.out]; rfl, Hbel.out⟩
  · have hne : ¬ l = m := fun h => hlen (by rw [h])
    have t0 : ((l.length : Int) != (m.length : Int)) = true := by rw [bne_iff_ne]; omega
    have HB := Lib.hid (show b = false by rw [Hb.out]; simp [hne]); clear hlen hne
    go_enter Try.func34, Try.ntmps34
    go_wp2
    go_ret
    exact ⟨by rw [HB.out]; rfl, Below.refl _ _⟩
end Go.Proofs.Ytkjconhhandhlaa
