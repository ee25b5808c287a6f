/- Layer 10: the contracts of showAtom, showField, within, isElse. -/
import Derived.Test.YtekpefcggikcbaaGreatDoorMPtLn
namespace Go.Proofs.YtekpefcggikcbaaGreatDoor
open Go.RowKit

section
variable {w w' : World}
def SmAm (a : Am) : Prop := SmTm a.l ∧ a.op.length ≤ 1000 ∧ SmTm a.r
theorem showAtom_len (a : Am) (h : SmAm a) : (showAtomB a).length ≤ 6000 := by
  have h1 := showTerm_len a.l h.1
  have h2 := showTerm_len a.r h.2.2
  have h3 := h.2.1
  unfold showAtomB
  simp only [List.length_append, List.length_cons, List.length_nil]
  omega
set_option maxRecDepth 20000 in
set_option maxHeartbeats 4000000 in
theorem showAtom_any (h : Tb w) (a : Am) (ha : SmAm a) : Calls Tryz.prog 209 #[vA a] w (Tells w (.string (ofL (showAtomB a)))) := by
  obtain ⟨l, op, r⟩ := a
  obtain ⟨hl, ho, hr⟩ := ha
  have hzo : (ofL op).size ≤ 1000 := by rw [ofL_size]; exact ho
  have hzl : (ofL (showTermB l)).size ≤ 2200 := by rw [ofL_size]; exact showTerm_len l hl
  have hzr : (ofL (showTermB r)).size ≤ 2200 := by rw [ofL_size]; exact showTerm_len r hr
  have hz1 : (ofL [32]).size = 1 := rfl
  have HL := Lib.hid (show SmTm l from hl)
  have HRR := Lib.hid (show SmTm r from hr)
  have hE : ofL (showAtomB ⟨l, op, r⟩) = ofL (showTermB l) ++ (⟨#[32]⟩ : ByteArray) ++ ofL op ++ (⟨#[32]⟩ : ByteArray) ++ ofL (showTermB r) := (ofL_app5 _ _ _ _ _).symm
  rw [hE]
  unfold vA
  have B1 := Lib.hid ((Below.refl _ w).alloc (Nat.le_refl _) (.cells #[.int .i64 l.k, .string (ofL l.m), .string (ofL l.f), .int .i64 l.n, .string (ofL op), .int .i64 r.k, .string (ofL r.m), .string (ofL r.f), .int .i64 r.n] 100))
  have HTB := Lib.hid (Tb.below (w' := (w.alloc (.cells #[.int .i64 l.k, .string (ofL l.m), .string (ofL l.f), .int .i64 l.n, .string (ofL op), .int .i64 r.k, .string (ofL r.m), .string (ofL r.f), .int .i64 r.n] 100))) h B1.out)
  have HC := Lib.hid (Bx.new w 100 #[.int .i64 l.k, .string (ofL l.m), .string (ofL l.f), .int .i64 l.n, .string (ofL op), .int .i64 r.k, .string (ofL r.m), .string (ofL r.f), .int .i64 r.n])
  clear h hl hr ho hE
  go_enter Tryz.func209, Tryz.ntmps209
  go_wp2_with fail
  refine region_phi (n := 15) (fun i v w' => match i with
        | 0 => v = .pointer (some ⟨w.heap.size, 0, none⟩)
        | 1 => v = .agg #[.int .i64 l.k, .string (ofL l.m), .string (ofL l.f), .int .i64 l.n]
        | 2 => v = .string (ofL (showTermB l))
        | 3 => v = .string (ofL (showTermB l) ++ (⟨#[32]⟩ : ByteArray))
        | 4 => v = .pointer (some ⟨w.heap.size, 4, none⟩)
        | 5 => v = .string (ofL op)
        | 6 => v = .string (ofL (showTermB l) ++ (⟨#[32]⟩ : ByteArray) ++ ofL op)
        | 7 => v = .string (ofL (showTermB l) ++ (⟨#[32]⟩ : ByteArray) ++ ofL op ++ (⟨#[32]⟩ : ByteArray))
        | 8 => v = .pointer (some ⟨w.heap.size, 5, none⟩)
        | 9 => v = .agg #[.int .i64 r.k, .string (ofL r.m), .string (ofL r.f), .int .i64 r.n]
        | 10 => v = .string (ofL (showTermB r))
        | 11 => v = .string (ofL (showTermB l) ++ (⟨#[32]⟩ : ByteArray) ++ ofL op ++ (⟨#[32]⟩ : ByteArray) ++ ofL (showTermB r))
        | 12 => v = .string (ofL (showTermB l) ++ (⟨#[32]⟩ : ByteArray) ++ ofL op ++ (⟨#[32]⟩ : ByteArray) ++ ofL (showTermB r))
        | _ => True) (by kernel_rfl) (by kernel_rfl) rfl ?_ (allOps_spec ?_) ?_
  · intro i v w w' h hb
    match i, h with
    | 0, h => exact h
    | 1, h => exact h
    | 2, h => exact h
    | 3, h => exact h
    | 4, h => exact h
    | 5, h => exact h
    | 6, h => exact h
    | 7, h => exact h
    | 8, h => exact h
    | 9, h => exact h
    | 10, h => exact h
    | 11, h => exact h
    | 12, h => exact h
    | _ + 13, _ => trivial
  · refine ⟨?_, ?_, ?_, ?_, ?_, ?_, ?_, ?_, ?_, ?_, ?_, ?_, ?_, trivial⟩
    · intro a w' hb hp
      have b1 : a.tmps[1]?.getD undef = .pointer (some ⟨w.heap.size, 0, none⟩) := hb.at 1 (by kernel_rfl)
      exact step_run (v := .pointer (some ⟨w.heap.size, 0, none⟩)) rfl (by simp [execOp, go_sem, b1, Act.eval]) rfl
    · intro a w' hb hp
      have h3 : a.tmps[3]?.getD undef = .pointer (some ⟨w.heap.size, 0, none⟩) := slot_eq.symm.trans (hp ⟨0, .data⟩ (by simp) rfl _ rfl)
      have k0 : w'.cell? ⟨w.heap.size, 0, none⟩ = some (.int .i64 l.k) := (hb.ext.cell (by simp)).trans (HC.out.cell 0)
      have k1 : w'.cell? ⟨w.heap.size, 1, none⟩ = some (.string (ofL l.m)) := (hb.ext.cell (by simp)).trans (HC.out.cell 1)
      have k2 : w'.cell? ⟨w.heap.size, 2, none⟩ = some (.string (ofL l.f)) := (hb.ext.cell (by simp)).trans (HC.out.cell 2)
      have k3 : w'.cell? ⟨w.heap.size, 3, none⟩ = some (.int .i64 l.n) := (hb.ext.cell (by simp)).trans (HC.out.cell 3)
      exact step_run (v := .agg #[.int .i64 l.k, .string (ofL l.m), .string (ofL l.f), .int .i64 l.n]) rfl (by simp [execOp, go_sem, Act.eval, h3, k0, k1, k2, k3]) rfl
    · intro a w' hb hp
      have h4 : a.tmps[4]?.getD undef = .agg #[.int .i64 l.k, .string (ofL l.m), .string (ofL l.f), .int .i64 l.n] := slot_eq.symm.trans (hp ⟨1, .data⟩ (by simp) rfl _ rfl)
      refine step_call (f := 236) (args := #[.agg #[.int .i64 l.k, .string (ofL l.m), .string (ofL l.f), .int .i64 l.n]]) rfl (by simp [go_sem, h4]) ?_
      refine (showTerm_any (HTB.out.below hb.ext) l HL.out).mono ?_
      rintro e w5 ⟨rfl, hb5⟩
      exact ⟨_, rfl, hb5, rfl⟩
    · intro a w' hb hp
      have h5 : a.tmps[5]?.getD undef = .string (ofL (showTermB l)) := slot_eq.symm.trans (hp ⟨2, .data⟩ (by simp) rfl _ rfl)
      exact step_run (v := .string (ofL (showTermB l) ++ (⟨#[32]⟩ : ByteArray))) rfl (by simp [execOp, go_sem, Act.eval, h5]; omega) rfl
    · intro a w' hb hp
      have b1 : a.tmps[1]?.getD undef = .pointer (some ⟨w.heap.size, 0, none⟩) := hb.at 1 (by kernel_rfl)
      exact step_run (v := .pointer (some ⟨w.heap.size, 4, none⟩)) rfl (by simp [execOp, go_sem, b1, Act.eval]) rfl
    · intro a w' hb hp
      have h7 : a.tmps[7]?.getD undef = .pointer (some ⟨w.heap.size, 4, none⟩) := slot_eq.symm.trans (hp ⟨4, .data⟩ (by simp) rfl _ rfl)
      have k4 : w'.cell? ⟨w.heap.size, 4, none⟩ = some (.string (ofL op)) := (hb.ext.cell (by simp)).trans (HC.out.cell 4)
      exact step_run (v := .string (ofL op)) rfl (by simp [execOp, go_sem, Act.eval, h7, k4]) rfl
    · intro a w' hb hp
      have h6 : a.tmps[6]?.getD undef = .string (ofL (showTermB l) ++ (⟨#[32]⟩ : ByteArray)) := slot_eq.symm.trans (hp ⟨3, .data⟩ (by simp) rfl _ rfl)
      have h8 : a.tmps[8]?.getD undef = .string (ofL op) := slot_eq.symm.trans (hp ⟨5, .data⟩ (by simp) rfl _ rfl)
      exact step_run (v := .string (ofL (showTermB l) ++ (⟨#[32]⟩ : ByteArray) ++ ofL op)) rfl (by simp [execOp, go_sem, Act.eval, h6, h8, ByteArray.size_append]; omega) rfl
    · intro a w' hb hp
      have h9 : a.tmps[9]?.getD undef = .string (ofL (showTermB l) ++ (⟨#[32]⟩ : ByteArray) ++ ofL op) := slot_eq.symm.trans (hp ⟨6, .data⟩ (by simp) rfl _ rfl)
      exact step_run (v := .string (ofL (showTermB l) ++ (⟨#[32]⟩ : ByteArray) ++ ofL op ++ (⟨#[32]⟩ : ByteArray))) rfl (by simp [execOp, go_sem, Act.eval, h9, ByteArray.size_append]; omega) rfl
    · intro a w' hb hp
      have b1 : a.tmps[1]?.getD undef = .pointer (some ⟨w.heap.size, 0, none⟩) := hb.at 1 (by kernel_rfl)
      exact step_run (v := .pointer (some ⟨w.heap.size, 5, none⟩)) rfl (by simp [execOp, go_sem, b1, Act.eval]) rfl
    · intro a w' hb hp
      have h11 : a.tmps[11]?.getD undef = .pointer (some ⟨w.heap.size, 5, none⟩) := slot_eq.symm.trans (hp ⟨8, .data⟩ (by simp) rfl _ rfl)
      have k5 : w'.cell? ⟨w.heap.size, 5, none⟩ = some (.int .i64 r.k) := (hb.ext.cell (by simp)).trans (HC.out.cell 5)
      have k6 : w'.cell? ⟨w.heap.size, 6, none⟩ = some (.string (ofL r.m)) := (hb.ext.cell (by simp)).trans (HC.out.cell 6)
      have k7 : w'.cell? ⟨w.heap.size, 7, none⟩ = some (.string (ofL r.f)) := (hb.ext.cell (by simp)).trans (HC.out.cell 7)
      have k8 : w'.cell? ⟨w.heap.size, 8, none⟩ = some (.int .i64 r.n) := (hb.ext.cell (by simp)).trans (HC.out.cell 8)
      exact step_run (v := .agg #[.int .i64 r.k, .string (ofL r.m), .string (ofL r.f), .int .i64 r.n]) rfl (by simp [execOp, go_sem, Act.eval, h11, k5, k6, k7, k8]) rfl
    · intro a w' hb hp
      have h12 : a.tmps[12]?.getD undef = .agg #[.int .i64 r.k, .string (ofL r.m), .string (ofL r.f), .int .i64 r.n] := slot_eq.symm.trans (hp ⟨9, .data⟩ (by simp) rfl _ rfl)
      refine step_call (f := 236) (args := #[.agg #[.int .i64 r.k, .string (ofL r.m), .string (ofL r.f), .int .i64 r.n]]) rfl (by simp [go_sem, h12]) ?_
      refine (showTerm_any (HTB.out.below hb.ext) r HRR.out).mono ?_
      rintro e w5 ⟨rfl, hb5⟩
      exact ⟨_, rfl, hb5, rfl⟩
    · intro a w' hb hp
      have h10 : a.tmps[10]?.getD undef = .string (ofL (showTermB l) ++ (⟨#[32]⟩ : ByteArray) ++ ofL op ++ (⟨#[32]⟩ : ByteArray)) := slot_eq.symm.trans (hp ⟨7, .data⟩ (by simp) rfl _ rfl)
      have h13 : a.tmps[13]?.getD undef = .string (ofL (showTermB r)) := slot_eq.symm.trans (hp ⟨10, .data⟩ (by simp) rfl _ rfl)
      exact step_run (v := .string (ofL (showTermB l) ++ (⟨#[32]⟩ : ByteArray) ++ ofL op ++ (⟨#[32]⟩ : ByteArray) ++ ofL (showTermB r))) rfl (by simp [execOp, go_sem, Act.eval, h10, h13, ByteArray.size_append]; omega) rfl
    · intro a w' hb hp
      have h14 : a.tmps[14]?.getD undef = .string (ofL (showTermB l) ++ (⟨#[32]⟩ : ByteArray) ++ ofL op ++ (⟨#[32]⟩ : ByteArray) ++ ofL (showTermB r)) := slot_eq.symm.trans (hp ⟨11, .data⟩ (by simp) rfl _ rfl)
      exact step_run (v := .string (ofL (showTermB l) ++ (⟨#[32]⟩ : ByteArray) ++ ofL op ++ (⟨#[32]⟩ : ByteArray) ++ ofL (showTermB r))) rfl (by simp [execOp, Act.eval, h14]) rfl
  · intro vs w' hb hv
    have h12 : vs 12 = .string (ofL (showTermB l) ++ (⟨#[32]⟩ : ByteArray) ++ ofL op ++ (⟨#[32]⟩ : ByteArray) ++ ofL (showTermB r)) := hv 12 (by decide)
    have HB := Lib.hid (B1.out.trans (hb.mono (by simp)))
    clear hb hv
    simp only [putAll, Act.put, List.setIfInBounds_toArray, List.set_cons_zero, List.set_cons_succ, Nat.zero_add, Nat.reduceAdd, h12]
    clear h12
    go_wp2
    go_ret
    exact ⟨rfl, HB.out⟩
/-- A field that is small enough. -/
def SmFd (f : Fd) : Prop := f.nm.length ≤ 1000 ∧ SmN f.lo ∧ SmN f.hi
theorem showField_len (f : Fd) (h : SmFd f) : (showFieldB f).length ≤ 2000 := by
  obtain ⟨h1, h2, h3⟩ := h
  have h4 := itoa_len f.lo (by have := h2.1; omega) (by have := h2.2; omega)
  have h5 := itoa_len f.hi (by have := h3.1; omega) (by have := h3.2; omega)
  unfold showFieldB
  split <;> simp only [List.length_append, List.length_cons, List.length_nil] <;> omega
set_option maxRecDepth 20000 in
set_option maxHeartbeats 4000000 in
theorem showField_any (h : Tb w) (f : Fd) (hf : SmFd f) : Calls Tryz.prog 208 #[vF f] w (Tells w (.string (ofL (showFieldB f)))) := by
  obtain ⟨nm, k, lo, hi⟩ := f
  obtain ⟨hn, ⟨l0, l1⟩, ⟨g0, g1⟩⟩ := hf
  have l0' : -999999 ≤ lo := l0
  have l1' : lo ≤ 999999 := l1
  have g0' : -999999 ≤ hi := g0
  have g1' : hi ≤ 999999 := g1
  have hzn : (ofL nm).size ≤ 1000 := by rw [ofL_size]; exact hn
  have hzl : (ofL (itoaB lo)).size ≤ 100 := by rw [ofL_size]; exact itoa_len lo (by omega) (by omega)
  have hzh : (ofL (itoaB hi)).size ≤ 100 := by rw [ofL_size]; exact itoa_len hi (by omega) (by omega)
  unfold vF
  have B1 := Lib.hid ((Below.refl _ w).alloc (Nat.le_refl _) (.cells #[.string (ofL nm), .int .i64 k, .int .i64 lo, .int .i64 hi] 158))
  have HTB := Lib.hid (Tb.below (w' := (w.alloc (.cells #[.string (ofL nm), .int .i64 k, .int .i64 lo, .int .i64 hi] 158))) h B1.out)
  have HC := Lib.hid (Bx.new w 158 #[.string (ofL nm), .int .i64 k, .int .i64 lo, .int .i64 hi])
  clear h hn l0 l1 g0 g1
  by_cases hk : k = 2
  · have e1 : (k == 2) = true := by simpa using hk
    have hE : ofL (showFieldB ⟨nm, k, lo, hi⟩) = ofL nm ++ (⟨#[58, 32]⟩ : ByteArray) ++ (⟨#[116, 101, 120, 116, 32]⟩ : ByteArray) ++ ofL (itoaB lo) ++ (⟨#[46, 46]⟩ : ByteArray) ++ ofL (itoaB hi) := by
      unfold showFieldB
      rw [if_pos hk]
      exact (show ofL nm ++ ofL [58, 32] ++ ofL [116, 101, 120, 116, 32] ++ ofL (itoaB lo) ++ ofL [46, 46] ++ ofL (itoaB hi) = _ by rw [ofL_app5, ofL_append]).symm
    rw [hE]
    clear hk hE
    go_enter Tryz.func208, Tryz.ntmps208
    go_wp2_with fail
    refine region_phi (n := 24) (fun i v w' => match i with
          | 0 => v = .pointer (some ⟨w.heap.size, 0, none⟩)
          | 1 => v = .string (ofL nm)
          | 2 => v = .string (ofL nm ++ (⟨#[58, 32]⟩ : ByteArray))
          | 3 => v = .string ((⟨#[116, 101, 120, 116, 32]⟩ : ByteArray))
          | 4 => v = .string (ofL nm ++ (⟨#[58, 32]⟩ : ByteArray) ++ (⟨#[116, 101, 120, 116, 32]⟩ : ByteArray))
          | 5 => v = .pointer (some ⟨w.heap.size, 1, none⟩)
          | 6 => v = .pointer (some ⟨w.heap.size, 2, none⟩)
          | 7 => v = .int .i64 lo
          | 8 => v = .string (ofL (itoaB lo))
          | 9 => v = .string (ofL nm ++ (⟨#[58, 32]⟩ : ByteArray) ++ (⟨#[116, 101, 120, 116, 32]⟩ : ByteArray) ++ ofL (itoaB lo))
          | 10 => v = .string (ofL nm ++ (⟨#[58, 32]⟩ : ByteArray) ++ (⟨#[116, 101, 120, 116, 32]⟩ : ByteArray) ++ ofL (itoaB lo) ++ (⟨#[46, 46]⟩ : ByteArray))
          | 11 => v = .pointer (some ⟨w.heap.size, 1, none⟩)
          | 12 => v = .pointer (some ⟨w.heap.size, 3, none⟩)
          | 13 => v = .int .i64 hi
          | 14 => v = .string (ofL (itoaB hi))
          | 15 => v = .string (ofL nm ++ (⟨#[58, 32]⟩ : ByteArray) ++ (⟨#[116, 101, 120, 116, 32]⟩ : ByteArray) ++ ofL (itoaB lo) ++ (⟨#[46, 46]⟩ : ByteArray) ++ ofL (itoaB hi))
          | 16 => v = .string (ofL nm ++ (⟨#[58, 32]⟩ : ByteArray) ++ (⟨#[116, 101, 120, 116, 32]⟩ : ByteArray) ++ ofL (itoaB lo) ++ (⟨#[46, 46]⟩ : ByteArray) ++ ofL (itoaB hi))
          | _ => True) (by kernel_rfl) (by kernel_rfl) rfl ?_ (allOps_spec ?_) ?_
    · intro i v w w' h hb
      match i, h with
      | 0, h => exact h
      | 1, h => exact h
      | 2, h => exact h
      | 3, h => exact h
      | 4, h => exact h
      | 5, h => exact h
      | 6, h => exact h
      | 7, h => exact h
      | 8, h => exact h
      | 9, h => exact h
      | 10, h => exact h
      | 11, h => exact h
      | 12, h => exact h
      | 13, h => exact h
      | 14, h => exact h
      | 15, h => exact h
      | 16, h => exact h
      | _ + 17, _ => trivial
    · refine ⟨?_, ?_, ?_, ?_, ?_, ?_, ?_, ?_, ?_, ?_, ?_, ?_, ?_, ?_, ?_, ?_, ?_, trivial⟩
      · intro a w' hb hp
        have b1 : a.tmps[1]?.getD undef = .pointer (some ⟨w.heap.size, 0, none⟩) := hb.at 1 (by kernel_rfl)
        exact step_run (v := .pointer (some ⟨w.heap.size, 0, none⟩)) rfl (by simp [execOp, go_sem, b1, Act.eval]) rfl
      · intro a w' hb hp
        have h8 : a.tmps[8]?.getD undef = .pointer (some ⟨w.heap.size, 0, none⟩) := slot_eq.symm.trans (hp ⟨0, .data⟩ (by simp) rfl _ rfl)
        have k0 : w'.cell? ⟨w.heap.size, 0, none⟩ = some (.string (ofL nm)) := (hb.ext.cell (by simp)).trans (HC.out.cell 0)
        exact step_run (v := .string (ofL nm)) rfl (by simp [execOp, go_sem, Act.eval, h8, k0]) rfl
      · intro a w' hb hp
        have h9 : a.tmps[9]?.getD undef = .string (ofL nm) := slot_eq.symm.trans (hp ⟨1, .data⟩ (by simp) rfl _ rfl)
        exact step_run (v := .string (ofL nm ++ (⟨#[58, 32]⟩ : ByteArray))) rfl (by simp [execOp, go_sem, Act.eval, h9]; omega) rfl
      · intro a w' hb hp
        have b3 : a.tmps[3]?.getD undef = .string ((⟨#[116, 101, 120, 116, 32]⟩ : ByteArray)) := hb.at 3 (by kernel_rfl)
        exact step_run (v := .string ((⟨#[116, 101, 120, 116, 32]⟩ : ByteArray))) rfl (by simp [execOp, Act.eval, b3]) rfl
      · intro a w' hb hp
        have h10 : a.tmps[10]?.getD undef = .string (ofL nm ++ (⟨#[58, 32]⟩ : ByteArray)) := slot_eq.symm.trans (hp ⟨2, .data⟩ (by simp) rfl _ rfl)
        have h11 : a.tmps[11]?.getD undef = .string ((⟨#[116, 101, 120, 116, 32]⟩ : ByteArray)) := slot_eq.symm.trans (hp ⟨3, .data⟩ (by simp) rfl _ rfl)
        exact step_run (v := .string (ofL nm ++ (⟨#[58, 32]⟩ : ByteArray) ++ (⟨#[116, 101, 120, 116, 32]⟩ : ByteArray))) rfl (by simp [execOp, go_sem, Act.eval, h10, h11, ByteArray.size_append]; omega) rfl
      · intro a w' hb hp
        have b1 : a.tmps[1]?.getD undef = .pointer (some ⟨w.heap.size, 0, none⟩) := hb.at 1 (by kernel_rfl)
        exact step_run (v := .pointer (some ⟨w.heap.size, 1, none⟩)) rfl (by simp [execOp, go_sem, b1, Act.eval]) rfl
      · intro a w' hb hp
        have h13 : a.tmps[13]?.getD undef = .pointer (some ⟨w.heap.size, 1, none⟩) := slot_eq.symm.trans (hp ⟨5, .data⟩ (by simp) rfl _ rfl)
        exact step_run (v := .pointer (some ⟨w.heap.size, 2, none⟩)) rfl (by simp [execOp, go_sem, h13, Act.eval]) rfl
      · intro a w' hb hp
        have h14 : a.tmps[14]?.getD undef = .pointer (some ⟨w.heap.size, 2, none⟩) := slot_eq.symm.trans (hp ⟨6, .data⟩ (by simp) rfl _ rfl)
        have k2 : w'.cell? ⟨w.heap.size, 2, none⟩ = some (.int .i64 lo) := (hb.ext.cell (by simp)).trans (HC.out.cell 2)
        exact step_run (v := .int .i64 lo) rfl (by simp [execOp, go_sem, Act.eval, h14, k2]) rfl
      · intro a w' hb hp
        have h15 : a.tmps[15]?.getD undef = .int .i64 lo := slot_eq.symm.trans (hp ⟨7, .data⟩ (by simp) rfl _ rfl)
        refine step_call (f := 235) (args := #[.int .i64 lo]) rfl (by simp [go_sem, h15]) ?_
        refine (itoa_any (HTB.out.below hb.ext) lo (by omega) (by omega)).mono ?_
        rintro e w5 ⟨rfl, hb5⟩
        exact ⟨_, rfl, hb5, rfl⟩
      · intro a w' hb hp
        have h12 : a.tmps[12]?.getD undef = .string (ofL nm ++ (⟨#[58, 32]⟩ : ByteArray) ++ (⟨#[116, 101, 120, 116, 32]⟩ : ByteArray)) := slot_eq.symm.trans (hp ⟨4, .data⟩ (by simp) rfl _ rfl)
        have h16 : a.tmps[16]?.getD undef = .string (ofL (itoaB lo)) := slot_eq.symm.trans (hp ⟨8, .data⟩ (by simp) rfl _ rfl)
        exact step_run (v := .string (ofL nm ++ (⟨#[58, 32]⟩ : ByteArray) ++ (⟨#[116, 101, 120, 116, 32]⟩ : ByteArray) ++ ofL (itoaB lo))) rfl (by simp [execOp, go_sem, Act.eval, h12, h16, ByteArray.size_append]; omega) rfl
      · intro a w' hb hp
        have h17 : a.tmps[17]?.getD undef = .string (ofL nm ++ (⟨#[58, 32]⟩ : ByteArray) ++ (⟨#[116, 101, 120, 116, 32]⟩ : ByteArray) ++ ofL (itoaB lo)) := slot_eq.symm.trans (hp ⟨9, .data⟩ (by simp) rfl _ rfl)
        exact step_run (v := .string (ofL nm ++ (⟨#[58, 32]⟩ : ByteArray) ++ (⟨#[116, 101, 120, 116, 32]⟩ : ByteArray) ++ ofL (itoaB lo) ++ (⟨#[46, 46]⟩ : ByteArray))) rfl (by simp [execOp, go_sem, Act.eval, h17, ByteArray.size_append]; omega) rfl
      · intro a w' hb hp
        have b1 : a.tmps[1]?.getD undef = .pointer (some ⟨w.heap.size, 0, none⟩) := hb.at 1 (by kernel_rfl)
        exact step_run (v := .pointer (some ⟨w.heap.size, 1, none⟩)) rfl (by simp [execOp, go_sem, b1, Act.eval]) rfl
      · intro a w' hb hp
        have h19 : a.tmps[19]?.getD undef = .pointer (some ⟨w.heap.size, 1, none⟩) := slot_eq.symm.trans (hp ⟨11, .data⟩ (by simp) rfl _ rfl)
        exact step_run (v := .pointer (some ⟨w.heap.size, 3, none⟩)) rfl (by simp [execOp, go_sem, h19, Act.eval]) rfl
      · intro a w' hb hp
        have h20 : a.tmps[20]?.getD undef = .pointer (some ⟨w.heap.size, 3, none⟩) := slot_eq.symm.trans (hp ⟨12, .data⟩ (by simp) rfl _ rfl)
        have k3 : w'.cell? ⟨w.heap.size, 3, none⟩ = some (.int .i64 hi) := (hb.ext.cell (by simp)).trans (HC.out.cell 3)
        exact step_run (v := .int .i64 hi) rfl (by simp [execOp, go_sem, Act.eval, h20, k3]) rfl
      · intro a w' hb hp
        have h21 : a.tmps[21]?.getD undef = .int .i64 hi := slot_eq.symm.trans (hp ⟨13, .data⟩ (by simp) rfl _ rfl)
        refine step_call (f := 235) (args := #[.int .i64 hi]) rfl (by simp [go_sem, h21]) ?_
        refine (itoa_any (HTB.out.below hb.ext) hi (by omega) (by omega)).mono ?_
        rintro e w5 ⟨rfl, hb5⟩
        exact ⟨_, rfl, hb5, rfl⟩
      · intro a w' hb hp
        have h18 : a.tmps[18]?.getD undef = .string (ofL nm ++ (⟨#[58, 32]⟩ : ByteArray) ++ (⟨#[116, 101, 120, 116, 32]⟩ : ByteArray) ++ ofL (itoaB lo) ++ (⟨#[46, 46]⟩ : ByteArray)) := slot_eq.symm.trans (hp ⟨10, .data⟩ (by simp) rfl _ rfl)
        have h22 : a.tmps[22]?.getD undef = .string (ofL (itoaB hi)) := slot_eq.symm.trans (hp ⟨14, .data⟩ (by simp) rfl _ rfl)
        exact step_run (v := .string (ofL nm ++ (⟨#[58, 32]⟩ : ByteArray) ++ (⟨#[116, 101, 120, 116, 32]⟩ : ByteArray) ++ ofL (itoaB lo) ++ (⟨#[46, 46]⟩ : ByteArray) ++ ofL (itoaB hi))) rfl (by simp [execOp, go_sem, Act.eval, h18, h22, ByteArray.size_append]; omega) rfl
      · intro a w' hb hp
        have h23 : a.tmps[23]?.getD undef = .string (ofL nm ++ (⟨#[58, 32]⟩ : ByteArray) ++ (⟨#[116, 101, 120, 116, 32]⟩ : ByteArray) ++ ofL (itoaB lo) ++ (⟨#[46, 46]⟩ : ByteArray) ++ ofL (itoaB hi)) := slot_eq.symm.trans (hp ⟨15, .data⟩ (by simp) rfl _ rfl)
        exact step_run (v := .string (ofL nm ++ (⟨#[58, 32]⟩ : ByteArray) ++ (⟨#[116, 101, 120, 116, 32]⟩ : ByteArray) ++ ofL (itoaB lo) ++ (⟨#[46, 46]⟩ : ByteArray) ++ ofL (itoaB hi))) rfl (by simp [execOp, Act.eval, h23]) rfl
    · intro vs w' hb hv
      have h16 : vs 16 = .string (ofL nm ++ (⟨#[58, 32]⟩ : ByteArray) ++ (⟨#[116, 101, 120, 116, 32]⟩ : ByteArray) ++ ofL (itoaB lo) ++ (⟨#[46, 46]⟩ : ByteArray) ++ ofL (itoaB hi)) := hv 16 (by decide)
      have HB := Lib.hid (B1.out.trans (hb.mono (by simp)))
      clear hb hv
      simp only [putAll, Act.put, List.setIfInBounds_toArray, List.set_cons_zero, List.set_cons_succ, Nat.zero_add, Nat.reduceAdd, h16]
      clear h16
      go_wp2
      go_ret
      exact ⟨rfl, HB.out⟩
  · have e1 : (k == 2) = false := by simpa using hk
    have hE : ofL (showFieldB ⟨nm, k, lo, hi⟩) = ofL nm ++ (⟨#[58, 32]⟩ : ByteArray) ++ (⟨#[105, 110, 116, 32]⟩ : ByteArray) ++ ofL (itoaB lo) ++ (⟨#[46, 46]⟩ : ByteArray) ++ ofL (itoaB hi) := by
      unfold showFieldB
      rw [if_neg hk]
      exact (show ofL nm ++ ofL [58, 32] ++ ofL [105, 110, 116, 32] ++ ofL (itoaB lo) ++ ofL [46, 46] ++ ofL (itoaB hi) = _ by rw [ofL_app5, ofL_append]).symm
    rw [hE]
    clear hk hE
    go_enter Tryz.func208, Tryz.ntmps208
    go_wp2_with fail
    refine region_phi (n := 24) (fun i v w' => match i with
          | 0 => v = .pointer (some ⟨w.heap.size, 0, none⟩)
          | 1 => v = .string (ofL nm)
          | 2 => v = .string (ofL nm ++ (⟨#[58, 32]⟩ : ByteArray))
          | 3 => v = .string ((⟨#[105, 110, 116, 32]⟩ : ByteArray))
          | 4 => v = .string (ofL nm ++ (⟨#[58, 32]⟩ : ByteArray) ++ (⟨#[105, 110, 116, 32]⟩ : ByteArray))
          | 5 => v = .pointer (some ⟨w.heap.size, 1, none⟩)
          | 6 => v = .pointer (some ⟨w.heap.size, 2, none⟩)
          | 7 => v = .int .i64 lo
          | 8 => v = .string (ofL (itoaB lo))
          | 9 => v = .string (ofL nm ++ (⟨#[58, 32]⟩ : ByteArray) ++ (⟨#[105, 110, 116, 32]⟩ : ByteArray) ++ ofL (itoaB lo))
          | 10 => v = .string (ofL nm ++ (⟨#[58, 32]⟩ : ByteArray) ++ (⟨#[105, 110, 116, 32]⟩ : ByteArray) ++ ofL (itoaB lo) ++ (⟨#[46, 46]⟩ : ByteArray))
          | 11 => v = .pointer (some ⟨w.heap.size, 1, none⟩)
          | 12 => v = .pointer (some ⟨w.heap.size, 3, none⟩)
          | 13 => v = .int .i64 hi
          | 14 => v = .string (ofL (itoaB hi))
          | 15 => v = .string (ofL nm ++ (⟨#[58, 32]⟩ : ByteArray) ++ (⟨#[105, 110, 116, 32]⟩ : ByteArray) ++ ofL (itoaB lo) ++ (⟨#[46, 46]⟩ : ByteArray) ++ ofL (itoaB hi))
          | 16 => v = .string (ofL nm ++ (⟨#[58, 32]⟩ : ByteArray) ++ (⟨#[105, 110, 116, 32]⟩ : ByteArray) ++ ofL (itoaB lo) ++ (⟨#[46, 46]⟩ : ByteArray) ++ ofL (itoaB hi))
          | _ => True) (by kernel_rfl) (by kernel_rfl) rfl ?_ (allOps_spec ?_) ?_
    · intro i v w w' h hb
      match i, h with
      | 0, h => exact h
      | 1, h => exact h
      | 2, h => exact h
      | 3, h => exact h
      | 4, h => exact h
      | 5, h => exact h
      | 6, h => exact h
      | 7, h => exact h
      | 8, h => exact h
      | 9, h => exact h
      | 10, h => exact h
      | 11, h => exact h
      | 12, h => exact h
      | 13, h => exact h
      | 14, h => exact h
      | 15, h => exact h
      | 16, h => exact h
      | _ + 17, _ => trivial
    · refine ⟨?_, ?_, ?_, ?_, ?_, ?_, ?_, ?_, ?_, ?_, ?_, ?_, ?_, ?_, ?_, ?_, ?_, trivial⟩
      · intro a w' hb hp
        have b1 : a.tmps[1]?.getD undef = .pointer (some ⟨w.heap.size, 0, none⟩) := hb.at 1 (by kernel_rfl)
        exact step_run (v := .pointer (some ⟨w.heap.size, 0, none⟩)) rfl (by simp [execOp, go_sem, b1, Act.eval]) rfl
      · intro a w' hb hp
        have h8 : a.tmps[8]?.getD undef = .pointer (some ⟨w.heap.size, 0, none⟩) := slot_eq.symm.trans (hp ⟨0, .data⟩ (by simp) rfl _ rfl)
        have k0 : w'.cell? ⟨w.heap.size, 0, none⟩ = some (.string (ofL nm)) := (hb.ext.cell (by simp)).trans (HC.out.cell 0)
        exact step_run (v := .string (ofL nm)) rfl (by simp [execOp, go_sem, Act.eval, h8, k0]) rfl
      · intro a w' hb hp
        have h9 : a.tmps[9]?.getD undef = .string (ofL nm) := slot_eq.symm.trans (hp ⟨1, .data⟩ (by simp) rfl _ rfl)
        exact step_run (v := .string (ofL nm ++ (⟨#[58, 32]⟩ : ByteArray))) rfl (by simp [execOp, go_sem, Act.eval, h9]; omega) rfl
      · intro a w' hb hp
        have b3 : a.tmps[3]?.getD undef = .string ((⟨#[105, 110, 116, 32]⟩ : ByteArray)) := hb.at 3 (by kernel_rfl)
        exact step_run (v := .string ((⟨#[105, 110, 116, 32]⟩ : ByteArray))) rfl (by simp [execOp, Act.eval, b3]) rfl
      · intro a w' hb hp
        have h10 : a.tmps[10]?.getD undef = .string (ofL nm ++ (⟨#[58, 32]⟩ : ByteArray)) := slot_eq.symm.trans (hp ⟨2, .data⟩ (by simp) rfl _ rfl)
        have h11 : a.tmps[11]?.getD undef = .string ((⟨#[105, 110, 116, 32]⟩ : ByteArray)) := slot_eq.symm.trans (hp ⟨3, .data⟩ (by simp) rfl _ rfl)
        exact step_run (v := .string (ofL nm ++ (⟨#[58, 32]⟩ : ByteArray) ++ (⟨#[105, 110, 116, 32]⟩ : ByteArray))) rfl (by simp [execOp, go_sem, Act.eval, h10, h11, ByteArray.size_append]; omega) rfl
      · intro a w' hb hp
        have b1 : a.tmps[1]?.getD undef = .pointer (some ⟨w.heap.size, 0, none⟩) := hb.at 1 (by kernel_rfl)
        exact step_run (v := .pointer (some ⟨w.heap.size, 1, none⟩)) rfl (by simp [execOp, go_sem, b1, Act.eval]) rfl
      · intro a w' hb hp
        have h13 : a.tmps[13]?.getD undef = .pointer (some ⟨w.heap.size, 1, none⟩) := slot_eq.symm.trans (hp ⟨5, .data⟩ (by simp) rfl _ rfl)
        exact step_run (v := .pointer (some ⟨w.heap.size, 2, none⟩)) rfl (by simp [execOp, go_sem, h13, Act.eval]) rfl
      · intro a w' hb hp
        have h14 : a.tmps[14]?.getD undef = .pointer (some ⟨w.heap.size, 2, none⟩) := slot_eq.symm.trans (hp ⟨6, .data⟩ (by simp) rfl _ rfl)
        have k2 : w'.cell? ⟨w.heap.size, 2, none⟩ = some (.int .i64 lo) := (hb.ext.cell (by simp)).trans (HC.out.cell 2)
        exact step_run (v := .int .i64 lo) rfl (by simp [execOp, go_sem, Act.eval, h14, k2]) rfl
      · intro a w' hb hp
        have h15 : a.tmps[15]?.getD undef = .int .i64 lo := slot_eq.symm.trans (hp ⟨7, .data⟩ (by simp) rfl _ rfl)
        refine step_call (f := 235) (args := #[.int .i64 lo]) rfl (by simp [go_sem, h15]) ?_
        refine (itoa_any (HTB.out.below hb.ext) lo (by omega) (by omega)).mono ?_
        rintro e w5 ⟨rfl, hb5⟩
        exact ⟨_, rfl, hb5, rfl⟩
      · intro a w' hb hp
        have h12 : a.tmps[12]?.getD undef = .string (ofL nm ++ (⟨#[58, 32]⟩ : ByteArray) ++ (⟨#[105, 110, 116, 32]⟩ : ByteArray)) := slot_eq.symm.trans (hp ⟨4, .data⟩ (by simp) rfl _ rfl)
        have h16 : a.tmps[16]?.getD undef = .string (ofL (itoaB lo)) := slot_eq.symm.trans (hp ⟨8, .data⟩ (by simp) rfl _ rfl)
        exact step_run (v := .string (ofL nm ++ (⟨#[58, 32]⟩ : ByteArray) ++ (⟨#[105, 110, 116, 32]⟩ : ByteArray) ++ ofL (itoaB lo))) rfl (by simp [execOp, go_sem, Act.eval, h12, h16, ByteArray.size_append]; omega) rfl
      · intro a w' hb hp
        have h17 : a.tmps[17]?.getD undef = .string (ofL nm ++ (⟨#[58, 32]⟩ : ByteArray) ++ (⟨#[105, 110, 116, 32]⟩ : ByteArray) ++ ofL (itoaB lo)) := slot_eq.symm.trans (hp ⟨9, .data⟩ (by simp) rfl _ rfl)
        exact step_run (v := .string (ofL nm ++ (⟨#[58, 32]⟩ : ByteArray) ++ (⟨#[105, 110, 116, 32]⟩ : ByteArray) ++ ofL (itoaB lo) ++ (⟨#[46, 46]⟩ : ByteArray))) rfl (by simp [execOp, go_sem, Act.eval, h17, ByteArray.size_append]; omega) rfl
      · intro a w' hb hp
        have b1 : a.tmps[1]?.getD undef = .pointer (some ⟨w.heap.size, 0, none⟩) := hb.at 1 (by kernel_rfl)
        exact step_run (v := .pointer (some ⟨w.heap.size, 1, none⟩)) rfl (by simp [execOp, go_sem, b1, Act.eval]) rfl
      · intro a w' hb hp
        have h19 : a.tmps[19]?.getD undef = .pointer (some ⟨w.heap.size, 1, none⟩) := slot_eq.symm.trans (hp ⟨11, .data⟩ (by simp) rfl _ rfl)
        exact step_run (v := .pointer (some ⟨w.heap.size, 3, none⟩)) rfl (by simp [execOp, go_sem, h19, Act.eval]) rfl
      · intro a w' hb hp
        have h20 : a.tmps[20]?.getD undef = .pointer (some ⟨w.heap.size, 3, none⟩) := slot_eq.symm.trans (hp ⟨12, .data⟩ (by simp) rfl _ rfl)
        have k3 : w'.cell? ⟨w.heap.size, 3, none⟩ = some (.int .i64 hi) := (hb.ext.cell (by simp)).trans (HC.out.cell 3)
        exact step_run (v := .int .i64 hi) rfl (by simp [execOp, go_sem, Act.eval, h20, k3]) rfl
      · intro a w' hb hp
        have h21 : a.tmps[21]?.getD undef = .int .i64 hi := slot_eq.symm.trans (hp ⟨13, .data⟩ (by simp) rfl _ rfl)
        refine step_call (f := 235) (args := #[.int .i64 hi]) rfl (by simp [go_sem, h21]) ?_
        refine (itoa_any (HTB.out.below hb.ext) hi (by omega) (by omega)).mono ?_
        rintro e w5 ⟨rfl, hb5⟩
        exact ⟨_, rfl, hb5, rfl⟩
      · intro a w' hb hp
        have h18 : a.tmps[18]?.getD undef = .string (ofL nm ++ (⟨#[58, 32]⟩ : ByteArray) ++ (⟨#[105, 110, 116, 32]⟩ : ByteArray) ++ ofL (itoaB lo) ++ (⟨#[46, 46]⟩ : ByteArray)) := slot_eq.symm.trans (hp ⟨10, .data⟩ (by simp) rfl _ rfl)
        have h22 : a.tmps[22]?.getD undef = .string (ofL (itoaB hi)) := slot_eq.symm.trans (hp ⟨14, .data⟩ (by simp) rfl _ rfl)
        exact step_run (v := .string (ofL nm ++ (⟨#[58, 32]⟩ : ByteArray) ++ (⟨#[105, 110, 116, 32]⟩ : ByteArray) ++ ofL (itoaB lo) ++ (⟨#[46, 46]⟩ : ByteArray) ++ ofL (itoaB hi))) rfl (by simp [execOp, go_sem, Act.eval, h18, h22, ByteArray.size_append]; omega) rfl
      · intro a w' hb hp
        have h23 : a.tmps[23]?.getD undef = .string (ofL nm ++ (⟨#[58, 32]⟩ : ByteArray) ++ (⟨#[105, 110, 116, 32]⟩ : ByteArray) ++ ofL (itoaB lo) ++ (⟨#[46, 46]⟩ : ByteArray) ++ ofL (itoaB hi)) := slot_eq.symm.trans (hp ⟨15, .data⟩ (by simp) rfl _ rfl)
        exact step_run (v := .string (ofL nm ++ (⟨#[58, 32]⟩ : ByteArray) ++ (⟨#[105, 110, 116, 32]⟩ : ByteArray) ++ ofL (itoaB lo) ++ (⟨#[46, 46]⟩ : ByteArray) ++ ofL (itoaB hi))) rfl (by simp [execOp, Act.eval, h23]) rfl
    · intro vs w' hb hv
      have h16 : vs 16 = .string (ofL nm ++ (⟨#[58, 32]⟩ : ByteArray) ++ (⟨#[105, 110, 116, 32]⟩ : ByteArray) ++ ofL (itoaB lo) ++ (⟨#[46, 46]⟩ : ByteArray) ++ ofL (itoaB hi)) := hv 16 (by decide)
      have HB := Lib.hid (B1.out.trans (hb.mono (by simp)))
      clear hb hv
      simp only [putAll, Act.put, List.setIfInBounds_toArray, List.set_cons_zero, List.set_cons_succ, Nat.zero_add, Nat.reduceAdd, h16]
      clear h16
      go_wp2
      go_ret
      exact ⟨rfl, HB.out⟩
end
end Go.Proofs.YtekpefcggikcbaaGreatDoor
