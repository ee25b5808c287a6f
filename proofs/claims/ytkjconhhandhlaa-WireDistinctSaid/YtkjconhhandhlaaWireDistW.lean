/- WireDistinct: the cases in which the law asks nothing, and all together. -/
import Derived.Test.YtkjconhhandhlaaWireDist
namespace Go.Proofs.Ytkjconhhandhlaa
open Go.RowKit
section
variable (n0 n1 : Int) (s0 s1 : ByteArray) (A A2 : Option Addr) (c c2 : Nat) (l m : List Vl) (w : World)
set_option maxHeartbeats 1000000 in
theorem distinct_a (hx : Vals w (.slice A l.length c) l) (hy : Vals w (.slice A2 m.length c2) m) (h0 : 200 < s0.size) (hz : s0.size ≤ 9223372036854775807) :
    Calls Try.prog 6 #[.agg #[.int .i64 n0, .int .i64 n1], .agg #[.string s0, .string s1], .agg #[.slice A l.length c, .slice A2 m.length c2]] w (Ok w) := by
  have Hx := Lib.hid hx; have Hy := Lib.hid hy
  have z0 : decide ((200 : Int) < (s0.size : Int)) = true := by simp; omega
  clear hx hy
  go_enter Try.func6, Try.ntmps6
  go_wp2_with fail
  refine (awake_any _).mono ?_
  rintro e w1 ⟨rfl, hb1⟩
  obtain ⟨p0, p1, p2⟩ := heap_alloc_3 w (.cells #[.int .i64 n0, .int .i64 n1] 55) (.cells #[.string s0, .string s1] 56) (.cells #[.slice A l.length c, .slice A2 m.length c2] 57)
  have P1 := (hb1.block (w.heap.size + 1) (by simp <;> omega)).trans p1
  have P2 := (hb1.block (w.heap.size + 2) (by simp <;> omega)).trans p2
  have hb1' : Below w.heap.size w w1 := ((((Below.refl _ w).alloc (Nat.le_refl _) _).alloc (by simp) _).alloc (by simp; omega) _).trans (hb1.mono (by simp; omega))
  have Hb1 := Lib.hid hb1'
  have c_d0 : w1.cell? ⟨w.heap.size + 1, 0, none⟩ = some (.string s0) := cell_of_row w1 _ 0 _ _ _ P1
  have c_d1 : w1.cell? ⟨w.heap.size + 1, 1, none⟩ = some (.string s1) := cell_of_row w1 _ 1 _ _ _ P1
  have c_e0 : w1.cell? ⟨w.heap.size + 1 + 1, 0, none⟩ = some (.slice A l.length c) := cell_of_row w1 _ 0 _ _ _ P2
  have c_e1 : w1.cell? ⟨w.heap.size + 1 + 1, 1, none⟩ = some (.slice A2 m.length c2) := cell_of_row w1 _ 1 _ _ _ P2
  have F0 := Lib.hid (Hx.out.below Hb1.out)
  have F1 := Lib.hid (Hy.out.below Hb1.out)
  clear hb1 hb1' p0 p1 p2 P1 P2
  go_wp2
  go_ret
  exact ⟨rfl, Hb1.out⟩

set_option maxHeartbeats 1000000 in
theorem distinct_b (hx : Vals w (.slice A l.length c) l) (hy : Vals w (.slice A2 m.length c2) m) (h0 : s0.size ≤ 200) (h1 : 200 < s1.size) (hz : s1.size ≤ 9223372036854775807) :
    Calls Try.prog 6 #[.agg #[.int .i64 n0, .int .i64 n1], .agg #[.string s0, .string s1], .agg #[.slice A l.length c, .slice A2 m.length c2]] w (Ok w) := by
  have Hx := Lib.hid hx; have Hy := Lib.hid hy
  have z0 : decide ((200 : Int) < (s0.size : Int)) = false := by simp; omega
  have z1 : decide ((200 : Int) < (s1.size : Int)) = true := by simp; omega
  clear hx hy
  go_enter Try.func6, Try.ntmps6
  go_wp2_with fail
  refine (awake_any _).mono ?_
  rintro e w1 ⟨rfl, hb1⟩
  obtain ⟨p0, p1, p2⟩ := heap_alloc_3 w (.cells #[.int .i64 n0, .int .i64 n1] 55) (.cells #[.string s0, .string s1] 56) (.cells #[.slice A l.length c, .slice A2 m.length c2] 57)
  have P1 := (hb1.block (w.heap.size + 1) (by simp <;> omega)).trans p1
  have P2 := (hb1.block (w.heap.size + 2) (by simp <;> omega)).trans p2
  have hb1' : Below w.heap.size w w1 := ((((Below.refl _ w).alloc (Nat.le_refl _) _).alloc (by simp) _).alloc (by simp; omega) _).trans (hb1.mono (by simp; omega))
  have Hb1 := Lib.hid hb1'
  have c_d0 : w1.cell? ⟨w.heap.size + 1, 0, none⟩ = some (.string s0) := cell_of_row w1 _ 0 _ _ _ P1
  have c_d1 : w1.cell? ⟨w.heap.size + 1, 1, none⟩ = some (.string s1) := cell_of_row w1 _ 1 _ _ _ P1
  have c_e0 : w1.cell? ⟨w.heap.size + 1 + 1, 0, none⟩ = some (.slice A l.length c) := cell_of_row w1 _ 0 _ _ _ P2
  have c_e1 : w1.cell? ⟨w.heap.size + 1 + 1, 1, none⟩ = some (.slice A2 m.length c2) := cell_of_row w1 _ 1 _ _ _ P2
  have F0 := Lib.hid (Hx.out.below Hb1.out)
  have F1 := Lib.hid (Hy.out.below Hb1.out)
  clear hb1 hb1' p0 p1 p2 P1 P2
  go_wp2
  go_ret
  exact ⟨rfl, Hb1.out⟩

set_option maxHeartbeats 1000000 in
theorem distinct_c (hx : Vals w (.slice A l.length c) l) (hy : Vals w (.slice A2 m.length c2) m) (h0 : s0.size ≤ 200) (h1 : s1.size ≤ 200) (hl : l.length ≤ 9223372036854775807) (hf : false = fewB l) :
    Calls Try.prog 6 #[.agg #[.int .i64 n0, .int .i64 n1], .agg #[.string s0, .string s1], .agg #[.slice A l.length c, .slice A2 m.length c2]] w (Ok w) := by
  have Hx := Lib.hid hx; have Hy := Lib.hid hy
  have z0 : decide ((200 : Int) < (s0.size : Int)) = false := by simp; omega
  have z1 : decide ((200 : Int) < (s1.size : Int)) = false := by simp; omega
  have Hf0 := Lib.hid hf; clear hf
  clear hx hy
  go_enter Try.func6, Try.ntmps6
  go_wp2_with fail
  refine (awake_any _).mono ?_
  rintro e w1 ⟨rfl, hb1⟩
  obtain ⟨p0, p1, p2⟩ := heap_alloc_3 w (.cells #[.int .i64 n0, .int .i64 n1] 55) (.cells #[.string s0, .string s1] 56) (.cells #[.slice A l.length c, .slice A2 m.length c2] 57)
  have P1 := (hb1.block (w.heap.size + 1) (by simp <;> omega)).trans p1
  have P2 := (hb1.block (w.heap.size + 2) (by simp <;> omega)).trans p2
  have hb1' : Below w.heap.size w w1 := ((((Below.refl _ w).alloc (Nat.le_refl _) _).alloc (by simp) _).alloc (by simp; omega) _).trans (hb1.mono (by simp; omega))
  have Hb1 := Lib.hid hb1'
  have c_d0 : w1.cell? ⟨w.heap.size + 1, 0, none⟩ = some (.string s0) := cell_of_row w1 _ 0 _ _ _ P1
  have c_d1 : w1.cell? ⟨w.heap.size + 1, 1, none⟩ = some (.string s1) := cell_of_row w1 _ 1 _ _ _ P1
  have c_e0 : w1.cell? ⟨w.heap.size + 1 + 1, 0, none⟩ = some (.slice A l.length c) := cell_of_row w1 _ 0 _ _ _ P2
  have c_e1 : w1.cell? ⟨w.heap.size + 1 + 1, 1, none⟩ = some (.slice A2 m.length c2) := cell_of_row w1 _ 1 _ _ _ P2
  have F0 := Lib.hid (Hx.out.below Hb1.out)
  have F1 := Lib.hid (Hy.out.below Hb1.out)
  clear hb1 hb1' p0 p1 p2 P1 P2
  go_wp2_with fail
  refine (fewvalues_any A c l _ F0.out (by omega) false Hf0.out).mono ?_
  rintro e w2 ⟨rfl, rfl⟩
  go_wp2
  go_ret
  exact ⟨rfl, Hb1.out⟩

set_option maxHeartbeats 1000000 in
theorem distinct_d (hx : Vals w (.slice A l.length c) l) (hy : Vals w (.slice A2 m.length c2) m) (h0 : s0.size ≤ 200) (h1 : s1.size ≤ 200) (hl : l.length ≤ 9223372036854775807) (hm : m.length ≤ 9223372036854775807) (hf : true = fewB l) (hf1 : false = fewB m) :
    Calls Try.prog 6 #[.agg #[.int .i64 n0, .int .i64 n1], .agg #[.string s0, .string s1], .agg #[.slice A l.length c, .slice A2 m.length c2]] w (Ok w) := by
  have Hx := Lib.hid hx; have Hy := Lib.hid hy
  have z0 : decide ((200 : Int) < (s0.size : Int)) = false := by simp; omega
  have z1 : decide ((200 : Int) < (s1.size : Int)) = false := by simp; omega
  have Hf0 := Lib.hid hf; have Hf1 := Lib.hid hf1; clear hf hf1
  clear hx hy
  go_enter Try.func6, Try.ntmps6
  go_wp2_with fail
  refine (awake_any _).mono ?_
  rintro e w1 ⟨rfl, hb1⟩
  obtain ⟨p0, p1, p2⟩ := heap_alloc_3 w (.cells #[.int .i64 n0, .int .i64 n1] 55) (.cells #[.string s0, .string s1] 56) (.cells #[.slice A l.length c, .slice A2 m.length c2] 57)
  have P1 := (hb1.block (w.heap.size + 1) (by simp <;> omega)).trans p1
  have P2 := (hb1.block (w.heap.size + 2) (by simp <;> omega)).trans p2
  have hb1' : Below w.heap.size w w1 := ((((Below.refl _ w).alloc (Nat.le_refl _) _).alloc (by simp) _).alloc (by simp; omega) _).trans (hb1.mono (by simp; omega))
  have Hb1 := Lib.hid hb1'
  have c_d0 : w1.cell? ⟨w.heap.size + 1, 0, none⟩ = some (.string s0) := cell_of_row w1 _ 0 _ _ _ P1
  have c_d1 : w1.cell? ⟨w.heap.size + 1, 1, none⟩ = some (.string s1) := cell_of_row w1 _ 1 _ _ _ P1
  have c_e0 : w1.cell? ⟨w.heap.size + 1 + 1, 0, none⟩ = some (.slice A l.length c) := cell_of_row w1 _ 0 _ _ _ P2
  have c_e1 : w1.cell? ⟨w.heap.size + 1 + 1, 1, none⟩ = some (.slice A2 m.length c2) := cell_of_row w1 _ 1 _ _ _ P2
  have F0 := Lib.hid (Hx.out.below Hb1.out)
  have F1 := Lib.hid (Hy.out.below Hb1.out)
  clear hb1 hb1' p0 p1 p2 P1 P2
  go_wp2_with fail
  refine (fewvalues_any A c l _ F0.out (by omega) true Hf0.out).mono ?_
  rintro e w2 ⟨rfl, rfl⟩
  go_wp2_with fail
  refine (fewvalues_any A2 c2 m _ F1.out (by omega) false Hf1.out).mono ?_
  rintro e w2 ⟨rfl, rfl⟩
  go_wp2
  go_ret
  exact ⟨rfl, Hb1.out⟩

theorem few_out {l : List Vl} (h : fewB l = true) : l.length ≤ 40 ∧ ∀ x ∈ l, x.2.2.size ≤ 200 := by
  unfold fewB at h
  rw [Bool.and_eq_true, List.all_eq_true] at h
  exact ⟨of_decide_eq_true h.1, fun x hx => of_decide_eq_true (h.2 x hx)⟩
theorem distinct_walk (hn0 : I64 n0) (hn1 : I64 n1) (hs0 : s0.size ≤ 9223372036854775807) (hs1 : s1.size ≤ 9223372036854775807) (hx : Vals w (.slice A l.length c) l) (hl : l.length ≤ 9223372036854775807) (hlo : ∀ x ∈ l, VlOk x)
    (hy : Vals w (.slice A2 m.length c2) m) (hm : m.length ≤ 9223372036854775807) (hmo : ∀ x ∈ m, VlOk x) :
    Calls Try.prog 6 #[.agg #[.int .i64 n0, .int .i64 n1], .agg #[.string s0, .string s1], .agg #[.slice A l.length c, .slice A2 m.length c2]] w (Ok w) := by
  by_cases h0 : s0.size ≤ 200
  · by_cases h1 : s1.size ≤ 200
    · cases hf : fewB l with
      | false => exact distinct_c n0 n1 s0 s1 A A2 c c2 l m w hx hy h0 h1 hl hf.symm
      | true =>
        cases hf1 : fewB m with
        | false => exact distinct_d n0 n1 s0 s1 A A2 c c2 l m w hx hy h0 h1 hl hm hf.symm hf1.symm
        | true => exact distinct_main n0 n1 s0 s1 A A2 c c2 l m w hn0 hn1 h0 h1 hx hy (few_out hf).1 (few_out hf1).1 (few_out hf).2 (few_out hf1).2 hlo hmo
    · exact distinct_b n0 n1 s0 s1 A A2 c c2 l m w hx hy h0 (by omega) hs1
  · exact distinct_a n0 n1 s0 s1 A A2 c c2 l m w hx hy (by omega) hs0
end
end Go.Proofs.Ytkjconhhandhlaa
