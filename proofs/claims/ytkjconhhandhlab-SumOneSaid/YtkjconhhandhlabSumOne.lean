/- SumOne: for every input the law returns true. -/
import Derived.Test.YtkjconhhandhlabSumAwake
import Derived.Test.YtkjconhhandhlabOpen
import Derived.Deep.QuietTactic
import Derived.BigQuiet
namespace Go.Proofs.Ytkjconhhandhlab
open Go.RowKit

theorem from_is (s : Nat) (v : Value) (xs : List Nat) (w : World) (n : Nat) (q : Nat) (hs : U64 s) (hx : Bsl w v xs) (hb : Byt xs) (hl : Room2 xs.length) (hq : q = fnv s xs) :
    Calls Try.prog 13 #[.int .u64 (s : Int), v] (w.drewN n) fun e w' => e = .returned (.int .u64 (q : Int)) ∧ w' = w.drewN n :=
  (from_any s v xs _ hs (hx.drewN n) hb hl).mono fun _ _ ⟨q', he, h1, _, hw⟩ => ⟨by rw [he, hq, ← h1], hw.symm⟩

set_option maxHeartbeats 1000000 in
theorem sumone_walk (a b : Nat) (A : Option Addr) (c : Nat) (xs : List Nat) (at_ to_ : Nat) (w : World) (ha : U64 a) (hb : U64 b) (hx : Bsl w (.slice A xs.length c) xs) (hby : Byt xs) (hl : xs.length ≤ 140737488351232) (hat : at_ < 65536) (hto : to_ < 256) :
    Calls Try.prog 6 #[.agg #[.int .u64 (a : Int), .int .u64 (b : Int)], .slice A xs.length c, .agg #[.int .u16 (at_ : Int), .int .u8 (to_ : Int)]] w (Ok w) := by
  have Ha := Lib.hid ha; clear ha
  have Hb := Lib.hid hb; clear hb
  have Hby := Lib.hid hby; clear hby
  have Hx := Lib.hid hx; clear hx
  by_cases hin : 1 ≤ xs.length ∧ xs.length ≤ 600
  · obtain ⟨h1, h600⟩ := hin
    have t0 : ((xs.length : Int) == 0) = false := by rw [beq_eq_false_iff_ne]; omega
    go_enter Try.func6, Try.ntmps6
    go_wp2_with fail
    refine (awake_any _).mono ?_
    rintro e w1 ⟨rfl, hb1⟩
    have hP1 := (hb1.block w.heap.size (by simp; omega)).trans (heap_alloc_2 w _ _)
    have hX1 := (hb1.block (w.heap.size + 1) (by simp)).trans (heap_alloc_2' w _ _)
    have hb1' : Below w.heap.size w w1 := (((Below.refl _ w).alloc (Nat.le_refl _) _).alloc (by simp) _).trans (hb1.mono (by simp; omega))
    have hlt := lt_of_some hX1
    have HP1 := Lib.hid hP1; clear hP1
    have HX1 := Lib.hid hX1; clear hX1
    have Hx1 := Lib.hid (Hx.out.below hb1'); clear hb1
    go_wp2_with (at_builtin; refine appB rfl (.tmp 19) (.tmp 20) 23 rfl info_u8 Try.underlying23 w1.heap.size _ 0 [] rfl (own_lit w1 #[] 0 [] rfl rfl (by decide)) _ xs rfl (Hx1.out.alloc _) (by unfold Room2; omega) (by simp) ?_; intro v2 w2 hown2 hf2; have hb2 : Below w1.heap.size w1 w2 := ((Below.refl _ w1).alloc (Nat.le_refl _) _).trans (hf2.below (by simp)); rw [Nat.zero_add, List.nil_append] at hown2; obtain ⟨g, cap, rfl, hg1, hg2, hcap⟩ := own_shape hown2 h1; have hX2 := (hb2.block _ hlt).trans HX1.out; have cX0 := cell_of_row w2 (w.heap.size + 1) 0 _ _ _ hX2; have cX1 := cell_of_row w2 (w.heap.size + 1) 1 _ _ _ hX2; have hk : at_ % xs.length < xs.length := Nat.mod_lt _ (by omega); have ck := hown2.cellAt (at_ % xs.length) (by omega); have fk := hown2.frozenAt (at_ % xs.length); rw [List.getElem?_map, List.getElem?_eq_getElem hk] at ck; have Hown2 := Lib.hid hown2; have HX2 := Lib.hid hX2; have Hb2 := Lib.hid hb2; clear hown2 hX2 hb2 hf2)
    obtain ⟨w3, hw3⟩ : ∃ w3, w3 = w2.setCell ⟨g, at_ % xs.length, none⟩ (.int .u8 (to_ : Int)) := ⟨_, rfl⟩
    have hb3 : Below w1.heap.size w1 w3 := by rw [hw3]; exact Hb2.out.setCell hg1 _
    have hy3 : Bsl w3 (.slice (some ⟨g, 0, none⟩) xs.length cap) (xs.set (at_ % xs.length) to_) := by
      have h := (Hown2.out.stored (at_ % xs.length) (bv to_)).1
      rw [← List.map_set] at h
      rw [hw3]; exact Bsl.of_own h
    have hcP := (hb3.block w.heap.size (by omega)).trans HP1.out
    have hcX := (hb3.block (w.heap.size + 1) (by omega)).trans HX1.out
    have hx3 := Hx1.out.below hb3
    rw [← hw3]
    clear hw3 ck fk cX0 cX1 Hown2 HX2 Hb2 Hx1 HP1 HX1 Hx hg2
    obtain ⟨ad, rfl, hcell⟩ := hx3.addr h1
    have hsn : (xs.set (at_ % xs.length) to_).length = xs.length := List.length_set
    have hone := fnv_one a Ha.out xs Hby.out (at_ % xs.length) to_ hk hto
    have hyb : Byt (xs.set (at_ % xs.length) to_) := by
      intro x hx
      rcases List.mem_or_eq_of_mem_set hx with h | h
      · exact Hby.out x h
      · omega
    have hinj := fnv_inj xs Hby.out a b Ha.out Hb.out
    have ck := hcell _ _ (List.getElem?_eq_getElem hk)
    have hkb := Hby.out _ (List.getElem_mem hk)
    have hkk : (at_ : Int) % (xs.length : Int) = ((at_ % xs.length : Nat) : Int) := by omega
    rw [hkk]
    generalize hke : at_ % xs.length = k at *
    clear hke hkk
    obtain ⟨x, hxe⟩ : ∃ x, x = xs[k] := ⟨_, rfl⟩
    rw [← hxe] at ck hone hkb
    clear hxe
    unfold bv at ck
    obtain ⟨q1, hq1⟩ : ∃ q, q = fnv a xs := ⟨_, rfl⟩
    obtain ⟨q2, hq2⟩ : ∃ q, q = fnv a (xs.set k to_) := ⟨_, rfl⟩
    obtain ⟨q3, hq3⟩ : ∃ q, q = fnv b xs := ⟨_, rfl⟩
    rw [← hq1, ← hq2] at hone
    rw [← hq1, ← hq3] at hinj
    have cP0 := cell_of_row w3 w.heap.size 0 _ _ _ hcP
    have cP1 := cell_of_row w3 w.heap.size 1 _ _ _ hcP
    have cX1 := cell_of_row w3 (w.heap.size + 1) 1 _ _ _ hcX
    have HQ1 := Lib.hid hq1; have HQ2 := Lib.hid hq2; have HQ3 := Lib.hid hq3
    have Hx3 := Lib.hid hx3; have Hy3 := Lib.hid hy3; have Hyb := Lib.hid hyb; have Hsn := Lib.hid hsn; have Hb3 := Lib.hid hb3
    clear hq1 hq2 hq3 hx3 hy3 hyb hsn hcP hcX hcell hb3
    have hr : Room2 xs.length := by unfold Room2; omega
    have Hr := Lib.hid hr; clear hr
    have hend : ∀ n, Below w.heap.size w (w3.drewN n) := fun n => have h := hb1'.trans (Hb3.out.mono hb1'.size); ⟨h.os, h.tape, h.output, h.size, h.block⟩
    have hend := fun n => Lib.hid (hend n)
    clear hb1'
    by_cases hxt : x = to_
    · have hqq := hone.2 hxt
      obtain rfl : q1 = q2 := hqq.symm
      subst hxt
      clear hone hqq
      by_cases hab : a = b
      · subst hab
        obtain rfl : q1 = q3 := HQ1.out.trans HQ3.out.symm
        clear hinj
        go_quiet (first
          | ((go_at_call 13; with_reducible exact Calls.quiet_of_same (from_is a _ xs _ _ q1 Ha.out Hx3.out Hby.out Hr.out HQ1.out)))
          | ((go_at_call 13; with_reducible exact Calls.quiet_of_same (from_is a _ (xs.set k x) _ _ q1 Ha.out Hy3.out Hyb.out (by rw [Hsn.out]; exact Hr.out) HQ2.out)))
          | ((go_at_call 13; with_reducible exact Calls.quiet_of_same (from_is a _ xs _ _ q1 Ha.out Hx3.out Hby.out Hr.out HQ3.out))))
        go_wp2
        go_ret
        exact ⟨rfl, (hend _).out⟩
      · have t3 : ((q1 : Int) == (q3 : Int)) = false := by rw [beq_eq_false_iff_ne]; intro h; exact hab (hinj (by omega))
        have t4 : ((a : Int) == (b : Int)) = false := by rw [beq_eq_false_iff_ne]; omega
        clear hinj hab
        go_quiet (first
          | ((go_at_call 13; with_reducible exact Calls.quiet_of_same (from_is a _ xs _ _ q1 Ha.out Hx3.out Hby.out Hr.out HQ1.out)))
          | ((go_at_call 13; with_reducible exact Calls.quiet_of_same (from_is a _ (xs.set k x) _ _ q1 Ha.out Hy3.out Hyb.out (by rw [Hsn.out]; exact Hr.out) HQ2.out)))
          | ((go_at_call 13; with_reducible exact Calls.quiet_of_same (from_is b _ xs _ _ q3 Hb.out Hx3.out Hby.out Hr.out HQ3.out))))
        go_wp2
        go_ret
        exact ⟨rfl, (hend _).out⟩
    · have t1 : ((q1 : Int) == (q2 : Int)) = false := by rw [beq_eq_false_iff_ne]; intro h; exact hxt (hone.1 (by omega))
      have t2 : ((x : Int) == (to_ : Int)) = false := by rw [beq_eq_false_iff_ne]; omega
      clear hone hxt
      by_cases hab : a = b
      · subst hab
        obtain rfl : q1 = q3 := HQ1.out.trans HQ3.out.symm
        clear hinj
        go_quiet (first
          | ((go_at_call 13; with_reducible exact Calls.quiet_of_same (from_is a _ xs _ _ q1 Ha.out Hx3.out Hby.out Hr.out HQ1.out)))
          | ((go_at_call 13; with_reducible exact Calls.quiet_of_same (from_is a _ (xs.set k to_) _ _ q2 Ha.out Hy3.out Hyb.out (by rw [Hsn.out]; exact Hr.out) HQ2.out)))
          | ((go_at_call 13; with_reducible exact Calls.quiet_of_same (from_is a _ xs _ _ q1 Ha.out Hx3.out Hby.out Hr.out HQ3.out))))
        go_wp2
        go_ret
        exact ⟨rfl, (hend _).out⟩
      · have t3 : ((q1 : Int) == (q3 : Int)) = false := by rw [beq_eq_false_iff_ne]; intro h; exact hab (hinj (by omega))
        have t4 : ((a : Int) == (b : Int)) = false := by rw [beq_eq_false_iff_ne]; omega
        clear hinj hab
        go_quiet (first
          | ((go_at_call 13; with_reducible exact Calls.quiet_of_same (from_is a _ xs _ _ q1 Ha.out Hx3.out Hby.out Hr.out HQ1.out)))
          | ((go_at_call 13; with_reducible exact Calls.quiet_of_same (from_is a _ (xs.set k to_) _ _ q2 Ha.out Hy3.out Hyb.out (by rw [Hsn.out]; exact Hr.out) HQ2.out)))
          | ((go_at_call 13; with_reducible exact Calls.quiet_of_same (from_is b _ xs _ _ q3 Hb.out Hx3.out Hby.out Hr.out HQ3.out))))
        go_wp2
        go_ret
        exact ⟨rfl, (hend _).out⟩
  · by_cases h0 : xs.length = 0
    · have h0' := Lib.hid h0
      have t0 : ((xs.length : Int) == 0) = true := by rw [beq_iff_eq]; omega
      clear h0 hin
      go_enter Try.func6, Try.ntmps6
      go_wp2_with fail
      refine (awake_any _).mono ?_
      rintro e w1 ⟨rfl, hb1⟩
      go_wp2
      go_ret
      exact ⟨rfl, (((Below.refl _ w).alloc (Nat.le_refl _) _).alloc (by simp) _).trans (hb1.mono (by simp; omega))⟩
    · have t0 : ((xs.length : Int) == 0) = false := by rw [beq_eq_false_iff_ne]; omega
      have h600 : 600 < xs.length := by omega
      clear h0 hin
      go_enter Try.func6, Try.ntmps6
      go_wp2_with fail
      refine (awake_any _).mono ?_
      rintro e w1 ⟨rfl, hb1⟩
      go_wp2
      go_ret
      exact ⟨rfl, (((Below.refl _ w).alloc (Nat.le_refl _) _).alloc (by simp) _).trans (hb1.mono (by simp; omega))⟩
end Go.Proofs.Ytkjconhhandhlab
