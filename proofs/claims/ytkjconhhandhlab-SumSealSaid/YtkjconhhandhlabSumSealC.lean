/- The contract of Seal. -/
import Derived.Test.YtkjconhhandhlabSumCheck
namespace Go.Proofs.Ytkjconhhandhlab
open Go.RowKit

def sealed (xs : List Nat) : List Nat := xs ++ bts 8 (fnv fbase xs)
theorem sealed_len (xs : List Nat) : (sealed xs).length = xs.length + 8 := by simp [sealed, bts_len]
theorem sealed_byt (xs : List Nat) (h : Byt xs) : Byt (sealed xs) := by
  intro c hc
  rcases List.mem_append.1 hc with h1 | h1
  · exact h c h1
  · exact bts_byt _ _ c h1
/-- A byte string of the call's own: ys. -/
def OwnPost (w : World) (ys : List Nat) (e : Ending) (w' : World) : Prop := ∃ v', e = .returned v' ∧ w'.ownsRow w.heap.size 5 1 v' ys.length (ys.map bv) ∧ Below w.heap.size w w'
theorem own_base {w : World} {B B' e : Nat} {v : Value} {n : Nat} {xs : List Value} (h : w.ownsRow B e 1 v n xs) (hB : B' ≤ B) : w.ownsRow B' e 1 v n xs := by
  refine ⟨h.1, h.2.imp id ?_⟩
  rintro ⟨g, cap, cur, h1, h2, h3⟩
  exact ⟨g, cap, cur, h1, by omega, h3⟩

set_option maxHeartbeats 400000 in
theorem seal_any (A : Option Addr) (c : Nat) (xs : List Nat) (w : World) (hx : Bsl w (.slice A xs.length c) xs) (hb : Byt xs) (hl : xs.length ≤ 140737488350000) :
    Calls Try.prog 17 #[.slice A xs.length c] w (OwnPost w (sealed xs)) := by
  have Hx := Lib.hid hx; clear hx
  have hr : Room2 xs.length := by unfold Room2; omega
  obtain ⟨i0, hi, hz0, hz1, hz2⟩ := info_parts info_u8
  have Hz2 := Lib.hid hz2; clear hz2
  go_enter Try.func17, Try.ntmps17
  go_wp2_with fail
  refine (checksum_any _ xs _ Hx.out hb hr).mono ?_
  rintro e w1 ⟨b0, b1, b2, b3, b4, b5, b6, b7, rfl, hbs, hb1⟩
  have Hbs := Lib.hid hbs; clear hbs
  have Hb1 := Lib.hid hb1; clear hb1
  go_wp2_with (first
    | (at_make; refine wpList_make_own _ rfl _ _ 23 rfl (w1.heap.size + 1) 5 i0 (.int .u8 0) 1 Try.underlying23 hi hz0 hz1 .i64 .i64 _ (xs.length + 8) rfl rfl (by omega) (by rw [Hz2.out]; omega) (by unfold maxLen; omega) (by simp) ?_; intro w2 hown2' hg2; have hown2 : w2.ownsRow (w1.heap.size + 1) 5 1 (.slice (some ⟨w1.heap.size + 1, 0, none⟩) 0 (xs.length + 8)) 0 [] := (by simpa using hown2'); clear hown2'; have hf2 := Frm.grown0 (e := 5) (B := w1.heap.size + 1) hg2; have hs2 : w1.heap.size + 1 ≤ w2.heap.size := by have := hf2.size; simpa using this)
    | (at_builtin; refine appB rfl (.tmp 11) (.tmp 12) 23 rfl info_u8 Try.underlying23 (w1.heap.size + 1) _ 0 [] rfl hown2 _ xs rfl ((Hx.out.below Hb1.out).below (((Below.refl _ w1).alloc (Nat.le_refl _) _).trans ((hf2.below (by simp)).mono (by simp)))) (by unfold Room2; omega) hs2 ?_; intro v3 w3 hown3 hf3; rw [Nat.zero_add, List.nil_append] at hown3)
    | (at_builtin; refine appB rfl (.tmp 14) (.tmp 15) 23 rfl info_u8 Try.underlying23 (w1.heap.size + 1) _ xs.length (xs.map bv) rfl hown3 _ [b0, b1, b2, b3, b4, b5, b6, b7] rfl (Bsl.row (hf3.keeps (hf2.keeps (heap_alloc_new w1 _) (by decide)) (by decide)) _ _ rfl rfl) (by unfold Room2; simp; omega) (Nat.le_trans hs2 hf3.size) ?_; intro v4 w4 hown4 hf4))
  go_ret
  have hs := Hb1.out.size
  refine ⟨v4, rfl, ?_, ?_⟩
  · rw [sealed_len, sealed, Hbs.out, List.map_append]
    exact own_base hown4 (by omega)
  · refine Hb1.out.trans ((((Below.refl _ w1).alloc (Nat.le_refl _) _).trans (((hf2.trans (hf3.trans hf4)).below (by simp)).mono (by simp))).mono hs)
end Go.Proofs.Ytkjconhhandhlab
