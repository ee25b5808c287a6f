/- The contracts of the reference's Eight and Seal. -/
import Derived.Test.YtkjconhhandhlabSumSealC
namespace Go.Proofs.Ytkjconhhandhlab
open Go.RowKit

def EiRel (w : World) (h B : Nat) (q i : Value) (wr : World) : Prop := ∃ k : Nat, k ≤ 8 ∧ i = .int .i64 (7 - (k : Int)) ∧ q = .int .u64 ((h / 256 ^ k : Nat) : Int) ∧ CkBlk 5 wr h B k ∧ Below B w wr

set_option maxHeartbeats 400000 in
theorem eight_any (h : Nat) (w : World) (hu : U64 h) :
    Calls Try.prog 26 #[.int .u64 (h : Int)] w (OwnPost w (bts 8 h)) := by
  have Hu := Lib.hid hu; clear hu
  have hmk : ∀ w : World, (Instr.makeSlice 23 (.int .i64 8) (.int .i64 8)).run Try.prog w = .ok (.slice (some ⟨w.heap.size, 0, none⟩) 8 8) (w.alloc (.cells #[.int .u8 0, .int .u8 0, .int .u8 0, .int .u8 0, .int .u8 0, .int .u8 0, .int .u8 0, .int .u8 0] 5)) := fun _ => by kernel_rfl
  go_enter Try.func26, Try.ntmps26
  go_wp2
  go_loopw [0, 4] (fun q i wr => EiRel (w.alloc (.cells #[.int .u8 0, .int .u8 0, .int .u8 0, .int .u8 0, .int .u8 0, .int .u8 0, .int .u8 0, .int .u8 0] 5)) h w.heap.size q i wr) (fun _ i _ => (intOf i + 1).toNat)
  case atStart => exact ⟨0, by omega, rfl, by simp, heap_alloc_new w _, Below.refl _ _⟩
  case round =>
    obtain ⟨k, hk, rfl, rfl, hblk, hbel⟩ := hrel
    have hqlt : h / 256 ^ k < 18446744073709551616 := Nat.lt_of_le_of_lt (Nat.div_le_self _ _) Hu.out
    obtain ⟨q, hq⟩ : ∃ q, q = h / 256 ^ k := ⟨_, rfl⟩
    rw [← hq] at hqlt ⊢
    have HQ := Lib.hid hq; clear hq
    by_cases hlt : k < 8
    · have hfr : ∀ i, wr.frozen? ⟨w.heap.size, i, none⟩ = false := fun i => by unfold CkBlk at hblk; simp [World.frozen?, hblk]
      have hcell := hblk.cell hlt
      have hix : (7 - (k : Int)).toNat = 7 - k := by omega
      go_wp2
      go_roundw
      case rel =>
        refine ⟨k + 1, by omega, ?_, ?_, hblk.next hlt _ ?_, hbel.setCell (by simp) _⟩
        · congr 1; omega
        · rw [HQ.out, Nat.pow_succ, ← Nat.div_div_eq_div_mul]; rfl
        · rw [← HQ.out]; rfl
      case measure => simp [intOf]; omega
    · obtain rfl : k = 8 := by omega
      go_wp2
      go_ret
      have hb : Below w.heap.size w wr := ((Below.refl _ w).alloc (Nat.le_refl _) _).trans hbel
      refine ⟨_, rfl, ?_, hb⟩
      unfold CkBlk at hblk
      rw [bts_len]
      exact ⟨by simp [bts_len], .inr ⟨w.heap.size, 8, _, rfl, Nat.le_refl _, hblk, Nat.le_refl _, by unfold maxLen; decide, by simp [bts_len], by simp; exact List.take_of_length_le (by simp [bts_len])⟩⟩

theorem rof_is (v : Value) (xs : List Nat) (w : World) (q : Nat) (hx : Bsl w v xs) (hb : Byt xs) (hl : Room2 xs.length) (hq : q = fnv fbase xs) :
    Calls Try.prog 12 #[v] w fun e w' => e = .returned (.int .u64 (q : Int)) ∧ w = w' :=
  (rof_any v xs w hx hb hl).mono fun _ _ ⟨q', he, h1, _, hw⟩ => ⟨by rw [he, hq, ← h1], hw⟩

set_option maxHeartbeats 400000 in
theorem rseal_any (A : Option Addr) (c : Nat) (xs : List Nat) (w : World) (hx : Bsl w (.slice A xs.length c) xs) (hb : Byt xs) (hl : xs.length ≤ 140737488350000) :
    Calls Try.prog 18 #[.slice A xs.length c] w (OwnPost w (sealed xs)) := by
  have Hx := Lib.hid hx; clear hx
  obtain ⟨q, hq⟩ : ∃ q, q = fnv fbase xs := ⟨_, rfl⟩
  have Hq := Lib.hid hq
  have Hu := Lib.hid (show U64 q by rw [hq]; exact fnv_lt _ _ (by unfold fbase; decide)); clear hq
  go_enter Try.func18, Try.ntmps18
  go_wp2_with (at_builtin; refine appB rfl (.tmp 3) (.tmp 4) 23 rfl info_u8 Try.underlying23 w.heap.size _ 0 [] rfl (own_lit w #[] 0 [] rfl rfl (by decide)) _ xs rfl (Hx.out.alloc _) (by unfold Room2; omega) (by simp) ?_; intro v1 w1 hown1 hf1; rw [Nat.zero_add, List.nil_append] at hown1)
  have hb1 : Below w.heap.size w w1 := ((Below.refl _ w).alloc (Nat.le_refl _) _).trans (hf1.below (by simp))
  have Hb1 := Lib.hid hb1
  have Hown1 := Lib.hid hown1; clear hown1 hf1 hb1
  refine (rof_is _ xs _ q (Hx.out.below Hb1.out) hb (by unfold Room2; omega) Hq.out).mono ?_
  rintro e w2 ⟨rfl, rfl⟩
  go_wp2_with fail
  refine (eight_any q _ Hu.out).mono ?_
  rintro e w2 ⟨v2, rfl, hown2, hb2⟩
  have Hb2 := Lib.hid hb2
  have hx2 := Bsl.of_own hown2
  have hown12 : w2.ownsRow w.heap.size 5 1 v1 xs.length (xs.map bv) := by
    refine ⟨Hown1.out.1, ?_⟩
    rcases Hown1.out.2 with h | ⟨g, cap, cur, h1, h2, h3, h4⟩
    · exact .inl h
    · exact .inr ⟨g, cap, cur, h1, h2, (hb2.block g (lt_of_some h3)).trans h3, h4⟩
  have Hx2 := Lib.hid hx2
  have Hown12 := Lib.hid hown12; clear hown12 hx2 hown2 hb2
  go_wp2_with (at_builtin; refine appB rfl (.tmp 5) (.tmp 8) 23 rfl info_u8 Try.underlying23 w.heap.size _ xs.length (xs.map bv) rfl Hown12.out _ (bts 8 q) rfl Hx2.out (by rw [bts_len]; unfold Room2; omega) (Nat.le_trans Hb1.out.size Hb2.out.size) ?_; intro v3 w3 hown3 hf3)
  go_ret
  refine ⟨v3, rfl, ?_, ?_⟩
  · rw [sealed_len, sealed, ← Hq.out, List.map_append]
    rwa [bts_len] at hown3
  · exact Hb1.out.trans ((Hb2.out.mono Hb1.out.size).trans (hf3.below (Nat.le_trans Hb1.out.size Hb2.out.size)))
end Go.Proofs.Ytkjconhhandhlab
