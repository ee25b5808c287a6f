/- The contracts of Digits, the program's and the reference's. -/
import Derived.Test.YtkjconhhandhlabSumFrom
namespace Go.Proofs.Ytkjconhhandhlab
open Go.RowKit

def hx (d : Nat) : Nat := if d < 10 then 48 + d else 87 + d
def digs : Nat → Nat → List Nat
  | 0, _ => []
  | k + 1, h => hx (h / 16 ^ k % 16) :: digs k h
theorem digs_len (k h : Nat) : (digs k h).length = k := by induction k with
  | zero => rfl
  | succ k ih => simp [digs, ih]
theorem and15 (q : Nat) (h : q < 18446744073709551616) : bits .and .u64 (q : Int) 15 = ((q % 16 : Nat) : Int) := by
  have e : (15 : Int) = ((15 : Nat) : Int) := rfl
  rw [e, u64_and_nat _ _ h (by decide)]
  congr 1
  exact Nat.and_two_pow_sub_one_eq_mod q 4
theorem hexat (d : Nat) (hd : d < 16) : (({ data := #[48, 49, 50, 51, 52, 53, 54, 55, 56, 57, 97, 98, 99, 100, 101, 102] } : ByteArray)[d]'hd).toNat = hx d := by
  have : ∀ d : Fin 16, (({ data := #[48, 49, 50, 51, 52, 53, 54, 55, 56, 57, 97, 98, 99, 100, 101, 102] } : ByteArray)[d.1]'d.2).toNat = hx d.1 := by decide
  exact this ⟨d, hd⟩
theorem hexcut (d : Nat) (hd : d < 16) : ({ data := #[48, 49, 50, 51, 52, 53, 54, 55, 56, 57, 97, 98, 99, 100, 101, 102] } : ByteArray).extract d (d + 1) = strOf [hx d] := by
  have : ∀ d : Fin 16, ({ data := #[48, 49, 50, 51, 52, 53, 54, 55, 56, 57, 97, 98, 99, 100, 101, 102] } : ByteArray).extract d.1 (d.1 + 1) = strOf [hx d.1] := by decide
  exact this ⟨d, hd⟩
theorem strOf_size (xs : List Nat) : (strOf xs).size = xs.length := by simp [strOf, ByteArray.size]
theorem strOf_app (xs ys : List Nat) : strOf (xs ++ ys) = strOf xs ++ strOf ys := by
  apply ByteArray.ext
  simp [strOf]
theorem digs_byt (k h : Nat) : Byt (digs k h) := by
  induction k with
  | zero => intro c hc; simp [digs] at hc
  | succ k ih =>
    intro c hc
    simp only [digs, List.mem_cons] at hc
    rcases hc with rfl | hc
    · unfold hx; have := Nat.mod_lt (h / 16 ^ k) (show 16 > 0 by decide); split <;> omega
    · exact ih c hc
theorem hx_lt (d : Nat) (hd : d < 16) : hx d < 256 := by unfold hx; split <;> omega
def DigBlk (w : World) (h : Nat) (B : Nat) (k : Nat) : Prop := w.heap[B]? = some (.cells (List.replicate (16 - k) (bv 0) ++ (digs k h).map bv).toArray 52 (0, 0))
def DigRel (w : World) (h : Nat) (q i : Value) (wr : World) : Prop := ∃ k : Nat, k ≤ 16 ∧ i = .int .i64 k ∧ q = .int .u64 ((h / 16 ^ k : Nat) : Int) ∧ DigBlk wr h w.heap.size k ∧ Below w.heap.size w wr

theorem DigBlk.cell {w : World} {h B k : Nat} (hb : DigBlk w h B k) (hk : k < 16) : w.cell? ⟨B, 15 - k, none⟩ = some (.int .u8 0) := by
  rw [cell_of_row w B (15 - k) _ _ _ hb]
  simp [List.getElem?_append_left, show 15 - k < 16 - k by omega, bv]
theorem DigBlk.next {w : World} {h B k : Nat} (hb : DigBlk w h B k) (hk : k < 16) (v : Value) (hv : v = bv (hx (h / 16 ^ k % 16))) : DigBlk (w.setCell ⟨B, 15 - k, none⟩ v) h B (k + 1) := by
  unfold DigBlk
  rw [heap_set hb]
  have e : 16 - k = (15 - k) + 1 := by omega
  simp only [List.setIfInBounds_toArray]
  rw [List.set_append_left _ _ (by simp; omega), e, List.replicate_succ', List.set_append_right _ _ (by simp)]
  simp [digs, hv, show 16 - (k + 1) = 15 - k by omega]

theorem DigBlk.bsl {w : World} {h B : Nat} (hb : DigBlk w h B 16) : Bsl w (.slice (some ⟨B, 0, none⟩) 16 16) (digs 16 h) := by
  refine .inr ⟨⟨B, 0, none⟩, 16, by rw [digs_len], by rw [digs_len]; omega, fun j b hj => ?_⟩
  have e : (⟨B, 0, none⟩ : Addr).add j = ⟨B, j, none⟩ := by unfold Addr.add; split <;> simp_all
  rw [e, cell_of_row w B j _ _ _ hb]
  simp [hj]

theorem digits_any (h : Nat) (w : World) (hs : U64 h) :
    Calls Try.prog 21 #[.int .u64 (h : Int)] w (fun e w' => e = .returned (.string (strOf (digs 16 h))) ∧ Below w.heap.size w w') := by
  have Hs := Lib.hid hs; clear hs
  go_enter Try.func21, Try.ntmps21
  go_wp2
  go_loopw [0, 5] (fun q i wr => DigRel w h q i wr) (fun _ i _ => 16 - (intOf i).toNat)
  case atStart => exact ⟨0, by omega, rfl, by simp, heap_alloc_new w _, (Below.refl _ w).alloc (Nat.le_refl _) _⟩
  case round =>
    obtain ⟨k, hk, rfl, rfl, hblk, hbel⟩ := hrel
    have hqlt : h / 16 ^ k < 18446744073709551616 := Nat.lt_of_le_of_lt (Nat.div_le_self _ _) Hs.out
    obtain ⟨q, hq⟩ : ∃ q, q = h / 16 ^ k := ⟨_, rfl⟩
    rw [← hq] at hqlt ⊢
    have HQ := Lib.hid hq; clear hq
    have hand := and15 q hqlt
    by_cases hlt : k < 16
    · have hfr : ∀ i, wr.frozen? ⟨w.heap.size, i, none⟩ = false := fun i => by unfold DigBlk at hblk; simp [World.frozen?, hblk]
      have hcell := hblk.cell hlt
      go_wp2
      go_roundw
      case rel =>
        refine ⟨k + 1, by omega, by go_num, ?_, hblk.next hlt _ ?_, hbel.setCell (by simp) _⟩
        · rw [HQ.out, Nat.pow_succ, ← Nat.div_div_eq_div_mul]; rfl
        · rw [hexat, HQ.out]; rfl
      case measure => simp [intOf]; omega
    · obtain rfl : k = 16 := by omega
      have hx := hblk.bsl
      have rs := run_str (P := Try.prog) wr 23 5 9 Try.underlying23 Try.underlying5 Try.underlying9 _ _ hx
      go_wp2
      go_ret
      exact ⟨rfl, hbel⟩
theorem rdigits_any (h : Nat) (w : World) (hs : U64 h) :
    Calls Try.prog 22 #[.int .u64 (h : Int)] w (fun e w' => e = .returned (.string (strOf (digs 16 h))) ∧ w = w') := by
  have Hs := Lib.hid hs; clear hs
  go_enter Try.func22, Try.ntmps22
  go_wp2
  go_loop [0, 3, 4] (fun q o i => ∃ k : Nat, k ≤ 16 ∧ i = .int .i64 k ∧ q = .int .u64 ((h / 16 ^ k : Nat) : Int) ∧ o = .string (strOf (digs k h))) (fun _ _ i => 16 - (intOf i).toNat)
  case atStart => exact ⟨0, by omega, rfl, by simp, rfl⟩
  case round =>
    obtain ⟨k, hk, rfl, rfl, rfl⟩ := hrel
    have hqlt : h / 16 ^ k < 18446744073709551616 := Nat.lt_of_le_of_lt (Nat.div_le_self _ _) Hs.out
    obtain ⟨q, hq⟩ : ∃ q, q = h / 16 ^ k := ⟨_, rfl⟩
    rw [← hq] at hqlt ⊢
    have HQ := Lib.hid hq; clear hq
    by_cases hlt : k < 16
    · have hsz : ¬ 9223372036854775807 < min (q % 16 + 1) 16 - q % 16 + (strOf (digs k h)).size := by rw [strOf_size, digs_len]; omega
      go_wp2
      go_round
      case rel =>
        refine ⟨k + 1, by omega, by go_num, ?_, ?_⟩
        · rw [HQ.out, Nat.pow_succ, ← Nat.div_div_eq_div_mul]; rfl
        · rw [hexcut _ (Nat.mod_lt _ (by decide)), ← strOf_app, HQ.out]; rfl
      case measure => simp [intOf]; omega
    · obtain rfl : k = 16 := by omega
      go_wp2
      go_ret
      exact ⟨rfl, rfl⟩
end Go.Proofs.Ytkjconhhandhlab
