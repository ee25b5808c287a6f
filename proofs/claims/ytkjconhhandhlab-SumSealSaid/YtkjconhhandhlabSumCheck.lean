/- The contract of checksum: a hash as eight bytes. -/
import Derived.Test.YtkjconhhandhlabSumFrom
namespace Go.Proofs.Ytkjconhhandhlab
open Go.RowKit

def bts : Nat → Nat → List Nat
  | 0, _ => []
  | k + 1, h => (h / 256 ^ k % 256) :: bts k h
theorem bts_len (k h : Nat) : (bts k h).length = k := by induction k with
  | zero => rfl
  | succ k ih => simp [bts, ih]
theorem bts_byt (k h : Nat) : Byt (bts k h) := by
  induction k with
  | zero => intro c hc; simp [bts] at hc
  | succ k ih =>
    intro c hc
    simp only [bts, List.mem_cons] at hc
    rcases hc with rfl | hc
    · exact Nat.mod_lt _ (by decide)
    · exact ih c hc
theorem bts_inj (k : Nat) : ∀ a b, bts k a = bts k b → a % 256 ^ k = b % 256 ^ k := by
  induction k with
  | zero => intro a b _; simp; omega
  | succ k ih =>
    intro a b h
    simp only [bts, List.cons.injEq] at h
    have := ih a b h.2
    rw [Nat.pow_succ, Nat.mod_mul, Nat.mod_mul, h.1, this]
def CkBlk (t : TypeId) (w : World) (h : Nat) (B : Nat) (k : Nat) : Prop := w.heap[B]? = some (.cells (List.replicate (8 - k) (bv 0) ++ (bts k h).map bv).toArray t (0, 0))
def CkRel (w : World) (h B : Nat) (q i : Value) (wr : World) : Prop := ∃ k : Nat, k ≤ 8 ∧ i = .int .i64 k ∧ q = .int .u64 ((h / 256 ^ k : Nat) : Int) ∧ CkBlk 45 wr h B k ∧ Below B w wr
theorem CkBlk.cell {t : TypeId} {w : World} {h B k : Nat} (hb : CkBlk t w h B k) (hk : k < 8) : w.cell? ⟨B, 7 - k, none⟩ = some (.int .u8 0) := by
  rw [cell_of_row w B (7 - k) _ _ _ hb]
  simp [List.getElem?_append_left, show 7 - k < 8 - k by omega, bv]
theorem CkBlk.next {t : TypeId} {w : World} {h B k : Nat} (hb : CkBlk t w h B k) (hk : k < 8) (v : Value) (hv : v = bv (h / 256 ^ k % 256)) : CkBlk t (w.setCell ⟨B, 7 - k, none⟩ v) h B (k + 1) := by
  unfold CkBlk
  rw [heap_set hb]
  have e : 8 - k = (7 - k) + 1 := by omega
  simp only [List.setIfInBounds_toArray]
  rw [List.set_append_left _ _ (by simp; omega), e, List.replicate_succ', List.set_append_right _ _ (by simp)]
  simp [bts, hv, show 8 - (k + 1) = 7 - k by omega]

theorem heap_set8 {w : World} {g t : Nat} {z0 z1 z2 z3 z4 z5 z6 z7 : Value} (h : w.heap[g]? = some (.cells #[z0, z1, z2, z3, z4, z5, z6, z7] t (0, 0))) (b0 b1 b2 b3 b4 b5 b6 b7 : Value) :
    ((((((((w.setCell ⟨g, 0, none⟩ b0).setCell ⟨g, 1, none⟩ b1).setCell ⟨g, 2, none⟩ b2).setCell ⟨g, 3, none⟩ b3).setCell ⟨g, 4, none⟩ b4).setCell ⟨g, 5, none⟩ b5).setCell ⟨g, 6, none⟩ b6).setCell ⟨g, 7, none⟩ b7).heap[g]? = some (.cells #[b0, b1, b2, b3, b4, b5, b6, b7] t (0, 0)) := by
  have := heap_set (i := 7) (v := b7) (heap_set (i := 6) (v := b6) (heap_set (i := 5) (v := b5) (heap_set (i := 4) (v := b4) (heap_set (i := 3) (v := b3) (heap_set (i := 2) (v := b2) (heap_set (i := 1) (v := b1) (heap_set (i := 0) (v := b0) h)))))))
  simpa using this
def CkPost (w : World) (xs : List Nat) (e : Ending) (w' : World) : Prop := ∃ b0 b1 b2 b3 b4 b5 b6 b7 : Nat,
  e = .returned (.agg #[.int .u8 (b0 : Int), .int .u8 (b1 : Int), .int .u8 (b2 : Int), .int .u8 (b3 : Int), .int .u8 (b4 : Int), .int .u8 (b5 : Int), .int .u8 (b6 : Int), .int .u8 (b7 : Int)]) ∧
    bts 8 (fnv fbase xs) = [b0, b1, b2, b3, b4, b5, b6, b7] ∧ Below w.heap.size w w'
theorem checksum_any (v : Value) (xs : List Nat) (w : World) (hx : Bsl w v xs) (hb : Byt xs) (hl : Room2 xs.length) :
    Calls Try.prog 23 #[v] w (CkPost w xs) := by
  have Hx := Lib.hid hx; clear hx
  go_enter Try.func23, Try.ntmps23
  go_wp2_with fail
  refine (of_any v xs _ ((Hx.out.alloc _).alloc _) hb hl).mono ?_
  rintro e w1 ⟨h, rfl, hq, hu, rfl⟩
  have Hq := Lib.hid hq; clear hq
  have Hu := Lib.hid hu; clear hu
  go_wp2
  go_loopw [4, 8] (fun q i wr => CkRel ((w.alloc (.cells #[.int .u8 0, .int .u8 0, .int .u8 0, .int .u8 0, .int .u8 0, .int .u8 0, .int .u8 0, .int .u8 0] 45)).alloc (.cells #[.int .u8 0, .int .u8 0, .int .u8 0, .int .u8 0, .int .u8 0, .int .u8 0, .int .u8 0, .int .u8 0] 45)) h (w.heap.size + 1) q i wr) (fun _ i _ => 8 - (intOf i).toNat)
  case atStart => exact ⟨0, by omega, rfl, by simp, heap_alloc_2' w _ _, Below.refl _ _⟩
  case round =>
    obtain ⟨k, hk, rfl, rfl, hblk, hbel⟩ := hrel
    have hqlt : h / 256 ^ k < 18446744073709551616 := Nat.lt_of_le_of_lt (Nat.div_le_self _ _) Hu.out
    obtain ⟨q, hq⟩ : ∃ q, q = h / 256 ^ k := ⟨_, rfl⟩
    rw [← hq] at hqlt ⊢
    have HQ := Lib.hid hq; clear hq
    by_cases hlt : k < 8
    · have hfr : ∀ i, wr.frozen? ⟨w.heap.size + 1, i, none⟩ = false := fun i => by unfold CkBlk at hblk; simp [World.frozen?, hblk]
      have hcell := hblk.cell hlt
      go_wp2
      go_roundw
      case rel =>
        refine ⟨k + 1, by omega, by go_num, ?_, hblk.next hlt _ ?_, hbel.setCell (by simp) _⟩
        · rw [HQ.out, Nat.pow_succ, ← Nat.div_div_eq_div_mul]; rfl
        · rw [← HQ.out]; show Value.int .u8 _ = Value.int .u8 _; congr 1
      case measure => simp [intOf]; omega
    · obtain rfl : k = 8 := by omega
      have hR := (hbel.block w.heap.size (by omega)).trans (heap_alloc_2 w _ _)
      obtain ⟨b0, b1, b2, b3, b4, b5, b6, b7, hbs⟩ : ∃ b0 b1 b2 b3 b4 b5 b6 b7, bts 8 h = [b0, b1, b2, b3, b4, b5, b6, b7] := ⟨_, _, _, _, _, _, _, _, rfl⟩
      unfold CkBlk at hblk
      rw [hbs] at hblk
      have Hbs := Lib.hid hbs; clear hbs
      have a0 := cell_of_row wr w.heap.size 0 _ _ _ hR
      have a1 := cell_of_row wr w.heap.size 1 _ _ _ hR
      have a2 := cell_of_row wr w.heap.size 2 _ _ _ hR
      have a3 := cell_of_row wr w.heap.size 3 _ _ _ hR
      have a4 := cell_of_row wr w.heap.size 4 _ _ _ hR
      have a5 := cell_of_row wr w.heap.size 5 _ _ _ hR
      have a6 := cell_of_row wr w.heap.size 6 _ _ _ hR
      have a7 := cell_of_row wr w.heap.size 7 _ _ _ hR
      have c0 : wr.cell? ⟨w.heap.size + 1, 0, none⟩ = some (.int .u8 (b0 : Int)) := cell_of_row wr (w.heap.size + 1) 0 _ _ _ hblk
      have c1 : wr.cell? ⟨w.heap.size + 1, 1, none⟩ = some (.int .u8 (b1 : Int)) := cell_of_row wr (w.heap.size + 1) 1 _ _ _ hblk
      have c2 : wr.cell? ⟨w.heap.size + 1, 2, none⟩ = some (.int .u8 (b2 : Int)) := cell_of_row wr (w.heap.size + 1) 2 _ _ _ hblk
      have c3 : wr.cell? ⟨w.heap.size + 1, 3, none⟩ = some (.int .u8 (b3 : Int)) := cell_of_row wr (w.heap.size + 1) 3 _ _ _ hblk
      have c4 : wr.cell? ⟨w.heap.size + 1, 4, none⟩ = some (.int .u8 (b4 : Int)) := cell_of_row wr (w.heap.size + 1) 4 _ _ _ hblk
      have c5 : wr.cell? ⟨w.heap.size + 1, 5, none⟩ = some (.int .u8 (b5 : Int)) := cell_of_row wr (w.heap.size + 1) 5 _ _ _ hblk
      have c6 : wr.cell? ⟨w.heap.size + 1, 6, none⟩ = some (.int .u8 (b6 : Int)) := cell_of_row wr (w.heap.size + 1) 6 _ _ _ hblk
      have c7 : wr.cell? ⟨w.heap.size + 1, 7, none⟩ = some (.int .u8 (b7 : Int)) := cell_of_row wr (w.heap.size + 1) 7 _ _ _ hblk
      have hfr : ∀ i, wr.frozen? ⟨w.heap.size, i, none⟩ = false := fun i => by simp [World.frozen?, hR]
      have HR := Lib.hid hR; clear hR hblk
      have hbw : Below w.heap.size w wr := (((Below.refl _ w).alloc (Nat.le_refl _) _).alloc (by simp) _).trans (hbel.mono (by omega))
      have Hbw := Lib.hid hbw; clear hbw hbel
      go_wp2
      refine bodyPost_ret (v := .agg #[.int .u8 (b0 : Int), .int .u8 (b1 : Int), .int .u8 (b2 : Int), .int .u8 (b3 : Int), .int .u8 (b4 : Int), .int .u8 (b5 : Int), .int .u8 (b6 : Int), .int .u8 (b7 : Int)]) (results_cell_row Try.results23 _ _ w.heap.size 45 _ (0, 0) _ rfl (heap_set8 HR.out _ _ _ _ _ _ _ _) Try.underlying45 rfl (by kernel_rfl)) rfl ?_
      refine ⟨b0, b1, b2, b3, b4, b5, b6, b7, rfl, by rw [← Hq.out]; exact Hbs.out, ?_⟩
      repeat refine Below.setCell ?_ (by simp) _
      exact Hbw.out
end Go.Proofs.Ytkjconhhandhlab
