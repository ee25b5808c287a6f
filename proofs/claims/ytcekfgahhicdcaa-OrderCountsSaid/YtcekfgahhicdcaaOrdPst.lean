/- The words of the pasts: follow. -/
import Derived.Test.YtcekfgahhicdcaaOrdFns
namespace Go.Proofs.Ytcekfgahhicdcaa
open Go.RowKit

theorem Below.drewNs (w : World) (n : Nat) : Below w.heap.size w (w.drewN n) := ⟨rfl, rfl, rfl, Nat.le_refl _, fun _ _ => rfl⟩
theorem below_alloc (w : World) (o : Obj) : Below w.heap.size w (w.alloc o) := (Below.refl _ w).alloc (Nat.le_refl _) o
/-- A row of words of the call's own. -/
def Wrow (B g n cap : Nat) (l : List Nat) (w : World) : Prop := w.ownsRow B 62 1 (.slice (some ⟨g, 0, none⟩) n cap) n (l.map uv)
theorem Wrow.len {B g n cap : Nat} {l : List Nat} {w : World} (h : Wrow B g n cap l w) : l.length = n := by simpa using h.1
theorem Wrow.at {B g n cap : Nat} {l : List Nat} {w : World} (h : Wrow B g n cap l w) (r : Nat) (hr : r < n) : w.cell? ⟨g, r, none⟩ = some (.int .u64 (l.getD r 0 : Nat)) := by
  have hl := h.len
  rw [World.ownsRow.cellAt h r (by omega), List.getElem?_map, List.getElem?_eq_getElem (by omega), List.getD_eq_getElem?_getD, List.getElem?_eq_getElem (by omega)]; rfl
theorem Wrow.put {B g n cap : Nat} {l : List Nat} {w : World} (h : Wrow B g n cap l w) (r x : Nat) : Wrow B g n cap (l.set r x) (w.setCell ⟨g, r, none⟩ (.int .u64 (x : Int))) := by
  have := (World.ownsRow.stored h r (uv x)).1
  unfold Wrow
  rwa [← List.map_set] at this
theorem Wrow.low {B g n cap : Nat} {l : List Nat} {w : World} (h : Wrow B g n cap l w) : B ≤ g := by
  rcases h.2 with ⟨h0, _⟩ | ⟨g', cap', cur, h1, hb, _⟩
  · cases h0
  · simp only [Value.slice.injEq, Option.some.injEq, Addr.mk.injEq, true_and, and_true] at h1
    obtain ⟨rfl, _⟩ := h1
    exact hb
theorem Wrow.lt {B g n cap : Nat} {l : List Nat} {w : World} (h : Wrow B g n cap l w) : g < w.heap.size := by
  rcases h.2 with ⟨h0, _⟩ | ⟨g', cap', cur, h1, hb, hh, _⟩
  · cases h0
  · simp only [Value.slice.injEq, Option.some.injEq, Addr.mk.injEq, true_and, and_true] at h1
    obtain ⟨rfl, _⟩ := h1
    exact lt_of_some hh
theorem flW_mem {n : Nat} {E : Nat → Nat → Bool} {b e j : Nat} (h : n ≤ 60) (hj : j < n) : (flW n E b e).getD j 0 < 2 ^ 64 := by
  rw [flW_at hj]; exact setOf_u64 h _

set_option maxHeartbeats 1000000 in
theorem follow_any (B g n cap : Nat) (E : Nat → Nat → Bool) (w : World) (h : Wrow B g n cap (flW n E 0 0) w) (hn : n ≤ 60) :
    Calls Try.prog 46 #[.slice (some ⟨g, 0, none⟩) n cap] w fun e w' => e = .returned (.tuple #[]) ∧ Wrow B g n cap (flW n E n 0) w' ∧ Below B w w' := by
  have hB := h.low
  have H := Lib.hid h
  clear h
  go_enter Try.func46, Try.ntmps46
  go_wp2
  go_loopw [7] (fun i wr => ∃ k : Nat, k ≤ n ∧ i = .int .i64 k ∧ Hid (Wrow B g n cap (flW n E k 0) wr) ∧ Hid (Below B w wr)) (fun i _ => n - (intOf i).toNat)
  case atStart => exact ⟨0, Nat.zero_le _, rfl, H, Lib.hid (Below.refl _ _)⟩
  case round =>
    obtain ⟨k, hk, rfl, Hw, Hb⟩ := hrel
    clear H
    by_cases hlt : k < n
    · have hc := Hw.out.at k hlt
      have Hx := Lib.hid (flW_self (E := E) (e := 0) hlt)
      have Hxl := Lib.hid (flW_mem (E := E) (b := k) (e := 0) hn hlt)
      generalize (flW n E k 0).getD k 0 = x at *
      go_wp2
      go_loopw [14] (fun i wr => ∃ e : Nat, e ≤ n ∧ i = .int .i64 e ∧ Hid (Wrow B g n cap (flW n E k e) wr) ∧ Hid (Below B w wr)) (fun i _ => n - (intOf i).toNat)
      case atStart => exact ⟨0, Nat.zero_le _, rfl, Hw, Hb⟩
      case round =>
        clear hc Hw Hb
        obtain ⟨e, he, rfl, Hw, Hb⟩ := hrel
        by_cases hle : e < n
        · have hc := Hw.out.at e hle
          have fk := World.ownsRow.frozenAt Hw.out e
          have Hyl := Lib.hid (flW_mem (E := E) (b := k) (e := e) hn hle)
          have Hyb := Lib.hid (flW_has (E := E) (b := k) (e := e) hlt hle)
          cases hy : Pk E k k e with
          | true =>
            have Hn := Lib.hid (flW_yes (n := n) hle hy)
            have Hp := Lib.hid (Hw.out.put e ((flW n E k e).getD e 0 ||| x))
            rw [← Hx.out] at Hn
            rw [hy] at Hyb
            generalize (flW n E k e).getD e 0 = y at *
            go_wp2_with fail
            refine (has_any y k _ Hyl.out (by omega)).mono ?_
            rintro r w1 ⟨rfl, rfl⟩
            rw [Hyb.out]
            have eor := u64_or_nat y x Hyl.out Hxl.out
            go_wp2
            go_roundw
            case rel => exact ⟨e + 1, by omega, by go_num, Lib.hid (Hn.out ▸ Hp.out), Lib.hid (Hb.out.setCell (p := ⟨g, e, none⟩) hB _)⟩
            case measure => simp [intOf]; omega
          | false =>
            have Hn := Lib.hid (flW_no (n := n) hy)
            rw [hy] at Hyb
            generalize (flW n E k e).getD e 0 = y at *
            go_wp2_with fail
            refine (has_any y k _ Hyl.out (by omega)).mono ?_
            rintro r w1 ⟨rfl, rfl⟩
            rw [Hyb.out]
            go_wp2
            go_roundw
            case rel => exact ⟨e + 1, by omega, by go_num, Lib.hid (Hn.out ▸ Hw.out), Hb⟩
            case measure => simp [intOf]; omega
        · obtain rfl : e = n := by omega
          go_wp2
          go_roundw
          case rel => exact ⟨k + 1, by omega, by go_num, Lib.hid (flW_round e E k ▸ Hw.out), Hb⟩
          case measure => simp [intOf]; omega
    · obtain rfl : k = n := by omega
      go_wp2
      refine bodyPost_end (results_none rfl _ _ _) rfl ?_
      exact ⟨rfl, Hw.out, Hb.out⟩
end Go.Proofs.Ytcekfgahhicdcaa
