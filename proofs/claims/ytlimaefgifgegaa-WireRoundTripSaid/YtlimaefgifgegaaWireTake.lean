/- The contract of take: a part of the reader's bytes. -/
import Derived.Test.YtlimaefgifgegaaWireRd
namespace Go.Proofs.Ytlimaefgifgegaa
open Go.RowKit

section
variable {w : World} {g n c k : Nat} {A : Option Addr} {xs : List Nat} {fl : Bool}
/-- v is a slice of the bytes ys; what address an empty one has is left open. -/
def Sl (w : World) (v : Value) (ys : List Nat) : Prop := ∃ B m d, v = .slice B m d ∧ m = ys.length ∧ m ≤ d ∧ Bs w B ys
def TakePost (w : World) (g : Nat) (A : Option Addr) (n c : Nat) (xs : List Nat) (ys : List Nat) (k : Nat) (fl : Bool) (e : Ending) (w' : World) : Prop :=
  ∃ v, e = .returned v ∧ Sl w' v ys ∧ Rdr w' g A n c xs k fl ∧ Only g w w'

theorem Bs.take {w : World} {A : Option Addr} {xs : List Nat} (h : Bs w A xs) (m : Nat) : Bs w A (xs.take m) := by
  rcases h with h | ⟨ad, hA, h⟩
  · left; simp [h]
  · right
    refine ⟨ad, hA, fun j c hj => h j c ?_⟩
    rw [List.getElem?_take] at hj
    split at hj
    · exact hj
    · cases hj

set_option maxHeartbeats 400000 in
theorem take_no (m : Nat) (h : Rdr w g A n c xs k fl) (hm : n - k < m) (_hm2 : m ≤ 9223372036854775807) :
    Calls Try.prog 56 #[.pointer (some ⟨g, 0, none⟩), .int .i64 (m : Int)] w (TakePost w g A n c xs [] k true) := by
  have f2 := h.free 2
  have c2 := h.cell 2
  have hof := h.off
  have H := Lib.hid h; clear h
  have t0 : decide ((n : Int) - (k : Int) < (m : Int)) = true := by simp; omega
  go_enter Try.func56, Try.ntmps56
  go_wp2_with (go_at_call 21; refine (left_any H.out).mono ?_; rintro e w' ⟨rfl, q, rfl⟩)
  go_ret
  exact ⟨_, rfl, ⟨none, 0, 0, rfl, rfl, Nat.le_refl _, .inl rfl⟩, (H.out.drewN q).fail, ((Only.refl g w).drewN q).set 2 _⟩

set_option maxHeartbeats 400000 in
theorem take_ok (m : Nat) (h : Rdr w g A n c xs k fl) (hm : m ≤ n - k) :
    Calls Try.prog 56 #[.pointer (some ⟨g, 0, none⟩), .int .i64 (m : Int)] w (TakePost w g A n c xs ((xs.drop k).take m) (k + m) fl) := by
  have f1 := h.free 1
  have c1 := h.cell 1
  have hof := h.off
  have hr := h.room
  have hcap := h.cap
  have hlen := h.len
  unfold Room2 at hr
  have H := Lib.hid h; clear h
  have t0 : decide ((n : Int) - (k : Int) < (m : Int)) = false := by simp; omega
  have hk0 : (0 : Int) ≤ (k : Int) := by omega
  have hm0 : (0 : Int) ≤ (m : Int) := by omega
  have hb1 : (k : Int) + (m : Int) ≤ 140737488355000 := by omega
  have hb2 : (k : Int) + (m : Int) ≤ (c : Int) := by omega
  by_cases hck : c = k
  · obtain rfl : k = c := hck.symm
    have hb3 : (m : Int) ≤ 0 := by omega
    clear hb2 hcap
    go_enter Try.func56, Try.ntmps56
    go_wp2_with (go_at_call 21; refine (left_any H.out).mono ?_; rintro e w' ⟨rfl, q, rfl⟩)
    have hR := (H.out.drewN q).go (k + m) (by omega)
    rw [show ((k + m : Nat) : Int) = (k : Int) + (m : Int) by omega] at hR
    generalize hw5 : (w.drewN q).setCell ⟨g, 1, none⟩ (.int .i64 ((k : Int) + (m : Int))) = w5 at *
    have ho5 : Only g w w5 := by rw [← hw5]; exact ((Only.refl g w).drewN q).set 1 _
    have Ho5 := Lib.hid ho5
    have HR := Lib.hid hR
    have d0 := hR.cell 0
    have d1 : w5.cell? ⟨g, 1, none⟩ = some (.int .i64 ((k : Int) + (m : Int))) := by have := hR.cell 1; simpa using this
    have i5 : IntKind.i64.wrap ((k : Int) + (m : Int) - (m : Int)) = (k : Int) := by rw [IntKind.wrap_i64]; omega
    have i6 : IntKind.i64.wrap (k : Int) = (k : Int) := by rw [IntKind.wrap_i64]; omega
    clear hw5 ho5 hR c1 f1
    go_quiet (fail)
    go_wp2
    go_ret
    refine ⟨_, rfl, ⟨_, _, _, rfl, ?_, ?_, ?_⟩, HR.out.drewN _, Ho5.out.drewN _⟩
    · rw [List.length_take, List.length_drop]; omega
    · omega
    · have hB := (HR.out.drewN nq).bs.cut HR.out.len hof HR.out.cap
      rw [if_pos rfl] at hB
      exact hB.take m
  · go_enter Try.func56, Try.ntmps56
    go_wp2_with (go_at_call 21; refine (left_any H.out).mono ?_; rintro e w' ⟨rfl, q, rfl⟩)
    have hR := (H.out.drewN q).go (k + m) (by omega)
    rw [show ((k + m : Nat) : Int) = (k : Int) + (m : Int) by omega] at hR
    generalize hw5 : (w.drewN q).setCell ⟨g, 1, none⟩ (.int .i64 ((k : Int) + (m : Int))) = w5 at *
    have ho5 : Only g w w5 := by rw [← hw5]; exact ((Only.refl g w).drewN q).set 1 _
    have Ho5 := Lib.hid ho5
    have HR := Lib.hid hR
    have d0 := hR.cell 0
    have d1 : w5.cell? ⟨g, 1, none⟩ = some (.int .i64 ((k : Int) + (m : Int))) := by have := hR.cell 1; simpa using this
    have i5 : IntKind.i64.wrap ((k : Int) + (m : Int) - (m : Int)) = (k : Int) := by rw [IntKind.wrap_i64]; omega
    have i6 : IntKind.i64.wrap (k : Int) = (k : Int) := by rw [IntKind.wrap_i64]; omega
    clear hw5 ho5 hR c1 f1
    go_quiet (fail)
    go_wp2
    go_ret
    refine ⟨_, rfl, ⟨_, _, _, rfl, ?_, ?_, ?_⟩, HR.out.drewN _, Ho5.out.drewN _⟩
    · rw [List.length_take, List.length_drop]; omega
    · omega
    · have hB := (HR.out.drewN nq).bs.cut HR.out.len hof HR.out.cap
      rw [if_neg hck] at hB
      exact hB.take m
end
end Go.Proofs.Ytlimaefgifgegaa
