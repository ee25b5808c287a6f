/- Slices of api.Value in memory; what few bounds on them say. -/
import Derived.Test.YtlimaefgifgegaaWireEnc
import Derived.Deep.QuietTactic
import Derived.BigQuiet
namespace Go.Proofs.Ytlimaefgifgegaa
open Go.RowKit

/-- Kind, N, S. -/
abbrev Vl := Int × Int × ByteArray
def VlOk (x : Vl) : Prop := I64 x.1 ∧ I64 x.2.1 ∧ x.2.2.size ≤ 9223372036854775807
def Vcell (w : World) (a : Addr) (x : Vl) : Prop := w.cell? a = some (.int .i64 x.1) ∧ w.cell? ⟨a.block, a.off + 1, none⟩ = some (.int .i64 x.2.1) ∧ w.cell? ⟨a.block, a.off + 2, none⟩ = some (.string x.2.2)
def Vals (w : World) (v : Value) (l : List Vl) : Prop :=
  (v = .slice none 0 0 ∧ l = []) ∨ ∃ ad c, v = .slice (some ad) l.length c ∧ l.length ≤ c ∧ ∀ j x, l[j]? = some x → Vcell w (ad.add (j * 3)) x
theorem Vals.shape {w : World} {v : Value} {l : List Vl} (h : Vals w v l) : ∃ A c, v = .slice A l.length c := by
  rcases h with ⟨rfl, rfl⟩ | ⟨ad, c, rfl, _⟩
  · exact ⟨none, 0, rfl⟩
  · exact ⟨some ad, c, rfl⟩
theorem Vals.below {w w' : World} {v : Value} {l : List Vl} (h : Vals w v l) (hb : Below w.heap.size w w') : Vals w' v l := by
  rcases h with h | ⟨ad, c, hv, hc, hcell⟩
  · exact .inl h
  · refine .inr ⟨ad, c, hv, hc, fun j b hj => ?_⟩
    obtain ⟨h1, h2, h3⟩ := hcell j b hj
    exact ⟨by rw [hb.cell (World.block_lt_of_cell? _ _ h1), h1], by rw [hb.cell (World.block_lt_of_cell? _ _ h2), h2], by rw [hb.cell (World.block_lt_of_cell? _ _ h3), h3]⟩
def fewB (l : List Vl) : Bool := decide (l.length ≤ 40) && l.all (fun x => decide (x.2.2.size ≤ 200))

theorem few_bad {l : List Vl} {k : Nat} (hk : k < l.length) (h : ¬ l[k].2.2.size ≤ 200) : fewB l = false := by
  unfold fewB
  rw [Bool.and_eq_false_iff]
  right
  rw [List.all_eq_false]
  exact ⟨l[k], List.getElem_mem hk, by simpa using h⟩
theorem few_good {l : List Vl} (h : ∀ x ∈ l, x.2.2.size ≤ 200) : fewB l = decide (l.length ≤ 40) := by
  unfold fewB
  have : (l.all fun x => decide (x.2.2.size ≤ 200)) = true := by rw [List.all_eq_true]; intro x hx; simpa using h x hx
  rw [this, Bool.and_true]

theorem fewvalues_any (A : Option Addr) (c : Nat) (l : List Vl) (w : World) (hx : Vals w (.slice A l.length c) l) (hl : l.length ≤ 9223372036854775807) (b : Bool) (hb : b = fewB l) :
    Calls Try.prog 28 #[.slice A l.length c] w (fun e w' => e = .returned (.bool b) ∧ w = w') := by
  have Hb := Lib.hid hb; clear hb
  have Hx := Lib.hid hx; clear hx
  go_enter Try.func28, Try.ntmps28
  go_wp2
  go_loop [3] (fun i => ∃ k : Nat, k ≤ l.length ∧ i = .int .i64 k ∧ ∀ x ∈ l.take k, x.2.2.size ≤ 200) (fun i => l.length - (intOf i).toNat)
  case atStart => exact ⟨0, by omega, rfl, by simp⟩
  case round =>
    obtain ⟨k, hk, rfl, hsm⟩ := hrel
    have Hsm := Lib.hid hsm; clear hsm
    by_cases hlt : k < l.length
    · rcases Hx.out with ⟨_, h0⟩ | ⟨ad, c', hv, hc, hcell⟩
      · rw [h0] at hlt; simp at hlt
      simp only [Value.slice.injEq] at hv
      obtain ⟨rfl, _, rfl⟩ := hv
      obtain ⟨h1, h2, h3⟩ := hcell k _ (List.getElem?_eq_getElem hlt)
      by_cases hs : l[k].2.2.size ≤ 200
      · obtain ⟨x, hx⟩ : ∃ x, x = l[k] := ⟨_, rfl⟩
        rw [← hx] at h1 h2 h3 hs
        have HX := Lib.hid hx; clear hx hcell
        go_wp2
        go_round
        case rel =>
          refine ⟨k + 1, by omega, by go_num, ?_⟩
          intro y hy
          rw [List.take_succ_eq_append_getElem hlt, List.mem_append, List.mem_singleton] at hy
          rcases hy with hy | rfl
          · exact Hsm.out y hy
          · rw [← HX.out]; exact hs
        case measure => simp [intOf]; omega
      · have hbad := few_bad hlt hs
        have Hbad := Lib.hid (Hb.out.trans hbad)
        obtain ⟨x, hx⟩ : ∃ x, x = l[k] := ⟨_, rfl⟩
        rw [← hx] at h1 h2 h3 hs
        clear hx hcell hbad
        go_wp2
        go_ret
        exact ⟨by rw [Hbad.out]; rfl, rfl⟩
    · have hgood := few_good (l := l) (by have := Hsm.out; rwa [List.take_of_length_le (by omega)] at this)
      have Hgood := Lib.hid (Hb.out.trans hgood); clear hgood
      go_wp2
      go_ret
      refine ⟨?_, rfl⟩
      rw [Hgood.out]
      show Ending.returned (.bool (decide ((l.length : Int) ≤ 40))) = _
      congr 2
      exact decide_eq_decide.2 (by omega)
end Go.Proofs.Ytlimaefgifgegaa
