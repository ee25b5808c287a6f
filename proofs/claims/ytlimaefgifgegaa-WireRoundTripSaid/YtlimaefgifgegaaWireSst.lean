/- Slices of texts and of integers that a law is given, opened; the contract of the law's fewTexts. -/
import Derived.Test.YtlimaefgifgegaaWireIns
import Derived.Test.YtlimaefgifgegaaOpen
import Derived.Deep.Strs
namespace Go.Proofs.Ytlimaefgifgegaa
open Go.RowKit

def Ssl (w : World) (v : Value) (l : List ByteArray) : Prop :=
  (v = .slice none 0 0 ∧ l = []) ∨ ∃ ad c, v = .slice (some ad) l.length c ∧ l.length ≤ c ∧ ∀ j x, l[j]? = some x → w.cell? (ad.add j) = some (.string x)
theorem Ssl.below {w w' : World} {v : Value} {l : List ByteArray} (h : Ssl w v l) (hb : Below w.heap.size w w') : Ssl w' v l := by
  rcases h with h | ⟨ad, c, hv, hc, hcell⟩
  · exact .inl h
  · refine .inr ⟨ad, c, hv, hc, fun j b hj => ?_⟩
    have h1 := hcell j b hj
    rw [hb.cell (World.block_lt_of_cell? _ _ h1), h1]
theorem Ssl.at {w : World} {A : Option Addr} {n c : Nat} {l : List ByteArray} (h : Ssl w (.slice A n c) l) (k : Nat) (hk : k < l.length) : ∃ ad, A = some ad ∧ n = l.length ∧ w.cell? (ad.add k) = some (.string l[k]) := by
  rcases h with ⟨_, h0⟩ | ⟨ad, c', hv, hc, hcell⟩
  · rw [h0] at hk; simp at hk
  · simp only [Value.slice.injEq] at hv
    exact ⟨ad, hv.1, hv.2.1, hcell k _ (List.getElem?_eq_getElem hk)⟩
theorem Nsl.at {w : World} {A : Option Addr} {n c : Nat} {l : List Int} (h : Nsl w (.slice A n c) l) (k : Nat) (hk : k < l.length) : ∃ ad, A = some ad ∧ n = l.length ∧ w.cell? (ad.add k) = some (.int .i64 l[k]) := by
  rcases h with ⟨_, h0⟩ | ⟨ad, c', hv, hc, hcell⟩
  · rw [h0] at hk; simp at hk
  · simp only [Value.slice.injEq] at hv
    exact ⟨ad, hv.1, hv.2.1, hcell k _ (List.getElem?_eq_getElem hk)⟩

set_option maxHeartbeats 1000000 in
theorem few_yes (A : Option Addr) (c : Nat) (l : List ByteArray) (w : World) (hx : Ssl w (.slice A l.length c) l) (hl : l.length ≤ 17592186044000) (hs : ∀ x ∈ l, x.size ≤ 200) :
    Calls Try.prog 7 #[.slice A l.length c] w fun e w' => e = .returned (.bool (decide (l.length ≤ 40))) ∧ Below w.heap.size w w' := by
  have Hx := Lib.hid hx; clear hx
  have Hs := Lib.hid hs; clear hs
  go_enter Try.func7, Try.ntmps7
  go_wp2
  go_loopw [3] (fun i wr => ∃ k : Nat, k ≤ l.length ∧ i = .int .i64 k ∧ Below w.heap.size w wr) (fun i _ => l.length - (intOf i).toNat)
  case atStart => exact ⟨0, by omega, rfl, Below.refl _ _⟩
  case round =>
    obtain ⟨k, hk, rfl, hbel⟩ := hrel
    have Hbel := Lib.hid hbel; clear hbel
    by_cases hlt : k < l.length
    · obtain ⟨ad, rfl, _, h1⟩ := (Hx.out.below Hbel.out).at k hlt
      have h2 := Hs.out _ (List.getElem_mem hlt)
      obtain ⟨x, hx⟩ : ∃ x, x = l[k] := ⟨_, rfl⟩
      rw [← hx] at h1 h2
      clear hx
      have i0 : (0 : Int) ≤ (k : Int) := by omega
      have i1 : (k : Int) < (l.length : Int) := by omega
      have i2 : decide ((200 : Int) < (x.size : Int)) = false := by simp; omega
      go_wp2
      go_roundw
      case rel => exact ⟨k + 1, by omega, by go_num, Hbel.out⟩
      case measure => simp [intOf]; omega
    · go_wp2
      go_ret
      exact ⟨by congr 2; simp; omega, Hbel.out⟩
theorem few_no (A : Option Addr) (c : Nat) (l : List ByteArray) (w : World) (hx : Ssl w (.slice A l.length c) l) (hl : l.length ≤ 17592186044000) (hs : ¬ ∀ x ∈ l, x.size ≤ 200) (hm : ∀ x ∈ l, x.size ≤ 9223372036854775807) :
    Calls Try.prog 7 #[.slice A l.length c] w fun e w' => e = .returned (.bool false) ∧ Below w.heap.size w w' := by
  have Hx := Lib.hid hx; clear hx
  have Hs := Lib.hid hs; clear hs
  have Hm := Lib.hid hm; clear hm
  go_enter Try.func7, Try.ntmps7
  go_wp2
  go_loopw [3] (fun i wr => ∃ k : Nat, k ≤ l.length ∧ i = .int .i64 k ∧ Below w.heap.size w wr ∧ ∀ x ∈ l.take k, x.size ≤ 200) (fun i _ => l.length - (intOf i).toNat)
  case atStart => exact ⟨0, by omega, rfl, Below.refl _ _, by simp⟩
  case round =>
    obtain ⟨k, hk, rfl, hbel, htk⟩ := hrel
    have Hbel := Lib.hid hbel; clear hbel
    have Htk := Lib.hid htk; clear htk
    by_cases hlt : k < l.length
    · obtain ⟨ad, rfl, _, h1⟩ := (Hx.out.below Hbel.out).at k hlt
      have h3 := Hm.out _ (List.getElem_mem hlt)
      have htk2 : l.take (k + 1) = l.take k ++ [l[k]] := List.take_succ_eq_append_getElem hlt
      obtain ⟨x, hx⟩ : ∃ x, x = l[k] := ⟨_, rfl⟩
      rw [← hx] at h1 h3 htk2
      have Htk2 := Lib.hid htk2
      clear hx htk2
      have i0 : (0 : Int) ≤ (k : Int) := by omega
      have i1 : (k : Int) < (l.length : Int) := by omega
      by_cases hb : x.size ≤ 200
      · have i2 : decide ((200 : Int) < (x.size : Int)) = false := by simp; omega
        go_wp2
        go_roundw
        case rel =>
          refine ⟨k + 1, by omega, by go_num, Hbel.out, fun y hy => ?_⟩
          rw [Htk2.out] at hy
          rcases List.mem_append.1 hy with h | h
          · exact Htk.out y h
          · rw [List.mem_singleton.1 h]; exact hb
        case measure => simp [intOf]; omega
      · have i2 : decide ((200 : Int) < (x.size : Int)) = true := by simp; omega
        go_wp2
        go_ret
        exact ⟨rfl, Hbel.out⟩
    · exact absurd (by have := Htk.out; rw [List.take_of_length_le (by omega)] at this; exact this) Hs.out

section
open Go.ChangeShapes Go.WideShapes Go.ChangeAt
variable {H : Type} {enc : TypeId × Value → H} {P : Program}
theorem open_its {t e : TypeId} (ht : P.underlying t = some (.slice e)) (he : P.underlying e = some (.int .i64)) (hc : P.cellsOf e = 1) (hby : P.bytesOf e = 8) {W : World} {r : Reach} {b0 : Nat} {v : Value} {d : DataW H} {p : List MemPlace}
    {ts : List TypeId} {ds : List (DataW H)} (hsz : (DataW.weightsEach P ts ds).all (· ≤ reachBytes) = true) (j : Nat) (htj : ts[j]? = some t) (hdj : ds[j]? = some d)
    (hval : Value.okWide P W r b0 t v) (h0 : DataW.Trod enc P W 0 (fun _ => true) true t v d p) :
    ∃ A c xs, v = .slice A xs.length c ∧ Nsl W (.slice A xs.length c) xs ∧ xs.length ≤ 17592186044000 ∧ ∀ x ∈ xs, I64 x := by
  obtain ⟨a0, len, cap, rfl⟩ := okWide_slice ht hval
  obtain ⟨fuel, hf⟩ := h0
  rcases open_ints ht he hc hf with ⟨hcs, _⟩ | ⟨a, len', cap', zs, hcs, _, hl, hm, hz, hd, hcell, hwz⟩
  · simp [Value.cells] at hcs
    obtain ⟨rfl, rfl, rfl⟩ := hcs
    exact ⟨none, 0, [], rfl, .inl ⟨rfl, rfl⟩, by simp, by intro x hx; cases hx⟩
  · simp [Value.cells] at hcs
    obtain ⟨rfl, rfl, rfl⟩ := hcs
    simp only [if_true] at hz
    simp only [Prod.mk.injEq] at hd
    obtain ⟨rfl, _⟩ := hd
    have hreach := sized_slice hsz htj hdj ht
    rw [hby] at hreach
    simp only [lits, List.length_map, List.length_take, List.length_drop, reachBytes] at hreach
    have hn : (zs.take len).length = len := by simp; omega
    refine ⟨some a, cap, zs.take len, by rw [hn], ?_, by omega, fun x hx => wf_i64 (hwz x (List.mem_of_mem_take hx))⟩
    rw [hn]
    refine .inr ⟨a, cap, by rw [hn], by omega, fun j b hj => ?_⟩
    have hjl : j < len := by have := (List.getElem?_eq_some_iff.1 hj).1; omega
    rw [hcell j (by omega)]
    rw [List.getElem?_take, if_pos hjl, List.getElem?_eq_getElem (by omega)] at hj
    simp only [Option.some.injEq] at hj
    rw [List.getD_eq_getElem?_getD, List.getElem?_eq_getElem (by omega), Option.getD_some, iv, ← hj]
theorem open_texts {t e : TypeId} (ht : P.underlying t = some (.slice e)) (he : P.underlying e = some .string) (hc : P.cellsOf e = 1) (hby : P.bytesOf e = 16) {W : World} {r : Reach} {b0 : Nat} {v : Value} {d : DataW H} {p : List MemPlace}
    {ts : List TypeId} {ds : List (DataW H)} (hsz : (DataW.weightsEach P ts ds).all (· ≤ reachBytes) = true) (j : Nat) (htj : ts[j]? = some t) (hdj : ds[j]? = some d)
    (hval : Value.okWide P W r b0 t v) (h0 : DataW.Trod enc P W 0 (fun _ => true) true t v d p) :
    ∃ A c xs, v = .slice A xs.length c ∧ Ssl W (.slice A xs.length c) xs ∧ xs.length ≤ 17592186044000 ∧ ∀ x ∈ xs, x.size ≤ 9223372036854775807 := by
  obtain ⟨a0, len, cap, rfl⟩ := okWide_slice ht hval
  obtain ⟨fuel, hf⟩ := h0
  rcases Deep.open_strs ht he hc hf with ⟨hcs, _⟩ | ⟨a, len', cap', m, Sx, hcs, _, hl, hm, hmm, hd, hcell⟩
  · simp [Value.cells] at hcs
    obtain ⟨rfl, rfl, rfl⟩ := hcs
    exact ⟨none, 0, [], rfl, .inl ⟨rfl, rfl⟩, by simp, by intro x hx; cases hx⟩
  · simp [Value.cells] at hcs
    obtain ⟨rfl, rfl, rfl⟩ := hcs
    simp only [if_true] at hmm
    simp only [Prod.mk.injEq] at hd
    obtain ⟨rfl, _⟩ := hd
    have hreach := sized_slice hsz htj hdj ht
    rw [hby] at hreach
    simp only [List.length_map, List.length_range, reachBytes] at hreach
    have hn : ((List.range len).map Sx).length = len := by simp
    refine ⟨some a, cap, (List.range len).map Sx, by rw [hn], ?_, by omega, fun x hx => ?_⟩
    · rw [hn]
      refine .inr ⟨a, cap, by rw [hn], by omega, fun j b hj => ?_⟩
      have hjl : j < len := by have := (List.getElem?_eq_some_iff.1 hj).1; omega
      rw [List.getElem?_map, List.getElem?_range hjl] at hj
      simp only [Option.map_some, Option.some.injEq] at hj
      rw [(hcell j (by omega)).1, hj]
    · obtain ⟨i, hi, rfl⟩ := List.mem_map.1 hx
      have := (hcell i (by have := List.mem_range.1 hi; omega)).2
      unfold maxLen at this
      exact this
end
end Go.Proofs.Ytlimaefgifgegaa
