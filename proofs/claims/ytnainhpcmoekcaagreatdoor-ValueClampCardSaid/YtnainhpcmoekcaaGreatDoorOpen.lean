/- What a law's arguments are, opened: integers, byte strings. -/
import Derived.Test.YtnainhpcmoekcaaGreatDoorBytes
import Derived.Test.YtnainhpcmoekcaaGreatDoorLaw
import Derived.SizedLaws
import Derived.ChangeMaps5
namespace Go.Proofs.YtnainhpcmoekcaaGreatDoor
open Go.ChangeShapes Go.WideShapes Go.ChangeAt Go.RowKit

theorem wf_u8 {n : Int} (h : (Lit.int .u8 n).wf = true) : ∃ c : Nat, n = c ∧ c < 256 := by
 have h1 : IntKind.u8.min = 0 := rfl
 have h2 : IntKind.u8.max = 255 := rfl
 simp only [Lit.wf, Bool.and_eq_true, decide_eq_true_eq] at h
 exact ⟨n.toNat, by omega, by omega⟩
theorem wf_u16 {n : Int} (h : (Lit.int .u16 n).wf = true) : ∃ c : Nat, n = c ∧ c < 65536 := by
 have h1 : IntKind.u16.min = 0 := rfl
 have h2 : IntKind.u16.max = 65535 := rfl
 simp only [Lit.wf, Bool.and_eq_true, decide_eq_true_eq] at h
 exact ⟨n.toNat, by omega, by omega⟩
theorem wf_u64 {n : Int} (h : (Lit.int .u64 n).wf = true) : ∃ c : Nat, n = c ∧ U64 c := by
 have h1 : IntKind.u64.min = 0 := rfl
 have h2 : IntKind.u64.max = 18446744073709551615 := rfl
 simp only [Lit.wf, Bool.and_eq_true, decide_eq_true_eq] at h
 exact ⟨n.toNat, by omega, by unfold U64; omega⟩
theorem wf_i64 {n : Int} (h : (Lit.int .i64 n).wf = true) : I64 n := by
 have h1 : IntKind.i64.min = -9223372036854775808 := rfl
 have h2 : IntKind.i64.max = 9223372036854775807 := rfl
 simp only [Lit.wf, Bool.and_eq_true, decide_eq_true_eq] at h
 unfold I64; omega

theorem Bsl.shape {w : World} {v : Value} {xs : List Nat} (h : Bsl w v xs) : ∃ A c, v = .slice A xs.length c := by
 rcases h with ⟨rfl, rfl⟩ | ⟨ad, c, rfl, _⟩
 ·exact ⟨none, 0, rfl⟩
 ·exact ⟨some ad, c, rfl⟩

section
variable {H : Type} {enc : TypeId × Value → H} {P : Program}
theorem open_bytes {t e : TypeId} (ht : P.underlying t = some (.slice e)) (he : P.underlying e = some (.int .u8)) (hc : P.cellsOf e = 1) (hby : P.bytesOf e = 1) {W : World} {r : Reach} {b0 : Nat} {v : Value} {d : DataW H} {p : List MemPlace}
  {ts : List TypeId} {ds : List (DataW H)} (hsz : (DataW.weightsEach P ts ds).all (· ≤ reachBytes) = true) (j : Nat) (htj : ts[j]? = some t) (hdj : ds[j]? = some d)
  (hval : Value.okWide P W r b0 t v) (h0 : DataW.Trod enc P W 0 (fun _ => true) true t v d p) :
  ∃ A c xs, v = .slice A xs.length c ∧ Bsl W (.slice A xs.length c) xs ∧ Byt xs ∧ xs.length ≤ 140737488351232 := by
 obtain ⟨a0, len, cap, rfl⟩ := okWide_slice ht hval
 obtain ⟨fuel, hf⟩ := h0
 rcases open_ints ht he hc hf with ⟨hcs, _⟩ | ⟨a, len', cap', zs, hcs, _, hl, hm, hz, hd, hcell, hwz⟩
 ·simp [Value.cells] at hcs
  obtain ⟨rfl, rfl, rfl⟩ := hcs
  exact ⟨none, 0, [], rfl, .inl ⟨rfl, rfl⟩, (by intro c hc; cases hc), by simp⟩
 ·simp [Value.cells] at hcs
  obtain ⟨rfl, rfl, rfl⟩ := hcs
  simp only [if_true] at hz
  simp only [Prod.mk.injEq] at hd
  obtain ⟨rfl, _⟩ := hd
  have hreach := sized_slice hsz htj hdj ht
  rw [hby] at hreach
  simp only [lits, List.length_map, List.length_take, List.length_drop, reachBytes] at hreach
  have hn : ((zs.take len).map Int.toNat).length = len := by simp; omega
  refine ⟨some a, cap, (zs.take len).map Int.toNat, by rw [hn], ?_, ?_, by omega⟩
  ·rw [hn]
   refine .inr ⟨a, cap, by rw [hn], by omega, fun j b hj => ?_⟩
   have hjl : j < len := by have := (List.getElem?_eq_some_iff.1 hj).1; omega
   obtain ⟨c, hc1, hc2⟩ := wf_u8 (hwz (zs[j]'(by omega)) (List.getElem_mem _))
   rw [hcell j (by omega)]
   rw [List.getElem?_map, List.getElem?_take, if_pos hjl, List.getElem?_eq_getElem (by omega)] at hj
   simp only [Option.map_some, Option.some.injEq] at hj
   rw [List.getD_eq_getElem?_getD, List.getElem?_eq_getElem (by omega), Option.getD_some, bv, ← hj, hc1]
   simp
  ·intro c hc
   obtain ⟨x, hx, rfl⟩ := List.mem_map.1 hc
   obtain ⟨c', h1, h2⟩ := wf_u8 (hwz x (List.mem_of_mem_take hx))
   omega
theorem open_str {t : TypeId} (ht : P.underlying t = some .string) {W : World} {r : Reach} {b0 : Nat} {v : Value} {d : DataW H} {p : List MemPlace}
  {ts : List TypeId} {ds : List (DataW H)} (hsz : (DataW.weightsEach P ts ds).all (· ≤ reachBytes) = true) (j : Nat) (htj : ts[j]? = some t) (hdj : ds[j]? = some d)
  (hval : Value.okWide P W r b0 t v) (h0 : DataW.Trod enc P W 0 (fun _ => true) true t v d p) : ∃ s : ByteArray, v = .string s ∧ s.size ≤ 140737488351232 := by
 obtain ⟨s, rfl, rfl, _, _⟩ := Go.ChangeMaps.open_string ht hval h0
 have := sized_string hsz htj hdj
 simp only [Array.length_toList, reachBytes] at this
 exact ⟨s, rfl, this⟩
end
end Go.Proofs.YtnainhpcmoekcaaGreatDoor
