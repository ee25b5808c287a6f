/- The contract of the reference's Same: two byte strings. -/
import Derived.Test.YtbfgdjinapadiaaWireNew
import Derived.Laws.BytesArg
namespace Go.Proofs.Ytbfgdjinapadiaa
open Go.RowKit

def strOf (xs : List Nat) : ByteArray := ⟨(xs.map UInt8.ofNat).toArray⟩
theorem strOf_inj {xs ys : List Nat} (hx : Byt xs) (hy : Byt ys) (h : strOf xs = strOf ys) : xs = ys := by
  have h1 : xs.map UInt8.ofNat = ys.map UInt8.ofNat := by
    have := congrArg (fun b => b.data.toList) h
    simpa [strOf] using this
  have h2 := congrArg (List.map UInt8.toNat) h1
  simp only [List.map_map] at h2
  have e : ∀ l : List Nat, Byt l → l.map (UInt8.toNat ∘ UInt8.ofNat) = l := by
    intro l hl
    conv => rhs; rw [← List.map_id l]
    apply List.map_congr_left
    intro a ha
    have := hl a ha
    simp [Nat.mod_eq_of_lt this]
  rwa [e xs hx, e ys hy] at h2

section
variable {P : Program} (w : World)
theorem run_str (src e dst : TypeId) (hs : P.underlying src = some (.slice e)) (he : P.underlying e = some (.int .u8)) (hd : P.underlying dst = some .string) (v : Value) (xs : List Nat) (h : Bsl w v xs) :
    (convert src dst v).run P w = .ok (.string (strOf xs)) w := by
  rcases h with ⟨rfl, rfl⟩ | ⟨ad, c, rfl, _, hc⟩
  · exact run_convert_bytes_nil w src e hs he 0 0 dst hd
  · have hl : (loadCells ad xs.length).run P w = .ok ((xs.map (fun n : Nat => (n : Int))).map (Value.int .u8)).toArray w := by
      have := run_loadCells_list (P := P) w ad (xs.map bv) (fun j v hj => by
        rw [List.getElem?_map] at hj
        cases hx : xs[j]? with
        | none => rw [hx] at hj; cases hj
        | some b => rw [hx] at hj; cases hj; exact hc j b hx)
      have e : xs.map bv = xs.map fun x : Nat => Value.int .u8 (x : Int) := rfl
      rw [e] at this
      simpa [Function.comp_def] using this
    rw [run_convert_bytes_string w src dst e _ _ c hs he hd, run_bytesToString w _ _ c (xs.map (fun n : Nat => (n : Int))) hl, foldl_push_bytes]
    simp [strOf, ByteArray.empty, ByteArray.emptyWithCapacity, Function.comp_def]
    rfl
end

set_option maxHeartbeats 400000 in
theorem same_any (v1 v2 : Value) (xs ys : List Nat) (w : World) (h1 : Bsl w v1 xs) (h2 : Bsl w v2 ys) (b1 : Byt xs) (b2 : Byt ys) (b : Bool) (hb : b = decide (xs = ys)) :
    Calls Try.prog 27 #[v1, v2] w fun e w' => e = .returned (.bool b) ∧ w = w' := by
  have r1 := run_str (P := Try.prog) w 24 5 9 Try.underlying24 Try.underlying5 Try.underlying9 v1 xs h1
  have r2 := run_str (P := Try.prog) w 24 5 9 Try.underlying24 Try.underlying5 Try.underlying9 v2 ys h2
  go_enter Try.func27, Try.ntmps27
  go_wp2
  go_ret
  refine ⟨?_, rfl⟩
  show Ending.returned (.bool ((strOf xs).toList == (strOf ys).toList)) = _
  have e : ((strOf xs).toList == (strOf ys).toList) = b := by
    rw [hb, Bool.eq_iff_iff, beq_iff_eq, decide_eq_true_iff]
    constructor
    · intro h
      refine strOf_inj b1 b2 ?_
      apply ByteArray.ext
      apply Array.toList_inj.1
      simpa [ByteArray.toList_eq] using h
    · intro h; rw [h]
  rw [e]
end Go.Proofs.Ytbfgdjinapadiaa
