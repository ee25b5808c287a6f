/- The contracts of From and Of, the program's and the reference's. -/
import Derived.Test.YtkjconhhandhlabSumM
namespace Go.Proofs.Ytkjconhhandhlab
open Go.RowKit

def FromRel (s : Nat) (xs : List Nat) (h i : Value) : Prop := ∃ k q : Nat, k ≤ xs.length ∧ U64 q ∧ i = .int .i64 k ∧ h = .int .u64 q ∧ q = fnv s (xs.take k)
def FromPost (w : World) (s : Nat) (xs : List Nat) (e : Ending) (w' : World) : Prop := ∃ q : Nat, e = .returned (.int .u64 (q : Int)) ∧ q = fnv s xs ∧ U64 q ∧ w = w'
theorem fromrel_next {s : Nat} {xs : List Nat} {k q c : Nat} (hk : k < xs.length) (hq : U64 q) (e : q = fnv s (xs.take k)) (hc : c = xs[k]) (hb : c < 256) {h i : Value}
    (hh : h = .int .u64 (IntKind.u64.wrap (bits .xor .u64 (q : Int) (c : Int) * 1099511628211))) (hi : i = .int .i64 ((k : Int) + 1)) : FromRel s xs h i := by
  refine ⟨k + 1, fstep q c, by omega, fstep_lt _ _, by rw [hi]; rfl, by rw [hh, step_int q c hq hb], ?_⟩
  rw [fnv_take _ _ _ hk, ← e, hc]

set_option maxHeartbeats 400000 in
theorem from_any (s : Nat) (v : Value) (xs : List Nat) (w : World) (hs : U64 s) (hx : Bsl w v xs) (hb : Byt xs) (hl : Room2 xs.length) :
    Calls Try.prog 13 #[.int .u64 (s : Int), v] w (FromPost w s xs) := by
  have Hs := Lib.hid hs; clear hs
  have Hb := Lib.hid hb; clear hb
  rcases hx with ⟨rfl, rfl⟩ | ⟨ad, c, rfl, hc, hcell⟩
  · clear hl
    go_enter Try.func13, Try.ntmps13
    go_wp2
    go_loop [5, 11] (fun h i => h = .int .u64 (s : Int) ∧ i = .int .i64 0) (fun _ _ => 0)
    case atStart => exact ⟨rfl, rfl⟩
    case round =>
      obtain ⟨rfl, rfl⟩ := hrel
      go_wp2
      go_ret
      exact ⟨s, rfl, (fnv_nil s).symm, Hs.out, rfl⟩
  · unfold Room2 at hl
    have Hc := Lib.hid hcell; clear hcell
    go_enter Try.func13, Try.ntmps13
    go_wp2
    go_loop [5, 11] (fun h i => FromRel s xs h i) (fun _ i => xs.length - (intOf i).toNat)
    case atStart => exact ⟨0, s, by omega, Hs.out, rfl, rfl, by rw [List.take_zero, fnv_nil]⟩
    case round =>
      obtain ⟨k, q, hk, hq, rfl, rfl, he⟩ := hrel
      have Hq := Lib.hid hq; clear hq
      have He := Lib.hid he; clear he
      by_cases hlt : k < xs.length
      · obtain ⟨b, hbe⟩ : ∃ b, b = xs[k] := ⟨_, rfl⟩
        have hcell := Hc.out k _ (List.getElem?_eq_getElem hlt)
        have hby := Hb.out _ (List.getElem_mem hlt)
        rw [← hbe] at hcell hby
        unfold bv at hcell
        have HB := Lib.hid hbe; clear hbe
        go_wp2
        go_round
        case rel => exact fromrel_next hlt Hq.out He.out HB.out hby rfl rfl
        case measure => simp [intOf]; omega
      · go_wp2
        go_ret
        refine ⟨q, rfl, ?_, Hq.out, rfl⟩
        rw [He.out, List.take_of_length_le (by omega)]

set_option maxHeartbeats 400000 in
theorem rfrom_any (s : Nat) (v : Value) (xs : List Nat) (w : World) (hs : U64 s) (hx : Bsl w v xs) (hb : Byt xs) (hl : Room2 xs.length) :
    Calls Try.prog 14 #[.int .u64 (s : Int), v] w (FromPost w s xs) := by
  have Hs := Lib.hid hs; clear hs
  have Hb := Lib.hid hb; clear hb
  rcases hx with ⟨rfl, rfl⟩ | ⟨ad, c, rfl, hc, hcell⟩
  · clear hl
    go_enter Try.func14, Try.ntmps14
    go_wp2
    go_loop [5, 6] (fun h i => h = .int .u64 (s : Int) ∧ i = .int .i64 0) (fun _ _ => 0)
    case atStart => exact ⟨rfl, rfl⟩
    case round =>
      obtain ⟨rfl, rfl⟩ := hrel
      go_wp2
      go_ret
      exact ⟨s, rfl, (fnv_nil s).symm, Hs.out, rfl⟩
  · unfold Room2 at hl
    have Hc := Lib.hid hcell; clear hcell
    go_enter Try.func14, Try.ntmps14
    go_wp2
    go_loop [5, 6] (fun h i => FromRel s xs h i) (fun _ i => xs.length - (intOf i).toNat)
    case atStart => exact ⟨0, s, by omega, Hs.out, rfl, rfl, by rw [List.take_zero, fnv_nil]⟩
    case round =>
      obtain ⟨k, q, hk, hq, rfl, rfl, he⟩ := hrel
      have Hq := Lib.hid hq; clear hq
      have He := Lib.hid he; clear he
      by_cases hlt : k < xs.length
      · obtain ⟨b, hbe⟩ : ∃ b, b = xs[k] := ⟨_, rfl⟩
        have hcell := Hc.out k _ (List.getElem?_eq_getElem hlt)
        have hby := Hb.out _ (List.getElem_mem hlt)
        rw [← hbe] at hcell hby
        unfold bv at hcell
        have HB := Lib.hid hbe; clear hbe
        go_wp2
        go_round
        case rel => exact fromrel_next hlt Hq.out He.out HB.out hby rfl rfl
        case measure => simp [intOf]; omega
      · go_wp2
        go_ret
        refine ⟨q, rfl, ?_, Hq.out, rfl⟩
        rw [He.out, List.take_of_length_le (by omega)]

theorem of_any (v : Value) (xs : List Nat) (w : World) (hx : Bsl w v xs) (hb : Byt xs) (hl : Room2 xs.length) :
    Calls Try.prog 11 #[v] w (FromPost w fbase xs) := by
  go_enter Try.func11, Try.ntmps11
  go_wp2_with fail
  refine (from_any fbase v xs _ (by unfold U64 fbase; decide) hx hb hl).mono ?_
  rintro e w1 ⟨q, rfl, hq, hu, rfl⟩
  have Hq := Lib.hid hq; clear hq
  have Hu := Lib.hid hu; clear hu
  go_wp2
  go_ret
  exact ⟨q, rfl, Hq.out, Hu.out, rfl⟩
theorem rof_any (v : Value) (xs : List Nat) (w : World) (hx : Bsl w v xs) (hb : Byt xs) (hl : Room2 xs.length) :
    Calls Try.prog 12 #[v] w (FromPost w fbase xs) := by
  go_enter Try.func12, Try.ntmps12
  go_wp2_with fail
  refine (rfrom_any fbase v xs _ (by unfold U64 fbase; decide) hx hb hl).mono ?_
  rintro e w1 ⟨q, rfl, hq, hu, rfl⟩
  have Hq := Lib.hid hq; clear hq
  have Hu := Lib.hid hu; clear hu
  go_wp2
  go_ret
  exact ⟨q, rfl, Hq.out, Hu.out, rfl⟩
end Go.Proofs.Ytkjconhhandhlab
