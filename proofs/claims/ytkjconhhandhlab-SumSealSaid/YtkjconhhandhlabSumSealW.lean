/- SumSeal: for every input the law returns true: the cases of its argument. -/
import Derived.Test.YtkjconhhandhlabSumSeal
namespace Go.Proofs.Ytkjconhhandhlab
open Go.RowKit

theorem sumseal_walk (A : Option Addr) (c : Nat) (xs : List Nat) (w : World) (hx : Bsl w (.slice A xs.length c) xs) (hby : Byt xs) (hl : xs.length ≤ 140737488351232) :
    Calls Try.prog 4 #[.slice A xs.length c] w (Ok w) := by
  by_cases h600 : 600 < xs.length
  · clear hx
    go_enter Try.func4, Try.ntmps4
    go_wp2_with fail
    refine (awake_any _).mono ?_
    rintro e w1 ⟨rfl, hb1⟩
    go_wp2
    go_ret
    exact ⟨rfl, hb1⟩
  by_cases h8 : xs.length < 8
  · exact sumseal_case A c xs [] w hx hby (by omega) (by intro c hc; cases hc) (by simp) 4 (.inl (by decide)) (fun w' _ => open_short A c xs w' h8) (fun w' _ => ropen_short A c xs w' h8)
  obtain ⟨ad, rfl, _⟩ := hx.addr (by omega)
  obtain ⟨m, hm⟩ : ∃ m, xs.length = m + 8 := ⟨xs.length - 8, by omega⟩
  have hp : (xs.take m).length = m := by rw [List.length_take]; omega
  have ht : (xs.drop m).length = 8 := by rw [List.length_drop]; omega
  have hpb : Byt (xs.take m) := fun x hx => hby x (List.mem_of_mem_take hx)
  have htb : Byt (xs.drop m) := fun x hx => hby x (List.mem_of_mem_drop hx)
  obtain ⟨b, hb⟩ : ∃ b, b = decide (xs.drop m = bts 8 (fnv fbase (xs.take m))) := ⟨_, rfl⟩
  refine sumseal_case (some ad) c xs (if b then xs.take m else []) w hx hby (by omega) ?_ ?_ (if b then 0 else 5) ?_ ?_ ?_
  · cases b
    · intro c hc; cases hc
    · exact hpb
  · cases b
    · simp
    · simp only [if_true]; omega
  · cases b with
    | false => exact .inl (by decide)
    | true =>
      refine .inr ⟨rfl, ?_⟩
      have h := of_decide_eq_true hb.symm
      simp only [if_true]
      rw [sealed, ← h, List.take_append_drop]
  · intro w' hx'
    have h := open_long ad c m (xs.take m) (xs.drop m) hp ht w' (by rw [List.take_append_drop, ← hm]; exact hx') hpb htb (by omega) b hb
    rw [hm]
    exact h
  · intro w' hx'
    have h := ropen_long ad c m (xs.take m) (xs.drop m) hp ht w' (by rw [List.take_append_drop, ← hm]; exact hx') hpb htb (by omega) b hb
    rw [hm]
    exact h
end Go.Proofs.Ytkjconhhandhlab
