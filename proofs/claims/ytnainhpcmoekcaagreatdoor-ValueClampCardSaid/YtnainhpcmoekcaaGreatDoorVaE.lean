/- value: the reader's small methods: cut, ended, isEscaped. -/
import Derived.Test.YtnainhpcmoekcaaGreatDoorVaK
namespace Go.Proofs.YtnainhpcmoekcaaGreatDoor
open Go.RowKit

def preB (p l : Bs) : Bool := decide (l.take p.length = p)
theorem preB_len {p l : Bs} (h : preB p l = true) : p.length ≤ l.length := by
 unfold preB at h
 have := congrArg List.length (of_decide_eq_true h)
 rw [List.length_take] at this
 omega
theorem str_beq (a b : Bs) : ((ofL a).toList == (ofL b).toList) = decide (a = b) := by
 rw [ofL_toList, ofL_toList, Bool.eq_iff_iff]
 simp
theorem lite_any (l p : Bs) (w : World) : Calls Tryz.prog 85 #[.string (ofL l), .string (ofL p)] w fun e w' => e = .returned (.bool (preB p l)) ∧ w' = w := by
 have hs := Lib.hid (ofL_size l)
 have hp := Lib.hid (ofL_size p)
 by_cases h : p.length ≤ l.length
 ·have h2 : (ofL p).size ≤ (ofL l).size := by rw [hs.out, hp.out]; exact h
  have he : (ofL l).extract 0 (ofL p).size = ofL (l.take p.length) := by rw [ofL_extract, hp.out]; rfl
  have HT := Lib.hid (show (((ofL l).extract 0 (ofL p).size).toList == (ofL p).toList) = preB p l by rw [he, str_beq]; rfl)
  clear h he
  go_enter Tryz.func85, Tryz.ntmps85
  go_wp2
  all_goals
   go_ret
   exact ⟨by rw [← HT.out]; rfl, rfl⟩
 ·have h2 : ¬ (ofL p).size ≤ (ofL l).size := by rw [hs.out, hp.out]; exact h
  have HT := Lib.hid (show preB p l = false by
   cases hq : preB p l with
   | false => rfl
   | true => exact absurd (preB_len hq) h)
  clear h
  go_enter Tryz.func85, Tryz.ntmps85
  go_wp2
  go_ret
  exact ⟨by rw [HT.out]; rfl, rfl⟩
def cutL (p l : Bs) : Bs := if preB p l then l.drop p.length else l
theorem litecut_any (l p : Bs) (w : World) : Calls Tryz.prog 109 #[.string (ofL l), .string (ofL p)] w fun e w' => e = .returned (.tuple #[.string (ofL (cutL p l)), .bool (preB p l)]) ∧ w' = w := by
 have HC := Lib.hid (lite_any l p w)
 have hs := Lib.hid (ofL_size l)
 have hp := Lib.hid (ofL_size p)
 cases hb : preB p l with
 | false =>
  rw [hb] at HC
  have HE := Lib.hid (show cutL p l = l by unfold cutL; rw [hb]; rfl)
  go_enter Tryz.func109, Tryz.ntmps109
  go_wp2_with fail
  refine HC.out.mono ?_
  rintro e w1 ⟨rfl, rfl⟩
  go_wp2_with fail
  go_ret2
  exact ⟨by rw [HE.out]; rfl, rfl⟩
 | true =>
  rw [hb] at HC
  have hl := preB_len hb
  have h2 : (ofL p).size ≤ (ofL l).size := by rw [hs.out, hp.out]; exact hl
  have HE := Lib.hid (show (ofL l).extract (ofL p).size (ofL l).size = ofL (cutL p l) by
   unfold cutL
   rw [hb, ofL_extract, hs.out, hp.out, if_pos rfl, List.take_of_length_le (by simp)])
  clear hl
  go_enter Tryz.func109, Tryz.ntmps109
  go_wp2_with fail
  refine HC.out.mono ?_
  rintro e w1 ⟨rfl, rfl⟩
  go_wp2_with fail
  go_ret2
  exact ⟨by rw [← HE.out]; rfl, rfl⟩
theorem cutprefix_any (l p : Bs) (w : World) : Calls Tryz.prog 92 #[.string (ofL l), .string (ofL p)] w fun e w' => e = .returned (.tuple #[.string (ofL (cutL p l)), .bool (preB p l)]) ∧ w' = w := by
 have HC := Lib.hid (litecut_any l p w)
 go_enter Tryz.func92, Tryz.ntmps92
 go_wp2_with fail
 refine HC.out.mono ?_
 rintro e w1 ⟨rfl, rfl⟩
 go_wp2_with fail
 go_ret2
 exact ⟨rfl, rfl⟩
/-- The reader in block g: what is left. -/
def Rd (w : World) (g : Nat) (l : Bs) : Prop := Bx w g 66 #[.string (ofL l)]
theorem Rd.below {w w' : World} {g : Nat} {l : Bs} (h : Rd w g l) (hb : Below w.heap.size w w') : Rd w' g l := Bx.below h hb
theorem Rd.set {w : World} {g : Nat} {l : Bs} (h : Rd w g l) (m : Bs) : Rd (w.setCell ⟨g, 0, none⟩ (.string (ofL m))) g m := Bx.set h 0 (.string (ofL m))
theorem cut_any (g : Nat) (l p : Bs) (w : World) (h : Rd w g l) : Calls Tryz.prog 78 #[.pointer (some ⟨g, 0, none⟩), .string (ofL p)] w fun e w' => e = .returned (.bool (preB p l)) ∧ w' = w.setCell ⟨g, 0, none⟩ (.string (ofL (cutL p l))) := by
 have k0 := Bx.cell h 0
 have z0 := Bx.free h 0
 have HC := Lib.hid (cutprefix_any l p w)
 clear h
 go_enter Tryz.func78, Tryz.ntmps78
 go_wp2_with fail
 refine HC.out.mono ?_
 rintro e w1 ⟨rfl, rfl⟩
 go_wp2_with fail
 go_ret
 exact ⟨rfl, rfl⟩
theorem ended_any (g : Nat) (l : Bs) (w : World) (h : Rd w g l) : Calls Tryz.prog 58 #[.pointer (some ⟨g, 0, none⟩)] w fun e w' => e = .returned (.bool (decide (l = []))) ∧ w' = w := by
 have k0 := Bx.cell h 0
 have HT := Lib.hid (show (ofL l).toList.isEmpty = decide (l = []) by rw [ofL_toList, Bool.eq_iff_iff]; simp)
 clear h
 go_enter Tryz.func58, Tryz.ntmps58
 go_wp2_with fail
 go_ret
 exact ⟨by rw [← HT.out]; rfl, rfl⟩
theorem escaped_any (c : UInt8) (w : World) : Calls Tryz.prog 93 #[.string (ofL [c])] w fun e w' => e = .returned (.bool (spc c)) ∧ w' = w := by
 have e1 : ∀ d : UInt8, ((ofL [c]).toList == [d]) = decide (c = d) := fun d => by rw [ofL_toList, Bool.eq_iff_iff]; simp
 have hn : ∀ d : UInt8, c = d ↔ c.toNat = d.toNat := fun d => UInt8.toNat_inj.symm
 by_cases h1 : c = 34
 ·have d1 : ((ofL [c]).toList == [34]) = true := by rw [e1]; exact decide_eq_true h1
  have d2 : (ofL [c]).toList = [34] := by rw [ofL_toList, h1]
  have HS := Lib.hid (show spc c = true by subst h1; rfl)
  clear e1 hn h1
  go_enter Tryz.func93, Tryz.ntmps93
  go_wp2_with fail
  go_ret
  exact ⟨by rw [HS.out]; rfl, rfl⟩
 ·have d1 : ((ofL [c]).toList == [34]) = false := by rw [e1]; exact decide_eq_false h1
  have d2 : ¬ (ofL [c]).toList = [34] := by rw [ofL_toList]; simpa using h1
  have HS := Lib.hid (show ((ofL [c]).toList == [92]) = spc c by
   rw [e1]
   unfold spc
   have a1 := hn 34
   have a2 := hn 92
   rw [Bool.eq_iff_iff, decide_eq_true_iff, decide_eq_true_iff, a2]
   constructor
   ·exact fun h => .inr h
   ·rintro (h | h)
    ·exact absurd (a1.2 h) h1
    ·exact h)
  clear e1 hn h1
  go_enter Tryz.func93, Tryz.ntmps93
  go_wp2_with fail
  go_ret
  exact ⟨by rw [← HS.out]; rfl, rfl⟩
end Go.Proofs.YtnainhpcmoekcaaGreatDoor
