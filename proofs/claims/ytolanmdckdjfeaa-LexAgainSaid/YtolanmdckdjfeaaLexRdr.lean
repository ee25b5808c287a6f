/- Layer 9: the contract of the scanner's reader: a method value that reads the token that stands next. -/
import Derived.Test.YtolanmdckdjfeaaLexNum
import Derived.Test.YtolanmdckdjfeaaLexMark
import Derived.Test.YtolanmdckdjfeaaLexTxt
namespace Go.Proofs.Ytolanmdckdjfeaa
open Go.RowKit

section
variable {w : World} {g k : Nat} {l : List UInt8}
def IsReader (g : Nat) (l : List UInt8) (k K : Nat) : Prop :=
  (∀ args w, (callFunc K args).run Try.prog w = .ok (.enter K args) w) ∧ ∀ w, Scn w g l k → Calls Try.prog K #[.pointer (some ⟨g, 0, none⟩)] w (TokPost w g l k (tk (l.drop k)))
def RdrPost (w : World) (g : Nat) (l : List UInt8) (k : Nat) (e : Ending) (w' : World) : Prop :=
  ∃ K, e = .returned (.func (.func K) #[.pointer (some ⟨g, 0, none⟩)] #[]) ∧ IsReader g l k K ∧ ∃ m, w' = w.drewN m
theorem rdr_name (hc : cL (nxt (l.drop k)) = true) : IsReader g l k 46 :=
  ⟨fun args w => enters_of Try.func46 (by kernel_rfl) rfl args w, fun w h => by
    have := name_any h
    unfold tk
    rwa [if_pos hc]⟩
theorem rdr_number (hc : cL (nxt (l.drop k)) = false) (hd : cD (nxt (l.drop k)) = true) : IsReader g l k 48 :=
  ⟨fun args w => enters_of Try.func48 (by kernel_rfl) rfl args w, fun w h => by
    have := number_any h
    unfold tk
    rwa [if_neg (by simp [hc]), if_pos hd]⟩
theorem rdr_text (hc : cL (nxt (l.drop k)) = false) (hd : cD (nxt (l.drop k)) = false) (hq : nxt (l.drop k) = 34) : IsReader g l k 49 :=
  ⟨fun args w => enters_of Try.func49 (by kernel_rfl) rfl args w, fun w h => by
    have := text_any h hq
    unfold tk
    rwa [if_neg (by simp [hc]), if_neg (by simp [hd]), if_pos hq, List.tail_drop]⟩
theorem rdr_mark (hc : cL (nxt (l.drop k)) = false) (hd : cD (nxt (l.drop k)) = false) (hq : nxt (l.drop k) ≠ 34) : IsReader g l k 50 :=
  ⟨fun args w => enters_of Try.func50 (by kernel_rfl) rfl args w, fun w h => by
    have := mark_any h
    unfold tk
    rwa [if_neg (by simp [hc]), if_neg (by simp [hd]), if_neg hq]⟩
theorem reader_any (h : Scn w g l k) : Calls Try.prog 25 #[.pointer (some ⟨g, 0, none⟩)] w (RdrPost w g l k) := by
  obtain ⟨x, hx⟩ : ∃ x, nxt (l.drop k) = x := ⟨_, rfl⟩
  have HX := Lib.hid hx
  have H := Lib.hid h; clear h
  have hmf : ∀ (fn : Fn) (first cap : Array Value) (w : World), (Instr.makeFunc fn first cap).run Try.prog w = .ok (.func fn first cap) w := fun _ _ _ _ => rfl
  cases hc : cL x with
  | true =>
    have HC := Lib.hid hc
    have HR := Lib.hid (rdr_name (g := g) (l := l) (k := k) (by rw [hx]; exact hc))
    clear hc hx
    go_enter Try.func25, Try.ntmps25
    go_wp2_with fail
    refine (next_any H.out).mono ?_; rintro e w1 ⟨rfl, m, rfl⟩; rw [HX.out]
    go_wp2_with fail
    refine (isLetter_any _ _).mono ?_; rintro e w1 ⟨rfl, rfl⟩; rw [HC.out]
    go_wp2
    go_ret
    exact ⟨_, rfl, HR.out, m, rfl⟩
  | false =>
    have HC := Lib.hid hc
    cases hd : cD x with
    | true =>
      have HD := Lib.hid hd
      have HR := Lib.hid (rdr_number (g := g) (l := l) (k := k) (by rw [hx]; exact hc) (by rw [hx]; exact hd))
      clear hc hd hx
      go_enter Try.func25, Try.ntmps25
      go_wp2_with fail
      refine (next_any H.out).mono ?_; rintro e w1 ⟨rfl, m, rfl⟩; rw [HX.out]
      go_wp2_with fail
      refine (isLetter_any _ _).mono ?_; rintro e w1 ⟨rfl, rfl⟩; rw [HC.out]
      go_wp2_with fail
      refine (isDigit_any _ _).mono ?_; rintro e w1 ⟨rfl, rfl⟩; rw [HD.out]
      go_wp2
      go_ret
      exact ⟨_, rfl, HR.out, m, rfl⟩
    | false =>
      have HD := Lib.hid hd
      by_cases h34 : x = 34
      · have HR := Lib.hid (rdr_text (g := g) (l := l) (k := k) (by rw [hx]; exact hc) (by rw [hx]; exact hd) (by rw [hx]; exact h34))
        have t34 : ((x : Int) == 34) = true := by rw [h34]; rfl
        clear hc hd hx h34
        go_enter Try.func25, Try.ntmps25
        go_wp2_with fail
        refine (next_any H.out).mono ?_; rintro e w1 ⟨rfl, m, rfl⟩; rw [HX.out]
        go_wp2_with fail
        refine (isLetter_any _ _).mono ?_; rintro e w1 ⟨rfl, rfl⟩; rw [HC.out]
        go_wp2_with fail
        refine (isDigit_any _ _).mono ?_; rintro e w1 ⟨rfl, rfl⟩; rw [HD.out]
        go_wp2
        go_ret
        exact ⟨_, rfl, HR.out, m, rfl⟩
      · have HR := Lib.hid (rdr_mark (g := g) (l := l) (k := k) (by rw [hx]; exact hc) (by rw [hx]; exact hd) (by rw [hx]; exact h34))
        have t34 : ((x : Int) == 34) = false := by simp; omega
        clear hc hd hx h34
        go_enter Try.func25, Try.ntmps25
        go_wp2_with fail
        refine (next_any H.out).mono ?_; rintro e w1 ⟨rfl, m, rfl⟩; rw [HX.out]
        go_wp2_with fail
        refine (isLetter_any _ _).mono ?_; rintro e w1 ⟨rfl, rfl⟩; rw [HC.out]
        go_wp2_with fail
        refine (isDigit_any _ _).mono ?_; rintro e w1 ⟨rfl, rfl⟩; rw [HD.out]
        go_wp2
        go_ret
        exact ⟨_, rfl, HR.out, m, rfl⟩
end
end Go.Proofs.Ytolanmdckdjfeaa
