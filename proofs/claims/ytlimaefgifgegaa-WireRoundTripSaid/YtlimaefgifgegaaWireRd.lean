/- The readers' contracts, for a reader that has failed or not: integers, booleans. -/
import Derived.Test.YtlimaefgifgegaaWireRdr
namespace Go.Proofs.Ytlimaefgifgegaa
open Go.RowKit

theorem digF_bd : ∀ (l : List Nat) (i u : Nat), i ≤ 9 → u < 128 ^ i → Byt l → (digF i u l).1 < 18446744073709551616 ∧ (digF i u l).2 ≤ i + l.length
  | [], i, u, _, _, _ => by simp [digF]
  | c :: r, i, u, hi, hu, hb => by
    have hc := hb c (by simp)
    have hr : Byt r := fun x hx => hb x (by simp [hx])
    unfold digF
    split
    · simp
    · rename_i h9
      split
      · rename_i hlo
        split
        · simp
        · refine ⟨?_, by simp <;> omega⟩
          show u + c * 128 ^ i < _
          by_cases h : i = 9
          · subst h
            have := or_room9 (c := c) hu (fun h1 => h9 ⟨rfl, h1⟩)
            rwa [Nat.mod_eq_of_lt hlo] at this
          · have := (or_room (c := c) hu (by omega)).2
            rwa [Nat.mod_eq_of_lt hlo] at this
      · rename_i hlo
        by_cases h : i = 9
        · exfalso; exact h9 ⟨h, by omega⟩
        · have := or_room (c := c) hu (by omega : i < 9)
          have e : c % 128 = c - 128 := by omega
          rw [e] at this
          have h2 := digF_bd r (i + 1) (u + (c - 128) * 128 ^ i) (by omega) this.1 hr
          exact ⟨h2.1, by have := h2.2; rw [List.length_cons]; omega⟩

/-- An integer from lo to hi at the offset k. -/
def pBnd (lo hi : Int) (xs : List Nat) (k : Nat) : Option (Int × Nat) :=
  if (digF 0 0 (xs.drop k)).2 = 0 then none
  else if lo ≤ unzig (digF 0 0 (xs.drop k)).1 ∧ unzig (digF 0 0 (xs.drop k)).1 ≤ hi then some (unzig (digF 0 0 (xs.drop k)).1, k + (digF 0 0 (xs.drop k)).2) else none
def pInt (xs : List Nat) (k : Nat) : Option (Int × Nat) := pBnd (-9223372036854775808) 9223372036854775807 xs k
/-- A boolean at the offset k. -/
def pBool (xs : List Nat) (k : Nat) : Option (Bool × Nat) := if k < xs.length ∧ xs.getD k 0 ≤ 1 then some (decide (xs.getD k 0 = 1), k + 1) else none
/-- What a method makes of it: the value, the offset, failed or not. -/
def out {α : Type} (z : α) (fl : Bool) (k : Nat) (o : Option (α × Nat)) : α × Nat × Bool := if fl then (z, k, true) else match o with | some (a, k') => (a, k', false) | none => (z, k, true)
theorem out_true {α : Type} {z : α} {k : Nat} {o : Option (α × Nat)} : out z true k o = (z, k, true) := rfl
theorem out_some {α : Type} {z a : α} {k k' : Nat} {o : Option (α × Nat)} (h : o = some (a, k')) : out z false k o = (a, k', false) := by rw [h]; rfl
theorem out_none {α : Type} {z : α} {k : Nat} {o : Option (α × Nat)} (h : o = none) : out z false k o = (z, k, true) := by rw [h]; rfl

section
variable {w : World} {g n c k : Nat} {A : Option Addr} {xs : List Nat} {fl : Bool}
def RPost (w : World) (g : Nat) (A : Option Addr) (n c : Nat) (xs : List Nat) (r : Value × Nat × Bool) (e : Ending) (w' : World) : Prop :=
  e = .returned r.1 ∧ Rdr w' g A n c xs r.2.1 r.2.2 ∧ Only g w w'
def ival (r : Int × Nat × Bool) : Value × Nat × Bool := (.int .i64 r.1, r.2)
def bval (r : Bool × Nat × Bool) : Value × Nat × Bool := (.bool r.1, r.2)

theorem bnd_any (lo hi : Int) (h : Rdr w g A n c xs k fl) :
    Calls Try.prog 17 #[.pointer (some ⟨g, 0, none⟩), .int .i64 lo, .int .i64 hi] w (RPost w g A n c xs (ival (out 0 fl k (pBnd lo hi xs k)))) := by
  cases fl with
  | true =>
    rw [out_true]
    have H := Lib.hid h; clear h
    go_enter Try.func17, Try.ntmps17
    go_wp2_with (go_at_call 37; refine (stopped_any H.out).mono ?_; rintro e w' ⟨rfl, rfl⟩)
    go_ret
    exact ⟨rfl, H.out, Only.refl _ _⟩
  | false =>
    obtain ⟨u, s, hd⟩ : ∃ u s, digF 0 0 (xs.drop k) = (u, s) := ⟨_, _, rfl⟩
    have hbd := digF_bd (xs.drop k) 0 0 (by omega) (by simp) (h.byt.drop k)
    rw [hd] at hbd
    simp only [List.length_drop, Nat.zero_add] at hbd
    have hxl := h.len
    have hof := h.off
    by_cases hs : s = 0
    · have e : pBnd lo hi xs k = none := by unfold pBnd; rw [hd, if_pos hs]
      rw [out_none e]
      exact (bnd_none lo hi h u s hd hs).mono fun _ _ h => h
    · by_cases hr : lo ≤ unzig u ∧ unzig u ≤ hi
      · have e : pBnd lo hi xs k = some (unzig u, k + s) := by unfold pBnd; rw [hd, if_neg hs, if_pos hr]
        rw [out_some e]
        exact (bnd_ok lo hi h u s hd hbd.1 (by omega) (by omega) _ rfl hr.1 hr.2).mono fun _ _ h => h
      · have e : pBnd lo hi xs k = none := by unfold pBnd; rw [hd, if_neg hs, if_neg hr]
        rw [out_none e]
        exact (bnd_out lo hi h u s hd hbd.1 (by omega) (by omega) _ rfl (by omega)).mono fun _ _ h => h
theorem int_any (h : Rdr w g A n c xs k fl) :
    Calls Try.prog 29 #[.pointer (some ⟨g, 0, none⟩)] w (RPost w g A n c xs (ival (out 0 fl k (pInt xs k)))) :=
  int_rd (bnd_any _ _ h)

set_option maxHeartbeats 400000 in
theorem rbool_any (h : Rdr w g A n c xs k fl) :
    Calls Try.prog 18 #[.pointer (some ⟨g, 0, none⟩)] w (RPost w g A n c xs (bval (out false fl k (pBool xs k)))) := by
  have c0 := h.cell 0
  have c1 := h.cell 1
  have c2 := h.cell 2
  have f1 := h.free 1
  have f2 := h.free 2
  have hof := h.off
  have hlen := h.len
  have hr := h.room
  have H := Lib.hid h
  cases fl with
  | true =>
    rw [out_true]
    clear h c0 c1 c2 f1 f2
    go_enter Try.func18, Try.ntmps18
    go_wp2_with (go_at_call 37; refine (stopped_any H.out).mono ?_; rintro e w' ⟨rfl, rfl⟩)
    go_ret
    exact ⟨rfl, H.out, Only.refl _ _⟩
  | false =>
    unfold Room2 at hr
    have i0 : (0 : Int) ≤ (k : Int) := by omega
    by_cases hkn : k = n
    · have e : pBool xs k = none := by unfold pBool; rw [if_neg (by omega)]
      rw [out_none e]
      have t0 : ((n : Int) - (k : Int) == 0) = true := by rw [beq_iff_eq]; omega
      clear h c0 c1 f1 hkn
      go_enter Try.func18, Try.ntmps18
      go_wp2_with (go_at_call 37; refine (stopped_any H.out).mono ?_; rintro e w' ⟨rfl, rfl⟩)
      go_quiet ((go_at_call 21; exact Calls.quiet_of (left_any (H.out.drewN _))))
      go_wp2
      go_ret
      exact ⟨rfl, (H.out.drewN nq).fail, ((Only.refl g w).drewN nq).set 2 _⟩
    · have hlt : k < xs.length := by omega
      have t0 : ((n : Int) - (k : Int) == 0) = false := by rw [beq_eq_false_iff_ne]; omega
      rcases h.data with h0 | ⟨ad, rfl, hne, hlt2, hcell⟩
      · rw [h0] at hlt; simp at hlt
      have hck := hcell k _ (List.getElem?_eq_getElem hlt)
      have hgd : xs.getD k 0 = xs[k] := by simp [hlt]
      have i1 : (k : Int) < (n : Int) := by omega
      by_cases hbig : xs[k] ≤ 1
      · have e : pBool xs k = some (decide (xs[k] = 1), k + 1) := by unfold pBool; rw [hgd, if_pos ⟨hlt, hbig⟩]
        rw [out_some e]
        clear h f2 e hcell hgd
        obtain ⟨x, hx⟩ : ∃ x, x = xs[k] := ⟨_, rfl⟩
        rw [← hx] at hck hbig
        have HX := Lib.hid hx
        rw [← hx]
        clear hx
        unfold bv at hck
        go_enter Try.func18, Try.ntmps18
        go_wp2_with (go_at_call 37; refine (stopped_any H.out).mono ?_; rintro e w' ⟨rfl, rfl⟩)
        go_quiet ((go_at_call 21; exact Calls.quiet_of (left_any (H.out.drewN _))))
        go_wp2
        have hR := (H.out.drewN nq).go (k + 1) (by omega)
        rw [show ((k + 1 : Nat) : Int) = (k : Int) + 1 by omega] at hR
        generalize hw5 : (w.drewN nq).setCell ⟨g, 1, none⟩ (.int .i64 ((k : Int) + 1)) = w5 at *
        have ho5 : Only g w w5 := by rw [← hw5]; exact ((Only.refl g w).drewN nq).set 1 _
        have Ho5 := Lib.hid ho5
        have HR := Lib.hid hR
        have d0 := hR.cell 0
        have d1 : w5.cell? ⟨g, 1, none⟩ = some (.int .i64 ((k : Int) + 1)) := by have := hR.cell 1; simpa using this
        have dk : w5.cell? (ad.add k) = some (.int .u8 (x : Int)) := by
          rcases hR.data with h0 | ⟨ad', h1, _, _, hc⟩
          · rw [h0] at hlt; simp at hlt
          · cases h1
            rw [hc k _ (List.getElem?_eq_getElem hlt), HX.out]; rfl
        have i5 : IntKind.i64.wrap ((k : Int) + 1 - 1) = (k : Int) := by rw [IntKind.wrap_i64]; omega
        have i6 : IntKind.i64.wrap (k : Int) = (k : Int) := by rw [IntKind.wrap_i64]; omega
        clear hw5 ho5 hR c0 c1 c2 f1 hck
        go_quiet (fail)
        go_wp2
        go_ret
        refine ⟨?_, HR.out.drewN _, Ho5.out.drewN _⟩
        show Ending.returned (.bool ((x : Int) == 1)) = Ending.returned (.bool (decide (x = 1)))
        congr 2
        rw [Bool.eq_iff_iff, beq_iff_eq, decide_eq_true_iff]
        omega
      · have e : pBool xs k = none := by unfold pBool; rw [hgd, if_neg (by omega)]
        rw [out_none e]
        clear h f1 e hcell hgd
        generalize xs[k] = x at *
        unfold bv at hck
        go_enter Try.func18, Try.ntmps18
        go_wp2_with (go_at_call 37; refine (stopped_any H.out).mono ?_; rintro e w' ⟨rfl, rfl⟩)
        go_quiet ((go_at_call 21; exact Calls.quiet_of (left_any (H.out.drewN _))))
        go_wp2
        go_ret
        exact ⟨rfl, (H.out.drewN nq).fail, ((Only.refl g w).drewN nq).set 2 _⟩
end
end Go.Proofs.Ytlimaefgifgegaa
