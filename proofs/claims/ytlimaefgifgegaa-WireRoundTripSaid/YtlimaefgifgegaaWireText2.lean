/- The readers' contracts: Text. -/
import Derived.Test.YtlimaefgifgegaaWireText
namespace Go.Proofs.Ytlimaefgifgegaa
open Go.RowKit

section
variable {w : World} {g n c k : Nat} {A : Option Addr} {xs : List Nat} {fl : Bool}
def sval (r : ByteArray × Nat × Bool) : Value × Nat × Bool := (.string r.1, r.2)

set_option maxHeartbeats 1000000 in
theorem whole_text (mx : Int) (p q r : Nat) (h : Rdr w g A n c xs k fl) (hc : Caps w g p q r (.func (.func 40) #[.pointer (some ⟨g, 0, none⟩)] #[]) 37 32 3 mx) (hmx : mx ≤ 9223372036854775807) :
    Calls Try.prog 54 #[.pointer (some ⟨g, 0, none⟩), .func (.func 55) #[] #[.pointer (some ⟨p, 0, none⟩), .pointer (some ⟨q, 0, none⟩), .pointer (some ⟨r, 0, none⟩)]] w
      (RPost w g A n c xs (sval (out (strOf []) fl k (pText mx xs k)))) := by
  have hof := h.off
  cases fl with
  | true =>
    rw [out_true]
    have H := Lib.hid h; clear h
    go_enter Try.func54, Try.ntmps54
    go_wp2_with (go_at_call 37; refine (stopped_any H.out).mono ?_; rintro e w' ⟨rfl, rfl⟩)
    go_ret
    exact ⟨rfl, H.out, Only.refl _ _⟩
  | false =>
    have c1 := h.cell 1
    have H := Lib.hid h; clear h
    have HC := Lib.hid hc; clear hc
    go_enter Try.func54, Try.ntmps54
    go_wp2_with (go_at_call 37; refine (stopped_any H.out).mono ?_; rintro e w' ⟨rfl, rfl⟩)
    refine (clos_text mx p q r H.out HC.out hmx).mono ?_
    rintro e w1 ⟨s, k', fl', rfl, hR, ho, hm⟩
    have d2 := hR.cell 2
    have f1 := hR.free 1
    have d1 := hR.cell 1
    have HR := Lib.hid hR; have Ho := Lib.hid ho
    clear hR ho c1
    cases hp : pText mx xs k with
    | some o =>
      obtain ⟨t, k1⟩ := o
      rw [hp] at hm
      obtain ⟨rfl, rfl, rfl⟩ := hm
      have Hp := Lib.hid hp; clear hp
      go_wp2
      go_ret
      rw [out_some Hp.out]
      exact ⟨rfl, HR.out, Ho.out⟩
    | none =>
      rw [hp] at hm
      simp only at hm
      subst hm
      have Hp := Lib.hid hp; clear hp
      go_wp2
      go_ret
      rw [out_none Hp.out]
      exact ⟨rfl, HR.out.go k hof, Ho.out.set 1 _⟩

theorem part_text (mx : Int) (h : Rdr w g A n c xs k fl) (hmx : mx ≤ 9223372036854775807) :
    Calls Try.prog 39 #[.pointer (some ⟨g, 0, none⟩), .int .i64 mx, .func (.func 40) #[.pointer (some ⟨g, 0, none⟩)] #[]] w (RPost w g A n c xs (sval (out (strOf []) fl k (pText mx xs k)))) := by
  have hg := h.lt
  have H := Lib.hid h; clear h
  go_enter Try.func39, Try.ntmps39
  go_wp2_with fail
  have hbel : Below w.heap.size w (((w.alloc (.cells #[.pointer (some ⟨g, 0, none⟩)] 32)).alloc (.cells #[.int .i64 mx] 3)).alloc (.cells #[.func (.func 40) #[.pointer (some ⟨g, 0, none⟩)] #[]] 37)) :=
    (((Below.refl _ w).alloc (Nat.le_refl _) _).alloc (by simp) _).alloc (by simp; omega) _
  obtain ⟨p0, p1, p2⟩ := heap_alloc_3 w (.cells #[.pointer (some ⟨g, 0, none⟩)] 32) (.cells #[.int .i64 mx] 3) (.cells #[.func (.func 40) #[.pointer (some ⟨g, 0, none⟩)] #[]] 37)
  refine (whole_text mx (w.heap.size + 1 + 1) w.heap.size (w.heap.size + 1) (H.out.below hbel) ⟨p2, p0, p1, by omega, by omega, by omega⟩ hmx).mono ?_
  rintro e w1 ⟨rfl, hR, ho⟩
  have HR := Lib.hid hR
  have Ho := Lib.hid (((Only.refl g w).below hbel).trans ho)
  clear hR ho hbel p0 p1 p2
  go_wp2
  go_ret
  exact ⟨rfl, HR.out, Ho.out⟩
theorem text_any (mx : Int) (h : Rdr w g A n c xs k fl) (hmx : mx ≤ 9223372036854775807) :
    Calls Try.prog 19 #[.pointer (some ⟨g, 0, none⟩), .int .i64 mx] w (RPost w g A n c xs (sval (out (strOf []) fl k (pText mx xs k)))) := by
  have H := Lib.hid h; clear h
  go_enter Try.func19, Try.ntmps19
  go_wp2_with fail
  refine (part_text mx H.out hmx).mono ?_
  rintro e w1 ⟨rfl, hR, ho⟩
  have HR := Lib.hid hR
  have Ho := Lib.hid ho
  clear hR ho
  go_wp2
  go_ret
  exact ⟨rfl, HR.out, Ho.out⟩
end
end Go.Proofs.Ytlimaefgifgegaa
