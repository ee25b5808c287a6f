/- The contracts of the reader's small methods. -/
import Derived.Test.YtlimaefgifgegaaRows
import Derived.WalkKit
import Derived.WalkSpells
import Derived.WalkLawsBesides
import Derived.Deep.QuietTactic
import Derived.BigQuiet
import Derived.Test.YtlimaefgifgegaaWireDig
import Derived.Test.YtlimaefgifgegaaWireRdrM
namespace Go.Proofs.Ytlimaefgifgegaa
open Go.RowKit

theorem stopped_nil (w : World) : Calls Try.prog 37 #[.pointer none] w fun e w' => e = .returned (.bool true) ∧ w = w' := by
  go_enter Try.func37, Try.ntmps37
  go_wp2
  go_ret
  exact ⟨rfl, rfl⟩
theorem left_nil (w : World) : Calls Try.prog 21 #[.pointer none] w fun e w' => e = .returned (.int .i64 0) ∧ w = w' := by
  go_enter Try.func21, Try.ntmps21
  go_wp2
  go_ret
  exact ⟨rfl, rfl⟩
theorem end_nil (w : World) : Calls Try.prog 22 #[.pointer none] w fun e w' => e = .returned (.int .i64 7) ∧ w = w' := by
  go_enter Try.func22, Try.ntmps22
  go_wp2
  go_ret
  exact ⟨rfl, rfl⟩

section
variable {w : World} {g n c k : Nat} {A : Option Addr} {xs : List Nat} {fl : Bool}
theorem stopped_any (h : Rdr w g A n c xs k fl) : Calls Try.prog 37 #[.pointer (some ⟨g, 0, none⟩)] w fun e w' => e = .returned (.bool fl) ∧ w = w' := by
  have h2 := h.cell 2
  go_enter Try.func37, Try.ntmps37
  go_wp2
  go_ret
  exact ⟨rfl, rfl⟩
theorem left_any (h : Rdr w g A n c xs k fl) : Calls Try.prog 21 #[.pointer (some ⟨g, 0, none⟩)] w fun e w' => e = .returned (.int .i64 ((n : Int) - (k : Int))) ∧ ∃ m, w' = w.drewN m := by
  have h0 := h.cell 0
  have h1 := h.cell 1
  have hr := h.room
  have ho := h.off
  unfold Room2 at hr
  go_enter Try.func21, Try.ntmps21
  go_wp2
  go_quiet (fail)
  go_wp2
  go_ret
  exact ⟨rfl, nq, rfl⟩

/-- What End answers. -/
def endOf (n k : Nat) (fl : Bool) : Int := if fl = true ∨ k < n then 4 else 0
set_option maxHeartbeats 400000 in
theorem end_any (h : Rdr w g A n c xs k fl) : Calls Try.prog 22 #[.pointer (some ⟨g, 0, none⟩)] w fun e w' => e = .returned (.int .i64 (endOf n k fl)) ∧ ∃ m, w' = w.drewN m := by
  have h2 := h.cell 2
  have ho := h.off
  have H := Lib.hid h; clear h
  cases fl with
  | true =>
    have he : Hid (endOf n k true = 4) := by simp [endOf, Hid]
    go_enter Try.func22, Try.ntmps22
    go_wp2
    go_ret
    exact ⟨by rw [he.out]; rfl, 0, rfl⟩
  | false =>
    by_cases hk : k < n
    · have he : Hid (endOf n k false = 4) := by simp [endOf, Hid, hk]
      go_enter Try.func22, Try.ntmps22
      go_wp2_with (go_at_call 21; refine (left_any H.out).mono ?_; rintro e w' ⟨rfl, m, rfl⟩)
      go_ret
      exact ⟨by rw [he.out]; rfl, m, rfl⟩
    · have he : Hid (endOf n k false = 0) := by simp [endOf, Hid, hk]
      go_enter Try.func22, Try.ntmps22
      go_wp2_with (go_at_call 21; refine (left_any H.out).mono ?_; rintro e w' ⟨rfl, m, rfl⟩)
      go_ret
      exact ⟨by rw [he.out]; rfl, m, rfl⟩

theorem dig_q (h : Rdr w g A n c xs k fl) (u s : Nat) (hd : digF 0 0 (xs.drop k) = (u, s)) (m : Nat) (A' : Option Addr) (n' c' : Nat) (hA' : A' = if c = k then A else Option.map (fun x => x.add k) A) (hn' : n' = n - k) :
    Calls Try.prog 38 #[.slice A' n' c'] (w.drewN m) fun e w' => e = .returned (.tuple #[.int .u64 (u : Int), .int .i64 (s : Int)]) ∧ w' = w.drewN m := by
  have hr := h.room
  have ho := h.off
  have hl := h.len
  subst hA' hn'
  refine (dig_any _ _ _ (xs.drop k) (w.drewN m) (by rw [List.length_drop, hl]) (((h.drewN m).bs).cut hl ho h.cap) (h.byt.drop k) (by unfold Room2 at *; omega)).mono fun e w' hp => ?_
  obtain ⟨he, hw⟩ := hp
  rw [hd] at he
  exact ⟨he, hw.symm⟩

/-- Bounded where there is such a number. -/
def BndPost (w : World) (g : Nat) (A : Option Addr) (n c : Nat) (xs : List Nat) (k : Nat) (fl : Bool) (v : Int) (e : Ending) (w' : World) : Prop :=
  e = .returned (.int .i64 v) ∧ Rdr w' g A n c xs k fl ∧ Only g w w'
set_option maxHeartbeats 400000 in
theorem bnd_ok (lo hi : Int) (h : Rdr w g A n c xs k false) (u s : Nat) (hd : digF 0 0 (xs.drop k) = (u, s)) (hu : U64 u) (hs : 0 < s) (hs2 : k + s ≤ n) (z : Int) (hz : unzig u = z) (h1 : lo ≤ z) (h2 : z ≤ hi) :
    Calls Try.prog 17 #[.pointer (some ⟨g, 0, none⟩), .int .i64 lo, .int .i64 hi] w (BndPost w g A n c xs (k + s) false z) := by
  have c0 := h.cell 0
  have c1 := h.cell 1
  have c2 := h.cell 2
  have f1 := h.free 1
  have ho := h.off
  have hcap := h.cap
  have hub := unzig_bits' u hu
  have hr := h.room
  have hks : (k : Int) + (s : Int) ≤ 140737488355000 := by unfold Room2 at hr; omega
  have hck : ¬ c = k := by omega
  rw [hz] at hub
  clear hz
  have H := Lib.hid h; clear h
  have Hd := Lib.hid hd; clear hd
  have t0 : ((s : Int) == 0) = false := by simp; omega
  go_enter Try.func17, Try.ntmps17
  go_wp2_with (go_at_call 37; refine (stopped_any H.out).mono ?_; rintro e w' ⟨rfl, rfl⟩)
  go_quiet ((go_at_call 38; exact Calls.quiet_of_same (dig_q H.out u s Hd.out _ _ _ _ (by simp [hck]) (by first | rfl | omega))))
  go_wp2
  go_ret
  have hR := (H.out.drewN nq).go (k + s) hs2
  rw [Int.natCast_add] at hR
  exact ⟨rfl, hR, ((Only.refl g w).drewN nq).set 1 _⟩

set_option maxHeartbeats 400000 in
theorem bnd_none (lo hi : Int) (h : Rdr w g A n c xs k false) (u s : Nat) (hd : digF 0 0 (xs.drop k) = (u, s)) (hs : s = 0) :
    Calls Try.prog 17 #[.pointer (some ⟨g, 0, none⟩), .int .i64 lo, .int .i64 hi] w (BndPost w g A n c xs k true 0) := by
  have c0 := h.cell 0
  have c1 := h.cell 1
  have c2 := h.cell 2
  have f1 := h.free 2
  have ho := h.off
  have hcap := h.cap
  have H := Lib.hid h; clear h
  have Hd := Lib.hid hd; clear hd
  have t0 : ((s : Int) == 0) = true := by simp; omega
  clear hs
  by_cases hck : c = k
  · subst hck
    go_enter Try.func17, Try.ntmps17
    go_wp2_with (go_at_call 37; refine (stopped_any H.out).mono ?_; rintro e w' ⟨rfl, rfl⟩)
    go_quiet ((go_at_call 38; exact Calls.quiet_of_same (dig_q H.out u s Hd.out _ _ _ _ (by simp) (by first | rfl | omega))))
    go_wp2
    go_ret
    exact ⟨rfl, (H.out.drewN nq).fail, ((Only.refl g w).drewN nq).set 2 _⟩
  · go_enter Try.func17, Try.ntmps17
    go_wp2_with (go_at_call 37; refine (stopped_any H.out).mono ?_; rintro e w' ⟨rfl, rfl⟩)
    go_quiet ((go_at_call 38; exact Calls.quiet_of_same (dig_q H.out u s Hd.out _ _ _ _ (by simp [hck]) (by first | rfl | omega))))
    go_wp2
    go_ret
    exact ⟨rfl, (H.out.drewN nq).fail, ((Only.refl g w).drewN nq).set 2 _⟩

set_option maxHeartbeats 400000 in
theorem bnd_out (lo hi : Int) (h : Rdr w g A n c xs k false) (u s : Nat) (hd : digF 0 0 (xs.drop k) = (u, s)) (hu : U64 u) (hs : 0 < s) (hs2 : k + s ≤ n) (z : Int) (hz : unzig u = z) (h1 : z < lo ∨ hi < z) :
    Calls Try.prog 17 #[.pointer (some ⟨g, 0, none⟩), .int .i64 lo, .int .i64 hi] w (BndPost w g A n c xs k true 0) := by
  have c0 := h.cell 0
  have c1 := h.cell 1
  have c2 := h.cell 2
  have f1 := h.free 2
  have ho := h.off
  have hcap := h.cap
  have hub := unzig_bits' u hu
  have hck : ¬ c = k := by omega
  rw [hz] at hub
  clear hz
  have H := Lib.hid h; clear h
  have Hd := Lib.hid hd; clear hd
  have t0 : ((s : Int) == 0) = false := by simp; omega
  by_cases hlo : z < lo
  · clear h1
    go_enter Try.func17, Try.ntmps17
    go_wp2_with (go_at_call 37; refine (stopped_any H.out).mono ?_; rintro e w' ⟨rfl, rfl⟩)
    go_quiet ((go_at_call 38; exact Calls.quiet_of_same (dig_q H.out u s Hd.out _ _ _ _ (by simp [hck]) (by first | rfl | omega))))
    go_wp2
    go_ret
    exact ⟨rfl, (H.out.drewN nq).fail, ((Only.refl g w).drewN nq).set 2 _⟩
  · have hhi : hi < z := by omega
    clear h1
    go_enter Try.func17, Try.ntmps17
    go_wp2_with (go_at_call 37; refine (stopped_any H.out).mono ?_; rintro e w' ⟨rfl, rfl⟩)
    go_quiet ((go_at_call 38; exact Calls.quiet_of_same (dig_q H.out u s Hd.out _ _ _ _ (by simp [hck]) (by first | rfl | omega))))
    go_wp2
    go_ret
    exact ⟨rfl, (H.out.drewN nq).fail, ((Only.refl g w).drewN nq).set 2 _⟩
theorem int_rd {k' : Nat} {fl' : Bool} {v : Int} (hb : Calls Try.prog 17 #[.pointer (some ⟨g, 0, none⟩), .int .i64 (-9223372036854775808), .int .i64 9223372036854775807] w (BndPost w g A n c xs k' fl' v)) :
    Calls Try.prog 29 #[.pointer (some ⟨g, 0, none⟩)] w (BndPost w g A n c xs k' fl' v) := by
  have Hb := Lib.hid hb
  clear hb
  go_enter Try.func29, Try.ntmps29
  go_wp2_with fail
  refine Hb.out.mono ?_
  rintro e w1 ⟨rfl, hR, ho⟩
  go_wp2
  go_ret
  exact ⟨rfl, hR, ho⟩
end
theorem bnd_nil (lo hi : Int) (w : World) : Calls Try.prog 17 #[.pointer none, .int .i64 lo, .int .i64 hi] w fun e w' => e = .returned (.int .i64 0) ∧ w = w' := by
  go_enter Try.func17, Try.ntmps17
  go_wp2_with (go_at_call 37; refine (stopped_nil _).mono ?_; rintro e w' ⟨rfl, rfl⟩)
  go_ret
  exact ⟨rfl, rfl⟩
theorem int_nil (w : World) : Calls Try.prog 29 #[.pointer none] w fun e w' => e = .returned (.int .i64 0) ∧ w = w' := by
  go_enter Try.func29, Try.ntmps29
  go_wp2_with (go_at_call 17; refine (bnd_nil _ _ _).mono ?_; rintro e w' ⟨rfl, rfl⟩)
  go_ret
  exact ⟨rfl, rfl⟩
theorem rbool_nil (w : World) : Calls Try.prog 18 #[.pointer none] w fun e w' => e = .returned (.bool false) ∧ w = w' := by
  go_enter Try.func18, Try.ntmps18
  go_wp2_with (go_at_call 37; refine (stopped_nil _).mono ?_; rintro e w' ⟨rfl, rfl⟩)
  go_ret
  exact ⟨rfl, rfl⟩
end Go.Proofs.Ytlimaefgifgegaa
