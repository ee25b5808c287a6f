/- The contracts of bytes.Equal, bytes.Clone and Open. -/
import Derived.Test.YtkjconhhandhlabSumSealC
import Derived.Deep.QuietTactic
import Derived.BigQuiet
namespace Go.Proofs.Ytkjconhhandhlab
open Go.RowKit

set_option maxHeartbeats 400000 in
theorem equal_any (v1 v2 : Value) (xs ys : List Nat) (w : World) (n : Nat) (h1 : Bsl w v1 xs) (h2 : Bsl w v2 ys) (b1 : Byt xs) (b2 : Byt ys) (b : Bool) (hb : b = decide (xs = ys)) :
    Calls Try.prog 24 #[v1, v2] (w.drewN n) fun e w' => e = .returned (.bool b) ∧ w' = w.drewN n := by
  have r1 := run_str (P := Try.prog) (w.drewN n) 23 5 9 Try.underlying23 Try.underlying5 Try.underlying9 v1 xs (h1.drewN n)
  have r2 := run_str (P := Try.prog) (w.drewN n) 23 5 9 Try.underlying23 Try.underlying5 Try.underlying9 v2 ys (h2.drewN n)
  go_enter Try.func24, Try.ntmps24
  go_wp2
  go_ret
  refine ⟨?_, rfl⟩
  show Ending.returned (.bool ((strOf xs).toList == (strOf ys).toList)) = _
  rw [strOf_beq b1 b2, hb]

def ClonePost (w : World) (xs : List Nat) (e : Ending) (w' : World) : Prop := ∃ v', e = .returned v' ∧ w'.ownsRow w.heap.size 5 1 v' xs.length (xs.map bv) ∧ Below w.heap.size w w'
set_option maxHeartbeats 400000 in
theorem clone_any (v : Value) (xs : List Nat) (w : World) (hx : Bsl w v xs) (hr : Room2 xs.length) : Calls Try.prog 25 #[v] w (ClonePost w xs) := by
  have heq := fun (w : World) (A : Option Addr) (n c : Nat) => Lib.run_eql_slice_nil (P := Try.prog) w 23 5 A n c 0 0 Try.underlying23
  rcases hx with ⟨rfl, rfl⟩ | ⟨ad, c, rfl, hc, hcell⟩
  · go_enter Try.func25, Try.ntmps25
    go_wp2
    go_ret
    exact ⟨_, rfl, World.ownsRow_nil _ _ _ _, Below.refl _ _⟩
  · have hx' : Bsl w (.slice (some ad) xs.length c) xs := .inr ⟨ad, c, rfl, hc, hcell⟩
    have Hx := Lib.hid hx'; clear hx' hcell
    have Hr := Lib.hid hr; clear hr
    go_enter Try.func25, Try.ntmps25
    go_wp2_with (at_builtin; refine appB rfl _ _ 23 rfl info_u8 Try.underlying23 w.heap.size _ 0 [] rfl (own_lit w #[] 0 [] rfl rfl (by decide)) _ xs rfl (Hx.out.alloc _) (by simpa using Hr.out) (by simp) ?_; intro v' w1 hown1 hf1)
    go_ret
    rw [List.nil_append, Nat.zero_add] at hown1
    exact ⟨v', rfl, hown1, ((Below.refl _ w).alloc (Nat.le_refl _) _).trans (hf1.below (by simp))⟩

def OpenPost (w : World) (code : Int) (ys : List Nat) (e : Ending) (w' : World) : Prop := ∃ v', e = .returned (.tuple #[v', .int .i64 code]) ∧ w'.ownsRow w.heap.size 5 1 v' ys.length (ys.map bv) ∧ Below w.heap.size w w'

theorem open_short (A : Option Addr) (c : Nat) (xs : List Nat) (w : World) (hl : xs.length < 8) :
    Calls Try.prog 15 #[.slice A xs.length c] w (OpenPost w 4 []) := by
  go_enter Try.func15, Try.ntmps15
  go_wp2
  go_ret2
  exact ⟨_, rfl, World.ownsRow_nil _ _ _ _, Below.refl _ _⟩

def OpenB (w : World) (b : Bool) (p : List Nat) (e : Ending) (w' : World) : Prop := OpenPost w (if b then 0 else 5) (if b then p else []) e w'
set_option maxHeartbeats 400000 in
theorem open_long (ad : Addr) (c m : Nat) (p t : List Nat) (hm : p.length = m) (ht : t.length = 8) (w : World) (hx : Bsl w (.slice (some ad) (m + 8) c) (p ++ t)) (hb : Byt p) (hbt : Byt t) (hl : m ≤ 140737488350000) (b : Bool) (hd : b = decide (t = bts 8 (fnv fbase p))) :
    Calls Try.prog 15 #[.slice (some ad) (m + 8) c] w (OpenB w b p) := by
  have hc := hx.cap.1
  have Hp := Lib.hid (hx.front hm)
  have Ht := Lib.hid (hx.rear hm ht)
  have hr : Room2 p.length := by unfold Room2; omega
  have Hr := Lib.hid hr; clear hr
  clear hx
  have Hm := Lib.hid hm; clear hm
  have Ht8 := Lib.hid ht; clear ht
  have Hd := Lib.hid hd; clear hd
  have Hb := Lib.hid hb; clear hb
  have Hbt := Lib.hid hbt; clear hbt
  go_enter Try.func15, Try.ntmps15
  go_wp2_with fail
  refine (checksum_any _ p _ Hp.out Hb.out Hr.out).mono ?_
  rintro e w1 ⟨b0, b1, b2, b3, b4, b5, b6, b7, rfl, hbs, hb1⟩
  have Hbs := Lib.hid hbs; clear hbs
  have Hb1 := Lib.hid hb1; clear hb1
  go_wp2_with fail
  have hs1 : Below w.heap.size w (w1.alloc (.cells #[.int .u8 (b0 : Int), .int .u8 (b1 : Int), .int .u8 (b2 : Int), .int .u8 (b3 : Int), .int .u8 (b4 : Int), .int .u8 (b5 : Int), .int .u8 (b6 : Int), .int .u8 (b7 : Int)] 45)) := Hb1.out.alloc Hb1.out.size _
  have hblk := heap_alloc_new w1 (.cells #[.int .u8 (b0 : Int), .int .u8 (b1 : Int), .int .u8 (b2 : Int), .int .u8 (b3 : Int), .int .u8 (b4 : Int), .int .u8 (b5 : Int), .int .u8 (b6 : Int), .int .u8 (b7 : Int)] 45)
  have hq : Bsl _ (.slice (some ⟨w1.heap.size, 0, none⟩) 8 8) [b0, b1, b2, b3, b4, b5, b6, b7] := Bsl.row hblk 8 _ rfl rfl
  have Hq := Lib.hid hq
  have Hp2 := Lib.hid (Hp.out.below hs1)
  have Ht2 := Lib.hid (Ht.out.below hs1)
  have Hs1 := Lib.hid hs1
  have Hqb : Hid (Byt [b0, b1, b2, b3, b4, b5, b6, b7]) := Lib.hid (by rw [← Hbs.out]; exact bts_byt _ _)
  have Heq := Lib.hid (show b = decide (t = [b0, b1, b2, b3, b4, b5, b6, b7]) by rw [← Hbs.out]; exact Hd.out)
  clear hq hblk hs1
  have i1 : (m : Int) ≤ (m : Int) + 8 := by omega
  have i2 : (m : Int) + 8 ≤ (c : Int) := by omega
  have i3 : ¬ c = m := by omega
  cases b with
  | true =>
    go_quiet ((go_at_call 24; exact Calls.quiet_of_same (equal_any _ _ t _ _ _ Ht2.out Hq.out Hbt.out Hqb.out true Heq.out)))
    go_wp2_with fail
    refine (clone_any _ p _ (Hp2.out.drewN _) Hr.out).mono ?_
    rintro e w2 ⟨v2, rfl, hv2, hb2⟩
    have Hv2 := Lib.hid hv2
    have Hb2 := Lib.hid hb2; clear hv2 hb2
    go_wp2_with fail
    go_ret2
    have h := Hb2.out
    have h2 : Below (w1.alloc (.cells #[.int .u8 (b0 : Int), .int .u8 (b1 : Int), .int .u8 (b2 : Int), .int .u8 (b3 : Int), .int .u8 (b4 : Int), .int .u8 (b5 : Int), .int .u8 (b6 : Int), .int .u8 (b7 : Int)] 45)).heap.size (w1.alloc (.cells #[.int .u8 (b0 : Int), .int .u8 (b1 : Int), .int .u8 (b2 : Int), .int .u8 (b3 : Int), .int .u8 (b4 : Int), .int .u8 (b5 : Int), .int .u8 (b6 : Int), .int .u8 (b7 : Int)] 45)) w2 := ⟨h.os, h.tape, h.output, h.size, h.block⟩
    exact ⟨v2, rfl, own_base Hv2.out Hs1.out.size, Hs1.out.trans (h2.mono Hs1.out.size)⟩
  | false =>
    go_quiet ((go_at_call 24; exact Calls.quiet_of_same (equal_any _ _ t _ _ _ Ht2.out Hq.out Hbt.out Hqb.out false Heq.out)))
    go_wp2
    go_ret2
    have h := Hs1.out
    exact ⟨_, rfl, World.ownsRow_nil _ _ _ _, ⟨h.os, h.tape, h.output, h.size, h.block⟩⟩
end Go.Proofs.Ytkjconhhandhlab
