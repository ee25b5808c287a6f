/- The contracts of wire.Event onto nil and of the reference's SameEvent. -/
import Derived.Test.YtlimaefgifgegaaWireNilE
import Derived.Test.YtlimaefgifgegaaWireEvW
import Derived.Test.YtlimaefgifgegaaWireRt
namespace Go.Proofs.Ytlimaefgifgegaa
open Go.RowKit

theorem encB_len (b : Bool) : (encB b).length = 1 := by cases b <;> rfl
set_option maxHeartbeats 2000000 in
theorem event_nil_any (x0 : Int) (x1 : Bool) (x2 x3 : Int) (A : Option Addr) (c : Nat) (l : List Vl) (w : World) (h0 : I64 x0) (h2 : I64 x2) (h3 : I64 x3) (hx : Vals w (.slice A l.length c) l) (hl : l.length ≤ 40) (hs : ∀ x ∈ l, x.2.2.size ≤ 200) (hok : ∀ x ∈ l, VlOk x) :
    Calls Try.prog 26 #[.slice none 0 0, .agg #[.int .i64 x0, .bool x1, .int .i64 x2, .int .i64 x3, .slice A l.length c]] w fun e w' => ∃ v, e = .returned v ∧ Below w.heap.size w w' ∧ Bsl w' v (encEv (x0, x1, x2, x3, l)) := by
  have Hx := Lib.hid hx; have Hs := Lib.hid hs; have Hok := Lib.hid hok
  have Hl0 := Lib.hid (enc_len x0); have Hl1 := Lib.hid (encB_len x1); have Hl2 := Lib.hid (enc_len x2); have Hl3 := Lib.hid (enc_len x3)
  have HA := Lib.hid (Frm.alloc_ w (.cells #[.int .i64 x0, .bool x1, .int .i64 x2, .int .i64 x3, .slice A l.length c] 45) : Frm 5 w.heap.size w (w.alloc (.cells #[.int .i64 x0, .bool x1, .int .i64 x2, .int .i64 x3, .slice A l.length c] 45)))
  have hblk : (w.alloc (.cells #[.int .i64 x0, .bool x1, .int .i64 x2, .int .i64 x3, .slice A l.length c] 45)).heap[w.heap.size]? = some (.cells #[.int .i64 x0, .bool x1, .int .i64 x2, .int .i64 x3, .slice A l.length c] 45 (0, 0)) := heap_alloc_new w _
  clear hx hs hok
  go_enter Try.func26, Try.ntmps26
  go_wp2_with fail
  refine (int_own x0 _ _ w.heap.size 0 [] (by simp) (World.ownsRow_nil _ _ _ _) h0 (by unfold Room; decide)).mono ?_
  rintro e w1 ⟨v1, rfl, hown1, hb1⟩
  have k1 := hb1.keeps hblk (by decide)
  have c1 := cell_of_row w1 w.heap.size 1 _ _ _ k1
  have H1 := Lib.hid hown1; have F1 := Lib.hid (HA.out.trans hb1); clear hown1 hb1
  go_wp2_with fail
  refine (bool_own x1 _ v1 w.heap.size _ _ F1.out.size H1.out (by have := Hl0.out; unfold Room; omega)).mono ?_
  rintro e w2 ⟨v2, rfl, hown2, hb2⟩
  have k2 := hb2.keeps k1 (by decide)
  have c2 := cell_of_row w2 w.heap.size 2 _ _ _ k2
  have H2 := Lib.hid hown2; have F2 := Lib.hid (F1.out.trans hb2); clear hown2 hb2 c1
  go_wp2_with fail
  refine (int_own x2 _ v2 w.heap.size _ _ F2.out.size H2.out h2 (by have := Hl0.out; have := Hl1.out; unfold Room; omega)).mono ?_
  rintro e w3 ⟨v3, rfl, hown3, hb3⟩
  have k3 := hb3.keeps k2 (by decide)
  have c3 := cell_of_row w3 w.heap.size 3 _ _ _ k3
  have H3 := Lib.hid hown3; have F3 := Lib.hid (F2.out.trans hb3); clear hown3 hb3 c2
  go_wp2_with fail
  refine (int_own x3 _ v3 w.heap.size _ _ F3.out.size H3.out h3 (by have := Hl0.out; have := Hl1.out; have := Hl2.out; unfold Room; omega)).mono ?_
  rintro e w4 ⟨v4, rfl, hown4, hb4⟩
  have k4 := hb4.keeps k3 (by decide)
  have c4 := cell_of_row w4 w.heap.size 4 _ _ _ k4
  have H4 := Lib.hid hown4; have F4 := Lib.hid (F3.out.trans hb4); clear hown4 hb4 c3
  go_wp2_with fail
  refine (vals_own A c l _ v4 w.heap.size _ _ F4.out.size H4.out (by have := Hl0.out; have := Hl1.out; have := Hl2.out; have := Hl3.out; omega) (by omega) Hs.out Hok.out (fun _ hf => Hx.out.below ((F4.out.trans hf).below (Nat.le_refl _)))).mono ?_
  rintro e w5 ⟨v5, rfl, hown5, hb5⟩
  have H5 := Lib.hid hown5; have F5 := Lib.hid (F4.out.trans hb5); clear hown5 hb5 c4
  go_wp2
  go_ret
  have h5 : w5.ownsRow w.heap.size 5 1 v5 (encEv (x0, x1, x2, x3, l)).length ((encEv (x0, x1, x2, x3, l)).map bv) := by
    have := H5.out
    unfold encEv
    simpa [Nat.add_assoc] using this
  exact ⟨v5, rfl, F5.out.below (Nat.le_refl _), Bsl.of_own h5⟩

theorem below_ext2 {a b c : World} (h : Below a.heap.size a b) (k : Below b.heap.size b c) : Below a.heap.size a c := h.trans (k.mono h.size)
theorem samevals_nil (A : Option Addr) (c : Nat) (w : World) :
    Calls Try.prog 48 #[.slice A 0 c, .slice none 0 0] w fun e w' => e = .returned (.bool true) ∧ Below w.heap.size w w' := by
  go_enter Try.func48, Try.ntmps48
  go_wp2
  go_loopw [5] (fun i wr => i = .int .i64 0 ∧ Below w.heap.size w wr) (fun i _ => 0)
  case atStart => exact ⟨rfl, Below.refl _ _⟩
  case round =>
    obtain ⟨rfl, hbel⟩ := hrel
    have Hbel := Lib.hid hbel; clear hbel
    go_wp2
    go_ret
    exact ⟨rfl, Hbel.out⟩
theorem sameev_nil (A : Option Addr) (c : Nat) (w : World) :
    Calls Try.prog 30 #[.agg #[.int .i64 0, .bool false, .int .i64 0, .int .i64 0, .slice A 0 c], .agg #[.int .i64 0, .bool false, .int .i64 0, .int .i64 0, .slice none 0 0]] w fun e w' => e = .returned (.bool true) ∧ Below w.heap.size w w' := by
  go_enter Try.func30, Try.ntmps30
  go_wp2_with fail
  refine (samevals_nil A c _).mono ?_
  rintro e w1 ⟨rfl, hb1⟩
  have Hb := Lib.hid (show Below w.heap.size w w1 from (((Below.refl _ w).alloc (Nat.le_refl _) _).alloc (by simp) _).trans (hb1.mono (by simp; omega))); clear hb1
  go_wp2
  go_ret
  exact ⟨rfl, Hb.out⟩
end Go.Proofs.Ytlimaefgifgegaa
