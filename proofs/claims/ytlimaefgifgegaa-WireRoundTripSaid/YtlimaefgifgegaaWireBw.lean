/- The contract of wire.Bytes onto a row of the call's own. -/
import Derived.Test.YtlimaefgifgegaaWireIns
namespace Go.Proofs.Ytlimaefgifgegaa
open Go.RowKit
theorem own_shapeA {w : World} {B e : Nat} {v : Value} {n : Nat} {xs : List Value} (h : w.ownsRow B e 1 v n xs) : ∃ A c, v = .slice A n c := by
  rcases h.2 with ⟨rfl, h0⟩ | ⟨g, cap, cur, rfl, _⟩
  · exact ⟨none, 0, by rw [h0]⟩
  · exact ⟨_, cap, rfl⟩
theorem enc_pos (n : Int) : 1 ≤ (enc n).length := by
  unfold enc
  first | exact encF_pos _ _ | (unfold encF; split <;> simp)
theorem own_below {w w' : World} {B e : Nat} {v : Value} {n : Nat} {xs : List Value} (h : w.ownsRow B e 1 v n xs) (hb : Below w.heap.size w w') : w'.ownsRow B e 1 v n xs := by
  refine h.kept (row := none) ⟨hb.os, hb.tape, hb.output, hb.size, fun k hk _ => hb.block k hk⟩ ?_
  cases e : v.ownBlock
  · exact .inl rfl
  · exact .inr (by simp)
set_option maxHeartbeats 1000000 in
theorem bytes_own (w : World) (v u : Value) (B len : Nat) (xs ys : List Nat) (hB : B ≤ w.heap.size) (hown : w.ownsRow B 5 1 v len (xs.map bv)) (hy : Bsl w u ys) (hl : len ≤ 50000) (hyl : ys.length ≤ 300) :
    Calls Try.prog 11 #[v, u] w (EncPost w B len (xs.map bv) (enc (ys.length : Int) ++ ys)) := by
  have hx : xs.length = len := by simpa using hown.1
  obtain ⟨A, c, rfl⟩ := own_shapeA hown
  have Ho := Lib.hid hown; have Hy := Lib.hid hy; have Hx := Lib.hid hx
  clear hown hy hx
  go_enter Try.func11, Try.ntmps11
  go_wp2_with (at_builtin; refine appB rfl _ _ 24 rfl info_u8 Try.underlying24 B _ _ _ rfl Ho.out _ ys rfl Hy.out (by unfold Room2; omega) hB ?_; intro v1 w1 hown1 hf1; obtain ⟨A1, c1, rfl⟩ := own_shapeA hown1; have HO1 := Lib.hid hown1; have HF1 := Lib.hid hf1; clear hown1 hf1)
  rw [show (↑len + ↑ys.length - ↑len : Int) = (ys.length : Int) by omega]
  have hle := enc_len (ys.length : Int)
  have hlp := enc_pos (ys.length : Int)
  refine (int_own (ys.length : Int) w1 (.slice none 0 0) w1.heap.size 0 [] (Nat.le_refl _) (World.ownsRow_nil _ _ _ _) (by unfold I64; omega) (by unfold Room; omega)).mono ?_
  rintro e w2 ⟨v2, rfl, hown2, hf2⟩
  rw [Nat.zero_add, List.nil_append] at hown2
  have hO12 := HO1.out
  rw [← List.map_append] at hO12
  have hb12 := hf2.below (Nat.le_refl _)
  have hown12 : w2.ownsRow B 5 1 (.slice A1 (len + ys.length) c1) (len + ys.length) ((xs ++ ys).map bv) := own_below hO12 hb12
  have hne : ∀ g, (Value.slice A1 (len + ys.length) c1).ownBlock = some g → v2.ownBlock ≠ some g := by
    intro g h1 h2
    have h3 := (hO12.lt g h1).2
    have h4 := (hown2.lt g h2).1
    omega
  have hB2 : B ≤ w2.heap.size := Nat.le_trans hB (HF1.out.trans (hf2.mono (Nat.le_trans hB HF1.out.size))).size
  have hF2 := Lib.hid (HF1.out.trans (hf2.mono (Nat.le_trans hB HF1.out.size)))
  have H12 := Lib.hid hown12; have H2 := Lib.hid hown2
  clear hown2 hO12 hown12 hf2 hb12 HO1
  go_wp2_with fail
  refine (ins8_any w2 B w1.heap.size _ _ (len + ys.length) (enc (ys.length : Int)).length len (xs ++ ys) (enc (ys.length : Int)) H12.out H2.out hne hlp (by omega) hB2 (by omega)).mono ?_
  rintro e w3 ⟨v3, rfl, hown3, hf3⟩
  have H3 := Lib.hid hown3
  have F3 := Lib.hid (hF2.out.trans hf3)
  clear hown3 hf3
  go_wp2
  go_ret
  refine ⟨v3, rfl, ?_, F3.out⟩
  have h := H3.out
  have e : ins8 (xs ++ ys) (enc (ys.length : Int)) len = xs ++ (enc (ys.length : Int) ++ ys) := by
    unfold ins8
    rw [List.take_left' Hx.out, List.drop_left' Hx.out, List.append_assoc]
  rw [e, List.map_append] at h
  rw [List.length_append]
  rw [show len + ((enc (ys.length : Int)).length + ys.length) = len + ys.length + (enc (ys.length : Int)).length by omega]
  exact h
end Go.Proofs.Ytlimaefgifgegaa
