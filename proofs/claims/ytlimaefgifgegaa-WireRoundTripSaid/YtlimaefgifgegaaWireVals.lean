/- The contract of wire.Values onto a row of the call's own. -/
import Derived.Test.YtlimaefgifgegaaVals
namespace Go.Proofs.Ytlimaefgifgegaa
open Go.RowKit

def encVl (x : Vl) : List Nat := encV x.1 x.2.1 x.2.2
def encVs (l : List Vl) : List Nat := enc l.length ++ l.flatMap encVl
theorem encVl_len {x : Vl} (h : x.2.2.size ≤ 200) : (encVl x).length ≤ 220 := by
  have h1 := enc_len x.1
  have h2 := enc_len x.2.1
  have h3 := enc_len x.2.2.size
  have h4 := bytesOf_len x.2.2
  unfold encVl encV encS
  rw [List.length_append]
  split
  · omega
  · split
    · rw [List.length_append]; omega
    · simp; omega
theorem flat_len : ∀ (l : List Vl), (∀ x ∈ l, x.2.2.size ≤ 200) → (l.flatMap encVl).length ≤ l.length * 220
  | [], _ => by simp
  | x :: l, h => by
    have h1 := flat_len l fun y hy => h y (by simp [hy])
    have h2 := encVl_len (h x (by simp))
    rw [List.flatMap_cons, List.length_append, List.length_cons]
    omega
def VsRel (w : World) (B len : Nat) (xs : List Value) (l : List Vl) (b i : Value) (wr : World) : Prop :=
  ∃ k : Nat, k ≤ l.length ∧ i = .int .i64 k ∧ wr.ownsRow B 5 1 b (len + (enc l.length ++ (l.take k).flatMap encVl).length) (xs ++ (enc l.length ++ (l.take k).flatMap encVl).map bv) ∧ Frm 5 B w wr

set_option maxHeartbeats 1000000 in
theorem vals_list (A : Option Addr) (c : Nat) (l : List Vl) (w : World) (v : Value) (B len : Nat) (xs : List Value) (hB : B ≤ w.heap.size) (hown : w.ownsRow B 5 1 v len xs) (hlen : len ≤ 20000)
    (hl : l.length ≤ 1000) (hs : ∀ x ∈ l, x.2.2.size ≤ 200) (hok : ∀ x ∈ l, VlOk x) (hkeep : ∀ w', Frm 5 B w w' → Vals w' (.slice A l.length c) l) :
    Calls Try.prog 47 #[v, .slice A l.length c, .func (.func 31) #[] #[]] w (EncPost w B len xs (encVs l)) := by
  have Hown := Lib.hid hown; clear hown
  have Hs := Lib.hid hs; clear hs
  have Hok := Lib.hid hok; clear hok
  have Hkeep := Lib.hid hkeep; clear hkeep
  go_enter Try.func47, Try.ntmps47
  go_wp2_with fail
  refine (int_own l.length _ _ B len xs hB Hown.out (by unfold I64; omega) (by unfold Room; omega)).mono ?_
  rintro e w1 ⟨v1, rfl, hown1, hf1⟩
  have Hown1 := Lib.hid hown1
  have Hf1 := Lib.hid hf1; clear hown1 hf1
  go_wp2_with fail
  go_loopw [0, 15] (fun b i wr => VsRel w B len xs l b i wr) (fun _ i _ => l.length - (intOf i).toNat)
  case atStart => exact ⟨0, by omega, rfl, by simpa using Hown1.out, Hf1.out⟩
  case round =>
    obtain ⟨k, hk, rfl, hown, hf⟩ := hrel
    have Hwn := Lib.hid hown
    have Hf := Lib.hid hf; clear hown hf
    by_cases hlt : k < l.length
    · rcases Hkeep.out _ Hf.out with ⟨_, h0⟩ | ⟨ad, c', hv, hc, hcell⟩
      · rw [h0] at hlt; simp at hlt
      simp only [Value.slice.injEq] at hv
      obtain ⟨rfl, _, rfl⟩ := hv
      obtain ⟨h1, h2, h3⟩ := hcell k _ (List.getElem?_eq_getElem hlt)
      have hxs := Hs.out _ (List.getElem_mem hlt)
      have hxo := Hok.out _ (List.getElem_mem hlt)
      have htk : (l.take (k + 1)).flatMap encVl = (l.take k).flatMap encVl ++ encVl l[k] := by
        rw [List.take_succ_eq_append_getElem hlt, List.flatMap_append]; simp
      obtain ⟨⟨x0, x1, x2⟩, hx⟩ : ∃ x, x = l[k] := ⟨_, rfl⟩
      rw [← hx] at h1 h2 h3 hxs hxo htk
      have Htk := Lib.hid htk
      have Hxo := Lib.hid hxo
      clear hx hcell htk hxo
      simp only at h1 h2 h3 hxs
      go_wp2_with fail
      have hfl := flat_len (l.take k) fun y hy => Hs.out y (List.mem_of_mem_take hy)
      have hel := enc_len l.length
      have hBr : B ≤ wr.heap.size := Nat.le_trans hB Hf.out.size
      have hrm : len + (enc l.length ++ (l.take k).flatMap encVl).length + 10 ≤ 35184372088832 := by
        rw [List.length_append]; rw [List.length_take] at hfl; omega
      have Hrm := Lib.hid hrm; clear hrm hfl hel
      refine (value_own x0 x1 x2 _ _ B _ _ (by simp; omega) (Hwn.out.alloc _) Hxo.out.1 Hxo.out.2.1 Hrm.out (by unfold Room; omega)).mono ?_
      rintro e w3 ⟨v3, rfl, hown3, hf3⟩
      have Hown3 := Lib.hid hown3
      have Hf3 := Lib.hid ((Hf.out.alloc _).trans hf3); clear hown3 hf3
      go_wp2_with fail
      go_roundw
      case rel =>
        refine ⟨k + 1, by omega, by go_num, ?_, Hf3.out⟩
        have h := Hown3.out
        rw [Htk.out]
        simp only [List.length_append, List.map_append, List.append_assoc, Nat.add_assoc] at h ⊢
        exact h
      case measure => simp [intOf]; omega
    · go_wp2_with fail
      go_ret
      have h := Hwn.out
      rw [List.take_of_length_le (by omega)] at h
      exact ⟨_, rfl, h, Hf.out⟩

theorem vals_own (A : Option Addr) (c : Nat) (l : List Vl) (w : World) (v : Value) (B len : Nat) (xs : List Value) (hB : B ≤ w.heap.size) (hown : w.ownsRow B 5 1 v len xs) (hlen : len ≤ 20000)
    (hl : l.length ≤ 1000) (hs : ∀ x ∈ l, x.2.2.size ≤ 200) (hok : ∀ x ∈ l, VlOk x) (hkeep : ∀ w', Frm 5 B w w' → Vals w' (.slice A l.length c) l) :
    Calls Try.prog 27 #[v, .slice A l.length c] w (EncPost w B len xs (encVs l)) := by
  go_enter Try.func27, Try.ntmps27
  go_wp2_with fail
  refine (vals_list A c l _ _ B len xs hB hown hlen hl hs hok hkeep).mono ?_
  rintro e w1 ⟨v1, rfl, hown1, hf1⟩
  have Hown1 := Lib.hid hown1
  have Hf1 := Lib.hid hf1; clear hown1 hf1
  go_wp2_with fail
  go_ret
  exact ⟨v1, rfl, Hown1.out, Hf1.out⟩
end Go.Proofs.Ytlimaefgifgegaa
