/- The contract of wire.Ints onto a row of the call's own and onto nil; what a reader has made, as a plain view; what was read is well formed. -/
import Derived.Test.YtlimaefgifgegaaWireCan
namespace Go.Proofs.Ytlimaefgifgegaa
open Go.RowKit

def Nsl (w : World) (v : Value) (l : List Int) : Prop :=
  (v = .slice none 0 0 ∧ l = []) ∨ ∃ ad c, v = .slice (some ad) l.length c ∧ l.length ≤ c ∧ ∀ j x, l[j]? = some x → w.cell? (ad.add j) = some (iv x)
theorem Nsl.below {w w' : World} {v : Value} {l : List Int} (h : Nsl w v l) (hb : Below w.heap.size w w') : Nsl w' v l := by
  rcases h with h | ⟨ad, c, hv, hc, hcell⟩
  · exact .inl h
  · refine .inr ⟨ad, c, hv, hc, fun j b hj => ?_⟩
    have h1 := hcell j b hj
    rw [hb.cell (World.block_lt_of_cell? _ _ h1), h1]
theorem Nsl.of_row {w : World} {B : Nat} {v : Value} {l : List Int} (h : IRow B w v l) : Nsl w v l := by
  have hcl := @World.ownsRow.cells _ _ _ _ _ _ _ h
  rcases h.2 with ⟨rfl, h0⟩ | ⟨g, cap, cur, rfl, _, _, hn, _⟩
  · exact .inl ⟨rfl, List.eq_nil_of_length_eq_zero h0⟩
  · refine .inr ⟨⟨g, 0, none⟩, cap, rfl, hn, fun j b hj => ?_⟩
    exact hcl (g := g) rfl j (iv b) (by simp [hj])
theorem Nsl.shape {w : World} {v : Value} {l : List Int} (h : Nsl w v l) : ∃ A c, v = .slice A l.length c := by
  rcases h with ⟨rfl, rfl⟩ | ⟨ad, c, rfl, _⟩
  · exact ⟨none, 0, rfl⟩
  · exact ⟨some ad, c, rfl⟩
theorem flat3_get (l : List Vl) (j i : Nat) (hi : i < 3) (x : Vl) (hj : l[j]? = some x) : (flat3 l)[j * 3 + i]? = (cells3 x)[i]? := by
  induction l generalizing j with
  | nil => simp at hj
  | cons y l ih =>
    have e : flat3 (y :: l) = cells3 y ++ flat3 l := by simp [flat3]
    rw [e]
    cases j with
    | zero =>
      simp only [List.getElem?_cons_zero, Option.some.injEq] at hj
      subst hj
      rw [Nat.zero_mul, Nat.zero_add, List.getElem?_append_left (by simp [cells3]; omega)]
    | succ j =>
      rw [List.getElem?_append_right (by simp [cells3]; omega), ← ih j (by simpa using hj)]
      congr 1
      simp [cells3]; omega
theorem Vals.of_row {w : World} {B : Nat} {v : Value} {l : List Vl} (h : VRow B w v l) : Vals w v l := by
  have hcl := @World.ownsRow.cells _ _ _ _ _ _ _ h
  rcases h.2 with ⟨rfl, h0⟩ | ⟨g, cap, cur, rfl, _, _, hn, _⟩
  · exact .inl ⟨rfl, List.eq_nil_of_length_eq_zero h0⟩
  · refine .inr ⟨⟨g, 0, none⟩, cap, rfl, hn, fun j b hj => ?_⟩
    have ea : ∀ m, (⟨g, 0, none⟩ : Addr).add m = ⟨g, m, none⟩ := fun m => by unfold Addr.add; split <;> simp_all
    have q : ∀ i, i < 3 → ∀ u, (cells3 b)[i]? = some u → w.cell? ⟨g, j * 3 + i, none⟩ = some u := fun i hi u hu => by
      have := hcl (g := g) rfl (j * 3 + i) u (by rw [flat3_get l j i hi b hj]; exact hu)
      rw [ea] at this
      exact this
    rw [ea]
    exact ⟨q 0 (by omega) _ rfl, q 1 (by omega) _ rfl, q 2 (by omega) _ rfl⟩

theorem flati_len : ∀ (l : List Int), (l.flatMap enc).length ≤ l.length * 10
  | [] => by simp
  | x :: l => by
    have h1 := flati_len l
    have h2 := enc_len x
    rw [List.flatMap_cons, List.length_append, List.length_cons]
    omega
def IsRel (w : World) (B len : Nat) (xs : List Value) (l : List Int) (b i : Value) (wr : World) : Prop :=
  ∃ k : Nat, k ≤ l.length ∧ i = .int .i64 k ∧ wr.ownsRow B 5 1 b (len + (enc l.length ++ (l.take k).flatMap enc).length) (xs ++ (enc l.length ++ (l.take k).flatMap enc).map bv) ∧ Frm 5 B w wr

set_option maxHeartbeats 1000000 in
theorem ints_list (A : Option Addr) (c : Nat) (l : List Int) (w : World) (v : Value) (B len : Nat) (xs : List Value) (hB : B ≤ w.heap.size) (hown : w.ownsRow B 5 1 v len xs) (hlen : len ≤ 20000)
    (hl : l.length ≤ 1000) (hok : ∀ x ∈ l, I64 x) (hkeep : ∀ w', Frm 5 B w w' → Nsl w' (.slice A l.length c) l) :
    Calls Try.prog 32 #[v, .slice A l.length c, .func (.func 10) #[] #[]] w (EncPost w B len xs (encIs l)) := by
  have Hown := Lib.hid hown; clear hown
  have Hok := Lib.hid hok; clear hok
  have Hkeep := Lib.hid hkeep; clear hkeep
  go_enter Try.func32, Try.ntmps32
  go_wp2_with fail
  refine (int_own l.length _ _ B len xs hB Hown.out (by unfold I64; omega) (by unfold Room; omega)).mono ?_
  rintro e w1 ⟨v1, rfl, hown1, hf1⟩
  have Hown1 := Lib.hid hown1
  have Hf1 := Lib.hid hf1; clear hown1 hf1
  go_wp2_with fail
  go_loopw [0, 15] (fun b i wr => IsRel w B len xs l b i wr) (fun _ i _ => l.length - (intOf i).toNat)
  case atStart => exact ⟨0, by omega, rfl, by simpa using Hown1.out, Hf1.out⟩
  case round =>
    obtain ⟨k, hk, rfl, hown, hf⟩ := hrel
    have Hwn := Lib.hid hown
    have Hf := Lib.hid hf; clear hown hf
    by_cases hlt : k < l.length
    · rcases Hkeep.out _ Hf.out with ⟨_, h0⟩ | ⟨ad, c', hv, hc, hcell⟩
      · rw [h0] at hlt; simp at hlt
      simp only [Value.slice.injEq] at hv
      obtain ⟨rfl, _, rfl⟩ := hv
      have h1 := hcell k _ (List.getElem?_eq_getElem hlt)
      have hxo := Hok.out _ (List.getElem_mem hlt)
      have htk : (l.take (k + 1)).flatMap enc = (l.take k).flatMap enc ++ enc l[k] := by
        rw [List.take_succ_eq_append_getElem hlt, List.flatMap_append]; simp
      obtain ⟨x, hx⟩ : ∃ x, x = l[k] := ⟨_, rfl⟩
      rw [← hx] at h1 hxo htk
      have Htk := Lib.hid htk
      have Hxo := Lib.hid hxo
      clear hx hcell htk hxo
      unfold iv at h1
      go_wp2_with fail
      have hfl := flati_len (l.take k)
      have hel := enc_len l.length
      have hBr : B ≤ wr.heap.size := Nat.le_trans hB Hf.out.size
      have hrm : len + (enc l.length ++ (l.take k).flatMap enc).length ≤ 35184372088832 := by
        rw [List.length_append]; rw [List.length_take] at hfl; omega
      have Hrm := Lib.hid hrm; clear hrm hfl hel
      refine (int_own x _ _ B _ _ hBr Hwn.out Hxo.out Hrm.out).mono ?_
      rintro e w3 ⟨v3, rfl, hown3, hf3⟩
      have Hown3 := Lib.hid hown3
      have Hf3 := Lib.hid (Hf.out.trans hf3); clear hown3 hf3
      go_wp2_with fail
      go_roundw
      case rel =>
        refine ⟨k + 1, by omega, by go_num, ?_, Hf3.out⟩
        have h := Hown3.out
        rw [Htk.out]
        simp only [List.length_append, List.map_append, List.append_assoc, Nat.add_assoc] at h ⊢
        exact h
      case measure => simp [intOf]; omega
    · go_wp2_with fail
      go_ret
      have h := Hwn.out
      rw [List.take_of_length_le (by omega)] at h
      exact ⟨_, rfl, h, Hf.out⟩
theorem ints_own (A : Option Addr) (c : Nat) (l : List Int) (w : World) (v : Value) (B len : Nat) (xs : List Value) (hB : B ≤ w.heap.size) (hown : w.ownsRow B 5 1 v len xs) (hlen : len ≤ 20000)
    (hl : l.length ≤ 1000) (hok : ∀ x ∈ l, I64 x) (hkeep : ∀ w', Frm 5 B w w' → Nsl w' (.slice A l.length c) l) :
    Calls Try.prog 8 #[v, .slice A l.length c] w (EncPost w B len xs (encIs l)) := by
  go_enter Try.func8, Try.ntmps8
  go_wp2_with fail
  refine (ints_list A c l _ _ B len xs hB hown hlen hl hok hkeep).mono ?_
  rintro e w1 ⟨v1, rfl, hown1, hf1⟩
  have Hown1 := Lib.hid hown1
  have Hf1 := Lib.hid hf1; clear hown1 hf1
  go_wp2_with fail
  go_ret
  exact ⟨v1, rfl, Hown1.out, Hf1.out⟩
theorem ints_nil_any (A : Option Addr) (c : Nat) (l : List Int) (w : World) (hx : Nsl w (.slice A l.length c) l) (hl : l.length ≤ 1000) (hok : ∀ x ∈ l, I64 x) :
    Calls Try.prog 8 #[.slice none 0 0, .slice A l.length c] w fun e w' => ∃ v, e = .returned v ∧ Below w.heap.size w w' ∧ Bsl w' v (encIs l) :=
  (ints_own A c l w _ w.heap.size 0 [] (Nat.le_refl _) (World.ownsRow_nil _ _ _ _) (by decide) hl hok (fun _ hf => hx.below (hf.below (Nat.le_refl _)))).mono fun _ _ h => enc_nil_post h

/-! What was read is well formed. -/
theorem ok_int {xs : List Nat} {k k' : Nat} {x : Int} (h : pInt xs k = some (x, k')) : I64 x := by
  have := pBnd_some h
  unfold I64; omega
theorem ok_list {α : Type} {p : List Nat → Nat → Option (α × Nat)} {G : α → Prop} (hp : ∀ xs k x k', p xs k = some (x, k') → G x) : ∀ m xs k l k', pList p m xs k = some (l, k') → l.length = m ∧ ∀ x ∈ l, G x
  | 0, xs, k, l, k', h => by
    simp only [pList, Option.some.injEq, Prod.mk.injEq] at h
    obtain ⟨rfl, rfl⟩ := h
    exact ⟨rfl, fun x hx => by cases hx⟩
  | m + 1, xs, k, l, k', h => by
    cases hx : p xs k with
    | none => rw [pList_none hx] at h; cases h
    | some o =>
      obtain ⟨a, k1⟩ := o
      rw [pList_some hx] at h
      cases hy : pList p m xs k1 with
      | none => rw [hy] at h; cases h
      | some o2 =>
        obtain ⟨l2, k2⟩ := o2
        obtain ⟨b1, b2⟩ := ok_list hp m xs k1 l2 k2 hy
        rw [hy] at h
        simp only [Option.map_some, Option.some.injEq, Prod.mk.injEq] at h
        obtain ⟨rfl, rfl⟩ := h
        refine ⟨by simp [b1], fun x hx' => ?_⟩
        rcases List.mem_cons.1 hx' with rfl | h2
        · exact hp _ _ _ _ hx
        · exact b2 x h2
theorem ok_text {mx : Int} {xs : List Nat} {k k' : Nat} {s : ByteArray} (h : pText mx xs k = some (s, k')) : (s.size : Int) ≤ mx := by
  unfold pText pPart at h
  cases hp : pBnd 0 mx xs k with
  | none => rw [hp] at h; cases h
  | some o =>
    obtain ⟨z, k1⟩ := o
    have hz := pBnd_some hp
    rw [hp] at h
    simp only at h
    by_cases hq : z.toNat ≤ xs.length - k1
    · rw [if_pos hq] at h
      simp only [Option.map_some, Option.some.injEq, Prod.mk.injEq] at h
      obtain ⟨rfl, rfl⟩ := h
      have : (tstr xs k1 z.toNat).size ≤ z.toNat := by
        unfold tstr strOf
        simp only [ByteArray.size, List.size_toArray, List.length_map, List.length_take]
        omega
      omega
    · rw [if_neg hq] at h; cases h
theorem ok_value {xs : List Nat} {k k' : Nat} {x : Vl} (h : pValue xs k = some (x, k')) : VlOk x ∧ x.2.2.size ≤ 200 := by
  have h0 : (strOf []).size = 0 := rfl
  unfold pValue at h
  cases hp : pInt xs k with
  | none => rw [hp] at h; cases h
  | some o =>
    obtain ⟨kd, k1⟩ := o
    rw [hp] at h
    simp only at h
    by_cases e1 : kd = 1
    · rw [if_pos e1] at h
      cases hy : pInt xs k1 with
      | none => rw [hy] at h; cases h
      | some o2 =>
        obtain ⟨m, k2⟩ := o2
        have hm := ok_int hy
        rw [hy] at h
        simp only [Option.map_some, Option.some.injEq, Prod.mk.injEq] at h
        obtain ⟨rfl, rfl⟩ := h
        exact ⟨⟨show I64 1 from ⟨by decide, by decide⟩, hm, by show (strOf []).size ≤ _; omega⟩, by show (strOf []).size ≤ _; omega⟩
    · rw [if_neg e1] at h
      by_cases e2 : kd = 2
      · rw [if_pos e2] at h
        cases hy : pText 40 xs k1 with
        | none => rw [hy] at h; cases h
        | some o2 =>
          obtain ⟨m, k2⟩ := o2
          have hm := ok_text hy
          rw [hy] at h
          simp only [Option.map_some, Option.some.injEq, Prod.mk.injEq] at h
          obtain ⟨rfl, rfl⟩ := h
          exact ⟨⟨show I64 2 from ⟨by decide, by decide⟩, show I64 0 from ⟨by decide, by decide⟩, by show m.size ≤ _; omega⟩, by show m.size ≤ _; omega⟩
      · rw [if_neg e2] at h; cases h
theorem ok_lst {mx : Int} {xs : List Nat} {k k' : Nat} {l : List Vl} (h : pLst mx xs k = some (l, k')) : (l.length : Int) ≤ mx ∧ (∀ x ∈ l, VlOk x) ∧ ∀ x ∈ l, x.2.2.size ≤ 200 := by
  unfold pLst at h
  cases hp : pBnd 0 mx xs k with
  | none => rw [hp] at h; cases h
  | some o =>
    obtain ⟨z, k1⟩ := o
    have hz := pBnd_some hp
    rw [hp] at h
    obtain ⟨a, b⟩ := ok_list (G := fun x : Vl => VlOk x ∧ x.2.2.size ≤ 200) (fun _ _ _ _ h => ok_value h) _ _ _ _ _ h
    exact ⟨by omega, fun x hx => (b x hx).1, fun x hx => (b x hx).2⟩
theorem ok_its {mx : Int} {xs : List Nat} {k k' : Nat} {l : List Int} (h : pIts mx xs k = some (l, k')) : (l.length : Int) ≤ mx ∧ ∀ x ∈ l, I64 x := by
  unfold pIts at h
  cases hp : pBnd 0 mx xs k with
  | none => rw [hp] at h; cases h
  | some o =>
    obtain ⟨z, k1⟩ := o
    have hz := pBnd_some hp
    rw [hp] at h
    obtain ⟨a, b⟩ := ok_list (G := I64) (fun _ _ _ _ h => ok_int h) _ _ _ _ _ h
    exact ⟨by omega, b⟩
theorem ok_event {xs : List Nat} {k k' : Nat} {x : Ev} (h : pEvent xs k = some (x, k')) : I64 x.1 ∧ I64 x.2.2.1 ∧ I64 x.2.2.2.1 ∧ x.2.2.2.2.length ≤ 40 ∧ (∀ v ∈ x.2.2.2.2, v.2.2.size ≤ 200) ∧ ∀ v ∈ x.2.2.2.2, VlOk v := by
  unfold pEvent at h
  cases h0 : pInt xs k with
  | none => rw [h0] at h; cases h
  | some o0 =>
    obtain ⟨x0, k1⟩ := o0
    rw [h0] at h
    simp only at h
    cases h1 : pBool xs k1 with
    | none => rw [h1] at h; cases h
    | some o1 =>
      obtain ⟨x1, k2⟩ := o1
      rw [h1] at h
      simp only at h
      cases h2 : pInt xs k2 with
      | none => rw [h2] at h; cases h
      | some o2 =>
        obtain ⟨x2, k3⟩ := o2
        rw [h2] at h
        simp only at h
        cases h3 : pInt xs k3 with
        | none => rw [h3] at h; cases h
        | some o3 =>
          obtain ⟨x3, k4⟩ := o3
          rw [h3] at h
          simp only at h
          cases h4 : pLst 4 xs k4 with
          | none => rw [h4] at h; cases h
          | some o4 =>
            obtain ⟨x4, k5⟩ := o4
            have q := ok_lst h4
            rw [h4] at h
            simp only [Option.map_some, Option.some.injEq, Prod.mk.injEq] at h
            obtain ⟨rfl, rfl⟩ := h
            exact ⟨ok_int h0, ok_int h2, ok_int h3, by show x4.length ≤ 40; omega, q.2.2, q.2.1⟩
theorem out_ok {α : Type} {z x : α} {k : Nat} {o : Option (α × Nat)} (h : (x, k, false) = out z false 0 o) : o = some (x, k) := by
  unfold out at h
  rw [if_neg (by decide)] at h
  cases o with
  | none => cases h
  | some p =>
    obtain ⟨a, b⟩ := p
    simp only [Prod.mk.injEq] at h
    obtain ⟨rfl, rfl, _⟩ := h
    rfl
end Go.Proofs.Ytlimaefgifgegaa
