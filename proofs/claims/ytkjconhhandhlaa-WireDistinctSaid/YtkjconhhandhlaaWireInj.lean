/- Different values have different encodings: each encoding says where it ends. -/
import Derived.Test.YtkjconhhandhlaaWireSameV
namespace Go.Proofs.Ytkjconhhandhlaa
open Go.RowKit

theorem encF_pre (f : Nat) : ∀ (u v : Nat) (x y : List Nat), u < 128 ^ (f + 1) → v < 128 ^ (f + 1) → encF f u ++ x = encF f v ++ y → u = v ∧ x = y := by
  induction f with
  | zero => intro u v x y _ _ h; simpa [encF] using h
  | succ f ih =>
    intro u v x y hu hv h
    by_cases h1 : u < 128
    · by_cases h2 : v < 128
      · rw [encF_small h1, encF_small h2] at h; simpa using h
      · rw [encF_small h1, encF_big (by omega)] at h
        simp only [List.cons_append, List.nil_append, List.cons.injEq] at h
        omega
    · by_cases h2 : v < 128
      · rw [encF_small h2, encF_big (by omega)] at h
        simp only [List.cons_append, List.nil_append, List.cons.injEq] at h
        omega
      · rw [encF_big (by omega), encF_big (by omega)] at h
        simp only [List.cons_append, List.cons.injEq] at h
        have hp : 128 ^ (f + 1 + 1) = 128 ^ (f + 1) * 128 := Nat.pow_succ _ _
        obtain ⟨h3, h4⟩ := ih (u / 128) (v / 128) x y (Nat.div_lt_of_lt_mul (by rw [Nat.mul_comm, ← hp]; exact hu)) (Nat.div_lt_of_lt_mul (by rw [Nat.mul_comm, ← hp]; exact hv)) h.2
        exact ⟨by omega, h4⟩
theorem zig_inj {a b : Int} (h : zig a = zig b) : a = b := by
  unfold zig at h
  split at h <;> split at h <;> omega
theorem enc_pre {a b : Int} (ha : I64 a) (hb : I64 b) {x y : List Nat} (h : enc a ++ x = enc b ++ y) : a = b ∧ x = y := by
  obtain ⟨h1, h2⟩ := encF_pre 9 _ _ _ _ (Nat.lt_trans (zig_lt a ha.1 ha.2) (by decide)) (Nat.lt_trans (zig_lt b hb.1 hb.2) (by decide)) h
  exact ⟨zig_inj h1, h2⟩
theorem enc_inj {a b : Int} (ha : I64 a) (hb : I64 b) : enc a = enc b ↔ a = b := by
  constructor
  · intro h
    exact (enc_pre (x := []) (y := []) ha hb (by rw [h])).1
  · intro h; rw [h]
theorem bytesOf_inj {s t : ByteArray} (h : bytesOf s = bytesOf t) : s = t := by
  have h2 := congrArg (List.map UInt8.ofNat) h
  simp only [bytesOf, List.map_map] at h2
  have e : ∀ l : List UInt8, l.map (UInt8.ofNat ∘ UInt8.toNat) = l := by intro l; simp [Function.comp_def]
  rw [e, e] at h2
  exact ByteArray.ext (Array.toList_inj.1 h2)
theorem encS_pre {s t : ByteArray} (hs : s.size ≤ 9223372036854775807) (ht : t.size ≤ 9223372036854775807) {x y : List Nat} (h : encS s ++ x = encS t ++ y) : s = t ∧ x = y := by
  unfold encS at h
  rw [List.append_assoc, List.append_assoc] at h
  obtain ⟨h1, h2⟩ := enc_pre (by unfold I64; omega) (by unfold I64; omega) h
  have h3 : (bytesOf s).length = (bytesOf t).length := by rw [bytesOf_len, bytesOf_len]; omega
  obtain ⟨h4, h5⟩ := List.append_inj h2 h3
  exact ⟨bytesOf_inj h4, h5⟩
theorem encS_inj {s t : ByteArray} (hs : s.size ≤ 9223372036854775807) (ht : t.size ≤ 9223372036854775807) : encS s = encS t ↔ s = t := by
  constructor
  · intro h
    exact (encS_pre (x := []) (y := []) hs ht (by rw [h])).1
  · intro h; rw [h]
theorem prop_cases {x : Vl} (h : propB x = true) : (x.1 = 1 ∧ x.2.2.size = 0) ∨ (x.1 = 2 ∧ x.2.1 = 0) := by
  simpa [propB] using h
theorem size_nil {s t : ByteArray} (h : s.size = 0) (h2 : t.size = 0) : s = t := by
  apply bytesOf_inj
  rw [List.eq_nil_of_length_eq_zero (l := bytesOf s) (by rw [bytesOf_len]; exact h), List.eq_nil_of_length_eq_zero (l := bytesOf t) (by rw [bytesOf_len]; exact h2)]
theorem encVl_pre {x y : Vl} (ox : VlOk x) (oy : VlOk y) (px : propB x = true) (py : propB y = true) {a b : List Nat} (h : encVl x ++ a = encVl y ++ b) : x = y ∧ a = b := by
  obtain ⟨k, n, s⟩ := x
  obtain ⟨k2, n2, s2⟩ := y
  unfold encVl encV at h
  simp only [List.append_assoc] at h
  obtain ⟨h1, h2⟩ := enc_pre ox.1 oy.1 h
  subst h1
  rcases prop_cases px with ⟨e1, e2⟩ | ⟨e1, e2⟩ <;> rcases prop_cases py with ⟨e3, e4⟩ | ⟨e3, e4⟩ <;> simp only at e1 e2 e3 e4
  · rw [if_pos e1, if_pos e1] at h2
    obtain ⟨h3, h4⟩ := enc_pre ox.2.1 oy.2.1 h2
    simp only at h3
    exact ⟨by rw [h3, size_nil e2 e4], h4⟩
  · omega
  · omega
  · rw [if_neg (by omega), if_pos e1, if_neg (by omega), if_pos e1] at h2
    obtain ⟨h3, h4⟩ := encS_pre ox.2.2 oy.2.2 h2
    simp only at h3
    exact ⟨by rw [e2, e4, h3], h4⟩
theorem flat_pre : ∀ (l m : List Vl), l.length = m.length → (∀ x ∈ l, VlOk x ∧ propB x = true) → (∀ x ∈ m, VlOk x ∧ propB x = true) → l.flatMap encVl = m.flatMap encVl → l = m
  | [], [], _, _, _, _ => rfl
  | [], _ :: _, h, _, _, _ => by simp at h
  | _ :: _, [], h, _, _, _ => by simp at h
  | x :: l, y :: m, hn, hl, hm, h => by
    rw [List.flatMap_cons, List.flatMap_cons] at h
    obtain ⟨h1, h2⟩ := encVl_pre (hl x (by simp)).1 (hm y (by simp)).1 (hl x (by simp)).2 (hm y (by simp)).2 h
    rw [h1, flat_pre l m (by simpa using hn) (fun z hz => hl z (by simp [hz])) (fun z hz => hm z (by simp [hz])) h2]
theorem encVs_inj {l m : List Vl} (hl : l.length ≤ 9223372036854775807) (hm : m.length ≤ 9223372036854775807) (h1 : ∀ x ∈ l, VlOk x ∧ propB x = true) (h2 : ∀ x ∈ m, VlOk x ∧ propB x = true) : encVs l = encVs m ↔ l = m := by
  constructor
  · intro h
    obtain ⟨e1, e2⟩ := enc_pre (by unfold I64; omega) (by unfold I64; omega) h
    exact flat_pre l m (by omega) h1 h2 e2
  · intro h; rw [h]
end Go.Proofs.Ytkjconhhandhlaa
