/- The contracts of Parse, the program's and the reference's. -/
import Derived.Test.YtkjconhhandhlabSumDig
namespace Go.Proofs.Ytkjconhhandhlab
open Go.RowKit

def okd (c : Nat) : Prop := (48 ≤ c ∧ c ≤ 57) ∨ (97 ≤ c ∧ c ≤ 102)
instance (c : Nat) : Decidable (okd c) := by unfold okd; infer_instance
def dv (c : Nat) : Nat := if c ≤ 57 then c - 48 else c - 87
def val (l : List Nat) : Nat := l.foldl (fun h c => h * 16 + dv c) 0
def Good (l : List Nat) : Prop := l.length = 16 ∧ ∀ c ∈ l, okd c
instance (l : List Nat) : Decidable (Good l) := by unfold Good; infer_instance
def pres (l : List Nat) : Nat × Nat := if Good l then (val l, 0) else (0, 3)
def bytesOf (s : ByteArray) : List Nat := s.data.toList.map UInt8.toNat
theorem bytesOf_len (s : ByteArray) : (bytesOf s).length = s.size := by rw [bytesOf, List.length_map, Array.length_toList]; rfl
theorem bytesOf_byt (s : ByteArray) : Byt (bytesOf s) := by
  intro c hc
  obtain ⟨x, _, rfl⟩ := List.mem_map.1 hc
  exact x.toNat_lt
theorem strOf_bytesOf (s : ByteArray) : strOf (bytesOf s) = s := by
  apply ByteArray.ext
  apply Array.toList_inj.1
  simp [strOf, bytesOf, Function.comp_def]
theorem bytesOf_strOf (l : List Nat) (h : Byt l) : bytesOf (strOf l) = l := by
  simp only [strOf, bytesOf, List.map_map]
  conv => rhs; rw [← List.map_id l]
  apply List.map_congr_left
  intro a ha
  have := h a ha
  simp [Nat.mod_eq_of_lt this]
theorem bytesOf_at (s : ByteArray) (k : Nat) (h : k < s.size) : (bytesOf s)[k]'(by rw [bytesOf_len]; exact h) = s[k].toNat := by
  simp [bytesOf]; rfl

theorem dv_lt {c : Nat} (h : okd c) : dv c < 16 := by unfold okd at h; unfold dv; split <;> omega
theorem hx_dv {c : Nat} (h : okd c) : hx (dv c) = c := by unfold okd at h; unfold dv hx; split <;> split <;> omega
theorem okd_hx {d : Nat} (h : d < 16) : okd (hx d) := by unfold okd hx; split <;> omega
theorem dv_hx {d : Nat} (h : d < 16) : dv (hx d) = d := by unfold dv hx; split <;> split <;> omega
theorem val_acc (l : List Nat) : ∀ a, l.foldl (fun h c => h * 16 + dv c) a = a * 16 ^ l.length + val l := by
  induction l with
  | nil => intro a; simp [val]
  | cons c l ih =>
    intro a
    have e : val (c :: l) = (0 * 16 + dv c) * 16 ^ l.length + val l := by rw [val, List.foldl_cons]; exact ih _
    rw [List.foldl_cons, ih, e, List.length_cons, Nat.pow_succ, Nat.add_mul, Nat.mul_assoc, Nat.mul_comm 16 (16 ^ l.length), Nat.zero_mul, Nat.zero_add]
    omega
theorem val_cons (c : Nat) (l : List Nat) : val (c :: l) = dv c * 16 ^ l.length + val l := by
  rw [val, List.foldl_cons, val_acc]; simp
theorem val_snoc (l : List Nat) (c : Nat) : val (l ++ [c]) = val l * 16 + dv c := by simp [val]
theorem val_lt (l : List Nat) (h : ∀ c ∈ l, okd c) : val l < 16 ^ l.length := by
  induction l with
  | nil => simp [val]
  | cons c l ih =>
    have h1 := ih fun x hx => h x (by simp [hx])
    have h2 := dv_lt (h c (by simp))
    rw [val_cons, List.length_cons, Nat.pow_succ]
    have : (dv c + 1) * 16 ^ l.length ≤ 16 * 16 ^ l.length := Nat.mul_le_mul_right _ (by omega)
    rw [Nat.add_mul] at this
    omega
theorem digs_val (l : List Nat) (h : ∀ c ∈ l, okd c) : ∀ a, digs l.length (a * 16 ^ l.length + val l) = l := by
  induction l with
  | nil => intro a; rfl
  | cons c l ih =>
    intro a
    have hl := val_lt l fun x hx => h x (by simp [hx])
    have hd := dv_lt (h c (by simp))
    have e : a * 16 ^ (c :: l).length + val (c :: l) = (a * 16 + dv c) * 16 ^ l.length + val l := by
      rw [val_cons, List.length_cons, Nat.pow_succ, Nat.add_mul, Nat.mul_assoc, Nat.mul_comm 16 (16 ^ l.length)]; omega
    rw [e]
    show hx (((a * 16 + dv c) * 16 ^ l.length + val l) / 16 ^ l.length % 16) :: digs l.length _ = _
    rw [ih fun x hx => h x (by simp [hx])]
    congr 1
    have hp : 0 < 16 ^ l.length := Nat.pow_pos (by decide)
    have e2 : ((a * 16 + dv c) * 16 ^ l.length + val l) / 16 ^ l.length = a * 16 + dv c := by
      rw [Nat.mul_comm, Nat.mul_add_div hp, Nat.div_eq_of_lt hl, Nat.add_zero]
    rw [e2, show (a * 16 + dv c) % 16 = dv c by omega]
    exact hx_dv (h c (by simp))
theorem val_digs (k h : Nat) : val (digs k h) = h % 16 ^ k := by
  induction k with
  | zero => simp [digs, val]; omega
  | succ k ih =>
    rw [digs, val_cons, digs_len, ih, dv_hx (Nat.mod_lt _ (by decide)), Nat.pow_succ, Nat.mod_mul, Nat.mul_comm]
    omega
theorem digs_ok (k h : Nat) : ∀ c ∈ digs k h, okd c := by
  induction k with
  | zero => intro c hc; simp [digs] at hc
  | succ k ih =>
    intro c hc
    simp only [digs, List.mem_cons] at hc
    rcases hc with rfl | hc
    · exact okd_hx (Nat.mod_lt _ (by decide))
    · exact ih c hc
/-- Parse returns every hash from its digits .. -/
theorem pres_digs (h : Nat) (hh : h < 18446744073709551616) : pres (digs 16 h) = (h, 0) := by
  have hg : Good (digs 16 h) := ⟨digs_len _ _, digs_ok _ _⟩
  rw [pres, if_pos hg, val_digs, Nat.mod_eq_of_lt (by omega)]
/-- .. and accepts no other strings. -/
theorem digs_pres (l : List Nat) (h : (pres l).2 = 0) : digs 16 (pres l).1 = l := by
  unfold pres at *
  split at h
  · rename_i hg
    rw [if_pos hg]
    have := digs_val l hg.2 0
    rw [hg.1] at this
    simpa using this
  · simp at h
theorem pres_lt (l : List Nat) : (pres l).1 < 18446744073709551616 := by
  unfold pres
  split
  · rename_i hg
    have := val_lt l hg.2
    rw [hg.1] at this
    exact Nat.lt_of_lt_of_le this (by decide)
  · simp
theorem pres_err (l : List Nat) : (pres l).2 = 0 ∨ (pres l).2 = 3 := by unfold pres; split <;> simp

theorem digit_ok (c : Nat) (w : World) (hc : c < 256) (h : okd c) : Calls Try.prog 27 #[.int .u8 (c : Int)] w fun e w' => e = .returned (.tuple #[.int .u64 (dv c : Nat), .bool true]) ∧ w = w' := by
  rcases h with ⟨h1, h2⟩ | ⟨h1, h2⟩
  · go_enter Try.func27, Try.ntmps27
    go_wp2
    go_ret2
    refine ⟨?_, rfl⟩
    have e : (c : Int) - 48 = ((dv c : Nat) : Int) := by unfold dv; split <;> omega
    rw [e]; rfl
  · go_enter Try.func27, Try.ntmps27
    go_wp2
    go_ret2
    refine ⟨?_, rfl⟩
    have e : (c : Int) - 97 + 10 = ((dv c : Nat) : Int) := by unfold dv; split <;> omega
    rw [e]; rfl
theorem digit_no (c : Nat) (w : World) (hc : c < 256) (h : ¬ okd c) : Calls Try.prog 27 #[.int .u8 (c : Int)] w fun e w' => e = .returned (.tuple #[.int .u64 0, .bool false]) ∧ w = w' := by
  have h3 : c < 48 ∨ (57 < c ∧ c < 97) ∨ 102 < c := by unfold okd at h; omega
  clear h
  rcases h3 with h1 | ⟨h1, h2⟩ | h1
  all_goals
    go_enter Try.func27, Try.ntmps27
    go_wp2
    go_ret2
    exact ⟨rfl, rfl⟩

def ParsePost (w : World) (l : List Nat) (e : Ending) (w' : World) : Prop := ∃ a b : Nat, e = .returned (.tuple #[.int .u64 (a : Int), .int .i64 (b : Int)]) ∧ pres l = (a, b) ∧ w = w'
theorem val_take (l : List Nat) (k : Nat) (hk : k < l.length) : val (l.take (k + 1)) = val (l.take k) * 16 + dv l[k] := by
  rw [List.take_succ_eq_append_getElem hk, val_snoc]
theorem or4 (q d : Nat) (hq : q < 1152921504606846976) (hd : d < 16) : bits .or .u64 ((q : Int) * 16) (d : Int) = ((q * 16 + d : Nat) : Int) := by
  have e : (q : Int) * 16 = ((q * 16 : Nat) : Int) := by omega
  rw [e, u64_or_nat _ _ (by omega) (by omega)]
  congr 1
  rw [show q * 16 = 2 ^ 4 * q by omega, Nat.two_pow_add_eq_or_of_lt (by omega)]
def ParRel (l : List Nat) (h i : Value) : Prop := ∃ k : Nat, k ≤ 16 ∧ i = .int .i64 k ∧ h = .int .u64 (val (l.take k) : Nat) ∧ ∀ c ∈ l.take k, okd c

set_option maxHeartbeats 400000 in
theorem parse_any (s : ByteArray) (w : World) (_hs : s.size ≤ 140737488351232) : Calls Try.prog 19 #[.string s] w (ParsePost w (bytesOf s)) := by
  have hlen := bytesOf_len s
  by_cases h16 : s.size = 16
  · have t1 : (decide ((s.size : Int) ≠ 16)) = false := by simp; omega
    have Hl := Lib.hid hlen; clear hlen
    go_enter Try.func19, Try.ntmps19
    go_wp2
    go_loop [4, 13] (fun h i => ParRel (bytesOf s) h i) (fun _ i => 16 - (intOf i).toNat)
    case atStart => exact ⟨0, by omega, rfl, rfl, by simp⟩
    case round =>
      obtain ⟨k, hk, rfl, rfl, hg⟩ := hrel
      have Hg := Lib.hid hg; clear hg
      have H16 := Lib.hid h16; clear h16 t1
      by_cases hlt : k < 16
      · have hks : k < s.size := by have := H16.out; omega
        have hkl : k < (bytesOf s).length := by have := H16.out; have := Hl.out; omega
        have hq : val ((bytesOf s).take k) < 1152921504606846976 := by
          refine Nat.lt_of_lt_of_le (val_lt _ Hg.out) ?_
          refine Nat.le_trans (Nat.pow_le_pow_right (by decide) (show ((bytesOf s).take k).length ≤ 15 by simp; omega)) (by decide)
        obtain ⟨q, hqe⟩ : ∃ q, q = val ((bytesOf s).take k) := ⟨_, rfl⟩
        rw [← hqe] at hq ⊢
        have Hq := Lib.hid hqe; clear hqe
        have hb : s[k].toNat < 256 := s[k].toNat_lt
        by_cases hd : okd s[k].toNat
        · have hdl := dv_lt hd
          have ho := or4 q _ hq hdl
          have Hd := Lib.hid hd; clear hd
          go_wp2_with (go_at_call 27; refine (digit_ok _ _ hb Hd.out).mono ?_; rintro e w' ⟨rfl, rfl⟩)
          go_round
          case rel =>
            refine ⟨k + 1, by omega, by go_num, ?_, ?_⟩
            · rw [val_take _ _ hkl, ← Hq.out, bytesOf_at s k hks]; rfl
            · intro c hc
              rw [List.take_succ_eq_append_getElem hkl, List.mem_append, List.mem_singleton] at hc
              rcases hc with hc | rfl
              · exact Hg.out c hc
              · rw [bytesOf_at s k hks]; exact Hd.out
          case measure => simp [intOf]; omega
        · have Hd := Lib.hid hd; clear hd
          go_wp2_with (go_at_call 27; refine (digit_no _ _ hb Hd.out).mono ?_; rintro e w' ⟨rfl, rfl⟩)
          go_ret2
          refine ⟨0, 3, rfl, ?_, rfl⟩
          rw [pres, if_neg]
          rintro ⟨_, hall⟩
          have := hall _ (List.getElem_mem hkl)
          rw [bytesOf_at s k hks] at this
          exact Hd.out this
      · obtain rfl : k = 16 := by omega
        have hg : Good (bytesOf s) := by
          have h1 : (bytesOf s).length = 16 := Hl.out.trans H16.out
          exact ⟨h1, by have := Hg.out; rwa [List.take_of_length_le (by omega)] at this⟩
        have HG := Lib.hid hg; clear hg
        go_wp2
        go_ret2
        refine ⟨_, 0, rfl, ?_, rfl⟩
        rw [pres, if_pos HG.out, List.take_of_length_le (by have := HG.out.1; omega)]
  · have hp : pres (bytesOf s) = (0, 3) := by unfold pres; rw [if_neg (by unfold Good; omega)]
    have Hp := Lib.hid hp; clear hp hlen
    go_enter Try.func19, Try.ntmps19
    go_wp2
    go_ret2
    exact ⟨0, 3, rfl, Hp.out, rfl⟩
end Go.Proofs.Ytkjconhhandhlab
