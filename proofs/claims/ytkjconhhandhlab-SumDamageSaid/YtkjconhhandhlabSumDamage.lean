/- SumDamage: for every input the law returns true. -/
import Derived.Test.YtkjconhhandhlabSumAwake
import Derived.Test.YtkjconhhandhlabSumOpenC
import Derived.Test.YtkjconhhandhlabOpen
namespace Go.Proofs.Ytkjconhhandhlab
open Go.RowKit

theorem bts_eq {a b : Nat} (ha : a < 18446744073709551616) (hb : b < 18446744073709551616) (h : bts 8 a = bts 8 b) : a = b := by
  have := bts_inj 8 a b h
  rwa [Nat.mod_eq_of_lt (by omega), Nat.mod_eq_of_lt (by omega)] at this
theorem fbase_lt : fbase < 18446744073709551616 := by unfold fbase; decide
theorem damage (xs : List Nat) (hb : Byt xs) (k to_ : Nat) (hk : k < (sealed xs).length) (hto : to_ < 256) (hne : (sealed xs)[k] ≠ to_) :
    ¬ ((sealed xs).set k to_).drop xs.length = bts 8 (fnv fbase (((sealed xs).set k to_).take xs.length)) := by
  intro h
  by_cases hlt : k < xs.length
  · have e1 : (sealed xs).set k to_ = xs.set k to_ ++ bts 8 (fnv fbase xs) := by rw [sealed, List.set_append_left _ _ hlt]
    rw [e1, List.take_left' (by simp), List.drop_left' (by simp)] at h
    have := bts_eq (fnv_lt _ _ fbase_lt) (fnv_lt _ _ fbase_lt) h
    have h2 := (fnv_one fbase fbase_lt xs hb k to_ hlt hto).1 this.symm
    exact hne (by simp only [sealed]; rw [List.getElem_append_left hlt]; exact h2)
  · have e1 : (sealed xs).set k to_ = xs ++ (bts 8 (fnv fbase xs)).set (k - xs.length) to_ := by rw [sealed, List.set_append_right _ _ (by omega)]
    rw [e1, List.take_left' rfl, List.drop_left' rfl] at h
    have hk2 : k - xs.length < (bts 8 (fnv fbase xs)).length := by rw [bts_len]; rw [sealed_len] at hk; omega
    have h2 : ((bts 8 (fnv fbase xs)).set (k - xs.length) to_)[k - xs.length]'(by simpa using hk2) = (bts 8 (fnv fbase xs))[k - xs.length] := by simp only [h]
    rw [List.getElem_set_self] at h2
    exact hne (by simp only [sealed]; rw [List.getElem_append_right (by omega)]; exact h2.symm)

set_option maxHeartbeats 1000000 in
theorem sumdamage_walk (A : Option Addr) (c : Nat) (xs : List Nat) (at_ to_ : Nat) (w : World) (hx : Bsl w (.slice A xs.length c) xs) (hby : Byt xs) (hl : xs.length ≤ 140737488351232) (hat : at_ < 65536) (hto : to_ < 256) :
    Calls Try.prog 7 #[.slice A xs.length c, .int .u16 (at_ : Int), .int .u8 (to_ : Int)] w (Ok w) := by
  have Hby := Lib.hid hby; clear hby
  have Hx := Lib.hid hx; clear hx
  by_cases h600 : 600 < xs.length
  · go_enter Try.func7, Try.ntmps7
    go_wp2_with fail
    refine (awake_any _).mono ?_
    rintro e w1 ⟨rfl, hb1⟩
    go_wp2
    go_ret
    exact ⟨rfl, hb1⟩
  · go_enter Try.func7, Try.ntmps7
    go_wp2_with fail
    refine (awake_any _).mono ?_
    rintro e w1 ⟨rfl, hb1⟩
    have Hb1 := Lib.hid hb1; clear hb1
    go_wp2_with fail
    refine (seal_any _ _ xs _ (Hx.out.below Hb1.out) Hby.out (by omega)).mono ?_
    rintro e w2 ⟨v2, rfl, hown, hb2⟩
    have hb12 := Hb1.out.trans (hb2.mono Hb1.out.size)
    have Hb12 := Lib.hid hb12
    obtain ⟨g, cap, rfl, hg1, hg2, hcap⟩ := own_shape hown (by rw [sealed_len]; omega)
    have hsl := sealed_len xs
    obtain ⟨L, hL⟩ : ∃ L, L = xs.length + 8 := ⟨_, rfl⟩
    rw [← hL] at hsl
    rw [hsl] at hown hcap ⊢
    have hk : at_ % L < L := Nat.mod_lt _ (by omega)
    have ck := hown.cellAt (at_ % L) (by omega)
    have fk := hown.frozenAt (at_ % L)
    have hks : at_ % L < (sealed xs).length := by rw [hsl]; exact hk
    rw [List.getElem?_map, List.getElem?_eq_getElem hks] at ck
    obtain ⟨y, hy⟩ : ∃ y, y = (sealed xs)[at_ % L] := ⟨_, rfl⟩
    rw [← hy] at ck
    have hyb : y < 256 := by rw [hy]; exact sealed_byt xs Hby.out _ (List.getElem_mem _)
    have hdam := fun hne => damage xs Hby.out (at_ % L) to_ hks hto hne
    rw [← hy] at hdam
    have tl : ((L : Int) != (xs.length : Int) + 8) = false := by rw [bne_eq_false_iff_eq]; omega
    have HL := Lib.hid hL; have HSL := Lib.hid hsl; have Hown := Lib.hid hown; have Hdam := Lib.hid hdam
    have hL8 : 8 ≤ L := by omega
    have hL9 : L ≤ 608 := by omega
    unfold bv at ck
    clear hL hsl hown hdam hb12 hb2 hy hks hyb
    by_cases hyt : y = to_
    · have ty : ((y : Int) == (to_ : Int)) = true := by rw [beq_iff_eq]; omega
      have Hyt := Lib.hid hyt; clear hyt
      go_wp2_with fail
      go_ret
      exact ⟨rfl, Hb12.out⟩
    · have ty : ((y : Int) == (to_ : Int)) = false := by rw [beq_eq_false_iff_ne]; omega
      have Hd := Lib.hid (Hdam.out hyt); clear hyt
      go_wp2_with fail
      have hown3 := (Hown.out.stored (at_ % L) (bv to_)).1
      rw [← List.map_set] at hown3
      have hx3 : Bsl (w2.setCell ⟨g, at_ % L, none⟩ (.int .u8 (to_ : Int))) (.slice (some ⟨g, 0, none⟩) L cap) ((sealed xs).set (at_ % L) to_) := Bsl.of_own hown3
      have hyb : Byt ((sealed xs).set (at_ % L) to_) := by
        intro x hx
        rcases List.mem_or_eq_of_mem_set hx with h | h
        · exact sealed_byt xs Hby.out x h
        · omega
      have hlen : ((sealed xs).set (at_ % L) to_).length = L := by rw [List.length_set]; exact HSL.out
      have hdd := Hd.out
      have hLL := HL.out
      clear hown3 Hd tl HL HSL Hown Hdam ty ck fk
      generalize hys : (sealed xs).set (at_ % L) to_ = ys at *
      generalize at_ % L = k at *
      subst hLL
      refine (open_long ⟨g, 0, none⟩ cap xs.length (ys.take xs.length) (ys.drop xs.length) (by rw [List.length_take]; omega) (by rw [List.length_drop]; omega) _ (by rw [List.take_append_drop]; exact hx3)
        (fun x hx => hyb x (List.mem_of_mem_take hx)) (fun x hx => hyb x (List.mem_of_mem_drop hx)) (by omega) false (by rw [eq_comm, decide_eq_false_iff_not]; exact hdd)).mono ?_
      rintro e w3 ⟨v3, rfl, hv3, hb3⟩
      obtain ⟨A3, c3, rfl⟩ := (Bsl.of_own (xs := []) hv3).shape
      have Hend := Lib.hid ((Hb12.out.setCell (p := ⟨g, k, none⟩) (by have := Hb1.out.size; show w.heap.size ≤ g; omega) (.int .u8 (to_ : Int))).trans (hb3.mono (by have := Hb12.out.size; simp; omega)))
      clear hb3 hv3 hx3 hyb hlen hdd hys
      go_wp2
      go_ret
      exact ⟨rfl, Hend.out⟩
end Go.Proofs.Ytkjconhhandhlab
