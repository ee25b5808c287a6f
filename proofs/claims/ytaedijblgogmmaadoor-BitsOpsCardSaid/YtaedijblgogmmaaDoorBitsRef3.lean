/- The contracts of the reference's With, Union and Compare. -/
import Derived.Test.YtaedijblgogmmaaDoorBitsRef2
import Derived.Test.YtaedijblgogmmaaDoorBitsCmp
namespace Go.Proofs.YtaedijblgogmmaaDoor
open Go.RowKit

/-- With's loop from here on: what it still appends (d: the number has its place). -/
def rgo (n : Nat) : List Nat → Bool → List Nat
  | [], d => if d then [] else [n]
  | x :: t, d => if d then x :: rgo n t true else if n ≤ x then (if n < x then n :: x :: rgo n t true else x :: rgo n t true) else x :: rgo n t false
def rwith (l : List Nat) (n : Nat) : List Nat := rgo n l false
theorem rgo_true (n : Nat) : ∀ l, rgo n l true = l
  | [] => rfl
  | x :: t => by simp [rgo, rgo_true n t]
theorem rgo_mem (n m : Nat) : ∀ l, m ∈ rgo n l false ↔ m ∈ l ∨ m = n
  | [] => by simp [rgo]
  | x :: t => by
    have ih := rgo_mem n m t
    simp only [rgo, Bool.false_eq_true, if_false, rgo_true]
    by_cases h1 : n ≤ x
    · rw [if_pos h1]
      by_cases h2 : n < x
      · rw [if_pos h2]
        simp only [List.mem_cons]
        constructor
        · rintro (h | h | h)
          · exact .inr h
          · exact .inl (.inl h)
          · exact .inl (.inr h)
        · rintro ((h | h) | h)
          · exact .inr (.inl h)
          · exact .inr (.inr h)
          · exact .inl h
      · rw [if_neg h2]
        obtain rfl : n = x := by omega
        simp only [List.mem_cons]
        constructor
        · exact .inl
        · rintro (h | h)
          · exact h
          · exact .inl h
    · rw [if_neg h1]
      simp only [List.mem_cons, ih]
      constructor
      · rintro (h | h | h)
        · exact .inl (.inl h)
        · exact .inl (.inr h)
        · exact .inr h
      · rintro ((h | h) | h)
        · exact .inl h
        · exact .inr (.inl h)
        · exact .inr (.inr h)
theorem rwith_mem (l : List Nat) (n m : Nat) : m ∈ rwith l n ↔ m ∈ l ∨ m = n := rgo_mem n m l
theorem rgo_len (n : Nat) : ∀ l, (rgo n l false).length ≤ l.length + 1
  | [] => by simp [rgo]
  | x :: t => by
    have ih := rgo_len n t
    simp only [rgo, Bool.false_eq_true, if_false, rgo_true]
    split
    · split <;> simp
    · simp; omega
def Asc (l : List Nat) : Prop := l.Pairwise (· < ·)
theorem rgo_asc (n : Nat) : ∀ l, Asc l → Asc (rgo n l false)
  | [], _ => by simp [rgo, Asc]
  | x :: t, h => by
    have h1 := List.pairwise_cons.1 h
    have ih := rgo_asc n t h1.2
    simp only [rgo, Bool.false_eq_true, if_false, rgo_true]
    by_cases e1 : n ≤ x
    · rw [if_pos e1]
      by_cases e2 : n < x
      · rw [if_pos e2]
        refine List.pairwise_cons.2 ⟨fun m hm => ?_, h⟩
        rcases List.mem_cons.1 hm with rfl | hm
        · exact e2
        · have := h1.1 m hm; omega
      · rw [if_neg e2]; exact h
    · rw [if_neg e1]
      refine List.pairwise_cons.2 ⟨fun m hm => ?_, ih⟩
      rcases (rgo_mem n m t).1 hm with hm | rfl
      · exact h1.1 m hm
      · omega
theorem rwith_asc {l : List Nat} (h : Asc l) (n : Nat) : Asc (rwith l n) := rgo_asc n l h
theorem asc_ext : ∀ {a b : List Nat}, Asc a → Asc b → (∀ m, m ∈ a ↔ m ∈ b) → a = b
  | [], [], _, _, _ => rfl
  | [], y :: t, _, _, h => absurd ((h y).2 (List.mem_cons_self ..)) (by simp)
  | x :: s, [], _, _, h => absurd ((h x).1 (List.mem_cons_self ..)) (by simp)
  | x :: s, y :: t, ha, hb, h => by
    have h1 := List.pairwise_cons.1 ha
    have h2 := List.pairwise_cons.1 hb
    have hxy : x = y := by
      rcases List.mem_cons.1 ((h x).1 (List.mem_cons_self ..)) with e | e
      · exact e
      · rcases List.mem_cons.1 ((h y).2 (List.mem_cons_self ..)) with e2 | e2
        · exact e2.symm
        · have := h1.1 y e2; have := h2.1 x e; omega
    subst hxy
    congr 1
    refine asc_ext h1.2 h2.2 fun m => ?_
    constructor
    · intro hm
      rcases List.mem_cons.1 ((h m).1 (List.mem_cons_of_mem _ hm)) with e | e
      · subst e; have := h1.1 m hm; omega
      · exact e
    · intro hm
      rcases List.mem_cons.1 ((h m).2 (List.mem_cons_of_mem _ hm)) with e | e
      · subst e; have := h2.1 m hm; omega
      · exact e
theorem els_asc (ws : List Nat) : Asc (els ws) := by
  unfold els elsW
  exact List.Pairwise.filter _ List.pairwise_lt_range

set_option maxHeartbeats 2000000 in
theorem rwith_any (v : Value) (l : List Nat) (n : Nat) (w : World) (h : Sl nv w v l) (hl : l.length ≤ 10000) :
    Calls Tryd.prog 27 #[v, .int .i64 (n : Int)] w (LGot w (rwith l n)) := by
  obtain ⟨A, c, rfl⟩ := h.shape
  have H := Lib.hid h
  clear h
  obtain ⟨R, hR⟩ : ∃ R, R = rwith l n := ⟨_, rfl⟩
  rw [← hR]
  have hrl : R.length ≤ 10001 := by have := rgo_len n l; rw [hR]; unfold rwith; omega
  have HR := Lib.hid hR
  clear hR
  go_enter Tryd.func27, Tryd.ntmps27
  go_wp2
  go_loopw [5, 6, 7] (fun o d i wr => ∃ (k : Nat) (out : List Nat) (b : Bool), k ≤ l.length ∧ i = .int .i64 k ∧ d = .bool b ∧ out ++ rgo n (l.drop k) b = R ∧ wr.ownsRow w.heap.size 3 1 o out.length (out.map nv) ∧ Below w.heap.size w wr) (fun _ _ i _ => l.length - (intOf i).toNat)
  case atStart => exact ⟨0, [], false, Nat.zero_le _, rfl, rfl, by rw [HR.out]; rfl, World.ownsRow_nil _ _ _ _, Below.refl _ _⟩
  case round =>
    obtain ⟨k, out, b, hk, rfl, rfl, hR, hown, hbel⟩ := hrel
    have Hbel := Lib.hid hbel
    have hsz := hbel.size
    by_cases hlt : k < l.length
    · obtain ⟨ad, c', hs, hcap, hcell⟩ := sl_cell (H.out.below hbel) k hlt
      simp only [Value.slice.injEq, true_and] at hs
      obtain ⟨rfl, rfl⟩ := hs
      have hdr := List.drop_eq_getElem_cons hlt
      rw [hdr] at hR
      have had : (ad.add k).block < w.heap.size := by
        obtain ⟨ad', c'', hs', _, hc'⟩ := sl_cell H.out k hlt
        simp only [Value.slice.injEq, Option.some.injEq] at hs'
        obtain ⟨rfl, _, _⟩ := hs'
        exact World.block_lt_of_cell? _ _ hc'
      have HAD := Lib.hid had
      clear had
      generalize l[k] = x at *
      generalize ht : l.drop (k + 1) = t at *
      have Ht := Lib.hid ht
      clear ht
      have hlen : out.length + 1 ≤ R.length := by
        rw [← hR, List.length_append]
        cases b
        · simp only [rgo, Bool.false_eq_true, if_false]
          split
          · split <;> simp <;> omega
          · simp
        · simp [rgo]
      unfold nv at hcell
      clear hbel hdr
      cases b with
      | true =>
        rw [rgo, if_pos rfl, rgo_true] at hR
        have Hr : Hid ((out ++ [x]) ++ rgo n t true = R) := by rw [List.append_assoc, rgo_true]; exact hR
        clear hR
        go_wp2_with (at_builtin; refine app1S rfl _ _ 25 rfl 3 (.int .i64 0) 8 info_int rfl (by kernel_rfl) w.heap.size _ _ _ rfl hown (.int .i64 (x : Int)) rfl rfl (by omega) (by omega) hsz ?_; intro v' w2 hown2 hfr)
        have Hb2 := Lib.hid (Hbel.out.trans ((hfr.below hsz)))
        have Hown2 := Lib.hid hown2
        clear hown2 hfr hown
        go_roundw
        case rel => exact ⟨k + 1, out ++ [x], true, by omega, by go_num, rfl, by rw [Ht.out]; exact Hr.out, by rw [List.length_append, List.map_append]; exact Hown2.out, Hb2.out⟩
        case measure => simp [intOf]; omega
      | false =>
        rw [rgo, if_neg (by decide)] at hR
        by_cases e1 : n ≤ x
        · rw [if_pos e1] at hR
          by_cases e2 : n < x
          · rw [if_pos e2, rgo_true] at hR
            have hlen2 : out.length + 2 ≤ R.length := by rw [← hR, List.length_append]; simp
            have Hr : Hid ((out ++ [n, x]) ++ rgo n t true = R) := by rw [List.append_assoc, rgo_true]; exact hR
            clear hR
            have d1 : decide ((n : Int) ≤ (x : Int)) = true := decide_eq_true (by omega)
            have d2 : decide ((n : Int) < (x : Int)) = true := decide_eq_true (by omega)
            go_wp2_with (at_builtin; first | (refine app1S rfl _ _ 25 rfl 3 (.int .i64 0) 8 info_int rfl (by kernel_rfl) w.heap.size _ _ _ rfl hown (.int .i64 (n : Int)) rfl rfl (by omega) (by omega) hsz ?_; intro v' w2 hown2 hfr; have hb2 := hfr.below hsz; have hsz2 : w.heap.size ≤ w2.heap.size := Nat.le_trans hsz hb2.size; have hcell2 := (hb2.cell (p := ad.add k) HAD.out).trans hcell) | (refine app1S rfl _ _ 25 rfl 3 (.int .i64 0) 8 info_int rfl (by kernel_rfl) w.heap.size _ _ _ rfl hown2 (.int .i64 (x : Int)) rfl rfl (by omega) (by omega) hsz2 ?_; intro v'' w3 hown3 hfr3))
            have Hb3 := Lib.hid ((Hbel.out.trans hb2).trans (hfr3.below hsz2))
            have Hown3 := Lib.hid hown3
            clear hown2 hfr hown hown3 hfr3 hb2
            go_roundw
            case rel => exact ⟨k + 1, out ++ [n, x], true, by omega, by go_num, rfl, by rw [Ht.out]; exact Hr.out, by simpa [nv] using Hown3.out, Hb3.out⟩
            case measure => simp [intOf]; omega
          · rw [if_neg e2, rgo_true] at hR
            have Hr : Hid ((out ++ [x]) ++ rgo n t true = R) := by rw [List.append_assoc, rgo_true]; exact hR
            clear hR
            have d1 : decide ((n : Int) ≤ (x : Int)) = true := decide_eq_true (by omega)
            have d2 : decide ((n : Int) < (x : Int)) = false := decide_eq_false (by omega)
            go_wp2_with (at_builtin; refine app1S rfl _ _ 25 rfl 3 (.int .i64 0) 8 info_int rfl (by kernel_rfl) w.heap.size _ _ _ rfl hown (.int .i64 (x : Int)) rfl rfl (by omega) (by omega) hsz ?_; intro v' w2 hown2 hfr)
            have Hb2 := Lib.hid (Hbel.out.trans ((hfr.below hsz)))
            have Hown2 := Lib.hid hown2
            clear hown2 hfr hown
            go_roundw
            case rel => exact ⟨k + 1, out ++ [x], true, by omega, by go_num, rfl, by rw [Ht.out]; exact Hr.out, by rw [List.length_append, List.map_append]; exact Hown2.out, Hb2.out⟩
            case measure => simp [intOf]; omega
        · rw [if_neg e1] at hR
          have Hr : Hid ((out ++ [x]) ++ rgo n t false = R) := by rw [List.append_assoc]; exact hR
          clear hR
          have d1 : decide ((n : Int) ≤ (x : Int)) = false := decide_eq_false (by omega)
          go_wp2_with (at_builtin; refine app1S rfl _ _ 25 rfl 3 (.int .i64 0) 8 info_int rfl (by kernel_rfl) w.heap.size _ _ _ rfl hown (.int .i64 (x : Int)) rfl rfl (by omega) (by omega) hsz ?_; intro v' w2 hown2 hfr)
          have Hb2 := Lib.hid (Hbel.out.trans ((hfr.below hsz)))
          have Hown2 := Lib.hid hown2
          clear hown2 hfr hown
          go_roundw
          case rel => exact ⟨k + 1, out ++ [x], false, by omega, by go_num, rfl, by rw [Ht.out]; exact Hr.out, by rw [List.length_append, List.map_append]; exact Hown2.out, Hb2.out⟩
          case measure => simp [intOf]; omega
    · have hd : l.drop k = [] := List.drop_of_length_le (by omega)
      rw [hd] at hR
      cases b with
      | true =>
        rw [rgo, if_pos rfl, List.append_nil] at hR
        have Hown := Lib.hid hown
        have Hr := Lib.hid hR
        clear hown hR hd hbel
        go_wp2
        go_ret
        exact ⟨_, rfl, by rw [← Hr.out]; exact Sl.of_own Hown.out, Hbel.out⟩
      | false =>
        rw [rgo, if_neg (by decide)] at hR
        have hlen : out.length + 1 ≤ R.length := by rw [← hR, List.length_append]; simp
        have Hr := Lib.hid hR
        clear hR hd hbel
        go_wp2_with (at_builtin; refine app1S rfl _ _ 25 rfl 3 (.int .i64 0) 8 info_int rfl (by kernel_rfl) w.heap.size _ _ _ rfl hown (.int .i64 (n : Int)) rfl rfl (by omega) (by omega) hsz ?_; intro v' w2 hown2 hfr)
        have Hb2 := Lib.hid (Hbel.out.trans ((hfr.below hsz)))
        have Hown2 := Lib.hid hown2
        clear hown2 hfr hown
        go_ret
        exact ⟨_, rfl, by rw [← Hr.out]; exact Sl.of_own (n := out.length + 1) (by rw [List.map_append]; exact Hown2.out), Hb2.out⟩
end Go.Proofs.YtaedijblgogmmaaDoor
