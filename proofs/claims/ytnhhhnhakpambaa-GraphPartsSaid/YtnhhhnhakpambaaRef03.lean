/- The contracts of the reference's functions on ascending lists, for a program without sets. -/
import Derived.Test.YtnhhhnhakpambaaGr
namespace Go.Proofs.Ytnhhhnhakpambaa
open Go.RowKit

def BoolB (b : Bool) (w : World) (e : Ending) (w' : World) : Prop := e = .returned (.bool b) ∧ Below w.heap.size w w'
theorem Below.drewNs (w : World) (n : Nat) : Below w.heap.size w (w.drewN n) := by
  refine ⟨rfl, rfl, rfl, Nat.le_refl _, fun _ _ => rfl⟩
def rhas (l : List Nat) (n : Int) : Bool := l.any fun x => (x : Int) == n
theorem rhas_take {l : List Nat} {n : Int} {k : Nat} (hk : k < l.length) (h : rhas (l.take k) n = false) : rhas (l.take (k + 1)) n = ((l[k] : Int) == n) := by
  unfold rhas at *
  rw [List.take_succ_eq_append_getElem hk, List.any_append, h]
  simp
theorem rhas_true {l : List Nat} {n : Int} {k : Nat} (hk : k < l.length) (h : ((l[k] : Int) == n) = true) : rhas l n = true := by
  unfold rhas
  rw [List.any_eq_true]
  exact ⟨_, List.getElem_mem hk, h⟩
set_option maxHeartbeats 400000 in
theorem rhas_any (v : Value) (l : List Nat) (n : Int) (w : World) (h : Sl nv w v l) (hl : l.length ≤ 10000) :
    Calls Try.prog 36 #[v, .int .i64 n] w fun e w' => e = .returned (.bool (rhas l n)) ∧ w = w' := by
  obtain ⟨A, c, rfl⟩ := h.shape
  have H := Lib.hid h
  clear h
  go_enter Try.func36, Try.ntmps36
  go_wp2
  go_loop [5] (fun i => ∃ k : Nat, k ≤ l.length ∧ i = .int .i64 k ∧ rhas (l.take k) n = false) (fun i => l.length - (intOf i).toNat)
  case atStart => exact ⟨0, Nat.zero_le _, rfl, rfl⟩
  case round =>
    obtain ⟨k, hk, rfl, hall⟩ := hrel
    have Hall := Lib.hid hall; clear hall
    by_cases hlt : k < l.length
    · obtain ⟨ad, c', hs, hcap, hcell⟩ := sl_cell H.out k hlt
      simp only [Value.slice.injEq, true_and] at hs
      obtain ⟨rfl, rfl⟩ := hs
      have hn1 := rhas_take hlt Hall.out
      have hn2 := fun h => rhas_true (l := l) (n := n) hlt h
      generalize l[k] = x at *
      have Hn1 := Lib.hid hn1; have Hn2 := Lib.hid hn2
      clear hn1 hn2
      unfold nv at hcell
      cases hx : ((x : Int) == n) with
      | true =>
        have hr := Hn2.out hx
        have Hr := Lib.hid hr
        clear hr
        go_wp2
        go_ret
        exact ⟨by rw [Hr.out]; rfl, rfl⟩
      | false =>
        have hr := Hn1.out.trans hx
        have Hr := Lib.hid hr
        clear hr
        go_wp2
        go_round
        case rel => exact ⟨k + 1, by omega, by go_num, Hr.out⟩
        case measure => simp [intOf]; omega
    · have hr : rhas l n = false := by
        have := Hall.out
        rwa [List.take_of_length_le (by omega)] at this
      have Hr := Lib.hid hr
      clear hr
      go_wp2
      go_ret
      exact ⟨by rw [Hr.out]; rfl, rfl⟩
theorem filter_next {p : Nat → Bool} {l : List Nat} {k : Nat} (hk : k < l.length) : (l.take (k + 1)).filter p = (l.take k).filter p ++ if p l[k] = true then [l[k]] else [] := by
  rw [List.take_succ_eq_append_getElem hk, List.filter_append]
  by_cases h : p l[k] = true
  · simp [h]
  · simp [h]
theorem filter_le {p : Nat → Bool} {l : List Nat} {k : Nat} : ((l.take k).filter p).length ≤ k := Nat.le_trans (List.length_filter_le _ _) (by simp; omega)
set_option maxHeartbeats 1000000 in
theorem rinter_any (v vb : Value) (l b : List Nat) (w : World) (h : Sl nv w v l) (hb : Sl nv w vb b) (hl : l.length ≤ 10000) (lb : b.length ≤ 10000) :
    Calls Try.prog 49 #[v, vb] w (LGot w (l.filter (fun x : Nat => rhas b x))) := by
  obtain ⟨A, c, rfl⟩ := h.shape
  have H := Lib.hid h
  have Hb := Lib.hid hb
  clear hb
  clear h
  obtain ⟨p, hp⟩ : ∃ p : Nat → Bool, p = (fun x : Nat => rhas b x) := ⟨_, rfl⟩
  rw [← hp]
  have Hp := Lib.hid hp
  clear hp
  go_enter Try.func49, Try.ntmps49
  go_wp2
  go_loopw [5, 6] (fun o i wr => ∃ k : Nat, k ≤ l.length ∧ i = .int .i64 k ∧ wr.ownsRow w.heap.size 3 1 o ((l.take k).filter p).length (((l.take k).filter p).map nv) ∧ Below w.heap.size w wr) (fun _ i _ => l.length - (intOf i).toNat)
  case atStart => exact ⟨0, Nat.zero_le _, rfl, World.ownsRow_nil _ _ _ _, Below.refl _ _⟩
  case round =>
    rename_i o _
    obtain ⟨k, hk, rfl, hown, hbel⟩ := hrel
    have Hbel := Lib.hid hbel
    by_cases hlt : k < l.length
    · obtain ⟨ad, c', hs, hcap, hcell⟩ := sl_cell (H.out.below hbel) k hlt
      simp only [Value.slice.injEq, true_and] at hs
      obtain ⟨rfl, rfl⟩ := hs
      have hnext := filter_next (p := p) hlt
      have hle := filter_le (p := p) (l := l) (k := k)
      have hpx : p l[k] = ((fun x : Nat => rhas b x)) l[k] := by rw [Hp.out]
      generalize l[k] = x at *
      generalize (l.take k).filter p = out at *
      have Hnext := Lib.hid hnext
      have hsz := hbel.size
      unfold nv at hcell
      clear hnext hbel
      cases hx : p x with
      | true =>
        rw [hx] at Hnext hpx
        rw [if_pos rfl] at Hnext
        have Hpx := Lib.hid hpx
        clear hpx hx
        go_wp2_with fail
        refine (rhas_any vb b (x : Int) _ (Hb.out.below Hbel.out) lb).mono ?_
        rintro e w1 ⟨rfl, rfl⟩
        rw [show rhas b (x : Int) = true from Hpx.out.symm]
        go_wp2_with (at_builtin; refine app1S rfl _ _ 38 rfl 3 (.int .i64 0) 8 info_int rfl (by kernel_rfl) w.heap.size _ _ _ rfl hown (.int .i64 (x : Int)) rfl rfl (by omega) (by omega) hsz ?_; intro v' w2 hown2 hfr)
        have Hb2 := Lib.hid (Hbel.out.trans ((hfr.below hsz)))
        have Hown2 := Lib.hid hown2
        clear hown2 hfr hown
        go_roundw
        case rel => exact ⟨k + 1, by omega, by go_num, by rw [Hnext.out, List.length_append, List.map_append]; exact Hown2.out, Hb2.out⟩
        case measure => simp [intOf]; omega
      | false =>
        rw [hx] at Hnext hpx
        rw [if_neg (by decide), List.append_nil] at Hnext
        have Hpx := Lib.hid hpx
        have Hown := Lib.hid hown
        clear hpx hx hown
        go_wp2_with fail
        refine (rhas_any vb b (x : Int) _ (Hb.out.below Hbel.out) lb).mono ?_
        rintro e w1 ⟨rfl, rfl⟩
        rw [show rhas b (x : Int) = false from Hpx.out.symm]
        go_wp2
        go_roundw
        case rel => exact ⟨k + 1, by omega, by go_num, by rw [Hnext.out]; exact Hown.out, Hbel.out⟩
        case measure => simp [intOf]; omega
    · rw [List.take_of_length_le (by omega)] at hown
      have Hown := Lib.hid hown
      clear hown hbel
      go_wp2
      go_ret
      exact ⟨_, rfl, Sl.of_own Hown.out, Hbel.out⟩
set_option maxHeartbeats 1000000 in
theorem rminus_any (v vb : Value) (l b : List Nat) (w : World) (h : Sl nv w v l) (hb : Sl nv w vb b) (hl : l.length ≤ 10000) (lb : b.length ≤ 10000) :
    Calls Try.prog 51 #[v, vb] w (LGot w (l.filter (fun x : Nat => !rhas b x))) := by
  obtain ⟨A, c, rfl⟩ := h.shape
  have H := Lib.hid h
  have Hb := Lib.hid hb
  clear hb
  clear h
  obtain ⟨p, hp⟩ : ∃ p : Nat → Bool, p = (fun x : Nat => !rhas b x) := ⟨_, rfl⟩
  rw [← hp]
  have Hp := Lib.hid hp
  clear hp
  go_enter Try.func51, Try.ntmps51
  go_wp2
  go_loopw [5, 6] (fun o i wr => ∃ k : Nat, k ≤ l.length ∧ i = .int .i64 k ∧ wr.ownsRow w.heap.size 3 1 o ((l.take k).filter p).length (((l.take k).filter p).map nv) ∧ Below w.heap.size w wr) (fun _ i _ => l.length - (intOf i).toNat)
  case atStart => exact ⟨0, Nat.zero_le _, rfl, World.ownsRow_nil _ _ _ _, Below.refl _ _⟩
  case round =>
    rename_i o _
    obtain ⟨k, hk, rfl, hown, hbel⟩ := hrel
    have Hbel := Lib.hid hbel
    by_cases hlt : k < l.length
    · obtain ⟨ad, c', hs, hcap, hcell⟩ := sl_cell (H.out.below hbel) k hlt
      simp only [Value.slice.injEq, true_and] at hs
      obtain ⟨rfl, rfl⟩ := hs
      have hnext := filter_next (p := p) hlt
      have hle := filter_le (p := p) (l := l) (k := k)
      have hpx : p l[k] = ((fun x : Nat => !rhas b x)) l[k] := by rw [Hp.out]
      generalize l[k] = x at *
      generalize (l.take k).filter p = out at *
      have Hnext := Lib.hid hnext
      have hsz := hbel.size
      unfold nv at hcell
      clear hnext hbel
      cases hx : p x with
      | true =>
        rw [hx] at Hnext hpx
        rw [if_pos rfl] at Hnext
        have hpy : rhas b (x : Int) = !true := by rw [hpx]; simp
        have Hpy := Lib.hid hpy
        clear hpy
        have Hpx := Lib.hid hpx
        clear hpx hx
        go_wp2_with fail
        refine (rhas_any vb b (x : Int) _ (Hb.out.below Hbel.out) lb).mono ?_
        rintro e w1 ⟨rfl, rfl⟩
        rw [show rhas b (x : Int) = false from Hpy.out]
        go_wp2_with (at_builtin; refine app1S rfl _ _ 38 rfl 3 (.int .i64 0) 8 info_int rfl (by kernel_rfl) w.heap.size _ _ _ rfl hown (.int .i64 (x : Int)) rfl rfl (by omega) (by omega) hsz ?_; intro v' w2 hown2 hfr)
        have Hb2 := Lib.hid (Hbel.out.trans ((hfr.below hsz)))
        have Hown2 := Lib.hid hown2
        clear hown2 hfr hown
        go_roundw
        case rel => exact ⟨k + 1, by omega, by go_num, by rw [Hnext.out, List.length_append, List.map_append]; exact Hown2.out, Hb2.out⟩
        case measure => simp [intOf]; omega
      | false =>
        rw [hx] at Hnext hpx
        rw [if_neg (by decide), List.append_nil] at Hnext
        have hpy : rhas b (x : Int) = !false := by rw [hpx]; simp
        have Hpy := Lib.hid hpy
        clear hpy
        have Hpx := Lib.hid hpx
        have Hown := Lib.hid hown
        clear hpx hx hown
        go_wp2_with fail
        refine (rhas_any vb b (x : Int) _ (Hb.out.below Hbel.out) lb).mono ?_
        rintro e w1 ⟨rfl, rfl⟩
        rw [show rhas b (x : Int) = true from Hpy.out]
        go_wp2
        go_roundw
        case rel => exact ⟨k + 1, by omega, by go_num, by rw [Hnext.out]; exact Hown.out, Hbel.out⟩
        case measure => simp [intOf]; omega
    · rw [List.take_of_length_le (by omega)] at hown
      have Hown := Lib.hid hown
      clear hown hbel
      go_wp2
      go_ret
      exact ⟨_, rfl, Sl.of_own Hown.out, Hbel.out⟩
theorem rsub_any (v vb : Value) (l b : List Nat) (w : World) (h : Sl nv w v l) (hb : Sl nv w vb b) (hl : l.length ≤ 10000) (lb : b.length ≤ 10000) :
    Calls Try.prog 35 #[v, vb] w fun e w' => e = .returned (.bool (decide ((l.filter fun x : Nat => !rhas b x).length = 0))) ∧ Below w.heap.size w w' := by
  have H := Lib.hid h; have Hb := Lib.hid hb
  clear h hb
  obtain ⟨n, hn⟩ : ∃ n, (l.filter fun x : Nat => !rhas b x).length = n := ⟨_, rfl⟩
  rw [hn]
  go_enter Try.func35, Try.ntmps35
  go_wp2_with fail
  refine (rminus_any v vb l b _ H.out Hb.out hl lb).mono ?_
  rintro e w1 ⟨v1, rfl, h1, hb1⟩
  obtain ⟨A, c, rfl⟩ := h1.shape
  rw [hn]
  have Hb1 := Lib.hid hb1
  clear h1 hb1 hn
  go_wp2
  go_ret
  exact ⟨congrArg (fun b => Ending.returned (Value.bool b)) (by rw [Bool.eq_iff_iff, beq_iff_eq, decide_eq_true_iff]; omega), Hb1.out⟩
def rgo (n : Nat) : List Nat → Bool → List Nat
  | [], d => if d then [] else [n]
  | x :: t, d => if d then x :: rgo n t true else if n ≤ x then (if n < x then n :: x :: rgo n t true else x :: rgo n t true) else x :: rgo n t false
def rwith (l : List Nat) (n : Nat) : List Nat := rgo n l false
theorem rgo_true (n : Nat) : ∀ l, rgo n l true = l
  | [] => rfl
  | x :: t => by simp [rgo, rgo_true n t]
theorem rgo_mem (n m : Nat) : ∀ l, m ∈ rgo n l false ↔ m ∈ l ∨ m = n
  | [] => by simp [rgo]
  | x :: t => by
    have ih := rgo_mem n m t
    simp only [rgo, Bool.false_eq_true, if_false, rgo_true]
    by_cases h1 : n ≤ x
    · rw [if_pos h1]
      by_cases h2 : n < x
      · rw [if_pos h2]
        simp only [List.mem_cons]
        constructor
        · rintro (h | h | h)
          · exact .inr h
          · exact .inl (.inl h)
          · exact .inl (.inr h)
        · rintro ((h | h) | h)
          · exact .inr (.inl h)
          · exact .inr (.inr h)
          · exact .inl h
      · rw [if_neg h2]
        obtain rfl : n = x := by omega
        simp only [List.mem_cons]
        constructor
        · exact .inl
        · rintro (h | h)
          · exact h
          · exact .inl h
    · rw [if_neg h1]
      simp only [List.mem_cons, ih]
      constructor
      · rintro (h | h | h)
        · exact .inl (.inl h)
        · exact .inl (.inr h)
        · exact .inr h
      · rintro ((h | h) | h)
        · exact .inl h
        · exact .inr (.inl h)
        · exact .inr (.inr h)
theorem rwith_mem (l : List Nat) (n m : Nat) : m ∈ rwith l n ↔ m ∈ l ∨ m = n := rgo_mem n m l
theorem rgo_len (n : Nat) : ∀ l, (rgo n l false).length ≤ l.length + 1
  | [] => by simp [rgo]
  | x :: t => by
    have ih := rgo_len n t
    simp only [rgo, Bool.false_eq_true, if_false, rgo_true]
    split
    · split <;> simp
    · simp; omega
def Asc (l : List Nat) : Prop := l.Pairwise (· < ·)
theorem rgo_asc (n : Nat) : ∀ l, Asc l → Asc (rgo n l false)
  | [], _ => by simp [rgo, Asc]
  | x :: t, h => by
    have h1 := List.pairwise_cons.1 h
    have ih := rgo_asc n t h1.2
    simp only [rgo, Bool.false_eq_true, if_false, rgo_true]
    by_cases e1 : n ≤ x
    · rw [if_pos e1]
      by_cases e2 : n < x
      · rw [if_pos e2]
        refine List.pairwise_cons.2 ⟨fun m hm => ?_, h⟩
        rcases List.mem_cons.1 hm with rfl | hm
        · exact e2
        · have := h1.1 m hm; omega
      · rw [if_neg e2]; exact h
    · rw [if_neg e1]
      refine List.pairwise_cons.2 ⟨fun m hm => ?_, ih⟩
      rcases (rgo_mem n m t).1 hm with hm | rfl
      · exact h1.1 m hm
      · omega
theorem rwith_asc {l : List Nat} (h : Asc l) (n : Nat) : Asc (rwith l n) := rgo_asc n l h
set_option maxHeartbeats 2000000 in
theorem rwith_any (v : Value) (l : List Nat) (n : Nat) (w : World) (h : Sl nv w v l) (hl : l.length ≤ 10000) :
    Calls Try.prog 39 #[v, .int .i64 (n : Int)] w (LGot w (rwith l n)) := by
  obtain ⟨A, c, rfl⟩ := h.shape
  have H := Lib.hid h
  clear h
  obtain ⟨R, hR⟩ : ∃ R, R = rwith l n := ⟨_, rfl⟩
  rw [← hR]
  have hrl : R.length ≤ 10001 := by have := rgo_len n l; rw [hR]; unfold rwith; omega
  have HR := Lib.hid hR
  clear hR
  go_enter Try.func39, Try.ntmps39
  go_wp2
  go_loopw [5, 6, 7] (fun o d i wr => ∃ (k : Nat) (out : List Nat) (b : Bool), k ≤ l.length ∧ i = .int .i64 k ∧ d = .bool b ∧ out ++ rgo n (l.drop k) b = R ∧ wr.ownsRow w.heap.size 3 1 o out.length (out.map nv) ∧ Below w.heap.size w wr) (fun _ _ i _ => l.length - (intOf i).toNat)
  case atStart => exact ⟨0, [], false, Nat.zero_le _, rfl, rfl, by rw [HR.out]; rfl, World.ownsRow_nil _ _ _ _, Below.refl _ _⟩
  case round =>
    obtain ⟨k, out, b, hk, rfl, rfl, hR, hown, hbel⟩ := hrel
    have Hbel := Lib.hid hbel
    have hsz := hbel.size
    by_cases hlt : k < l.length
    · obtain ⟨ad, c', hs, hcap, hcell⟩ := sl_cell (H.out.below hbel) k hlt
      simp only [Value.slice.injEq, true_and] at hs
      obtain ⟨rfl, rfl⟩ := hs
      have hdr := List.drop_eq_getElem_cons hlt
      rw [hdr] at hR
      have had : (ad.add k).block < w.heap.size := by
        obtain ⟨ad', c'', hs', _, hc'⟩ := sl_cell H.out k hlt
        simp only [Value.slice.injEq, Option.some.injEq] at hs'
        obtain ⟨rfl, _, _⟩ := hs'
        exact World.block_lt_of_cell? _ _ hc'
      have HAD := Lib.hid had
      clear had
      generalize l[k] = x at *
      generalize ht : l.drop (k + 1) = t at *
      have Ht := Lib.hid ht
      clear ht
      have hlen : out.length + 1 ≤ R.length := by
        rw [← hR, List.length_append]
        cases b
        · simp only [rgo, Bool.false_eq_true, if_false]
          split
          · split <;> simp <;> omega
          · simp
        · simp [rgo]
      unfold nv at hcell
      clear hbel hdr
      cases b with
      | true =>
        rw [rgo, if_pos rfl, rgo_true] at hR
        have Hr : Hid ((out ++ [x]) ++ rgo n t true = R) := by rw [List.append_assoc, rgo_true]; exact hR
        clear hR
        go_wp2_with (at_builtin; refine app1S rfl _ _ 38 rfl 3 (.int .i64 0) 8 info_int rfl (by kernel_rfl) w.heap.size _ _ _ rfl hown (.int .i64 (x : Int)) rfl rfl (by omega) (by omega) hsz ?_; intro v' w2 hown2 hfr)
        have Hb2 := Lib.hid (Hbel.out.trans ((hfr.below hsz)))
        have Hown2 := Lib.hid hown2
        clear hown2 hfr hown
        go_roundw
        case rel => exact ⟨k + 1, out ++ [x], true, by omega, by go_num, rfl, by rw [Ht.out]; exact Hr.out, by rw [List.length_append, List.map_append]; exact Hown2.out, Hb2.out⟩
        case measure => simp [intOf]; omega
      | false =>
        rw [rgo, if_neg (by decide)] at hR
        by_cases e1 : n ≤ x
        · rw [if_pos e1] at hR
          by_cases e2 : n < x
          · rw [if_pos e2, rgo_true] at hR
            have hlen2 : out.length + 2 ≤ R.length := by rw [← hR, List.length_append]; simp
            have Hr : Hid ((out ++ [n, x]) ++ rgo n t true = R) := by rw [List.append_assoc, rgo_true]; exact hR
            clear hR
            have d1 : decide ((n : Int) ≤ (x : Int)) = true := decide_eq_true (by omega)
            have d2 : decide ((n : Int) < (x : Int)) = true := decide_eq_true (by omega)
            go_wp2_with (at_builtin; first | (refine app1S rfl _ _ 38 rfl 3 (.int .i64 0) 8 info_int rfl (by kernel_rfl) w.heap.size _ _ _ rfl hown (.int .i64 (n : Int)) rfl rfl (by omega) (by omega) hsz ?_; intro v' w2 hown2 hfr; have hb2 := hfr.below hsz; have hsz2 : w.heap.size ≤ w2.heap.size := Nat.le_trans hsz hb2.size; have hcell2 := (hb2.cell (p := ad.add k) HAD.out).trans hcell) | (refine app1S rfl _ _ 38 rfl 3 (.int .i64 0) 8 info_int rfl (by kernel_rfl) w.heap.size _ _ _ rfl hown2 (.int .i64 (x : Int)) rfl rfl (by omega) (by omega) hsz2 ?_; intro v'' w3 hown3 hfr3))
            have Hb3 := Lib.hid ((Hbel.out.trans hb2).trans (hfr3.below hsz2))
            have Hown3 := Lib.hid hown3
            clear hown2 hfr hown hown3 hfr3 hb2
            go_roundw
            case rel => exact ⟨k + 1, out ++ [n, x], true, by omega, by go_num, rfl, by rw [Ht.out]; exact Hr.out, by simpa [nv] using Hown3.out, Hb3.out⟩
            case measure => simp [intOf]; omega
          · rw [if_neg e2, rgo_true] at hR
            have Hr : Hid ((out ++ [x]) ++ rgo n t true = R) := by rw [List.append_assoc, rgo_true]; exact hR
            clear hR
            have d1 : decide ((n : Int) ≤ (x : Int)) = true := decide_eq_true (by omega)
            have d2 : decide ((n : Int) < (x : Int)) = false := decide_eq_false (by omega)
            go_wp2_with (at_builtin; refine app1S rfl _ _ 38 rfl 3 (.int .i64 0) 8 info_int rfl (by kernel_rfl) w.heap.size _ _ _ rfl hown (.int .i64 (x : Int)) rfl rfl (by omega) (by omega) hsz ?_; intro v' w2 hown2 hfr)
            have Hb2 := Lib.hid (Hbel.out.trans ((hfr.below hsz)))
            have Hown2 := Lib.hid hown2
            clear hown2 hfr hown
            go_roundw
            case rel => exact ⟨k + 1, out ++ [x], true, by omega, by go_num, rfl, by rw [Ht.out]; exact Hr.out, by rw [List.length_append, List.map_append]; exact Hown2.out, Hb2.out⟩
            case measure => simp [intOf]; omega
        · rw [if_neg e1] at hR
          have Hr : Hid ((out ++ [x]) ++ rgo n t false = R) := by rw [List.append_assoc]; exact hR
          clear hR
          have d1 : decide ((n : Int) ≤ (x : Int)) = false := decide_eq_false (by omega)
          go_wp2_with (at_builtin; refine app1S rfl _ _ 38 rfl 3 (.int .i64 0) 8 info_int rfl (by kernel_rfl) w.heap.size _ _ _ rfl hown (.int .i64 (x : Int)) rfl rfl (by omega) (by omega) hsz ?_; intro v' w2 hown2 hfr)
          have Hb2 := Lib.hid (Hbel.out.trans ((hfr.below hsz)))
          have Hown2 := Lib.hid hown2
          clear hown2 hfr hown
          go_roundw
          case rel => exact ⟨k + 1, out ++ [x], false, by omega, by go_num, rfl, by rw [Ht.out]; exact Hr.out, by rw [List.length_append, List.map_append]; exact Hown2.out, Hb2.out⟩
          case measure => simp [intOf]; omega
    · have hd : l.drop k = [] := List.drop_of_length_le (by omega)
      rw [hd] at hR
      cases b with
      | true =>
        rw [rgo, if_pos rfl, List.append_nil] at hR
        have Hown := Lib.hid hown
        have Hr := Lib.hid hR
        clear hown hR hd hbel
        go_wp2
        go_ret
        exact ⟨_, rfl, by rw [← Hr.out]; exact Sl.of_own Hown.out, Hbel.out⟩
      | false =>
        rw [rgo, if_neg (by decide)] at hR
        have hlen : out.length + 1 ≤ R.length := by rw [← hR, List.length_append]; simp
        have Hr := Lib.hid hR
        clear hR hd hbel
        go_wp2_with (at_builtin; refine app1S rfl _ _ 38 rfl 3 (.int .i64 0) 8 info_int rfl (by kernel_rfl) w.heap.size _ _ _ rfl hown (.int .i64 (n : Int)) rfl rfl (by omega) (by omega) hsz ?_; intro v' w2 hown2 hfr)
        have Hb2 := Lib.hid (Hbel.out.trans ((hfr.below hsz)))
        have Hown2 := Lib.hid hown2
        clear hown2 hfr hown
        go_ret
        exact ⟨_, rfl, by rw [← Hr.out]; exact Sl.of_own (n := out.length + 1) (by rw [List.map_append]; exact Hown2.out), Hb2.out⟩
set_option maxHeartbeats 400000 in
theorem isame_any (va vb : Value) (a b : List Int) (w : World) (ha : Sl iv w va a) (hb : Sl iv w vb b) (la : Room2 a.length) (lb : Room2 b.length) :
    Calls Try.prog 25 #[va, vb] w fun e w' => e = .returned (.bool (decide (a = b))) ∧ ∃ m, w' = w.drewN m := by
  obtain ⟨A, c, rfl⟩ := ha.shape
  obtain ⟨A2, c2, rfl⟩ := hb.shape
  have Ha := Lib.hid ha; have Hb := Lib.hid hb
  unfold Room2 at la lb
  clear ha hb
  by_cases hl : a.length = b.length
  · go_enter Try.func25, Try.ntmps25
    have Hl := Lib.hid hl
    rw [← hl] at Hb ⊢
    clear hl
    go_wp2
    go_loopw [5] (fun i wr => ∃ k : Nat, k ≤ a.length ∧ i = .int .i64 k ∧ a.take k = b.take k ∧ ∃ m, wr = w.drewN m) (fun i _ => a.length - (intOf i).toNat)
    case atStart => exact ⟨0, Nat.zero_le _, rfl, rfl, 0, rfl⟩
    case round =>
      obtain ⟨k, hk, rfl, hall, m, rfl⟩ := hrel
      have Hall := Lib.hid hall; clear hall
      by_cases hlt : k < a.length
      · obtain ⟨ad, c', hs, hcap, hcell⟩ := sl_cell Ha.out k hlt
        simp only [Value.slice.injEq, true_and] at hs
        obtain ⟨rfl, rfl⟩ := hs
        obtain ⟨ad2, c2', hs, hcap2, hcell2⟩ := sl_cell Hb.out k (by have := Hl.out; omega)
        simp only [Value.slice.injEq] at hs
        obtain ⟨rfl, hl2, rfl⟩ := hs
        clear hl2
        have hab : a.take (k + 1) = b.take (k + 1) ↔ a[k] = b[k]'(by have := Hl.out; omega) := by
          have := Hl.out
          rw [List.take_succ_eq_append_getElem hlt, List.take_succ_eq_append_getElem (l := b) (by omega), Hall.out]
          exact ⟨fun h => by simpa using List.append_cancel_left h, fun h => by rw [h]⟩
        have Hab := Lib.hid hab; clear hab
        have hne : ¬ a[k] = b[k]'(by have := Hl.out; omega) → a ≠ b := fun h e => by subst e; exact h rfl
        have Hne := Lib.hid hne; clear hne
        generalize a[k] = x at *
        generalize b[k]'(by have := Hl.out; omega) = y at *
        unfold iv at hcell hcell2
        by_cases hxy : x = y
        · have hn := Lib.hid (Hab.out.2 hxy)
          have hne : (x != y) = false := by rw [bne_eq_false_iff_eq]; omega
          clear hxy
          go_wp2
          go_quiet (fail)
          go_wp2
          go_roundw
          case rel => exact ⟨k + 1, by omega, by go_num, hn.out, _, rfl⟩
          case measure => simp [intOf]; omega
        · have hd : decide (a = b) = false := decide_eq_false (Hne.out hxy)
          have hne : (x != y) = true := by rw [bne_iff_ne]; omega
          have Hd := Lib.hid hd
          clear hxy hd
          go_wp2
          go_quiet (fail)
          go_wp2
          go_ret
          exact ⟨by rw [Hd.out]; rfl, m + nq, by simp⟩
      · have hd : decide (a = b) = true := by
          rw [decide_eq_true_iff]
          have := Hall.out
          have h2 := Hl.out
          rwa [List.take_of_length_le (by omega), List.take_of_length_le (by omega)] at this
        have Hd := Lib.hid hd
        clear hd
        go_wp2
        go_ret
        exact ⟨by rw [Hd.out]; rfl, _, rfl⟩
  · have hd : decide (a = b) = false := decide_eq_false fun h => hl (congrArg List.length h)
    rw [hd]
    have hne : ((a.length : Int) != (b.length : Int)) = true := by rw [bne_iff_ne]; omega
    clear hd hl
    go_enter Try.func25, Try.ntmps25
    go_wp2
    go_ret
    exact ⟨rfl, 0, rfl⟩
theorem isame_b {va vb : Value} {a b : List Int} {w : World} (ha : Sl iv w va a) (hb : Sl iv w vb b) (la : a.length ≤ 10000) (lb : b.length ≤ 10000) :
    Calls Try.prog 25 #[va, vb] w (BoolB (decide (a = b)) w) :=
  (isame_any va vb a b w ha hb (by unfold Room2; omega) (by unfold Room2; omega)).mono fun _ _ ⟨h1, m, h2⟩ => ⟨h1, by rw [h2]; exact Below.drewNs w m⟩
theorem cast_inj {a b : List Nat} : a.map (fun n : Nat => (n : Int)) = b.map (fun n : Nat => (n : Int)) ↔ a = b := by
  constructor
  · intro h
    have := congrArg (List.map Int.toNat) h
    simpa [List.map_map, Function.comp_def] using this
  · rintro rfl; rfl
theorem nsame_b {va vb : Value} {a b : List Nat} {w : World} (ha : Sl nv w va a) (hb : Sl nv w vb b) (la : a.length ≤ 10000) (lb : b.length ≤ 10000) :
    Calls Try.prog 25 #[va, vb] w (BoolB (decide (a = b)) w) := by
  have := isame_b ha.nv_iv hb.nv_iv (by simpa using la) (by simpa using lb)
  simpa only [cast_inj] using this
end Go.Proofs.Ytnhhhnhakpambaa
