/- The contracts of the reference's functions on ascending lists. -/
import Derived.Test.YtaedijblgogmmaaDoorBitsList
namespace Go.Proofs.YtaedijblgogmmaaDoor
open Go.RowKit

def LGot (w : World) (l : List Nat) (e : Ending) (w' : World) : Prop := ∃ v, e = .returned v ∧ Sl nv w' v l ∧ Below w.heap.size w w'
def rhas (l : List Nat) (n : Int) : Bool := l.any fun x => (x : Int) == n
theorem rhas_take {l : List Nat} {n : Int} {k : Nat} (hk : k < l.length) (h : rhas (l.take k) n = false) : rhas (l.take (k + 1)) n = ((l[k] : Int) == n) := by
  unfold rhas at *
  rw [List.take_succ_eq_append_getElem hk, List.any_append, h]
  simp
theorem rhas_true {l : List Nat} {n : Int} {k : Nat} (hk : k < l.length) (h : ((l[k] : Int) == n) = true) : rhas l n = true := by
  unfold rhas
  rw [List.any_eq_true]
  exact ⟨_, List.getElem_mem hk, h⟩
set_option maxHeartbeats 400000 in
theorem rhas_any (v : Value) (l : List Nat) (n : Int) (w : World) (h : Sl nv w v l) (hl : l.length ≤ 10000) :
    Calls Tryd.prog 32 #[v, .int .i64 n] w fun e w' => e = .returned (.bool (rhas l n)) ∧ w = w' := by
  obtain ⟨A, c, rfl⟩ := h.shape
  have H := Lib.hid h
  clear h
  go_enter Tryd.func32, Tryd.ntmps32
  go_wp2
  go_loop [5] (fun i => ∃ k : Nat, k ≤ l.length ∧ i = .int .i64 k ∧ rhas (l.take k) n = false) (fun i => l.length - (intOf i).toNat)
  case atStart => exact ⟨0, Nat.zero_le _, rfl, rfl⟩
  case round =>
    obtain ⟨k, hk, rfl, hall⟩ := hrel
    have Hall := Lib.hid hall; clear hall
    by_cases hlt : k < l.length
    · obtain ⟨ad, c', hs, hcap, hcell⟩ := sl_cell H.out k hlt
      simp only [Value.slice.injEq, true_and] at hs
      obtain ⟨rfl, rfl⟩ := hs
      have hn1 := rhas_take hlt Hall.out
      have hn2 := fun h => rhas_true (l := l) (n := n) hlt h
      generalize l[k] = x at *
      have Hn1 := Lib.hid hn1; have Hn2 := Lib.hid hn2
      clear hn1 hn2
      unfold nv at hcell
      cases hx : ((x : Int) == n) with
      | true =>
        have hr := Hn2.out hx
        have Hr := Lib.hid hr
        clear hr
        go_wp2
        go_ret
        exact ⟨by rw [Hr.out]; rfl, rfl⟩
      | false =>
        have hr := Hn1.out.trans hx
        have Hr := Lib.hid hr
        clear hr
        go_wp2
        go_round
        case rel => exact ⟨k + 1, by omega, by go_num, Hr.out⟩
        case measure => simp [intOf]; omega
    · have hr : rhas l n = false := by
        have := Hall.out
        rwa [List.take_of_length_le (by omega)] at this
      have Hr := Lib.hid hr
      clear hr
      go_wp2
      go_ret
      exact ⟨by rw [Hr.out]; rfl, rfl⟩
theorem filter_next {p : Nat → Bool} {l : List Nat} {k : Nat} (hk : k < l.length) : (l.take (k + 1)).filter p = (l.take k).filter p ++ if p l[k] = true then [l[k]] else [] := by
  rw [List.take_succ_eq_append_getElem hk, List.filter_append]
  by_cases h : p l[k] = true
  · simp [h]
  · simp [h]
theorem filter_le {p : Nat → Bool} {l : List Nat} {k : Nat} : ((l.take k).filter p).length ≤ k := Nat.le_trans (List.length_filter_le _ _) (by simp; omega)
set_option maxHeartbeats 1000000 in
theorem rwithout_any (v : Value) (l : List Nat) (n : Int) (w : World) (h : Sl nv w v l) (hl : l.length ≤ 10000) :
    Calls Tryd.prog 35 #[v, .int .i64 n] w (LGot w (l.filter (fun x : Nat => (x : Int) != n))) := by
  obtain ⟨A, c, rfl⟩ := h.shape
  have H := Lib.hid h
  clear h
  obtain ⟨p, hp⟩ : ∃ p : Nat → Bool, p = (fun x : Nat => (x : Int) != n) := ⟨_, rfl⟩
  rw [← hp]
  have Hp := Lib.hid hp
  clear hp
  go_enter Tryd.func35, Tryd.ntmps35
  go_wp2
  go_loopw [5, 6] (fun o i wr => ∃ k : Nat, k ≤ l.length ∧ i = .int .i64 k ∧ wr.ownsRow w.heap.size 3 1 o ((l.take k).filter p).length (((l.take k).filter p).map nv) ∧ Below w.heap.size w wr) (fun _ i _ => l.length - (intOf i).toNat)
  case atStart => exact ⟨0, Nat.zero_le _, rfl, World.ownsRow_nil _ _ _ _, Below.refl _ _⟩
  case round =>
    rename_i o _
    obtain ⟨k, hk, rfl, hown, hbel⟩ := hrel
    have Hbel := Lib.hid hbel
    by_cases hlt : k < l.length
    · obtain ⟨ad, c', hs, hcap, hcell⟩ := sl_cell (H.out.below hbel) k hlt
      simp only [Value.slice.injEq, true_and] at hs
      obtain ⟨rfl, rfl⟩ := hs
      have hnext := filter_next (p := p) hlt
      have hle := filter_le (p := p) (l := l) (k := k)
      have hpx : p l[k] = ((fun x : Nat => (x : Int) != n)) l[k] := by rw [Hp.out]
      generalize l[k] = x at *
      generalize (l.take k).filter p = out at *
      have Hnext := Lib.hid hnext
      have hsz := hbel.size
      unfold nv at hcell
      clear hnext hbel
      cases hx : p x with
      | true =>
        rw [hx] at Hnext hpx
        rw [if_pos rfl] at Hnext
        have hne : ((x : Int) != n) = true := hpx.symm
        have Hpx := Lib.hid hpx
        clear hpx hx
        go_wp2_with (at_builtin; refine app1S rfl _ _ 25 rfl 3 (.int .i64 0) 8 info_int rfl (by kernel_rfl) w.heap.size _ _ _ rfl hown (.int .i64 (x : Int)) rfl rfl (by omega) (by omega) hsz ?_; intro v' w2 hown2 hfr)
        have Hb2 := Lib.hid (Hbel.out.trans ((hfr.below hsz)))
        have Hown2 := Lib.hid hown2
        clear hown2 hfr hown
        go_roundw
        case rel => exact ⟨k + 1, by omega, by go_num, by rw [Hnext.out, List.length_append, List.map_append]; exact Hown2.out, Hb2.out⟩
        case measure => simp [intOf]; omega
      | false =>
        rw [hx] at Hnext hpx
        rw [if_neg (by decide), List.append_nil] at Hnext
        have hne : ((x : Int) != n) = false := hpx.symm
        have Hpx := Lib.hid hpx
        have Hown := Lib.hid hown
        clear hpx hx hown
        go_wp2
        go_roundw
        case rel => exact ⟨k + 1, by omega, by go_num, by rw [Hnext.out]; exact Hown.out, Hbel.out⟩
        case measure => simp [intOf]; omega
    · rw [List.take_of_length_le (by omega)] at hown
      have Hown := Lib.hid hown
      clear hown hbel
      go_wp2
      go_ret
      exact ⟨_, rfl, Sl.of_own Hown.out, Hbel.out⟩
set_option maxHeartbeats 1000000 in
theorem rinter_any (v vb : Value) (l b : List Nat) (w : World) (h : Sl nv w v l) (hb : Sl nv w vb b) (hl : l.length ≤ 10000) (lb : b.length ≤ 10000) :
    Calls Tryd.prog 18 #[v, vb] w (LGot w (l.filter (fun x : Nat => rhas b x))) := by
  obtain ⟨A, c, rfl⟩ := h.shape
  have H := Lib.hid h
  have Hb := Lib.hid hb
  clear hb
  clear h
  obtain ⟨p, hp⟩ : ∃ p : Nat → Bool, p = (fun x : Nat => rhas b x) := ⟨_, rfl⟩
  rw [← hp]
  have Hp := Lib.hid hp
  clear hp
  go_enter Tryd.func18, Tryd.ntmps18
  go_wp2
  go_loopw [5, 6] (fun o i wr => ∃ k : Nat, k ≤ l.length ∧ i = .int .i64 k ∧ wr.ownsRow w.heap.size 3 1 o ((l.take k).filter p).length (((l.take k).filter p).map nv) ∧ Below w.heap.size w wr) (fun _ i _ => l.length - (intOf i).toNat)
  case atStart => exact ⟨0, Nat.zero_le _, rfl, World.ownsRow_nil _ _ _ _, Below.refl _ _⟩
  case round =>
    rename_i o _
    obtain ⟨k, hk, rfl, hown, hbel⟩ := hrel
    have Hbel := Lib.hid hbel
    by_cases hlt : k < l.length
    · obtain ⟨ad, c', hs, hcap, hcell⟩ := sl_cell (H.out.below hbel) k hlt
      simp only [Value.slice.injEq, true_and] at hs
      obtain ⟨rfl, rfl⟩ := hs
      have hnext := filter_next (p := p) hlt
      have hle := filter_le (p := p) (l := l) (k := k)
      have hpx : p l[k] = ((fun x : Nat => rhas b x)) l[k] := by rw [Hp.out]
      generalize l[k] = x at *
      generalize (l.take k).filter p = out at *
      have Hnext := Lib.hid hnext
      have hsz := hbel.size
      unfold nv at hcell
      clear hnext hbel
      cases hx : p x with
      | true =>
        rw [hx] at Hnext hpx
        rw [if_pos rfl] at Hnext
        have Hpx := Lib.hid hpx
        clear hpx hx
        go_wp2_with fail
        refine (rhas_any vb b (x : Int) _ (Hb.out.below Hbel.out) lb).mono ?_
        rintro e w1 ⟨rfl, rfl⟩
        rw [show rhas b (x : Int) = true from Hpx.out.symm]
        go_wp2_with (at_builtin; refine app1S rfl _ _ 25 rfl 3 (.int .i64 0) 8 info_int rfl (by kernel_rfl) w.heap.size _ _ _ rfl hown (.int .i64 (x : Int)) rfl rfl (by omega) (by omega) hsz ?_; intro v' w2 hown2 hfr)
        have Hb2 := Lib.hid (Hbel.out.trans ((hfr.below hsz)))
        have Hown2 := Lib.hid hown2
        clear hown2 hfr hown
        go_roundw
        case rel => exact ⟨k + 1, by omega, by go_num, by rw [Hnext.out, List.length_append, List.map_append]; exact Hown2.out, Hb2.out⟩
        case measure => simp [intOf]; omega
      | false =>
        rw [hx] at Hnext hpx
        rw [if_neg (by decide), List.append_nil] at Hnext
        have Hpx := Lib.hid hpx
        have Hown := Lib.hid hown
        clear hpx hx hown
        go_wp2_with fail
        refine (rhas_any vb b (x : Int) _ (Hb.out.below Hbel.out) lb).mono ?_
        rintro e w1 ⟨rfl, rfl⟩
        rw [show rhas b (x : Int) = false from Hpx.out.symm]
        go_wp2
        go_roundw
        case rel => exact ⟨k + 1, by omega, by go_num, by rw [Hnext.out]; exact Hown.out, Hbel.out⟩
        case measure => simp [intOf]; omega
    · rw [List.take_of_length_le (by omega)] at hown
      have Hown := Lib.hid hown
      clear hown hbel
      go_wp2
      go_ret
      exact ⟨_, rfl, Sl.of_own Hown.out, Hbel.out⟩
set_option maxHeartbeats 1000000 in
theorem rminus_any (v vb : Value) (l b : List Nat) (w : World) (h : Sl nv w v l) (hb : Sl nv w vb b) (hl : l.length ≤ 10000) (lb : b.length ≤ 10000) :
    Calls Tryd.prog 20 #[v, vb] w (LGot w (l.filter (fun x : Nat => !rhas b x))) := by
  obtain ⟨A, c, rfl⟩ := h.shape
  have H := Lib.hid h
  have Hb := Lib.hid hb
  clear hb
  clear h
  obtain ⟨p, hp⟩ : ∃ p : Nat → Bool, p = (fun x : Nat => !rhas b x) := ⟨_, rfl⟩
  rw [← hp]
  have Hp := Lib.hid hp
  clear hp
  go_enter Tryd.func20, Tryd.ntmps20
  go_wp2
  go_loopw [5, 6] (fun o i wr => ∃ k : Nat, k ≤ l.length ∧ i = .int .i64 k ∧ wr.ownsRow w.heap.size 3 1 o ((l.take k).filter p).length (((l.take k).filter p).map nv) ∧ Below w.heap.size w wr) (fun _ i _ => l.length - (intOf i).toNat)
  case atStart => exact ⟨0, Nat.zero_le _, rfl, World.ownsRow_nil _ _ _ _, Below.refl _ _⟩
  case round =>
    rename_i o _
    obtain ⟨k, hk, rfl, hown, hbel⟩ := hrel
    have Hbel := Lib.hid hbel
    by_cases hlt : k < l.length
    · obtain ⟨ad, c', hs, hcap, hcell⟩ := sl_cell (H.out.below hbel) k hlt
      simp only [Value.slice.injEq, true_and] at hs
      obtain ⟨rfl, rfl⟩ := hs
      have hnext := filter_next (p := p) hlt
      have hle := filter_le (p := p) (l := l) (k := k)
      have hpx : p l[k] = ((fun x : Nat => !rhas b x)) l[k] := by rw [Hp.out]
      generalize l[k] = x at *
      generalize (l.take k).filter p = out at *
      have Hnext := Lib.hid hnext
      have hsz := hbel.size
      unfold nv at hcell
      clear hnext hbel
      cases hx : p x with
      | true =>
        rw [hx] at Hnext hpx
        rw [if_pos rfl] at Hnext
        have hpy : rhas b (x : Int) = !true := by rw [hpx]; simp
        have Hpy := Lib.hid hpy
        clear hpy
        have Hpx := Lib.hid hpx
        clear hpx hx
        go_wp2_with fail
        refine (rhas_any vb b (x : Int) _ (Hb.out.below Hbel.out) lb).mono ?_
        rintro e w1 ⟨rfl, rfl⟩
        rw [show rhas b (x : Int) = false from Hpy.out]
        go_wp2_with (at_builtin; refine app1S rfl _ _ 25 rfl 3 (.int .i64 0) 8 info_int rfl (by kernel_rfl) w.heap.size _ _ _ rfl hown (.int .i64 (x : Int)) rfl rfl (by omega) (by omega) hsz ?_; intro v' w2 hown2 hfr)
        have Hb2 := Lib.hid (Hbel.out.trans ((hfr.below hsz)))
        have Hown2 := Lib.hid hown2
        clear hown2 hfr hown
        go_roundw
        case rel => exact ⟨k + 1, by omega, by go_num, by rw [Hnext.out, List.length_append, List.map_append]; exact Hown2.out, Hb2.out⟩
        case measure => simp [intOf]; omega
      | false =>
        rw [hx] at Hnext hpx
        rw [if_neg (by decide), List.append_nil] at Hnext
        have hpy : rhas b (x : Int) = !false := by rw [hpx]; simp
        have Hpy := Lib.hid hpy
        clear hpy
        have Hpx := Lib.hid hpx
        have Hown := Lib.hid hown
        clear hpx hx hown
        go_wp2_with fail
        refine (rhas_any vb b (x : Int) _ (Hb.out.below Hbel.out) lb).mono ?_
        rintro e w1 ⟨rfl, rfl⟩
        rw [show rhas b (x : Int) = true from Hpy.out]
        go_wp2
        go_roundw
        case rel => exact ⟨k + 1, by omega, by go_num, by rw [Hnext.out]; exact Hown.out, Hbel.out⟩
        case measure => simp [intOf]; omega
    · rw [List.take_of_length_le (by omega)] at hown
      have Hown := Lib.hid hown
      clear hown hbel
      go_wp2
      go_ret
      exact ⟨_, rfl, Sl.of_own Hown.out, Hbel.out⟩
theorem rsub_any (v vb : Value) (l b : List Nat) (w : World) (h : Sl nv w v l) (hb : Sl nv w vb b) (hl : l.length ≤ 10000) (lb : b.length ≤ 10000) :
    Calls Tryd.prog 22 #[v, vb] w fun e w' => e = .returned (.bool (decide ((l.filter fun x : Nat => !rhas b x).length = 0))) ∧ Below w.heap.size w w' := by
  have H := Lib.hid h; have Hb := Lib.hid hb
  clear h hb
  obtain ⟨n, hn⟩ : ∃ n, (l.filter fun x : Nat => !rhas b x).length = n := ⟨_, rfl⟩
  rw [hn]
  go_enter Tryd.func22, Tryd.ntmps22
  go_wp2_with fail
  refine (rminus_any v vb l b _ H.out Hb.out hl lb).mono ?_
  rintro e w1 ⟨v1, rfl, h1, hb1⟩
  obtain ⟨A, c, rfl⟩ := h1.shape
  rw [hn]
  have Hb1 := Lib.hid hb1
  clear h1 hb1 hn
  go_wp2
  go_ret
  exact ⟨congrArg (fun b => Ending.returned (Value.bool b)) (by rw [Bool.eq_iff_iff, beq_iff_eq, decide_eq_true_iff]; omega), Hb1.out⟩
end Go.Proofs.YtaedijblgogmmaaDoor
