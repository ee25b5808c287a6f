/- Layer 13: Holds (tools/gen_zh.py). -/
import Derived.Test.YteoddcamicmapaaZnPj
import Derived.Test.YteoddcamicmapaaZnAw
namespace Go.Proofs.Yteoddcamicmapaa
open Go.RowKit

def nmB (vs : List Int) (i : Nat) : Int := ((0 : Int) :: vs).getD i 0
def dfB (vs : List Int) (i j : Nat) : Int := nmB vs i - nmB vs j
def InV (x : Int) : Prop := -10000 ≤ x ∧ x ≤ 10000
instance (x : Int) : Decidable (InV x) := by unfold InV; infer_instance
/-- Holds. -/
noncomputable def holdsR (N : Int) (b vs : List Int) : Bool := (zvB N b && decide ((vs.length : Int) = N)) && (decide (∀ x ∈ vs, InV x) && perB (N + 1).toNat (dfB vs) b)
theorem ent_holds1 : Ent 60 := fun args w => enters_of Try.func60 (by kernel_rfl) rfl args w
theorem nm_in {vs : List Int} (h : ∀ x ∈ vs, InV x) (i : Nat) : InV (nmB vs i) := by
  unfold nmB
  rw [List.getD_eq_getElem?_getD]
  cases hi : ((0 : Int) :: vs)[i]? with
  | none => simp [InV]
  | some x =>
    have := List.mem_of_getElem? hi
    rcases List.mem_cons.1 this with rfl | h2
    · simp [InV]
    · exact h x h2
set_option maxRecDepth 20000 in
set_option maxHeartbeats 400000 in
theorem holds1_any (i j nb : Nat) (u : Value) (vs : List Int) (w : World) (h : Sl iv w u ((0 : Int) :: vs)) (hb : w.cell? ⟨nb, 0, none⟩ = some u) (hv : ∀ x ∈ vs, InV x) (hi : i ≤ vs.length) (hj : j ≤ vs.length) :
    Calls Try.prog 60 #[.int .i64 (i : Int), .int .i64 (j : Int), .pointer (some ⟨nb, 0, none⟩)] w (Tells w (.int .i64 (dfB vs i j))) := by
  have b1 := nm_in hv i
  have b2 := nm_in hv j
  obtain ⟨l, hll⟩ : ∃ l, l = (0 : Int) :: vs := ⟨_, rfl⟩
  have hlen : l.length = vs.length + 1 := by rw [hll]; rfl
  have e1 : ∀ (k : Nat) (hk : k < l.length), l[k] = nmB vs k := fun k hk => by unfold nmB; rw [← hll, List.getD_eq_getElem?_getD, List.getElem?_eq_getElem hk]; rfl
  rw [← hll] at h
  obtain ⟨ad, c, rfl, -, ci⟩ := sl_cell h i (by omega)
  obtain ⟨ad', c', hs, -, cj⟩ := sl_cell h j (by omega)
  simp only [Value.slice.injEq, Option.some.injEq, true_and] at hs
  obtain ⟨rfl, rfl⟩ := hs
  rw [e1 i (by omega)] at ci
  rw [e1 j (by omega)] at cj
  unfold iv at ci cj
  unfold dfB
  generalize nmB vs i = yi at *
  generalize nmB vs j = yj at *
  have HCI := Lib.hid ci
  have HCJ := Lib.hid cj
  have HB := Lib.hid hb
  have HW := Lib.hid (show IntKind.i64.wrap (yi - yj) = yi - yj from by rw [IntKind.wrap_i64]; unfold InV at b1 b2; omega)
  have hi0 : (0 : Int) ≤ (i : Int) := by omega
  have hi1 : (i : Int) < (l.length : Int) := by omega
  have hj0 : (0 : Int) ≤ (j : Int) := by omega
  have hj1 : (j : Int) < (l.length : Int) := by omega
  clear h hb hv ci cj e1 hll b1 b2 hlen
  go_enter Try.func60, Try.ntmps60
  go_wp2_with fail
  refine region_phi (n := 15) (Wd [(false, .slice (some ad) l.length c),
      (false, .int .i64 (i : Int)),
      (false, .pointer (some (ad.add i))),
      (false, .int .i64 yi),
      (false, .slice (some ad) l.length c),
      (false, .int .i64 (j : Int)),
      (false, .pointer (some (ad.add j))),
      (false, .int .i64 yj),
      (false, .int .i64 (yi - yj)),
      (false, .int .i64 (yi - yj))]) (by kernel_rfl) (by kernel_rfl) rfl (fun _ _ _ _ h _ => h) (allOps_spec ?_) ?_
  · refine ⟨?_, ?_, ?_, ?_, ?_, ?_, ?_, ?_, ?_, ?_, trivial⟩
    · intro ac w' hb hp
      have b2 : ac.tmps[2]?.getD undef = .pointer (some ⟨nb, 0, none⟩) := hb.at 2 (by kernel_rfl)
      have q0 := (hb.ext.cell (World.block_lt_of_cell? _ _ HB.out)).trans HB.out
      exact wd_run rfl rfl (by simp [execOp, go_sem, Act.eval, b2, q0])
    · intro ac w' hb hp
      have b0 : ac.tmps[0]?.getD undef = .int .i64 (i : Int) := hb.at 0 (by kernel_rfl)
      exact wd_run rfl rfl (by simp [execOp, go_sem, Act.eval, b0])
    · exact fun ac w' hb hp => wd_run rfl rfl (by simp [execOp, go_sem, Act.eval, wd_get (hp ⟨0, .data⟩ (by simp) rfl _ rfl) rfl rfl, wd_get (hp ⟨1, .data⟩ (by simp) rfl _ rfl) rfl rfl, hi0, hi1])
    · intro ac w' hb hp
      have qc := (hb.ext.cell (World.block_lt_of_cell? _ _ HCI.out)).trans HCI.out
      exact wd_run rfl rfl (by simp [execOp, go_sem, Act.eval, wd_get (hp ⟨2, .data⟩ (by simp) rfl _ rfl) rfl rfl, qc])
    · intro ac w' hb hp
      have b2 : ac.tmps[2]?.getD undef = .pointer (some ⟨nb, 0, none⟩) := hb.at 2 (by kernel_rfl)
      have q0 := (hb.ext.cell (World.block_lt_of_cell? _ _ HB.out)).trans HB.out
      exact wd_run rfl rfl (by simp [execOp, go_sem, Act.eval, b2, q0])
    · intro ac w' hb hp
      have b1 : ac.tmps[1]?.getD undef = .int .i64 (j : Int) := hb.at 1 (by kernel_rfl)
      exact wd_run rfl rfl (by simp [execOp, go_sem, Act.eval, b1])
    · exact fun ac w' hb hp => wd_run rfl rfl (by simp [execOp, go_sem, Act.eval, wd_get (hp ⟨4, .data⟩ (by simp) rfl _ rfl) rfl rfl, wd_get (hp ⟨5, .data⟩ (by simp) rfl _ rfl) rfl rfl, hj0, hj1])
    · intro ac w' hb hp
      have qc := (hb.ext.cell (World.block_lt_of_cell? _ _ HCJ.out)).trans HCJ.out
      exact wd_run rfl rfl (by simp [execOp, go_sem, Act.eval, wd_get (hp ⟨6, .data⟩ (by simp) rfl _ rfl) rfl rfl, qc])
    · exact fun ac w' hb hp => wd_run rfl rfl (by simp [execOp, go_sem, Act.eval, wd_get (hp ⟨3, .data⟩ (by simp) rfl _ rfl) rfl rfl, wd_get (hp ⟨7, .data⟩ (by simp) rfl _ rfl) rfl rfl, HW.out])
    · exact fun ac w' hb hp => wd_run rfl rfl (by simp [execOp, go_sem, Act.eval, wd_get (hp ⟨8, .data⟩ (by simp) rfl _ rfl) rfl rfl])
  · intro vs w2 hext hall
    have HEXT := Lib.hid hext
    have e9 : vs 9 = .int .i64 (yi - yj) := hall 9 (by decide) rfl
    clear hext hall
    simp only [putAll, Act.put, List.setIfInBounds_toArray, List.set_cons_zero, List.set_cons_succ, Nat.zero_add, Nat.reduceAdd, e9]
    clear e9
    go_wp2_with fail
    go_ret
    exact ⟨rfl, HEXT.out⟩
theorem fn_holds1 (nb : Nat) (u : Value) (vs : List Int) (w0 : World) (h : Sl iv w0 u ((0 : Int) :: vs)) (hb : w0.cell? ⟨nb, 0, none⟩ = some u) (hv : ∀ x ∈ vs, InV x) :
    FnAt 60 #[] #[.pointer (some ⟨nb, 0, none⟩)] w0 (vs.length + 1) (dfB vs) := fun i j hi hj w hw => by
  have e : (#[] : Array Value) ++ #[.int .i64 (i : Int), .int .i64 (j : Int)] ++ #[.pointer (some ⟨nb, 0, none⟩)] = #[.int .i64 (i : Int), .int .i64 (j : Int), .pointer (some ⟨nb, 0, none⟩)] := by simp
  rw [e]
  exact holds1_any i j nb u vs w (h.below hw) ((hw.cell (World.block_lt_of_cell? _ _ hb)).trans hb) hv (by omega) (by omega)
set_option maxRecDepth 20000 in
set_option maxHeartbeats 1000000 in
theorem holds_any (N : Int) (v u : Value) (b vs : List Int) (w : World) (h : Sl iv w v b) (hl : b.length ≤ 9223372036854775807) (h2 : Sl iv w u vs) (hl2 : vs.length ≤ 9223372036854775807) :
    Calls Try.prog 39 #[.agg #[.int .i64 N, v], u] w (Tells w (.bool (holdsR N b vs))) := by
  obtain ⟨A, c, rfl⟩ := h.shape
  obtain ⟨A2, c2, rfl⟩ := h2.shape
  have H := Lib.hid h
  have H2 := Lib.hid h2
  clear h h2
  obtain ⟨R, hR⟩ : ∃ R, R = holdsR N b vs := ⟨_, rfl⟩
  rw [← hR]
  unfold holdsR at hR
  have HX := Lib.hid (Bx.new w 29 #[.int .i64 N, .slice A b.length c])
  cases hp : zvB N b with
  | false =>
    rw [hp, Bool.false_and, Bool.false_and] at hR
    subst hR
    have Hp := Lib.hid hp
    clear hp HX
    go_enter Try.func39, Try.ntmps39
    go_wp2_with fail
    refine (valid_any N _ b _ (H.out.below (al1 w _)) hl).mono ?_; rintro e w1 ⟨rfl, hb⟩; rw [Hp.out]
    have HB := Lib.hid ((al1 w (.cells #[.int .i64 N, .slice A b.length c] 29)).trans (hb.mono (by simp)))
    clear hb
    go_wp2
    go_ret
    exact Tells.of HB.out
  | true =>
    obtain ⟨m, rfl, hm, hlen, hz⟩ := zv_nat hp
    have HZL := Lib.hid hlen
    rw [hp, Bool.true_and] at hR
    have Hp := Lib.hid hp
    clear hp hz hlen
    by_cases hvl : (vs.length : Int) = (m : Int)
    rotate_left
    · rw [decide_eq_false hvl, Bool.false_and] at hR
      subst hR
      have hne : ((vs.length : Int) != (m : Int)) = true := by rw [bne_iff_ne]; exact hvl
      clear hvl
      go_enter Try.func39, Try.ntmps39
      go_wp2_with fail
      refine (valid_any m _ b _ (H.out.below (al1 w _)) hl).mono ?_; rintro e w1 ⟨rfl, hb⟩; rw [Hp.out]
      have HB := Lib.hid ((al1 w (.cells #[.int .i64 (m : Int), .slice A b.length c] 29)).trans (hb.mono (by simp)))
      obtain ⟨x0, x1⟩ := (HX.out.below hb).k2
      clear hb HX
      go_wp2
      go_ret
      exact Tells.of HB.out
    rw [decide_eq_true hvl, Bool.true_and] at hR
    obtain rfl : vs.length = m := by omega
    rw [show ((vs.length : Int) + 1).toNat = vs.length + 1 by omega] at hR
    have HR := Lib.hid hR
    have hne : ((vs.length : Int) != (vs.length : Int)) = false := by rw [bne_eq_false_iff_eq]
    clear hvl hR
    go_enter Try.func39, Try.ntmps39
    go_wp2_with fail
    refine (valid_any (vs.length : Int) _ b _ (H.out.below (al1 w _)) hl).mono ?_; rintro e w1 ⟨rfl, hb⟩; rw [Hp.out]
    have HB := Lib.hid ((al1 w (.cells #[.int .i64 (vs.length : Int), .slice A b.length c] 29)).trans (hb.mono (by simp)))
    have HX1 := Lib.hid (HX.out.below hb)
    obtain ⟨x0, x1⟩ := HX1.out.k2
    clear hb HX
    go_wp2_with fail
    clear hne
    go_loop [20] (fun i => ∃ k : Nat, k ≤ vs.length ∧ i = .int .i64 k ∧ ∀ x ∈ vs.take k, InV x) (fun i => vs.length - (intOf i).toNat)
    case atStart => exact ⟨0, Nat.zero_le _, rfl, by intro x hx; simp at hx⟩
    case round =>
      obtain ⟨k, hk, rfl, hall⟩ := hrel
      have Hall := Lib.hid hall; clear hall
      by_cases hlt : k < vs.length
      · obtain ⟨ad, c', hs, hcap, hcell⟩ := sl_cell (H2.out.below HB.out) k hlt
        simp only [Value.slice.injEq, true_and] at hs
        obtain ⟨rfl, rfl⟩ := hs
        have Hn := Lib.hid (fun h => take_ok hlt Hall.out h)
        have Hb := Lib.hid (show ¬ InV vs[k] → R = false from fun h => by
          rw [HR.out, decide_eq_false (p := ∀ x ∈ vs, InV x) (fun h2 => h (h2 _ (List.getElem_mem hlt))), Bool.false_and])
        generalize vs[k] = x at *
        unfold iv at hcell
        clear x0 x1
        by_cases hx : InV x
        · have Hn2 := Lib.hid (Hn.out hx)
          unfold InV at hx
          obtain ⟨h0, h1⟩ := hx
          clear Hn Hb
          go_wp2
          go_round
          case rel => exact ⟨k + 1, by omega, by go_num, Hn2.out⟩
          case measure => simp [intOf]; omega
        · have hr := Hb.out hx
          subst hr
          unfold InV at hx
          by_cases h0 : x < -10000
          · clear hx Hn Hb
            go_wp2
            go_ret
            exact Tells.of HB.out
          · have h1 : ¬ x ≤ 10000 := fun h => hx ⟨by omega, h⟩
            clear hx Hn Hb
            go_wp2
            go_ret
            exact Tells.of HB.out
      · have hall : ∀ x ∈ vs, InV x := by have := Hall.out; rwa [List.take_of_length_le (by omega)] at this
        have HA := Lib.hid hall
        have HR2 := Lib.hid (show R = perB (vs.length + 1) (dfB vs) b from by rw [HR.out, decide_eq_true hall, Bool.true_and])
        have hsn : Sl iv w1 (.slice A2 vs.length c2) vs := H2.out.below HB.out
        have hg0 : (w1.alloc (.cells #[.int .i64 0] 3)).ownsRow w1.heap.size 3 1 (.slice (some ⟨w1.heap.size, 0, none⟩) 1 1) 1 [.int .i64 0] := own_litS w1 _ _ 1 _ _ rfl rfl (by decide) rfl
        have hsm := hsn.below (al1 w1 (.cells #[.int .i64 0] 3))
        clear hall x0 x1 Hall
        go_wp2_with (at_builtin; refine appS (f := iv) rfl _ _ 22 rfl 3 (.int .i64 0) 8 info_int rfl (by kernel_rfl) (fun _ => rfl) w1.heap.size _ 1 _ rfl hg0 _ vs rfl hsm (by omega) (by omega) (by simp) ?_; intro v' w' hown hfr; obtain ⟨A9, c9, rfl⟩ := own_shapeG hown; have HB9 := Lib.hid (show Below w1.heap.size w1 w' from (al1 w1 _).trans (hfr.below (by simp))); obtain ⟨x0, x1⟩ := ((HX1.out.below HB9.out).alloc (.cells #[.slice A9 (1 + vs.length) c9] 22)).k2)
        have e1 : [Value.int .i64 0] ++ vs.map iv = ((0 : Int) :: vs).map iv := rfl
        rw [e1] at hown
        have HS9 := Lib.hid ((show Sl iv w' _ ((0 : Int) :: vs) from Sl.of_own hown).below (al1 w' (.cells #[.slice A9 (1 + vs.length) c9] 22)))
        have HBA := Lib.hid ((HB.out.trans (HB9.out.mono HB.out.size)).alloc (by have := HB.out.size; have := HB9.out.size; omega) (.cells #[.slice A9 (1 + vs.length) c9] 22))
        have HXA := Lib.hid ((HX1.out.below HB9.out).alloc (.cells #[.slice A9 (1 + vs.length) c9] 22))
        have HN := Lib.hid ((Bx.new w' 22 #[.slice A9 (1 + vs.length) c9]).cell 0)
        clear hown hfr hg0 hsm hsn e1
        refine (permits_any vs.length _ b _ (H.out.below HBA.out) hm HZL.out _ _ _ _ ent_holds1 (fn_holds1 w'.heap.size _ vs _ HS9.out HN.out HA.out)).mono ?_; rintro e w5 ⟨rfl, hb5⟩
        rw [← HR2.out]
        have HB5 := Lib.hid (HBA.out.trans (hb5.mono HBA.out.size))
        clear hb5 x0 x1
        go_wp2_with fail
        go_ret
        exact Tells.of HB5.out
end Go.Proofs.Yteoddcamicmapaa
