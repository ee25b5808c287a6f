/- The reference's Order on valid graphs. -/
import Derived.Test.YtnhhhnhakpambaaGraphMk
import Derived.Test.YtnhhhnhakpambaaGraphOrdM
namespace Go.Proofs.Ytnhhhnhakpambaa
open Go.RowKit

def lenOf (v : Value) : Nat := match v with | .slice _ n _ => n | _ => 0
theorem cand_has {g : List (List Nat)} {out : List Nat} {i : Nat} (h : rhas out (i : Int) = true) : cand g out i = false := by
  rw [Bool.eq_false_iff]
  intro hc
  have := ((cand_iff g out i).1 hc).1
  unfold rhas at h
  rw [List.any_eq_true] at h
  obtain ⟨x, hx, e⟩ := h
  rw [beq_iff_eq] at e
  exact this (by rwa [show i = x by omega])
theorem rhas_not {out : List Nat} {i : Nat} (h : rhas out (i : Int) = false) : i ∉ out := fun hm => by
  have : rhas out (i : Int) = true := by unfold rhas; rw [List.any_eq_true]; exact ⟨i, hm, by simp⟩
  rw [this] at h; cases h
theorem rhas_yes {out : List Nat} {i : Nat} (h : i ∈ out) : rhas out (i : Int) = true := by unfold rhas; rw [List.any_eq_true]; exact ⟨i, h, by simp⟩
theorem cand_sub {g : List (List Nat)} (hg : VG g) {out : List Nat} {i : Nat} (h : rhas out (i : Int) = false) : cand g out i = decide (((row (revM g) i).filter fun x : Nat => !rhas out x).length = 0) := by
  rw [Bool.eq_iff_iff, cand_iff, decide_eq_true_iff, List.length_eq_zero_iff, List.filter_eq_nil_iff]
  constructor
  · rintro ⟨_, h2⟩ x hx
    have := rhas_yes (h2 x ((revM_mem hg i x).1 hx))
    simp [this]
  · intro h2
    refine ⟨rhas_not h, fun m hm => ?_⟩
    have h3 := h2 m ((revM_mem hg i m).2 hm)
    cases hr : rhas out (m : Int) with
    | true =>
      unfold rhas at hr
      rw [List.any_eq_true] at hr
      obtain ⟨x, hx, e⟩ := hr
      rw [beq_iff_eq] at e
      rwa [show m = x by omega]
    | false => rw [hr] at h3; simp at h3
/-- The search for the least node that may come next. -/
def NxO (g : List (List Nat)) (out : List Nat) (i : Nat) (z : Int) : Prop := (z = -1 ∧ ∀ j, j < i → cand g out j = false) ∨ ∃ x : Nat, z = x ∧ x < i ∧ nxtO g out = some x
theorem nxo_end {g : List (List Nat)} {out : List Nat} (h : NxO g out g.length (-1)) : nxtO g out = none := by
  rcases h with ⟨_, h⟩ | ⟨x, h, _⟩
  · unfold nxtO
    rw [List.find?_eq_none]
    intro j hj
    rw [h j (List.mem_range.1 hj)]; simp
  · omega
theorem nxo_no {g : List (List Nat)} {out : List Nat} {i : Nat} (h : NxO g out i (-1)) (hc : cand g out i = false) : NxO g out (i + 1) (-1) := by
  rcases h with ⟨_, h⟩ | ⟨x, h, _⟩
  · refine .inl ⟨rfl, fun j hj => ?_⟩
    by_cases e : j = i
    · subst e; exact hc
    · exact h j (by omega)
  · omega
theorem nxo_yes {g : List (List Nat)} {out : List Nat} {i : Nat} (hi : i < g.length) (h : NxO g out i (-1)) (hc : cand g out i = true) : NxO g out (i + 1) (i : Int) := by
  rcases h with ⟨_, h⟩ | ⟨x, h, _⟩
  · refine .inr ⟨i, rfl, by omega, ?_⟩
    unfold nxtO
    rw [List.find?_range_eq_some]
    exact ⟨hc, List.mem_range.2 hi, fun j hj => by rw [h j hj]; rfl⟩
  · omega
theorem ord_step {g : List (List Nat)} {out : List Nat} {k : Nat} : ordM g (k + 1) out = match nxtO g out with | none => none | some x => ordM g k (out ++ [x]) := rfl
theorem rsub_d {va vb' : Value} {l b : List Nat} {w : World} {bb : Bool} (hz : decide ((l.filter fun x : Nat => !rhas b x).length = 0) = bb) (h : Sl nv w va l) (hb : Sl nv w vb' b) (hl : l.length ≤ 10000) (lb : b.length ≤ 10000) :
    Calls Try.prog 35 #[va, vb'] w (BoolB bb w) :=
  (rsub_any va vb' l b w h hb hl lb).mono fun _ _ ⟨h1, h2⟩ => ⟨by rw [h1, hz], h2⟩
set_option maxRecDepth 20000 in
set_option maxHeartbeats 4000000 in
theorem rorder_ok (v : Value) (g : List (List Nat)) (w : World) (h : Gr nv w v g) (hg : VG g) :
    Calls Try.prog 33 #[v] w (OrdP g w) := by
  obtain ⟨A, c, rfl⟩ := h.shape
  have H := Lib.hid h; have Hg := Lib.hid hg
  have hgl := hg.len
  obtain ⟨R, hR⟩ : ∃ R, ordM g g.length [] = R := ⟨_, rfl⟩
  have HR := Lib.hid hR
  clear h hg hR
  go_enter Try.func33, Try.ntmps33
  go_wp2_with fail
  refine (rback_ok _ g _ H.out Hg.out).mono ?_
  rintro e w1 ⟨Ab, cb, rfl, hback, hb⟩
  rw [revM_len] at hback ⊢
  have Hback := Lib.hid hback
  have HB := Lib.hid hb
  have hs1 := hb.size
  clear hb hback
  go_wp2
  go_loopw [6] (fun o wr => ∃ out : List Nat, out.length ≤ g.length ∧ ordM g (g.length - out.length) out = R ∧ wr.ownsRow w1.heap.size 3 1 o out.length (out.map nv) ∧ Below w1.heap.size w1 wr) (fun o _ => g.length - lenOf o)
  case atStart => exact ⟨[], by simp, HR.out, World.ownsRow_nil _ _ _ _, Below.refl _ _⟩
  case round =>
    obtain ⟨out, hol, hor, hown, hbel⟩ := hrel
    obtain ⟨Ao, co, rfl⟩ := (Sl.of_own hown).shape
    have Hown := Lib.hid hown; have Hbel := Lib.hid hbel
    have Hor := Lib.hid hor
    have hsz := hbel.size
    clear hown hor
    by_cases hlt : out.length < g.length
    · clear hbel
      obtain ⟨wo, rfl⟩ : ∃ wo : World, wo = wr := ⟨_, rfl⟩
      go_wp2
      go_loopw [7, 8] (fun nx i wi => ∃ (k : Nat) (z : Int), k ≤ g.length ∧ i = .int .i64 k ∧ nx = .int .i64 z ∧ Hid (NxO g out k z) ∧ Below wo.heap.size wo wi) (fun _ i _ => g.length - (intOf i).toNat)
      case atStart => exact ⟨0, -1, Nat.zero_le _, rfl, rfl, Lib.hid (.inl ⟨rfl, fun j hj => by omega⟩), Below.refl _ _⟩
      case round =>
        obtain ⟨k, z, hk, rfl, rfl, hnx, hbi⟩ := hrel
        have Hbi := Lib.hid hbi
        have hsi := hbi.size
        by_cases hz : z = -1
        · subst hz
          by_cases hltk : k < g.length
          · obtain ⟨ad, c', A', cr, hsq, hcap, hcell, hrow0⟩ := gr_cell ((Hback.out.below Hbel.out).below hbi) k (by rw [revM_len]; exact hltk)
            rw [revM_len] at hsq hcap
            simp only [Value.slice.injEq, true_and, Option.some.injEq] at hsq
            obtain ⟨rfl, rfl⟩ := hsq
            have Hrow0 := Lib.hid hrow0
            have hrl := (revM_vg Hg.out).row_len k
            rw [revM_len] at hrl
            clear hbi hrow0
            obtain ⟨bh, hbh⟩ : ∃ bh, rhas out (k : Int) = bh := ⟨_, rfl⟩
            have Hbh := Lib.hid hbh
            clear hbh
            go_wp2_with fail
            refine (rhas_b Hbh.out ((Sl.of_own Hown.out).below Hbi.out) (by omega)).mono ?_
            rintro e w5 ⟨rfl, rfl⟩
            cases bh with
            | true =>
              have Hn2 := Lib.hid (nxo_no hnx.out (cand_has Hbh.out))
              clear hnx
              go_wp2
              go_roundw
              case rel => exact ⟨k + 1, -1, by omega, by go_num, rfl, Hn2, Hbi.out⟩
              case measure => simp [intOf]; omega
            | false =>
              obtain ⟨bs, hbs⟩ : ∃ bs, cand g out k = bs := ⟨_, rfl⟩
              have Hbs := Lib.hid hbs
              have Hsb := Lib.hid ((cand_sub Hg.out Hbh.out).symm.trans hbs)
              clear hbs
              go_wp2_with fail
              refine (rsub_d Hsb.out Hrow0.out ((Sl.of_own Hown.out).below Hbi.out) (by omega) (by omega)).mono ?_
              rintro e w6 ⟨rfl, hb6⟩
              have Hb6 := Lib.hid (Hbi.out.trans (hb6.mono hsi))
              clear hb6
              cases bs with
              | true =>
                have Hn2 := Lib.hid (nxo_yes hltk hnx.out Hbs.out)
                clear hnx
                go_wp2
                go_roundw
                case rel => exact ⟨k + 1, k, by omega, by go_num, rfl, Hn2, Hb6.out⟩
                case measure => simp [intOf]; omega
              | false =>
                have Hn2 := Lib.hid (nxo_no hnx.out Hbs.out)
                clear hnx
                go_wp2
                go_roundw
                case rel => exact ⟨k + 1, -1, by omega, by go_num, rfl, Hn2, Hb6.out⟩
                case measure => simp [intOf]; omega
          · obtain rfl : k = g.length := by omega
            have hno := nxo_end hnx.out
            have hRn : R = none := by
              rw [← Hor.out, show g.length - out.length = (g.length - out.length - 1) + 1 by omega, ord_step, hno]
            have HRn := Lib.hid hRn
            clear hno hRn hbi hnx
            go_wp2
            go_ret2
            exact .inr ⟨HR.out.trans HRn.out, rfl, HB.out.trans ((Hbel.out.trans (Hbi.out.mono hsz)).mono hs1)⟩
        · obtain ⟨x, rfl, hxk, hnx2⟩ : ∃ x : Nat, z = x ∧ x < k ∧ nxtO g out = some x := by
            rcases hnx.out with ⟨h1, _⟩ | h1
            · exact absurd h1 hz
            · exact h1
          have hRs : ordM g (g.length - (out ++ [x]).length) (out ++ [x]) = R := by
            rw [← Hor.out, show g.length - out.length = (g.length - (out ++ [x]).length) + 1 by rw [List.length_append, List.length_singleton]; omega, ord_step, hnx2]
          have HRs := Lib.hid hRs
          have dx : decide ((x : Int) < 0) = false := decide_eq_false (by omega)
          have Hownk := Lib.hid (own_keep Hown.out hbi)
          have hsb : w1.heap.size ≤ wr.heap.size := Nat.le_trans hsz hsi
          clear hRs hnx2 hz hnx hbi
          go_wp2_with (at_builtin; refine app1S rfl _ _ 38 rfl 3 (.int .i64 0) 8 info_int rfl (by kernel_rfl) w1.heap.size _ _ _ rfl Hownk.out (.int .i64 (x : Int)) rfl rfl (by omega) (by omega) hsb ?_; intro v' w7 hown7 hfr7)
          all_goals
            obtain ⟨g7, cap7, rfl, _, _, _⟩ := own_shape hown7 (by omega)
            have hb7 := hfr7.below hsb
            have Hown7 := Lib.hid hown7
            have Hb7 := Lib.hid ((Hbel.out.trans (Hbi.out.mono hsz)).trans hb7)
            clear hown7 hfr7 hb7
            go_roundw
            case rel => exact ⟨out ++ [x], by rw [List.length_append, List.length_singleton]; omega, HRs.out, by rw [List.length_append, List.map_append]; exact Hown7.out, Hb7.out⟩
            case measure => simp [lenOf]; omega
    · have hRs : R = some out := by
        rw [← Hor.out, show g.length - out.length = 0 by omega]; rfl
      have HRs := Lib.hid hRs
      clear hbel hRs
      go_wp2
      go_ret2
      exact .inl ⟨out, _, HR.out.trans HRs.out, rfl, Sl.of_own Hown.out, HB.out.trans (Hbel.out.mono hs1)⟩
end Go.Proofs.Ytnhhhnhakpambaa
