/- BitsLists: for every input the law returns true. -/
import Derived.Test.YtaedijblgogmmaaDoorBitsOps
import Derived.Test.YtaedijblgogmmaaDoorBitsMake
namespace Go.Proofs.YtaedijblgogmmaaDoor
open Go.RowKit

def wantS (o : List Nat) (n : Int) : List Nat := if 0 ≤ n ∧ n < 4096 then rwith o n.toNat else o
def wantM (l : List Int) : List Nat := l.foldl wantS []
theorem wantS_mem (o : List Nat) (n : Int) (m : Nat) : m ∈ wantS o n ↔ m ∈ o ∨ (m < 4096 ∧ (m : Int) = n) := by
  unfold wantS
  split
  · rename_i h
    rw [rwith_mem]
    constructor
    · rintro (h1 | h1)
      · exact .inl h1
      · exact .inr ⟨by omega, by omega⟩
    · rintro (h1 | h1)
      · exact .inl h1
      · exact .inr (by omega)
  · rename_i h
    constructor
    · exact .inl
    · rintro (h1 | ⟨h1, h2⟩)
      · exact h1
      · omega
theorem want_mem (l : List Int) (m : Nat) : ∀ o, m ∈ l.foldl wantS o ↔ m ∈ o ∨ (m < 4096 ∧ (m : Int) ∈ l) := by
  induction l with
  | nil => intro o; simp
  | cons n l ih =>
    intro o
    rw [List.foldl_cons, ih, wantS_mem, List.mem_cons, or_assoc]
    constructor
    · rintro (h | h | h)
      · exact .inl h
      · exact .inr ⟨h.1, .inl h.2⟩
      · exact .inr ⟨h.1, .inr h.2⟩
    · rintro (h | ⟨h, h1 | h1⟩)
      · exact .inl h
      · exact .inr (.inl ⟨h, h1⟩)
      · exact .inr (.inr ⟨h, h1⟩)
theorem wantM_mem (l : List Int) (m : Nat) : m ∈ wantM l ↔ m < 4096 ∧ (m : Int) ∈ l := by
  unfold wantM
  rw [want_mem]
  simp
theorem want_asc (l : List Int) : ∀ o, Asc o → Asc (l.foldl wantS o) := by
  induction l with
  | nil => intro o h; exact h
  | cons n l ih =>
    intro o h
    rw [List.foldl_cons]
    refine ih _ ?_
    unfold wantS
    split
    · exact rwith_asc h _
    · exact h
theorem want_len (l : List Int) : ∀ o : List Nat, (l.foldl wantS o).length ≤ o.length + l.length := by
  induction l with
  | nil => intro o; simp
  | cons n l ih =>
    intro o
    rw [List.foldl_cons]
    have h1 := ih (wantS o n)
    have h2 : (wantS o n).length ≤ o.length + 1 := by
      unfold wantS
      split
      · exact rgo_len _ _
      · omega
    simp only [List.length_cons]
    omega
theorem want_next {l : List Int} {k : Nat} (hk : k < l.length) : wantM (l.take (k + 1)) = wantS (wantM (l.take k)) l[k] := by
  unfold wantM
  rw [List.take_succ_eq_append_getElem hk, List.foldl_append]
  rfl
theorem want_els (l : List Int) : els (mk l) = wantM l := by
  refine asc_ext (els_asc _) (want_asc l [] (by simp [Asc])) fun m => ?_
  rw [mem_els, mk_has, wantM_mem, decide_eq_true_iff]
theorem want_has (l : List Int) (m : Nat) : has (mk l) m = decide (m ∈ wantM l) := by
  rw [mk_has, decide_eq_decide, wantM_mem]
theorem mk_back {a : List Nat} (ha : Fine a) : used (mk ((els a).map fun n : Nat => (n : Int))) = used a := by
  rw [used_iff, ← has_iff (mk_wds _) ha.1]
  intro m
  rw [mk_has, ← mem_has, decide_eq_decide]
  constructor
  · rintro ⟨_, h⟩
    obtain ⟨x, hx, e⟩ := List.mem_map.1 h
    obtain rfl : x = m := by omega
    exact hx
  · intro h
    exact ⟨els_lt h, List.mem_map.2 ⟨m, h, rfl⟩⟩
theorem valid_f {v : Value} {ws : List Nat} {w : World} (h : Sl uv w v ws) (hl : Room2 ws.length) (hc : Canon ws) : Calls Tryd.prog 29 #[v] w fun e w' => e = .returned (.bool true) ∧ w = w' := by
  have := valid_any v ws w h hl
  rwa [decide_eq_true (show ulen ws = ws.length from hc)] at this
theorem want_300 {l : List Int} (h : l.length ≤ 300) (k : Nat) : (wantM (l.take k)).length ≤ 300 := by
  have h1 := want_len (l.take k) []
  have h2 : (l.take k).length ≤ l.length := by simp; omega
  unfold wantM
  simp only [List.length_nil] at h1
  omega
theorem mk_fine (l : List Int) : Fine (mk l) := ⟨mk_wds l, Room2.le (by have := mk_len l; omega)⟩
set_option maxRecDepth 100000 in
set_option maxHeartbeats 4000000 in
theorem bitslists_walk (Al : Option Addr) (cl : Nat) (l : List Int) (Aa : Option Addr) (ca : Nat) (a : List Nat) (w : World) (hT : Tab w) (hl : Sl iv w (.slice Al l.length cl) l) (ll : l.length ≤ 17592186044000) (ha : Sl uv w (.slice Aa a.length ca) a) (wa : Wds a) (la : a.length ≤ 17592186044000) :
    Calls Tryd.prog 5 #[.slice Al l.length cl, .slice Aa a.length ca] w (Ok w) := by
  have fa : Fine a := ⟨wa, by unfold Room2; omega⟩
  have Ha := Lib.hid ha; have Fa := Lib.hid fa; have Hl := Lib.hid hl; have HT := Lib.hid hT
  have HB := Lib.hid (Below.refl w.heap.size w)
  clear hT ha wa la fa hl
  by_cases h300 : 300 < l.length
  · have d1 : decide ((300 : Int) < (l.length : Int)) = true := decide_eq_true (by omega)
    go_enter Tryd.func5, Tryd.ntmps5
    go_wp2_with fail
    refine (awake_any _ HT.out).mono ?_
    rintro e w1 ⟨rfl, hb⟩
    replace HB := Lib.hid (HB.out.trans (hb.mono HB.out.size))
    replace Ha := Lib.hid (Ha.out.below hb)
    replace Hl := Lib.hid (Hl.out.below hb)
    replace HT := Lib.hid (HT.out.below hb HT.out.size)
    clear hb
    go_wp2
    go_ret
    exact ⟨rfl, HB.out⟩
  have d1 : decide ((300 : Int) < (l.length : Int)) = false := decide_eq_false (by omega)
  by_cases hcc : a.length ≤ 70
  · have dcc := decide_eq_true (show a.length ≤ 70 ∧ 0 ≤ 70 from ⟨hcc, by decide⟩)
    clear hcc
    have HL3 := Lib.hid (Nat.le_of_not_lt h300)
    have rl : Hid (Room2 l.length) := by unfold Hid Room2; omega
    have LW := Lib.hid (want_300 (Nat.le_of_not_lt h300))
    have lw := LW.out
    have lwl : (wantM l).length ≤ 300 := by have := lw l.length; rwa [List.take_length] at this
    have LWL := Lib.hid lwl
    have lea := Lib.hid (els_len_le a)
    clear lw lwl h300
    go_enter Tryd.func5, Tryd.ntmps5
    go_wp2_with fail
    refine (awake_any _ HT.out).mono ?_
    rintro e w1 ⟨rfl, hb⟩
    replace HB := Lib.hid (HB.out.trans (hb.mono HB.out.size))
    replace Ha := Lib.hid (Ha.out.below hb)
    replace Hl := Lib.hid (Hl.out.below hb)
    replace HT := Lib.hid (HT.out.below hb HT.out.size)
    clear hb
    go_wp2_with fail
    refine (few_any _ _ _ _ _ _ _).mono ?_
    rintro e w2 ⟨rfl, rfl⟩
    rw [dcc]
    go_wp2_with fail
    refine (make_any _ l _ Hl.out rl.out).mono ?_
    rintro e w3 ⟨vs, rfl, hs, hb⟩
    have Hs := Lib.hid hs
    clear hs
    replace HB := Lib.hid (HB.out.trans (hb.mono HB.out.size))
    replace Ha := Lib.hid (Ha.out.below hb)
    replace Hl := Lib.hid (Hl.out.below hb)
    replace HT := Lib.hid (HT.out.below hb HT.out.size)
    clear hb
    go_wp2
    go_loopw [6, 23] (fun o i wr => ∃ k : Nat, k ≤ l.length ∧ i = .int .i64 k ∧ Sl nv wr o (wantM (l.take k)) ∧ Below w3.heap.size w3 wr) (fun _ i _ => l.length - (intOf i).toNat)
    case atStart => exact ⟨0, Nat.zero_le _, rfl, Sl.nil, Below.refl _ _⟩
    case round =>
      obtain ⟨k, hk, rfl, ho, hbel⟩ := hrel
      have Ho := Lib.hid ho
      have Hbel := Lib.hid hbel
      clear ho
      by_cases hlt : k < l.length
      · obtain ⟨ad, c', hs, hcap, hcell⟩ := sl_cell (Hl.out.below hbel) k hlt
        simp only [Value.slice.injEq, true_and] at hs
        obtain ⟨rfl, rfl⟩ := hs
        have hnext := want_next hlt
        have hlen := LW.out k
        generalize l[k] = x at *
        have Hnext := Lib.hid hnext
        generalize wantM (l.take k) = W at *
        unfold iv at hcell
        clear hbel hnext
        by_cases hx : 0 ≤ x ∧ x < 4096
        · obtain ⟨m, rfl⟩ : ∃ m : Nat, x = m := ⟨x.toNat, by omega⟩
          have e1 : decide (0 ≤ (m : Int)) = true := decide_eq_true hx.1
          have e2 : decide ((m : Int) < 4096) = true := decide_eq_true hx.2
          have hw : wantS W m = rwith W m := by unfold wantS; rw [if_pos hx]; rfl
          have Hw := Lib.hid hw
          clear hx hw
          go_wp2_with fail
          refine (rwith_any _ W m _ Ho.out (by omega)).mono ?_
          rintro e w9 ⟨v3, rfl, h3, hb3⟩
          have H3 := Lib.hid h3
          have Hb3 := Lib.hid (Hbel.out.trans (hb3.mono Hbel.out.size))
          clear h3 hb3
          go_wp2
          go_roundw
          case rel => exact ⟨k + 1, by omega, by go_num, by rw [Hnext.out, Hw.out]; exact H3.out, Hb3.out⟩
          case measure => simp [intOf]; omega
        · have hw : wantS W x = W := by unfold wantS; rw [if_neg hx]
          rw [hw] at Hnext
          by_cases hx0 : 0 ≤ x
          · have e1 : decide (0 ≤ x) = true := decide_eq_true hx0
            have e2 : decide (x < 4096) = false := decide_eq_false fun h => hx ⟨hx0, h⟩
            clear hx hx0 hw
            go_wp2
            go_roundw
            case rel => exact ⟨k + 1, by omega, by go_num, by rw [Hnext.out]; exact Ho.out, Hbel.out⟩
            case measure => simp [intOf]; omega
          · have e1 : decide (0 ≤ x) = false := decide_eq_false hx0
            clear hx hx0 hw
            go_wp2
            go_roundw
            case rel => exact ⟨k + 1, by omega, by go_num, by rw [Hnext.out]; exact Ho.out, Hbel.out⟩
            case measure => simp [intOf]; omega
      · rw [List.take_of_length_le (by omega)] at Ho
        clear hbel
        have Hwant := Ho
        clear Ho
        have hb := Hbel.out
        clear Hbel
        replace HB := Lib.hid (HB.out.trans (hb.mono HB.out.size))
        replace Ha := Lib.hid (Ha.out.below hb)
        replace Hl := Lib.hid (Hl.out.below hb)
        replace Hs := Lib.hid (Hs.out.below hb)
        replace HT := Lib.hid (HT.out.below hb HT.out.size)
        clear hb
        go_wp2_with fail
        refine (list_any _ a _ Ha.out Fa.out.2 Fa.out.1 HT.out).mono ?_
        rintro e w4 ⟨vx, rfl, hx, hb⟩
        have Hx := Lib.hid hx
        clear hx
        replace HB := Lib.hid (HB.out.trans (hb.mono HB.out.size))
        replace Ha := Lib.hid (Ha.out.below hb)
        replace Hl := Lib.hid (Hl.out.below hb)
        replace Hs := Lib.hid (Hs.out.below hb)
        replace Hwant := Lib.hid (Hwant.out.below hb)
        replace HT := Lib.hid (HT.out.below hb HT.out.size)
        clear hb
        go_wp2_with fail
        refine (make_any _ ((els a).map fun n : Nat => (n : Int)) _ Hx.out.nv_iv (by rw [List.length_map]; exact Room2.le4 lea.out)).mono ?_
        rintro e w5 ⟨vb, rfl, hbk, hb⟩
        have Hbk := Lib.hid hbk
        clear hbk
        replace HB := Lib.hid (HB.out.trans (hb.mono HB.out.size))
        replace Ha := Lib.hid (Ha.out.below hb)
        replace Hl := Lib.hid (Hl.out.below hb)
        replace Hs := Lib.hid (Hs.out.below hb)
        replace Hwant := Lib.hid (Hwant.out.below hb)
        replace Hx := Lib.hid (Hx.out.below hb)
        replace HT := Lib.hid (HT.out.below hb HT.out.size)
        clear hb
        go_wp2_with fail
        refine (lawsame_f Hs.out Hwant.out (Nat.le_trans LWL.out (by decide)) (fun n h => ((wantM_mem l n).1 h).1) (mk_canon l) (mk_wds l) (fun m hm => want_has l m)).mono ?_
        rintro e w6 ⟨rfl, hb⟩
        replace HB := Lib.hid (HB.out.trans (hb.mono HB.out.size))
        replace Ha := Lib.hid (Ha.out.below hb)
        replace Hl := Lib.hid (Hl.out.below hb)
        replace Hs := Lib.hid (Hs.out.below hb)
        replace Hwant := Lib.hid (Hwant.out.below hb)
        replace Hx := Lib.hid (Hx.out.below hb)
        replace Hbk := Lib.hid (Hbk.out.below hb)
        replace HT := Lib.hid (HT.out.below hb HT.out.size)
        clear hb
        go_wp2_with fail
        refine (valid_f Hs.out (mk_fine l).2 (mk_canon l)).mono ?_
        rintro e w7 ⟨rfl, rfl⟩
        go_wp2_with fail
        refine (list_any _ (mk l) _ Hs.out (mk_fine l).2 (mk_fine l).1 HT.out).mono ?_
        rintro e w8 ⟨vz, rfl, hz, hb⟩
        rw [want_els] at hz
        have Hz := Lib.hid hz
        clear hz
        replace HB := Lib.hid (HB.out.trans (hb.mono HB.out.size))
        replace Ha := Lib.hid (Ha.out.below hb)
        replace Hl := Lib.hid (Hl.out.below hb)
        replace Hs := Lib.hid (Hs.out.below hb)
        replace Hwant := Lib.hid (Hwant.out.below hb)
        replace Hx := Lib.hid (Hx.out.below hb)
        replace Hbk := Lib.hid (Hbk.out.below hb)
        replace HT := Lib.hid (HT.out.below hb HT.out.size)
        clear hb
        go_wp2_with fail
        refine (lsame_f Hz.out Hwant.out (Room2.le4 (Nat.le_trans LWL.out (by decide))) (Room2.le4 (Nat.le_trans LWL.out (by decide))) true (decide_eq_true rfl)).mono ?_
        rintro e w9 ⟨rfl, hb⟩
        replace HB := Lib.hid (HB.out.trans (hb.mono HB.out.size))
        replace Ha := Lib.hid (Ha.out.below hb)
        replace Hl := Lib.hid (Hl.out.below hb)
        replace Hs := Lib.hid (Hs.out.below hb)
        replace Hwant := Lib.hid (Hwant.out.below hb)
        replace Hx := Lib.hid (Hx.out.below hb)
        replace Hbk := Lib.hid (Hbk.out.below hb)
        replace Hz := Lib.hid (Hz.out.below hb)
        replace HT := Lib.hid (HT.out.below hb HT.out.size)
        clear hb
        go_wp2_with fail
        refine (equal_f Hbk.out Ha.out (mk_fine _) Fa.out true (decide_eq_true (mk_back Fa.out))).mono ?_
        rintro e w10 ⟨rfl, hb⟩
        replace HB := Lib.hid (HB.out.trans (hb.mono HB.out.size))
        replace Ha := Lib.hid (Ha.out.below hb)
        replace Hl := Lib.hid (Hl.out.below hb)
        replace Hs := Lib.hid (Hs.out.below hb)
        replace Hwant := Lib.hid (Hwant.out.below hb)
        replace Hx := Lib.hid (Hx.out.below hb)
        replace Hbk := Lib.hid (Hbk.out.below hb)
        replace Hz := Lib.hid (Hz.out.below hb)
        replace HT := Lib.hid (HT.out.below hb HT.out.size)
        clear hb
        go_wp2_with fail
        refine (valid_f Hbk.out (mk_fine _).2 (mk_canon _)).mono ?_
        rintro e w11 ⟨rfl, rfl⟩
        go_wp2
        go_ret
        exact ⟨rfl, HB.out⟩
  · have dcc : decide (a.length ≤ 70 ∧ 0 ≤ 70) = false := decide_eq_false fun h => hcc h.1
    clear hcc
    go_enter Tryd.func5, Tryd.ntmps5
    go_wp2_with fail
    refine (awake_any _ HT.out).mono ?_
    rintro e w1 ⟨rfl, hb⟩
    replace HB := Lib.hid (HB.out.trans (hb.mono HB.out.size))
    replace Ha := Lib.hid (Ha.out.below hb)
    replace Hl := Lib.hid (Hl.out.below hb)
    replace HT := Lib.hid (HT.out.below hb HT.out.size)
    clear hb
    go_wp2_with fail
    refine (few_any _ _ _ _ _ _ _).mono ?_
    rintro e w2 ⟨rfl, rfl⟩
    rw [dcc]
    go_wp2
    go_ret
    exact ⟨rfl, HB.out⟩
end Go.Proofs.YtaedijblgogmmaaDoor
