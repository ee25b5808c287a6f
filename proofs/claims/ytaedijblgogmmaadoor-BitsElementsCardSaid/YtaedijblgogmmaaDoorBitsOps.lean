/- BitsOps: for every input the law returns true. -/
import Derived.Test.YtaedijblgogmmaaDoorBitsAlg
import Derived.Test.YtaedijblgogmmaaDoorBitsWords
import Derived.Test.YtaedijblgogmmaaDoorBitsCmp
namespace Go.Proofs.YtaedijblgogmmaaDoor
open Go.RowKit

theorem lsame_f {va vb : Value} {a b : List Nat} {w : World} (ha : Sl nv w va a) (hb : Sl nv w vb b) (la : Room2 a.length) (lb : Room2 b.length) (r : Bool) (hr : decide (a = b) = r) : Calls Tryd.prog 24 #[va, vb] w fun e w' => e = .returned (.bool r) ∧ Below w.heap.size w w' :=
  (same_any va vb a b w ha hb la lb).mono fun _ _ ⟨he, m, hm⟩ => ⟨hr ▸ he, by rw [hm]; exact below_drewN (Below.refl _ _) m⟩
theorem rcompare_f {va vb : Value} {a b : List Nat} {w : World} (ha : Sl nv w va a) (hb : Sl nv w vb b) (la : a.length ≤ 10000) (lb : b.length ≤ 10000) (X : Int) (hX : lexc a b = X) : Calls Tryd.prog 26 #[va, vb] w fun e w' => e = .returned (.int .i64 X) ∧ Below w.heap.size w w' :=
  (rcompare_any va vb a b w ha hb la lb).mono fun _ _ ⟨he, m, hm⟩ => ⟨hX ▸ he, by rw [hm]; exact below_drewN (Below.refl _ _) m⟩
theorem els_lt {a : List Nat} {n : Nat} (h : n ∈ els a) : n < 4096 := by
  unfold els elsW at h
  have := List.mem_range.1 (List.mem_filter.1 h).1
  omega
theorem Room2.le4 {n : Nat} (h : n ≤ 4096) : Room2 n := by unfold Room2; omega
theorem o_ult {a b : List Nat} {n : Nat} (h : n ∈ runion (els a) (els b)) : n < 4096 := by
  rcases (runion_mem _ _ _).1 h with h | h
  · exact els_lt h
  · exact els_lt h
theorem mem_has (a : List Nat) (m : Nat) : decide (m ∈ els a) = has a m := by
  rw [Bool.eq_iff_iff, decide_eq_true_iff, mem_els]
theorem rhas_els (b : List Nat) (m : Nat) : rhas (els b) (m : Int) = has b m := by
  rw [← mem_has, Bool.eq_iff_iff, decide_eq_true_iff]
  unfold rhas
  rw [List.any_eq_true]
  constructor
  · rintro ⟨x, hx, h⟩
    rw [beq_iff_eq] at h
    obtain rfl : x = m := by omega
    exact hx
  · intro h
    exact ⟨m, h, by simp⟩
theorem o_u (a b : List Nat) (m : Nat) (_ : m < 4096) : has (SU a b) m = decide (m ∈ runion (els a) (els b)) := by
  rw [hasU, ← mem_has, ← mem_has, Bool.eq_iff_iff]
  simp only [Bool.or_eq_true, decide_eq_true_iff, runion_mem]
theorem o_i (a b : List Nat) (m : Nat) : has (SI a b) m = decide (m ∈ (els a).filter fun x : Nat => rhas (els b) x) := by
  rw [hasI', ← mem_has a, Bool.eq_iff_iff]
  simp only [Bool.and_eq_true, decide_eq_true_iff, List.mem_filter, rhas_els]
theorem o_m (a b : List Nat) (m : Nat) : has (SM a b) m = decide (m ∈ (els a).filter fun x : Nat => !rhas (els b) x) := by
  rw [hasM, ← mem_has a, Bool.eq_iff_iff]
  simp only [Bool.and_eq_true, decide_eq_true_iff, List.mem_filter, rhas_els]
theorem o_sub {a b : List Nat} (fa : Fine a) (fb : Fine b) : decide (((els a).filter fun x : Nat => !rhas (els b) x).length = 0) = subM a b := by
  rw [f_sub1 fa fb, slen_els, decide_eq_decide, List.length_eq_zero_iff, List.length_eq_zero_iff]
  have key : ∀ m, m ∈ els (SM a b) ↔ m ∈ (els a).filter fun x : Nat => !rhas (els b) x := fun m => by
    have := o_m a b m
    rw [← mem_has, decide_eq_decide] at this
    exact this
  constructor
  · intro h
    rw [List.eq_nil_iff_forall_not_mem] at h ⊢
    exact fun m hm => h m ((key m).1 hm)
  · intro h
    rw [List.eq_nil_iff_forall_not_mem] at h ⊢
    exact fun m hm => h m ((key m).2 hm)
set_option maxRecDepth 100000 in
set_option maxHeartbeats 4000000 in
theorem bitsops_walk (Aa : Option Addr) (ca : Nat) (a : List Nat) (Ab : Option Addr) (cb : Nat) (b : List Nat) (w : World) (hT : Tab w) (ha : Sl uv w (.slice Aa a.length ca) a) (wa : Wds a) (la : a.length ≤ 17592186044000) (hb : Sl uv w (.slice Ab b.length cb) b) (wb : Wds b) (lb : b.length ≤ 17592186044000) :
    Calls Tryd.prog 3 #[.slice Aa a.length ca, .slice Ab b.length cb] w (Ok w) := by
  have fa : Fine a := ⟨wa, by unfold Room2; omega⟩
  have Ha := Lib.hid ha; have Fa := Lib.hid fa
  have fb : Fine b := ⟨wb, by unfold Room2; omega⟩
  have Hb := Lib.hid hb; have Fb := Lib.hid fb
  have HT := Lib.hid hT
  have HB := Lib.hid (Below.refl w.heap.size w)
  clear hT ha wa la fa hb wb lb fb
  by_cases hab : a.length ≤ 70 ∧ b.length ≤ 70
  · have dab := decide_eq_true hab
    clear hab
    obtain ⟨X, hX⟩ : ∃ X, lexc (els a) (els b) = X := ⟨_, rfl⟩
    obtain ⟨r1, hr1⟩ : ∃ r, subM a b = r := ⟨_, rfl⟩
    obtain ⟨r2, hr2⟩ : ∃ r, decide (used a = used b) = r := ⟨_, rfl⟩
    have hq1 : decide (((els a).filter fun x : Nat => !rhas (els b) x).length = 0) = r1 := (o_sub Fa.out Fb.out).trans hr1
    have hq2 : decide (els a = els b) = r2 := by rw [← hr2, decide_eq_decide]; exact els_iff Fa.out.1 Fb.out.1
    have EX := Lib.hid hX; have R1 := Lib.hid hr1; have R2 := Lib.hid hr2; have Q1 := Lib.hid hq1; have Q2 := Lib.hid hq2
    have la := Lib.hid (Nat.le_trans (els_len_le a) (by decide : 4096 ≤ 10000)); have lb := Lib.hid (Nat.le_trans (els_len_le b) (by decide : 4096 ≤ 10000))
    have lab : Hid ((els a).length + (els b).length ≤ 10000) := by have h1 := els_len_le a; have h2 := els_len_le b; exact Nat.le_trans (Nat.add_le_add h1 h2) (by decide)
    have lu := Lib.hid (Nat.le_trans (runion_len (els b) (els a)) lab.out)
    have rla : Hid (Room2 (els a).length) := Room2.le4 (els_len_le a)
    have rlb : Hid (Room2 (els b).length) := Room2.le4 (els_len_le b)
    clear hX hr1 hr2 hq1 hq2
    go_enter Tryd.func3, Tryd.ntmps3
    go_wp2_with fail
    refine (awake_any _ HT.out).mono ?_
    rintro e w1 ⟨rfl, hb⟩
    replace HB := Lib.hid (HB.out.trans (hb.mono HB.out.size))
    replace Ha := Lib.hid (Ha.out.below hb)
    replace Hb := Lib.hid (Hb.out.below hb)
    replace HT := Lib.hid (HT.out.below hb HT.out.size)
    clear hb
    go_wp2_with fail
    refine (few_any _ _ _ _ _ _ _).mono ?_
    rintro e w2 ⟨rfl, rfl⟩
    rw [dab]
    go_wp2_with fail
    refine (rlist_any _ a _ Ha.out Fa.out.2 Fa.out.1).mono ?_
    rintro e w3 ⟨vx, rfl, hx, hb⟩
    have Hx := Lib.hid hx
    clear hx
    replace HB := Lib.hid (HB.out.trans (hb.mono HB.out.size))
    replace Ha := Lib.hid (Ha.out.below hb)
    replace Hb := Lib.hid (Hb.out.below hb)
    replace HT := Lib.hid (HT.out.below hb HT.out.size)
    clear hb
    go_wp2_with fail
    refine (rlist_any _ b _ Hb.out Fb.out.2 Fb.out.1).mono ?_
    rintro e w4 ⟨vy, rfl, hy, hb⟩
    have Hy := Lib.hid hy
    clear hy
    replace HB := Lib.hid (HB.out.trans (hb.mono HB.out.size))
    replace Ha := Lib.hid (Ha.out.below hb)
    replace Hb := Lib.hid (Hb.out.below hb)
    replace Hx := Lib.hid (Hx.out.below hb)
    replace HT := Lib.hid (HT.out.below hb HT.out.size)
    clear hb
    go_wp2_with fail
    refine (union_f Ha.out Hb.out Fa.out Fb.out).mono ?_
    rintro e w5 ⟨vu, rfl, hu, hb⟩
    have Hu := Lib.hid hu
    clear hu
    replace HB := Lib.hid (HB.out.trans (hb.mono HB.out.size))
    replace Ha := Lib.hid (Ha.out.below hb)
    replace Hb := Lib.hid (Hb.out.below hb)
    replace Hx := Lib.hid (Hx.out.below hb)
    replace Hy := Lib.hid (Hy.out.below hb)
    replace HT := Lib.hid (HT.out.below hb HT.out.size)
    clear hb
    have Fu : Hid (Fine (SU (a) (b))) := Fa.out.SU Fb.out
    go_wp2_with fail
    refine (runion_any _ _ _ _ _ Hx.out Hy.out lab.out).mono ?_
    rintro e w6 ⟨vlu, rfl, hlu, hb⟩
    have Hlu := Lib.hid hlu
    clear hlu
    replace HB := Lib.hid (HB.out.trans (hb.mono HB.out.size))
    replace Ha := Lib.hid (Ha.out.below hb)
    replace Hb := Lib.hid (Hb.out.below hb)
    replace Hx := Lib.hid (Hx.out.below hb)
    replace Hy := Lib.hid (Hy.out.below hb)
    replace Hu := Lib.hid (Hu.out.below hb)
    replace HT := Lib.hid (HT.out.below hb HT.out.size)
    clear hb
    go_wp2_with fail
    refine (lawsame_f Hu.out Hlu.out lu.out (fun n h => o_ult h) (setop_canon _ _ _) Fu.out.1 (fun m hm => o_u a b m hm)).mono ?_
    rintro e w7 ⟨rfl, hb⟩
    replace HB := Lib.hid (HB.out.trans (hb.mono HB.out.size))
    replace Ha := Lib.hid (Ha.out.below hb)
    replace Hb := Lib.hid (Hb.out.below hb)
    replace Hx := Lib.hid (Hx.out.below hb)
    replace Hy := Lib.hid (Hy.out.below hb)
    replace Hu := Lib.hid (Hu.out.below hb)
    replace Hlu := Lib.hid (Hlu.out.below hb)
    replace HT := Lib.hid (HT.out.below hb HT.out.size)
    clear hb
    clear Hu Fu
    clear Hlu
    go_wp2_with fail
    refine (inter_f Ha.out Hb.out Fa.out Fb.out).mono ?_
    rintro e w8 ⟨vu, rfl, hu, hb⟩
    have Hu := Lib.hid hu
    clear hu
    replace HB := Lib.hid (HB.out.trans (hb.mono HB.out.size))
    replace Ha := Lib.hid (Ha.out.below hb)
    replace Hb := Lib.hid (Hb.out.below hb)
    replace Hx := Lib.hid (Hx.out.below hb)
    replace Hy := Lib.hid (Hy.out.below hb)
    replace HT := Lib.hid (HT.out.below hb HT.out.size)
    clear hb
    have Fu : Hid (Fine (SI (a) (b))) := Fa.out.SI Fb.out
    go_wp2_with fail
    refine (rinter_any _ _ _ _ _ Hx.out Hy.out la.out lb.out).mono ?_
    rintro e w9 ⟨vlu, rfl, hlu, hb⟩
    have Hlu := Lib.hid hlu
    clear hlu
    replace HB := Lib.hid (HB.out.trans (hb.mono HB.out.size))
    replace Ha := Lib.hid (Ha.out.below hb)
    replace Hb := Lib.hid (Hb.out.below hb)
    replace Hx := Lib.hid (Hx.out.below hb)
    replace Hy := Lib.hid (Hy.out.below hb)
    replace Hu := Lib.hid (Hu.out.below hb)
    replace HT := Lib.hid (HT.out.below hb HT.out.size)
    clear hb
    go_wp2_with fail
    refine (lawsame_f Hu.out Hlu.out (Nat.le_trans (List.length_filter_le _ _) la.out) (fun n h => els_lt (List.mem_filter.1 h).1) (setop_canon _ _ _) Fu.out.1 (fun m hm => o_i a b m)).mono ?_
    rintro e w10 ⟨rfl, hb⟩
    replace HB := Lib.hid (HB.out.trans (hb.mono HB.out.size))
    replace Ha := Lib.hid (Ha.out.below hb)
    replace Hb := Lib.hid (Hb.out.below hb)
    replace Hx := Lib.hid (Hx.out.below hb)
    replace Hy := Lib.hid (Hy.out.below hb)
    replace Hu := Lib.hid (Hu.out.below hb)
    replace Hlu := Lib.hid (Hlu.out.below hb)
    replace HT := Lib.hid (HT.out.below hb HT.out.size)
    clear hb
    clear Hu Fu
    clear Hlu
    go_wp2_with fail
    refine (minus_f Ha.out Hb.out Fa.out Fb.out).mono ?_
    rintro e w11 ⟨vu, rfl, hu, hb⟩
    have Hu := Lib.hid hu
    clear hu
    replace HB := Lib.hid (HB.out.trans (hb.mono HB.out.size))
    replace Ha := Lib.hid (Ha.out.below hb)
    replace Hb := Lib.hid (Hb.out.below hb)
    replace Hx := Lib.hid (Hx.out.below hb)
    replace Hy := Lib.hid (Hy.out.below hb)
    replace HT := Lib.hid (HT.out.below hb HT.out.size)
    clear hb
    have Fu : Hid (Fine (SM (a) (b))) := Fa.out.SM Fb.out
    go_wp2_with fail
    refine (rminus_any _ _ _ _ _ Hx.out Hy.out la.out lb.out).mono ?_
    rintro e w12 ⟨vlu, rfl, hlu, hb⟩
    have Hlu := Lib.hid hlu
    clear hlu
    replace HB := Lib.hid (HB.out.trans (hb.mono HB.out.size))
    replace Ha := Lib.hid (Ha.out.below hb)
    replace Hb := Lib.hid (Hb.out.below hb)
    replace Hx := Lib.hid (Hx.out.below hb)
    replace Hy := Lib.hid (Hy.out.below hb)
    replace Hu := Lib.hid (Hu.out.below hb)
    replace HT := Lib.hid (HT.out.below hb HT.out.size)
    clear hb
    go_wp2_with fail
    refine (lawsame_f Hu.out Hlu.out (Nat.le_trans (List.length_filter_le _ _) la.out) (fun n h => els_lt (List.mem_filter.1 h).1) (setop_canon _ _ _) Fu.out.1 (fun m hm => o_m a b m)).mono ?_
    rintro e w13 ⟨rfl, hb⟩
    replace HB := Lib.hid (HB.out.trans (hb.mono HB.out.size))
    replace Ha := Lib.hid (Ha.out.below hb)
    replace Hb := Lib.hid (Hb.out.below hb)
    replace Hx := Lib.hid (Hx.out.below hb)
    replace Hy := Lib.hid (Hy.out.below hb)
    replace Hu := Lib.hid (Hu.out.below hb)
    replace Hlu := Lib.hid (Hlu.out.below hb)
    replace HT := Lib.hid (HT.out.below hb HT.out.size)
    clear hb
    clear Hu Fu
    clear Hlu
    go_wp2_with fail
    refine (sub_f Ha.out Hb.out Fa.out Fb.out r1 R1.out).mono ?_
    rintro e w14 ⟨rfl, rfl⟩
    go_wp2_with fail
    refine (rsub_any _ _ _ _ _ Hx.out Hy.out la.out lb.out).mono ?_
    rintro e w15 ⟨rfl, hb⟩
    rw [Q1.out]
    replace HB := Lib.hid (HB.out.trans (hb.mono HB.out.size))
    replace Ha := Lib.hid (Ha.out.below hb)
    replace Hb := Lib.hid (Hb.out.below hb)
    replace Hx := Lib.hid (Hx.out.below hb)
    replace Hy := Lib.hid (Hy.out.below hb)
    replace HT := Lib.hid (HT.out.below hb HT.out.size)
    clear hb
    go_wp2_with fail
    refine (equal_f Ha.out Hb.out Fa.out Fb.out r2 (R2.out)).mono ?_
    rintro e w16 ⟨rfl, hb⟩
    replace HB := Lib.hid (HB.out.trans (hb.mono HB.out.size))
    replace Ha := Lib.hid (Ha.out.below hb)
    replace Hb := Lib.hid (Hb.out.below hb)
    replace Hx := Lib.hid (Hx.out.below hb)
    replace Hy := Lib.hid (Hy.out.below hb)
    replace HT := Lib.hid (HT.out.below hb HT.out.size)
    clear hb
    go_wp2_with fail
    refine (lsame_f Hx.out Hy.out rla.out rlb.out r2 Q2.out).mono ?_
    rintro e w17 ⟨rfl, hb⟩
    replace HB := Lib.hid (HB.out.trans (hb.mono HB.out.size))
    replace Ha := Lib.hid (Ha.out.below hb)
    replace Hb := Lib.hid (Hb.out.below hb)
    replace Hx := Lib.hid (Hx.out.below hb)
    replace Hy := Lib.hid (Hy.out.below hb)
    replace HT := Lib.hid (HT.out.below hb HT.out.size)
    clear hb
    go_wp2_with fail
    refine (compare_any _ _ a b _ Ha.out Hb.out Fa.out.2 Fb.out.2 Fa.out.1 Fb.out.1 HT.out).mono ?_
    rintro e w18 ⟨rfl, hb⟩
    rw [EX.out]
    replace HB := Lib.hid (HB.out.trans (hb.mono HB.out.size))
    replace Ha := Lib.hid (Ha.out.below hb)
    replace Hb := Lib.hid (Hb.out.below hb)
    replace Hx := Lib.hid (Hx.out.below hb)
    replace Hy := Lib.hid (Hy.out.below hb)
    replace HT := Lib.hid (HT.out.below hb HT.out.size)
    clear hb
    go_wp2_with fail
    refine (rcompare_f Hx.out Hy.out la.out lb.out X EX.out).mono ?_
    rintro e w19 ⟨rfl, hb⟩
    replace HB := Lib.hid (HB.out.trans (hb.mono HB.out.size))
    replace Ha := Lib.hid (Ha.out.below hb)
    replace Hb := Lib.hid (Hb.out.below hb)
    replace Hx := Lib.hid (Hx.out.below hb)
    replace Hy := Lib.hid (Hy.out.below hb)
    replace HT := Lib.hid (HT.out.below hb HT.out.size)
    clear hb
    go_wp2
    go_ret
    exact ⟨rfl, HB.out⟩
  · have dab := decide_eq_false hab
    clear hab
    go_enter Tryd.func3, Tryd.ntmps3
    go_wp2_with fail
    refine (awake_any _ HT.out).mono ?_
    rintro e w1 ⟨rfl, hb⟩
    replace HB := Lib.hid (HB.out.trans (hb.mono HB.out.size))
    replace Ha := Lib.hid (Ha.out.below hb)
    replace Hb := Lib.hid (Hb.out.below hb)
    replace HT := Lib.hid (HT.out.below hb HT.out.size)
    clear hb
    go_wp2_with fail
    refine (few_any _ _ _ _ _ _ _).mono ?_
    rintro e w2 ⟨rfl, rfl⟩
    rw [dab]
    go_wp2
    go_ret
    exact ⟨rfl, HB.out⟩
end Go.Proofs.YtaedijblgogmmaaDoor
