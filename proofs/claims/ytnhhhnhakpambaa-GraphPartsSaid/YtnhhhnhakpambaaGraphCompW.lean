/- The contracts of components and Components. -/
import Derived.Test.YtnhhhnhakpambaaGraphLeaders
import Derived.Test.YtnhhhnhakpambaaGraphComp
namespace Go.Proofs.Ytnhhhnhakpambaa
open Go.RowKit

theorem type_ne {w : World} {B B' e e' n m : Nat} {v u : Value} {xs ys : List Value} (hv : w.ownsRow B e 1 v n xs) (hu : w.ownsRow B' e' 1 u m ys) (hne : e ≠ e') : v.ownBlock = none ∨ v.ownBlock ≠ u.ownBlock := by
  rcases hv.2 with ⟨rfl, _⟩ | ⟨g, cap, cur, rfl, _, h1, _⟩
  · exact .inl rfl
  · refine .inr fun e1 => ?_
    rcases hu.2 with ⟨rfl, _⟩ | ⟨g', cap', cur', rfl, _, h2, _⟩
    · cases e1
    · simp only [Value.ownBlock, Option.some.injEq] at e1
      subst e1
      rw [h1] at h2
      cases h2
      exact hne rfl
structure PRows (w : World) (B : Nat) (pv : Value) (vals : List Value) (ls : List (List Nat)) : Prop where
  pown : w.ownsRow B 38 1 pv ls.length vals
  own : ∀ (i : Nat) v l, vals[i]? = some v → ls[i]? = some l → w.ownsRow B 3 1 v l.length (l.map nv)
  apart : ∀ (i j : Nat) v u b, vals[i]? = some v → vals[j]? = some u → v.ownBlock = some b → u.ownBlock = some b → i = j
section
variable {w w1 : World} {B : Nat} {pv pv' : Value} {vals : List Value} {ls : List (List Nat)}
theorem PRows.len (h : PRows w B pv vals ls) : vals.length = ls.length := by simpa using h.pown.1
theorem PRows.start (w : World) (B : Nat) : PRows w B (.slice none 0 0) [] [] := ⟨World.ownsRow_nil _ _ _ _, (by intro i v l h; cases h), (by intro i j v u b h; cases h)⟩
theorem PRows.setOld (h : PRows w B pv vals ls) {a : Addr} (ha : a.block < B) (u : Value) : PRows (w.setCell a u) B pv vals ls :=
  ⟨ownsRow_setCell_below h.pown ha u, fun i v l hv hl => ownsRow_setCell_below (h.own i v l hv hl) ha u, h.apart⟩
theorem PRows.alloc (h : PRows w B pv vals ls) (o : Obj) : PRows (w.alloc o) B pv vals ls := ⟨h.pown.alloc o, fun i v l hv hl => (h.own i v l hv hl).alloc o, h.apart⟩
theorem PRows.pushNil (h : PRows w B pv vals ls) (ho : w1.ownsRow B 38 1 pv' (ls.length + 1) (vals ++ [.slice none 0 0])) (hgr : w.grownBy w1 pv.ownBlock) : PRows w1 B pv' (vals ++ [.slice none 0 0]) (ls ++ [[]]) := by
  have hlen := h.len
  refine ⟨by rw [List.length_append]; exact ho, fun i v l hv hl => ?_, fun i j v u b hv hu hvb hub => ?_⟩
  · rcases Nat.lt_or_ge i vals.length with h1 | h1
    · rw [List.getElem?_append_left h1] at hv
      rw [List.getElem?_append_left (by omega)] at hl
      have := h.own i v l hv hl
      exact this.kept hgr (type_ne this h.pown (by decide))
    · rw [List.getElem?_append_right h1] at hv
      rw [List.getElem?_append_right (by omega)] at hl
      have h2 := (List.getElem?_eq_some_iff.1 hv).1
      have h3 : i - vals.length = 0 := by simp at h2; omega
      rw [h3] at hv
      rw [show i - ls.length = 0 by omega] at hl
      simp at hv hl
      subst hv; subst hl
      exact World.ownsRow_nil _ _ _ _
  · have old : ∀ (i : Nat) (v : Value), (vals ++ [.slice none 0 0])[i]? = some v → v.ownBlock = some b → vals[i]? = some v := fun i v hv hvb => by
      rcases Nat.lt_or_ge i vals.length with h1 | h1
      · rwa [List.getElem?_append_left h1] at hv
      · rw [List.getElem?_append_right h1] at hv
        have h2 := (List.getElem?_eq_some_iff.1 hv).1
        have h3 : i - vals.length = 0 := by simp at h2; omega
        rw [h3] at hv
        simp at hv; subst hv; cases hvb
    exact h.apart i j v u b (old i v hv hvb) (old j u hu hub) hvb hub
theorem set_last {α : Type} (l : List α) (a b : α) : (l ++ [a]).set l.length b = l ++ [b] := by
  rw [List.set_append_right _ _ (Nat.le_refl _)]; simp
theorem PRows.push {g m cap j x : Nat} {v v' : Value} {l : List Nat} (h : PRows w B (.slice (some ⟨g, 0, none⟩) m cap) vals ls) (hm : m = ls.length) (hv : vals[j]? = some v) (hl : ls[j]? = some l)
    (ho : w1.ownsRow B 3 1 v' (l.length + 1) (l.map nv ++ [nv x])) (hgr : w.grownBy w1 v.ownBlock) (hf : Fresh w v v') :
    PRows (w1.setCell ⟨g, j, none⟩ v') B (.slice (some ⟨g, 0, none⟩) m cap) (vals.set j v') (ls.set j (l ++ [x])) := by
  subst hm
  have hjv : j < vals.length := (List.getElem?_eq_some_iff.1 hv).1
  have hjl : j < ls.length := (List.getElem?_eq_some_iff.1 hl).1
  have hvo := h.own j v l hv hl
  have hpo1 : w1.ownsRow B 38 1 (.slice (some ⟨g, 0, none⟩) ls.length cap) ls.length vals := h.pown.kept hgr (type_ne h.pown hvo (by decide))
  obtain ⟨b', hb', hbf⟩ := hf
  have setK : ∀ {n : Nat} {u : Value} {ys : List Value}, w1.ownsRow B 3 1 u n ys → (w1.setCell ⟨g, j, none⟩ v').ownsRow B 3 1 u n ys := fun hu => hu.kept (grownBy_setCell w1 g j v') (type_ne hu hpo1 (by decide))
  refine ⟨by rw [List.length_set]; exact (hpo1.stored j v').1, fun i u m hu hm => ?_, fun i k u y b hu hy hub hyb => ?_⟩
  · rw [List.getElem?_set] at hu hm
    by_cases e : j = i
    · subst e
      rw [if_pos rfl, if_pos hjv] at hu
      rw [if_pos rfl, if_pos hjl] at hm
      cases hu; cases hm
      rw [List.map_append, List.length_append]
      exact setK ho
    · rw [if_neg e] at hu hm
      have hk := h.own i u m hu hm
      have hne : u.ownBlock = none ∨ u.ownBlock ≠ v.ownBlock := by
        cases hub : u.ownBlock with
        | none => exact .inl rfl
        | some b => exact .inr fun e2 => e (h.apart i j u v b hu hv hub (by rw [← e2])).symm
      exact setK (hk.kept hgr hne)
  · rw [List.getElem?_set] at hu hy
    have old : ∀ (m : Nat) (y : Value) (b : Nat), vals[m]? = some y → y.ownBlock = some b → b = b' → m = j := fun m y b hm hyb hbe => by
      subst hbe
      rcases hbf with h1 | h1
      · exact h.apart m j y v b hm hv hyb h1
      · obtain ⟨lm, hlm⟩ : ∃ lm, ls[m]? = some lm := ⟨_, List.getElem?_eq_getElem (by rw [← h.len]; exact (List.getElem?_eq_some_iff.1 hm).1)⟩
        have := (h.own m y lm hm hlm).lt b hyb
        omega
    by_cases e1 : j = i <;> by_cases e2 : j = k
    · omega
    · rw [if_pos e1, if_pos (by omega)] at hu
      rw [if_neg e2] at hy
      cases hu
      rw [hb'] at hub; cases hub
      exact absurd (old k y b' hy hyb rfl).symm e2
    · rw [if_pos e2, if_pos (by omega)] at hy
      rw [if_neg e1] at hu
      cases hy
      rw [hb'] at hyb; cases hyb
      exact absurd (old i u b' hu hub rfl).symm e1
    · rw [if_neg e1] at hu
      rw [if_neg e2] at hy
      exact h.apart i k u y b hu hy hub hyb
theorem PRows.cell {g m cap j : Nat} {v : Value} (h : PRows w B (.slice (some ⟨g, 0, none⟩) m cap) vals ls) (hm : m = ls.length) (hv : vals[j]? = some v) : w.cell? ⟨g, j, none⟩ = some v ∧ w.frozen? ⟨g, j, none⟩ = false := by
  subst hm
  have hj := (List.getElem?_eq_some_iff.1 hv).1
  exact ⟨(h.pown.cellAt j (by have := h.len; omega)).trans hv, h.pown.frozenAt j⟩
/-- The rows' block behind an append onto row j. -/
theorem PRows.after {g m cap j n : Nat} {v : Value} {xs : List Value} (h : PRows w B (.slice (some ⟨g, 0, none⟩) m cap) vals ls) (hm : m = ls.length) (hv : vals[j]? = some v) (hvo : w.ownsRow B 3 1 v n xs) (hgr : w.grownBy w1 v.ownBlock) : w1.cell? ⟨g, j, none⟩ = some v ∧ w1.frozen? ⟨g, j, none⟩ = false := by
  subst hm
  have hj := (List.getElem?_eq_some_iff.1 hv).1
  have hk := h.pown.kept hgr (type_ne h.pown hvo (by decide))
  exact ⟨(hk.cellAt j (by have := h.len; omega)).trans hv, hk.frozenAt j⟩
theorem sl_of_own_id {w : World} {B e : Nat} {n : Nat} {v : Value} {xs : List Value} (h : w.ownsRow B e 1 v n xs) : Sl id w v xs := Sl.of_own (f := id) (by simpa using h)
theorem PRows.gr (h : PRows w B pv vals ls) : Gr nv w pv ls := ⟨vals, sl_of_own_id h.pown, h.len, fun i r l hr hl => Sl.of_own (h.own i r l hr hl)⟩
/-- The frame of an append onto v, a row from B on. -/
theorem grown_below0 {w0 : World} {B0 e n : Nat} {v : Value} {xs : List Value} (hb : Below B0 w0 w) (hs : B0 ≤ w.heap.size) (ho : w.ownsRow B e 1 v n xs) (hgr : w.grownBy w1 v.ownBlock) (hB : B0 ≤ B) : Below B0 w0 w1 := hb.grown hgr hs (fun k e => Nat.le_trans hB (ho.lt k e).1)
end
/-- What components returns. -/
def CompP (g : List (List Nat)) (w : World) (e : Ending) (w' : World) : Prop := ∃ s M pv, LOut g g.length s ∧ s.stack = [] ∧ LInv g s ∧ leadM (revM g) s.left.reverse = M.map (fun n : Nat => (n : Int)) ∧ M.length = g.length ∧ (∀ x ∈ M, x < g.length) ∧ e = .returned pv ∧ Gr nv w' pv (compsM g.length M) ∧ Below w.heap.size w w'
set_option maxRecDepth 100000 in
set_option maxHeartbeats 4000000 in
theorem components_any (v : Value) (g : List (List Nat)) (w : World) (h : Gr nv w v g) (hg : VG g) :
    Calls Try.prog 48 #[v] w (CompP g w) := by
  obtain ⟨A, c, rfl⟩ := h.shape
  have H := Lib.hid h; have Hg := Lib.hid hg
  have hgl := hg.len
  clear h hg
  go_enter Try.func48, Try.ntmps48
  go_wp2_with fail
  refine (leaders_any _ g _ H.out Hg.out).mono ?_
  rintro e w1 ⟨s, b, hout, hst, hinv, rfl, hrow, hb1⟩
  obtain ⟨M, hM1, hM2, hM3⟩ := leads_nat Hg.out hout hinv hst
  rw [hM1] at hrow
  have hrow2 : Row w1 b 3 (M.map nv) := by
    have e : (M.map fun n : Nat => (n : Int)).map iv = M.map nv := by rw [List.map_map]; rfl
    rw [← e]; exact hrow
  have Hout := Lib.hid hout; have Hst := Lib.hid hst; have Hinv := Lib.hid hinv; have HM1 := Lib.hid hM1; have HM2 := Lib.hid hM2; have HM3 := Lib.hid hM3
  have Hb1 := Lib.hid hb1; have Hrow := Lib.hid hrow2
  have hs1 := hb1.size
  have hbl := hrow2.lt
  clear hout hst hinv hM1 hM2 hM3 hb1 hrow hrow2
  go_wp2_with fail
  refine (repeat_any (-1) g.length _ _ (lit_sl iv w1 _ _ 1 [-1] rfl rfl _) (by omega)).mono ?_
  rintro e w2 ⟨gp, rfl, hgp, hrowp, hb2⟩
  have hb2' : Below w1.heap.size w1 w2 := (below_alloc w1 _).trans (hb2.mono (by simp))
  have hgp0 : w1.heap.size ≤ gp := by simp at hgp; omega
  have hgp1 := hrowp.lt
  have Hrowp := Lib.hid hrowp
  have Hrow2 := Lib.hid (Hrow.out.keep hb2')
  have Hb2 := Lib.hid (Hb1.out.trans (hb2'.mono hs1))
  have hs2 := hb2'.size
  have hbg : b ≠ gp := by omega
  clear hrowp hb2 hb2' hgp
  go_wp2
  go_loopw [3, 16] (fun pv i wr => ∃ (k : Nat) (st : List (List Nat) × List Int) (vals : List Value), k ≤ g.length ∧ i = .int .i64 k ∧ Hid ((List.range k).foldl (cstep M) ([], List.replicate g.length (-1)) = st) ∧ CInv g.length k st ∧ PRows wr w2.heap.size pv vals st.1 ∧ Row wr gp 3 (st.2.map iv) ∧ Row wr b 3 (M.map nv) ∧ Below w.heap.size w wr ∧ w2.heap.size ≤ wr.heap.size) (fun _ i _ => g.length - (intOf i).toNat)
  case atStart => exact ⟨0, _, [], Nat.zero_le _, rfl, Lib.hid rfl, CInv.start _, PRows.start _ _, Hrowp.out, Hrow2.out, Hb2.out, Nat.le_refl _⟩
  case round =>
    obtain ⟨k, st, vals, hk, rfl, hst2, hci, hpr, hrp, hrb, hbel, hsz⟩ := hrel
    have Hci := Lib.hid hci; have Hpr := Lib.hid hpr; have Hrp := Lib.hid hrp; have Hrb := Lib.hid hrb; have Hbel := Lib.hid hbel
    by_cases hlt : k < g.length
    · have hkM : k < M.length := by rw [HM2.out]; exact hlt
      have hcM := hrb.cell (i := k) (v := .int .i64 ((M[k]?.getD 0 : Nat) : Int)) (by rw [List.getElem?_map, List.getElem?_eq_getElem hkM]; rfl)
      have hlN : M[k]?.getD 0 < g.length := by rw [List.getElem?_eq_getElem hkM]; exact HM3.out _ (List.getElem_mem hkM)
      have Hstep := Lib.hid (comps_next M g.length k st hst2.out)
      have Hci2 := Lib.hid (hci.step (M := M) hlN)
      unfold cstep at Hstep Hci2
      generalize M[k]?.getD 0 = ld at *
      have hpl : st.2.length = g.length := hci.len
      have hcp := dat_cell hrp (by rw [hpl]; exact hlN : ld < st.2.length)
      have hfp := hrp.free ld
      have hpn := hci.parts
      obtain ⟨Ap, cp, hpv⟩ := (sl_of_own_id hpr.pown).shape
      rw [hpr.len] at hpv
      subst hpv
      by_cases he : dat st.2 ld = -1
      · have he2 : (dat st.2 ld == -1) = true := by rw [beq_iff_eq]; exact he
        rw [if_pos he] at Hstep Hci2
        clear hci hpr hrp hrb hbel he
        generalize dat st.2 ld = d at *
        have hv0 : (vals ++ [.slice none 0 0])[st.1.length]? = some (.slice none 0 0) := by rw [← Hpr.out.len]; simp
        have Hv0 := Lib.hid hv0
        clear hv0
        go_wp2_with (first
          | (at_builtin; refine app1T rfl _ _ 38 rfl 3 (.int .i64 0) 8 info_int rfl (by kernel_rfl) w2.heap.size _ 0 [] rfl (World.ownsRow_nil w3 _ _ _) (.int .i64 (k : Int)) rfl rfl (by decide) (by decide) Hsz3.out ?_; intro v4 w4 hown4 hgr4 hf4; obtain ⟨g4, cap4, rfl, _, _, _⟩ := own_shape hown4 (by omega); have HbB := Lib.hid (grown_below0 (Below.refl _ w3) Hsz3.out (World.ownsRow_nil w3 w2.heap.size 3 1) hgr4 (Nat.le_refl _)); obtain ⟨hc4, hf4'⟩ := Hp3.out.after Hl3.out Hv0.out (World.ownsRow_nil w3 w2.heap.size 3 1) hgr4; have Hown4 := Lib.hid hown4; have Hgr4 := Lib.hid hgr4; have Hf4 := Lib.hid hf4; clear hown4 hgr4 hf4)
          | (at_builtin; refine app1T rfl _ _ 23 rfl 38 (.slice none 0 0) 24 info_ints rfl (by kernel_rfl) w2.heap.size _ _ _ rfl (Hpr.out.setOld (a := ⟨gp, ld, none⟩) hgp1 _).pown (.slice none 0 0) (by rw [size_setCell]; rfl) rfl (by omega) (by omega) (by rw [size_setCell]; exact hsz) ?_; intro v3 w3 hown3 hgr3 hf3; obtain ⟨g3, cap3, rfl, hg3, _, _⟩ := own_shape hown3 (by omega); have HbA := Lib.hid (grown_below0 (Below.refl w2.heap.size (wr.setCell ⟨gp, ld, none⟩ (.int .i64 (st.1.length : Int)))) (by rw [size_setCell]; exact hsz) (Hpr.out.setOld (a := ⟨gp, ld, none⟩) hgp1 (.int .i64 (st.1.length : Int))).pown hgr3 (Nat.le_refl _)); have Hp3 := Lib.hid ((Hpr.out.setOld (a := ⟨gp, ld, none⟩) hgp1 (.int .i64 (st.1.length : Int))).pushNil hown3 hgr3); have Hbel3 := Lib.hid (grown_below0 (Hbel.out.setCell (p := ⟨gp, ld, none⟩) (Nat.le_trans hs1 hgp0) (.int .i64 (st.1.length : Int))) (by rw [size_setCell]; exact Hbel.out.size) (Hpr.out.setOld (a := ⟨gp, ld, none⟩) hgp1 (.int .i64 (st.1.length : Int))).pown hgr3 (Nat.le_trans hs1 hs2)); have Hsz3 := Lib.hid (Nat.le_trans (by rw [size_setCell]; exact hsz) hgr3.size : w2.heap.size ≤ w3.heap.size); have Hl3 : Hid (st.1.length + 1 = (st.1 ++ [[]]).length) := (by show _ = _; simp); obtain ⟨hc3, hf3'⟩ := Hp3.out.cell Hl3.out Hv0.out; clear hown3 hgr3 hf3))
        have Hp5 := Lib.hid (Hp3.out.push Hl3.out Hv0.out (by simp : (st.1 ++ [[]])[st.1.length]? = some []) Hown4.out Hgr4.out Hf4.out)
        rw [set_last] at Hp5
        have HbZ := Lib.hid ((HbA.out.trans HbB.out).setCell (p := ⟨g3, st.1.length, none⟩) hg3 (.slice (some ⟨g4, 0, none⟩) (0 + 1) cap4))
        have Hrp5 := Lib.hid ((row_set_iv Hrp.out ld (st.1.length : Int)).below HbZ.out hgp1)
        have Hrb5 := Lib.hid ((Hrb.out.other (a := ⟨gp, ld, none⟩) (u := .int .i64 (st.1.length : Int)) hbg).below HbZ.out (Nat.lt_of_lt_of_le hbl hs2))
        have Hbel5 := Lib.hid ((Hbel.out.setCell (p := ⟨gp, ld, none⟩) (Nat.le_trans hs1 hgp0) (.int .i64 (st.1.length : Int))).trans (HbZ.out.mono (Nat.le_trans hs1 hs2)))
        have hsz5 := Nat.le_trans (by rw [size_setCell]; exact hsz : w2.heap.size ≤ (wr.setCell ⟨gp, ld, none⟩ (.int .i64 (st.1.length : Int))).heap.size) HbZ.out.size
        go_roundw
        case rel => exact ⟨k + 1, _, _, by omega, by go_num, Hstep, Hci2.out, Hp5.out, Hrp5.out, Hrb5.out, Hbel5.out, hsz5⟩
        case measure => simp [intOf]; omega
      · have he2 : (dat st.2 ld == -1) = false := by rw [beq_eq_false_iff_ne]; exact he
        obtain ⟨hd1, hd2⟩ := (hci.at_ ld).resolve_left he
        rw [if_neg he] at Hstep Hci2
        obtain ⟨j, hj⟩ : ∃ j : Nat, dat st.2 ld = j := ⟨(dat st.2 ld).toNat, by omega⟩
        rw [hj] at hcp he2 Hstep Hci2 hd1 hd2
        rw [Int.toNat_natCast] at Hstep Hci2
        have hjl : j < st.1.length := by omega
        obtain ⟨vj, hvj⟩ : ∃ vj, vals[j]? = some vj := ⟨_, List.getElem?_eq_getElem (by rw [hpr.len]; exact hjl)⟩
        have hlj : st.1[j]? = some (row st.1 j) := by rw [row_get hjl]; exact List.getElem?_eq_getElem hjl
        have hvo := hpr.own j vj _ hvj hlj
        have hrl := hci.rows j
        obtain ⟨g3, cap3, hap, hg3, _, _⟩ := own_shape hpr.pown (by omega)
        simp only [Value.slice.injEq, true_and] at hap
        obtain ⟨rfl, rfl⟩ := hap
        obtain ⟨hc3, hf3⟩ := hpr.cell rfl hvj
        have Hvj := Lib.hid hvj; have Hlj := Lib.hid hlj; have Hvo := Lib.hid hvo
        clear hci hpr hrp hrb hbel he hj hvj hlj hvo
        go_wp2_with (at_builtin; refine app1T rfl _ _ 38 rfl 3 (.int .i64 0) 8 info_int rfl (by kernel_rfl) w2.heap.size _ _ _ rfl Hvo.out (.int .i64 (k : Int)) rfl rfl (by omega) (by omega) hsz ?_; intro v4 w4 hown4 hgr4 hf4; obtain ⟨g4, cap4, rfl, _, _, _⟩ := own_shape hown4 (by omega); have HbB := Lib.hid (grown_below0 (Below.refl _ wr) hsz Hvo.out hgr4 (Nat.le_refl _)); obtain ⟨hc4, hf4'⟩ := Hpr.out.after rfl Hvj.out Hvo.out hgr4; have Hown4 := Lib.hid hown4; have Hgr4 := Lib.hid hgr4; have Hf4 := Lib.hid hf4; clear hown4 hgr4 hf4)
        have Hp5 := Lib.hid (Hpr.out.push rfl Hvj.out Hlj.out Hown4.out Hgr4.out Hf4.out)
        have HbZ := Lib.hid (HbB.out.setCell (p := ⟨g3, j, none⟩) hg3 (.slice (some ⟨g4, 0, none⟩) ((row st.1 j).length + 1) cap4))
        have Hrp5 := Lib.hid (Hrp.out.below HbZ.out hgp1)
        have Hrb5 := Lib.hid (Hrb.out.below HbZ.out (Nat.lt_of_lt_of_le hbl hs2))
        have Hbel5 := Lib.hid (Hbel.out.trans (HbZ.out.mono (Nat.le_trans hs1 hs2)))
        have hsz5 := Nat.le_trans hsz HbZ.out.size
        go_roundw
        case rel => exact ⟨k + 1, _, _, by omega, by go_num, Hstep, Hci2.out, Hp5.out, Hrp5.out, Hrb5.out, Hbel5.out, hsz5⟩
        case measure => simp [intOf]; omega
    · obtain rfl : k = g.length := by omega
      have Hgr := Lib.hid hpr.gr
      have Hc : Hid (compsM g.length M = st.1) := by show _ = _; unfold compsM; rw [hst2.out]
      obtain ⟨Ap, cp, hpv⟩ := (sl_of_own_id hpr.pown).shape
      clear hci hpr hrp hrb hbel
      subst hpv
      go_wp2
      go_ret
      exact ⟨s, M, _, Hout.out, Hst.out, Hinv.out, HM1.out, HM2.out, HM3.out, rfl, by rw [Hc.out]; exact Hgr.out, Hbel.out⟩
end Go.Proofs.Ytnhhhnhakpambaa
