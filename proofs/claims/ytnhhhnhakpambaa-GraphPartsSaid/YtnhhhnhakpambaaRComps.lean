/- The reference's Components on valid graphs. -/
import Derived.Test.YtnhhhnhakpambaaROrder
import Derived.Test.YtnhhhnhakpambaaAcyc
import Derived.Deep.AppendLies
namespace Go.Proofs.Ytnhhhnhakpambaa
open Go.RowKit

def LOwn (w : World) (l : List Nat) (e : Ending) (w' : World) : Prop := ∃ v, e = .returned v ∧ w'.ownsRow w.heap.size 3 1 v l.length (l.map nv) ∧ Below w.heap.size w w'
set_option maxHeartbeats 2000000 in
theorem rinter_own (v vb : Value) (l b : List Nat) (w : World) (h : Sl nv w v l) (hb : Sl nv w vb b) (hl : l.length ≤ 10000) (lb : b.length ≤ 10000) :
    Calls Try.prog 49 #[v, vb] w (LOwn w (l.filter (fun x : Nat => rhas b x))) := by
  obtain ⟨A, c, rfl⟩ := h.shape
  have H := Lib.hid h
  have Hb := Lib.hid hb
  clear hb
  clear h
  obtain ⟨p, hp⟩ : ∃ p : Nat → Bool, p = (fun x : Nat => rhas b x) := ⟨_, rfl⟩
  rw [← hp]
  have Hp := Lib.hid hp
  clear hp
  go_enter Try.func49, Try.ntmps49
  go_wp2
  go_loopw [5, 6] (fun o i wr => ∃ k : Nat, k ≤ l.length ∧ i = .int .i64 k ∧ wr.ownsRow w.heap.size 3 1 o ((l.take k).filter p).length (((l.take k).filter p).map nv) ∧ Below w.heap.size w wr) (fun _ i _ => l.length - (intOf i).toNat)
  case atStart => exact ⟨0, Nat.zero_le _, rfl, World.ownsRow_nil _ _ _ _, Below.refl _ _⟩
  case round =>
    rename_i o _
    obtain ⟨k, hk, rfl, hown, hbel⟩ := hrel
    have Hbel := Lib.hid hbel
    by_cases hlt : k < l.length
    · obtain ⟨ad, c', hs, hcap, hcell⟩ := sl_cell (H.out.below hbel) k hlt
      simp only [Value.slice.injEq, true_and] at hs
      obtain ⟨rfl, rfl⟩ := hs
      have hnext := filter_next (p := p) hlt
      have hle := filter_le (p := p) (l := l) (k := k)
      have hpx : p l[k] = ((fun x : Nat => rhas b x)) l[k] := by rw [Hp.out]
      generalize l[k] = x at *
      generalize (l.take k).filter p = out at *
      have Hnext := Lib.hid hnext
      have hsz := hbel.size
      unfold nv at hcell
      clear hnext hbel
      cases hx : p x with
      | true =>
        rw [hx] at Hnext hpx
        rw [if_pos rfl] at Hnext
        have Hpx := Lib.hid hpx
        clear hpx hx
        go_wp2_with fail
        refine (rhas_any vb b (x : Int) _ (Hb.out.below Hbel.out) lb).mono ?_
        rintro e w1 ⟨rfl, rfl⟩
        rw [show rhas b (x : Int) = true from Hpx.out.symm]
        go_wp2_with (at_builtin; refine app1S rfl _ _ 38 rfl 3 (.int .i64 0) 8 info_int rfl (by kernel_rfl) w.heap.size _ _ _ rfl hown (.int .i64 (x : Int)) rfl rfl (by omega) (by omega) hsz ?_; intro v' w2 hown2 hfr)
        have Hb2 := Lib.hid (Hbel.out.trans ((hfr.below hsz)))
        have Hown2 := Lib.hid hown2
        clear hown2 hfr hown
        go_roundw
        case rel => exact ⟨k + 1, by omega, by go_num, by rw [Hnext.out, List.length_append, List.map_append]; exact Hown2.out, Hb2.out⟩
        case measure => simp [intOf]; omega
      | false =>
        rw [hx] at Hnext hpx
        rw [if_neg (by decide), List.append_nil] at Hnext
        have Hpx := Lib.hid hpx
        have Hown := Lib.hid hown
        clear hpx hx hown
        go_wp2_with fail
        refine (rhas_any vb b (x : Int) _ (Hb.out.below Hbel.out) lb).mono ?_
        rintro e w1 ⟨rfl, rfl⟩
        rw [show rhas b (x : Int) = false from Hpx.out.symm]
        go_wp2
        go_roundw
        case rel => exact ⟨k + 1, by omega, by go_num, by rw [Hnext.out]; exact Hown.out, Hbel.out⟩
        case measure => simp [intOf]; omega
    · rw [List.take_of_length_le (by omega)] at hown
      have Hown := Lib.hid hown
      clear hown hbel
      go_wp2
      go_ret
      exact ⟨_, rfl, Hown.out, Hbel.out⟩
theorem own_monoZ {w : World} {B B' : Nat} {e : TypeId} {z : Nat} {v : Value} {n : Nat} {xs : List Value} (h : w.ownsRow B e z v n xs) (hB : B' ≤ B) : w.ownsRow B' e z v n xs := by
  refine ⟨h.1, ?_⟩
  rcases h.2 with h1 | ⟨g, cap, cur, h1, h2, h3⟩
  · exact .inl h1
  · exact .inr ⟨g, cap, cur, h1, by omega, h3⟩
theorem own_keepZ {w w' : World} {B : Nat} {e : TypeId} {z : Nat} {v : Value} {n : Nat} {xs : List Value} (h : w.ownsRow B e z v n xs) (hb : Below w.heap.size w w') : w'.ownsRow B e z v n xs :=
  h.kept (row := none) ⟨hb.os, hb.tape, hb.output, hb.size, fun k hk _ => hb.block k hk⟩ (by cases v.ownBlock <;> simp)
def RchR (g : List (List Nat)) (k : Nat) (w : World) (e : Ending) (w' : World) : Prop := ∃ D v, e = .returned (.tuple #[v, .int .i64 0]) ∧ IsDist g [k] D ∧ Sl nv w' v (rchM g.length D) ∧ Below w.heap.size w w'
theorem rreach_one (v vl : Value) (g : List (List Nat)) (k : Nat) (w : World) (h : Gr nv w v g) (hg : VG g) (hk : k < g.length) (hn : Sl nv w vl [k]) :
    Calls Try.prog 22 #[v, vl] w (RchR g k w) := by
  refine (rreach_u v vl (cst g) ([k].map fun n : Nat => (n : Int)) w h.cst hg.lim.cst hn.nv_iv (by simp)).mono ?_
  rintro e w' ⟨vr, r, c, rfl, ⟨d, hd, rfl⟩, hsl, hb⟩
  rcases hd with ⟨h0, _, _⟩ | ⟨gn, S, h1, _, h2, _, rfl, h3⟩
  · exact absurd (ds_ok hg (by simpa using hk)) h0
  · obtain rfl := cst_inj.1 h1
    obtain rfl := cast_inj.1 h2
    exact ⟨d, vr, rfl, h3, by rw [← rpos_rch h3]; exact hsl, hb⟩
theorem inter_cls {g : List (List Nat)} (hg : VG g) {M : List Nat} (hM : LdM g M) {k : Nat} (hk : k < g.length) {D E : List Int} (hD : IsDist g [k] D) (hE : IsDist (revM g) [k] E) :
    ((rchM g.length D).filter fun x : Nat => rhas (rchM (revM g).length E) x) = cls M g.length k := by
  unfold cls
  conv => lhs; unfold rchM
  rw [List.filter_filter]
  refine List.filter_congr fun v hv => ?_
  have hv' := List.mem_range.1 hv
  have e1 : rhas ((List.range (revM g).length).filter fun v => decide (dat E v ≠ -1)) (v : Int) = decide (v < (revM g).length ∧ dat E v ≠ -1) := rhas_rch
  rw [e1, Bool.eq_iff_iff, Bool.and_eq_true, decide_eq_true_iff, decide_eq_true_iff, decide_eq_true_iff, hM.scc hg hv' hk, hD.rch hv', hE.rch (by rw [revM_len]; exact hv')]
  constructor
  · rintro ⟨⟨_, h1⟩, h2⟩
    exact ⟨(rea_back hg).1 h1, h2⟩
  · rintro ⟨h1, h2⟩
    exact ⟨⟨by rw [revM_len]; exact hv', (rea_back hg).2 h1⟩, h2⟩
/-- The components that are found behind the nodes below k, and their nodes. -/
def outS (M : List Nat) (N k : Nat) : List (List Nat) := (firsts M k).map (cls M N)
def dnS (M : List Nat) (N k : Nat) : List Nat := (firsts M k).flatMap (cls M N)
theorem outS_all (M : List Nat) (N : Nat) : outS M N N = compS M N := rfl
theorem firsts_next (M : List Nat) (k : Nat) : firsts M (k + 1) = if isFst M k = true then firsts M k ++ [k] else firsts M k := by
  unfold firsts
  rw [List.range_succ, List.filter_append]
  cases h : isFst M k <;> simp [h]
theorem outS_new {M : List Nat} {N k : Nat} (h : isFst M k = true) : outS M N (k + 1) = outS M N k ++ [cls M N k] ∧ dnS M N (k + 1) = dnS M N k ++ cls M N k := by
  unfold outS dnS
  rw [firsts_next, if_pos h, List.map_append, List.flatMap_append]
  exact ⟨rfl, by simp⟩
theorem outS_old {M : List Nat} {N k : Nat} (h : isFst M k = false) : outS M N (k + 1) = outS M N k ∧ dnS M N (k + 1) = dnS M N k := by
  unfold outS dnS
  rw [firsts_next, if_neg (by rw [h]; decide)]
  exact ⟨rfl, rfl⟩
theorem dnS_has {M : List Nat} {N k : Nat} (hk : k < N) : rhas (dnS M N k) (k : Int) = !isFst M k := by
  have hm : k ∈ dnS M N k ↔ isFst M k = false := by
    unfold dnS cls
    rw [List.mem_flatMap]
    constructor
    · rintro ⟨f, hf, h1⟩
      rw [List.mem_filter, decide_eq_true_eq] at h1
      rw [Bool.eq_false_iff]
      intro h2
      exact isFst_iff.1 h2 f (firsts_mem.1 hf).1 h1.2.symm
    · intro h1
      have h2 : ∃ m, m < k ∧ lead M m = lead M k := Classical.byContradiction fun hh => by
        have : isFst M k = true := isFst_iff.2 fun m hm e => hh ⟨m, hm, e⟩
        rw [this] at h1; cases h1
      obtain ⟨m, hm, e⟩ := h2
      obtain ⟨f, hf, e2, _⟩ := first_of M (N := k) hm
      exact ⟨f, hf, by rw [List.mem_filter, decide_eq_true_eq]; exact ⟨List.mem_range.2 hk, (e2.trans e).symm⟩⟩
  have hr : rhas (dnS M N k) (k : Int) = true ↔ k ∈ dnS M N k := by
    constructor
    · intro h
      unfold rhas at h
      rw [List.any_eq_true] at h
      obtain ⟨y, hy, e⟩ := h
      rw [beq_iff_eq] at e
      obtain rfl : y = k := by omega
      exact hy
    · exact rhas_yes
  rw [Bool.eq_iff_iff, hr, hm, Bool.not_eq_true']
theorem dnS_len (M : List Nat) (N k : Nat) : (dnS M N k).length ≤ k * N := by
  unfold dnS
  rw [List.length_flatMap]
  have h1 : ∀ l : List Nat, (l.map fun f => (cls M N f).length).sum ≤ l.length * N := by
    intro l
    induction l with
    | nil => simp
    | cons a l ih =>
      have : (cls M N a).length ≤ N := by
        unfold cls
        exact Nat.le_trans (List.length_filter_le _ _) (by simp)
      rw [List.map_cons, List.sum_cons, List.length_cons, Nat.succ_mul]; omega
  refine Nat.le_trans (h1 _) (Nat.mul_le_mul_right N ?_)
  unfold firsts
  exact Nat.le_trans (List.length_filter_le _ _) (by simp)
/-- The reference's lists: the components found, each one a row of the call's own, and the nodes in them. -/
structure RC (w : World) (B : Nat) (ov dv : Value) (vals : List Value) (ls : List (List Nat)) (dn : List Nat) : Prop where
  oown : w.ownsRow B 38 1 ov ls.length vals
  each : ∀ (i : Nat) v l, vals[i]? = some v → ls[i]? = some l → w.ownsRow B 3 1 v l.length (l.map nv)
  down : w.ownsRow B 3 1 dv dn.length (dn.map nv)
  apart : ∀ (i : Nat) v, vals[i]? = some v → v.ownBlock = none ∨ v.ownBlock ≠ dv.ownBlock
theorem RC.vlen {w : World} {B : Nat} {ov dv : Value} {vals : List Value} {ls : List (List Nat)} {dn : List Nat} (h : RC w B ov dv vals ls dn) : vals.length = ls.length := by have := h.oown.1; omega
theorem RC.start (w : World) (B : Nat)   : RC w B (.slice none 0 0) (.slice none 0 0) [] [] [] := by
  refine ⟨World.ownsRow_nil _ _ _ _, ?_, World.ownsRow_nil _ _ _ _, ?_⟩
  · intro i v l h; simp at h
  · intro i v h; simp at h
theorem RC.below {w w' : World} {B : Nat} {ov dv : Value} {vals : List Value} {ls : List (List Nat)} {dn : List Nat} (h : RC w B ov dv vals ls dn) (hb : Below w.heap.size w w') : RC w' B ov dv vals ls dn :=
  ⟨own_keepZ h.oown hb, fun i v l hv hl => own_keepZ (h.each i v l hv hl) hb, own_keepZ h.down hb, h.apart⟩
theorem RC.gr {w : World} {B : Nat} {ov dv : Value} {vals : List Value} {ls : List (List Nat)} {dn : List Nat} (h : RC w B ov dv vals ls dn) : Gr nv w ov ls :=
  ⟨vals, Sl.of_own (f := id) (B := B) (e := 38) (n := ls.length) (by rw [List.map_id]; exact h.oown), h.vlen, fun i r l hr hl => Sl.of_own (h.each i r l hr hl)⟩
theorem RC.push {w w1 w2 : World} {B : Nat} {ov dv ov' dv' cv : Value} {vals : List Value} {ls : List (List Nat)} {dn c : List Nat} (h : RC w B ov dv vals ls dn) (hc : w.ownsRow B 3 1 cv c.length (c.map nv)) (hca : cv.ownBlock = none ∨ cv.ownBlock ≠ dv.ownBlock)
    (ho : w1.ownsRow B 38 1 ov' (ls.length + 1) (vals ++ [cv])) (hg1 : w.grownBy w1 ov.ownBlock)
    (hd : w2.ownsRow B 3 1 dv' (dn.length + c.length) (dn.map nv ++ c.map nv)) (hg2 : w1.grownBy w2 dv.ownBlock) (hf : Fresh w1 dv dv') :
    RC w2 B ov' dv' (vals ++ [cv]) (ls ++ [c]) (dn ++ c) := by
  have k1 : ∀ {v : Value} {n : Nat} {xs : List Value}, w.ownsRow B 3 1 v n xs → w1.ownsRow B 3 1 v n xs := fun hv => hv.kept hg1 (type_ne hv h.oown (by decide))
  have each1 : ∀ (i : Nat) v l, (vals ++ [cv])[i]? = some v → (ls ++ [c])[i]? = some l → w1.ownsRow B 3 1 v l.length (l.map nv) ∧ (v.ownBlock = none ∨ v.ownBlock ≠ dv.ownBlock) := by
    intro i v l hv hl
    by_cases e : i < vals.length
    · rw [List.getElem?_append_left e] at hv
      rw [List.getElem?_append_left (by rw [← h.vlen]; exact e)] at hl
      exact ⟨k1 (h.each i v l hv hl), h.apart i v hv⟩
    · have hi := (List.getElem?_eq_some_iff.1 hv).1
      rw [List.length_append, List.length_singleton] at hi
      obtain rfl : i = vals.length := by omega
      rw [List.getElem?_append_right (Nat.le_refl _)] at hv
      rw [List.getElem?_append_right (by rw [h.vlen]; exact Nat.le_refl _), h.vlen] at hl
      simp at hv hl
      subst hv hl
      exact ⟨k1 hc, hca⟩
  obtain ⟨b', hb', hbf⟩ := hf
  have vl : (vals ++ [cv]).length = (ls ++ [c]).length := by simp [h.vlen]
  refine ⟨by rw [List.length_append, List.length_singleton]; exact ho.kept hg2 (type_ne ho (k1 h.down) (by decide)), fun i v l hv hl => ?_, by rw [List.length_append, List.map_append]; exact hd, fun i v hv => ?_⟩
  · obtain ⟨h1, h2⟩ := each1 i v l hv hl
    exact h1.kept hg2 h2
  · obtain ⟨l, hl⟩ : ∃ l, (ls ++ [c])[i]? = some l := ⟨_, List.getElem?_eq_getElem (by rw [← vl]; exact (List.getElem?_eq_some_iff.1 hv).1)⟩
    obtain ⟨h1, h2⟩ := each1 i v l hv hl
    rcases hbf with h3 | h3
    · rw [hb', ← h3]; exact h2
    · cases hvb : v.ownBlock with
      | none => exact .inl rfl
      | some q =>
        refine .inr fun e => ?_
        rw [hb'] at e
        have := (h1.lt q hvb).2
        cases e
        omega
def RCompR (g : List (List Nat)) (M : List Nat) (w : World) (e : Ending) (w' : World) : Prop := ∃ pv, e = .returned (.tuple #[pv, .int .i64 0]) ∧ Gr nv w' pv (compS M g.length) ∧ Below w.heap.size w w'
set_option maxRecDepth 20000 in
set_option maxHeartbeats 4000000 in
theorem rcomps_ok (v : Value) (g : List (List Nat)) (M : List Nat) (w : World) (h : Gr nv w v g) (hg : VG g) (hM : LdM g M) (h60 : g.length ≤ 60) :
    Calls Try.prog 29 #[v] w (RCompR g M w) := by
  obtain ⟨A, c, rfl⟩ := h.shape
  have H := Lib.hid h; have Hg := Lib.hid hg; have HM := Lib.hid hM
  have hgl := hg.len
  obtain ⟨i0, hi, hz0, hz1, hz2⟩ := info_parts info_int
  obtain ⟨j0, hj, hy0, hy1, hy2⟩ := info_parts info_ints
  clear h hg hM
  go_enter Try.func29, Try.ntmps29
  go_wp2_with fail
  refine (rback_ok _ g _ H.out Hg.out).mono ?_
  rintro e w1 ⟨Ab, cb, rfl, hback, hb⟩
  rw [revM_len] at hback ⊢
  have Hback := Lib.hid hback
  have HB := Lib.hid hb
  have hs1 := hb.size
  replace H := Lib.hid (H.out.below hb)
  clear hb hback
  go_wp2
  go_loopw [6, 7, 8] (fun o d i wr => ∃ (k : Nat) (vals : List Value), k ≤ g.length ∧ i = .int .i64 k ∧ RC wr w1.heap.size o d vals (outS M g.length k) (dnS M g.length k) ∧ Below w1.heap.size w1 wr) (fun _ _ i _ => g.length - (intOf i).toNat)
  case atStart => exact ⟨0, [], Nat.zero_le _, rfl, RC.start _ _, Below.refl _ _⟩
  case round =>
    obtain ⟨k, vals, hk, rfl, hrc, hbel⟩ := hrel
    have Hrc := Lib.hid hrc; have Hbel := Lib.hid hbel
    have hsz := hbel.size
    obtain ⟨Ad, cd, rfl⟩ := (Sl.of_own hrc.down).shape
    have hdn := dnS_len M g.length k
    have hk1 : k * g.length ≤ 60 * 60 := Nat.mul_le_mul (by omega) h60
    by_cases hlt : k < g.length
    · have hhas := dnS_has (M := M) hlt
      have Hhas := Lib.hid hhas
      have hdn2 : (dnS M g.length k).length ≤ 10000 := by omega
      clear hrc hbel hhas
      cases hf : isFst M k with
      | false =>
        have Hf := Lib.hid (outS_old (N := g.length) hf)
        have Hh : Hid (rhas (dnS M g.length k) (k : Int) = true) := Lib.hid (Hhas.out.trans (by rw [hf]; rfl))
        clear hf
        go_wp2_with fail
        refine (rhas_b Hh.out (Sl.of_own Hrc.out.down) hdn2).mono ?_
        rintro e w5 ⟨rfl, rfl⟩
        go_wp2
        go_roundw
        case rel => exact ⟨k + 1, vals, by omega, by go_num, by rw [Hf.out.1, Hf.out.2]; exact Hrc.out, Hbel.out⟩
        case measure => simp [intOf]; omega
      | true =>
        have Hf := Lib.hid (outS_new (N := g.length) hf)
        have Hh : Hid (rhas (dnS M g.length k) (k : Int) = false) := Lib.hid (Hhas.out.trans (by rw [hf]; rfl))
        clear hf
        go_wp2_with fail
        refine (rhas_b Hh.out (Sl.of_own Hrc.out.down) hdn2).mono ?_
        rintro e w5 ⟨rfl, rfl⟩
        go_wp2_with fail
        refine (rreach_one _ _ g k _ ((H.out.below Hbel.out).below (below_alloc _ _)) Hg.out hlt (lit_sl nv _ _ _ 1 [k] rfl rfl _)).mono ?_
        rintro e w6 ⟨D, vx, rfl, hD, hsx, hb⟩
        replace hb := (below_alloc wr _).trans (hb.mono (by simp))
        have Hb6 := Lib.hid (Hbel.out.trans (hb.mono hsz))
        have hs6 := Nat.le_trans hsz hb.size
        replace Hrc := Lib.hid (Hrc.out.below hb)
        have Hx := Lib.hid hsx; have HD := Lib.hid hD
        obtain ⟨Ax, cx, rfl⟩ := hsx.shape
        clear hb hsx hD
        go_wp2_with fail
        refine (rreach_one _ _ (revM g) k _ ((Hback.out.below Hb6.out).below (below_alloc _ _)) (revM_vg Hg.out) (by rw [revM_len]; exact hlt) (lit_sl nv _ _ _ 1 [k] rfl rfl _)).mono ?_
        rintro e w7 ⟨E, vy, rfl, hE, hsy, hb⟩
        replace hb := (below_alloc w6 _).trans (hb.mono (by simp))
        have Hb7 := Lib.hid (Hb6.out.trans (hb.mono hs6))
        have hs7 := Nat.le_trans hs6 hb.size
        replace Hrc := Lib.hid (Hrc.out.below hb)
        replace Hx := Lib.hid (Hx.out.below hb)
        have Hy := Lib.hid hsy
        have Hcls := Lib.hid (inter_cls Hg.out HM.out hlt HD.out hE)
        have hlx := rchM_len g.length D
        have hly := rchM_len (revM g).length E
        rw [revM_len] at hly
        obtain ⟨Ay, cy, rfl⟩ := hsy.shape
        clear hb hsy hE
        go_wp2_with fail
        refine (rinter_own _ _ _ _ _ Hx.out Hy.out (by omega) (by rw [revM_len]; omega)).mono ?_
        rintro e w8 ⟨vc, rfl, hoc, hb⟩
        rw [Hcls.out] at hoc
        have hclen : (cls M g.length k).length ≤ 400 := by
          unfold cls
          exact Nat.le_trans (List.length_filter_le _ _) (by simpa using hgl)
        have hcpos : 1 ≤ (cls M g.length k).length := by
          have : k ∈ cls M g.length k := by unfold cls; rw [List.mem_filter, decide_eq_true_eq]; exact ⟨List.mem_range.2 hlt, rfl⟩
          exact List.length_pos_of_mem this
        have Hca : Hid (vc.ownBlock = none ∨ vc.ownBlock ≠ (Value.slice Ad (dnS M g.length k).length cd).ownBlock) := Lib.hid (by
          cases hvb : vc.ownBlock with
          | none => exact .inl rfl
          | some q =>
            refine .inr fun e => ?_
            have h1 := (hoc.lt q hvb).1
            have h2 := (Hrc.out.down.lt q e.symm).2
            omega)
        obtain ⟨gc, cc, rfl, _, _, _⟩ := own_shape hoc hcpos
        have Hoc := Lib.hid (own_monoZ hoc hs7)
        have Hb8 := Lib.hid (Hb7.out.trans (hb.mono hs7))
        have hs8 := Nat.le_trans hs7 hb.size
        replace Hrc := Lib.hid (Hrc.out.below hb)
        have hol : (outS M g.length k).length ≤ 400 := by
          unfold outS firsts
          rw [List.length_map]
          exact Nat.le_trans (List.length_filter_le _ _) (by simp; omega)
        clear hoc hb Hx Hy Hcls
        go_wp2_with (first | (at_builtin; refine wpList_append_lies _ rfl _ _ _ rfl w1.heap.size 3 i0 _ 1 8 (by kernel_rfl) hi hz0 hz1 hz2 rfl (by omega) _ _ _ rfl Hd9.out ⟨gc, 0, none⟩ (cls M g.length k).length cc ((cls M g.length k).map nv) rfl (by simp) (Hc9.out.cells rfl) (by intro u hu; obtain ⟨x, _, rfl⟩ := List.mem_map.1 hu; rfl) (by omega) (by unfold maxLen; omega) (by omega) hs9 w9.heap.size rfl ?_; intro gd capd w10 hown10 hgr10 hat10 hlt10; have Hg10 := Lib.hid hgr10; have Ho10 := Lib.hid hown10; have Hf10 := Lib.hid hat10; clear hown10 hgr10 hat10) | (at_builtin; refine wpList_append_lies _ rfl _ _ _ rfl w1.heap.size 38 j0 _ 1 24 (by kernel_rfl) hj hy0 hy1 hy2 rfl (by omega) _ _ _ rfl (Hrc.out.oown.alloc _) ⟨w8.heap.size, 0, none⟩ 1 1 [.slice (some ⟨gc, 0, none⟩) (cls M g.length k).length cc] rfl rfl (World.news_of_block (cs := #[.slice (some ⟨gc, 0, none⟩) (cls M g.length k).length cc]) (t := 38) (fr := (0, 0)) (heap_alloc_new w8 _)) (by simp [Value.oneCell']) (by omega) (by unfold maxLen; omega) (by omega) (by simp; omega) (w8.heap.size + 1) (by simp) ?_; intro go capo w9 hown9 hgr9 hat9 hlt9; have Hg9 : Hid (w8.grownBy w9 _) := Lib.hid (⟨hgr9.os, hgr9.tape, hgr9.output, Nat.le_trans (by simp) hgr9.size, fun i hi hne => (hgr9.block i (by simp; omega) hne).trans (Below.heap_alloc w8 _ i hi)⟩ : w8.grownBy w9 _); have Hc9 := Lib.hid (Hoc.out.kept Hg9.out (type_ne Hoc.out Hrc.out.oown (by decide))); have Hd9 := Lib.hid (Hrc.out.down.kept Hg9.out (type_ne Hrc.out.down Hrc.out.oown (by decide))); have Ho9 := Lib.hid hown9; have hs9 := Nat.le_trans hs8 Hg9.out.size; clear hown9 hgr9 hat9))
        have Hrc2 := Lib.hid (Hrc.out.push Hoc.out Hca.out Ho9.out Hg9.out Ho10.out Hg10.out ⟨gd, rfl, Hf10.out.imp id (fun e => by omega)⟩)
        have Hb10 := Lib.hid ((Hb8.out.grown Hg9.out hs8 (fun q e => (Hrc.out.oown.lt q e).1)).grown Hg10.out hs9 (fun q e => (Hd9.out.lt q e).1))
        go_roundw
        case rel => exact ⟨k + 1, _, by omega, by go_num, by rw [Hf.out.1, Hf.out.2]; exact Hrc2.out, Hb10.out⟩
        case measure => simp [intOf]; omega
    · obtain rfl : k = g.length := by omega
      have hgr := hrc.gr
      rw [outS_all] at hgr
      obtain ⟨Ao, co, rfl⟩ := hgr.shape
      have Hgr := Lib.hid hgr
      clear hgr hrc hbel
      go_wp2
      go_ret2
      exact ⟨_, rfl, Hgr.out, HB.out.trans (Hbel.out.mono hs1)⟩
end Go.Proofs.Ytnhhhnhakpambaa
