/- Reach, Dist and Path for any graph and numbers: program and reference by one word each, which has one answer alone. -/
import Derived.Test.YtnhhhnhakpambaaRefPath
namespace Go.Proofs.Ytnhhhnhakpambaa
open Go.RowKit

def DS (g : List (List Int)) (l : List Int) (c : Int) (d : List Int) : Prop :=
  (chk g l ≠ 0 ∧ c = chk g l ∧ d = []) ∨ ∃ (gn : List (List Nat)) (S : List Nat), g = cst gn ∧ VG gn ∧ l = S.map (fun n : Nat => (n : Int)) ∧ (∀ x ∈ S, x < gn.length) ∧ c = 0 ∧ IsDist gn S d
theorem ds_ok {gn : List (List Nat)} {S : List Nat} (hg : VG gn) (hS : ∀ x ∈ S, x < gn.length) : chk (cst gn) (S.map fun n : Nat => (n : Int)) = 0 := hg.chk S hS
theorem DS.unique {g : List (List Int)} {l : List Int} {c c' : Int} {d d' : List Int} (h : DS g l c d) (h' : DS g l c' d') : c = c' ∧ d = d' := by
  rcases h with ⟨h0, rfl, rfl⟩ | ⟨gn, S, rfl, hg, rfl, hS, rfl, hd⟩
  · rcases h' with ⟨_, rfl, rfl⟩ | ⟨gn, S, rfl, hg, rfl, hS, rfl, hd⟩
    · exact ⟨rfl, rfl⟩
    · exact absurd (ds_ok hg hS) h0
  · rcases h' with ⟨h0, rfl, rfl⟩ | ⟨gn', S', h1, hg', h2, hS', rfl, hd'⟩
    · exact absurd (ds_ok hg hS) h0
    · obtain rfl := cst_inj.1 h1
      obtain rfl := cast_inj.1 h2
      exact ⟨rfl, hd.ext hd'⟩
theorem DS.len {g : List (List Int)} {l : List Int} {c : Int} {d : List Int} (h : DS g l c d) : d.length ≤ g.length := by
  rcases h with ⟨_, _, rfl⟩ | ⟨gn, S, rfl, _, _, _, _, hd⟩
  · simp
  · rw [hd.len, cst_len]; exact Nat.le_refl _
/-- The numbers with a distance. -/
def rposM (d : List Int) : List Nat := (List.range d.length).filter fun v => decide (0 ≤ dat d v)
def RS (g : List (List Int)) (l : List Int) (c : Int) (r : List Nat) : Prop := ∃ d, DS g l c d ∧ r = rposM d
theorem RS.unique {g : List (List Int)} {l : List Int} {c c' : Int} {d d' : List Nat} (h : RS g l c d) (h' : RS g l c' d') : c = c' ∧ d = d' := by
  obtain ⟨d, h, rfl⟩ := h
  obtain ⟨d', h', rfl⟩ := h'
  obtain ⟨h1, h2⟩ := h.unique h'
  exact ⟨h1, by rw [h2]⟩
theorem rpos_rch {g : List (List Nat)} {S : List Nat} {D : List Int} (hD : IsDist g S D) : rposM D = rchM g.length D := by
  unfold rposM rchM
  rw [hD.len]
  refine List.filter_congr fun v hv => ?_
  have := hD.lo (List.mem_range.1 hv)
  rw [decide_eq_decide]; omega
theorem RS.len {g : List (List Int)} {l : List Int} {c : Int} {r : List Nat} (h : RS g l c r) : r.length ≤ g.length := by
  obtain ⟨d, h, rfl⟩ := h
  exact Nat.le_trans (by unfold rposM; exact Nat.le_trans (List.length_filter_le _ _) (by simp)) h.len
def PS (g : List (List Int)) (u t : Int) (c : Int) (p : List Nat) : Prop :=
  (chk g [u, t] ≠ 0 ∧ c = chk g [u, t] ∧ p = []) ∨ ∃ (gn : List (List Nat)) (x y : Nat) (L : List Int), g = cst gn ∧ VG gn ∧ u = x ∧ t = y ∧ x < gn.length ∧ y < gn.length ∧ IsDist (revM gn) [y] L ∧
    ((dat L x = -1 ∧ c = 8 ∧ p = []) ∨ ∃ k : Nat, dat L x = k ∧ k ≤ 400 ∧ c = 0 ∧ p = pathM gn L x k)
theorem ps_ok {gn : List (List Nat)} {x y : Nat} (hg : VG gn) (hx : x < gn.length) (hy : y < gn.length) : chk (cst gn) [(x : Int), (y : Int)] = 0 := hg.chk [x, y] (by simp; exact ⟨hx, hy⟩)
theorem PS.unique {g : List (List Int)} {u t : Int} {c c' : Int} {p p' : List Nat} (h : PS g u t c p) (h' : PS g u t c' p') : c = c' ∧ p = p' := by
  rcases h with ⟨h0, rfl, rfl⟩ | ⟨gn, x, y, L, rfl, hg, rfl, rfl, hx, hy, hL, hp⟩
  · rcases h' with ⟨_, rfl, rfl⟩ | ⟨gn, x, y, L, rfl, hg, rfl, rfl, hx, hy, hL, hp⟩
    · exact ⟨rfl, rfl⟩
    · exact absurd (ps_ok hg hx hy) h0
  · rcases h' with ⟨h0, rfl, rfl⟩ | ⟨gn', x', y', L', h1, hg', h2, h3, hx', hy', hL', hp'⟩
    · exact absurd (ps_ok hg hx hy) h0
    · obtain rfl := cst_inj.1 h1
      obtain rfl : x = x' := by omega
      obtain rfl : y = y' := by omega
      obtain rfl := hL.ext hL'
      rcases hp with ⟨h4, rfl, rfl⟩ | ⟨k, h4, _, rfl, rfl⟩
      · rcases hp' with ⟨_, rfl, rfl⟩ | ⟨k', h5, _, rfl, rfl⟩
        · exact ⟨rfl, rfl⟩
        · omega
      · rcases hp' with ⟨h5, rfl, rfl⟩ | ⟨k', h5, _, rfl, rfl⟩
        · omega
        · obtain rfl : k = k' := by omega
          exact ⟨rfl, rfl⟩
theorem PS.len {g : List (List Int)} {u t c : Int} {p : List Nat} (h : PS g u t c p) : p.length ≤ 401 := by
  rcases h with ⟨_, _, rfl⟩ | ⟨gn, x, y, L, rfl, hg, rfl, rfl, hx, hy, hL, ⟨_, _, rfl⟩ | ⟨k, _, hk, _, rfl⟩⟩
  · simp
  · simp
  · rw [pathM_len]; omega
def DistU (g : List (List Int)) (l : List Int) (w : World) (e : Ending) (w' : World) : Prop := ∃ v d c, e = .returned (.tuple #[v, .int .i64 c]) ∧ DS g l c d ∧ Sl iv w' v d ∧ Below w.heap.size w w'
def ReachU (g : List (List Int)) (l : List Int) (w : World) (e : Ending) (w' : World) : Prop := ∃ v r c, e = .returned (.tuple #[v, .int .i64 c]) ∧ RS g l c r ∧ Sl nv w' v r ∧ Below w.heap.size w w'
def PathU (g : List (List Int)) (u t : Int) (w : World) (e : Ending) (w' : World) : Prop := ∃ v p c, e = .returned (.tuple #[v, .int .i64 c]) ∧ PS g u t c p ∧ Sl nv w' v p ∧ Below w.heap.size w w'
theorem DistR.uni {gn : List (List Nat)} {S : List Nat} {w : World} {e : Ending} {w' : World} (hg : VG gn) (hS : ∀ x ∈ S, x < gn.length) (h : DistR gn S w e w') : DistU (cst gn) (S.map fun n : Nat => (n : Int)) w e w' := by
  obtain ⟨D, b, rfl, hD, hrow, hb⟩ := h
  exact ⟨_, D, 0, rfl, .inr ⟨gn, S, rfl, hg, rfl, hS, rfl, hD⟩, hrow.sl hD.len, hb⟩
theorem dist_u (v vl : Value) (g : List (List Int)) (l : List Int) (w : World) (h : Gr iv w v g) (hl : Lim g) (hn : Sl iv w vl l) (hnl : l.length ≤ 10000) :
    Calls Try.prog 23 #[v, vl] w (DistU g l w) := by
  by_cases hc : chk g l = 0
  · obtain ⟨gn, S, rfl, hg, rfl, hS⟩ := chk_zero hc
    exact (dist_ok v vl gn S w h.uncst hg (sl_un hn) (by simpa using hnl) hS).mono fun _ _ h => h.uni hg hS
  · exact (dist_err v vl g l w h hl hn hnl hc).mono fun _ _ ⟨h1, h2⟩ => ⟨_, [], _, h1, .inl ⟨hc, rfl, rfl⟩, Sl.nil, h2⟩
theorem rdist_u (v vl : Value) (g : List (List Int)) (l : List Int) (w : World) (h : Gr iv w v g) (hl : Lim g) (hn : Sl iv w vl l) (hnl : l.length ≤ 10000) :
    Calls Try.prog 24 #[v, vl] w (DistU g l w) := by
  by_cases hc : chk g l = 0
  · obtain ⟨gn, S, rfl, hg, rfl, hS⟩ := chk_zero hc
    exact (rdist_ok v vl gn S w h.uncst hg (sl_un hn) (by simpa using hnl) hS).mono fun _ _ h => h.uni hg hS
  · exact (rdist_err v vl g l w h hl hn hnl hc).mono fun _ _ ⟨h1, h2⟩ => ⟨_, [], _, h1, .inl ⟨hc, rfl, rfl⟩, Sl.nil, h2⟩
theorem reach_u (v vl : Value) (g : List (List Int)) (l : List Int) (w : World) (h : Gr iv w v g) (hl : Lim g) (hn : Sl iv w vl l) (hnl : l.length ≤ 10000) :
    Calls Try.prog 21 #[v, vl] w (ReachU g l w) := by
  by_cases hc : chk g l = 0
  · obtain ⟨gn, S, rfl, hg, rfl, hS⟩ := chk_zero hc
    exact (reach_ok v vl gn S w h.uncst hg (sl_un hn) (by simpa using hnl) hS).mono fun _ _ ⟨D, v, h1, h2, h3, h4⟩ => ⟨v, _, 0, h1, ⟨D, .inr ⟨gn, S, rfl, hg, rfl, hS, rfl, h2⟩, (rpos_rch h2).symm⟩, h3, h4⟩
  · exact (reach_err v vl g l w h hl hn hnl hc).mono fun _ _ ⟨h1, h2⟩ => ⟨_, [], _, h1, ⟨[], .inl ⟨hc, rfl, rfl⟩, rfl⟩, Sl.nil, h2⟩
theorem PathR.uni {gn : List (List Nat)} {x y : Nat} {w : World} {e : Ending} {w' : World} (hg : VG gn) (hx : x < gn.length) (hy : y < gn.length) (h : PathR gn x y w e w') : PathU (cst gn) x y w e w' := by
  obtain ⟨L, hL, ⟨h1, rfl, hb⟩ | ⟨k, v, hk, rfl, hs, hb⟩⟩ := h
  · exact ⟨_, [], 8, rfl, .inr ⟨gn, x, y, L, rfl, hg, rfl, rfl, hx, hy, hL, .inl ⟨h1, rfl, rfl⟩⟩, Sl.nil, hb⟩
  · refine ⟨v, _, 0, rfl, .inr ⟨gn, x, y, L, rfl, hg, rfl, rfl, hx, hy, hL, .inr ⟨k, hk, ?_, rfl, rfl⟩⟩, hs, hb⟩
    rcases hL.at_ x (by rw [revM_len]; exact hx) with ⟨h1, _⟩ | ⟨k', h1, h2⟩
    · omega
    · have := h2.lt (revM_vg hg) (by simpa [revM_len] using hy)
      rw [revM_len] at this
      have := hg.len
      omega
theorem chk_pair {gn : List (List Nat)} {S : List Nat} {u t : Int} (h : [u, t] = S.map (fun n : Nat => (n : Int))) (hS : ∀ x ∈ S, x < gn.length) : ∃ x y : Nat, u = x ∧ t = y ∧ x < gn.length ∧ y < gn.length := by
  match S, h with
  | [a, b], h =>
    simp only [List.map_cons, List.map_nil, List.cons.injEq, and_true] at h
    exact ⟨a, b, h.1, h.2, hS a (by simp), hS b (by simp)⟩
theorem path_u (v : Value) (g : List (List Int)) (u t : Int) (w : World) (h : Gr iv w v g) (hl : Lim g) :
    Calls Try.prog 26 #[v, .int .i64 u, .int .i64 t] w (PathU g u t w) := by
  by_cases hc : chk g [u, t] = 0
  · obtain ⟨gn, S, rfl, hg, hS0, hS⟩ := chk_zero hc
    obtain ⟨x, y, rfl, rfl, hx, hy⟩ := chk_pair hS0 hS
    exact (path_ok v gn x y w h.uncst hg hx hy).mono fun _ _ h => h.uni hg hx hy
  · exact (path_err v g u t w h hl hc).mono fun _ _ ⟨h1, h2⟩ => ⟨_, [], _, h1, .inl ⟨hc, rfl, rfl⟩, Sl.nil, h2⟩
set_option maxHeartbeats 1000000 in
theorem rpath_err (v : Value) (g : List (List Int)) (u t : Int) (w : World) (h : Gr iv w v g) (hl : Lim g) (hc : chk g [u, t] ≠ 0) :
    Calls Try.prog 27 #[v, .int .i64 u, .int .i64 t] w (ErrR (chk g [u, t]) w) := by
  obtain ⟨A, c, rfl⟩ := h.shape
  have H := Lib.hid h; have HL := Lib.hid hl
  clear h hl
  by_cases hv : VldI g
  · obtain ⟨gn, rfl, hg⟩ := hv.vg
    have hnb : nb gn.length [u, t] = false := by
      cases hb : nb gn.length [u, t] with
      | false => rfl
      | true => exact absurd (by unfold chk; rw [vb_true hg.vldI, cst_len, hb]; rfl) hc
    have hcb : chk (cst gn) [u, t] = 2 := by unfold chk; rw [vb_true hg.vldI, cst_len, hnb]; rfl
    have Hg := Lib.hid hg; have Hnb := Lib.hid hnb
    rw [hcb, cst_len]
    have Hn : Hid (Gr nv w (.slice A gn.length c) gn) := by have := H.out; rw [cst_len] at this; exact this.uncst
    clear hv hg hc hnb hcb H
    go_enter Try.func27, Try.ntmps27
    go_wp2_with fail
    refine (rback_ok _ gn _ Hn.out Hg.out).mono ?_
    rintro e w0 ⟨Ab, cb, rfl, hback, hb⟩
    have HB := Lib.hid hb
    replace Hn := Lib.hid (Hn.out.below hb)
    clear hb hback
    go_wp2_with fail
    refine (rnodes_any _ _ gn [u, t] _ (Hn.out.below (below_alloc _ _)) (lit_sl iv w0 _ _ 2 [u, t] rfl rfl _) (by simp)).mono ?_
    rintro e w1 ⟨rfl, hb⟩
    rw [Hnb.out]
    replace hb := (below_alloc w0 _).trans (hb.mono (by simp))
    replace HB := Lib.hid (HB.out.trans (hb.mono HB.out.size))
    clear hb
    go_wp2
    go_ret2
    exact ⟨rfl, HB.out⟩
  · have hcb : chk g [u, t] = 1 := by unfold chk; rw [vb_false hv]; rfl
    have Hv := Lib.hid (vb_false hv)
    rw [hcb]
    clear hv hc hcb
    go_enter Try.func27, Try.ntmps27
    go_wp2_with fail
    refine (rback_err _ g _ H.out HL.out Hv.out).mono ?_
    rintro e w0 ⟨rfl, hb⟩
    go_wp2
    go_ret2
    exact ⟨rfl, hb⟩
theorem rpath_u (v : Value) (g : List (List Int)) (u t : Int) (w : World) (h : Gr iv w v g) (hl : Lim g) :
    Calls Try.prog 27 #[v, .int .i64 u, .int .i64 t] w (PathU g u t w) := by
  by_cases hc : chk g [u, t] = 0
  · obtain ⟨gn, S, rfl, hg, hS0, hS⟩ := chk_zero hc
    obtain ⟨x, y, rfl, rfl, hx, hy⟩ := chk_pair hS0 hS
    exact (rpath_ok v gn x y w h.uncst hg hx hy).mono fun _ _ h => h.uni hg hx hy
  · exact (rpath_err v g u t w h hl hc).mono fun _ _ ⟨h1, h2⟩ => ⟨_, [], _, h1, .inl ⟨hc, rfl, rfl⟩, Sl.nil, h2⟩
def rposK (d : List Int) (k : Nat) : List Nat := (List.range k).filter fun v => decide (0 ≤ dat d v)
theorem rposK_next (D : List Int) (k : Nat) : rposK D (k + 1) = if 0 ≤ dat D k then rposK D k ++ [k] else rposK D k := by
  unfold rposK
  rw [List.range_succ, List.filter_append]
  by_cases h : 0 ≤ dat D k <;> simp [h]
theorem rposK_len (D : List Int) (k : Nat) : (rposK D k).length ≤ k := by
  unfold rposK; exact Nat.le_trans (List.length_filter_le _ _) (by simp)
set_option maxHeartbeats 1000000 in
theorem rreach_u (v vl : Value) (g : List (List Int)) (l : List Int) (w : World) (h : Gr iv w v g) (hl : Lim g) (hn : Sl iv w vl l) (hnl : l.length ≤ 10000) :
    Calls Try.prog 22 #[v, vl] w (ReachU g l w) := by
  obtain ⟨A, c, rfl⟩ := h.shape
  obtain ⟨A2, c2, rfl⟩ := hn.shape
  have H := Lib.hid h; have HL := Lib.hid hl; have HN := Lib.hid hn
  have hg1 := hl.1
  clear h hl hn
  go_enter Try.func22, Try.ntmps22
  go_wp2_with fail
  refine (rdist_u _ _ g l _ H.out HL.out HN.out hnl).mono ?_
  rintro e w1 ⟨vd, D, ec, rfl, hds, hsl, hb⟩
  have hdl := hds.len
  obtain ⟨Ad, cd, rfl⟩ := hsl.shape
  have Hds := Lib.hid hds; have Hsl := Lib.hid hsl; have Hb1 := Lib.hid hb
  have hs1 := hb.size
  clear hds hsl hb
  go_wp2
  go_loopw [8, 9] (fun o i wr => ∃ k : Nat, k ≤ D.length ∧ i = .int .i64 k ∧ wr.ownsRow w1.heap.size 3 1 o (rposK D k).length ((rposK D k).map nv) ∧ Below w1.heap.size w1 wr) (fun _ i _ => D.length - (intOf i).toNat)
  case atStart => exact ⟨0, Nat.zero_le _, rfl, World.ownsRow_nil _ _ _ _, Below.refl _ _⟩
  case round =>
    obtain ⟨k, hk, rfl, hown, hbel⟩ := hrel
    have Hown := Lib.hid hown; have Hbel := Lib.hid hbel
    have hsz := hbel.size
    by_cases hlt : k < D.length
    · obtain ⟨ad, cr, hs, hcap, hcell⟩ := sl_cell (Hsl.out.below hbel) k hlt
      simp only [Value.slice.injEq, true_and] at hs
      obtain ⟨rfl, rfl⟩ := hs
      have hdk : D[k] = dat D k := by have := dat_get hlt; rw [List.getElem?_eq_getElem hlt] at this; exact Option.some.inj this
      rw [hdk] at hcell
      have hnx := rposK_next D k
      have hlen := rposK_len D k
      unfold iv at hcell
      clear hown hbel hdk
      by_cases he : 0 ≤ dat D k
      · have he2 : decide (0 ≤ dat D k) = true := decide_eq_true he
        rw [if_pos he] at hnx
        have Hnx := Lib.hid hnx
        clear hnx he
        generalize dat D k = d at *
        go_wp2_with (at_builtin; refine app1S rfl _ _ 38 rfl 3 (.int .i64 0) 8 info_int rfl (by kernel_rfl) w1.heap.size _ _ _ rfl Hown.out (.int .i64 (k : Int)) rfl rfl (by omega) (by omega) hsz ?_; intro v' w2 hown2 hfr)
        have hb2 := hfr.below hsz
        have Hown2 := Lib.hid hown2
        have Hbel2 := Lib.hid (Hbel.out.trans hb2)
        clear hown2 hfr hb2
        go_roundw
        case rel => exact ⟨k + 1, by omega, by go_num, by rw [Hnx.out, List.length_append, List.map_append]; exact Hown2.out, Hbel2.out⟩
        case measure => simp [intOf]; omega
      · have he2 : decide (0 ≤ dat D k) = false := decide_eq_false he
        rw [if_neg he] at hnx
        have Hnx := Lib.hid hnx
        clear hnx he
        generalize dat D k = d at *
        go_wp2
        go_roundw
        case rel => exact ⟨k + 1, by omega, by go_num, by rw [Hnx.out]; exact Hown.out, Hbel.out⟩
        case measure => simp [intOf]; omega
    · obtain rfl : k = D.length := by omega
      obtain ⟨Ao, co, ho⟩ := (Sl.of_own hown).shape
      subst ho
      clear hown hbel
      go_wp2
      go_ret2
      exact ⟨_, _, _, rfl, ⟨D, Hds.out, rfl⟩, Sl.of_own Hown.out, Hb1.out.trans (Hbel.out.mono hs1)⟩
end Go.Proofs.Ytnhhhnhakpambaa
