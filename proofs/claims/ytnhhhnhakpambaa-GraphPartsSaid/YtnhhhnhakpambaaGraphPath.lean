/- The contract of Path, of valid graphs. -/
import Derived.Test.YtnhhhnhakpambaaGraphReach
import Derived.Test.YtnhhhnhakpambaaGraphAwake
namespace Go.Proofs.Ytnhhhnhakpambaa
open Go.RowKit

/-- The first successor that is nearer. -/
def nxtS (g : List (List Nat)) (L : List Int) (u : Nat) : Nat := ((row g u).find? fun s => decide (dat L s = dat L u - 1)).getD 0
def stepM (g : List (List Nat)) (L : List Int) (u : Nat) : Nat → Nat
  | 0 => u
  | j + 1 => nxtS g L (stepM g L u j)
def pathM (g : List (List Nat)) (L : List Int) (u j : Nat) : List Nat := (List.range (j + 1)).map (stepM g L u)
theorem pathM_len (g : List (List Nat)) (L : List Int) (u j : Nat) : (pathM g L u j).length = j + 1 := by simp [pathM]
theorem pathM_next (g : List (List Nat)) (L : List Int) (u j : Nat) : pathM g L u (j + 1) = pathM g L u j ++ [nxtS g L (stepM g L u j)] := by
  unfold pathM
  rw [List.range_succ, List.map_append]; rfl
/-- r is the place in l of the first s at the distance d. -/
def AtPl (L : List Int) (l : List Nat) (d : Int) (r s : Nat) : Prop := l[r]? = some s ∧ dat L s = d ∧ ∀ (i : Nat) y, i < r → l[i]? = some y → dat L y ≠ d
theorem find_at {L : List Int} {l : List Nat} {d : Int} {s : Nat} (h : l.find? (fun s => decide (dat L s = d)) = some s) : ∃ r, AtPl L l d r s := by
  obtain ⟨h1, l1, l2, e, h2⟩ := List.find?_eq_some_iff_append.1 h
  refine ⟨l1.length, by rw [e]; simp, by simpa using h1, fun i y hi hy => ?_⟩
  rw [e, List.getElem?_append_left hi] at hy
  have := h2 y (List.mem_of_getElem? hy)
  simpa using this
section
variable {g : List (List Nat)} {t : Nat} {L : List Int}
theorem near_zero (hL : IsDist (revM g) [t] L) {u : Nat} (hu : u < g.length) : dat L u = 0 ↔ u = t := by
  rcases hL.at_ u (by rw [revM_len]; exact hu) with ⟨h1, h2⟩ | ⟨k, h1, h2⟩
  · constructor
    · intro h; omega
    · rintro rfl; exact absurd (show RchN (revM g) [u] 0 u by simp [RchN]) (h2 0)
  · constructor
    · intro h
      have hk : k = 0 := by omega
      subst hk
      simpa [RchN] using h2.1
    · rintro rfl
      have := h2.2 0 (by simp [RchN])
      omega
theorem near_next (hg : VG g) (hL : IsDist (revM g) [t] L) {u d : Nat} (hu : u < g.length) (hd : dat L u = ((d + 1 : Nat) : Int)) : ∃ r, AtPl L (row g u) (dat L u - 1) r (nxtS g L u) ∧ nxtS g L u ∈ row g u ∧ dat L (nxtS g L u) = d := by
  rcases hL.at_ u (by rw [revM_len]; exact hu) with ⟨h1, _⟩ | ⟨k, h1, h2⟩
  · omega
  · have hk : k = d + 1 := by omega
    subst hk
    obtain ⟨s, hs1, hs2⟩ := h2.1
    have hsu := (revM_mem hg s u).1 hs2
    have hsn := hg.node u s hsu
    have hds : dat L s = d := by
      rcases hL.at_ s (by rw [revM_len]; exact hsn) with ⟨_, h4⟩ | ⟨j, h3, h4⟩
      · exact absurd hs1 (h4 d)
      · have h5 := h4.2 d hs1
        have h6 := h2.2 (j + 1) ⟨s, h4.1, hs2⟩
        omega
    have hex : ((row g u).find? fun s => decide (dat L s = dat L u - 1)).isSome = true := by
      rw [List.find?_isSome]
      exact ⟨s, hsu, by simp; omega⟩
    obtain ⟨x, hx⟩ := Option.isSome_iff_exists.1 hex
    obtain ⟨r, hr⟩ := find_at hx
    have e : nxtS g L u = x := by unfold nxtS; rw [hx]; rfl
    rw [e]
    exact ⟨r, hr, List.mem_of_getElem? hr.1, by rw [hr.2.1]; omega⟩
theorem step_at (hg : VG g) (hL : IsDist (revM g) [t] L) {u k : Nat} (hu : u < g.length) (hd : dat L u = (k : Int)) : ∀ j, j ≤ k → stepM g L u j < g.length ∧ dat L (stepM g L u j) = ((k - j : Nat) : Int)
  | 0, _ => ⟨hu, by rw [Nat.sub_zero]; exact hd⟩
  | j + 1, hj => by
    obtain ⟨h1, h2⟩ := step_at hg hL hu hd j (by omega)
    obtain ⟨r, _, h3, h4⟩ := near_next hg hL (u := stepM g L u j) (d := k - (j + 1)) h1 (by rw [h2]; omega)
    exact ⟨hg.node _ _ h3, h4⟩
end
set_option maxHeartbeats 1000000 in
theorem path1_any (x n bl bn gl : Nat) (L : List Int) (d : Int) (w : World) (hx : x < n) (hll : L.length = n) (hbl : w.cell? ⟨bl, 0, none⟩ = some (.slice (some ⟨gl, 0, none⟩) n n)) (hrow : Row w gl 3 (L.map iv)) (hbn : w.cell? ⟨bn, 0, none⟩ = some (.int .i64 d)) :
    Calls Try.prog 47 #[.int .i64 (x : Int), .pointer (some ⟨bl, 0, none⟩), .pointer (some ⟨bn, 0, none⟩)] w fun e w' => e = .returned (.bool (dat L x == d)) ∧ ∃ m, w' = w.drewN m := by
  have hck := dat_cell hrow (by rw [hll]; exact hx : x < L.length)
  clear hrow
  generalize dat L x = y at *
  go_enter Try.func47, Try.ntmps47
  go_wp2
  go_quiet (fail)
  go_wp2
  go_ret
  exact ⟨rfl, nq, rfl⟩
set_option maxHeartbeats 1000000 in
theorem indexfunc_any (v : Value) (l : List Nat) (n bl bn gl r s : Nat) (L : List Int) (d : Int) (w : World) (h : Sl nv w v l) (hln : ∀ y ∈ l, y < n) (hl : l.length ≤ 1000) (hll : L.length = n) (hbl : w.cell? ⟨bl, 0, none⟩ = some (.slice (some ⟨gl, 0, none⟩) n n)) (hrow : Row w gl 3 (L.map iv)) (hbn : w.cell? ⟨bn, 0, none⟩ = some (.int .i64 d)) (hat : AtPl L l d r s) :
    Calls Try.prog 46 #[v, .func (.func 47) #[] #[.pointer (some ⟨bl, 0, none⟩), .pointer (some ⟨bn, 0, none⟩)]] w fun e w' => e = .returned (.int .i64 (r : Int)) ∧ ∃ m, w' = w.drewN m := by
  obtain ⟨A, c, rfl⟩ := h.shape
  have H := Lib.hid h; have Hln := Lib.hid hln; have Hrow := Lib.hid hrow; have Hat := Lib.hid hat; have Hbl := Lib.hid hbl; have Hbn := Lib.hid hbn
  have hrl := (List.getElem?_eq_some_iff.1 hat.1).1
  clear h hln hrow hat hbl hbn
  go_enter Try.func46, Try.ntmps46
  go_wp2
  go_loopw [8] (fun i wr => ∃ k : Nat, k ≤ r ∧ i = .int .i64 k ∧ ∃ q, wr = w.drewN q) (fun i _ => l.length - (intOf i).toNat)
  case atStart => exact ⟨0, Nat.zero_le _, rfl, 0, rfl⟩
  case round =>
    obtain ⟨k, hk, rfl, q, rfl⟩ := hrel
    have hlt : k < l.length := by omega
    obtain ⟨ad, c', hs, hcap, hcell⟩ := sl_cell H.out k hlt
    simp only [Value.slice.injEq, true_and] at hs
    obtain ⟨rfl, rfl⟩ := hs
    have hxn := Hln.out _ (List.getElem_mem hlt)
    have Hk := Lib.hid (List.getElem?_eq_getElem hlt)
    generalize l[k] = x at *
    unfold nv at hcell
    by_cases he : dat L x = d
    · have hkr : k = r := by
        rcases Nat.lt_or_ge k r with h1 | h1
        · exact absurd he (Hat.out.2.2 k x h1 Hk.out)
        · omega
      have he2 := Lib.hid (show (dat L x == d) = true by rw [beq_iff_eq]; exact he)
      have Hkr := Lib.hid hkr
      clear he hkr
      go_wp2_with fail
      refine (path1_any x n bl bn gl L d (w.drewN q) hxn hll Hbl.out Hrow.out Hbn.out).mono ?_
      rintro e w5 ⟨rfl, m, rfl⟩
      rw [he2.out]
      go_wp2
      go_ret
      exact ⟨by rw [← Hkr.out]; rfl, q + m, by simp⟩
    · have hkr : k < r := by
        rcases Nat.lt_or_ge k r with h1 | h1
        · exact h1
        · have : k = r := by omega
          subst this
          have := Hat.out.1
          rw [Hk.out] at this
          cases this
          exact absurd Hat.out.2.1 he
      have he2 := Lib.hid (show (dat L x == d) = false by rw [beq_eq_false_iff_ne]; exact he)
      clear he
      go_wp2_with fail
      refine (path1_any x n bl bn gl L d (w.drewN q) hxn hll Hbl.out Hrow.out Hbn.out).mono ?_
      rintro e w5 ⟨rfl, m, rfl⟩
      rw [he2.out]
      go_wp2
      go_roundw
      case rel => exact ⟨k + 1, by omega, by go_num, q + m, by simp⟩
      case measure => simp [intOf]; omega
/-- What Path returns of a valid graph and nodes. -/
theorem own_drewN {w : World} {B : Nat} {e : TypeId} {v : Value} {n : Nat} {xs : List Value} (h : w.ownsRow B e 1 v n xs) (m : Nat) : (w.drewN m).ownsRow B e 1 v n xs := h
def PathR (g : List (List Nat)) (u t : Nat) (w : World) (e : Ending) (w' : World) : Prop := ∃ L, IsDist (revM g) [t] L ∧
  ((dat L u = -1 ∧ e = .returned (.tuple #[.slice none 0 0, .int .i64 8]) ∧ Below w.heap.size w w') ∨
   ∃ (k : Nat) (v : Value), dat L u = k ∧ e = .returned (.tuple #[v, .int .i64 0]) ∧ Sl nv w' v (pathM g L u k) ∧ Below w.heap.size w w')
set_option maxRecDepth 100000 in
set_option maxHeartbeats 4000000 in
theorem path_ok (v : Value) (g : List (List Nat)) (u t : Nat) (w : World) (h : Gr nv w v g) (hg : VG g) (hu : u < g.length) (ht : t < g.length) :
    Calls Try.prog 26 #[v, .int .i64 (u : Int), .int .i64 (t : Int)] w (PathR g u t w) := by
  obtain ⟨A, c, rfl⟩ := h.shape
  have H := Lib.hid h; have Hg := Lib.hid hg
  have hgl := hg.len
  have Hchk := Lib.hid (hg.chk [u, t] (by simp; exact ⟨hu, ht⟩))
  clear h hg
  go_enter Try.func26, Try.ntmps26
  go_wp2_with fail
  refine (check_any _ _ _ ([u, t].map fun n : Nat => (n : Int)) _ (H.out.below (below_alloc _ _)).cst Hg.out.lim.cst (lit_sl nv _ _ _ 2 [u, t] rfl rfl _).nv_iv (by simp)).mono ?_
  rintro e w0 ⟨rfl, hb0⟩
  rw [Hchk.out]
  have hb0' : Below w.heap.size w w0 := (below_alloc w _).trans (hb0.mono (by simp))
  have HB := Lib.hid hb0'
  replace H := Lib.hid (H.out.below hb0')
  clear hb0 hb0'
  go_wp2_with fail
  refine (reversed_any _ g _ H.out Hg.out).mono ?_
  rintro e w1 ⟨Ab, cb, rfl, hback, hb⟩
  replace HB := Lib.hid (HB.out.trans (hb.mono HB.out.size))
  replace H := Lib.hid (H.out.below hb)
  have Hback := Lib.hid hback
  clear hb hback
  go_wp2_with fail
  refine (distances_any _ _ (revM g) [t] _ (Hback.out.below (below_alloc _ _)) (revM_vg Hg.out) (lit_sl nv _ _ _ 1 [t] rfl rfl _) (by simp) (by simpa [revM_len] using ht)).mono ?_
  rintro e w2 ⟨L, gl, rfl, hL, _, hrow, hb⟩
  rw [revM_len]
  replace hb := (below_alloc w1 _).trans (hb.mono (by simp))
  replace HB := Lib.hid (HB.out.trans (hb.mono HB.out.size))
  replace H := Lib.hid (H.out.below hb)
  have HL := Lib.hid hL
  have Hrow := Lib.hid hrow
  have hll : L.length = g.length := by rw [hL.len, revM_len]
  have hcu := dat_cell hrow (by rw [hll]; exact hu : u < L.length)
  have hglt := hrow.lt
  clear hb hL hrow
  by_cases he : dat L u = -1
  · have he2 : (dat L u == -1) = true := by rw [beq_iff_eq]; exact he
    have He := Lib.hid he
    clear he
    go_wp2
    go_ret2
    exact ⟨L, HL.out, .inl ⟨He.out, rfl, HB.out.alloc HB.out.size _⟩⟩
  · have he2 : (dat L u == -1) = false := by rw [beq_eq_false_iff_ne]; exact he
    obtain ⟨k, hk⟩ : ∃ k : Nat, dat L u = k := by
      rcases HL.out.at_ u (by rw [revM_len]; exact hu) with ⟨h1, _⟩ | ⟨k, h1, _⟩
      · exact absurd h1 he
      · exact ⟨k, h1⟩
    have Hk := Lib.hid hk
    clear he hk
    go_wp2
    have Hbox := Lib.hid ((row_new w2 38 [.slice (some ⟨gl, 0, none⟩) g.length g.length]).keep (below_alloc _ (.cells #[.int .i64 (u : Int)] 3)))
    have Hown := Lib.hid (own_litS (w2.alloc (.cells #[.slice (some ⟨gl, 0, none⟩) g.length g.length] 38)) 3 #[.int .i64 (u : Int)] 1 (w2.heap.size + 1) [.int .i64 (u : Int)] rfl rfl (by decide) (by simp))
    have hb2 : Below w2.heap.size w2 ((w2.alloc (.cells #[.slice (some ⟨gl, 0, none⟩) g.length g.length] 38)).alloc (.cells #[.int .i64 (u : Int)] 3)) := (below_alloc w2 _).trans ((below_alloc _ _).mono (by simp))
    have Hr0 := Lib.hid (Hrow.out.keep hb2)
    have Hb0 := Lib.hid hb2
    have Hsteps := Lib.hid (step_at Hg.out HL.out hu Hk.out)
    have hbs := HB.out.size
    have hkn : k ≤ 400 := by
      rcases HL.out.at_ u (by rw [revM_len]; exact hu) with ⟨h1, _⟩ | ⟨k', h1, h2⟩
      · have := Hk.out; omega
      · have h3 := h2.lt (revM_vg Hg.out) (by simpa [revM_len] using ht)
        rw [revM_len] at h3
        have := Hk.out; omega
    clear hb2 hcu
    go_loopg [10, 11] k (fun gk pv nn wr => ∃ j : Nat, j + gk = k ∧ nn = .int .i64 (stepM g L u j : Int) ∧ wr.ownsRow (w2.heap.size + 1) 3 1 pv (pathM g L u j).length ((pathM g L u j).map nv) ∧ Row wr gl 3 (L.map iv) ∧ Row wr w2.heap.size 38 [.slice (some ⟨gl, 0, none⟩) g.length g.length] ∧ Below w2.heap.size w2 wr ∧ w2.heap.size + 1 ≤ wr.heap.size)
    case atStart => exact ⟨0, by omega, rfl, Hown.out, Hr0.out, Hbox.out, Hb0.out, by simp⟩
    case round =>
      clear Hown Hr0 Hbox Hb0
      obtain ⟨j, hj, rfl, hown, hrow, hbox, hbel, hsz⟩ := hrel
      have Hown := Lib.hid hown; have Hrw := Lib.hid hrow; have Hbx := Lib.hid hbox; have Hbel := Lib.hid hbel
      obtain ⟨hsn, hsd⟩ := Hsteps.out j (by omega)
      have hz := near_zero HL.out hsn
      have hpl := pathM_len g L u j
      obtain ⟨ad, c', A', cr, hs, hcap, hcell0, hrow0⟩ := gr_cell H.out (stepM g L u j) hsn
      simp only [Value.slice.injEq, true_and] at hs
      obtain ⟨rfl, rfl⟩ := hs
      by_cases hjk : j = k
      · have hst : stepM g L u j = t := hz.1 (by rw [hsd]; omega)
        have hne : ((stepM g L u j : Int) != (t : Int)) = false := by rw [bne_eq_false_iff_eq, hst]
        have Hjk := Lib.hid hjk
        obtain ⟨Ap, cp, rfl⟩ := (Sl.of_own hown).shape
        clear hown hrow hbox hbel hst hz hsd hjk hcell0 hrow0
        generalize stepM g L u j = x at *
        go_wp2
        go_ret2
        exact ⟨L, HL.out, .inr ⟨k, _, Hk.out, rfl, by rw [← Hjk.out]; exact Sl.of_own Hown.out, HB.out.trans (Hbel.out.mono hbs)⟩⟩
      · have hst : stepM g L u j ≠ t := fun e => by have := hz.2 e; omega
        have hgk : 1 ≤ gk := by omega
        have hne : ((stepM g L u j : Int) != (t : Int)) = true := by rw [bne_iff_ne]; omega
        have hdn1 : 1 ≤ dat L (stepM g L u j) ∧ dat L (stepM g L u j) ≤ 1000 := by rw [hsd]; omega
        obtain ⟨r, hat, hmem, _⟩ := near_next Hg.out HL.out (u := stepM g L u j) (d := k - (j + 1)) hsn (by rw [hsd]; omega)
        have Hnext := Lib.hid (pathM_next g L u j)
        have hstep : stepM g L u (j + 1) = nxtS g L (stepM g L u j) := rfl
        have Hstep := Lib.hid hstep
        have hcd := dat_cell hrow (by rw [hll]; exact hsn : stepM g L u j < L.length)
        have hcb := hbox.cell (i := 0) rfl
        have hrowl := Hg.out.node (stepM g L u j)
        have hrl := Hg.out.row_len (stepM g L u j)
        have Hrl := Lib.hid hrowl
        have Hat := Lib.hid hat
        have hrr := (List.getElem?_eq_some_iff.1 hat.1).1
        have hcell := (hbel.cell (World.block_lt_of_cell? _ _ hcell0)).trans hcell0
        have Hrow0 := Lib.hid (hrow0.below hbel)
        clear hown hrow hbox hbel hst hz hsd hjk hcell0 hrow0 hat hstep hmem hrowl
        obtain ⟨dn, hdn⟩ : ∃ dn, dn = dat L (stepM g L u j) := ⟨_, rfl⟩
        rw [← hdn] at hcd hdn1 Hat
        clear hdn
        generalize nxtS g L (stepM g L u j) = s at *
        generalize stepM g L u j = x at *
        obtain ⟨hdn1, hdn2⟩ := hdn1
        obtain ⟨adr, crr, hsr, hcapr, hcellr⟩ := sl_cell Hrow0.out r hrr
        simp only [Value.slice.injEq, true_and] at hsr
        obtain ⟨rfl, rfl⟩ := hsr
        have hrs : (row g x)[r] = s := by have := Hat.out.1; rw [List.getElem?_eq_getElem hrr] at this; exact Option.some.inj this
        rw [hrs] at hcellr
        unfold nv at hcellr
        clear hrs
        go_wp2
        have hb5 := below_alloc wr (.cells #[.int .i64 (dn - 1)] 3)
        have Hown5 := Lib.hid (Hown.out.alloc (.cells #[.int .i64 (dn - 1)] 3))
        have Hrw5 := Lib.hid (Hrw.out.keep hb5)
        have Hbx5 := Lib.hid (Hbx.out.keep hb5)
        have Hnr5 := Lib.hid ((row_new wr 3 [.int .i64 (dn - 1)]).cell (i := 0) rfl)
        have Hsl5 := Lib.hid (Hrow0.out.below hb5)
        have Hbel5 := Lib.hid (Hbel.out.trans (hb5.mono (by omega)))
        have hcell5 := (hb5.cell (World.block_lt_of_cell? _ _ hcell)).trans hcell
        have hcellr5 := (hb5.cell (World.block_lt_of_cell? _ _ hcellr)).trans hcellr
        have hsz5 : w2.heap.size + 1 ≤ (wr.alloc (.cells #[.int .i64 (dn - 1)] 3)).heap.size := by simp; omega
        clear hb5 hcell hcellr hcd hcb Hown Hrw Hbx Hbel Hrow0 hsz
        generalize wr.heap.size = bn at *
        generalize wr.alloc (.cells #[.int .i64 (dn - 1)] 3) = W5 at *
        go_quiet ((go_at_call 46; exact Calls.quiet_of (indexfunc_any _ (row g x) g.length w2.heap.size bn gl r s L (dn - 1) _ (Hsl5.out.drewN _) Hrl.out (by omega) hll (Hbx5.out.cell (i := 0) rfl) Hrw5.out Hnr5.out Hat.out)))
        have Hown6 := Lib.hid (own_drewN Hown5.out nq)
        have Hrw6 := Lib.hid (show Row (W5.drewN nq) gl 3 (L.map iv) from Hrw5.out)
        have Hbx6 := Lib.hid (show Row (W5.drewN nq) w2.heap.size 38 [.slice (some ⟨gl, 0, none⟩) g.length g.length] from Hbx5.out)
        have Hbel6 := Lib.hid (below_drew Hbel5.out nq)
        have hsz6 : w2.heap.size + 1 ≤ (W5.drewN nq).heap.size := hsz5
        clear Hown5 Hrw5 Hbx5 Hbel5 Hnr5 Hsl5 hsz5 hcell5 hcellr5
        generalize W5.drewN nq = W6 at *
        go_wp2_with (at_builtin; refine app1S rfl _ _ 38 rfl 3 (.int .i64 0) 8 info_int rfl (by kernel_rfl) (w2.heap.size + 1) _ _ _ rfl Hown6.out (.int .i64 (s : Int)) rfl rfl (by omega) (by omega) hsz6 ?_; intro v' w7 hown7 hfr7)
        have hb7 : Below (w2.heap.size + 1) W6 w7 := hfr7.below hsz6
        have Hown7 := Lib.hid hown7
        have Hrw7 := Lib.hid (Row.below Hrw6.out hb7 (by omega))
        have Hbx7 := Lib.hid (Row.below Hbx6.out hb7 (by omega))
        have Hbel7 := Lib.hid (Hbel6.out.trans (hb7.mono (by omega)))
        have hsz7 := Nat.le_trans hsz6 hb7.size
        clear hown7 hfr7 hb7
        go_wp2
        go_roundg (gk - 1)
        case measure => omega
        case rel => exact ⟨j + 1, by omega, by rw [Hstep.out], by rw [Hnext.out, List.length_append, List.map_append]; exact Hown7.out, Hrw7.out, Hbx7.out, Hbel7.out, hsz7⟩
end Go.Proofs.Ytnhhhnhakpambaa
