/- The reference's Make; rows that are replaced by new ones. -/
import Derived.Test.YtnhhhnhakpambaaMake
namespace Go.Proofs.Ytnhhhnhakpambaa
open Go.RowKit

/-- Rows in a block of the call's own: each one is a slice that lies anywhere. -/
structure RRows (w : World) (g : Nat) (vals : List Value) (ls : List (List Nat)) : Prop where
  row : Row w g 38 vals
  len : vals.length = ls.length
  sl : ∀ (i : Nat) v l, vals[i]? = some v → ls[i]? = some l → Sl nv w v l
theorem RRows.below {w w' : World} {g : Nat} {vals : List Value} {ls : List (List Nat)} (h : RRows w g vals ls) (hb : Below w.heap.size w w') : RRows w' g vals ls :=
  ⟨h.row.keep hb, h.len, fun i v l hv hl => (h.sl i v l hv hl).below hb⟩
theorem sl_set {w : World} {g a : Nat} {vals : List Value} {v u old : Value} {l : List Nat} (h : Sl nv w v l) (hr : Row w g 38 vals) (ha : vals[a]? = some old) (ho : ∃ A n c, old = .slice A n c) : Sl nv (w.setCell ⟨g, a, none⟩ u) v l := by
  rcases h with h | ⟨ad, c, rfl, hc, hcell⟩
  · exact .inl h
  · refine .inr ⟨ad, c, rfl, hc, fun j b hj => ?_⟩
    have h1 := hcell j b hj
    rw [World.cell?_setCell_other w _ _ _ (fun e => ?_)]
    · exact h1
    · have h2 := hr.cell ha
      rw [e] at h2
      obtain ⟨A, n, c', rfl⟩ := ho
      rw [h1] at h2
      simp [nv] at h2
theorem RRows.put {w : World} {g a : Nat} {vals : List Value} {ls : List (List Nat)} {old v' : Value} {l l' : List Nat} (h : RRows w g vals ls) (hv : vals[a]? = some old) (hl : ls[a]? = some l) (hs : Sl nv w v' l') : RRows (w.setCell ⟨g, a, none⟩ v') g (vals.set a v') (ls.set a l') := by
  have ho : ∃ A n c, old = .slice A n c := by
    obtain ⟨A, c, e⟩ := (h.sl a old l hv hl).shape
    exact ⟨A, _, c, e⟩
  refine ⟨h.row.set a v', by simp [h.len], fun i u m hu hm => ?_⟩
  rw [List.getElem?_set] at hu hm
  by_cases e : a = i
  · subst e
    rw [if_pos rfl, if_pos (List.getElem?_eq_some_iff.1 hv).1] at hu
    rw [if_pos rfl, if_pos (List.getElem?_eq_some_iff.1 hl).1] at hm
    cases hu; cases hm
    exact sl_set hs h.row hv ho
  · rw [if_neg e] at hu hm
    exact sl_set (h.sl i u m hu hm) h.row hv ho
theorem RRows.gr {w : World} {g n : Nat} {vals : List Value} {ls : List (List Nat)} (h : RRows w g vals ls) (hn : ls.length = n) : Gr nv w (.slice (some ⟨g, 0, none⟩) n n) ls :=
  ⟨vals, Row.sl (f := id) (by simpa using h.row) (by rw [h.len, hn]), h.len, fun i r l hr hl => h.sl i r l hr hl⟩
theorem RRows.start {w : World} {g n : Nat} (h : Row w g 38 (List.replicate n (.slice none 0 0))) : RRows w g (List.replicate n (.slice none 0 0)) (List.replicate n []) := by
  refine ⟨h, by simp, fun i v l hv hl => ?_⟩
  rw [List.getElem?_replicate] at hv hl
  split at hv
  · rename_i hi
    rw [if_pos hi] at hl
    cases hv; cases hl
    exact Sl.nil
  · cases hv
def natP (p : Int × Int) : Nat × Nat := (p.1.toNat, p.2.toNat)
theorem nat_good {n : Int} {m : Nat} (hn : n = m) {l : List (Int × Int)} (h : ∀ p ∈ l, Good n p) : castP (l.map natP) = l ∧ ∀ e ∈ l.map natP, e.1 < m ∧ e.2 < m := by
  refine ⟨?_, fun e he => ?_⟩
  · unfold castP
    rw [List.map_map]
    refine (List.map_congr_left fun p hp => ?_).trans (List.map_id l)
    obtain ⟨⟨a1, a2⟩, b1, b2⟩ := h p hp
    simp only [id, Function.comp, natP]
    ext <;> simp <;> omega
  · obtain ⟨p, hp, rfl⟩ := List.mem_map.1 he
    obtain ⟨⟨a1, a2⟩, b1, b2⟩ := h p hp
    simp only [natP]
    omega
theorem edM_nextP {n k : Nat} {es : List (Int × Int)} (hk : k < es.length) : edM n ((es.take (k + 1)).map natP) = withE (edM n ((es.take k).map natP)) (natP es[k]) := by
  unfold edM
  rw [List.take_succ_eq_append_getElem hk, List.map_append, List.foldl_append]; rfl
set_option maxRecDepth 20000 in
set_option maxHeartbeats 2000000 in
theorem rmake_u (n : Int) (v : Value) (es : List (Int × Int)) (w : World) (h : Prs w v es) (hl : es.length ≤ 10000) :
    Calls Try.prog 14 #[.int .i64 n, v] w (MkU n es w) := by
  obtain ⟨A, c, rfl⟩ := h.shape
  have H := Lib.hid h
  clear h
  by_cases h0 : n < 0
  · have Hno : Hid (¬ MkOk n es) := Lib.hid (fun h => by have := h.1; omega)
    go_enter Try.func14, Try.ntmps14
    go_wp2
    go_ret2
    exact ⟨_, [], 2, rfl, .inl ⟨Hno.out, rfl, rfl⟩, Gr.nil, Below.refl _ _⟩
  · by_cases h4 : 400 < n
    · have Hno : Hid (¬ MkOk n es) := Lib.hid (fun h => by have := h.2.1; omega)
      go_enter Try.func14, Try.ntmps14
      go_wp2
      go_ret2
      exact ⟨_, [], 2, rfl, .inl ⟨Hno.out, rfl, rfl⟩, Gr.nil, Below.refl _ _⟩
    · obtain ⟨m, rfl⟩ : ∃ m : Nat, n = m := ⟨n.toNat, by omega⟩
      have d0 : decide ((m : Int) < 0) = false := decide_eq_false h0
      have d4 : decide ((400 : Int) < (m : Int)) = false := decide_eq_false h4
      have hm : m ≤ 400 := by omega
      obtain ⟨i0, hi, hz0, hz1, hz2⟩ := info_parts info_ints
      clear h0 h4
      go_enter Try.func14, Try.ntmps14
      go_wp2_with (at_make; refine wpList_make_full _ rfl _ _ _ rfl w.heap.size 38 i0 _ 1 (by kernel_rfl) hi hz0 hz1 _ _ _ _ m rfl rfl rfl rfl (by rw [hz2]; omega) (by unfold maxLen; omega) (Nat.le_refl _) ?_; intro w1 hown hgr)
      have hb1 : Below w.heap.size w w1 := (Below.refl _ w).grown hgr (Nat.le_refl _) (fun k e => by cases e)
      have hrow : Row w1 w.heap.size 38 (List.replicate m (.slice none 0 0)) := Row.of_own (by
        have e := toList_madeCells_one (.slice none 0 0) m
        rw [← e]
        simpa [Value.cells] using hown)
      have HG := Lib.hid (RRows.start hrow)
      clear hrow hown hgr
      go_wp2
      go_loopw [7] (fun i wr => ∃ (k : Nat) (vals : List Value), k ≤ es.length ∧ i = .int .i64 k ∧ Hid (∀ p ∈ es.take k, Good m p) ∧ RRows wr w.heap.size vals (edM m ((es.take k).map natP)) ∧ Below w.heap.size w wr) (fun i _ => es.length - (intOf i).toNat)
      case atStart => exact ⟨0, _, Nat.zero_le _, rfl, Lib.hid (by simp), HG.out, hb1⟩
      case round =>
        clear HG hb1
        obtain ⟨k, vals, hk, rfl, hall, hG, hbel⟩ := hrel
        have Hbel := Lib.hid hbel
        have HG := Lib.hid hG
        by_cases hlt : k < es.length
        · obtain ⟨ad, c', hs, hcap, hc1, hc2⟩ := prs_cell (H.out.below hbel) k hlt
          simp only [Value.slice.injEq, true_and] at hs
          obtain ⟨rfl, rfl⟩ := hs
          have Hgood := Lib.hid (fun h => good_next hlt hall.out h)
          have Hmem := Lib.hid (List.getElem_mem hlt)
          have Hnx := Lib.hid (edM_nextP (n := m) hlt)
          have Hvg := Lib.hid (edM_vg hm (nat_good rfl hall.out).2)
          have hgl := edM_len m ((es.take k).map natP)
          generalize es[k] = p at *
          obtain ⟨a, b⟩ := p
          dsimp only at hc1 hc2
          have hk0 : (0 : Int) ≤ (k : Int) := by omega
          have hk1 : (k : Int) < (es.length : Int) := by omega
          by_cases hgd : Good m (a, b)
          · obtain ⟨⟨ha0, ha1⟩, hb0, hb1⟩ := hgd
            dsimp only at ha0 ha1 hb0 hb1
            obtain ⟨x, rfl⟩ : ∃ x : Nat, a = x := ⟨a.toNat, by omega⟩
            obtain ⟨y, rfl⟩ : ∃ y : Nat, b = y := ⟨b.toNat, by omega⟩
            have e1 : natP ((x : Int), (y : Int)) = (x, y) := by simp [natP]
            rw [e1] at Hnx
            have Hgd := Lib.hid (Hgood.out ⟨⟨ha0, ha1⟩, hb0, hb1⟩)
            have da0 : decide ((x : Int) < 0) = false := decide_eq_false (by omega)
            have db0 : decide ((y : Int) < 0) = false := decide_eq_false (by omega)
            have da1 : decide (m ≤ x) = false := decide_eq_false (by omega)
            have db1 : decide (m ≤ y) = false := decide_eq_false (by omega)
            generalize hgk : edM m ((es.take k).map natP) = gk at *
            have hla : gk[x]? = some (row gk x) := by rw [row_get (by omega), List.getElem?_eq_getElem (by omega)]
            obtain ⟨vx, hvx⟩ : ∃ vx, vals[x]? = some vx := ⟨_, List.getElem?_eq_getElem (by rw [hG.len]; omega)⟩
            have hck := hG.row.cell hvx
            have hfr := hG.row.free x
            have Hsl := Lib.hid (hG.sl x vx _ hvx hla)
            have Hvx := Lib.hid hvx; have Hla := Lib.hid hla
            have hgd := hG.row.lt
            have hrl := Hvg.out.row_len x
            clear hbel hall hG e1 hvx hla hgk Hgood Hmem
            go_wp2
            go_quiet (fail)
            go_wp2_with fail
            refine (rwith_any vx (row gk x) y _ (Hsl.out.drewN nq) (by omega)).mono ?_
            rintro e w2 ⟨v', rfl, hs', hb⟩
            have hrw0 : RRows (wr.drewN nq) w.heap.size vals gk := ⟨HG.out.row, HG.out.len, HG.out.sl⟩
            have HG2 := Lib.hid (hrw0.below hb)
            have Hb2 := Lib.hid ((below_drew Hbel.out nq).trans (hb.mono (by simp; omega)))
            obtain ⟨Av, cv, rfl⟩ := hs'.shape
            have Hs' := Lib.hid hs'
            have hck2 := HG2.out.row.cell Hvx.out
            have hfr2 := HG2.out.row.free x
            clear hs' hb hrw0 hck hfr hc1 hc2
            go_wp2
            go_roundw
            case rel => exact ⟨k + 1, _, by omega, by go_num, Hgd, by rw [Hnx.out]; exact HG2.out.put Hvx.out Hla.out Hs'.out, Hb2.out.setCell (p := ⟨w.heap.size, x, none⟩) (Nat.le_refl _) _⟩
            case measure => simp [intOf]; omega
          · have Hno : Hid (¬ MkOk m es) := Lib.hid (fun h => hgd (h.2.2 _ Hmem.out))
            have Hbad := Lib.hid hgd
            clear hbel hall hG Hgood Hmem hgd Hnx hgl
            have fin : ∀ W, Below wr.heap.size wr W → MkU m es w (.returned (.tuple #[.slice none 0 0, .int .i64 2])) W := fun W hW => ⟨_, [], 2, rfl, .inl ⟨Hno.out, rfl, rfl⟩, Gr.nil, Hbel.out.trans (hW.mono Hbel.out.size)⟩
            have Hfin := Lib.hid fin
            clear fin
            by_cases ha0 : a < 0
            · go_wp2
              go_quiet (fail)
              go_wp2
              go_ret2
              exact Hfin.out _ (Below.drewNs _ _)
            · by_cases ha1 : a < (m : Int)
              · have d1 : decide (a < 0) = false := decide_eq_false ha0
                have d2 : decide ((m : Int) ≤ a) = false := decide_eq_false (by omega)
                by_cases hb0 : b < 0
                · go_wp2
                  go_quiet (fail)
                  go_wp2
                  go_ret2
                  exact Hfin.out _ (Below.drewNs _ _)
                · have hb1 : (m : Int) ≤ b := by
                    rcases Int.lt_or_le b m with h | h
                    · exact absurd (show Good m (a, b) from ⟨⟨by omega, ha1⟩, by show 0 ≤ b; omega, h⟩) Hbad.out
                    · exact h
                  have d3 : decide (b < 0) = false := decide_eq_false hb0
                  have d4' : decide ((m : Int) ≤ b) = true := decide_eq_true hb1
                  go_wp2
                  go_quiet (fail)
                  go_wp2
                  go_ret2
                  exact Hfin.out _ (Below.drewNs _ _)
              · have d1 : decide (a < 0) = false := decide_eq_false ha0
                have d2 : decide ((m : Int) ≤ a) = true := decide_eq_true (by omega)
                go_wp2
                go_quiet (fail)
                go_wp2
                go_ret2
                exact Hfin.out _ (Below.drewNs _ _)
        · obtain rfl : k = es.length := by omega
          have hok : ∀ p ∈ es, Good m p := fun p hp => hall.out p (by rwa [List.take_length])
          obtain ⟨e1, e2⟩ := nat_good rfl hok
          have He1 := Lib.hid e1; have He2 := Lib.hid e2
          rw [List.take_length] at HG
          have hfin := HG.out.gr (edM_len m (es.map natP))
          have Hfin := Lib.hid hfin
          clear hbel hall hok e1 e2 hG hfin
          go_wp2
          go_ret2
          exact ⟨_, _, 0, rfl, .inr ⟨m, es.map natP, rfl, hm, He1.out.symm, He2.out, rfl, rfl⟩, Hfin.out, Hbel.out⟩
end Go.Proofs.Ytnhhhnhakpambaa
