/- The contract of leaving. -/
import Derived.Test.YtnhhhnhakpambaaGraphLeaveW
import Derived.Test.YtnhhhnhakpambaaGraphOrder
import Derived.Deep.LoopGhost
namespace Go.Proofs.Ytnhhhnhakpambaa
open Go.RowKit

theorem own_mono {w : World} {B B' e n : Nat} {v : Value} {xs : List Value} (h : w.ownsRow B e 1 v n xs) (hb : B' ≤ B) : w.ownsRow B' e 1 v n xs := by
  refine ⟨h.1, ?_⟩
  rcases h.2 with h0 | ⟨g, cap, cur, h1, h2, h3⟩
  · exact .inl h0
  · exact .inr ⟨g, cap, cur, h1, Nat.le_trans hb h2, h3⟩
/-- What leaving returns. -/
def LeaveP (g : List (List Nat)) (w : World) (e : Ending) (w' : World) : Prop := ∃ s v, LOut g g.length s ∧ s.stack = [] ∧ LInv g s ∧ e = .returned v ∧ w'.ownsRow w.heap.size 3 1 v s.left.length (s.left.map nv) ∧ Below w.heap.size w w'
theorem made_rowb {w w1 : World} {g n : Nat} (hown : w1.ownsRow g 4 1 (.slice (some ⟨w.heap.size, 0, none⟩) n n) n (madeCells (Value.bool false).cells (n * 1)).toList) : Row w1 w.heap.size 4 (List.replicate n (.bool false)) := Row.of_own (B := g) (n := n) (by
  have e := toList_madeCells_one (.bool false) n
  rw [← e]
  simpa [Value.cells] using hown)
theorem lmem_start {w w1 w2 : World} {n : Nat} (h1 : w.grownBy w1 none) (r1 : Row w1 w.heap.size 4 (List.replicate n (.bool false))) (h2 : w1.grownBy w2 none) (r2 : Row w2 w1.heap.size 3 (List.replicate n (.int .i64 0))) :
    LMem w w2.heap.size w.heap.size w1.heap.size (linit n) (.slice none 0 0) (.slice none 0 0) w2 := by
  have b1 := made_below h1
  have b2 := made_below h2
  refine ⟨World.ownsRow_nil _ _ _ _, World.ownsRow_nil _ _ _ _, (fun b h _ => by cases h), ?_, ?_, ?_, ?_, r2.lt, Nat.le_refl _, b1.size, b1.trans (b2.mono b1.size), Nat.le_refl _⟩
  · have := r1.keep b2
    simpa [linit] using this
  · have e : (linit n).tried.map nv = List.replicate n (.int .i64 0) := by simp [linit, nv]
    rw [e]; exact r2
  · have := r1.lt; omega
  · have := r1.lt; have := b2.size; omega
set_option maxRecDepth 100000 in
set_option maxHeartbeats 4000000 in
theorem leaving_any (v : Value) (g : List (List Nat)) (w : World) (h : Gr nv w v g) (hg : VG g) :
    Calls Try.prog 62 #[v] w (LeaveP g w) := by
  obtain ⟨A, c, rfl⟩ := h.shape
  have H := Lib.hid h; have Hg := Lib.hid hg
  have hgl := hg.len
  clear h hg
  obtain ⟨i0, hi, hz0, hz1, hz2⟩ := info_parts info_int
  obtain ⟨j0, hj, hy0, hy1, hy2⟩ := info_parts info_bool
  go_enter Try.func62, Try.ntmps62
  go_wp2_with (first | (at_make; refine wpList_make_full _ rfl _ _ _ rfl w.heap.size 4 j0 _ 1 (by kernel_rfl) hj hy0 hy1 _ _ _ _ g.length rfl rfl rfl rfl (by rw [hy2]; omega) (by unfold maxLen; omega) (Nat.le_refl _) ?_; intro w1 hown hgr; have Hr1 := Lib.hid (made_rowb hown); have Hg1 := Lib.hid hgr; clear hown hgr) | (at_make; refine wpList_make_full _ rfl _ _ _ rfl w1.heap.size 3 i0 _ 1 (by kernel_rfl) hi hz0 hz1 _ _ _ _ g.length rfl rfl rfl rfl (by rw [hz2]; omega) (by unfold maxLen; omega) (Nat.le_refl _) ?_; intro w2 hown hgr; have Hm := Lib.hid (lmem_start Hg1.out Hr1.out hgr (made_row hown)); clear hown hgr))
  have hgne : w.heap.size ≠ w1.heap.size := Hm.out.ne
  go_loopw [3, 4, 18] (fun lv sv i wr => ∃ (k : Nat) (s : LSt), k ≤ g.length ∧ i = .int .i64 k ∧ Hid (LOut g k s) ∧ Hid (s.stack = []) ∧ Hid (LInv g s) ∧ Hid (LMem w w2.heap.size w.heap.size w1.heap.size s lv sv wr)) (fun _ _ i _ => g.length - (intOf i).toNat)
  case atStart => exact ⟨0, _, Nat.zero_le _, rfl, Lib.hid .start, Lib.hid rfl, Lib.hid (linv_init g), Hm⟩
  case round =>
    obtain ⟨k, s, hk, rfl, hout, hst, hinv, hmem⟩ := hrel
    by_cases hlt : k < g.length
    · have hfr := hmem.out.seen.free k
      rcases hinv.out.em hlt with hs | hs
      · have hck := hmem.out.seen.cell (i := k) (v := .bool true) (by rw [List.getElem?_map, hs]; rfl)
        have Hs := Lib.hid hs
        clear hs
        go_wp2
        go_step3
        go_wp2
        rw [Exit.noGoto_exit]
        go_wp2
        go_roundw
        case rel => exact ⟨k + 1, s, by omega, by go_num, Lib.hid (hout.out.seen Hs.out), hst, hinv, hmem⟩
        case measure => simp [intOf]; omega
      · have hck := hmem.out.seen.cell (i := k) (v := .bool false) (by rw [List.getElem?_map, hs]; rfl)
        have Hs := Lib.hid hs
        have hcnt := hinv.out.count
        clear hs
        go_wp2
        go_step3
        go_wp2_with (at_builtin; refine app1T rfl _ _ 38 rfl 3 (.int .i64 0) 8 info_int rfl (by kernel_rfl) w2.heap.size _ _ _ rfl (hmem.out.setS k).stack (.int .i64 (k : Int)) (by rw [size_setCell]; rfl) rfl (Nat.le_trans (Nat.mul_le_mul_right 8 (Nat.succ_le_succ (Nat.le_trans (Nat.le_add_left _ _) (Nat.le_trans hcnt hgl)))) (by decide)) (Nat.le_trans (Nat.succ_le_succ (Nat.le_trans (Nat.le_add_left _ _) (Nat.le_trans hcnt hgl))) (by decide)) (by rw [size_setCell]; exact hmem.out.size) ?_; intro v' w3 hown3 hgr3 hf3; obtain ⟨g3, cap3, rfl, _, _, _⟩ := own_shape hown3 (by omega); have Hm3 := Lib.hid ((hmem.out.setS k).pushS hown3 hgr3 hf3); clear hown3 hgr3 hf3)
        have E : ({ left := s.left, stack := s.stack ++ [k], seen := s.seen.set k true, tried := s.tried } : LSt) = lenter s k := by unfold lenter; rw [hst.out]; rfl
        rw [E] at Hm3
        have Hi3 := Lib.hid (hinv.out.enter hst.out hlt Hs.out)
        have hl3 : s.stack.length + 1 = (lenter s k).stack.length := by rw [hst.out]; rfl
        rw [hl3] at Hm3 ⊢
        clear E hl3 hck hfr hcnt
        go_step3
        go_wp2
        go_loopg [3, 4] (mu g (lenter s k)) (fun gk lv sv wr => ∃ t : LSt, mu g t ≤ gk ∧ Hid (LRuns g (lenter s k) t) ∧ Hid (LInv g t) ∧ Hid (LMem w w2.heap.size w.heap.size w1.heap.size t lv sv wr))
        case atStart => exact ⟨lenter s k, Nat.le_refl _, Lib.hid (LRuns.refl _ _), Hi3, Hm3⟩
        case round =>
          clear Hm3 Hi3
          obtain ⟨t, hmu, hruns, hinv3, hmem3⟩ := hrel
          obtain ⟨As, cs, rfl⟩ := (Sl.of_own hmem3.out.stack).shape
          rcases List.eq_nil_or_concat t.stack with hts | ⟨st, n, hts⟩
          · have hz : t.stack.length = 0 := by rw [hts]; rfl
            have Hts := Lib.hid hts
            clear hts
            go_wp2
            rw [Exit.noGoto_normal]
            go_wp2
            go_roundw
            case rel => exact ⟨k + 1, t, by omega, by go_num, Lib.hid (hout.out.new Hs.out hruns.out Hts.out), Hts, hinv3, hmem3⟩
            case measure => simp [intOf]; omega
          · rw [List.concat_eq_append] at hts
            have hlen : t.stack.length = st.length + 1 := by rw [hts]; simp
            obtain ⟨b, cap, hsv, _, _, hcap⟩ := own_shape hmem3.out.stack (by omega)
            simp only [Value.slice.injEq, true_and] at hsv
            obtain ⟨rfl, rfl⟩ := hsv
            rw [hlen] at hcap ⊢
            have hnn : n < g.length := hinv3.out.node n (by rw [hts]; simp)
            have htop : wr.cell? ⟨b, st.length, none⟩ = some (.int .i64 (n : Int)) := by
              have := hmem3.out.stack.cellAt st.length (by omega)
              rw [this, List.getElem?_map, hts, List.getElem?_append_right (Nat.le_refl _)]
              simp [nv]
            have hcnt := hinv3.out.count
            rw [hlen] at hcnt
            rw [hlen] at hmem3
            have Hts := Lib.hid hts
            have i1 : (st.length : Int) + 1 - 1 = (st.length : Int) := by omega
            obtain ⟨ad, c', A', cr, hs, hcapg, hcell0, hrow0⟩ := gr_cell H.out n hnn
            simp only [Value.slice.injEq, true_and] at hs
            obtain ⟨rfl, rfl⟩ := hs
            have Hcell0 := Lib.hid hcell0
            have Hrow0 := Lib.hid hrow0
            have hrl := Hg.out.row_len n
            clear hts hlen hcell0 hrow0
            obtain ⟨gq, hgq⟩ : ∃ gq, gq = gk := ⟨_, rfl⟩
            go_wp2
            obtain ⟨wo, hwo⟩ : ∃ wo : World, wo = wr := ⟨_, rfl⟩
            go_loopg [4, 9] ((row g n).length) (fun gk2 s4 s9 wr => ∃ t2 : LSt, s4 = .slice (some ⟨b, 0, none⟩) (st.length + 1) cs ∧ mu g t2 ≤ gq ∧ (row g n).length ≤ gk2 + tr t2 n ∧ Hid (t2.stack = st ++ [n]) ∧ Hid (LRuns g (lenter s k) t2) ∧ Hid (LInv g t2) ∧ Hid (LMem w w2.heap.size w.heap.size w1.heap.size t2 u3 (.slice (some ⟨b, 0, none⟩) (st.length + 1) cs) wr))
            case atStart => exact ⟨t, rfl, by omega, by omega, Hts, hruns, hinv3, hmem3⟩
            case round =>
              clear hmem3 hinv3 hruns Hts hmu htop hcnt
              obtain ⟨t2, rfl, hmu, hgk2, Hts, hruns, hinv3, hmem3⟩ := hrel
              have hcnt := hinv3.out.count
              have hlen : t2.stack.length = st.length + 1 := by rw [Hts.out]; simp
              rw [hlen] at hcnt
              have htl := hinv3.out.le n
              have htk := hmem3.out.tried.cell (i := n) (v := .int .i64 (tr t2 n : Int)) (by
                have hl := hinv3.out.tlen
                rw [List.getElem?_map]
                unfold tr
                rw [List.getElem?_eq_getElem (by rw [hl]; exact hnn)]; rfl)
              have hfrt := hmem3.out.tried.free n
              have hcg := ((hmem3.out.below).cell (World.block_lt_of_cell? _ _ Hcell0.out)).trans Hcell0.out
              have Hstep := Lib.hid (@LInv.skip g t2 hinv3.out n hnn)
              by_cases hltt : tr t2 n < (row g n).length
              · obtain ⟨adr, crr, hsr, hcapr, hcellr⟩ := sl_cell (Hrow0.out.below hmem3.out.below) (tr t2 n) hltt
                simp only [Value.slice.injEq, true_and] at hsr
                obtain ⟨rfl, rfl⟩ := hsr
                have hxn := Hg.out.node n _ (List.getElem_mem hltt)
                have Hx := Lib.hid (List.getElem?_eq_getElem hltt)
                generalize (row g n)[tr t2 n] = x at *
                obtain ⟨τ, hτ⟩ : ∃ τ, τ = tr t2 n := ⟨_, rfl⟩
                rw [← hτ] at htk hcellr hltt
                have Hτ := Lib.hid hτ
                have hsx := hinv3.out.em hxn
                have hfrs := hmem3.out.seen.free x
                unfold nv at hcellr
                have d1 : decide ((τ : Int) < ((row g n).length : Int)) = true := decide_eq_true (by omega)
                rcases hsx with hs | hs
                · have hck2 := hmem3.out.seen.cell (i := x) (v := .bool true) (by rw [List.getElem?_map, hs]; rfl)
                  have Hsx := Lib.hid hs
                  clear hs hτ
                  go_wp2
                  go_quiet (fail)
                  go_wp2
                  go_quiet (fail)
                  go_wp2
                  have Hmu := Lib.hid (hinv3.out.mu_lt hnn (l := t2.left) (st := t2.stack) (b := t2.seen) (Hstep.out (by rw [← Hτ.out]; exact hltt)) (Nat.le_succ _))
                  have Htr := Lib.hid (tr_set (s := t2) (n := n) (i := n) (v := tr t2 n + 1) (l := t2.left) (b := t2.stack) (c := t2.seen) (by rw [hinv3.out.tlen]; exact hnn))
                  have Hx2 : Hid ((row g n)[tr t2 n]? = some x) := Hx
                  have Hlst := Lib.hid (lstep_skip (g := g) (s := t2) (n := n) (x := x) (by rw [Hts.out]; simp) Hx2.out Hsx.out)
                  go_roundg (gk - 1)
                  case measure => have := Hτ.out; omega
                  case rel => exact ⟨{ t2 with tried := t2.tried.set n (tr t2 n + 1) }, rfl, by have := Hmu.out; omega, by rw [Htr.out, if_pos rfl]; have := Hτ.out; omega, Hts, Lib.hid (hruns.out.step Hlst.out), Lib.hid (Hstep.out (by rw [← Hτ.out]; exact hltt)), Lib.hid ((hmem3.out.drewN _).setT1 n Hτ.out)⟩
                · have hck2 := hmem3.out.seen.cell (i := x) (v := .bool false) (by rw [List.getElem?_map, hs]; rfl)
                  have Hsx := Lib.hid hs
                  have Hp := Lib.hid (hinv3.out.push hnn (by rw [← hτ]; exact hltt) hxn hs)
                  clear hs hτ
                  have Hmu := Lib.hid (hinv3.out.mu_lt hnn (l := t2.left) (st := t2.stack ++ [x]) (b := t2.seen.set x true) Hp.out (by simp))
                  have Hlst := Lib.hid (lstep_push (g := g) (s := t2) (n := n) (x := x) (by rw [Hts.out]; simp) Hx.out Hsx.out)
                  have hl2 : t2.stack.length ≤ 400 := by omega
                  have Hl2 := Lib.hid hl2
                  clear hl2
                  go_wp2
                  go_quiet (fail)
                  go_wp2
                  go_quiet (fail)
                  go_wp2_with (at_builtin; refine app1T rfl _ _ 38 rfl 3 (.int .i64 0) 8 info_int rfl (by kernel_rfl) w2.heap.size _ _ _ rfl (((hmem3.out.drewN _).setT1 n Hτ.out).setS x).stack (.int .i64 (x : Int)) (by rw [size_setCell, size_setCell]; rfl) rfl (Nat.le_trans (Nat.mul_le_mul_right 8 (Nat.succ_le_succ Hl2.out)) (by decide)) (Nat.le_trans (Nat.succ_le_succ Hl2.out) (by decide)) (by rw [size_setCell, size_setCell]; exact hmem3.out.size) ?_; intro v' w3 hown3 hgr3 hf3; have Hm4 := Lib.hid ((((hmem3.out.drewN _).setT1 n Hτ.out).setS x).pushS hown3 hgr3 hf3); clear hown3 hgr3 hf3)
                  go_roundg (gq - 1)
                  case measure => have := Hmu.out; omega
                  case rel => exact ⟨{ t2 with stack := t2.stack ++ [x], seen := t2.seen.set x true, tried := t2.tried.set n (tr t2 n + 1) }, by have := Hmu.out; omega, Lib.hid (hruns.out.step Hlst.out), Hp, Hm4⟩
              · obtain ⟨τ, hτ⟩ : ∃ τ, τ = tr t2 n := ⟨_, rfl⟩
                rw [← hτ] at htk
                have d1 : decide (τ < (row g n).length) = false := decide_eq_false (by omega)
                have Hlst := Lib.hid (lstep_pop (g := g) (s := t2) (n := n) (by rw [Hts.out]; simp) (by omega))
                have Hp := Lib.hid (hinv3.out.pop Hts.out)
                have Hdrop : Hid (t2.stack.dropLast = st) := by show _ = _; rw [Hts.out]; simp
                have Hmu : Hid (mu g ⟨t2.left ++ [n], st, t2.seen, t2.tried⟩ < mu g t2) := by show _ < _; unfold mu; simp only [hlen]; omega
                have Hd := Lib.hid (hmem3.out.drop Hts.out)
                have hl2 : t2.left.length ≤ 400 := by omega
                have Hl2 := Lib.hid hl2
                clear hl2 hτ hlen
                go_wp2
                go_quiet (fail)
                go_wp2_with (at_builtin; refine app1T rfl _ _ 38 rfl 3 (.int .i64 0) 8 info_int rfl (by kernel_rfl) w2.heap.size _ _ _ rfl (Hd.out.drewN _).left (.int .i64 (n : Int)) rfl rfl (Nat.le_trans (Nat.mul_le_mul_right 8 (Nat.succ_le_succ Hl2.out)) (by decide)) (Nat.le_trans (Nat.succ_le_succ Hl2.out) (by decide)) Hd.out.size ?_; intro v' w3 hown3 hgr3 hf3; have Hm4 := Lib.hid ((Hd.out.drewN _).pushL hown3 hgr3 hf3); clear hown3 hgr3 hf3)
                go_roundg (gq - 1)
                case measure => have := Hmu.out; omega
                case rel => exact ⟨⟨t2.left ++ [n], st, t2.seen, t2.tried⟩, by have := Hmu.out; omega, Lib.hid (hruns.out.step (by rw [Hlst.out, Hdrop.out])), Hp, Hm4⟩
    · have Hfin : Hid (LOut g g.length s) := by
        have : k = g.length := by omega
        subst this
        exact hout
      clear hgne
      go_wp2
      go_ret
      exact ⟨s, _, Hfin.out, hst.out, hinv.out, rfl, own_mono hmem.out.left (Nat.le_trans hmem.out.hs (Nat.le_of_lt hmem.out.ls)), hmem.out.below⟩
end Go.Proofs.Ytnhhhnhakpambaa
