/- The contract of leaders. -/
import Derived.Test.YtnhhhnhakpambaaBackward
import Derived.Test.YtnhhhnhakpambaaRoundQuiet
import Derived.Test.YtnhhhnhakpambaaGraphBack
import Derived.Test.YtnhhhnhakpambaaGraphLead
import Derived.Test.YtnhhhnhakpambaaGraphLeaving
namespace Go.Proofs.Ytnhhhnhakpambaa
open Go.RowKit Go.Shelf
attribute [local go_sem] Oper.semAt_some

theorem lit_slg {α : Type} (f : α → Value) (w : World) (e : TypeId) (cs : Array Value) (n g : Nat) (xs : List α) (hn : xs.length = n) (hc : cs.toList = xs.map f) (fr : Nat × Nat) (hg : g = w.heap.size) : Sl f (w.alloc (.cells cs e fr)) (.slice (some ⟨g, 0, none⟩) n n) xs := by
  subst hg; exact lit_sl f w e cs n xs hn hc fr
theorem Row.own {w w' : World} {g t : Nat} {cs : List Value} {row : Option Nat} (h : Row w g t cs) (hg : w.grownBy w' row) (hr : ∀ r, row = some r → ∃ o : Obj, w.heap[r]? = some o ∧ o.isCells = false) : Row w' g t cs := by
  refine (hg.block g h.lt fun e => ?_).trans h
  obtain ⟨o, h1, h2⟩ := hr g e.symm
  have h' : w.heap[g]? = some (.cells cs.toArray t (0, 0)) := h
  rw [h'] at h1
  cases h1
  cases h2
theorem grownBy_setCell (w : World) (g i : Nat) (v : Value) : w.grownBy (w.setCell ⟨g, i, none⟩ v) (some g) :=
  ⟨rfl, rfl, rfl, by rw [size_setCell]; exact Nat.le_refl _, fun k _ hk => Below.heap_setCell w ⟨g, i, none⟩ v k (fun e => hk (by rw [e]))⟩
/-- An append onto a row that is younger than W. -/
theorem grown_young {W w w1 : World} {gd B : Nat} (h : W.grownBy w (some gd)) (hB : W.heap.size ≤ B) (hg : Below B w w1) : W.grownBy w1 (some gd) :=
  ⟨hg.os.trans h.os, hg.tape.trans h.tape, hg.output.trans h.output, Nat.le_trans h.size hg.size, fun k hk hn => (hg.block k (by omega)).trans (h.block k hk hn)⟩
theorem one_newS (w : World) (a : Addr) (v c : Value) (e : TypeId) : ∀ (j : Nat) (u : Value), [c][j]? = some u → ((w.setCell a v).alloc (.cells #[c] e)).cell? ((⟨w.heap.size, 0, none⟩ : Addr).add j) = some u := by
  intro j u hj
  match j, hj with
  | 0, hj =>
    simp at hj; subst hj
    have := cell_of_row ((w.setCell a v).alloc (.cells #[c] e)) w.heap.size 0 #[c] e (0, 0) (by rw [← size_setCell w a v]; exact heap_alloc_new _ _)
    simpa [Addr.add] using this
/-- The leaders behind the rounds of the nodes at the indices pre of L. -/
def leadP (g : List (List Nat)) (L pre : List Nat) : List Int := (pre.map fun i => L[i]?.getD 0).foldl (claim (revM g)) (List.replicate g.length (-1))
theorem map_down (L : List Nat) : (List.range L.length).reverse.map (fun i => L[i]?.getD 0) = L.reverse := by
  rw [List.map_reverse]
  congr 1
  refine List.ext_getElem (by simp) fun i h1 h2 => ?_
  simp [List.getElem?_eq_getElem h2]
theorem leadP_all (g : List (List Nat)) (L : List Nat) : leadP g L (List.range L.length).reverse = leadM (revM g) L.reverse := by
  unfold leadP leadM
  rw [map_down, revM_len]
/-- What leaders returns. -/
def LeadP (g : List (List Nat)) (w : World) (e : Ending) (w' : World) : Prop := ∃ s b, LOut g g.length s ∧ s.stack = [] ∧ LInv g s ∧ e = .returned (.slice (some ⟨b, 0, none⟩) g.length g.length) ∧ Row w' b 3 ((leadM (revM g) s.left.reverse).map iv) ∧ Below w.heap.size w w'
set_option maxRecDepth 100000 in
set_option maxHeartbeats 4000000 in
theorem leaders_in (v : Value) (g : List (List Nat)) (w : World) (h : Gr nv w v g) (hg : VG g) :
    CallsIn .wide 9 Try.prog 55 #[v] w (LeadP g w) := by
  obtain ⟨A, c, rfl⟩ := h.shape
  have H := Lib.hid h; have Hg := Lib.hid hg
  have hgl := hg.len
  obtain ⟨i0, hi, hz0, hz1, hz2⟩ := info_parts info_int
  clear h hg
  refine callsIn_of_wp_marks Try.func55 rfl trivial ?_ rfl
  simp only [Try.ntmps55, List.size_toArray, List.length_cons, List.length_nil, Nat.reduceAdd, Nat.reduceSub, Array.replicate_succ, Array.replicate_zero, List.push_toArray, List.append_toArray, List.nil_append, List.cons_append]
  gi_wp2
  refine ⟨trivial, (callsIn_wide.2 (reversed_any _ g _ H.out Hg.out)).mono ?_⟩
  rintro e w1 ⟨Ab, cb, rfl, hback, hb1⟩
  rw [revM_len] at hback ⊢
  have Hback := Lib.hid hback; have Hb1 := Lib.hid hb1
  have hs1 := hb1.size
  clear hback hb1
  gi_wp2
  refine ⟨trivial, (callsIn_wide.2 (repeat_any (-1) g.length _ _ (lit_slg iv _ _ _ 1 (w1.heap.size + 1) [-1] rfl rfl _ (by simp)) (by omega))).mono ?_⟩
  rintro e w2 ⟨gd, rfl, hgd, hrow, hb2⟩
  have hb2' : Below w1.heap.size w1 w2 := (((Below.refl _ w1).alloc (Nat.le_refl _) _).alloc (by simp) _).trans (hb2.mono (by simp; omega))
  have hbb2 : Row w2 w1.heap.size 26 [.slice (some Ab) g.length cb] := Row.below (B := w1.heap.size + 1 + 1) ((Below.heap_alloc _ _ _ (by simp)).trans (heap_alloc_new w1 _)) (by simpa using hb2) (by omega)
  have hgd0 : w1.heap.size + 2 ≤ gd := by simpa using hgd
  have hgd1 := hrow.lt
  have Hrow := Lib.hid hrow; have Hb2 := Lib.hid hb2'; have Hbb2 := Lib.hid hbb2
  clear hrow hb2 hb2' hbb2 hgd
  gi_wp2
  have hHl := H.out.below (Hb1.out.trans ((Hb2.out.trans (below_alloc w2 (.cells #[.slice (some ⟨gd, 0, none⟩) g.length g.length] 38) |>.mono Hb2.out.size)).mono hs1))
  refine ⟨trivial, (callsIn_wide.2 (leaving_any _ g _ hHl Hg.out)).mono ?_⟩
  clear hHl
  rintro e w3 ⟨s, lv, hout, hst, hinv, rfl, hown, hb3⟩
  obtain ⟨Al, cl, rfl⟩ := (Sl.of_own hown).shape
  have Hown := Lib.hid hown; have Hout := Lib.hid hout; have Hst := Lib.hid hst; have Hinv := Lib.hid hinv
  have hw2 : (w2.alloc (.cells #[.slice (some ⟨gd, 0, none⟩) g.length g.length] 38)).heap.size = w2.heap.size + 1 := by simp
  rw [hw2] at hb3 Hown
  have hb3s := hb3.size
  rw [hw2] at hb3s
  have hbl3 : Row w3 w2.heap.size 38 [.slice (some ⟨gd, 0, none⟩) g.length g.length] := Row.below (B := w2.heap.size + 1) (heap_alloc_new w2 _) hb3 (by omega)
  have Hbl3 := Lib.hid hbl3
  have Hbb3 := Lib.hid ((Hbb2.out.keep (below_alloc w2 _)).below hb3 (by omega))
  have Hrow3 := Lib.hid ((Hrow.out.keep (below_alloc w2 _)).below hb3 (by omega))
  have HB3 := Lib.hid (Hb2.out.trans (((below_alloc w2 (.cells #[.slice (some ⟨gd, 0, none⟩) g.length g.length] 38)).trans (hb3.mono (by omega))).mono Hb2.out.size))
  have hlen : s.left.length ≤ g.length := by have := hinv.count; omega
  have Hnode : Hid (∀ x ∈ s.left, x < g.length) := fun x hx => hinv.node x (List.mem_append_left _ hx)
  clear hown hout hst hinv hbl3 hb3
  gi_wp2
  refine ⟨trivial, (backward_make _ Al s.left.length cl _).mono ?_⟩
  rintro e w' ⟨rfl, rfl⟩
  gi_wp2
  have hSl := (Sl.of_own Hown.out).below (below_alloc w3 (.cells #[.slice Al s.left.length cl] 38))
  refine wpIn_rangeFunc_ownG (n := 9) rfl (by decide) (gf := 67) (lb := #[.pointer (some ⟨w3.heap.size, 0, none⟩)]) rfl trivial (enters_of Try.func67 (by kernel_rfl) rfl)
    (Kp := KpX (w3.heap.size + 1) gd)
    (backward_stops 8 (by decide) w3.heap.size (w3.heap.size + 1) gd (.slice Al s.left.length cl) s.left _ _ hSl (by omega) (by omega) (by omega) (fun ad m c e => by
      cases e
      have := Hown.out.lt ad.block rfl
      omega) (KpX.refl _ _ _) (by simp) (Row.cell (cs := [.slice Al s.left.length cl]) (heap_alloc_new w3 _) rfl))
    KpX.trans (kpX_b (by simp)) (Below.refl _ _) (fun _ => rfl)
    (fun (pre : List Nat) W => (Row W gd 3 ((leadP g s.left pre).map iv) ∧ Row W w1.heap.size 26 [.slice (some Ab) g.length cb] ∧ Row W w2.heap.size 38 [.slice (some ⟨gd, 0, none⟩) g.length g.length] ∧ LdOk g.length (leadP g s.left pre) ∧ w3.heap.size + 1 ≤ W.heap.size) ∧ Below w1.heap.size w1 W)
    (fun _ _ _ => False)
    (OwnFrom.and (Own.from (fun s A B row hs hg hr => ⟨hs.1.own hg hr, hs.2.1.own hg hr, hs.2.2.1.own hg hr, hs.2.2.2.1, Nat.le_trans hs.2.2.2.2 hg.size⟩) _) (ownFrom_below (Nat.le_refl _) (by simp; omega)))
    (fun _ _ _ _ _ hs _ _ => hs)
    ⟨⟨Hrow3.out.keep (below_alloc w3 _), Hbb3.out.keep (below_alloc w3 _), Hbl3.out.keep (below_alloc w3 _), ldok_start _, by simp⟩, HB3.out.trans ((below_alloc w3 _).mono (by omega))⟩
    (fun i : Nat => { tmps := #[.slice A g.length c, undef, .slice none 0 0, .pointer (some ⟨w1.heap.size, 0, none⟩), .pointer (some ⟨w2.heap.size, 0, none⟩), undef, .int .i64 ((s.left[i]?.getD 0 : Nat) : Int), undef, undef, undef, undef, .slice A g.length c, .slice (some Ab) g.length cb, .slice (some ⟨w1.heap.size + 1, 0, none⟩) 1 1, .slice A g.length c, .int .i64 (g.length : Int), .slice (some ⟨gd, 0, none⟩) g.length g.length, .slice A g.length c, .slice Al s.left.length cl, .func (.func 67) #[] #[.pointer (some ⟨w3.heap.size, 0, none⟩)], .int .i64 (i : Int), .int .i64 ((s.left[i]?.getD 0 : Nat) : Int), undef, undef, undef, undef, undef, undef, undef, undef, undef, undef, undef, undef, undef, undef, undef, undef, undef, undef, undef, undef, undef, undef, undef, undef, undef, undef, undef, undef, undef, undef, undef, undef, undef, undef, undef, undef, undef, undef, undef, undef, undef, undef, undef, undef], defers := [] }) ?assign ?body ?done ?stop
  case assign =>
    intro l x W K hK
    gi_wp2
    exact hK
  case body =>
    rintro l pre i W ⟨⟨hrow, hbb, hbl, hok, hW3⟩, hB⟩ hlt
    have hx : s.left[i]?.getD 0 < g.length := by
      cases e : s.left[i]? with
      | none => show 0 < g.length; omega
      | some y => exact Hnode.out y (List.mem_of_getElem? e)
    have hnext : leadP g s.left (pre ++ [i]) = claim (revM g) (leadP g s.left pre) (s.left[i]?.getD 0) := by unfold leadP; rw [List.map_append, List.foldl_append]; rfl
    have hok2 := hok.claim hx (fun u y hy => by have := (revM_vg Hg.out).node u y hy; rwa [revM_len] at this)
    rw [← hnext] at hok2
    generalize s.left[i]?.getD 0 = x at *
    generalize leadP g s.left pre = D at *
    have hdl : D.length = g.length := hok.len
    have hck := dat_cell hrow (by rw [hdl]; exact hx : x < D.length)
    have hfr := hrow.free x
    have hcl := hbl.cell (i := 0) rfl
    have hcb := hbb.cell (i := 0) rfl
    have Hnext := Lib.hid hnext; have Hok := Lib.hid hok; have Hok2 := Lib.hid hok2; have HB := Lib.hid hB
    have Hrw := Lib.hid hrow; have Hbb := Lib.hid hbb; have Hbl := Lib.hid hbl
    have hszB := hB.size
    clear hrow hbb hbl hok hok2 hB hnext
    by_cases he : dat D x = -1
    · have he2 : (dat D x != -1) = false := by rw [bne_eq_false_iff_eq]; exact he
      have hcl0 : claim (revM g) D x = (lbfs (revM g) x (g.length + 1) 0 (D.set x x, [x])).1 := by unfold claim; rw [if_pos he, revM_len]
      have Hcl := Lib.hid hcl0
      clear he hcl0
      gi_wp2
      have hown0 : ((W.setCell ⟨gd, x, none⟩ (.int .i64 (x : Int))).alloc (.cells #[.int .i64 (x : Int)] 3)).ownsRow W.heap.size 3 1 (.slice (some ⟨W.heap.size, 0, none⟩) 1 1) 1 [.int .i64 (x : Int)] := own_litS _ _ _ 1 W.heap.size _ rfl rfl (by decide) (by rw [size_setCell])
      have hgr0 : W.grownBy ((W.setCell ⟨gd, x, none⟩ (.int .i64 (x : Int))).alloc (.cells #[.int .i64 (x : Int)] 3)) (some gd) := grownBy_trans (grownBy_setCell W gd x _) (World.grownBy_alloc _ _ _)
      have hrw0 : Row ((W.setCell ⟨gd, x, none⟩ (.int .i64 (x : Int))).alloc (.cells #[.int .i64 (x : Int)] 3)) gd 3 ((D.set x (x : Int)).map iv) := (row_set_iv Hrw.out x _).keep (below_alloc _ _)
      have Hown0 := Lib.hid hown0; have Hgr0 := Lib.hid hgr0; have Hrw0 := Lib.hid hrw0
      have Hq0 := Lib.hid (LQ.start (m := g.length) (n := x) Hok.out.len Hok.out.lo hx)
      clear hown0 hgr0 hrw0 hck hfr hcl hcb
      gi_loopw [7, 8] (fun qv i wr => ∃ (h : Nat) (s : LdQ), h ≤ s.2.length ∧ i = .int .i64 h ∧ wr.ownsRow W.heap.size 3 1 qv s.2.length (s.2.map nv) ∧ Row wr gd 3 (s.1.map iv) ∧ LQ g.length x s ∧ Hid (lbfs (revM g) x (g.length + 1 - h) h s = lbfs (revM g) x (g.length + 1) 0 (D.set x x, [x])) ∧ W.grownBy wr (some gd)) (fun _ i _ => g.length - (intOf i).toNat)
      case atStart => exact ⟨0, (D.set x x, [x]), Nat.zero_le _, rfl, Hown0.out, Hrw0.out, Hq0.out, Lib.hid rfl, Hgr0.out⟩
      case round =>
        clear Hown0 Hrw0 Hgr0 Hq0
        obtain ⟨hd, sq, hk, rfl, hown, hrow, hq, heq, hgr⟩ := hrel
        have Hown3 := Lib.hid hown; have Hrw3 := Lib.hid hrow; have Hq := Lib.hid hq; have Hgr := Lib.hid hgr
        have hql := hq.qlen
        have hqs := Sl.of_own hown
        have hbel := HB.out.grown hgr (Nat.le_trans (by omega) hszB) (fun k e => by cases e; omega)
        have hcb2 : wr.cell? ⟨w1.heap.size, 0, none⟩ = some (.slice (some Ab) g.length cb) := Row.cell (cs := [.slice (some Ab) g.length cb]) (i := 0) ((hgr.block _ Hbb.out.lt (fun e => by cases e; omega)).trans Hbb.out) rfl
        by_cases hlt : hd < sq.2.length
        · obtain ⟨adq, cq, rfl, hcapq, hcellq⟩ := sl_cell hqs hd hlt
          have hun := (hq.node _ (List.getElem_mem hlt)).1
          have Hqk := Lib.hid (List.getElem?_eq_getElem hlt)
          generalize sq.2[hd] = u at *
          obtain ⟨ad, c', A', cr, hs, hcap, hcell0, hrow0⟩ := gr_cell Hback.out u (by rw [revM_len]; exact hun)
          have hcell := (hbel.cell (World.block_lt_of_cell? _ _ hcell0)).trans hcell0
          clear hcell0
          simp only [Value.slice.injEq, Option.some.injEq] at hs
          obtain ⟨rfl, hl2, rfl⟩ := hs
          have Hrow0 := Lib.hid hrow0
          have hrl := (revM_vg Hg.out).row_len u
          rw [revM_len] at hrl hcap
          unfold nv at hcellq
          clear hown hrow hq hgr hqs hbel hrow0 hl2
          gi_wp2
          refine round_quiet (by kernel_rfl) (by kernel_rfl) (by kernel_rfl) ?_
          repeat (quiet_step_in (fail))
          refine wpQuietIn_nil ?_
          intro _ hw'
          obtain ⟨nq, hw''⟩ := hw'
          subst hw''
          gi_wp2
          gi_loopw [7, 47] (fun qv i wr => ∃ (m : Nat) (s : LdQ), m ≤ (row (revM g) u).length ∧ i = .int .i64 m ∧ Hid (s = ((row (revM g) u).take m).foldl (lvisit x) sq) ∧ wr.ownsRow W.heap.size 3 1 qv s.2.length (s.2.map nv) ∧ Row wr gd 3 (s.1.map iv) ∧ LQ g.length x s ∧ W.grownBy wr (some gd)) (fun _ i _ => (row (revM g) u).length - (intOf i).toNat)
          case atStart => exact ⟨0, sq, Nat.zero_le _, rfl, Lib.hid rfl, Hown3.out, Hrw3.out, Hq.out, ⟨Hgr.out.os, Hgr.out.tape, Hgr.out.output, Hgr.out.size, Hgr.out.block⟩⟩
          case round =>
            clear Hown3 Hrw3 Hgr hcb2 hcellq hcell
            obtain ⟨m, sm, hm, rfl, hsm, hown, hrow, hq, hgr⟩ := hrel
            have Hown4 := Lib.hid hown; have Hrw4 := Lib.hid hrow; have Hq4 := Lib.hid hq; have Hgr4 := Lib.hid hgr
            have hql4 := hq.qlen
            have hbel := HB.out.grown hgr (Nat.le_trans (by omega) hszB) (fun k e => by cases e; omega)
            have hcl2 : wr.cell? ⟨w2.heap.size, 0, none⟩ = some (.slice (some ⟨gd, 0, none⟩) g.length g.length) := Row.cell (cs := [.slice (some ⟨gd, 0, none⟩) g.length g.length]) (i := 0) ((hgr.block _ Hbl.out.lt (fun e => by cases e; omega)).trans Hbl.out) rfl
            by_cases hltm : m < (row (revM g) u).length
            · obtain ⟨adr, cr', hsr, hcapr, hcellr⟩ := sl_cell (Hrow0.out.below hbel) m hltm
              simp only [Value.slice.injEq, true_and] at hsr
              obtain ⟨rfl, rfl⟩ := hsr
              have hyn : (row (revM g) u)[m] < g.length := by have := (revM_vg Hg.out).node u _ (List.getElem_mem hltm); rwa [revM_len] at this
              have Hsm2 : Hid (((row (revM g) u).take (m + 1)).foldl (lvisit x) sq = lvisit x sm (row (revM g) u)[m]) := by show _ = _; rw [foldl_take _ _ _ hltm, ← hsm.out]
              have Hq5 := Lib.hid (hq.visit hx hyn)
              generalize (row (revM g) u)[m] = y at *
              have hdl4 : sm.1.length = g.length := hq.len
              have hcky := dat_cell hrow (by rw [hdl4]; exact hyn : y < sm.1.length)
              have hfry := hrow.free y
              have hgd2 : gd < W.heap.size := Hrw.out.lt
              have hsz4 : W.heap.size ≤ wr.heap.size := hgr.size
              unfold nv at hcellr
              clear hown hrow hq hgr hbel hsm
              by_cases hey : dat sm.1 y = -1
              · have he3 : (dat sm.1 y == -1) = true := by rw [beq_iff_eq]; exact hey
                have hv : lvisit x sm y = (sm.1.set y x, sm.2 ++ [y]) := by unfold lvisit; rw [if_pos hey]
                rw [hv] at Hsm2 Hq5
                clear hey hv
                generalize dat sm.1 y = dy at *
                gi_wp2_with (gi_at_builtin; refine wpListIn_append_own _ rfl _ _ 38 rfl W.heap.size 3 i0 (.int .i64 0) 1 8 (by kernel_rfl) hi hz0 hz1 hz2 rfl (by decide) _ _ _ rfl ((ownsRow_setCell_below Hown4.out (a := ⟨gd, y, none⟩) hgd2 _).alloc _) ⟨wr.heap.size, 0, none⟩ 1 1 [.int .i64 (y : Int)] rfl rfl (one_newS _ _ _ _ _) (by simp [Value.oneCell']) (by unfold maxLen; omega) (by omega) (by rw [World.size_alloc, size_setCell]; omega) ?_; intro v' w5 hown5 hgrow5 _)
                have hb5 : Below W.heap.size ((wr.setCell ⟨gd, y, none⟩ (.int .i64 (x : Int))).alloc (.cells #[.int .i64 (y : Int)] 3)) w5 := (Below.refl _ _).grown hgrow5 (by rw [World.size_alloc, size_setCell]; omega) (fun k e => (((ownsRow_setCell_below Hown4.out (a := ⟨gd, y, none⟩) hgd2 (.int .i64 (x : Int))).alloc (.cells #[.int .i64 (y : Int)] 3)).lt k e).1)
                have Hrw5 := Lib.hid (((row_set_iv Hrw4.out y (x : Int)).keep (below_alloc _ (.cells #[.int .i64 (y : Int)] 3))).below hb5 hgd2)
                have Hgr5 := Lib.hid (grown_young (grownBy_trans (grownBy_trans Hgr4.out (grownBy_setCell wr gd y (.int .i64 (x : Int)))) (World.grownBy_alloc _ (.cells #[.int .i64 (y : Int)] 3) _)) (Nat.le_refl _) hb5)
                have Hown5 := Lib.hid hown5
                clear hown5 hgrow5 hb5
                gi_wp2
                go_roundw
                case rel => exact ⟨m + 1, (sm.1.set y x, sm.2 ++ [y]), by omega, by go_num, Lib.hid Hsm2.out.symm, by rw [List.length_append, List.map_append]; exact Hown5.out, Hrw5.out, Hq5.out, Hgr5.out⟩
                case measure => simp [intOf]; omega
              · have he3 : (dat sm.1 y == -1) = false := by rw [beq_eq_false_iff_ne]; exact hey
                have hv : lvisit x sm y = sm := by unfold lvisit; rw [if_neg hey]
                rw [hv] at Hsm2
                clear hey hv
                generalize dat sm.1 y = dy at *
                gi_wp2
                go_roundw
                case rel => exact ⟨m + 1, sm, by omega, by go_num, Lib.hid Hsm2.out.symm, Hown4.out, Hrw4.out, Hq4.out, Hgr4.out⟩
                case measure => simp [intOf]; omega
            · obtain rfl : m = (row (revM g) u).length := by omega
              have Hsm3 : Hid (sm = lproc (revM g) x sq u) := by show _ = _; rw [hsm.out, List.take_length]; rfl
              have Hln := Lib.hid (lbfs_next (back := revM g) (n := x) (s := sq) Hqk.out (by rw [revM_len]; omega))
              have hle4 : hd + 1 ≤ sm.2.length := by rw [hsm.out]; exact Nat.le_trans hlt (lv_len x _ sq)
              clear hown hrow hq hgr hbel hsm
              gi_wp2
              go_roundw
              case rel => exact ⟨hd + 1, sm, hle4, by go_num, Hown4.out, Hrw4.out, Hq4.out, Lib.hid (by rw [← heq.out, ← revM_len g, Hln.out, Hsm3.out]), Hgr4.out⟩
              case measure => simp [intOf]; omega
        · have hstop := lbfs_stop (back := revM g) (n := x) (f := g.length + 1 - hd) (h := hd) (s := sq) (by omega)
          have hclm : claim (revM g) D x = sq.1 := by rw [Hcl.out, ← heq.out, hstop]
          have Hcm := Lib.hid (Hnext.out.trans hclm)
          obtain ⟨Aq, cq, rfl⟩ := hqs.shape
          have Hbel := Lib.hid hbel
          have hbb5 := Lib.hid ((hgr.block _ Hbb.out.lt (fun e => by cases e; omega)).trans Hbb.out)
          have hbl5 := Lib.hid ((hgr.block _ Hbl.out.lt (fun e => by cases e; omega)).trans Hbl.out)
          have hsz5 := hgr.size
          clear hown hrow hq hgr hqs hbel hstop hclm
          gi_wp2
          exact ⟨KeepsFrom.of_grownBy Hgr.out (fun j e => by cases e; simp; omega), fun k h1 h2 => Hgr.out.block k (by omega) (fun e => h2 (Option.some.inj e)), ⟨by rw [Hcm.out]; exact Hrw3.out, hbb5.out, hbl5.out, Hok2.out, by omega⟩, Hbel.out⟩
    · have he2 : (dat D x != -1) = true := by rw [bne_iff_ne]; exact he
      have hcl0 : claim (revM g) D x = D := by unfold claim; rw [if_neg he]
      rw [hcl0] at Hnext
      clear he hcl0
      gi_wp2
      exact ⟨KeepsFrom.refl _ _, KpX.refl _ _ _, ⟨by rw [Hnext.out]; exact Hrw.out, Hbb.out, Hbl.out, Hok2.out, hW3⟩, HB.out⟩
  case done =>
    rintro D ys W hD rfl ⟨⟨hrow, hbb, hbl, hok, hW3⟩, hB⟩ hK
    have hcl := hbl.cell (i := 0) rfl
    rw [leadP_all] at hrow
    gi_wp2
    refine ⟨by simp, .inl ⟨_, _, rfl, run_takeDeferred hK, ?_⟩⟩
    exact ⟨_, results_tmp rfl _ _ _, s, gd, Hout.out, Hst.out, Hinv.out, rfl, hrow.own (grownBy_putObj' _ D (.deferred none)) (fun r e => by cases e; exact ⟨_, hK, rfl⟩), (Hb1.out.trans (hB.mono hs1)).trans (belowK_b (w := w) (Nat.le_refl _) W D _ _ (by simp at hD; omega) hK rfl rfl)⟩
  case stop =>
    rintro D c pre W _ _ h _
    exact h.elim
theorem leaders_any (v : Value) (g : List (List Nat)) (w : World) (h : Gr nv w v g) (hg : VG g) :
    Calls Try.prog 55 #[v] w (LeadP g w) := (callsIn_wide (n := 9)).1 (leaders_in v g w h hg)
end Go.Proofs.Ytnhhhnhakpambaa
