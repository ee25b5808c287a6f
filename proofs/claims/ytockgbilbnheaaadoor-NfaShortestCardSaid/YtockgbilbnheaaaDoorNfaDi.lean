/- nfa.distances (tools/gen_di.py). -/
import Derived.Test.YtockgbilbnheaaaDoorMNfaNr
import Derived.Test.YtockgbilbnheaaaDoorMBitsEq
import Derived.Test.YtockgbilbnheaaaDoorMNfaPt
import Derived.Test.YtockgbilbnheaaaDoorRepN
namespace Go.Proofs.YtockgbilbnheaaaDoor
open Go.RowKit

theorem slen_none {ws : List Nat} : slen ws = 0 ↔ ∀ n, has ws n = false := by
  rw [slen_els, List.length_eq_zero_iff, List.eq_nil_iff_forall_not_mem]
  exact forall_congr' fun n => by rw [mem_els, Bool.not_eq_true]
theorem pt_start {ar : List Ac} {a b : Int} {w : List Int} (h : Pt ar a w b) : a = b ∨ ∃ c y, (a, c, y) ∈ ar := by
  induction h with
  | nil => exact .inl rfl
  | eps _ he ih =>
    rcases ih with rfl | ih
    · exact .inr ⟨_, _, he⟩
    · exact .inr ih
  | step _ _ _ h4 ih =>
    rcases ih with rfl | ih
    · exact .inr ⟨_, _, h4⟩
    · exact .inr ih
theorem dst_bd {S d : Nat} {ar : List Ac} {l : List Int} {n : Int} (hv : VA S ar) (hl : ∀ x ∈ l, 0 ≤ x ∧ x < (S : Int)) (h : Dst1 ar (fun x => x ∈ l) d n) : 0 ≤ n ∧ n < (S : Int) := by
  obtain ⟨⟨w, -, m, hm, hp⟩, -⟩ := h
  rcases pt_start hp with rfl | ⟨c, y, hc⟩
  · exact hl _ hm
  · exact hv.fr _ hc
theorem own_setlow {w : World} {B e sz n b i : Nat} {v u : Value} {xs : List Value} (h : w.ownsRow B e sz v n xs) (hb : b < B) : (w.setCell ⟨b, i, none⟩ u).ownsRow B e sz v n xs := by
  refine ⟨h.1, ?_⟩
  rcases h.2 with h1 | ⟨q, cap, cur, h1, h2, h3, h4⟩
  · exact .inl h1
  · exact .inr ⟨q, cap, cur, h1, h2, (Below.heap_setCell _ _ _ _ (by show q ≠ b; omega)).trans h3, h4⟩
theorem own_lt {w : World} {B e sz n m c : Nat} {A : Option Addr} {xs : List Value} (h : w.ownsRow B e sz (.slice A n c) m xs) : ∀ ad, A = some ad → ad.block < w.heap.size := fun ad hA => by
  subst hA
  rcases h.2 with ⟨h1, _⟩ | ⟨q, cap, cur, h1, h2, h3, _⟩
  · cases h1
  · cases h1
    exact lt_of_some h3
theorem Sl.belowB {α : Type} {f : α → Value} {w w' : World} {A : Option Addr} {n c B : Nat} {l : List α} (h : Sl f w (.slice A n c) l) (hb : Below B w w') (hA : ∀ ad, A = some ad → ad.block < B) : Sl f w' (.slice A n c) l := by
  rcases h with h | ⟨ad, c', h1, h2, h3⟩
  · exact .inl h
  · have hl : ad.block < B := hA ad (by simp only [Value.slice.injEq] at h1; exact h1.1)
    exact .inr ⟨ad, c', h1, h2, fun j x hj => (hb.cell (by rw [add_block]; exact hl)).trans (h3 j x hj)⟩
theorem lay_list (ws : List Nat) (P : Nat → Prop) (h : ∀ n, has ws n = true ↔ P n) (n : Nat) : n ∈ els ws ↔ P n := by rw [mem_els, h]
def toI (l : List Nat) : List Int := l.map fun n : Nat => (n : Int)
theorem toI_next (l : List Nat) (k : Nat) (hk : k < l.length) : toI (l.take (k + 1)) = toI (l.take k) ++ [((l[k] : Nat) : Int)] := by
  unfold toI
  rw [List.take_succ_eq_append_getElem hk, List.map_append]
  rfl
def tos (l : List Ac) : List Int := l.map fun x => x.2.2
theorem tos_next (xs : List Int) (r : List Ac) (j : Nat) (hj : j < r.length) : xs ++ tos (r.take (j + 1)) = (xs ++ tos (r.take j)) ++ [(r[j]).2.2] := by
  unfold tos
  rw [List.take_succ_eq_append_getElem hj, List.map_append, List.append_assoc]
  rfl
theorem dist_set (dl : List Int) (n d : Nat) : ((dl.map iv).toArray).setIfInBounds n (.int .i64 (d : Int)) = ((dl.set n (d : Int)).map iv).toArray := by
  rw [List.setIfInBounds_toArray, List.map_set]
  rfl
theorem SetIs.setO {w : World} {v : Value} {ws : List Nat} {P : Nat → Prop} {g t n : Nat} {cs : Array Value} {u : Value} (h : SetIs w v ws P) (hg : Bx w g t cs) (ht : t ≠ 68) : SetIs (w.setCell ⟨g, n, none⟩ u) v ws P :=
  ⟨h.st.set (a := ⟨g, n, none⟩) hg ht, h.can, h.wds, h.len, h.has⟩
theorem SetIs.frm {w w' : World} {v : Value} {ws : List Nat} {P : Nat → Prop} {e B : Nat} (h : SetIs w v ws P) (hf : Frm e B w w') (he : e ≠ 68) : SetIs w' v ws P :=
  ⟨h.st.frm hf he, h.can, h.wds, h.len, h.has⟩
theorem toI_mem (l : List Nat) (P : Int → Prop) (h : ∀ n : Nat, n ∈ l ↔ P n) (hp : ∀ n, P n → 0 ≤ n) (n : Int) : n ∈ toI l ↔ P n := by
  unfold toI
  rw [List.mem_map]
  constructor
  · rintro ⟨m, h1, rfl⟩
    exact (h m).1 h1
  · intro g
    have := hp n g
    refine ⟨n.toNat, (h _).2 ?_, Int.toNat_of_nonneg this⟩
    rwa [Int.toNat_of_nonneg this]
theorem toI_len (l : List Nat) : (toI l).length = l.length := by simp [toI]
theorem own_eqlen {w : World} {B e : Nat} {v : Value} {xs ys : List Int} (h : w.ownsRow B e 1 v xs.length (xs.map iv)) (g : xs = ys) : w.ownsRow B e 1 v ys.length (ys.map iv) := g ▸ h
def DisP (S : Nat) (ar : List Ac) (st2 : List Int) (w : World) (e : Ending) (w' : World) : Prop :=
  ∃ (g : Nat) (dl : List Int), e = .returned (.slice (some ⟨g, 0, none⟩) S S) ∧ w.heap.size ≤ g ∧ Bx w' g 3 (dl.map iv).toArray ∧ dl.length = S ∧ (∀ (n : Nat) (h : n < dl.length) (e : Nat), dl[n] = (e : Int) ↔ Dst1 ar (fun x : Int => x ∈ st2) e n) ∧ (∀ (n : Nat) (h : n < dl.length), dl[n] < 0 → dl[n] = -1) ∧ Below w.heap.size w w'
/-- The layer d, and all up to it. -/
def Lay (ar : List Ac) (st2 : List Int) (d : Nat) (n : Nat) : Prop := Dst1 ar (fun x : Int => x ∈ st2) d n
def Seen (ar : List Ac) (st2 : List Int) (d : Nat) (n : Nat) : Prop := ∃ e, e ≤ d ∧ Dst1 ar (fun x : Int => x ∈ st2) e n
set_option maxRecDepth 100000 in
set_option maxHeartbeats 4000000 in
theorem dist_aux (S : Nat) (st : List Int) (fin : List Bool) (ar : List Ac) (st2 : List Int) (fin2 : List Bool) (ar2 : List Ac) (sv fv v : Value) (w : World) (hn : VN S st fin ar) (hn2 : VN S st2 fin2 ar2) (hr : ∀ x y z, (x, y, z) ∈ ar ↔ (z, y, x) ∈ ar2)
    (hrev : ∀ (w' : World) (s f a : Value), Sl iv w' s st → Sl bl w' f fin → Acs w' a ar → Calls Tryd.prog 51 #[.agg #[.int .i64 (S : Int), s, f, a]] w' (RevP S st2 fin2 ar2 w'))
    (hs : Sl iv w sv st) (hf : Sl bl w fv fin) (ha : Acs w v ar) (hT : Tab w) :
    Calls Tryd.prog 34 #[.agg #[.int .i64 (S : Int), sv, fv, v]] w (DisP S ar st2 w) := by
  obtain ⟨As, cs, rfl⟩ := hs.shape
  obtain ⟨Af, cf, rfl⟩ := hf.shape
  obtain ⟨Aa, ca, rfl⟩ := ha.shape
  obtain ⟨W, hW⟩ : ∃ W, W = w.alloc (.cells #[.int .i64 (S : Int), .slice As st.length cs, .slice Af fin.length cf, .slice Aa ar.length ca] 32) := ⟨_, rfl⟩
  have hbw : Below w.heap.size w W := by rw [hW]; exact al1 w _
  have hx : Bx W w.heap.size 32 #[.int .i64 (S : Int), .slice As st.length cs, .slice Af fin.length cf, .slice Aa ar.length ca] := by rw [hW]; exact heap_alloc_new w _
  have HX := Lib.hid (show ∀ w', Below W.heap.size W w' → w'.cell? ⟨w.heap.size, 0, none⟩ = some (.int .i64 (S : Int)) ∧ w'.cell? ⟨w.heap.size, 1, none⟩ = some (.slice As st.length cs) ∧ w'.cell? ⟨w.heap.size, 2, none⟩ = some (.slice Af fin.length cf) ∧ w'.cell? ⟨w.heap.size, 3, none⟩ = some (.slice Aa ar.length ca) from fun w' h => ⟨(hx.below h).cell 0, (hx.below h).cell 1, (hx.below h).cell 2, (hx.below h).cell 3⟩)
  have HV := Lib.hid (hrev W _ _ _ (hs.below hbw) (hf.below hbw) (ha.below hbw))
  have HT := Lib.hid (hT.below hbw hT.size)
  have HN := Lib.hid hn; have HN2 := Lib.hid hn2; have HR := Lib.hid hr
  have Hbw := Lib.hid hbw
  have hS := hn.few
  have hst := hn2.stl
  have har := hn2.va.few
  have HW := Lib.hid hW
  clear hx hbw hs hf ha hT hn hn2 hr hrev hW
  obtain ⟨x0, x1, x2, x3⟩ := HX.out _ (Below.refl _ _)
  rw [HW.out] at x0 x1 x2 x3
  go_enter Tryd.func34, Tryd.ntmps34
  go_wp2_with fail
  rw [← HW.out]
  refine HV.out.mono ?_
  rintro e w1 ⟨A1, c1, A2, c2, A3, c3, rfl, h1, h2, h3, hb1, -, -, -⟩
  have hbR : Below w1.heap.size w1 (w1.alloc (.cells #[.int .i64 (S : Int), .slice A1 st2.length c1, .slice A2 fin2.length c2, .slice A3 ar2.length c3] 32)) := below_alloc w1 _
  have HR0 := Lib.hid (show Xa (w1.alloc (.cells #[.int .i64 (S : Int), .slice A1 st2.length c1, .slice A2 fin2.length c2, .slice A3 ar2.length c3] 32)) w1.heap.size S (.slice A1 st2.length c1) (.slice A2 fin2.length c2) (.slice A3 ar2.length c3) st2 fin2 ar2 from ⟨heap_alloc_new w1 _, h1.below hbR, h2.below hbR, h3.below hbR, HT.out.below (below_ext2 hb1 hbR) HT.out.size⟩)
  have B1 := Lib.hid (below_ext2 hb1 hbR)
  clear h1 h2 h3 hb1 hbR x0 x1 x2 x3
  obtain ⟨x0, x1, x2, x3⟩ := HX.out _ (below_ext2 B1.out (below_alloc _ (.cells #[.int .i64 (-1)] 3)))
  go_wp2_with fail
  obtain ⟨V, hV⟩ : ∃ V, V = w1.alloc (.cells #[.int .i64 (S : Int), .slice A1 st2.length c1, .slice A2 fin2.length c2, .slice A3 ar2.length c3] 32) := ⟨_, rfl⟩
  rw [← hV] at HR0 B1 x0 x1 x2 x3 ⊢
  obtain ⟨rb, hrb⟩ : ∃ rb, rb = w1.heap.size := ⟨_, rfl⟩
  rw [← hrb] at HR0 ⊢
  have hVs : V.heap.size = rb + 1 := by rw [hV, hrb]; simp
  clear hV hrb x0 x1 x2 x3
  have hlit : Sl iv (V.alloc (.cells #[.int .i64 (-1)] 3)) (.slice (some ⟨V.heap.size, 0, none⟩) 1 1) [-1] := lit_sl iv V 3 #[.int .i64 (-1)] 1 [-1] rfl rfl (0, 0)
  rw [hVs] at hlit
  have HVS := Lib.hid hVs
  clear hVs
  have hS1 : S ≤ 1000 := by omega
  have hrep := repeat_any (-1) S _ _ hlit hS1
  refine hrep.mono ?_
  clear hrep hlit hS1
  rintro e w2 ⟨g, rfl, hg, hrow, hb2⟩
  have hg2 : V.heap.size ≤ g := by have : V.heap.size + 1 ≤ g := by simpa using hg
                                   omega
  have hbV : Below V.heap.size V w2 := below_ext2 (below_alloc V _) hb2
  have HG0 := Lib.hid (show Bx w2 g 3 ((List.replicate S (-1 : Int)).map iv).toArray from hrow)
  have HGE := Lib.hid hg2
  have HBV := Lib.hid hbV
  have HRB := Lib.hid (show ∀ w', Below V.heap.size V w' → Xa w' rb S (.slice A1 st2.length c1) (.slice A2 fin2.length c2) (.slice A3 ar2.length c3) st2 fin2 ar2 from fun w' h => HR0.out.below h)
  clear hg hg2 hrow hb2 hbV HR0
  obtain ⟨r0, r1, r2, r3⟩ := (HRB.out _ HBV.out).cells
  go_wp2_with fail
  refine (closure_any S _ _ _ ar2 A1 c1 st2 w2 (HRB.out _ HBV.out).a HN2.out.va hS (HRB.out _ HBV.out).s (by omega) HN2.out.bds).mono ?_
  rintro e w3 ⟨v0, l0, rfl, h0, hb3⟩
  have HL0 := Lib.hid (show SetIs w3 v0 l0 (Lay ar st2 0) from ⟨h0.st, h0.can, h0.wds, h0.len, fun n => (h0.has n).trans (rc_cl.trans (layer0 HR.out))⟩)
  have HG3 := Lib.hid (HG0.out.below hb3)
  have HB3 := Lib.hid (below_ext2 HBV.out hb3)
  have HD0 := Lib.hid (DlI.start (ar := ar) (F := fun x => x ∈ st2) (S := S))
  clear h0 hb3 r0 r1 r2 r3 HG0 HBV
  go_wp2_with fail
  go_loopw [5, 6, 7] (fun vl vd vs wr => ∃ (d : Nat) (wl ws : List Nat) (dl : List Int), d ≤ S ∧ vd = .int .i64 (d : Int) ∧ Hid (SetIs wr vl wl (Lay ar st2 d)) ∧ Hid (SetIs wr vs ws (Seen ar st2 d)) ∧ Hid (Bx wr g 3 (dl.map iv).toArray) ∧ Hid (DlI ar (fun x : Int => x ∈ st2) S d [] dl) ∧ Hid (Below V.heap.size V wr)) (fun _ vd _ _ => S + 1 - (intOf vd).toNat)
  case atStart => exact ⟨0, l0, l0, _, Nat.zero_le _, rfl, HL0, Lib.hid (HL0.out.congr fun n => ⟨fun h => ⟨0, Nat.le_refl _, h⟩, fun ⟨e, h1, h2⟩ => by exact (show e = 0 from Nat.le_zero.1 h1) ▸ h2⟩), HG3, HD0, HB3⟩
  case round =>
    clear HL0 HG3 HD0 HB3
    obtain ⟨d, wl, ws, dl, hd, rfl, HL, HS, HG, HD, HB⟩ := hrel
    obtain ⟨Al, cl, rfl⟩ := HL.out.st.shape
    go_wp2_with fail
    refine (len_any _ wl wr HL.out.st.sl (by have := HL.out.len; unfold Room2; omega) HL.out.wds).mono ?_
    rintro e w4 ⟨rfl, rfl⟩
    by_cases hz : slen wl = 0
    · have hemp : ∀ x, ¬ Dst1 ar (fun x : Int => x ∈ st2) d x := fun x hx => by
        have hb := dst_bd HN.out.va HN2.out.bds hx
        have := (HL.out.has x.toNat).2 (by show Dst1 _ _ _ _; rwa [Int.toNat_of_nonneg hb.1])
        rw [slen_none.1 hz] at this
        cases this
      have dz : decide (0 < slen wl) = false := decide_eq_false (by omega)
      have HEM := Lib.hid hemp
      have hlen := HD.out.len
      have HLN := Lib.hid hlen
      clear hemp hlen hz
      go_wp2_with fail
      go_ret
      exact ⟨g, dl, rfl, by have := HGE.out; have := B1.out.size; have := Hbw.out.size; omega, HG.out, HLN.out, fun n h e => HD.out.done HEM.out n h e, HD.out.none, below_ext2 Hbw.out (below_ext2 B1.out HB.out)⟩
    · obtain ⟨n0, hn0⟩ : ∃ n, has wl n = true := Classical.byContradiction fun hno => hz (slen_none.2 fun n => by
        cases hh : has wl n with
        | false => rfl
        | true => exact absurd ⟨n, hh⟩ hno)
      have hly : Dst1 ar (fun x : Int => x ∈ st2) d n0 := (HL.out.has n0).1 hn0
      have hdS := dst_lt HN.out.va hly (dst_bd HN.out.va HN2.out.bds hly)
      have dz : decide (0 < slen wl) = true := decide_eq_true (by omega)
      clear hz hn0 hly
      go_wp2_with fail
      refine ((callsIn_wide (n := 9)).1 (list_in _ wl wr HL.out.st.sl (by have := HL.out.len; unfold Room2; omega) HL.out.wds (HRB.out _ HB.out).t)).mono ?_
      rintro e w5 ⟨vL, rfl, hrL, hb5⟩
      have hLm := lay_list wl _ HL.out.has
      have hLl := els_len_le wl
      generalize els wl = L at hrL hLm hLl
      have hslL : Sl nv w5 vL L := Sl.of_own hrL
      obtain ⟨AL, cL, rfl⟩ := hslL.shape
      have HLO := Lib.hid (show ∀ ad, AL = some ad → ad.block ≠ g from fun ad h => by have := own_ge hrL ad h; have := HG.out.lt; omega)
      have HLT := Lib.hid (own_lt hrL)
      have HLM := Lib.hid hLm
      have HSL := Lib.hid hslL
      have HG5 := Lib.hid (HG.out.below hb5)
      have HS5 := Lib.hid (HS.out.below hb5)
      have HB5 := Lib.hid (below_ext2 HB.out hb5)
      have HGB := Lib.hid (show g < w5.heap.size from HG5.out.lt)
      have HVB := Lib.hid (show V.heap.size ≤ w5.heap.size from HB5.out.size)
      have hA0 : w5.ownsRow w5.heap.size 3 1 (.slice none 0 0) (ahd ar2 (toI (L.take 0))).length ((ahd ar2 (toI (L.take 0))).map iv) := World.ownsRow_nil _ _ _ _
      have HA0 := Lib.hid hA0
      have HD0 := Lib.hid (show DlI ar (fun x : Int => x ∈ st2) S d (toI (L.take 0)) dl from HD.out)
      obtain ⟨B, hBe⟩ : ∃ B, B = w5.heap.size := ⟨_, rfl⟩
      rw [← hBe] at HLT HGB HVB HA0
      have HZ0 := Lib.hid (show B ≤ w5.heap.size by omega)
      clear hrL hLm hslL hb5 hA0 HG HS HB HL hBe HD
      go_wp2_with fail
      go_loopw [8, 32] (fun va vi wq => ∃ (k : Nat) (dl2 : List Int), k ≤ L.length ∧ vi = .int .i64 (k : Int) ∧ Hid (wq.ownsRow B 3 1 va (ahd ar2 (toI (L.take k))).length ((ahd ar2 (toI (L.take k))).map iv)) ∧ Hid (Bx wq g 3 (dl2.map iv).toArray) ∧ Hid (DlI ar (fun x : Int => x ∈ st2) S d (toI (L.take k)) dl2) ∧ Hid (SetIs wq u7 ws (Seen ar st2 d)) ∧ Hid (Sl nv wq (.slice AL L.length cL) L) ∧ Hid (Below V.heap.size V wq) ∧ Hid (B ≤ wq.heap.size)) (fun _ vi _ => L.length - (intOf vi).toNat)
      case atStart => exact ⟨0, dl, Nat.zero_le _, rfl, HA0, HG5, HD0, HS5, HSL, HB5, HZ0⟩
      case round =>
        clear HA0 HG5 HD0 HS5 HSL HB5 HZ0
        obtain ⟨k, dl2, hk, rfl, HA, HG, HD, HS, HSL, HB, HZ⟩ := hrel
        by_cases hlt : k < L.length
        · have dk : decide ((k : Int) < (L.length : Int)) = true := decide_eq_true (by omega)
          have hks : (k : Int) < (L.length : Int) := by omega
          obtain ⟨ad, c', hsl, _, hcell⟩ := sl_cell HSL.out k hlt
          simp only [Value.slice.injEq, true_and] at hsl
          obtain ⟨rfl, rfl⟩ := hsl
          have hly : Dst1 ar (fun x : Int => x ∈ st2) d ((L[k] : Nat) : Int) := (HLM.out L[k]).1 (List.getElem_mem hlt)
          have hnb := dst_bd HN.out.va HN2.out.bds hly
          have htk := toI_next L k hlt
          have hdl := HD.out.set L[k] hly
          rw [← htk] at hdl
          obtain ⟨n, hn⟩ : ∃ n, n = L[k] := ⟨_, rfl⟩
          rw [← hn] at hcell hly hnb htk hdl
          unfold nv at hcell
          have HD2 := Lib.hid hdl
          have hfz := HG.out.free n
          have ha0 := addr00 g n
          have n0 : (0 : Int) ≤ (n : Int) := hnb.1
          have n1 : (n : Int) < (S : Int) := hnb.2
          have hcg : ∃ u, wr.cell? ⟨g, n, none⟩ = some u := ⟨iv (dl2[n]'(by have := HD.out.len; omega)), (HG.out.cell n).trans (by
            have hl := HD.out.len
            rw [List.getElem?_toArray, List.getElem?_map, List.getElem?_eq_getElem (show n < dl2.length by omega), Option.map_some])⟩
          obtain ⟨u0, hu0⟩ := hcg
          have HA2 := Lib.hid (own_setlow HA.out HGB.out (i := n) (u := .int .i64 (d : Int)))
          have HG2 := Lib.hid (show Bx (wr.setCell ⟨g, n, none⟩ (.int .i64 (d : Int))) g 3 ((dl2.set n (d : Int)).map iv).toArray from by rw [← dist_set]; exact HG.out.set n _)
          have HS2 := Lib.hid (HS.out.setO (n := n) (u := .int .i64 (d : Int)) HG.out (by decide))
          have HSL2 := Lib.hid (HSL.out.off (b := g) (i := n) (u := .int .i64 (d : Int)) HLO.out)
          have HB2 := Lib.hid (HB.out.setCell (p := ⟨g, n, none⟩) (by show V.heap.size ≤ g; exact HGE.out) (.int .i64 (d : Int)))
          have HZ2 := Lib.hid (show B ≤ (wr.setCell ⟨g, n, none⟩ (.int .i64 (d : Int))).heap.size by rw [size_set]; exact HZ.out)
          obtain ⟨r0, r1, r2, r3⟩ := (HRB.out _ HB2.out).cells
          have hpq : cmpA ((n : Int), 1, 0) ((n : Int) + 1, 0, 0) < 0 := cmpA_neg.2 (by unfold LtA; dsimp only; omega)
          have hal := lettered_any (S : Int) (.slice A1 st2.length c1) (.slice A2 fin2.length c2) (.slice A3 ar2.length c3) ar2 (n : Int) (wr.setCell ⟨g, n, none⟩ (.int .i64 (d : Int))) (HRB.out _ HB2.out).a HN2.out.va.srt (by omega) (by omega) (by omega)
          obtain ⟨Ar, cr, hsh⟩ := btwV_shape (v := .slice A3 ar2.length c3) rfl ar2 ((n : Int), 1, 0) ((n : Int) + 1, 0, 0) hpq
          unfold BtwP at hal
          rw [hsh] at hal
          have hacs := fun (w' : World) (h : Below V.heap.size V w') => (HRB.out w' h).a.btw hpq
          rw [hsh] at hacs
          have hnx := ahd_next ar2 (toI (L.take k)) (n : Int)
          rw [← htk] at hnx
          have hal1 := ahd_len HN2.out.va (toI (L.take k))
          rw [toI_len, List.length_take] at hal1
          have hrl := btw_len ar2 ((n : Int), 1, 0) ((n : Int) + 1, 0, 0)
          obtain ⟨r, hr⟩ : ∃ r, r = btw ar2 ((n : Int), 1, 0) ((n : Int) + 1, 0, 0) := ⟨_, rfl⟩
          rw [← hr] at hal hacs hnx hrl
          obtain ⟨xs, hxs⟩ : ∃ xs, xs = ahd ar2 (toI (L.take k)) := ⟨_, rfl⟩
          rw [← hxs] at HA2 hnx hal1
          have HAL := Lib.hid hal; have HAC := Lib.hid hacs; have HNX := Lib.hid (show ahd ar2 (toI (L.take (k + 1))) = xs ++ tos r from hnx)
          clear hal hacs hnx hsh hpq hxs hr htk hly hn hdl HA HG HS HSL HB HZ HD hnb
          go_wp2_with fail
          clear hcell hfz hu0 r0 r1 r2 r3
          refine HAL.out.mono ?_
          rintro e w8 ⟨rfl, hb8⟩
          have HA8 := Lib.hid (own_below HA2.out hb8)
          have HG8 := Lib.hid (HG2.out.below hb8)
          have HS8 := Lib.hid (HS2.out.below hb8)
          have HSL8 := Lib.hid (HSL2.out.below hb8)
          have HB8 := Lib.hid (below_ext2 HB2.out hb8)
          have HZ8 := Lib.hid (show B ≤ w8.heap.size from Nat.le_trans HZ2.out hb8.size)
          clear HA2 HG2 HS2 HSL2 HB2 HZ2 hb8 HAL
          obtain ⟨dl3, hdl3⟩ : ∃ dl3, dl3 = dl2.set n (d : Int) := ⟨_, rfl⟩
          rw [← hdl3] at HG8 HD2
          have HA9 := Lib.hid (own_eqlen HA8.out (show xs = xs ++ tos (r.take 0) by simp [tos]))
          clear hdl3 HA8
          go_wp2_with fail
          go_loopw [8, 44] (fun va vi wr => ∃ (j : Nat), j ≤ r.length ∧ vi = .int .i64 (j : Int) ∧ Hid (wr.ownsRow B 3 1 va (xs ++ tos (r.take j)).length ((xs ++ tos (r.take j)).map iv)) ∧ Hid (Bx wr g 3 (dl3.map iv).toArray) ∧ Hid (SetIs wr u7 ws (Seen ar st2 d)) ∧ Hid (Sl nv wr (.slice (some ad) L.length cL) L) ∧ Hid (Below V.heap.size V wr) ∧ Hid (B ≤ wr.heap.size)) (fun _ vi _ => r.length - (intOf vi).toNat)
          case atStart => exact ⟨0, Nat.zero_le _, rfl, HA9, HG8, HS8, HSL8, HB8, HZ8⟩
          case round =>
            clear HA9 HG8 HS8 HSL8 HB8 HZ8
            obtain ⟨j, hj, rfl, HA, HG, HS, HSL, HB, HZ⟩ := hrel
            by_cases hlt2 : j < r.length
            · obtain ⟨ad2, rfl, _, hcap2, y0, y1, y2⟩ := (HAC.out wr HB.out).at j hlt2
              have htn := tos_next xs r j hlt2
              have htl : (xs ++ tos (r.take j)).length ≤ 10000000 := by simp only [tos, List.length_append, List.length_map, List.length_take]; omega
              obtain ⟨⟨z0, z1, z2⟩, hz⟩ : ∃ z, z = r[j] := ⟨_, rfl⟩
              rw [← hz] at y0 y1 y2 htn
              dsimp only at y0 y1 y2 htn
              have HTN := Lib.hid htn
              clear hz htn
              have dj : decide ((j : Int) < (r.length : Int)) = true := decide_eq_true (by omega)
              have hjs : (j : Int) < (r.length : Int) := by omega
              obtain ⟨ys, hys⟩ : ∃ ys, ys = xs ++ tos (r.take j) := ⟨_, rfl⟩
              rw [← hys] at HA HTN htl
              clear hys
              have HOb := Lib.hid (HA.out.alloc (.cells #[.int .i64 z0, .int .i64 z1, .int .i64 z2] 52))
              have hba : Below wr.heap.size wr (wr.alloc (.cells #[.int .i64 z0, .int .i64 z1, .int .i64 z2] 52)) := al1 wr _
              have HGb := Lib.hid (HG.out.below hba)
              have HSb := Lib.hid (HS.out.below hba)
              have HSLb := Lib.hid (HSL.out.below hba)
              have HBb := Lib.hid (below_ext2 HB.out hba)
              have Hsz := Lib.hid (show (wr.alloc (.cells #[.int .i64 z0, .int .i64 z1, .int .i64 z2] 52)).heap.size = wr.heap.size + 1 by simp)
              have HZb := Lib.hid (show B ≤ (wr.alloc (.cells #[.int .i64 z0, .int .i64 z1, .int .i64 z2] 52)).heap.size by have := Hsz.out; have := HZ.out; omega)
              clear hba HA HG HS HSL HB
              go_wp2_with (at_builtin; refine app1S rfl _ _ 22 rfl 3 (.int .i64 0) 8 info_int rfl Tryd.underlying22 B _ _ _ rfl HOb.out _ (by rw [Hsz.out]; rfl) rfl (by omega) (by omega) (by have := HZ.out; rw [Hsz.out]; omega) ?_; intro v' w6 hown6 hf6; have O6 := Lib.hid hown6; have HG6 := Lib.hid (HGb.out.belowB (hf6.below HZb.out) HGB.out); have HS6 := Lib.hid (HSb.out.frm hf6 (by decide)); have HSL6 := Lib.hid (HSLb.out.belowB (hf6.below HZb.out) HLT.out); have HB6 := Lib.hid (HBb.out.trans ((hf6.below HZb.out).mono HVB.out)); have HZ6 := Lib.hid (Nat.le_trans HZb.out hf6.size); clear hown6 hf6)
              go_wp2
              go_roundw
              case rel =>
                have h := O6.out
                refine ⟨j + 1, by omega, by go_num, ?_, HG6, HS6, HSL6, HB6, HZ6⟩
                rw [HTN.out, List.length_append, List.length_singleton, List.map_append]
                exact Lib.hid h
              case measure => simp [intOf]; omega
            · have dj : decide ((j : Int) < (r.length : Int)) = false := decide_eq_false (by omega)
              obtain rfl : j = r.length := by omega
              rw [List.take_length, ← HNX.out] at HA
              clear HAC HNX
              go_wp2_with fail
              go_roundw
              case rel => exact ⟨k + 1, dl3, by omega, by go_num, HA, HG, HD2, HS, HSL, HB, HZ⟩
              case measure => simp [intOf]; omega
        · obtain rfl : k = L.length := by omega
          rw [List.take_length] at HA HD
          have hmem := toI_mem L (fun n => Dst1 ar (fun x : Int => x ∈ st2) d n) HLM.out (fun n h => (dst_bd HN.out.va HN2.out.bds h).1)
          have HD2 := Lib.hid (HD.out.next hmem)
          have hlm : ∀ x, x ∈ ahd ar2 (toI L) ↔ ∃ p c, Dst1 ar (fun x : Int => x ∈ st2) d p ∧ 1 ≤ c ∧ (p, c, x) ∈ ar2 := fun x => by
            rw [ahd_mem HN2.out.va]
            exact ⟨fun ⟨p, c, h1, h2⟩ => ⟨p, c, (hmem p).1 h1, h2⟩, fun ⟨p, c, h1, h2⟩ => ⟨p, c, (hmem p).2 h1, h2⟩⟩
          have hal1 := ahd_len HN2.out.va (toI L)
          rw [toI_len] at hal1
          have HAB := Lib.hid (ahd_bd HN2.out.va (toI L))
          have HNL := Lib.hid (fun n : Int => layer_next (n := n) HR.out (fun x hx => (HN2.out.va.lt x hx).2) hlm)
          obtain ⟨xs, hxs⟩ : ∃ xs, xs = ahd ar2 (toI L) := ⟨_, rfl⟩
          rw [← hxs] at HA HAB HNL hal1
          clear hmem hlm hxs HD HLM
          obtain ⟨Ax, cx, rfl⟩ := own_shapeA HA.out
          obtain ⟨r0, r1, r2, r3⟩ := (HRB.out _ HB.out).cells
          go_wp2_with fail
          refine (closure_any S _ _ _ ar2 Ax cx xs wr (HRB.out _ HB.out).a HN2.out.va hS (Sl.of_own HA.out) (by omega) HAB.out).mono ?_
          rintro e wa ⟨va, la, rfl, hca, hba⟩
          clear r0 r1 r2 r3
          have HCA := Lib.hid hca
          have HSa := Lib.hid (HS.out.below hba)
          have HGa := Lib.hid (HG.out.below hba)
          have HBa := Lib.hid (below_ext2 HB.out hba)
          clear hca hba HA HS HG HB HSL
          go_wp2_with fail
          refine (minus_any va u7 la ws wa HCA.out.st.sl HSa.out.st.sl (by have := HCA.out.len; unfold Room2; omega) (by have := HSa.out.len; unfold Room2; omega) HCA.out.wds HSa.out.wds).mono ?_
          rintro e wb ⟨vb, rfl, hob, hbb⟩
          have hlb := minus_setis hob HCA.out.wds HSa.out.wds HCA.out.has HSa.out.has
          obtain ⟨lb, hlbe⟩ : ∃ lb, lb = setop andn la ws := ⟨_, rfl⟩
          rw [← hlbe] at hlb
          have HLb := Lib.hid (show SetIs wb vb lb (Lay ar st2 (d + 1)) from hlb.congr fun n => by
            refine Iff.trans ⟨fun h => ⟨rc_cl.1 h.1, fun e he hd => h.2 ⟨e, he, hd⟩⟩, fun h => ⟨rc_cl.2 h.1, fun ⟨e, he, hd⟩ => h.2 e he hd⟩⟩ (HNL.out n))
          have HSb := Lib.hid (HSa.out.below hbb)
          have HGb := Lib.hid (HGa.out.below hbb)
          have HBb := Lib.hid (below_ext2 HBa.out hbb)
          clear hob hbb hlb hlbe HSa HGa HBa HCA HNL
          go_wp2_with fail
          refine (union_one HSb.out HLb.out).mono ?_
          rintro e wc ⟨vc, lc, rfl, hc, hbc⟩
          have HSc := Lib.hid (show SetIs wc vc lc (Seen ar st2 (d + 1)) from hc.congr fun n => by
            constructor
            · rintro (⟨e, h1, h2⟩ | h)
              · exact ⟨e, by omega, h2⟩
              · exact ⟨d + 1, Nat.le_refl _, h⟩
            · rintro ⟨e, h1, h2⟩
              by_cases he : e = d + 1
              · subst he; exact .inr h2
              · exact .inl ⟨e, by omega, h2⟩)
          have HLc := Lib.hid (HLb.out.below hbc)
          have HGc := Lib.hid (HGb.out.below hbc)
          have HBc := Lib.hid (below_ext2 HBb.out hbc)
          clear hc hbc HSb HLb HGb HBb
          go_wp2_with fail
          go_roundw
          case rel => exact ⟨d + 1, lb, lc, dl2, by omega, by go_num, HLc, HSc, HGc, HD2, HBc⟩
          case measure => simp [intOf]; omega
end Go.Proofs.YtockgbilbnheaaaDoor
