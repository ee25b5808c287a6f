/- GraphComponents: for every input the law returns true. -/
import Derived.Test.YtnhhhnhakpambaaAcyc
import Derived.Test.YtnhhhnhakpambaaGraphSteps
namespace Go.Proofs.Ytnhhhnhakpambaa
open Go.RowKit

theorem compS_congr {M M' : List Nat} {N : Nat} (h : ∀ x y, x < N → y < N → (lead M x = lead M y ↔ lead M' x = lead M' y)) : compS M N = compS M' N := by
  have hf : firsts M N = firsts M' N := by
    unfold firsts
    refine List.filter_congr fun n hn => ?_
    have hn' := List.mem_range.1 hn
    rw [Bool.eq_iff_iff, isFst_iff, isFst_iff]
    constructor
    · intro h1 m hm e; exact h1 m hm ((h m n (by omega) hn').2 e)
    · intro h1 m hm e; exact h1 m hm ((h m n (by omega) hn').1 e)
  unfold compS
  rw [hf]
  refine List.map_congr_left fun f hfm => ?_
  have hfl := (firsts_mem.1 hfm).1
  unfold cls
  refine List.filter_congr fun m hm => ?_
  rw [decide_eq_decide]
  exact h m f (List.mem_range.1 hm) hfl
theorem ldm_len {g : List (List Nat)} (hg : VG g) {M M' : List Nat} (h : LdM g M) (h' : LdM g M') : (compS M' g.length).length = (compS M g.length).length := by
  rw [compS_congr (M := M') (M' := M)]
  intro x y hx hy
  rw [h'.scc hg hx hy, h.scc hg hx hy]
def CompsS (g : List (List Nat)) (w : World) (e : Ending) (w' : World) : Prop := ∃ M pv, LdM g M ∧ e = .returned (.tuple #[pv, .int .i64 0]) ∧ Gr nv w' pv (compS M g.length) ∧ Below w.heap.size w w'
theorem comps_s (v : Value) (g : List (List Nat)) (w : World) (h : Gr nv w v g) (hg : VG g) :
    Calls Try.prog 28 #[v] w (CompsS g w) := by
  refine (comps_ok v g w h hg).mono ?_
  rintro e w' ⟨s, M, pv, h1, h2, h3, h4, h5, h6, rfl, h7, hb⟩
  have hld : LdM g M := ⟨⟨s, h1, h2, h3, h4⟩, h5, h6⟩
  rw [hld.comps] at h7
  exact ⟨M, pv, hld, rfl, h7, hb⟩
/-- The numbers of the components as the law lays them down, -1 for a node that it has not met. -/
structure QInv (M : List Nat) (N i k : Nat) (A : List Int) : Prop where
  len : A.length = N
  at_ : ∀ x, x < N → dat A x = if partOf M N x < i ∨ (partOf M N x = i ∧ x ∈ (row (compS M N) i).take k) then (partOf M N x : Int) else -1
theorem QInv.start {M : List Nat} {N : Nat} {A : List Int} (hl : A.length = N) (h : ∀ j, j < N → dat A j = -1) : QInv M N 0 0 A := ⟨hl, fun x hx => by rw [h x hx, if_neg (by simp)]⟩
theorem QInv.free {M : List Nat} {N i k : Nat} {A : List Int} (h : QInv M N i k A) (hk : k < (row (compS M N) i).length) : dat A (row (compS M N) i)[k] = -1 := by
  obtain ⟨hx, hp⟩ := (mem_comp M).1 (List.getElem_mem hk)
  rw [h.at_ _ hx, if_neg]
  rintro (h1 | ⟨_, h1⟩)
  · omega
  · obtain ⟨j, hj, e⟩ := List.getElem_of_mem h1
    rw [List.getElem_take] at e
    have hnd := comp_nodup M N i
    have hj2 : j < k := by rw [List.length_take] at hj; omega
    have := (List.getElem_inj hnd).1 e
    omega
theorem QInv.step {M : List Nat} {N i k : Nat} {A : List Int} (h : QInv M N i k A) (hk : k < (row (compS M N) i).length) : QInv M N i (k + 1) (A.set (row (compS M N) i)[k] (i : Int)) := by
  obtain ⟨hx, hp⟩ := (mem_comp M).1 (List.getElem_mem hk)
  refine ⟨by simp [h.len], fun x hxn => ?_⟩
  rw [dat_set (by rw [h.len]; exact hx)]
  by_cases e : x = (row (compS M N) i)[k]
  · rw [if_pos e, e, if_pos (.inr ⟨hp, (take_succ_mem hk _).2 (.inr rfl)⟩), hp]
  · rw [if_neg e, h.at_ x hxn]
    have hiff : x ∈ (row (compS M N) i).take (k + 1) ↔ x ∈ (row (compS M N) i).take k := by
      rw [take_succ_mem hk x]; exact or_iff_left e
    simp only [hiff]
theorem QInv.next {M : List Nat} {N i : Nat} {A : List Int} (h : QInv M N i (row (compS M N) i).length A) : QInv M N (i + 1) 0 A := by
  refine ⟨h.len, fun x hx => ?_⟩
  rw [h.at_ x hx, List.take_length]
  have e : (partOf M N x < i ∨ partOf M N x = i ∧ x ∈ row (compS M N) i) ↔ (partOf M N x < i + 1 ∨ partOf M N x = i + 1 ∧ x ∈ (row (compS M N) (i + 1)).take 0) := by
    constructor
    · rintro (h1 | ⟨h1, _⟩)
      · exact .inl (by omega)
      · exact .inl (by omega)
    · rintro (h1 | ⟨_, h1⟩)
      · by_cases e : partOf M N x = i
        · exact .inr ⟨e, (mem_comp M).2 ⟨hx, e⟩⟩
        · exact .inl (by omega)
      · simp at h1
  simp only [e]
theorem QInv.fin {M : List Nat} {N : Nat} {A : List Int} (h : QInv M N (compS M N).length 0 A) {x : Nat} (hx : x < N) : dat A x = (partOf M N x : Int) := by
  rw [h.at_ x hx, if_pos (.inl (partOf_lt M hx))]
def Sgl (M : List Nat) (N k : Nat) (b : Bool) : Prop := b = true ↔ ∀ j, j < k → (row (compS M N) j).length = 1
theorem Sgl.start (M : List Nat) (N : Nat) : Sgl M N 0 true := by unfold Sgl; simp
theorem Sgl.step {M : List Nat} {N k : Nat} {b : Bool} (h : Sgl M N k b) : Sgl M N (k + 1) (b && ((((row (compS M N) k).length : Nat) : Int) == 1)) := by
  unfold Sgl at *
  rw [Bool.and_eq_true, h, beq_iff_eq]
  constructor
  · rintro ⟨h1, h2⟩ j hj
    by_cases e : j = k
    · subst e; omega
    · exact h1 j (by omega)
  · intro h1
    exact ⟨fun j hj => h1 j (by omega), by have := h1 k (by omega); omega⟩
def Slp (g : List (List Nat)) (M : List Nat) (k : Nat) (b : Bool) : Prop := b = true ↔ (∀ j, j < (compS M g.length).length → (row (compS M g.length) j).length = 1) ∧ ∀ i, i < k → i ∉ row g i
theorem Sgl.all {g : List (List Nat)} {M : List Nat} {b : Bool} (h : Sgl M g.length (compS M g.length).length b) : Slp g M 0 b := by
  unfold Slp; unfold Sgl at h
  rw [h]
  exact ⟨fun h1 => ⟨h1, fun i hi => by omega⟩, fun h1 => h1.1⟩
theorem Slp.step {g : List (List Nat)} {M : List Nat} {k : Nat} {b : Bool} (h : Slp g M k b) : Slp g M (k + 1) (b && !rhas (row g k) (k : Int)) := by
  unfold Slp at *
  have hr : rhas (row g k) (k : Int) = true ↔ k ∈ row g k := by
    unfold rhas
    rw [List.any_eq_true]
    constructor
    · rintro ⟨y, hy, e⟩
      rw [beq_iff_eq] at e
      obtain rfl : y = k := by omega
      exact hy
    · intro h; exact ⟨k, h, by simp⟩
  rw [Bool.and_eq_true, h, Bool.not_eq_true', ← Bool.not_eq_true, hr]
  constructor
  · rintro ⟨⟨h1, h2⟩, h3⟩
    refine ⟨h1, fun i hi => ?_⟩
    by_cases e : i = k
    · subst e; exact h3
    · exact h2 i (by omega)
  · rintro ⟨h1, h2⟩
    exact ⟨⟨h1, fun i hi => h2 i (by omega)⟩, h2 k (by omega)⟩
theorem Slp.cyc {g : List (List Nat)} (hg : VG g) {M : List Nat} (hM : LdM g M) {b : Bool} (h : Slp g M g.length b) : b = true ↔ ¬ Cyc g := h.trans (single_cyc hg hM)

set_option maxRecDepth 100000 in
set_option maxHeartbeats 4000000 in
theorem graphcomponents_walk (A : Option Addr) (c : Nat) (g : List (List Int)) (a b : Nat) (w : World) (h : Gr iv w (.slice A g.length c) g) (hl : g.length ≤ 17592186044000) (ha : a < 256) (hbb : b < 256) :
    Calls Try.prog 9 #[.slice A g.length c, .int .u8 (a : Int), .int .u8 (b : Int)] w (Ok w) := by
  have H := Lib.hid h
  have HB := Lib.hid (Below.refl w.heap.size w)
  clear h
  cases hfew : fewb g with
  | false =>
    have Hfew := Lib.hid hfew
    clear hfew
    go_enter Try.func9, Try.ntmps9
    go_wp2_with fail
    refine (awake_any _).mono ?_
    rintro e w1 ⟨rfl, hb⟩
    replace HB := Lib.hid (HB.out.trans (hb.mono HB.out.size))
    replace H := Lib.hid (H.out.below hb)
    clear hb
    go_wp2_with fail
    refine (few_any _ _ _ H.out hl).mono ?_
    rintro e w2 ⟨rfl, rfl⟩
    rw [Hfew.out]
    go_wp2
    go_ret
    exact ⟨rfl, HB.out⟩
  | true =>
    have Hfew := Lib.hid hfew
    have hL := few_lim hfew
    have hn60 := few_len hfew
    have HL := Lib.hid hL
    clear hfew hL
    by_cases hv : VldI g
    · obtain ⟨gn, rfl, hvg⟩ := hv.vg
      have Hvb := Lib.hid (vb_true hv)
      have Hg := Lib.hid hvg
      clear hv hvg
      rw [cst_len] at hl hn60 ⊢
      have Hn : Hid (Gr nv w (.slice A gn.length c) gn) := by have := H.out; rw [cst_len] at this; exact this.uncst
      clear H
      obtain ⟨i0, hi, hz0, hz1, hz2⟩ := info_parts info_int
      go_enter Try.func9, Try.ntmps9
      go_wp2_with fail
      refine (awake_any _).mono ?_
      rintro e w1 ⟨rfl, hb⟩
      replace HB := Lib.hid (HB.out.trans (hb.mono HB.out.size))
      replace Hn := Lib.hid (Hn.out.below hb)
      clear hb
      go_wp2_with fail
      refine (few_any _ _ _ Hn.out.cst (by rw [cst_len]; exact hl)).mono ?_
      rintro e w2 ⟨rfl, rfl⟩
      rw [Hfew.out]
      go_wp2_with fail
      refine (rvalid_any _ _ _ Hn.out.cst HL.out).mono ?_
      rintro e w2 ⟨rfl, hb⟩
      rw [Hvb.out]
      replace HB := Lib.hid (HB.out.trans (hb.mono HB.out.size))
      replace Hn := Lib.hid (Hn.out.below hb)
      clear hb
      go_wp2_with fail
      refine (comps_s _ gn _ Hn.out Hg.out).mono ?_
      rintro e w3 ⟨M, pv, hM, rfl, hC, hb⟩
      have HM := Lib.hid hM; have HC := Lib.hid hC
      obtain ⟨Ap, cp, rfl⟩ := hC.shape
      replace HB := Lib.hid (HB.out.trans (hb.mono HB.out.size))
      replace Hn := Lib.hid (Hn.out.below hb)
      have hcl := compS_len M gn.length
      clear hb hM hC
      go_wp2_with (at_make; refine wpList_make_full _ rfl _ _ _ rfl w3.heap.size 3 i0 _ 1 (by kernel_rfl) hi hz0 hz1 _ _ _ _ gn.length rfl rfl rfl rfl (by rw [hz2]; omega) (by unfold maxLen; omega) (Nat.le_refl _) ?_; intro w4 hown hgr; have Hb4 := Lib.hid (made_below hgr); have Hr4 := Lib.hid (made_row hown); clear hown hgr)
      have Hrz : Hid (Row w4 w3.heap.size 3 ((List.replicate gn.length (0 : Int)).map iv)) := by show Row _ _ _ _; rw [List.map_replicate]; exact Hr4.out
      clear Hr4
      have hHs := HB.out.size
      go_loopw [50] (fun i wr => ∃ (k : Nat) (A : List Int), k ≤ gn.length ∧ i = .int .i64 k ∧ A.length = gn.length ∧ Hid (∀ j, j < k → dat A j = -1) ∧ Row wr w3.heap.size 3 (A.map iv) ∧ Below w3.heap.size w3 wr) (fun i _ => gn.length - (intOf i).toNat)
      case atStart => exact ⟨0, _, Nat.zero_le _, rfl, by simp, Lib.hid (by intro j hj; omega), Hrz.out, Hb4.out⟩
      case round =>
        clear Hrz Hb4
        obtain ⟨k, A5, hk, rfl, hal, hall, hrow, hbel⟩ := hrel
        have Hrw := Lib.hid hrow; have Hbel := Lib.hid hbel
        by_cases hlt : k < gn.length
        · have hck := dat_cell hrow (by rw [hal]; exact hlt : k < A5.length)
          have hfr := hrow.free k
          have hn5 : Hid (∀ j, j < k + 1 → dat (A5.set k (-1)) j = -1) := fun j hj => by
            rw [dat_set (by rw [hal]; exact hlt)]
            split
            · rfl
            · exact hall.out j (by omega)
          have Hr5 := Lib.hid (row_set_iv hrow k (-1))
          clear hrow hbel
          generalize dat A5 k = d at *
          go_wp2
          go_roundw
          case rel => exact ⟨k + 1, _, by omega, by go_num, by simp [hal], hn5, Hr5.out, Hbel.out.setCell (p := ⟨w3.heap.size, k, none⟩) (Nat.le_refl _) _⟩
          case measure => simp [intOf]; omega
        · obtain rfl : k = gn.length := by omega
          have Hq0 := Lib.hid (QInv.start (M := M) hal hall.out)
          clear hrow hbel hall hal
          go_wp2
          go_loopw [11, 59] (fun sv i wr => ∃ (k : Nat) (A : List Int) (sb : Bool), k ≤ (compS M gn.length).length ∧ i = .int .i64 k ∧ sv = .bool sb ∧ Hid (Sgl M gn.length k sb) ∧ Hid (QInv M gn.length k 0 A) ∧ Row wr w3.heap.size 3 (A.map iv) ∧ Below w3.heap.size w3 wr) (fun _ i _ => (compS M gn.length).length - (intOf i).toNat)
          case atStart => exact ⟨0, _, true, Nat.zero_le _, rfl, rfl, Lib.hid (Sgl.start _ _), Hq0, Hrw.out, Hbel.out⟩
          case round =>
            clear Hrw Hbel Hq0
            obtain ⟨k, A6, sb, hk, rfl, rfl, hsg, hq, hrow, hbel⟩ := hrel
            have Hrw := Lib.hid hrow; have Hbel := Lib.hid hbel
            by_cases hlt : k < (compS M gn.length).length
            · obtain ⟨ad, c', A', cr, hsq, hcap, hcell0, hrow0⟩ := gr_cell HC.out k hlt
              simp only [Value.slice.injEq, true_and] at hsq
              obtain ⟨rfl, rfl⟩ := hsq
              have hcell := (hbel.cell (World.block_lt_of_cell? _ _ hcell0)).trans hcell0
              have Hrow0 := Lib.hid hrow0
              have hrl : (row (compS M gn.length) k).length ≤ gn.length := nodup_lt (comp_nodup M gn.length k) (fun x hx => ((mem_comp M).1 hx).1)
              have Hsg2 := Lib.hid hsg.out.step
              obtain ⟨bl, hbl⟩ : ∃ bl, ((((row (compS M gn.length) k).length : Nat) : Int) == 1) = bl := ⟨_, rfl⟩
              rw [hbl] at Hsg2
              clear hrow hbel hcell0 hrow0 hsg
              cases sb with
              | true =>
                rw [Bool.true_and] at Hsg2
                go_wp2
                go_loopw [76] (fun i wr => ∃ (m : Nat) (A : List Int), m ≤ (row (compS M gn.length) k).length ∧ i = .int .i64 m ∧ Hid (QInv M gn.length k m A) ∧ Row wr w3.heap.size 3 (A.map iv) ∧ Below w3.heap.size w3 wr) (fun i _ => (row (compS M gn.length) k).length - (intOf i).toNat)
                case atStart => exact ⟨0, _, Nat.zero_le _, rfl, hq, Hrw.out, Hbel.out⟩
                case round =>
                  clear Hrw Hbel hq hcell
                  obtain ⟨m, A7, hm, rfl, hq, hrow, hbel⟩ := hrel
                  have Hrw := Lib.hid hrow; have Hbel := Lib.hid hbel
                  by_cases hltm : m < (row (compS M gn.length) k).length
                  · obtain ⟨adr, cr', hsr, hcapr, hcellr⟩ := sl_cell (Hrow0.out.below hbel) m hltm
                    simp only [Value.slice.injEq, true_and] at hsr
                    obtain ⟨rfl, rfl⟩ := hsr
                    have hxn := ((mem_comp M).1 (List.getElem_mem hltm)).1
                    have hfree := hq.out.free hltm
                    have Hq2 := Lib.hid (hq.out.step hltm)
                    generalize (row (compS M gn.length) k)[m] = x at *
                    have hck := dat_cell hrow (by rw [hq.out.len]; exact hxn : x < A7.length)
                    rw [hfree] at hck
                    have hfr := hrow.free x
                    have Hr5 := Lib.hid (row_set_iv hrow x (k : Int))
                    have dx0 : decide ((x : Int) < 0) = false := decide_eq_false (by omega)
                    have dx1 : decide (gn.length ≤ x) = false := decide_eq_false (by omega)
                    unfold nv at hcellr
                    clear hrow hbel hq hfree
                    go_wp2
                    go_roundw
                    case rel => exact ⟨m + 1, _, by omega, by go_num, Hq2, Hr5.out, Hbel.out.setCell (p := ⟨w3.heap.size, x, none⟩) (Nat.le_refl _) _⟩
                    case measure => simp [intOf]; omega
                  · obtain rfl : m = (row (compS M gn.length) k).length := by omega
                    clear hrow hbel
                    go_wp2
                    go_roundw
                    case rel => exact ⟨k + 1, _, _, by omega, by go_num, rfl, Hsg2, Lib.hid hq.out.next, Hrw.out, Hbel.out⟩
                    case measure => simp [intOf]; omega
              | false =>
                rw [Bool.false_and] at Hsg2
                clear hbl
                go_wp2
                go_loopw [76] (fun i wr => ∃ (m : Nat) (A : List Int), m ≤ (row (compS M gn.length) k).length ∧ i = .int .i64 m ∧ Hid (QInv M gn.length k m A) ∧ Row wr w3.heap.size 3 (A.map iv) ∧ Below w3.heap.size w3 wr) (fun i _ => (row (compS M gn.length) k).length - (intOf i).toNat)
                case atStart => exact ⟨0, _, Nat.zero_le _, rfl, hq, Hrw.out, Hbel.out⟩
                case round =>
                  clear Hrw Hbel hq hcell
                  obtain ⟨m, A7, hm, rfl, hq, hrow, hbel⟩ := hrel
                  have Hrw := Lib.hid hrow; have Hbel := Lib.hid hbel
                  by_cases hltm : m < (row (compS M gn.length) k).length
                  · obtain ⟨adr, cr', hsr, hcapr, hcellr⟩ := sl_cell (Hrow0.out.below hbel) m hltm
                    simp only [Value.slice.injEq, true_and] at hsr
                    obtain ⟨rfl, rfl⟩ := hsr
                    have hxn := ((mem_comp M).1 (List.getElem_mem hltm)).1
                    have hfree := hq.out.free hltm
                    have Hq2 := Lib.hid (hq.out.step hltm)
                    generalize (row (compS M gn.length) k)[m] = x at *
                    have hck := dat_cell hrow (by rw [hq.out.len]; exact hxn : x < A7.length)
                    rw [hfree] at hck
                    have hfr := hrow.free x
                    have Hr5 := Lib.hid (row_set_iv hrow x (k : Int))
                    have dx0 : decide ((x : Int) < 0) = false := decide_eq_false (by omega)
                    have dx1 : decide (gn.length ≤ x) = false := decide_eq_false (by omega)
                    unfold nv at hcellr
                    clear hrow hbel hq hfree
                    go_wp2
                    go_roundw
                    case rel => exact ⟨m + 1, _, by omega, by go_num, Hq2, Hr5.out, Hbel.out.setCell (p := ⟨w3.heap.size, x, none⟩) (Nat.le_refl _) _⟩
                    case measure => simp [intOf]; omega
                  · obtain rfl : m = (row (compS M gn.length) k).length := by omega
                    clear hrow hbel
                    go_wp2
                    go_roundw
                    case rel => exact ⟨k + 1, _, _, by omega, by go_num, rfl, Hsg2, Lib.hid hq.out.next, Hrw.out, Hbel.out⟩
                    case measure => simp [intOf]; omega
            · obtain rfl : k = (compS M gn.length).length := by omega
              have Hpt := Lib.hid (fun x (hx : x < gn.length) => hq.out.fin hx)
              have hal := hq.out.len
              have Hs0 := Lib.hid hsg.out.all
              have hwr3 : w3.heap.size < wr.heap.size := hrow.lt
              clear hrow hbel hq hsg
              go_wp2
              go_loopw [11, 103] (fun sv i wr => ∃ (k : Nat) (sb : Bool), k ≤ gn.length ∧ i = .int .i64 k ∧ sv = .bool sb ∧ Hid (Slp gn M k sb) ∧ Row wr w3.heap.size 3 (A6.map iv) ∧ Below w3.heap.size w3 wr) (fun _ i _ => gn.length - (intOf i).toNat)
              case atStart => exact ⟨0, sb, Nat.zero_le _, rfl, rfl, Hs0, Hrw.out, Hbel.out⟩
              case round =>
                clear Hrw Hbel Hs0 hwr3
                obtain ⟨k, sb, hk, rfl, rfl, hsl, hrow, hbel⟩ := hrel
                have Hrw := Lib.hid hrow; have Hbel := Lib.hid hbel
                by_cases hlt : k < gn.length
                · have hck := dat_cell hrow (by rw [hal]; exact hlt : k < A6.length)
                  rw [Hpt.out k hlt] at hck
                  have dpk : decide (((partOf M gn.length k : Nat) : Int) < 0) = false := decide_eq_false (by omega)
                  obtain ⟨ad, c', A', cr, hsq, hcap, hcell, hrow0⟩ := gr_cell (Hn.out.below hbel) k hlt
                  simp only [Value.slice.injEq, true_and] at hsq
                  obtain ⟨rfl, rfl⟩ := hsq
                  have Hrow0 := Lib.hid hrow0
                  have hrl := Hg.out.row_len k
                  have Hst := Lib.hid hsl.out.step
                  clear hrow hbel hrow0 hsl
                  generalize partOf M gn.length k = pk at *
                  cases sb with
                  | true =>
                    rw [Bool.true_and] at Hst
                    obtain ⟨bh, hbh⟩ : ∃ bh, rhas (row gn k) (k : Int) = bh := ⟨_, rfl⟩
                    rw [hbh] at Hst
                    have Hbh := Lib.hid hbh
                    clear hbh
                    go_wp2_with fail
                    refine (rhas_b Hbh.out Hrow0.out (by omega)).mono ?_
                    rintro e w5 ⟨rfl, rfl⟩
                    cases bh with
                    | true =>
                      go_wp2
                      go_roundw
                      case rel => exact ⟨k + 1, _, by omega, by go_num, rfl, Hst, Hrw.out, Hbel.out⟩
                      case measure => simp [intOf]; omega
                    | false =>
                      go_wp2
                      go_roundw
                      case rel => exact ⟨k + 1, _, by omega, by go_num, rfl, Hst, Hrw.out, Hbel.out⟩
                      case measure => simp [intOf]; omega
                  | false =>
                    rw [Bool.false_and] at Hst
                    go_wp2
                    go_roundw
                    case rel => exact ⟨k + 1, _, by omega, by go_num, rfl, Hst, Hrw.out, Hbel.out⟩
                    case measure => simp [intOf]; omega
                · obtain rfl : k = gn.length := by omega
                  have Hcy := Lib.hid (hsl.out.cyc Hg.out HM.out)
                  have hs3 := hbel.size
                  have hrlt := hrow.lt
                  clear hrow hbel hsl
                  go_wp2_with fail
                  refine (condense_ok _ gn _ (Hn.out.below Hbel.out) Hg.out).mono ?_
                  rintro e w5 ⟨M2, A2, c2, hM2, rfl, hgc, hb⟩
                  have hlen := ldm_len Hg.out HM.out hM2
                  have Hac := Lib.hid (edC_acyc Hg.out hM2)
                  have Hvc := Lib.hid (edC_vg Hg.out M2)
                  have hel := edC_len gn M2
                  rw [hlen] at hel hgc ⊢
                  have Hgc := Lib.hid hgc
                  have hs5 := Nat.le_trans hs3 hb.size
                  replace Hrw := Lib.hid (Hrw.out.below hb hrlt)
                  replace Hbel := Lib.hid (Hbel.out.trans (hb.mono hs3))
                  clear hb hgc hM2 hlen hs3 hrlt
                  go_wp2_with fail
                  refine (order_any _ (edC gn M2) _ Hgc.out Hvc.out).mono ?_
                  have hrlt := Hrw.out.lt
                  rintro e w6 (⟨l, v, hl1, rfl, hsl, hb⟩ | ⟨hno, rfl, hb⟩)
                  · obtain ⟨Av, cv, rfl⟩ := hsl.shape
                    have hs6 := Nat.le_trans hs5 hb.size
                    replace Hrw := Lib.hid (Hrw.out.below hb hrlt)
                    replace Hbel := Lib.hid (Hbel.out.trans (hb.mono hs5))
                    clear hb hsl hl1 hs5 hrlt Hgc Hvc Hac
                    go_wp2_with fail
                    refine (order_any _ gn _ (Hn.out.below Hbel.out) Hg.out).mono ?_
                    have hrlt := Hrw.out.lt
                    rintro e w7 (⟨l2, v2, hl2, rfl, hsl, hb⟩ | ⟨hno, rfl, hb⟩)
                    · obtain ⟨Av2, cv2, rfl⟩ := hsl.shape
                      obtain rfl : sb = true := Hcy.out.2 (fun hc => by rw [(ord_cyc Hg.out).2 hc] at hl2; cases hl2)
                      replace Hrw := Lib.hid (Hrw.out.below hb hrlt)
                      have hs7 := Nat.le_trans hs6 hb.size
                      replace Hbel := Lib.hid (Hbel.out.trans (hb.mono hs6))
                      clear hb hsl hl2 hs6 hrlt Hcy
                      by_cases hz : gn.length = 0
                      · have hze : ((gn.length : Int) == 0) = true := by rw [beq_iff_eq]; omega
                        clear hz
                        go_wp2
                        go_ret
                        exact ⟨rfl, HB.out.trans (Hbel.out.mono hHs)⟩
                      · have hze : ((gn.length : Int) == 0) = false := by rw [beq_eq_false_iff_ne]; omega
                        have hpos : 0 < gn.length := by omega
                        have e1 := tmod_nat a gn.length
                        have e2 := tmod_nat b gn.length
                        have hx : a % gn.length < gn.length := Nat.mod_lt _ hpos
                        have hy : b % gn.length < gn.length := Nat.mod_lt _ hpos
                        generalize a % gn.length = x at *
                        generalize b % gn.length = y at *
                        clear hz
                        go_wp2
                        go_quiet (fail)
                        clear e1 e2
                        have hrlt2 := Hrw.out.lt
                        have Hmut := Lib.hid (part_mut Hg.out HM.out hx hy)
                        go_wp2_with fail
                        refine (path_ok _ gn x y _ (gr_drewN (Hn.out.below Hbel.out) _) Hg.out hx hy).mono ?_
                        rintro e w8 ⟨L, hL, hp⟩
                        have hr1 : dat L x ≠ -1 ↔ Rea gn x y := (hL.rch (by rw [revM_len]; exact hx)).trans (rea_back Hg.out)
                        have Hr1 := Lib.hid hr1
                        clear hL hr1
                        have key : ∃ v1 c1, e = .returned (.tuple #[v1, .int .i64 c1]) ∧ (c1 = 0 ↔ Rea gn x y) ∧ (∃ A3 n3 c3, v1 = .slice A3 n3 c3) ∧ Below w7.heap.size w7 w8 := by
                          rcases hp with ⟨h1, rfl, hb⟩ | ⟨d, v3, h1, rfl, hsl, hb⟩
                          · exact ⟨_, 8, rfl, ⟨fun h => by omega, fun h => absurd h1 (Hr1.out.2 h)⟩, ⟨_, _, _, rfl⟩, (Below.drewNs w7 nq).trans hb⟩
                          · obtain ⟨A3, c3, e3⟩ := hsl.shape
                            exact ⟨_, 0, rfl, ⟨fun _ => Hr1.out.1 (by omega), fun _ => rfl⟩, ⟨_, _, _, e3⟩, (Below.drewNs w7 nq).trans hb⟩
                        clear hp Hr1
                        obtain ⟨v1, j1, rfl, hj1, ⟨A3, n3, c3, rfl⟩, hb8⟩ := key
                        have Hj1 := Lib.hid hj1
                        have Hb8 := Lib.hid hb8
                        have hs8 := hb8.size
                        clear hj1 hb8
                        go_wp2_with fail
                        refine (path_ok _ gn y x _ ((Hn.out.below Hbel.out).below Hb8.out) Hg.out hy hx).mono ?_
                        rintro e w9 ⟨L, hL, hp⟩
                        have hr1 : dat L y ≠ -1 ↔ Rea gn y x := (hL.rch (by rw [revM_len]; exact hy)).trans (rea_back Hg.out)
                        have Hr1 := Lib.hid hr1
                        clear hL hr1
                        have key : ∃ v1 c1, e = .returned (.tuple #[v1, .int .i64 c1]) ∧ (c1 = 0 ↔ Rea gn y x) ∧ (∃ A3 n3 c3, v1 = .slice A3 n3 c3) ∧ Below w8.heap.size w8 w9 := by
                          rcases hp with ⟨h1, rfl, hb⟩ | ⟨d, v3, h1, rfl, hsl, hb⟩
                          · exact ⟨_, 8, rfl, ⟨fun h => by omega, fun h => absurd h1 (Hr1.out.2 h)⟩, ⟨_, _, _, rfl⟩, hb⟩
                          · obtain ⟨A3, c3, e3⟩ := hsl.shape
                            exact ⟨_, 0, rfl, ⟨fun _ => Hr1.out.1 (by omega), fun _ => rfl⟩, ⟨_, _, _, e3⟩, hb⟩
                        clear hp Hr1
                        obtain ⟨v2, j2, rfl, hj2, ⟨A4, n4, c4, rfl⟩, hb9⟩ := key
                        have Hb := Lib.hid (Hb8.out.trans (hb9.mono hs8))
                        have hm := Hmut.out.trans (and_congr Hj1.out.symm hj2.symm)
                        clear hb9 Hb8 Hmut Hj1 hj2 hs8
                        have Hl := Lib.hid (Hrw.out.below Hb.out hrlt2)
                        have hcx := dat_cell Hl.out (by rw [hal]; exact hx : x < A6.length)
                        have hcy := dat_cell Hl.out (by rw [hal]; exact hy : y < A6.length)
                        rw [Hpt.out x hx] at hcx
                        rw [Hpt.out y hy] at hcy
                        have Hend := Lib.hid (HB.out.trans ((Hbel.out.trans (Hb.out.mono hs7)).mono hHs))
                        clear Hl Hrw Hbel Hb Hpt HM HC Hn
                        generalize partOf M gn.length x = px at *
                        generalize partOf M gn.length y = py at *
                        have hx0 : (0 : Int) ≤ (x : Int) := by omega
                        have hx1 : (x : Int) < (gn.length : Int) := by omega
                        have hy0 : (0 : Int) ≤ (y : Int) := by omega
                        have hy1 : (y : Int) < (gn.length : Int) := by omega
                        by_cases h1 : j1 = 0
                        · subst h1
                          by_cases h2 : j2 = 0
                          · subst h2
                            have hpe : ((px : Int) == (py : Int)) = true := by rw [beq_iff_eq]; have := hm.2 ⟨rfl, rfl⟩; omega
                            clear hm
                            go_wp2
                            go_quiet (fail)
                            go_wp2
                            go_ret
                            exact ⟨rfl, below_drew Hend.out _⟩
                          · have hpe : ((px : Int) == (py : Int)) = false := by rw [beq_eq_false_iff_ne]; intro e5; exact h2 (hm.1 (by omega)).2
                            have hj : (j2 == 0) = false := by rw [beq_eq_false_iff_ne]; exact h2
                            clear hm h2
                            go_wp2
                            go_quiet (fail)
                            go_wp2
                            go_ret
                            exact ⟨rfl, below_drew Hend.out _⟩
                        · have hpe : ((px : Int) == (py : Int)) = false := by rw [beq_eq_false_iff_ne]; intro e5; exact h1 (hm.1 (by omega)).1
                          have hj : (j1 == 0) = false := by rw [beq_eq_false_iff_ne]; exact h1
                          clear hm h1
                          go_wp2
                          go_quiet (fail)
                          go_wp2
                          go_ret
                          exact ⟨rfl, below_drew Hend.out _⟩
                    · obtain rfl : sb = false := by
                        cases sb with
                        | false => rfl
                        | true => exact absurd ((ord_cyc Hg.out).1 hno) (Hcy.out.1 rfl)
                      replace Hrw := Lib.hid (Hrw.out.below hb hrlt)
                      have hs7 := Nat.le_trans hs6 hb.size
                      replace Hbel := Lib.hid (Hbel.out.trans (hb.mono hs6))
                      clear hb hno hs6 hrlt Hcy
                      by_cases hz : gn.length = 0
                      · have hze : ((gn.length : Int) == 0) = true := by rw [beq_iff_eq]; omega
                        clear hz
                        go_wp2
                        go_ret
                        exact ⟨rfl, HB.out.trans (Hbel.out.mono hHs)⟩
                      · have hze : ((gn.length : Int) == 0) = false := by rw [beq_eq_false_iff_ne]; omega
                        have hpos : 0 < gn.length := by omega
                        have e1 := tmod_nat a gn.length
                        have e2 := tmod_nat b gn.length
                        have hx : a % gn.length < gn.length := Nat.mod_lt _ hpos
                        have hy : b % gn.length < gn.length := Nat.mod_lt _ hpos
                        generalize a % gn.length = x at *
                        generalize b % gn.length = y at *
                        clear hz
                        go_wp2
                        go_quiet (fail)
                        clear e1 e2
                        have hrlt2 := Hrw.out.lt
                        have Hmut := Lib.hid (part_mut Hg.out HM.out hx hy)
                        go_wp2_with fail
                        refine (path_ok _ gn x y _ (gr_drewN (Hn.out.below Hbel.out) _) Hg.out hx hy).mono ?_
                        rintro e w8 ⟨L, hL, hp⟩
                        have hr1 : dat L x ≠ -1 ↔ Rea gn x y := (hL.rch (by rw [revM_len]; exact hx)).trans (rea_back Hg.out)
                        have Hr1 := Lib.hid hr1
                        clear hL hr1
                        have key : ∃ v1 c1, e = .returned (.tuple #[v1, .int .i64 c1]) ∧ (c1 = 0 ↔ Rea gn x y) ∧ (∃ A3 n3 c3, v1 = .slice A3 n3 c3) ∧ Below w7.heap.size w7 w8 := by
                          rcases hp with ⟨h1, rfl, hb⟩ | ⟨d, v3, h1, rfl, hsl, hb⟩
                          · exact ⟨_, 8, rfl, ⟨fun h => by omega, fun h => absurd h1 (Hr1.out.2 h)⟩, ⟨_, _, _, rfl⟩, (Below.drewNs w7 nq).trans hb⟩
                          · obtain ⟨A3, c3, e3⟩ := hsl.shape
                            exact ⟨_, 0, rfl, ⟨fun _ => Hr1.out.1 (by omega), fun _ => rfl⟩, ⟨_, _, _, e3⟩, (Below.drewNs w7 nq).trans hb⟩
                        clear hp Hr1
                        obtain ⟨v1, j1, rfl, hj1, ⟨A3, n3, c3, rfl⟩, hb8⟩ := key
                        have Hj1 := Lib.hid hj1
                        have Hb8 := Lib.hid hb8
                        have hs8 := hb8.size
                        clear hj1 hb8
                        go_wp2_with fail
                        refine (path_ok _ gn y x _ ((Hn.out.below Hbel.out).below Hb8.out) Hg.out hy hx).mono ?_
                        rintro e w9 ⟨L, hL, hp⟩
                        have hr1 : dat L y ≠ -1 ↔ Rea gn y x := (hL.rch (by rw [revM_len]; exact hy)).trans (rea_back Hg.out)
                        have Hr1 := Lib.hid hr1
                        clear hL hr1
                        have key : ∃ v1 c1, e = .returned (.tuple #[v1, .int .i64 c1]) ∧ (c1 = 0 ↔ Rea gn y x) ∧ (∃ A3 n3 c3, v1 = .slice A3 n3 c3) ∧ Below w8.heap.size w8 w9 := by
                          rcases hp with ⟨h1, rfl, hb⟩ | ⟨d, v3, h1, rfl, hsl, hb⟩
                          · exact ⟨_, 8, rfl, ⟨fun h => by omega, fun h => absurd h1 (Hr1.out.2 h)⟩, ⟨_, _, _, rfl⟩, hb⟩
                          · obtain ⟨A3, c3, e3⟩ := hsl.shape
                            exact ⟨_, 0, rfl, ⟨fun _ => Hr1.out.1 (by omega), fun _ => rfl⟩, ⟨_, _, _, e3⟩, hb⟩
                        clear hp Hr1
                        obtain ⟨v2, j2, rfl, hj2, ⟨A4, n4, c4, rfl⟩, hb9⟩ := key
                        have Hb := Lib.hid (Hb8.out.trans (hb9.mono hs8))
                        have hm := Hmut.out.trans (and_congr Hj1.out.symm hj2.symm)
                        clear hb9 Hb8 Hmut Hj1 hj2 hs8
                        have Hl := Lib.hid (Hrw.out.below Hb.out hrlt2)
                        have hcx := dat_cell Hl.out (by rw [hal]; exact hx : x < A6.length)
                        have hcy := dat_cell Hl.out (by rw [hal]; exact hy : y < A6.length)
                        rw [Hpt.out x hx] at hcx
                        rw [Hpt.out y hy] at hcy
                        have Hend := Lib.hid (HB.out.trans ((Hbel.out.trans (Hb.out.mono hs7)).mono hHs))
                        clear Hl Hrw Hbel Hb Hpt HM HC Hn
                        generalize partOf M gn.length x = px at *
                        generalize partOf M gn.length y = py at *
                        have hx0 : (0 : Int) ≤ (x : Int) := by omega
                        have hx1 : (x : Int) < (gn.length : Int) := by omega
                        have hy0 : (0 : Int) ≤ (y : Int) := by omega
                        have hy1 : (y : Int) < (gn.length : Int) := by omega
                        by_cases h1 : j1 = 0
                        · subst h1
                          by_cases h2 : j2 = 0
                          · subst h2
                            have hpe : ((px : Int) == (py : Int)) = true := by rw [beq_iff_eq]; have := hm.2 ⟨rfl, rfl⟩; omega
                            clear hm
                            go_wp2
                            go_quiet (fail)
                            go_wp2
                            go_ret
                            exact ⟨rfl, below_drew Hend.out _⟩
                          · have hpe : ((px : Int) == (py : Int)) = false := by rw [beq_eq_false_iff_ne]; intro e5; exact h2 (hm.1 (by omega)).2
                            have hj : (j2 == 0) = false := by rw [beq_eq_false_iff_ne]; exact h2
                            clear hm h2
                            go_wp2
                            go_quiet (fail)
                            go_wp2
                            go_ret
                            exact ⟨rfl, below_drew Hend.out _⟩
                        · have hpe : ((px : Int) == (py : Int)) = false := by rw [beq_eq_false_iff_ne]; intro e5; exact h1 (hm.1 (by omega)).1
                          have hj : (j1 == 0) = false := by rw [beq_eq_false_iff_ne]; exact h1
                          clear hm h1
                          go_wp2
                          go_quiet (fail)
                          go_wp2
                          go_ret
                          exact ⟨rfl, below_drew Hend.out _⟩
                  · exact absurd ((ord_cyc Hvc.out).1 hno) Hac.out
    · have Hvb := Lib.hid (vb_false hv)
      clear hv
      go_enter Try.func9, Try.ntmps9
      go_wp2_with fail
      refine (awake_any _).mono ?_
      rintro e w1 ⟨rfl, hb⟩
      replace HB := Lib.hid (HB.out.trans (hb.mono HB.out.size))
      replace H := Lib.hid (H.out.below hb)
      clear hb
      go_wp2_with fail
      refine (few_any _ _ _ H.out hl).mono ?_
      rintro e w2 ⟨rfl, rfl⟩
      rw [Hfew.out]
      go_wp2_with fail
      refine (rvalid_any _ _ _ H.out HL.out).mono ?_
      rintro e w2 ⟨rfl, hb⟩
      rw [Hvb.out]
      replace HB := Lib.hid (HB.out.trans (hb.mono HB.out.size))
      clear hb
      go_wp2
      go_ret
      exact ⟨rfl, HB.out⟩
end Go.Proofs.Ytnhhhnhakpambaa
