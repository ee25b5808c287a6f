/- Make, of the program and of the reference, by one word. -/
import Derived.Test.YtnhhhnhakpambaaEdgesW
import Derived.Test.YtnhhhnhakpambaaRefErr
namespace Go.Proofs.Ytnhhhnhakpambaa
open Go.RowKit

def Good (n : Int) (p : Int × Int) : Prop := (0 ≤ p.1 ∧ p.1 < n) ∧ (0 ≤ p.2 ∧ p.2 < n)
def MkOk (n : Int) (es : List (Int × Int)) : Prop := 0 ≤ n ∧ n ≤ 400 ∧ ∀ p ∈ es, Good n p
theorem castP_inj {a b : List (Nat × Nat)} (h : castP a = castP b) : a = b := by
  unfold castP at h
  refine List.map_inj_right (fun x y e => ?_) |>.1 h
  simp only [Prod.mk.injEq] at e
  ext <;> omega
theorem mk_nat {n : Int} {es : List (Int × Int)} (h : MkOk n es) : ∃ (m : Nat) (en : List (Nat × Nat)), n = m ∧ m ≤ 400 ∧ es = castP en ∧ ∀ e ∈ en, e.1 < m ∧ e.2 < m := by
  obtain ⟨h1, h2, h3⟩ := h
  refine ⟨n.toNat, es.map fun p => (p.1.toNat, p.2.toNat), by omega, by omega, ?_, ?_⟩
  · unfold castP
    rw [List.map_map]
    refine (List.map_id _).symm.trans (List.map_congr_left fun p hp => ?_)
    obtain ⟨⟨a1, a2⟩, b1, b2⟩ := h3 p hp
    simp only [id, Function.comp]
    ext <;> simp <;> omega
  · intro e he
    obtain ⟨p, hp, rfl⟩ := List.mem_map.1 he
    obtain ⟨⟨a1, a2⟩, b1, b2⟩ := h3 p hp
    simp only
    omega
theorem mk_ok {m : Nat} {en : List (Nat × Nat)} (h : m ≤ 400) (he : ∀ e ∈ en, e.1 < m ∧ e.2 < m) : MkOk m (castP en) := by
  refine ⟨by omega, by omega, fun p hp => ?_⟩
  obtain ⟨e, h1, rfl⟩ := List.mem_map.1 hp
  have := he e h1
  unfold Good
  simp only
  omega
def MS (n : Int) (es : List (Int × Int)) (c : Int) (g : List (List Nat)) : Prop :=
  (¬ MkOk n es ∧ c = 2 ∧ g = []) ∨ ∃ (m : Nat) (en : List (Nat × Nat)), n = m ∧ m ≤ 400 ∧ es = castP en ∧ (∀ e ∈ en, e.1 < m ∧ e.2 < m) ∧ c = 0 ∧ g = edM m en
theorem MS.unique {n : Int} {es : List (Int × Int)} {c c' : Int} {g g' : List (List Nat)} (h : MS n es c g) (h' : MS n es c' g') : c = c' ∧ g = g' := by
  rcases h with ⟨h0, rfl, rfl⟩ | ⟨m, en, rfl, h1, rfl, h2, rfl, rfl⟩
  · rcases h' with ⟨_, rfl, rfl⟩ | ⟨m, en, rfl, h1, rfl, h2, rfl, rfl⟩
    · exact ⟨rfl, rfl⟩
    · exact absurd (mk_ok h1 h2) h0
  · rcases h' with ⟨h0, rfl, rfl⟩ | ⟨m', en', h3, h4, h5, h6, rfl, rfl⟩
    · exact absurd (mk_ok h1 h2) h0
    · obtain rfl : m = m' := by omega
      obtain rfl := castP_inj h5
      exact ⟨rfl, rfl⟩
theorem MS.vg {n : Int} {es : List (Int × Int)} {c : Int} {g : List (List Nat)} (h : MS n es c g) : VG g := by
  rcases h with ⟨h0, rfl, rfl⟩ | ⟨m, en, rfl, h1, rfl, h2, rfl, rfl⟩
  · exact vg_none (n := 0) (by omega)
  · exact edM_vg h1 h2
def MkU (n : Int) (es : List (Int × Int)) (w : World) (e : Ending) (w' : World) : Prop := ∃ v g c, e = .returned (.tuple #[v, .int .i64 c]) ∧ MS n es c g ∧ Gr nv w' v g ∧ Below w.heap.size w w'
theorem isnode_t {n x : Int} (h : 0 ≤ x ∧ x < n) (w : World) : Calls Try.prog 37 #[.int .i64 n, .int .i64 x] w fun e w' => e = .returned (.bool true) ∧ w = w' :=
  (isnode_any n x w).mono fun _ _ ⟨h1, h2⟩ => ⟨by rw [h1, decide_eq_true h], h2⟩
theorem isnode_f {n x : Int} (h : ¬ (0 ≤ x ∧ x < n)) (w : World) : Calls Try.prog 37 #[.int .i64 n, .int .i64 x] w fun e w' => e = .returned (.bool false) ∧ w = w' :=
  (isnode_any n x w).mono fun _ _ ⟨h1, h2⟩ => ⟨by rw [h1, decide_eq_false h], h2⟩
theorem good_next {n : Int} {es : List (Int × Int)} {k : Nat} (hk : k < es.length) (h : ∀ p ∈ es.take k, Good n p) (hg : Good n es[k]) : ∀ p ∈ es.take (k + 1), Good n p := fun p hp => by
  rcases (take_succ_mem hk p).1 hp with h1 | rfl
  · exact h p h1
  · exact hg
set_option maxRecDepth 20000 in
set_option maxHeartbeats 2000000 in
theorem make_u (n : Int) (v : Value) (es : List (Int × Int)) (w : World) (h : Prs w v es) (hl : es.length ≤ 10000) :
    Calls Try.prog 13 #[.int .i64 n, v] w (MkU n es w) := by
  obtain ⟨A, c, rfl⟩ := h.shape
  have H := Lib.hid h
  clear h
  by_cases h0 : n < 0
  · have Hno : Hid (¬ MkOk n es) := Lib.hid (fun h => by have := h.1; omega)
    go_enter Try.func13, Try.ntmps13
    go_wp2
    go_ret2
    exact ⟨_, [], 2, rfl, .inl ⟨Hno.out, rfl, rfl⟩, Gr.nil, Below.refl _ _⟩
  · by_cases h4 : 400 < n
    · have Hno : Hid (¬ MkOk n es) := Lib.hid (fun h => by have := h.2.1; omega)
      go_enter Try.func13, Try.ntmps13
      go_wp2
      go_ret2
      exact ⟨_, [], 2, rfl, .inl ⟨Hno.out, rfl, rfl⟩, Gr.nil, Below.refl _ _⟩
    · have d0 : decide (n < 0) = false := decide_eq_false h0
      have d4 : decide (400 < n) = false := decide_eq_false h4
      go_enter Try.func13, Try.ntmps13
      go_wp2
      go_loopw [16] (fun i wr => ∃ k : Nat, k ≤ es.length ∧ i = .int .i64 k ∧ Hid (∀ p ∈ es.take k, Good n p) ∧ Below w.heap.size w wr) (fun i _ => es.length - (intOf i).toNat)
      case atStart => exact ⟨0, Nat.zero_le _, rfl, Lib.hid (by simp), Below.refl _ _⟩
      case round =>
        obtain ⟨k, hk, rfl, hall, hbel⟩ := hrel
        have Hbel := Lib.hid hbel
        by_cases hlt : k < es.length
        · obtain ⟨ad, c', hs, hcap, hc1, hc2⟩ := prs_cell (H.out.below hbel) k hlt
          simp only [Value.slice.injEq, true_and] at hs
          obtain ⟨rfl, rfl⟩ := hs
          have Hgood := Lib.hid (fun h => good_next hlt hall.out h)
          have Hmem := Lib.hid (List.getElem_mem hlt)
          generalize es[k] = p at *
          obtain ⟨a, b⟩ := p
          dsimp only at hc1 hc2
          have Hb2 : Hid (Below w.heap.size w (wr.alloc (.cells #[.int .i64 a, .int .i64 b] 55))) := Lib.hid (hbel.alloc hbel.size _)
          clear hbel hall
          by_cases ha : 0 ≤ a ∧ a < n
          · have Ha := Lib.hid ha
            by_cases hb : 0 ≤ b ∧ b < n
            · have Hb := Lib.hid hb
              clear ha hb
              go_wp2_with fail
              refine (isnode_t Ha.out _).mono ?_
              rintro e w2 ⟨rfl, rfl⟩
              go_wp2_with fail
              refine (isnode_t Hb.out _).mono ?_
              rintro e w2 ⟨rfl, rfl⟩
              go_wp2
              go_roundw
              case rel => exact ⟨k + 1, by omega, by go_num, Lib.hid (Hgood.out ⟨Ha.out, Hb.out⟩), Hb2.out⟩
              case measure => simp [intOf]; omega
            · have Hb := Lib.hid hb
              have Hno : Hid (¬ MkOk n es) := Lib.hid (fun h => hb (h.2.2 _ Hmem.out).2)
              clear ha hb
              go_wp2_with fail
              refine (isnode_t Ha.out _).mono ?_
              rintro e w2 ⟨rfl, rfl⟩
              go_wp2_with fail
              refine (isnode_f Hb.out _).mono ?_
              rintro e w2 ⟨rfl, rfl⟩
              go_wp2
              go_ret2
              exact ⟨_, [], 2, rfl, .inl ⟨Hno.out, rfl, rfl⟩, Gr.nil, Hb2.out⟩
          · have Ha := Lib.hid ha
            have Hno : Hid (¬ MkOk n es) := Lib.hid (fun h => ha (h.2.2 _ Hmem.out).1)
            clear ha
            go_wp2_with fail
            refine (isnode_f Ha.out _).mono ?_
            rintro e w2 ⟨rfl, rfl⟩
            go_wp2
            go_ret2
            exact ⟨_, [], 2, rfl, .inl ⟨Hno.out, rfl, rfl⟩, Gr.nil, Hb2.out⟩
        · obtain rfl : k = es.length := by omega
          have hok : MkOk n es := ⟨by omega, by omega, fun p hp => hall.out p (by rwa [List.take_length])⟩
          obtain ⟨m, en, rfl, hm, rfl, hen⟩ := mk_nat hok
          have Hen := Lib.hid hen
          have hs := hbel.size
          rw [castP_len] at *
          clear hbel hall hok hen
          go_wp2_with fail
          refine (withedges_any m _ en _ (H.out.below Hbel.out) hm Hen.out (by omega)).mono ?_
          rintro e w2 ⟨A2, c2, rfl, hgr, hb⟩
          have Hgr := Lib.hid hgr
          have Hb := Lib.hid (Hbel.out.trans (hb.mono hs))
          clear hgr hb
          go_wp2
          go_ret2
          exact ⟨_, _, 0, rfl, .inr ⟨m, en, rfl, hm, rfl, Hen.out, rfl, rfl⟩, Hgr.out, Hb.out⟩
end Go.Proofs.Ytnhhhnhakpambaa
