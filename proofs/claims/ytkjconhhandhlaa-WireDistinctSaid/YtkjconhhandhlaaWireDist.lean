/- WireDistinct: for every input the law returns true. -/
import Derived.Test.YtkjconhhandhlaaWireInj
import Derived.Test.YtkjconhhandhlaaWireAwake
namespace Go.Proofs.Ytkjconhhandhlaa
open Go.RowKit

def NilPost (w : World) (ys : List Nat) (e : Ending) (w' : World) : Prop := ∃ v, e = .returned v ∧ Below w.heap.size w w' ∧ Bsl w' v ys
theorem enc_nil_post {w : World} {ys : List Nat} {e : Ending} {w' : World} (h : EncPost w w.heap.size 0 [] ys e w') : ∃ v, e = .returned v ∧ Below w.heap.size w w' ∧ Bsl w' v ys := by
  obtain ⟨v, rfl, hown, hf⟩ := h
  exact ⟨v, rfl, hf.below (Nat.le_refl _), Bsl.of_own (by simpa using hown)⟩
theorem int_nil_any (n : Int) (w : World) (hn : I64 n) : Calls Try.prog 12 #[.slice none 0 0, .int .i64 n] w fun e w' => ∃ v, e = .returned v ∧ Below w.heap.size w w' ∧ Bsl w' v (enc n) :=
  (int_own n w _ w.heap.size 0 [] (Nat.le_refl _) (World.ownsRow_nil _ _ _ _) hn (by unfold Room; decide)).mono fun _ _ h => enc_nil_post h
theorem text_nil_any (s : ByteArray) (w : World) (hs : s.size ≤ 200) : Calls Try.prog 14 #[.slice none 0 0, .string s] w fun e w' => ∃ v, e = .returned v ∧ Below w.heap.size w w' ∧ Bsl w' v (encS s) :=
  (text_own s w _ w.heap.size 0 [] (Nat.le_refl _) (World.ownsRow_nil _ _ _ _) (by unfold Room; decide) (by unfold Room; omega)).mono fun _ _ h => enc_nil_post h
theorem vals_nil_any (A : Option Addr) (c : Nat) (l : List Vl) (w : World) (hx : Vals w (.slice A l.length c) l) (hl : l.length ≤ 40) (hs : ∀ x ∈ l, x.2.2.size ≤ 200) (hok : ∀ x ∈ l, VlOk x) :
    Calls Try.prog 29 #[.slice none 0 0, .slice A l.length c] w fun e w' => ∃ v, e = .returned v ∧ Below w.heap.size w w' ∧ Bsl w' v (encVs l) :=
  (vals_own A c l w _ w.heap.size 0 [] (Nat.le_refl _) (World.ownsRow_nil _ _ _ _) (by decide) hl hs hok (fun _ hf => hx.below (hf.below (Nat.le_refl _)))).mono fun _ _ h => enc_nil_post h
theorem encF_byt (f : Nat) : ∀ u, u < 128 ^ (f + 1) → Byt (encF f u) := by
  induction f with
  | zero => intro u hu c hc; simp [encF] at hc; subst hc; simp at hu; omega
  | succ f ih =>
    intro u hu
    have hp : 128 ^ (f + 1 + 1) = 128 ^ (f + 1) * 128 := Nat.pow_succ _ _
    by_cases h : u < 128
    · rw [encF_small h]; intro c hc; simp at hc; omega
    · rw [encF_big (by omega)]
      intro c hc
      rcases List.mem_cons.1 hc with rfl | hc
      · omega
      · exact ih _ (Nat.div_lt_of_lt_mul (by rw [Nat.mul_comm, ← hp]; exact hu)) c hc
theorem byt_app {x y : List Nat} (hx : Byt x) (hy : Byt y) : Byt (x ++ y) := fun c hc => (List.mem_append.1 hc).elim (hx c) (hy c)
theorem bytesOf_byt (s : ByteArray) : Byt (bytesOf s) := by
  intro c hc
  obtain ⟨x, _, rfl⟩ := List.mem_map.1 hc
  exact x.toNat_lt
theorem enc_byt {n : Int} (h : I64 n) : Byt (enc n) := encF_byt 9 _ (Nat.lt_trans (zig_lt n h.1 h.2) (by decide))
theorem encS_byt {s : ByteArray} (h : s.size ≤ 9223372036854775807) : Byt (encS s) := byt_app (enc_byt (by unfold I64; omega)) (bytesOf_byt s)
theorem encVl_byt {x : Vl} (h : VlOk x) : Byt (encVl x) := by
  unfold encVl encV
  refine byt_app (enc_byt h.1) ?_
  split
  · exact enc_byt h.2.1
  · split
    · exact encS_byt h.2.2
    · intro c hc; cases hc
theorem encVs_byt {l : List Vl} (hl : l.length ≤ 9223372036854775807) (h : ∀ x ∈ l, VlOk x) : Byt (encVs l) := by
  refine byt_app (enc_byt (by unfold I64; omega)) ?_
  intro c hc
  obtain ⟨x, hx, hc⟩ := List.mem_flatMap.1 hc
  exact encVl_byt (h x hx) c hc
theorem heap_alloc_3 (w : World) (o p q : Obj) : (((w.alloc o).alloc p).alloc q).heap[w.heap.size]? = some o ∧ (((w.alloc o).alloc p).alloc q).heap[w.heap.size + 1]? = some p ∧ (((w.alloc o).alloc p).alloc q).heap[w.heap.size + 2]? = some q := by
  have h := heap_alloc_new ((w.alloc o).alloc p) q
  rw [show ((w.alloc o).alloc p).heap.size = w.heap.size + 2 by simp] at h
  exact ⟨(Below.heap_alloc _ _ _ (by simp; omega)).trans (heap_alloc_2 w o p), (Below.heap_alloc _ _ _ (by simp)).trans (heap_alloc_2' w o p), h⟩

section
variable (n0 n1 : Int) (s0 s1 : ByteArray) (A A2 : Option Addr) (c c2 : Nat) (l m : List Vl) (w : World)

set_option maxHeartbeats 4000000 in
theorem distinct_main (hn0 : I64 n0) (hn1 : I64 n1) (hs0 : s0.size ≤ 200) (hs1 : s1.size ≤ 200) (hx : Vals w (.slice A l.length c) l) (hy : Vals w (.slice A2 m.length c2) m)
    (hl : l.length ≤ 40) (hm : m.length ≤ 40) (hls : ∀ x ∈ l, x.2.2.size ≤ 200) (hms : ∀ x ∈ m, x.2.2.size ≤ 200) (hlo : ∀ x ∈ l, VlOk x) (hmo : ∀ x ∈ m, VlOk x) :
    Calls Try.prog 6 #[.agg #[.int .i64 n0, .int .i64 n1], .agg #[.string s0, .string s1], .agg #[.slice A l.length c, .slice A2 m.length c2]] w (Ok w) := by
  have Hn0 := Lib.hid hn0; have Hn1 := Lib.hid hn1; have Hs0 := Lib.hid hs0; have Hs1 := Lib.hid hs1
  have Hx := Lib.hid hx; have Hy := Lib.hid hy; have Hl := Lib.hid hl; have Hm := Lib.hid hm
  have Hls := Lib.hid hls; have Hms := Lib.hid hms; have Hlo := Lib.hid hlo; have Hmo := Lib.hid hmo
  have few0 : true = fewB l := by rw [few_good hls]; simp [hl]
  have few1 : true = fewB m := by rw [few_good hms]; simp [hm]
  have Hf0 := Lib.hid few0; have Hf1 := Lib.hid few1
  obtain ⟨q1, hq1⟩ : ∃ q, q = decide (enc n0 = enc n1) := ⟨_, rfl⟩
  have Hq1e := Lib.hid (show (n0 == n1) = q1 by rw [hq1]; simp only [enc_inj hn0 hn1]; rfl)
  have Hq1 := Lib.hid hq1
  obtain ⟨q2, hq2⟩ : ∃ q, q = decide (encS s0 = encS s1) := ⟨_, rfl⟩
  have Hq2e := Lib.hid (show (s0.toList == s1.toList) = q2 by rw [hq2, str_beq]; simp only [encS_inj (by omega : s0.size ≤ 9223372036854775807) (by omega : s1.size ≤ 9223372036854775807)])
  have Hq2 := Lib.hid hq2
  have z0 : decide ((200 : Int) < (s0.size : Int)) = false := by simp; omega
  have z1 : decide ((200 : Int) < (s1.size : Int)) = false := by simp; omega
  clear hn0 hn1 hx hy hls hms hlo hmo few0 few1 hq1 hq2
  go_enter Try.func6, Try.ntmps6
  go_wp2_with fail
  refine (awake_any _).mono ?_
  rintro e w1 ⟨rfl, hb1⟩
  obtain ⟨p0, p1, p2⟩ := heap_alloc_3 w (.cells #[.int .i64 n0, .int .i64 n1] 55) (.cells #[.string s0, .string s1] 56) (.cells #[.slice A l.length c, .slice A2 m.length c2] 57)
  have P0 := Lib.hid ((hb1.block w.heap.size (by simp <;> omega)).trans p0)
  have P1 := Lib.hid ((hb1.block (w.heap.size + 1) (by simp <;> omega)).trans p1)
  have P2 := Lib.hid ((hb1.block (w.heap.size + 2) (by simp <;> omega)).trans p2)
  have hb1' : Below w.heap.size w w1 := ((((Below.refl _ w).alloc (Nat.le_refl _) _).alloc (by simp) _).alloc (by simp; omega) _).trans (hb1.mono (by simp; omega))
  have Hb1 := Lib.hid hb1'
  have C0 := Lib.hid (show ∀ w', Below w1.heap.size w1 w' → w'.cell? ⟨w.heap.size, 0, none⟩ = some (.int .i64 n0) from fun w' h => cell_of_row w' _ 0 _ _ _ ((h.block _ (lt_of_some P0.out)).trans P0.out))
  have C1 := Lib.hid (show ∀ w', Below w1.heap.size w1 w' → w'.cell? ⟨w.heap.size, 1, none⟩ = some (.int .i64 n1) from fun w' h => cell_of_row w' _ 1 _ _ _ ((h.block _ (lt_of_some P0.out)).trans P0.out))
  have D0 := Lib.hid (show ∀ w', Below w1.heap.size w1 w' → w'.cell? ⟨w.heap.size + 1, 0, none⟩ = some (.string s0) from fun w' h => cell_of_row w' _ 0 _ _ _ ((h.block _ (lt_of_some P1.out)).trans P1.out))
  have D1 := Lib.hid (show ∀ w', Below w1.heap.size w1 w' → w'.cell? ⟨w.heap.size + 1, 1, none⟩ = some (.string s1) from fun w' h => cell_of_row w' _ 1 _ _ _ ((h.block _ (lt_of_some P1.out)).trans P1.out))
  have E0 := Lib.hid (show ∀ w', Below w1.heap.size w1 w' → w'.cell? ⟨w.heap.size + 1 + 1, 0, none⟩ = some (.slice A l.length c) from fun w' h => cell_of_row w' _ 0 _ _ _ ((h.block _ (lt_of_some P2.out)).trans P2.out))
  have E1 := Lib.hid (show ∀ w', Below w1.heap.size w1 w' → w'.cell? ⟨w.heap.size + 1 + 1, 1, none⟩ = some (.slice A2 m.length c2) from fun w' h => cell_of_row w' _ 1 _ _ _ ((h.block _ (lt_of_some P2.out)).trans P2.out))
  have F0 := Lib.hid (show ∀ w', Below w1.heap.size w1 w' → Vals w' (.slice A l.length c) l from fun w' h => (Hx.out.below Hb1.out).below h)
  have F1 := Lib.hid (show ∀ w', Below w1.heap.size w1 w' → Vals w' (.slice A2 m.length c2) m from fun w' h => (Hy.out.below Hb1.out).below h)
  have c_d0 := D0.out w1 (Below.refl _ _)
  have c_d1 := D1.out w1 (Below.refl _ _)
  have c_e0 := E0.out w1 (Below.refl _ _)
  have c_e1 := E1.out w1 (Below.refl _ _)
  clear hb1 hb1' p0 p1 p2
  go_wp2_with fail
  refine (fewvalues_any A c l _ (F0.out _ (Below.refl _ _)) (by omega) true Hf0.out).mono ?_
  rintro e w2 ⟨rfl, rfl⟩
  go_wp2_with fail
  refine (fewvalues_any A2 c2 m _ (F1.out _ (Below.refl _ _)) (by omega) true Hf1.out).mono ?_
  rintro e w2 ⟨rfl, rfl⟩
  clear c_d0 c_d1 c_e0 c_e1
  go_wp2_with fail
  refine region_phi (n := 94) (fun i v w' => match i with
        | 0 => v = .pointer (some ⟨w.heap.size, 0, none⟩)
        | 1 => v = .int .i64 n0
        | 2 => Bsl w' v (enc n0)
        | 3 => v = .pointer (some ⟨w.heap.size, 1, none⟩)
        | 4 => v = .int .i64 n1
        | 5 => Bsl w' v (enc n1)
        | 6 => v = .bool q1
        | 7 => v = .pointer (some ⟨w.heap.size, 0, none⟩)
        | 8 => v = .int .i64 n0
        | 9 => v = .pointer (some ⟨w.heap.size, 1, none⟩)
        | 10 => v = .int .i64 n1
        | 11 => v = .bool q1
        | 12 => v = .bool false
        | 13 => v = .bool false
        | 14 => v = .pointer (some ⟨w.heap.size + 1, 0, none⟩)
        | 15 => v = .string s0
        | 16 => Bsl w' v (encS s0)
        | 17 => v = .pointer (some ⟨w.heap.size + 1, 1, none⟩)
        | 18 => v = .string s1
        | 19 => Bsl w' v (encS s1)
        | 20 => v = .bool q2
        | 21 => v = .pointer (some ⟨w.heap.size + 1, 0, none⟩)
        | 22 => v = .string s0
        | 23 => v = .pointer (some ⟨w.heap.size + 1, 1, none⟩)
        | 24 => v = .string s1
        | 25 => v = .bool q2
        | 26 => v = .bool false
        | 27 => v = .bool false
        | _ => True) (by kernel_rfl) (by kernel_rfl) rfl ?_ (allOps_spec ?_) ?_
  · intro i v w w' h hb
    match i, h with
    | 0, h => exact h
    | 1, h => exact h
    | 2, h => exact h.below hb
    | 3, h => exact h
    | 4, h => exact h
    | 5, h => exact h.below hb
    | 6, h => exact h
    | 7, h => exact h
    | 8, h => exact h
    | 9, h => exact h
    | 10, h => exact h
    | 11, h => exact h
    | 12, h => exact h
    | 13, h => exact h
    | 14, h => exact h
    | 15, h => exact h
    | 16, h => exact h.below hb
    | 17, h => exact h
    | 18, h => exact h
    | 19, h => exact h.below hb
    | 20, h => exact h
    | 21, h => exact h
    | 22, h => exact h
    | 23, h => exact h
    | 24, h => exact h
    | 25, h => exact h
    | 26, h => exact h
    | 27, h => exact h
    | _ + 28, _ => trivial
  · refine ⟨?_, ?_, ?_, ?_, ?_, ?_, ?_, ?_, ?_, ?_, ?_, ?_, ?_, ?_, ?_, ?_, ?_, ?_, ?_, ?_, ?_, ?_, ?_, ?_, ?_, ?_, ?_, ?_, trivial⟩
    · intro a w' hb hp
      have b3 : a.tmps[3]?.getD undef = .pointer (some ⟨w.heap.size, 0, none⟩) := hb.at 3 (by kernel_rfl)
      exact step_run (v := .pointer (some ⟨w.heap.size, 0, none⟩)) rfl (by go_simp) rfl
    · intro a w' hb hp
      have h33 : a.tmps[33]?.getD undef = .pointer (some ⟨w.heap.size, 0, none⟩) := slot_eq.symm.trans (hp ⟨0, .data⟩ (by simp) rfl _ rfl)
      have kc := C0.out _ hb.ext
      exact step_run (v := .int .i64 n0) rfl (by go_simp) rfl
    · intro a w' hb hp
      have h34 : a.tmps[34]?.getD undef = .int .i64 n0 := slot_eq.symm.trans (hp ⟨1, .data⟩ (by simp) rfl _ rfl)
      refine step_call (f := 12) (args := #[.slice none 0 0, .int .i64 n0]) rfl (by simp [go_sem, h34]) ?_
      exact int_nil_any n0 w' Hn0.out
    · intro a w' hb hp
      have b3 : a.tmps[3]?.getD undef = .pointer (some ⟨w.heap.size, 0, none⟩) := hb.at 3 (by kernel_rfl)
      exact step_run (v := .pointer (some ⟨w.heap.size, 1, none⟩)) rfl (by go_simp) rfl
    · intro a w' hb hp
      have h36 : a.tmps[36]?.getD undef = .pointer (some ⟨w.heap.size, 1, none⟩) := slot_eq.symm.trans (hp ⟨3, .data⟩ (by simp) rfl _ rfl)
      have kc := C1.out _ hb.ext
      exact step_run (v := .int .i64 n1) rfl (by go_simp) rfl
    · intro a w' hb hp
      have h37 : a.tmps[37]?.getD undef = .int .i64 n1 := slot_eq.symm.trans (hp ⟨4, .data⟩ (by simp) rfl _ rfl)
      refine step_call (f := 12) (args := #[.slice none 0 0, .int .i64 n1]) rfl (by simp [go_sem, h37]) ?_
      exact int_nil_any n1 w' Hn1.out
    · intro a w' hb hp
      have hA : Bsl w' (slotOf a (some 35)) (enc n0) := hp ⟨2, .data⟩ (by simp) rfl _ rfl
      have hB : Bsl w' (slotOf a (some 38)) (enc n1) := hp ⟨5, .data⟩ (by simp) rfl _ rfl
      rw [slot_eq] at hA hB
      refine step_call (f := 27) (args := #[a.tmps[35]?.getD undef, a.tmps[38]?.getD undef]) rfl (by simp [go_sem]) ?_
      refine (same_any _ _ (enc n0) (enc n1) _ hA hB (enc_byt Hn0.out) (enc_byt Hn1.out) q1 Hq1.out).mono ?_
      rintro e w4 ⟨rfl, rfl⟩
      exact ⟨_, rfl, Below.refl _ _, rfl⟩
    · intro a w' hb hp
      have b3 : a.tmps[3]?.getD undef = .pointer (some ⟨w.heap.size, 0, none⟩) := hb.at 3 (by kernel_rfl)
      exact step_run (v := .pointer (some ⟨w.heap.size, 0, none⟩)) rfl (by go_simp) rfl
    · intro a w' hb hp
      have h40 : a.tmps[40]?.getD undef = .pointer (some ⟨w.heap.size, 0, none⟩) := slot_eq.symm.trans (hp ⟨7, .data⟩ (by simp) rfl _ rfl)
      have kc := C0.out _ hb.ext
      exact step_run (v := .int .i64 n0) rfl (by go_simp) rfl
    · intro a w' hb hp
      have b3 : a.tmps[3]?.getD undef = .pointer (some ⟨w.heap.size, 0, none⟩) := hb.at 3 (by kernel_rfl)
      exact step_run (v := .pointer (some ⟨w.heap.size, 1, none⟩)) rfl (by go_simp) rfl
    · intro a w' hb hp
      have h42 : a.tmps[42]?.getD undef = .pointer (some ⟨w.heap.size, 1, none⟩) := slot_eq.symm.trans (hp ⟨9, .data⟩ (by simp) rfl _ rfl)
      have kc := C1.out _ hb.ext
      exact step_run (v := .int .i64 n1) rfl (by go_simp) rfl
    · intro a w' hb hp
      have h41 : a.tmps[41]?.getD undef = .int .i64 n0 := slot_eq.symm.trans (hp ⟨8, .data⟩ (by simp) rfl _ rfl)
      have h43 : a.tmps[43]?.getD undef = .int .i64 n1 := slot_eq.symm.trans (hp ⟨10, .data⟩ (by simp) rfl _ rfl)
      have kq := Hq1e.out
      exact step_run (v := .bool q1) rfl (by go_simp) rfl
    · intro a w' hb hp
      have h39 : a.tmps[39]?.getD undef = .bool q1 := slot_eq.symm.trans (hp ⟨6, .data⟩ (by simp) rfl _ rfl)
      have h44 : a.tmps[44]?.getD undef = .bool q1 := slot_eq.symm.trans (hp ⟨11, .data⟩ (by simp) rfl _ rfl)
      exact step_run (v := .bool false) rfl (by go_simp) rfl
    · intro a w' hb hp
      have h45 : a.tmps[45]?.getD undef = .bool false := slot_eq.symm.trans (hp ⟨12, .data⟩ (by simp) rfl _ rfl)
      exact step_run (v := .bool false) rfl (by simp [execOp, Act.eval, h45]) rfl
    · intro a w' hb hp
      have b4 : a.tmps[4]?.getD undef = .pointer (some ⟨w.heap.size + 1, 0, none⟩) := hb.at 4 (by kernel_rfl)
      have g46 : a.tmps[46]?.getD undef = .bool false := slot_eq.symm.trans (hp ⟨13, .guard⟩ (by simp) rfl _ rfl)
      exact step_run (v := .pointer (some ⟨w.heap.size + 1, 0, none⟩)) (by simp [Region.wanted, yielded, bool_at g46]) (by go_simp) rfl
    · intro a w' hb hp
      have h47 : a.tmps[47]?.getD undef = .pointer (some ⟨w.heap.size + 1, 0, none⟩) := slot_eq.symm.trans (hp ⟨14, .data⟩ (by simp) rfl _ rfl)
      have g46 : a.tmps[46]?.getD undef = .bool false := slot_eq.symm.trans (hp ⟨13, .guard⟩ (by simp) rfl _ rfl)
      have kc := D0.out _ hb.ext
      exact step_run (v := .string s0) (by simp [Region.wanted, yielded, bool_at g46]) (by go_simp) rfl
    · intro a w' hb hp
      have h48 : a.tmps[48]?.getD undef = .string s0 := slot_eq.symm.trans (hp ⟨15, .data⟩ (by simp) rfl _ rfl)
      have g46 : a.tmps[46]?.getD undef = .bool false := slot_eq.symm.trans (hp ⟨13, .guard⟩ (by simp) rfl _ rfl)
      refine step_call (f := 14) (args := #[.slice none 0 0, .string s0]) (by simp [Region.wanted, yielded, bool_at g46]) (by simp [go_sem, h48]) ?_
      exact text_nil_any s0 w' Hs0.out
    · intro a w' hb hp
      have b4 : a.tmps[4]?.getD undef = .pointer (some ⟨w.heap.size + 1, 0, none⟩) := hb.at 4 (by kernel_rfl)
      have g46 : a.tmps[46]?.getD undef = .bool false := slot_eq.symm.trans (hp ⟨13, .guard⟩ (by simp) rfl _ rfl)
      exact step_run (v := .pointer (some ⟨w.heap.size + 1, 1, none⟩)) (by simp [Region.wanted, yielded, bool_at g46]) (by go_simp) rfl
    · intro a w' hb hp
      have h50 : a.tmps[50]?.getD undef = .pointer (some ⟨w.heap.size + 1, 1, none⟩) := slot_eq.symm.trans (hp ⟨17, .data⟩ (by simp) rfl _ rfl)
      have g46 : a.tmps[46]?.getD undef = .bool false := slot_eq.symm.trans (hp ⟨13, .guard⟩ (by simp) rfl _ rfl)
      have kc := D1.out _ hb.ext
      exact step_run (v := .string s1) (by simp [Region.wanted, yielded, bool_at g46]) (by go_simp) rfl
    · intro a w' hb hp
      have h51 : a.tmps[51]?.getD undef = .string s1 := slot_eq.symm.trans (hp ⟨18, .data⟩ (by simp) rfl _ rfl)
      have g46 : a.tmps[46]?.getD undef = .bool false := slot_eq.symm.trans (hp ⟨13, .guard⟩ (by simp) rfl _ rfl)
      refine step_call (f := 14) (args := #[.slice none 0 0, .string s1]) (by simp [Region.wanted, yielded, bool_at g46]) (by simp [go_sem, h51]) ?_
      exact text_nil_any s1 w' Hs1.out
    · intro a w' hb hp
      have g46 : a.tmps[46]?.getD undef = .bool false := slot_eq.symm.trans (hp ⟨13, .guard⟩ (by simp) rfl _ rfl)
      have hA : Bsl w' (slotOf a (some 49)) (encS s0) := hp ⟨16, .data⟩ (by simp) rfl _ rfl
      have hB : Bsl w' (slotOf a (some 52)) (encS s1) := hp ⟨19, .data⟩ (by simp) rfl _ rfl
      rw [slot_eq] at hA hB
      refine step_call (f := 27) (args := #[a.tmps[49]?.getD undef, a.tmps[52]?.getD undef]) (by simp [Region.wanted, yielded, bool_at g46]) (by simp [go_sem]) ?_
      refine (same_any _ _ (encS s0) (encS s1) _ hA hB (encS_byt (by have := Hs0.out; omega)) (encS_byt (by have := Hs1.out; omega)) q2 Hq2.out).mono ?_
      rintro e w4 ⟨rfl, rfl⟩
      exact ⟨_, rfl, Below.refl _ _, rfl⟩
    · intro a w' hb hp
      have b4 : a.tmps[4]?.getD undef = .pointer (some ⟨w.heap.size + 1, 0, none⟩) := hb.at 4 (by kernel_rfl)
      have g46 : a.tmps[46]?.getD undef = .bool false := slot_eq.symm.trans (hp ⟨13, .guard⟩ (by simp) rfl _ rfl)
      exact step_run (v := .pointer (some ⟨w.heap.size + 1, 0, none⟩)) (by simp [Region.wanted, yielded, bool_at g46]) (by go_simp) rfl
    · intro a w' hb hp
      have h54 : a.tmps[54]?.getD undef = .pointer (some ⟨w.heap.size + 1, 0, none⟩) := slot_eq.symm.trans (hp ⟨21, .data⟩ (by simp) rfl _ rfl)
      have g46 : a.tmps[46]?.getD undef = .bool false := slot_eq.symm.trans (hp ⟨13, .guard⟩ (by simp) rfl _ rfl)
      have kc := D0.out _ hb.ext
      exact step_run (v := .string s0) (by simp [Region.wanted, yielded, bool_at g46]) (by go_simp) rfl
    · intro a w' hb hp
      have b4 : a.tmps[4]?.getD undef = .pointer (some ⟨w.heap.size + 1, 0, none⟩) := hb.at 4 (by kernel_rfl)
      have g46 : a.tmps[46]?.getD undef = .bool false := slot_eq.symm.trans (hp ⟨13, .guard⟩ (by simp) rfl _ rfl)
      exact step_run (v := .pointer (some ⟨w.heap.size + 1, 1, none⟩)) (by simp [Region.wanted, yielded, bool_at g46]) (by go_simp) rfl
    · intro a w' hb hp
      have h56 : a.tmps[56]?.getD undef = .pointer (some ⟨w.heap.size + 1, 1, none⟩) := slot_eq.symm.trans (hp ⟨23, .data⟩ (by simp) rfl _ rfl)
      have g46 : a.tmps[46]?.getD undef = .bool false := slot_eq.symm.trans (hp ⟨13, .guard⟩ (by simp) rfl _ rfl)
      have kc := D1.out _ hb.ext
      exact step_run (v := .string s1) (by simp [Region.wanted, yielded, bool_at g46]) (by go_simp) rfl
    · intro a w' hb hp
      have h55 : a.tmps[55]?.getD undef = .string s0 := slot_eq.symm.trans (hp ⟨22, .data⟩ (by simp) rfl _ rfl)
      have h57 : a.tmps[57]?.getD undef = .string s1 := slot_eq.symm.trans (hp ⟨24, .data⟩ (by simp) rfl _ rfl)
      have g46 : a.tmps[46]?.getD undef = .bool false := slot_eq.symm.trans (hp ⟨13, .guard⟩ (by simp) rfl _ rfl)
      have kq := Hq2e.out
      exact step_run (v := .bool q2) (by simp [Region.wanted, yielded, bool_at g46]) (by go_simp) rfl
    · intro a w' hb hp
      have h53 : a.tmps[53]?.getD undef = .bool q2 := slot_eq.symm.trans (hp ⟨20, .data⟩ (by simp) rfl _ rfl)
      have h58 : a.tmps[58]?.getD undef = .bool q2 := slot_eq.symm.trans (hp ⟨25, .data⟩ (by simp) rfl _ rfl)
      have g46 : a.tmps[46]?.getD undef = .bool false := slot_eq.symm.trans (hp ⟨13, .guard⟩ (by simp) rfl _ rfl)
      exact step_run (v := .bool false) (by simp [Region.wanted, yielded, bool_at g46]) (by go_simp) rfl
    · intro a w' hb hp
      have h46 : a.tmps[46]?.getD undef = .bool false := slot_eq.symm.trans (hp ⟨13, .data⟩ (by simp) rfl _ rfl)
      have h59 : a.tmps[59]?.getD undef = .bool false := slot_eq.symm.trans (hp ⟨26, .data⟩ (by simp) rfl _ rfl)
      exact step_run (v := .bool false) rfl (by simp [execOp, go_sem, h46, h59]) rfl
  · intro vs w2 hb2 hv
    have h27 : vs 27 = .bool false := hv 27 (by decide)
    simp only [putAll, Act.put, List.setIfInBounds_toArray, List.set_cons_zero, List.set_cons_succ, Nat.zero_add, Nat.reduceAdd, h27]
    clear hv h27
    have Hb2 := Lib.hid hb2; clear hb2
    go_wp2_with fail
    go_loopw [7] (fun i wr => ∃ j : Nat, j ≤ 2 ∧ i = .int .i64 j ∧ (1 ≤ j → ∀ x ∈ l, propB x = true) ∧ (2 ≤ j → ∀ x ∈ m, propB x = true) ∧ Below w1.heap.size w1 wr) (fun i _ => 2 - (intOf i).toNat)
    case atStart => exact ⟨0, by omega, rfl, fun h => by omega, fun h => by omega, Hb2.out⟩
    case round =>
      obtain ⟨j, hj, rfl, hp0, hp1, hbel⟩ := hrel
      have Hp0 := Lib.hid hp0; have Hp1 := Lib.hid hp1; have Hbel := Lib.hid hbel
      clear hp0 hp1 hbel
      by_cases hlt : j < 2
      · obtain ⟨Ak, ck, lk, hcell, hvals, hlk, hprop⟩ : ∃ Ak ck lk, (∀ w', Below w1.heap.size w1 w' → w'.cell? ⟨w.heap.size + 1 + 1, j, none⟩ = some (.slice Ak lk.length ck)) ∧ (∀ w', Below w1.heap.size w1 w' → Vals w' (.slice Ak lk.length ck) lk) ∧ lk.length ≤ 40 ∧
            ((∀ x ∈ lk, propB x = true) → (1 ≤ j + 1 → ∀ x ∈ l, propB x = true) ∧ (2 ≤ j + 1 → ∀ x ∈ m, propB x = true)) := by
          by_cases h0 : j = 0
          · subst h0
            exact ⟨A, c, l, E0.out, F0.out, Hl.out, fun h => ⟨fun _ => h, fun h2 => by omega⟩⟩
          · obtain rfl : j = 1 := by omega
            exact ⟨A2, c2, m, E1.out, F1.out, Hm.out, fun h => ⟨fun _ => Hp0.out (by omega), fun _ => h⟩⟩
        have Hcell := Lib.hid hcell; have Hvals := Lib.hid hvals; have Hprop := Lib.hid hprop
        clear hcell hvals hprop
        obtain ⟨wo, hwo⟩ : ∃ wo : World, wo = wr := ⟨_, rfl⟩
        subst hwo
        have tj : decide ((j : Int) < 2) = true := by simp; omega
        go_wp2_with fail
        go_loopw [8] (fun i wi => ∃ k : Nat, k ≤ lk.length ∧ i = .int .i64 k ∧ (∀ x ∈ lk.take k, propB x = true) ∧ Below w1.heap.size w1 wi) (fun i _ => lk.length - (intOf i).toNat)
        case atStart => exact ⟨0, by omega, rfl, by simp, Hbel.out⟩
        case round =>
          obtain ⟨k, hk, rfl, hpk, hbel⟩ := hrel
          have Hpk := Lib.hid hpk; have Hbi := Lib.hid hbel; clear hpk hbel
          have hce := Hcell.out _ Hbi.out
          by_cases hlt2 : k < lk.length
          · rcases Hvals.out _ Hbi.out with ⟨_, h0⟩ | ⟨ad, c', hv, hc, hcells⟩
            · rw [h0] at hlt2; simp at hlt2
            simp only [Value.slice.injEq] at hv
            obtain ⟨rfl, _, rfl⟩ := hv
            obtain ⟨h1, h2, h3⟩ := hcells k _ (List.getElem?_eq_getElem hlt2)
            obtain ⟨⟨x0, x1, x2⟩, hx⟩ : ∃ x, x = lk[k] := ⟨_, rfl⟩
            rw [← hx] at h1 h2 h3
            have HX := Lib.hid hx; clear hx hcells
            simp only at h1 h2 h3
            cases hpb : propB (x0, x1, x2) with
            | true =>
              have Hpb := Lib.hid hpb.symm; clear hpb
              go_wp2_with fail
              refine (proper_any x0 x1 x2 _ true Hpb.out).mono ?_
              rintro e w4 ⟨rfl, hb4⟩
              have Hb4 := Lib.hid (below_ext2 Hbi.out hb4); clear hb4
              go_wp2_with fail
              go_roundw
              case rel =>
                refine ⟨k + 1, by omega, by go_num, ?_, Hb4.out⟩
                intro y hy
                rw [List.take_succ_eq_append_getElem hlt2, List.mem_append, List.mem_singleton] at hy
                rcases hy with hy | rfl
                · exact Hpk.out y hy
                · rw [← HX.out]; exact Hpb.out.symm
              case measure => simp [intOf]; omega
            | false =>
              have Hpb := Lib.hid hpb.symm; clear hpb
              go_wp2_with fail
              refine (proper_any x0 x1 x2 _ false Hpb.out).mono ?_
              rintro e w4 ⟨rfl, hb4⟩
              have Hb4 := Lib.hid (below_ext2 Hb1.out (below_ext2 Hbi.out hb4)); clear hb4
              go_wp2_with fail
              go_ret
              exact ⟨rfl, Hb4.out⟩
          · have hall := Hprop.out (by have h := Hpk.out; rwa [List.take_of_length_le (by omega)] at h)
            have Hall := Lib.hid hall; clear hall
            go_wp2_with fail
            go_roundw
            case rel => exact ⟨j + 1, by omega, by go_num, Hall.out.1, Hall.out.2, Hbi.out⟩
            case measure => simp [intOf]; omega
      · have hp0 := Hp0.out (by omega)
        have hp1 := Hp1.out (by omega)
        obtain ⟨q3, hq3⟩ : ∃ q, q = decide (encVs l = encVs m) := ⟨_, rfl⟩
        have Hq3e := Lib.hid (show q3 = decide (l = m) by
          rw [hq3]
          exact decide_eq_decide.2 (encVs_inj (by have := Hl.out; omega) (by have := Hm.out; omega) (fun x hx => ⟨Hlo.out x hx, hp0 x hx⟩) (fun x hx => ⟨Hmo.out x hx, hp1 x hx⟩)))
        have Hq3 := Lib.hid hq3
        clear hp0 hp1 hq3
        obtain ⟨wo, hwo⟩ : ∃ wo : World, wo = wr := ⟨_, rfl⟩
        subst hwo
        have Hend0 := Lib.hid (below_ext2 Hb1.out Hbel.out)
        have shift : ∀ {w'}, Below wo.heap.size wo w' → Below w1.heap.size w1 w' := fun h => below_ext2 Hbel.out h
        have E0' := Lib.hid (fun w' h => E0.out w' (shift h)); have E1' := Lib.hid (fun w' h => E1.out w' (shift h))
        have F0' := Lib.hid (fun w' h => F0.out w' (shift h)); have F1' := Lib.hid (fun w' h => F1.out w' (shift h))
        clear shift
        go_wp2_with fail
        refine region_phi (n := 94) (fun i v w' => match i with
              | 0 => v = .pointer (some ⟨w.heap.size + 1 + 1, 0, none⟩)
              | 1 => v = .slice A l.length c
              | 2 => Bsl w' v (encVs l)
              | 3 => v = .pointer (some ⟨w.heap.size + 1 + 1, 1, none⟩)
              | 4 => v = .slice A2 m.length c2
              | 5 => Bsl w' v (encVs m)
              | 6 => v = .bool q3
              | 7 => v = .pointer (some ⟨w.heap.size + 1 + 1, 0, none⟩)
              | 8 => v = .slice A l.length c
              | 9 => v = .pointer (some ⟨w.heap.size + 1 + 1, 1, none⟩)
              | 10 => v = .slice A2 m.length c2
              | 11 => v = .bool q3
              | 12 => v = .bool true
              | 13 => v = .bool true
              | _ => True) (by kernel_rfl) (by kernel_rfl) rfl ?_ (allOps_spec ?_) ?_
        · intro i v w w' h hb
          match i, h with
          | 0, h => exact h
          | 1, h => exact h
          | 2, h => exact h.below hb
          | 3, h => exact h
          | 4, h => exact h
          | 5, h => exact h.below hb
          | 6, h => exact h
          | 7, h => exact h
          | 8, h => exact h
          | 9, h => exact h
          | 10, h => exact h
          | 11, h => exact h
          | 12, h => exact h
          | 13, h => exact h
          | _ + 14, _ => trivial
        · refine ⟨?_, ?_, ?_, ?_, ?_, ?_, ?_, ?_, ?_, ?_, ?_, ?_, ?_, ?_, trivial⟩
          · intro a w' hb hp
            have b5 : a.tmps[5]?.getD undef = .pointer (some ⟨w.heap.size + 1 + 1, 0, none⟩) := hb.at 5 (by kernel_rfl)
            exact step_run (v := .pointer (some ⟨w.heap.size + 1 + 1, 0, none⟩)) rfl (by go_simp) rfl
          · intro a w' hb hp
            have h81 : a.tmps[81]?.getD undef = .pointer (some ⟨w.heap.size + 1 + 1, 0, none⟩) := slot_eq.symm.trans (hp ⟨0, .data⟩ (by simp) rfl _ rfl)
            have kc := E0'.out _ hb.ext
            exact step_run (v := .slice A l.length c) rfl (by go_simp) rfl
          · intro a w' hb hp
            have h82 : a.tmps[82]?.getD undef = .slice A l.length c := slot_eq.symm.trans (hp ⟨1, .data⟩ (by simp) rfl _ rfl)
            refine step_call (f := 29) (args := #[.slice none 0 0, .slice A l.length c]) rfl (by simp [go_sem, h82]) ?_
            exact vals_nil_any A c l w' (F0'.out _ hb.ext) Hl.out Hls.out Hlo.out
          · intro a w' hb hp
            have b5 : a.tmps[5]?.getD undef = .pointer (some ⟨w.heap.size + 1 + 1, 0, none⟩) := hb.at 5 (by kernel_rfl)
            exact step_run (v := .pointer (some ⟨w.heap.size + 1 + 1, 1, none⟩)) rfl (by go_simp) rfl
          · intro a w' hb hp
            have h84 : a.tmps[84]?.getD undef = .pointer (some ⟨w.heap.size + 1 + 1, 1, none⟩) := slot_eq.symm.trans (hp ⟨3, .data⟩ (by simp) rfl _ rfl)
            have kc := E1'.out _ hb.ext
            exact step_run (v := .slice A2 m.length c2) rfl (by go_simp) rfl
          · intro a w' hb hp
            have h85 : a.tmps[85]?.getD undef = .slice A2 m.length c2 := slot_eq.symm.trans (hp ⟨4, .data⟩ (by simp) rfl _ rfl)
            refine step_call (f := 29) (args := #[.slice none 0 0, .slice A2 m.length c2]) rfl (by simp [go_sem, h85]) ?_
            exact vals_nil_any A2 c2 m w' (F1'.out _ hb.ext) Hm.out Hms.out Hmo.out
          · intro a w' hb hp
            have hA : Bsl w' (slotOf a (some 83)) (encVs l) := hp ⟨2, .data⟩ (by simp) rfl _ rfl
            have hB : Bsl w' (slotOf a (some 86)) (encVs m) := hp ⟨5, .data⟩ (by simp) rfl _ rfl
            rw [slot_eq] at hA hB
            refine step_call (f := 27) (args := #[a.tmps[83]?.getD undef, a.tmps[86]?.getD undef]) rfl (by simp [go_sem]) ?_
            refine (same_any _ _ (encVs l) (encVs m) _ hA hB (encVs_byt (by have := Hl.out; omega) Hlo.out) (encVs_byt (by have := Hm.out; omega) Hmo.out) q3 Hq3.out).mono ?_
            rintro e w4 ⟨rfl, rfl⟩
            exact ⟨_, rfl, Below.refl _ _, rfl⟩
          · intro a w' hb hp
            have b5 : a.tmps[5]?.getD undef = .pointer (some ⟨w.heap.size + 1 + 1, 0, none⟩) := hb.at 5 (by kernel_rfl)
            exact step_run (v := .pointer (some ⟨w.heap.size + 1 + 1, 0, none⟩)) rfl (by go_simp) rfl
          · intro a w' hb hp
            have h88 : a.tmps[88]?.getD undef = .pointer (some ⟨w.heap.size + 1 + 1, 0, none⟩) := slot_eq.symm.trans (hp ⟨7, .data⟩ (by simp) rfl _ rfl)
            have kc := E0'.out _ hb.ext
            exact step_run (v := .slice A l.length c) rfl (by go_simp) rfl
          · intro a w' hb hp
            have b5 : a.tmps[5]?.getD undef = .pointer (some ⟨w.heap.size + 1 + 1, 0, none⟩) := hb.at 5 (by kernel_rfl)
            exact step_run (v := .pointer (some ⟨w.heap.size + 1 + 1, 1, none⟩)) rfl (by go_simp) rfl
          · intro a w' hb hp
            have h90 : a.tmps[90]?.getD undef = .pointer (some ⟨w.heap.size + 1 + 1, 1, none⟩) := slot_eq.symm.trans (hp ⟨9, .data⟩ (by simp) rfl _ rfl)
            have kc := E1'.out _ hb.ext
            exact step_run (v := .slice A2 m.length c2) rfl (by go_simp) rfl
          · intro a w' hb hp
            have h89 : a.tmps[89]?.getD undef = .slice A l.length c := slot_eq.symm.trans (hp ⟨8, .data⟩ (by simp) rfl _ rfl)
            have h91 : a.tmps[91]?.getD undef = .slice A2 m.length c2 := slot_eq.symm.trans (hp ⟨10, .data⟩ (by simp) rfl _ rfl)
            refine step_call (f := 34) (args := #[.slice A l.length c, .slice A2 m.length c2]) rfl (by simp [go_sem, h89, h91]) ?_
            refine (samevals_any A A2 c c2 l m w' (F0'.out _ hb.ext) (F1'.out _ hb.ext) (by have := Hl.out; omega) (by have := Hm.out; omega) q3 Hq3e.out).mono ?_
            rintro e w4 ⟨rfl, hb4⟩
            exact ⟨_, rfl, hb4, rfl⟩
          · intro a w' hb hp
            have h87 : a.tmps[87]?.getD undef = .bool q3 := slot_eq.symm.trans (hp ⟨6, .data⟩ (by simp) rfl _ rfl)
            have h92 : a.tmps[92]?.getD undef = .bool q3 := slot_eq.symm.trans (hp ⟨11, .data⟩ (by simp) rfl _ rfl)
            exact step_run (v := .bool true) rfl (by go_simp) rfl
          · intro a w' hb hp
            have h93 : a.tmps[93]?.getD undef = .bool true := slot_eq.symm.trans (hp ⟨12, .data⟩ (by simp) rfl _ rfl)
            exact step_run (v := .bool true) rfl (by simp [execOp, Act.eval, h93]) rfl
        · intro vs w8 hb8 hv
          have h13 : vs 13 = .bool true := hv 13 (by decide)
          simp only [putAll, Act.put, List.setIfInBounds_toArray, List.set_cons_zero, List.set_cons_succ, Nat.zero_add, Nat.reduceAdd, h13]
          clear hv h13
          have Hend := Lib.hid (below_ext2 Hend0.out hb8); clear hb8
          go_wp2
          go_ret
          exact ⟨rfl, Hend.out⟩
end
end Go.Proofs.Ytkjconhhandhlaa
