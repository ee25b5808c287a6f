/- Layer 13: the small functions of zone. -/
import Derived.Test.YteoddcamicmapaaZnM
import Derived.Test.YteoddcamicmapaaWd
import Derived.BigQuiet
import Derived.BigRegion
import Derived.Laws.ResultCell
import Derived.Laws.Rows
namespace Go.Proofs.Yteoddcamicmapaa
open Go.RowKit

/-- A function that tells a value and leaves what there was. -/
def Tells (w : World) (v : Value) (e : Ending) (w' : World) : Prop := e = .returned v ∧ Below w.heap.size w w'
theorem Tells.of {w w' : World} {v : Value} (h : Below w.heap.size w w') : Tells w v (.returned v) w' := ⟨rfl, h⟩
theorem al1 (w : World) (o : Obj) : Below w.heap.size w (w.alloc o) := (Below.refl _ w).alloc (Nat.le_refl _) _
theorem al2 (w : World) (o p : Obj) : Below w.heap.size w ((w.alloc o).alloc p) := (al1 w o).alloc (by simp) _
theorem al3 (w : World) (o p q : Obj) : Below w.heap.size w (((w.alloc o).alloc p).alloc q) := (al2 w o p).alloc (by simp; omega) _
theorem size_alloc (w : World) (o : Obj) : (w.alloc o).heap.size = w.heap.size + 1 := by simp
theorem size_set (w : World) (a : Addr) (v : Value) : (w.setCell a v).heap.size = w.heap.size := by simp [World.setCell]
/-- Block b holds the cells cs of a struct. -/
def Bx (w : World) (b : Nat) (T : TypeId) (cs : Array Value) : Prop := w.heap[b]? = some (.cells cs T (0, 0))
section
variable {w w' : World} {b T : Nat} {cs : Array Value}
theorem Bx.new (w : World) (T : TypeId) (cs : Array Value) : Bx (w.alloc (.cells cs T)) w.heap.size T cs := heap_alloc_new w _
theorem Bx.lt (h : Bx w b T cs) : b < w.heap.size := lt_of_some h
theorem Bx.cell (h : Bx w b T cs) (i : Nat) : w.cell? ⟨b, i, none⟩ = cs[i]? := cell_of_row w b i _ _ _ h
theorem Bx.free (h : Bx w b T cs) (i : Nat) : w.frozen? ⟨b, i, none⟩ = false := by unfold Bx at h; simp [World.frozen?, h]
theorem Bx.k2 {a0 a1 : Value} (h : Bx w b T #[a0, a1]) : w.cell? ⟨b, 0, none⟩ = some a0 ∧ w.cell? ⟨b, 1, none⟩ = some a1 := ⟨h.cell 0, h.cell 1⟩
theorem Bx.f2 {a0 a1 : Value} (h : Bx w b T #[a0, a1]) : w.frozen? ⟨b, 0, none⟩ = false ∧ w.frozen? ⟨b, 1, none⟩ = false := ⟨h.free 0, h.free 1⟩
theorem Bx.k3 {a0 a1 a2 : Value} (h : Bx w b T #[a0, a1, a2]) : w.cell? ⟨b, 0, none⟩ = some a0 ∧ w.cell? ⟨b, 1, none⟩ = some a1 ∧ w.cell? ⟨b, 2, none⟩ = some a2 := ⟨h.cell 0, h.cell 1, h.cell 2⟩
theorem Bx.below (h : Bx w b T cs) (hb : Below w.heap.size w w') : Bx w' b T cs := (hb.block b (lt_of_some h)).trans h
theorem Bx.belowB {B : Nat} (h : Bx w b T cs) (hb : Below B w w') (hB : b < B) : Bx w' b T cs := (hb.block b hB).trans h
theorem Bx.alloc (h : Bx w b T cs) (o : Obj) : Bx (w.alloc o) b T cs := h.below ((Below.refl _ w).alloc (Nat.le_refl _) o)
theorem Bx.set (h : Bx w b T cs) (i : Nat) (v : Value) : Bx (w.setCell ⟨b, i, none⟩ v) b T (cs.setIfInBounds i v) := heap_set h
theorem Bx.other (h : Bx w b T cs) {c i : Nat} {u : Value} (hb : b ≠ c) : Bx (w.setCell ⟨c, i, none⟩ u) b T cs := (Below.heap_setCell _ _ _ _ hb).trans h
end
theorem Bx.two {w w' : World} {o p : Obj} {T : TypeId} {cs : Array Value} (ho : o = .cells cs T) (hb : Below ((w.alloc o).alloc p).heap.size ((w.alloc o).alloc p) w') : Bx w' w.heap.size T cs := (hb.block _ (by simp; omega)).trans (by rw [ho]; exact heap_alloc_2 w _ _)
theorem Bx.two' {w w' : World} {o p : Obj} {T : TypeId} {cs : Array Value} (ho : p = .cells cs T) (hb : Below ((w.alloc o).alloc p).heap.size ((w.alloc o).alloc p) w') : Bx w' (w.heap.size + 1) T cs := (hb.block _ (by simp)).trans (by rw [ho]; exact heap_alloc_2' w _ _)
/-- A zone of m variables. -/
def vZ (m : Nat) (v : Value) : Value := .agg #[.int .i64 (m : Int), v]
theorem mul_few {m i : Nat} (hm : m ≤ 24) (hi : i ≤ m) : i * (m + 1) ≤ 600 := Nat.le_trans (Nat.mul_le_mul hi (Nat.add_le_add_right hm 1)) (Nat.le_trans (Nat.mul_le_mul_right 25 hm) (by decide))
set_option maxHeartbeats 400000 in
theorem at_any (m i j : Nat) (v : Value) (w : World) (hm : m ≤ 24) (hi : i ≤ m) (hj : j ≤ m) :
    Calls Try.prog 43 #[.agg #[.int .i64 (m : Int), v], .int .i64 (i : Int), .int .i64 (j : Int)] w (Tells w (.int .i64 ((i * (m + 1) + j : Nat) : Int))) := by
  have h1 := mul_few hm hi
  have e1 : (i : Int) * ((m : Int) + 1) = ((i * (m + 1) : Nat) : Int) := by push_cast; rfl
  generalize i * (m + 1) = p at *
  go_enter Try.func43, Try.ntmps43
  go_wp2
  go_ret
  exact ⟨by push_cast; rfl, (Below.refl _ w).alloc (Nat.le_refl _) _⟩
theorem widest_any (i j : Nat) (w : World) (hi : i ≤ 1000) (hj : j ≤ 1000) : Calls Try.prog 47 #[.int .i64 (i : Int), .int .i64 (j : Int)] w (fun e w' => e = .returned (.int .i64 (fuB i j)) ∧ ∃ k, w' = w.drewN k) := by
  unfold fuB
  by_cases h1 : i = j
  · subst h1
    rw [if_pos rfl]
    go_enter Try.func47, Try.ntmps47
    go_wp2
    go_ret
    exact ⟨rfl, 0, rfl⟩
  · rw [if_neg h1]
    have h1' : ((i : Int) == (j : Int)) = false := by rw [beq_eq_false_iff_ne]; omega
    by_cases h2 : i = 0 ∨ j = 0
    · rw [if_pos h2]
      rcases h2 with rfl | rfl
      · go_enter Try.func47, Try.ntmps47
        go_wp2
        go_ret
        exact ⟨rfl, 0, rfl⟩
      · have h3 : ((i : Int) == 0) = false := by rw [beq_eq_false_iff_ne]; omega
        go_enter Try.func47, Try.ntmps47
        go_wp2
        go_ret
        exact ⟨rfl, 0, rfl⟩
    · rw [if_neg h2]
      have h3 : ((i : Int) == 0) = false := by rw [beq_eq_false_iff_ne]; omega
      have h4 : ((j : Int) == 0) = false := by rw [beq_eq_false_iff_ne]; omega
      go_enter Try.func47, Try.ntmps47
      go_wp2
      go_ret
      exact ⟨rfl, 0, rfl⟩
def possB (n : Int) : Bool := decide (0 ≤ n ∧ n ≤ 24)
theorem possible_any (n : Int) (w : World) : Calls Try.prog 45 #[.int .i64 n] w fun e w' => e = .returned (.bool (possB n)) ∧ w = w' := by
  unfold possB
  by_cases h1 : 0 ≤ n
  · by_cases h2 : n ≤ 24
    · rw [decide_eq_true ⟨h1, h2⟩]
      go_enter Try.func45, Try.ntmps45
      go_wp2
      go_ret
      exact ⟨rfl, rfl⟩
    · rw [decide_eq_false (fun h => h2 h.2)]
      go_enter Try.func45, Try.ntmps45
      go_wp2
      go_ret
      exact ⟨rfl, rfl⟩
  · rw [decide_eq_false (fun h => h1 h.1)]
    go_enter Try.func45, Try.ntmps45
    go_wp2
    go_ret
    exact ⟨rfl, rfl⟩
theorem hasVariable_any (N x : Int) (v : Value) (w : World) : Calls Try.prog 52 #[.agg #[.int .i64 N, v], .int .i64 x] w (Tells w (.bool (decide (0 ≤ x ∧ x < N)))) := by
  by_cases h1 : 0 ≤ x
  · by_cases h2 : x < N
    · rw [decide_eq_true ⟨h1, h2⟩]
      go_enter Try.func52, Try.ntmps52
      go_wp2
      go_ret
      exact Tells.of ((Below.refl _ w).alloc (Nat.le_refl _) _)
    · rw [decide_eq_false (fun h => h2 h.2)]
      go_enter Try.func52, Try.ntmps52
      go_wp2
      go_ret
      exact Tells.of ((Below.refl _ w).alloc (Nat.le_refl _) _)
  · rw [decide_eq_false (fun h => h1 h.1)]
    go_enter Try.func52, Try.ntmps52
    go_wp2
    go_ret
    exact Tells.of ((Below.refl _ w).alloc (Nat.le_refl _) _)
/-- Whether a zone of N variables has a number. -/
def knB (N x : Int) : Bool := decide (-1 ≤ x ∧ x < N)
theorem knB_or (N x : Int) (h : x ≠ -1) : knB N x = decide (0 ≤ x ∧ x < N) := by
  unfold knB
  by_cases h1 : 0 ≤ x ∧ x < N
  · rw [decide_eq_true h1, decide_eq_true (by omega)]
  · rw [decide_eq_false h1, decide_eq_false (by omega)]
set_option maxHeartbeats 1000000 in
theorem hasBound_any (N X Y C : Int) (hN : 0 ≤ N) (v : Value) (w : World) : Calls Try.prog 41 #[.agg #[.int .i64 N, v], .agg #[.int .i64 X, .int .i64 Y, .int .i64 C]] w (Tells w (.bool (knB N X && knB N Y))) := by
  by_cases h1 : X = -1
  · subst h1
    have e1 : knB N (-1) = true := by unfold knB; exact decide_eq_true (by omega)
    rw [e1, Bool.true_and]
    by_cases h2 : Y = -1
    · subst h2
      rw [e1]
      clear e1
      go_enter Try.func41, Try.ntmps41
      go_wp2
      go_ret
      exact Tells.of (al2 w _ _)
    · have h2' : (Y == -1) = false := by rw [beq_eq_false_iff_ne]; exact h2
      have e2 := Lib.hid (knB_or N Y h2)
      clear h2 e1
      go_enter Try.func41, Try.ntmps41
      go_wp2_with fail
      refine (hasVariable_any _ _ _ _).mono ?_; rintro e w2 ⟨rfl, hb⟩; rw [← e2.out]
      have Hb := Lib.hid hb; clear hb
      go_wp2
      go_ret
      exact Tells.of ((al2 w _ _).trans (Hb.out.mono (by simp; omega)))
  · have h1' : (X == -1) = false := by rw [beq_eq_false_iff_ne]; exact h1
    have e1 := Lib.hid (knB_or N X h1)
    clear h1
    cases hx : knB N X with
    | false =>
      have Hx := Lib.hid hx; clear hx
      go_enter Try.func41, Try.ntmps41
      go_wp2_with fail
      refine (hasVariable_any _ _ _ _).mono ?_; rintro e w2 ⟨rfl, hb⟩; rw [← e1.out, Hx.out]
      have Hb := Lib.hid hb; clear hb
      go_wp2
      go_ret
      exact Tells.of ((al2 w _ _).trans (Hb.out.mono (by simp; omega)))
    | true =>
      have Hx := Lib.hid hx; clear hx
      rw [Bool.true_and]
      by_cases h2 : Y = -1
      · subst h2
        have e2 : knB N (-1) = true := by unfold knB; exact decide_eq_true (by omega)
        rw [e2]
        clear e2
        go_enter Try.func41, Try.ntmps41
        go_wp2_with fail
        refine (hasVariable_any _ _ _ _).mono ?_; rintro e w2 ⟨rfl, hb⟩; rw [← e1.out, Hx.out]
        have Hb := Lib.hid hb
        obtain ⟨b0, b1, b2⟩ := (Bx.two' rfl hb).k3
        clear hb
        go_wp2
        go_ret
        exact Tells.of ((al2 w _ _).trans (Hb.out.mono (by simp; omega)))
      · have h2' : (Y == -1) = false := by rw [beq_eq_false_iff_ne]; exact h2
        have e2 := Lib.hid (knB_or N Y h2)
        clear h2
        go_enter Try.func41, Try.ntmps41
        go_wp2_with fail
        refine (hasVariable_any _ _ _ _).mono ?_; rintro e w2 ⟨rfl, hb⟩; rw [← e1.out, Hx.out]
        have Hb := Lib.hid hb
        obtain ⟨b0, b1, b2⟩ := (Bx.two' rfl hb).k3
        obtain ⟨a0, a1⟩ := (Bx.two rfl hb).k2
        have Hs := Lib.hid hb.size
        clear hb
        go_wp2_with fail
        refine (hasVariable_any _ _ _ _).mono ?_; rintro e w3 ⟨rfl, hb⟩; rw [← e2.out]
        have Hb3 := Lib.hid hb; clear hb
        go_wp2
        go_ret
        exact Tells.of ((al2 w _ _).trans ((Hb.out.mono (by simp; omega)).trans (Hb3.out.mono (by have := Hs.out; simp at this; omega))))
/-- A slice of numbers in memory, of a length that can be. -/
theorem zv_bad {N : Int} {b : List Int} {k : Nat} (hk : k < b.length) (hx : ¬ (-20001 ≤ b[k] ∧ b[k] ≤ 20000)) : zvB N b = false := by
  unfold zvB
  rw [decide_eq_false (p := ∀ x ∈ b, -20001 ≤ x ∧ x ≤ 20000) (fun h => hx (h _ (List.getElem_mem hk))), Bool.and_false]
theorem zv_all {N : Int} {b : List Int} {k : Nat} (hk : ¬ k < b.length) (h : ∀ x ∈ b.take k, -20001 ≤ x ∧ x ≤ 20000) (hN : 0 ≤ N) (hN2 : N ≤ 24) (hl : (b.length : Int) = (N + 1) * (N + 1)) : zvB N b = true := by
  rw [List.take_of_length_le (by omega)] at h
  unfold zvB
  rw [decide_eq_true h, decide_eq_true ⟨hN, hN2, hl⟩]; rfl
theorem zv_head {N : Int} {b : List Int} (h : ¬ (0 ≤ N ∧ N ≤ 24 ∧ (b.length : Int) = (N + 1) * (N + 1))) : zvB N b = false := by unfold zvB; rw [decide_eq_false h, Bool.false_and]
theorem take_ok {l : List Int} {k : Nat} (hk : k < l.length) {P : Int → Prop} (h : ∀ x ∈ l.take k, P x) (hx : P l[k]) : ∀ x ∈ l.take (k + 1), P x := by
  rw [List.take_succ_eq_append_getElem hk]
  intro x h2
  rcases List.mem_append.1 h2 with h3 | h3
  · exact h x h3
  · rw [List.mem_singleton] at h3; rw [h3]; exact hx
set_option maxHeartbeats 1000000 in
theorem valid_any (N : Int) (v : Value) (b : List Int) (w : World) (h : Sl iv w v b) (hl : b.length ≤ 9223372036854775807) :
    Calls Try.prog 21 #[.agg #[.int .i64 N, v]] w (Tells w (.bool (zvB N b))) := by
  obtain ⟨A, c, rfl⟩ := h.shape
  have H := Lib.hid h
  clear h
  obtain ⟨R, hR⟩ : ∃ R, R = zvB N b := ⟨_, rfl⟩
  rw [← hR]
  have HR := Lib.hid hR; clear hR
  by_cases hp : possB N = true
  · have Hp := Lib.hid hp
    unfold possB at hp
    rw [decide_eq_true_iff] at hp
    obtain ⟨m, rfl⟩ : ∃ m : Nat, N = m := ⟨N.toNat, by omega⟩
    have hm : m ≤ 24 := by omega
    have h1 := mul_few hm (Nat.le_refl m)
    have e1 : ((m : Int) + 1) * ((m : Int) + 1) = (((m + 1) * (m + 1) : Nat) : Int) := by push_cast; rfl
    have h2 : (m + 1) * (m + 1) ≤ 625 := Nat.mul_le_mul (by omega : m + 1 ≤ 25) (by omega : m + 1 ≤ 25)
    have HR2 := Lib.hid (fun h => HR.out.trans (zv_head (N := (m : Int)) (b := b) h))
    have HR3 := Lib.hid (fun k hk hall hl => HR.out.trans (zv_all (N := (m : Int)) (b := b) (k := k) hk hall (by omega) (by omega) hl))
    rw [e1] at HR2 HR3
    generalize (m + 1) * (m + 1) = q at *
    clear hp h1
    by_cases hq : b.length = q
    · have hq' : ((b.length : Int) != (q : Int)) = false := by rw [bne_eq_false_iff_eq]; omega
      have Hq := Lib.hid hq
      have HR4 := Lib.hid (fun k hk hall => HR3.out k hk hall (by omega))
      clear hq HR2 HR3
      go_enter Try.func21, Try.ntmps21
      go_wp2_with fail
      refine (possible_any _ _).mono ?_; rintro e w1 ⟨rfl, rfl⟩; rw [Hp.out]
      go_wp2_with fail
      go_loop [25] (fun i => ∃ k : Nat, k ≤ b.length ∧ i = .int .i64 k ∧ ∀ x ∈ b.take k, -20001 ≤ x ∧ x ≤ 20000) (fun i => b.length - (intOf i).toNat)
      case atStart => exact ⟨0, Nat.zero_le _, rfl, by intro x hx; simp at hx⟩
      case round =>
        obtain ⟨k, hk, rfl, hall⟩ := hrel
        have Hall := Lib.hid hall; clear hall
        by_cases hlt : k < b.length
        · obtain ⟨ad, c', hs, hcap, hcell⟩ := sl_cell (H.out.below (al1 w (.cells #[.int .i64 (m : Int), .slice A b.length c] 29))) k hlt
          simp only [Value.slice.injEq, true_and] at hs
          obtain ⟨rfl, rfl⟩ := hs
          have Hn := Lib.hid (fun h => take_ok hlt Hall.out h)
          have Hb := Lib.hid (fun h => HR.out.trans (zv_bad hlt h))
          generalize b[k] = x at *
          unfold iv at hcell
          by_cases hx : -20001 ≤ x ∧ x ≤ 20000
          · have Hn2 := Lib.hid (Hn.out hx)
            obtain ⟨h0, h1⟩ := hx
            clear Hn Hb
            go_wp2
            go_round
            case rel => exact ⟨k + 1, by omega, by go_num, Hn2.out⟩
            case measure => simp [intOf]; omega
          · have hr := Hb.out hx
            subst hr
            by_cases h0 : x < -20001
            · clear hx Hn Hb
              go_wp2
              go_ret
              exact Tells.of (al1 w _)
            · have h1 : ¬ x ≤ 20000 := fun h => hx ⟨by omega, h⟩
              clear hx Hn Hb
              go_wp2
              go_ret
              exact Tells.of (al1 w _)
        · have hr : R = true := HR4.out k hlt Hall.out
          subst hr
          go_wp2
          go_ret
          exact Tells.of (al1 w _)
    · have hq' : ((b.length : Int) != (q : Int)) = true := by rw [bne_iff_ne]; omega
      have hr : R = false := HR2.out (by omega)
      subst hr
      clear hq HR2 HR3 HR
      go_enter Try.func21, Try.ntmps21
      go_wp2_with fail
      refine (possible_any _ _).mono ?_; rintro e w1 ⟨rfl, rfl⟩; rw [Hp.out]
      go_wp2
      go_ret
      exact Tells.of (al1 w _)
  · rw [Bool.not_eq_true] at hp
    have hr : R = false := HR.out.trans (zv_head fun h => by unfold possB at hp; rw [decide_eq_false_iff_not] at hp; exact hp ⟨h.1, h.2.1⟩)
    subst hr
    have Hp := Lib.hid hp; clear hp
    go_enter Try.func21, Try.ntmps21
    go_wp2_with fail
    refine (possible_any _ _).mono ?_; rintro e w1 ⟨rfl, rfl⟩; rw [Hp.out]
    go_wp2
    go_ret
    exact Tells.of (al1 w _)
end Go.Proofs.Yteoddcamicmapaa
