/- nfa's key: the bytes of a set's words. -/
import Derived.Test.YtcpjpogglecddaaDoorNfaEach
namespace Go.Proofs.YtcpjpogglecddaaDoor
open Go.RowKit

def byt (x j : Nat) : Nat := x / 2 ^ (8 * j) % 256
def le8 (x : Nat) : List Nat := (List.range 8).map (byt x)
def keyB (ws : List Nat) : List Nat := ws.flatMap le8
theorem le8_len (x : Nat) : (le8 x).length = 8 := by simp [le8]
theorem keyB_len : ∀ ws : List Nat, (keyB ws).length = 8 * ws.length
  | [] => rfl
  | x :: l => by
    have := keyB_len l
    unfold keyB at *
    rw [List.flatMap_cons, List.length_append, le8_len, this, List.length_cons]; omega
theorem keyB_byt (ws : List Nat) : Byt (keyB ws) := by
  intro c hc
  obtain ⟨x, _, h2⟩ := List.mem_flatMap.1 hc
  obtain ⟨j, _, rfl⟩ := List.mem_map.1 h2
  exact Nat.mod_lt _ (by decide)
theorem le8_inj {x y : Nat} (hx : U64 x) (hy : U64 y) (h : le8 x = le8 y) : x = y := by
  have hj : ∀ j, j < 8 → byt x j = byt y j := fun j hj => by
    have := congrArg (fun l => l[j]?) h
    simpa [le8, hj] using this
  have h0 := hj 0 (by decide); have h1 := hj 1 (by decide); have h2 := hj 2 (by decide); have h3 := hj 3 (by decide)
  have h4 := hj 4 (by decide); have h5 := hj 5 (by decide); have h6 := hj 6 (by decide); have h7 := hj 7 (by decide)
  unfold byt at h0 h1 h2 h3 h4 h5 h6 h7
  unfold U64 at hx hy
  simp only [Nat.mul_zero, Nat.pow_zero, Nat.div_one, Nat.mul_one, Nat.reduceMul, Nat.reducePow] at h0 h1 h2 h3 h4 h5 h6 h7
  omega
theorem keyB_inj : ∀ {a b : List Nat}, Wds a → Wds b → keyB a = keyB b → a = b
  | [], [], _, _, _ => rfl
  | [], y :: b, _, _, h => by have := congrArg List.length h; rw [keyB_len, keyB_len] at this; simp at this
  | x :: a, [], _, _, h => by have := congrArg List.length h; rw [keyB_len, keyB_len] at this; simp at this
  | x :: a, y :: b, ha, hb, h => by
    unfold keyB at h
    rw [List.flatMap_cons, List.flatMap_cons] at h
    have h1 := List.append_inj h (by rw [le8_len, le8_len])
    rw [le8_inj (ha x (by simp)) (hb y (by simp)) h1.1, keyB_inj (fun z hz => ha z (by simp [hz])) (fun z hz => hb z (by simp [hz])) h1.2]
theorem key_inj {a b : List Nat} (ha : Wds a) (hb : Wds b) (h : strOf (keyB a) = strOf (keyB b)) : a = b := keyB_inj ha hb (strOf_inj (keyB_byt a) (keyB_byt b) h)
theorem shr_byt8 (x j : Nat) : (x : Int) / 2 ^ (8 * j) % 256 = ((byt x j : Nat) : Int) := by
  have e : ((x : Int) / 2 ^ (8 * j)) = ((x / 2 ^ (8 * j) : Nat) : Int) := by rw [Int.natCast_ediv, Int.natCast_pow]; rfl
  rw [e]
  unfold byt
  omega
def Lk1 (w : World) (B : Nat) (ws : List Nat) (b i : Value) (wr : World) : Prop :=
  ∃ k : Nat, k ≤ ws.length ∧ i = .int .i64 k ∧ wr.ownsRow B 5 1 b (keyB (ws.take k)).length ((keyB (ws.take k)).map bv) ∧ Frm 5 B w wr
def Lk2 (w : World) (B : Nat) (pre : List Nat) (x : Nat) (b i : Value) (wr : World) : Prop :=
  ∃ j : Nat, j ≤ 8 ∧ i = .int .i64 (8 * (j : Int)) ∧ wr.ownsRow B 5 1 b (pre ++ (List.range j).map (byt x)).length ((pre ++ (List.range j).map (byt x)).map bv) ∧ Frm 5 B w wr
set_option maxRecDepth 100000 in
set_option maxHeartbeats 2000000 in
theorem key_any (vs : Value) (ws : List Nat) (w : World) (hs : Sl uv w vs ws) (hws : Wds ws) (hwl : ws.length ≤ 64) :
    Calls Tryd.prog 43 #[vs] w fun e w' => e = .returned (.string (strOf (keyB ws))) ∧ Below w.heap.size w w' := by
  obtain ⟨A, c, rfl⟩ := hs.shape
  have Hs := Lib.hid hs; have Hws := Lib.hid hws
  clear hs hws
  obtain ⟨i0, hi, hz0, hz1, hz2⟩ := info_parts info_u8
  go_enter Tryd.func43, Tryd.ntmps43
  go_wp2_with (at_make; refine wpList_make_own _ rfl _ _ _ rfl w.heap.size 5 i0 _ 1 (by kernel_rfl) hi hz0 hz1 _ _ _ (8 * ws.length) rfl rfl (by omega) (by rw [hz2]; omega) (by unfold maxLen; omega) (Nat.le_refl _) ?_; intro w1 hown hgr)
  have HO1 := Lib.hid hown; have HF1 := Lib.hid (Frm.grown0 (e := 5) (B := w.heap.size) hgr)
  clear hown hgr hi hz0 hz1 hz2
  go_loopw [3, 13] (fun b i wr => Lk1 w w.heap.size ws b i wr) (fun _ i _ => ws.length - (intOf i).toNat)
  case atStart => exact ⟨0, Nat.zero_le _, rfl, HO1.out, HF1.out⟩
  case round =>
    obtain ⟨k, hk, rfl, hown, hf⟩ := hrel
    have HO := Lib.hid hown; have HF := Lib.hid hf; clear hown hf
    by_cases hlt : k < ws.length
    · obtain ⟨ad, c', hs, hcap, hcell⟩ := sl_cell (Hs.out.below (HF.out.below (Nat.le_refl _))) k hlt
      simp only [Value.slice.injEq, true_and] at hs
      obtain ⟨rfl, rfl⟩ := hs
      have hxu := Hws.out _ (List.getElem_mem hlt)
      have htk : keyB (ws.take (k + 1)) = keyB (ws.take k) ++ le8 ws[k] := by
        unfold keyB
        rw [List.take_succ_eq_append_getElem hlt, List.flatMap_append]; simp
      have hpl : (keyB (ws.take k)).length ≤ 512 := by rw [keyB_len, List.length_take]; omega
      obtain ⟨x, hx⟩ : ∃ x, x = ws[k] := ⟨_, rfl⟩
      rw [← hx] at hcell hxu htk
      obtain ⟨pre, hpre⟩ : ∃ pre, pre = keyB (ws.take k) := ⟨_, rfl⟩
      rw [← hpre] at HO htk hpl
      have Htk := Lib.hid htk; have Hxu := Lib.hid hxu
      clear hx htk hpre hxu
      unfold uv at hcell
      go_wp2_with fail
      go_loopw [3, 6] (fun b i wr => Lk2 w w.heap.size pre x b i wr) (fun _ i _ => 64 - (intOf i).toNat)
      case atStart => exact ⟨0, Nat.zero_le _, rfl, by simpa using HO.out, HF.out⟩
      case round =>
        obtain ⟨j, hj, rfl, hown, hf⟩ := hrel
        have HO2 := Lib.hid hown; have HF2 := Lib.hid hf; clear hown hf
        have hfs := HF2.out.size
        by_cases hlt2 : j < 8
        · have t0 : decide (8 * (j : Int) < 64) = true := decide_eq_true (by omega)
          have hl2 : (pre ++ (List.range j).map (byt x)).length ≤ 600 := by rw [List.length_append, List.length_map, List.length_range]; omega
          go_wp2_with (at_builtin; refine app1 rfl _ _ 27 rfl 5 (.int .u8 0) info_u8 Tryd.underlying27 rfl w.heap.size _ _ _ rfl HO2.out _ rfl rfl (by unfold Room2; omega) hfs ?_; intro v' w2 hown2 hf2; have O3 := Lib.hid hown2; have F3 := Lib.hid (HF2.out.trans hf2); clear hown2 hf2)
          go_roundw
          case rel =>
            refine ⟨j + 1, by omega, by go_num, ?_, F3.out⟩
            have h := O3.out
            rw [shr_byt8] at h
            have e : pre ++ (List.range (j + 1)).map (byt x) = pre ++ (List.range j).map (byt x) ++ [byt x j] := by rw [List.range_succ, List.map_append, ← List.append_assoc]; rfl
            rw [e, List.length_append, List.map_append]
            exact h
          case measure => simp [intOf]; omega
        · obtain rfl : j = 8 := by omega
          have t0 : decide (8 * ((8 : Nat) : Int) < 64) = false := by decide
          go_wp2_with fail
          go_roundw
          case rel => exact ⟨k + 1, by omega, by go_num, by rw [Htk.out]; exact HO2.out, HF2.out⟩
          case measure => simp [intOf]; omega
    · have h := HO.out
      rw [List.take_of_length_le (by omega)] at h
      have hrs := fun W => run_str (P := Tryd.prog) W 27 5 9 Tryd.underlying27 Tryd.underlying5 Tryd.underlying9 u3 (keyB ws)
      have hrs2 := hrs wr (Bsl.of_own h)
      clear hrs h HO
      go_wp2
      go_ret
      exact ⟨rfl, HF.out.below (Nat.le_refl _)⟩
end Go.Proofs.YtcpjpogglecddaaDoor
