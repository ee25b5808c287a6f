/- The law's own nodes: numbers taken as nodes of a graph. -/
import Derived.Test.YtnhhhnhakpambaaGraphCloM
import Derived.Test.YtnhhhnhakpambaaOpen
namespace Go.Proofs.Ytnhhhnhakpambaa
open Go.RowKit

def NGot (w : World) (l : List Nat) (e : Ending) (w' : World) : Prop := ∃ v, e = .returned v ∧ Sl nv w' v l ∧ Below w.heap.size w w'
theorem nds_snoc {n : Nat} {l : List Nat} {k : Nat} (hk : k < l.length) : (l.take (k + 1)).map (· % n) = (l.take k).map (· % n) ++ [l[k] % n] := by
  rw [List.take_succ_eq_append_getElem hk, List.map_append]; rfl
set_option maxHeartbeats 1000000 in
theorem nds_any {α : Type} {f : α → Value} (v va : Value) (g : List (List α)) (l : List Nat) (w : World) (h : Gr f w v g) (hg : g.length ≤ 60) (hx : Bsl w va l) (hb : Byt l) (hl : l.length ≤ 10) :
    Calls Try.prog 34 #[v, va] w (NGot w (ndsM g.length l)) := by
  obtain ⟨A, c, rfl⟩ := h.shape
  obtain ⟨A2, c2, rfl⟩ := hx.shape
  have HX := Lib.hid hx
  have Hbt := Lib.hid hb
  clear h hx hb
  by_cases hz : g.length = 0
  · have hz' : g.length ≤ 0 := by omega
    have hzl : (g.length : Int) ≤ 0 := by omega
    have He : Hid (ndsM g.length l = []) := Lib.hid (by unfold ndsM; rw [if_pos hz])
    clear hz
    generalize ndsM g.length l = r at *
    go_enter Try.func34, Try.ntmps34
    go_wp2
    by_cases h0 : 0 < l.length
    · go_loop [5, 6] (fun o i => o = .slice none 0 0 ∧ i = .int .i64 0) (fun _ _ => 0)
      case atStart => exact ⟨rfl, rfl⟩
      case round =>
        obtain ⟨rfl, rfl⟩ := hrel
        go_wp2
        go_ret
        exact ⟨_, rfl, by rw [He.out]; exact Sl.nil, Below.refl _ _⟩
    · have h0' : l.length ≤ 0 := by omega
      go_loop [5, 6] (fun o i => o = .slice none 0 0 ∧ i = .int .i64 0) (fun _ _ => 0)
      case atStart => exact ⟨rfl, rfl⟩
      case round =>
        obtain ⟨rfl, rfl⟩ := hrel
        go_wp2
        go_ret
        exact ⟨_, rfl, by rw [He.out]; exact Sl.nil, Below.refl _ _⟩
  · have hz' : 0 < g.length := by omega
    have hzl : (0 : Int) < (g.length : Int) := by omega
    have He : Hid (ndsM g.length l = l.map (· % g.length)) := Lib.hid (by unfold ndsM; rw [if_neg hz])
    clear hz
    generalize ndsM g.length l = r at *
    go_enter Try.func34, Try.ntmps34
    go_wp2
    go_loopw [5, 6] (fun o i wr => ∃ k : Nat, k ≤ l.length ∧ i = .int .i64 k ∧ wr.ownsRow w.heap.size 3 1 o k (((l.take k).map (· % g.length)).map nv) ∧ Below w.heap.size w wr) (fun _ i _ => l.length - (intOf i).toNat)
    case atStart => exact ⟨0, Nat.zero_le _, rfl, World.ownsRow_nil _ _ _ _, Below.refl _ _⟩
    case round =>
      obtain ⟨k, hk, rfl, hown, hbel⟩ := hrel
      have Hown := Lib.hid hown; have Hbel := Lib.hid hbel
      have hsz := hbel.size
      by_cases hlt : k < l.length
      · obtain ⟨ad, rfl, hcell⟩ := (HX.out.below hbel).addr (by omega)
        have hck := hcell k l[k] (List.getElem?_eq_getElem hlt)
        have hs := nds_snoc (n := g.length) hlt
        have Hs := Lib.hid hs
        have hby : l[k] < 256 := Hbt.out _ (List.getElem_mem hlt)
        have e1 := tmod_nat l[k] g.length
        have hx : l[k] % g.length < g.length := Nat.mod_lt _ hz'
        unfold bv at hck
        clear hown hbel hcell hs
        generalize l[k] = y at *
        generalize y % g.length = x at *
        go_wp2_with (at_builtin; refine app1S rfl _ _ 38 rfl 3 (.int .i64 0) 8 info_int rfl (by kernel_rfl) w.heap.size _ _ _ rfl Hown.out (.int .i64 (x : Int)) rfl rfl (by omega) (by omega) hsz ?_; intro v' w2 hown2 hfr)
        have hb2 := hfr.below hsz
        have Hown2 := Lib.hid hown2
        have Hbel2 := Lib.hid (Hbel.out.trans hb2)
        clear hown2 hfr hb2
        go_roundw
        case rel => exact ⟨k + 1, by omega, by go_num, by rw [Hs.out, List.map_append]; exact Hown2.out, Hbel2.out⟩
        case measure => simp [intOf]; omega
      · obtain rfl : k = l.length := by omega
        clear hown hbel
        go_wp2
        go_ret
        exact ⟨_, rfl, by rw [He.out]; have h := Hown.out; rw [List.take_length] at h; exact Sl.of_own h, Hbel.out⟩
end Go.Proofs.Ytnhhhnhakpambaa
