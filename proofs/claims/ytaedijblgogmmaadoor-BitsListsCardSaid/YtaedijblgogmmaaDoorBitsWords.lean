/- The contract of the reference's Words, and of the law package's same. -/
import Derived.Test.YtaedijblgogmmaaDoorBitsRef4
import Derived.Test.YtaedijblgogmmaaDoorBitsMake
namespace Go.Proofs.YtaedijblgogmmaaDoor
open Go.RowKit

def padTo (o : List Nat) (m : Nat) : List Nat := o ++ List.replicate (m - o.length) 0
def orAt (o : List Nat) (n : Nat) : List Nat := o.set (n / 64) ((o[n / 64]?.getD 0) ||| 2 ^ (n % 64))
def wstep (o : List Nat) (n : Nat) : List Nat := orAt (padTo o (n / 64 + 1)) n
def rwords (l : List Nat) : List Nat := l.foldl wstep []
theorem padTo_len (o : List Nat) (m : Nat) : (padTo o m).length = max o.length m := by simp [padTo]; omega
theorem padTo_get (o : List Nat) (m i : Nat) : (padTo o m)[i]?.getD 0 = o[i]?.getD 0 := by
  unfold padTo
  by_cases h : i < o.length
  · rw [List.getElem?_append_left h]
  · rw [List.getElem?_append_right (by omega), List.getElem?_eq_none (l := o) (by omega), List.getElem?_replicate]
    split <;> rfl
theorem padTo_step (o : List Nat) (m : Nat) (h : o.length < m) : padTo (o ++ [0]) m = padTo o m := by
  unfold padTo
  obtain ⟨d, hd⟩ : ∃ d, m - o.length = d + 1 := ⟨m - o.length - 1, by omega⟩
  rw [List.length_append, List.length_singleton, show m - (o.length + 1) = d by omega, hd, List.replicate_succ, List.append_assoc]
  rfl
theorem padTo_same (o : List Nat) (m : Nat) (h : m ≤ o.length) : padTo o m = o := by
  unfold padTo
  rw [show m - o.length = 0 by omega]
  simp
theorem orAt_wds {o : List Nat} (h : Wds o) (n : Nat) : Wds (orAt o n) := by
  intro x hx
  rcases List.mem_or_eq_of_mem_set hx with h1 | h1
  · exact h x h1
  · rw [h1]; exact or_u64 _ _ (h.at _) (pow_u64 _ (Nat.mod_lt _ (by decide)))
theorem padTo_wds {o : List Nat} (h : Wds o) (m : Nat) : Wds (padTo o m) := by
  intro x hx
  rcases List.mem_append.1 hx with h1 | h1
  · exact h x h1
  · rw [(List.mem_replicate.1 h1).2]; simp [U64]
theorem wstep_wds {o : List Nat} (h : Wds o) (n : Nat) : Wds (wstep o n) := orAt_wds (padTo_wds h _) n
theorem wstep_len (o : List Nat) (n : Nat) : (wstep o n).length = max o.length (n / 64 + 1) := by simp [wstep, orAt, padTo_len]
theorem wstep_get (o : List Nat) (n i : Nat) : (wstep o n)[i]?.getD 0 = if n / 64 = i then (o[i]?.getD 0) ||| 2 ^ (n % 64) else o[i]?.getD 0 := by
  unfold wstep orAt
  rw [List.getElem?_set, padTo_get]
  by_cases h : n / 64 = i
  · subst h
    rw [if_pos rfl, if_pos rfl, if_pos (by rw [padTo_len]; omega)]
    rfl
  · rw [if_neg h, if_neg h, padTo_get]
theorem wstep_has (o : List Nat) (n m : Nat) (hm : m < 4096) : has (wstep o n) m = (has o m || decide (m = n)) := by
  unfold has wat
  rw [if_pos (by omega), if_pos (by omega), wstep_get]
  by_cases h : n / 64 = m / 64
  · rw [if_pos h, Nat.testBit_or, Nat.testBit_two_pow]
    congr 1
    rw [decide_eq_decide]
    omega
  · rw [if_neg h, decide_eq_false (by omega), Bool.or_false]
theorem rwords_has (l : List Nat) (m : Nat) (hm : m < 4096) : ∀ o, has (l.foldl wstep o) m = (has o m || decide (m ∈ l)) := by
  induction l with
  | nil => intro o; simp
  | cons n l ih =>
    intro o
    rw [List.foldl_cons, ih, wstep_has o n m hm, Bool.or_assoc]
    congr 1
    rw [Bool.eq_iff_iff]
    simp
theorem rwords_wds (l : List Nat) : ∀ o, Wds o → Wds (l.foldl wstep o) := by
  induction l with
  | nil => intro o h; exact h
  | cons n l ih => intro o h; rw [List.foldl_cons]; exact ih _ (wstep_wds h n)
theorem rwords_len (l : List Nat) (hl : ∀ n ∈ l, n < 4096) : ∀ o : List Nat, o.length ≤ 64 → (l.foldl wstep o).length ≤ 64 := by
  induction l with
  | nil => intro o h; exact h
  | cons n l ih =>
    intro o h
    rw [List.foldl_cons]
    refine ih (fun m hm => hl m (List.mem_cons_of_mem _ hm)) _ ?_
    have := hl n (List.mem_cons_self ..)
    rw [wstep_len]; omega
def Tip (o : List Nat) : Prop := o.length = 0 ∨ o[o.length - 1]?.getD 0 ≠ 0
theorem or_ne (x y : Nat) (h : y ≠ 0) : x ||| y ≠ 0 := by
  intro e
  apply h
  apply Nat.eq_of_testBit_eq
  intro i
  have := congrArg (Nat.testBit · i) e
  simp only [Nat.testBit_or, Nat.zero_testBit, Bool.or_eq_false_iff] at this
  rw [this.2, Nat.zero_testBit]
theorem or_ne' (x y : Nat) (h : x ≠ 0) : x ||| y ≠ 0 := by rw [Nat.or_comm]; exact or_ne y x h
theorem wstep_tip {o : List Nat} (h : Tip o) (n : Nat) : Tip (wstep o n) := by
  right
  rw [wstep_len, wstep_get]
  have hp : (2 : Nat) ^ (n % 64) ≠ 0 := Nat.ne_of_gt (Nat.two_pow_pos _)
  by_cases h1 : n / 64 = max o.length (n / 64 + 1) - 1
  · rw [if_pos h1]; exact or_ne _ _ hp
  · rw [if_neg h1, show max o.length (n / 64 + 1) - 1 = o.length - 1 by omega]
    rcases h with h | h
    · omega
    · exact h
theorem rwords_tip (l : List Nat) : ∀ o, Tip o → Tip (l.foldl wstep o) := by
  induction l with
  | nil => intro o h; exact h
  | cons n l ih => intro o h; rw [List.foldl_cons]; exact ih _ (wstep_tip h n)
/-- A valid set whose elements are those of a list has its words. -/
theorem words_eq {s l : List Nat} (hs : Canon s) (hw : Wds s) (hl : ∀ n ∈ l, n < 4096) (h : ∀ m, m < 4096 → has s m = decide (m ∈ l)) : s = rwords l := by
  have hc : Canon (rwords l) := (canon_iff _).2 ⟨rwords_len l hl [] (by simp), rwords_tip l [] (.inl rfl)⟩
  have hww : Wds (rwords l) := rwords_wds l [] (by intro x hx; cases hx)
  have e : used s = used (rwords l) := by
    rw [used_iff, ← has_iff hw hww]
    intro n
    by_cases hn : n < 4096
    · rw [h n hn]
      unfold rwords
      rw [rwords_has l n hn]
      simp [has, wat]
    · rw [has_big s n (by omega), has_big _ n (by omega)]
  rwa [hs.used, hc.used] at e
theorem words_next {l : List Nat} {k : Nat} (hk : k < l.length) : rwords (l.take (k + 1)) = wstep (rwords (l.take k)) l[k] := by
  unfold rwords
  rw [List.take_succ_eq_append_getElem hk, List.foldl_append]
  rfl
theorem Room2.le' {s : List Nat} (h : Canon s) : Room2 s.length := by
  have := (ulen_le s).2
  unfold Canon at h
  unfold Room2
  omega
theorem row_shape {w : World} {B e n : Nat} {v : Value} {xs : List Value} (h : w.ownsRow B e 1 v n xs) : ∃ A c, v = .slice A n c := by
  rcases h.2 with ⟨rfl, rfl⟩ | ⟨g, cap, cur, rfl, _⟩
  · exact ⟨none, 0, rfl⟩
  · exact ⟨_, _, rfl⟩
def lenV : Value → Nat
  | .slice _ n _ => n
  | _ => 0
set_option maxHeartbeats 4000000 in
theorem words_any (v : Value) (l : List Nat) (w : World) (h : Sl nv w v l) (hl : l.length ≤ 10000) (hn : ∀ n ∈ l, n < 4096) :
    Calls Tryd.prog 40 #[v] w fun e w' => ∃ v', e = .returned v' ∧ Sl uv w' v' (rwords l) ∧ Below w.heap.size w w' := by
  obtain ⟨A, c, rfl⟩ := h.shape
  have H := Lib.hid h; have Hn := Lib.hid hn
  clear h hn
  go_enter Tryd.func40, Tryd.ntmps40
  go_wp2
  go_loopw [3, 4] (fun o i wr => ∃ k : Nat, k ≤ l.length ∧ i = .int .i64 k ∧ wr.ownsRow w.heap.size 52 1 o (rwords (l.take k)).length ((rwords (l.take k)).map uv) ∧ Below w.heap.size w wr) (fun _ i _ => l.length - (intOf i).toNat)
  case atStart => exact ⟨0, Nat.zero_le _, rfl, World.ownsRow_nil _ _ _ _, Below.refl _ _⟩
  case round =>
    obtain ⟨k, hk, rfl, hown, hbel⟩ := hrel
    have Hbel := Lib.hid hbel
    have Hown := Lib.hid hown
    by_cases hlt : k < l.length
    · obtain ⟨ad, c', hs, hcap, hcell⟩ := sl_cell H.out k hlt
      simp only [Value.slice.injEq, true_and] at hs
      obtain ⟨rfl, rfl⟩ := hs
      have hx := Hn.out _ (List.getElem_mem hlt)
      have hnext := words_next hlt
      have hrl := rwords_len (l.take k) (fun n hn => Hn.out n (List.mem_of_mem_take hn)) [] (by simp)
      have hrw := rwords_wds (l.take k) [] (by intro x hx; cases hx)
      rw [show (l.take k).foldl wstep [] = rwords (l.take k) from rfl] at hrl hrw
      generalize l[k] = x at *
      generalize rwords (l.take k) = R at *
      have Hnext := Lib.hid hnext; have Hcell := Lib.hid hcell; have Hrw := Lib.hid hrw
      have hcx := (hbel.cell (World.block_lt_of_cell? _ _ hcell)).trans hcell
      unfold nv at hcx
      have d1 : decide ((x : Int) < 0) = false := decide_eq_false (by omega)
      have d2 : decide (4096 ≤ (x : Int)) = false := decide_eq_false (by omega)
      have hq64 : x / 64 < 64 := by omega
      obtain ⟨A3, cp3, rfl⟩ := row_shape hown
      clear hnext hcell hrw hown hbel
      go_wp2
      go_loopw [3] (fun o wr => ∃ L : List Nat, padTo L (x / 64 + 1) = padTo R (x / 64 + 1) ∧ L.length ≤ 64 ∧ wr.ownsRow w.heap.size 52 1 o L.length (L.map uv) ∧ Below w.heap.size w wr) (fun o _ => x / 64 + 1 - lenV o)
      case atStart => exact ⟨R, rfl, hrl, Hown.out, Hbel.out⟩
      case round =>
        obtain ⟨L, hpad, hL64, hown, hbel⟩ := hrel
        have Hbel2 := Lib.hid hbel
        have hsz := hbel.size
        have hcx2 : wr.cell? (ad.add k) = some (.int .i64 (x : Int)) := (hbel.cell (World.block_lt_of_cell? _ _ Hcell.out)).trans Hcell.out
        have Hpad := Lib.hid hpad
        clear hpad hbel
        by_cases hle : L.length ≤ x / 64
        · have d3 : decide ((L.length : Int) ≤ ((x / 64 : Nat) : Int)) = true := decide_eq_true (by omega)
          obtain ⟨A4, cp4, rfl⟩ := row_shape hown
          have Hst := Lib.hid (padTo_step L (x / 64 + 1) (by omega))
          go_wp2_with (at_builtin; refine app1S rfl _ _ 22 rfl 52 (.int .u64 0) 8 info_u64 rfl (by kernel_rfl) w.heap.size _ _ _ rfl hown (.int .u64 0) rfl rfl (by omega) (by omega) hsz ?_; intro v' w2 hown2 hfr)
          have Hb2 := Lib.hid (Hbel2.out.trans ((hfr.below hsz)))
          obtain ⟨A5, cp5, rfl⟩ := row_shape hown2
          have Hown2 := Lib.hid hown2
          clear hown2 hfr hown
          go_roundw
          case rel => exact ⟨L ++ [0], Hst.out.trans Hpad.out, by simp; omega, by rw [List.length_append, List.map_append]; exact Hown2.out, Hb2.out⟩
          case measure => simp [lenV]; omega
        · have d3 : decide ((L.length : Int) ≤ ((x / 64 : Nat) : Int)) = false := decide_eq_false (by omega)
          have hLeq := Hpad.out
          rw [padTo_same L _ (by omega)] at hLeq
          have hst : orAt L x = wstep R x := by unfold wstep; rw [← hLeq]
          obtain ⟨g, cap, rfl, hg1, hg2, hcap2⟩ := own_shapeS hown (fun e => by
            rw [e] at hown
            have := hown.1
            rcases hown.2 with ⟨_, h0⟩ | ⟨_, _, _, h0, _⟩
            · omega
            · cases h0)
          have Lw : Wds L := by rw [hLeq]; exact padTo_wds Hrw.out _
          have ck := hown.cellAt (x / 64) (by omega)
          have fk := hown.frozenAt (x / 64)
          rw [List.getElem?_map, List.getElem?_eq_getElem (by omega)] at ck
          have hst2 := (hown.stored (x / 64) (uv ((L[x / 64]?.getD 0) ||| 2 ^ (x % 64)))).1
          rw [← List.map_set, show L.set (x / 64) ((L[x / 64]?.getD 0) ||| 2 ^ (x % 64)) = orAt L x from rfl, hst] at hst2
          rw [List.getElem?_eq_getElem (by omega)] at hst2
          have hor : bits .or .u64 ((L[x / 64]'(by omega) : Nat) : Int) (IntKind.u64.wrap (2 ^ (x % 64))) = (((L[x / 64]'(by omega)) ||| 2 ^ (x % 64) : Nat) : Int) := by
            have hp := pow_u64 (x % 64) (Nat.mod_lt _ (by decide))
            have e : IntKind.u64.wrap (2 ^ (x % 64)) = ((2 ^ (x % 64) : Nat) : Int) := by
              have := u64_wraps ((2 ^ (x % 64) : Nat) : Int) (Int.natCast_nonneg _) (by unfold U64 at hp; exact Int.ofNat_lt.2 hp)
              rwa [Int.natCast_pow] at this ⊢
            rw [e]
            exact u64_or_nat _ _ (Lw _ (List.getElem_mem _)) hp
          have hlw : (wstep R x).length = L.length := by rw [← hst]; simp [orAt]
          simp only [Option.getD_some, Option.map_some] at hst2 ck
          generalize L[x / 64]'(by omega) = y at *
          unfold uv at ck
          have Hst2 := Lib.hid hst2
          have Hlw := Lib.hid hlw
          clear hst2 hown hLeq hst Lw hlw
          go_wp2
          go_region
          go_wp2
          go_roundw
          case rel => exact ⟨k + 1, by omega, by go_num, by rw [Hnext.out, Hlw.out]; exact Hst2.out, (Hbel2.out.setCell (p := ⟨g, x / 64, none⟩) hg1 _).drew⟩
          case measure => simp [intOf]; omega
    · rw [List.take_of_length_le (by omega)] at Hown
      clear hown hbel
      go_wp2
      go_ret
      exact ⟨_, rfl, Sl.of_own Hown.out, Hbel.out⟩
/-- same(s, l), where s is the valid set with the elements of l: true. -/
theorem lawsame_f {v vl : Value} {s l : List Nat} {w : World} (h : Sl uv w v s) (hl : Sl nv w vl l) (ll : l.length ≤ 10000) (hn : ∀ n ∈ l, n < 4096) (hc : Canon s) (hw : Wds s) (he : ∀ m, m < 4096 → has s m = decide (m ∈ l)) :
    Calls Tryd.prog 14 #[v, vl] w fun e w' => e = .returned (.bool true) ∧ Below w.heap.size w w' := by
  have hq := words_eq hc hw hn he
  have hs64 : Room2 s.length := Room2.le' hc
  have H := Lib.hid h; have Hl := Lib.hid hl; have Hn := Lib.hid hn; have Hq := Lib.hid hq; have Hs := Lib.hid hs64
  clear h hl hn hc hw he hq hs64
  go_enter Tryd.func14, Tryd.ntmps14
  go_wp2_with fail
  refine (words_any vl l _ Hl.out ll Hn.out).mono ?_
  rintro e w1 ⟨v1, rfl, h1, hb1⟩
  rw [← Hq.out] at h1
  have H1 := Lib.hid h1; have Hb1 := Lib.hid hb1
  clear h1 hb1
  go_wp2_with fail
  refine (samewords_any v v1 s s _ (H.out.below Hb1.out) H1.out Hs.out Hs.out).mono ?_
  rintro e w2 ⟨rfl, m, rfl⟩
  rw [decide_eq_true (rfl : s = s)]
  go_wp2
  go_ret
  exact ⟨rfl, below_drewN Hb1.out m⟩
end Go.Proofs.YtaedijblgogmmaaDoor
