/- The reference's count. -/
import Derived.Test.YtcekfgahhicdcaaOrdRl
import Derived.Test.YtcekfgahhicdcaaOrdCt
namespace Go.Proofs.Ytcekfgahhicdcaa
open Go.RowKit

theorem rowIs_uniq {w w' : World} {b n : Nat} {t : TypeId} {f : Nat → Value} (h : w.rowIs b t n f) (h' : w'.rowIs b t n f) : w'.heap[b]? = w.heap[b]? := by
  obtain ⟨c, hb, hn, hc⟩ := h
  obtain ⟨c', hb', hn', hc'⟩ := h'
  have e : c' = c := Array.ext_getElem? fun i => by
    by_cases hi : i < n
    · rw [hc i hi, hc' i hi]
    · rw [Array.getElem?_eq_none (by omega), Array.getElem?_eq_none (by omega)]
  rw [hb, hb', e]
/-- A cell that is written and written back. -/
theorem below_back {w w1 : World} {d e n : Nat} {t : TypeId} {f : Nat → Value} {v : Value} (h : w.rowIs d t n f) (hb : Below (w.setCell ⟨d, e, none⟩ v).heap.size (w.setCell ⟨d, e, none⟩ v) w1) : Below w.heap.size w (w1.setCell ⟨d, e, none⟩ (f e)) := by
  have hs : (w.setCell ⟨d, e, none⟩ v).heap.size = w.heap.size := by simp [World.setCell]
  have hs1 : (w1.setCell ⟨d, e, none⟩ (f e)).heap.size = w1.heap.size := by simp [World.setCell]
  have hsz := hb.size
  refine ⟨hb.os, hb.tape, hb.output, by omega, fun k hk => ?_⟩
  by_cases hkd : k = d
  · subst hkd
    have h1 := (h.set e v).of_block (hb.block k (by omega))
    have h2 := (h1.set e (f e)).congr (g := f) (fun i _ => by by_cases hi : i = e <;> simp [hi])
    exact rowIs_uniq h h2
  · rw [Deep.blk_setCell_other _ _ _ _ hkd, hb.block k (by omega), Deep.blk_setCell_other _ _ _ _ hkd]
theorem sum_filter (p : Nat → Bool) (g : Nat → Nat) : ∀ l : List Nat, ((l.filter p).map g).sum = (l.map fun e => if p e = true then g e else 0).sum
  | [] => rfl
  | x :: t => by
    rw [List.filter_cons, List.map_cons, List.sum_cons, ← sum_filter p g t]
    cases p x with
    | true => simp
    | false => simp
/-- The ways behind the free events, one after the other. -/
theorem fr_pre (n : Nat) (es : List (Int × Int)) (f s : Nat) : ∃ pre : Nat → Nat, pre 0 = 0 ∧ pre (frL n es s n).length = wys (psts (n : Int) es) (f + 1) s ∧ (∀ m, pre m ≤ wys (psts (n : Int) es) (f + 1) s) ∧
    ∀ m (h : m < (frL n es s n).length), ∃ e : Nat, (frL n es s n)[m] = (e : Int) ∧ e < n ∧ s.testBit e = false ∧ pre (m + 1) = pre m + wys (psts (n : Int) es) f (s ||| 2 ^ e) := by
  obtain ⟨l, hl⟩ : ∃ l, l = (List.range n).filter (rdyW (psts (n : Int) es) s) := ⟨_, rfl⟩
  have hfr : frL n es s n = l.map fun x : Nat => (x : Int) := by rw [hl]; rfl
  have hall : ((l.map fun e => wys (psts (n : Int) es) f (s ||| 2 ^ e))).sum = wys (psts (n : Int) es) (f + 1) s := by
    rw [hl, sum_filter, wys_succ, psts_len']; rfl
  rw [hfr]
  refine ⟨fun m => (((l.take m).map fun e => wys (psts (n : Int) es) f (s ||| 2 ^ e))).sum, by simp, by simp only [List.length_map, List.take_length]; exact hall, fun m => ?_, fun m h0 => ?_⟩
  · rw [← hall]
    have := congrArg List.sum (congrArg (List.map fun e => wys (psts (n : Int) es) f (s ||| 2 ^ e)) (List.take_append_drop m l))
    rw [List.map_append, List.sum_append] at this
    show (((l.take m).map fun e => wys (psts (n : Int) es) f (s ||| 2 ^ e))).sum ≤ _
    omega
  · have h : m < l.length := by simpa using h0
    refine ⟨l[m], by rw [List.getElem_map], ?_, ?_, ?_⟩
    · have : l[m] ∈ (List.range n).filter (rdyW (psts (n : Int) es) s) := by rw [← hl]; exact List.getElem_mem _
      exact List.mem_range.1 (List.mem_filter.1 this).1
    · have : l[m] ∈ (List.range n).filter (rdyW (psts (n : Int) es) s) := by rw [← hl]; exact List.getElem_mem _
      exact rdy_free (List.mem_filter.1 this).2
    · show (((l.take (m + 1)).map fun e => wys (psts (n : Int) es) f (s ||| 2 ^ e))).sum = _
      rw [List.take_succ_eq_append_getElem h, List.map_append, List.sum_append]
      simp
set_option maxRecDepth 20000 in
set_option maxHeartbeats 4000000 in
theorem count_any {n g d : Nat} {es : List (Int × Int)} {w0 : World} (HM : Hid (∀ w' : World, (∀ k, k < w0.heap.size → k ≠ d → w'.heap[k]? = w0.heap[k]?) → Mx g n (fun i j => Bf n es i j) w')) (hn : n ≤ 60) : ∀ (f s : Nat) (lf most : Int) (w : World), Un n s = f → lf = (f : Int) → f ≤ 60 → 1 ≤ most → most ≤ 1000 → w0.heap.size ≤ w.heap.size → (∀ k, k < w0.heap.size → k ≠ d → w.heap[k]? = w0.heap[k]?) → w.rowIs d 4 n (fun i => .bool (s.testBit i)) →
    Calls Try.prog 44 #[.slice (some ⟨g, 0, none⟩) n n, .slice (some ⟨d, 0, none⟩) n n, .int .i64 lf, .int .i64 most] w fun e w' => e = .returned (.int .i64 (min most ((wys (psts (n : Int) es) f s : Nat) : Int))) ∧ Below w.heap.size w w' := by
  intro f
  induction f with
  | zero =>
    intro s lf most w hu hlf hf h1 h2 hz hb hd
    subst hlf
    have hq : min most ((wys (psts (n : Int) es) 0 s : Nat) : Int) = 1 := by rw [wys]; omega
    rw [hq]
    clear hq hz hb hd
    go_enter Try.func44, Try.ntmps44
    go_wp2
    go_ret
    exact ⟨rfl, Below.refl _ _⟩
  | succ f ih =>
    intro s lf most w hu hlf hf h1 h2 hz hb hd
    have Hih := Lib.hid ih
    have Hb0 := Lib.hid hb
    have Hd := Lib.hid hd
    have Hu := Lib.hid hu
    obtain ⟨pre, hp0, hpl, hpm, hpe⟩ := fr_pre n es f s
    have e0 : (lf == 0) = false := by rw [beq_eq_false_iff_ne]; omega
    have e1 : IntKind.i64.wrap (lf - 1) = (f : Int) := by rw [IntKind.wrap_i64]; omega
    have Hfr := Lib.hid (free_any n g d s es w (HM.out w hb) hd hn)
    have Hpe := Lib.hid hpe
    have hfl : (frL n es s n).length ≤ n := by unfold frL; rw [List.length_map]; exact Nat.le_trans (List.length_filter_le _ _) (by simp)
    generalize frL n es s n = l at *
    generalize wys (psts (n : Int) es) (f + 1) s = T at *
    have Hpl := Lib.hid hpl
    have Hpm := Lib.hid hpm
    clear ih hb hd hu hlf hpe hpl hpm
    go_enter Try.func44, Try.ntmps44
    go_wp2_with fail
    refine Hfr.out.mono ?_
    rintro e w4 ⟨lv, rfl, ho4, hb4⟩
    clear Hfr
    obtain ⟨A, cp, rfl⟩ := Sl.shape (Sl.of_own ho4)
    have Ho4 := Lib.hid ho4
    have Hb4 := Lib.hid hb4
    clear ho4 hb4 e0
    go_wp2
    go_loopw [9, 11] (fun c i wr => ∃ m : Nat, m ≤ l.length ∧ i = .int .i64 m ∧ c = .int .i64 (min most ((pre m : Nat) : Int)) ∧ Hid (Below w4.heap.size w4 wr)) (fun _ i _ => l.length - (intOf i).toNat)
    case atStart => exact ⟨0, Nat.zero_le _, rfl, by rw [hp0]; congr 1; omega, Lib.hid (Below.refl _ _)⟩
    case round =>
      obtain ⟨m, hm, rfl, rfl, Hb⟩ := hrel
      have hm0 : (0 : Int) ≤ (m : Int) := by omega
      by_cases hlm : m < l.length
      · obtain ⟨cm, hcm⟩ : ∃ cm : Int, cm = min most ((pre m : Nat) : Int) := ⟨_, rfl⟩
        rw [← hcm]
        have hml : (m : Int) < (l.length : Int) := by omega
        by_cases hlt : cm < most
        · have hd1 : decide (cm < most) = true := decide_eq_true hlt
          have hcp : cm = ((pre m : Nat) : Int) := by omega
          obtain ⟨e, he, hen, hse, hps⟩ := Hpe.out m hlm
          have hownr := own_below Ho4.out Hb.out
          obtain ⟨ad, c', hsl, hcap, hcell⟩ := sl_cell (Sl.of_own hownr) m hlm
          simp only [Value.slice.injEq, true_and] at hsl
          obtain ⟨rfl, rfl⟩ := hsl
          have He := Lib.hid he
          rw [he] at hcell
          unfold iv at hcell
          have hdw : d < w.heap.size := Hd.out.lt
          have hrow := Hd.out.of_block ((Hb4.out.trans (Hb.out.mono Hb4.out.size)).block d hdw)
          have cd := hrow.cell hen
          have fd := hrow.frozen e
          simp only [hse] at cd
          have y0 : (0 : Int) ≤ (e : Int) := by omega
          have y1 : (e : Int) < (n : Int) := by omega
          have Hown1 := Lib.hid (own_below_set hownr (a := ⟨d, e, none⟩) hdw (.bool true))
          have Hrow1 := Lib.hid ((hrow.set e (.bool true)).congr (g := fun i => .bool ((s ||| 2 ^ e).testBit i)) (fun i _ => by
            rw [or_bit]
            by_cases h : i = e
            · subst h; rw [if_pos rfl]; simp
            · rw [if_neg h, decide_eq_false (fun k => h k.symm), Bool.or_false]))
          have Hbk := Lib.hid (show ∀ w5, Below (wr.setCell ⟨d, e, none⟩ (.bool true)).heap.size (wr.setCell ⟨d, e, none⟩ (.bool true)) w5 → Below wr.heap.size wr (w5.setCell ⟨d, e, none⟩ (.bool false)) from fun w5 h5 => by
            have := below_back hrow h5
            simpa only [hse] using this)
          have hsz4 := Hb4.out.size
          have hszr := Hb.out.size
          have Hz1 := Lib.hid (show w0.heap.size ≤ (wr.setCell ⟨d, e, none⟩ (.bool true)).heap.size by rw [size_setCell]; omega)
          have Hb1 := Lib.hid (show ∀ k, k < w0.heap.size → k ≠ d → (wr.setCell ⟨d, e, none⟩ (.bool true)).heap[k]? = w0.heap[k]? from fun k hk hne => (Deep.blk_setCell_other _ _ _ _ hne).trans (((Hb4.out.trans (Hb.out.mono Hb4.out.size)).block k (by omega)).trans (Hb0.out k hk hne)))
          have Hun := Lib.hid (show Un n (s ||| 2 ^ e) = f by have := Un_add hen hse; have := Hu.out; omega)
          have hm1 : IntKind.i64.wrap (most - cm) = most - cm := by rw [IntKind.wrap_i64]; omega
          have hcm0 : 0 ≤ cm := by omega
          have Hn := Lib.hid (show cm + min (most - cm) ((wys (psts (n : Int) es) f (s ||| 2 ^ e) : Nat) : Int) = min most ((pre (m + 1) : Nat) : Int) by rw [hps]; omega)
          clear hrow hse hps hcp hcm he hownr
          go_wp2_with fail
          refine (Hih.out (s ||| 2 ^ e) (f : Int) (most - cm) _ Hun.out rfl (by omega) (by omega) (by omega) Hz1.out Hb1.out Hrow1.out).mono ?_
          rintro r w5 ⟨rfl, hb5⟩
          have hrow5 := Hrow1.out.of_block (hb5.block d Hrow1.out.lt)
          have cd5 : w5.cell? ⟨d, e, none⟩ = some (.bool ((s ||| 2 ^ e).testBit e)) := hrow5.cell hen
          have fd5 := hrow5.frozen e
          obtain ⟨ad', c', hsl, _, hcell5⟩ := sl_cell (Sl.of_own (own_below Hown1.out hb5)) m hlm
          simp only [Value.slice.injEq, Option.some.injEq, true_and] at hsl
          obtain ⟨rfl, rfl⟩ := hsl
          rw [He.out] at hcell5
          unfold iv at hcell5
          rw [show (s ||| 2 ^ e).testBit e = true by rw [or_bit]; simp] at cd5
          have Hb5 := Lib.hid (Hb.out.trans ((Hbk.out _ hb5).mono Hb.out.size))
          clear cd fd hcell hb5 hrow5 He
          go_wp2
          go_roundw
          case rel => exact ⟨m + 1, by omega, by go_num, by rw [Hn.out], Hb5⟩
          case measure => simp [intOf]; omega
        · have hd1 : decide (cm < most) = false := decide_eq_false hlt
          have hq : cm = min most (T : Int) := by have := Hpm.out m; omega
          clear hcm
          go_wp2
          go_ret
          exact ⟨rfl, Hb4.out.trans (Hb.out.mono Hb4.out.size)⟩
      · obtain rfl : m = l.length := by omega
        rw [Hpl.out]
        go_wp2
        go_ret
        exact ⟨rfl, Hb4.out.trans (Hb.out.mono Hb4.out.size)⟩
end Go.Proofs.Ytcekfgahhicdcaa
