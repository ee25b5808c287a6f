/- WirePrefix: the law's walk. -/
import Derived.Test.YtlbgfjgpdjcogaaWirePre
import Derived.Test.YtlbgfjgpdjcogaaLaw
import Derived.Test.YtlbgfjgpdjcogaaOpen
namespace Go.Proofs.Ytlbgfjgpdjcogaa
open Go.RowKit
section
variable {w : World} {g n c : Nat} {A : Option Addr} {xs : List Nat}
theorem rint_fail (h : Rdr w g A n c xs 0 false) (hp : pInt xs 0 = none) :
    Calls Try.prog 29 #[.pointer (some ⟨g, 0, none⟩)] w fun e w' => e = .returned (.int .i64 0) ∧ Rdr w' g A n c xs 0 true ∧ Only g w w' := by
  have := int_any h
  rw [out_none hp] at this
  exact this
theorem rtext_fail (h : Rdr w g A n c xs 0 false) (hp : pText 200 xs 0 = none) :
    Calls Try.prog 19 #[.pointer (some ⟨g, 0, none⟩), .int .i64 200] w fun e w' => e = .returned (.string ⟨#[]⟩) ∧ Rdr w' g A n c xs 0 true ∧ Only g w w' := by
  have := text_any 200 h (by decide)
  rw [out_none hp] at this
  exact this
theorem revent_fail (h : Rdr w g A n c xs 0 false) (hp : pEvent xs 0 = none) :
    Calls Try.prog 23 #[.pointer (some ⟨g, 0, none⟩)] w fun e w' => (∃ Av cv, e = .returned (.agg #[.int .i64 0, .bool false, .int .i64 0, .int .i64 0, .slice Av 0 cv])) ∧ Rdr w' g A n c xs 0 true ∧ Only g w w' := by
  have := event_any h
  rw [out_none hp] at this
  refine this.mono ?_
  rintro e w' ⟨v, rfl, hV, hR, ho⟩
  obtain ⟨Av, cv, rfl⟩ := hV.shape
  exact ⟨⟨Av, cv, rfl⟩, hR, ho⟩
theorem end_fail {k : Nat} (h : Rdr w g A n c xs k true) : Calls Try.prog 22 #[.pointer (some ⟨g, 0, none⟩)] w fun e w' => e = .returned (.int .i64 4) ∧ Only g w w' := by
  refine (end_any h).mono ?_
  rintro e w' ⟨rfl, m, rfl⟩
  exact ⟨by rw [show endOf n k true = 4 from if_pos (.inl rfl)], (Only.refl g w).drewN m⟩
theorem byt_take {l : List Nat} (h : Byt l) (k : Nat) : Byt (l.take k) := fun c hc => h c (List.mem_of_mem_take hc)
theorem bsl_take {v : Addr} {l : List Nat} {k : Nat} (h : Bsl w (.slice (some v) l.length c) l) (hk : k ≤ l.length) : Bsl w (.slice (some v) k c) (l.take k) :=
  Bsl.front (n := l.length) (t := l.drop k) (by rw [List.take_append_drop]; exact h) (by rw [List.length_take]; omega)
end
theorem encEv_len {y : Ev} (hl : y.2.2.2.2.length ≤ 40) (hs : ∀ x ∈ y.2.2.2.2, x.2.2.size ≤ 200) : (encEv y).length ≤ 10000 := by
  have h1 := enc_len y.1
  have h2 := enc_len y.2.2.1
  have h3 := enc_len y.2.2.2.1
  have h4 := enc_len (y.2.2.2.2.length : Int)
  have h5 := flat_len _ hs
  have h6 := encB_len y.2.1
  unfold encEv encVs
  simp only [List.length_append]
  omega
theorem encEv_byt {y : Ev} (h : EvOk y) : Byt (encEv y) := by
  obtain ⟨h0, h2, h3, h4, h5⟩ := h
  unfold encEv
  refine byt_app (enc_byt h0) (byt_app ?_ (byt_app (enc_byt h2) (byt_app (enc_byt h3) (encVs_byt h5 h4))))
  intro c hc
  cases hb : y.2.1 <;> rw [hb] at hc <;> simp [encB] at hc <;> omega

section
variable (n : Int) (s : ByteArray) (x0 : Int) (x1 : Bool) (x2 x3 : Int) (A : Option Addr) (c : Nat) (l : List Vl) (w : World)
set_option maxHeartbeats 1000000 in
theorem prefix_a (h0 : 200 < s.size) (hz : s.size ≤ 9223372036854775807) :
    Calls Try.prog 5 #[.int .i64 n, .string s, .agg #[.int .i64 x0, .bool x1, .int .i64 x2, .int .i64 x3, .slice A l.length c]] w (Ok w) := by
  have z0 : decide ((200 : Int) < (s.size : Int)) = true := by simp; omega
  go_enter Try.func5, Try.ntmps5
  go_wp2_with fail
  refine (awake_any _).mono ?_
  rintro e w1 ⟨rfl, hb1⟩
  have Hb1 := Lib.hid (show Below w.heap.size w w1 from ((Below.refl _ w).alloc (Nat.le_refl _) _).trans (hb1.mono (by simp))); clear hb1
  go_wp2
  go_ret
  exact ⟨rfl, Hb1.out⟩
set_option maxHeartbeats 1000000 in
theorem prefix_b (hx : Vals w (.slice A l.length c) l) (h0 : s.size ≤ 200) (hl : l.length ≤ 9223372036854775807) (hf : false = fewB l) :
    Calls Try.prog 5 #[.int .i64 n, .string s, .agg #[.int .i64 x0, .bool x1, .int .i64 x2, .int .i64 x3, .slice A l.length c]] w (Ok w) := by
  have z0 : decide ((200 : Int) < (s.size : Int)) = false := by simp; omega
  have Hx := Lib.hid hx; have Hf := Lib.hid hf
  clear hx hf
  go_enter Try.func5, Try.ntmps5
  go_wp2_with fail
  refine (awake_any _).mono ?_
  rintro e w1 ⟨rfl, hb1⟩
  have P := (hb1.block w.heap.size (by simp)).trans (heap_alloc_new w (.cells #[.int .i64 x0, .bool x1, .int .i64 x2, .int .i64 x3, .slice A l.length c] 45))
  have c4 := cell_of_row w1 w.heap.size 4 _ _ _ P
  have Hb1 := Lib.hid (show Below w.heap.size w w1 from ((Below.refl _ w).alloc (Nat.le_refl _) _).trans (hb1.mono (by simp))); clear hb1
  have F0 := Lib.hid (Hx.out.below Hb1.out)
  go_wp2_with fail
  refine (fewvalues_any A c l _ F0.out (by omega) false Hf.out).mono ?_
  rintro e w2 ⟨rfl, rfl⟩
  go_wp2
  go_ret
  exact ⟨rfl, Hb1.out⟩
set_option maxHeartbeats 4000000 in
theorem prefix_main (hn : I64 n) (h0 : I64 x0) (h2 : I64 x2) (h3 : I64 x3) (hs : s.size ≤ 200) (hx : Vals w (.slice A l.length c) l) (hl : l.length ≤ 40) (hls : ∀ x ∈ l, x.2.2.size ≤ 200) (hlo : ∀ x ∈ l, VlOk x) :
    Calls Try.prog 5 #[.int .i64 n, .string s, .agg #[.int .i64 x0, .bool x1, .int .i64 x2, .int .i64 x3, .slice A l.length c]] w (Ok w) := by
  have z0 : decide ((200 : Int) < (s.size : Int)) = false := by simp; omega
  have few0 : true = fewB l := by rw [few_good hls]; simp [hl]
  have Hx := Lib.hid hx; have Hf := Lib.hid few0; have Hls := Lib.hid hls; have Hlo := Lib.hid hlo
  clear hx few0 hls hlo
  go_enter Try.func5, Try.ntmps5
  go_wp2_with fail
  refine (awake_any _).mono ?_
  rintro e w1 ⟨rfl, hb1⟩
  have P := (hb1.block w.heap.size (by simp)).trans (heap_alloc_new w (.cells #[.int .i64 x0, .bool x1, .int .i64 x2, .int .i64 x3, .slice A l.length c] 45))
  have c4 := cell_of_row w1 w.heap.size 4 _ _ _ P
  have Hb1 := Lib.hid (show Below w.heap.size w w1 from ((Below.refl _ w).alloc (Nat.le_refl _) _).trans (hb1.mono (by simp))); clear hb1
  have Pl := lt_of_some P
  have P' := Lib.hid P
  have F0 := Lib.hid (show ∀ w', Below w1.heap.size w1 w' → Vals w' (.slice A l.length c) l from fun w' h => (Hx.out.below Hb1.out).below h)
  go_wp2_with fail
  refine (fewvalues_any A c l _ (F0.out _ (Below.refl _ _)) (by omega) true Hf.out).mono ?_
  rintro e w2 ⟨rfl, rfl⟩
  have CE := Lib.hid (show ∀ w', Below w1.heap.size w1 w' → w'.heap[w.heap.size]? = some (.cells #[.int .i64 x0, .bool x1, .int .i64 x2, .int .i64 x3, .slice A l.length c] 45 (0, 0)) from fun w' h => (h.block _ Pl).trans P'.out)
  clear c4 P
  go_wp2_with fail
  refine region_phi (fun i v w' => match i with
        | 0 => v = .int .i64 n
        | 1 => Bsl w' v (enc n)
        | 2 => v = .string s
        | 3 => Bsl w' v (encS s)
        | 4 => v = .agg #[.int .i64 x0, .bool x1, .int .i64 x2, .int .i64 x3, .slice A l.length c]
        | 5 => Bsl w' v (encEv (x0, x1, x2, x3, l))
        | 6 => Bsl w' v (enc n)
        | 7 => Bsl w' v (encS s)
        | 8 => Bsl w' v (encEv (x0, x1, x2, x3, l))
        | _ => True) (by kernel_rfl) (by kernel_rfl) rfl ?_ (allOps_spec ?_) ?_
  · intro i v w w' h hb
    match i, h with
    | 0, h => exact h
    | 1, h => exact h.below hb
    | 2, h => exact h
    | 3, h => exact h.below hb
    | 4, h => exact h
    | 5, h => exact h.below hb
    | 6, h => exact h.below hb
    | 7, h => exact h.below hb
    | 8, h => exact h.below hb
    | _ + 9, _ => trivial
  · refine ⟨?_, ?_, ?_, ?_, ?_, ?_, ?_, ?_, ?_, trivial⟩
    · intro a w' hb hp
      have b0 : a.tmps[0]?.getD undef = .int .i64 n := hb.at 0 (by kernel_rfl)
      exact step_run (v := .int .i64 n) rfl (by simp [execOp, Act.eval, b0]) rfl
    · intro a w' hb hp
      have h27 : a.tmps[27]?.getD undef = .int .i64 n := slot_eq.symm.trans (hp ⟨0, .data⟩ (by simp) rfl _ rfl)
      refine step_call (f := 10) (args := #[.slice none 0 0, .int .i64 n]) rfl (by simp [go_sem, h27]) ?_
      exact int_nil_any n w' hn
    · intro a w' hb hp
      have b1 : a.tmps[1]?.getD undef = .string s := hb.at 1 (by kernel_rfl)
      exact step_run (v := .string s) rfl (by simp [execOp, Act.eval, b1]) rfl
    · intro a w' hb hp
      have h29 : a.tmps[29]?.getD undef = .string s := slot_eq.symm.trans (hp ⟨2, .data⟩ (by simp) rfl _ rfl)
      refine step_call (f := 12) (args := #[.slice none 0 0, .string s]) rfl (by simp [go_sem, h29]) ?_
      exact text_nil_any s w' hs
    · intro a w' hb hp
      have b5 : a.tmps[5]?.getD undef = .pointer (some ⟨w.heap.size, 0, none⟩) := hb.at 5 (by kernel_rfl)
      have kc := CE.out _ hb.ext
      have q0 := cell_of_row w' _ 0 _ _ _ kc
      have q1 := cell_of_row w' _ 1 _ _ _ kc
      have q2 := cell_of_row w' _ 2 _ _ _ kc
      have q3 := cell_of_row w' _ 3 _ _ _ kc
      have q4 := cell_of_row w' _ 4 _ _ _ kc
      exact step_run (v := .agg #[.int .i64 x0, .bool x1, .int .i64 x2, .int .i64 x3, .slice A l.length c]) rfl (by go_simp) rfl
    · intro a w' hb hp
      have h31 : a.tmps[31]?.getD undef = .agg #[.int .i64 x0, .bool x1, .int .i64 x2, .int .i64 x3, .slice A l.length c] := slot_eq.symm.trans (hp ⟨4, .data⟩ (by simp) rfl _ rfl)
      refine step_call (f := 26) (args := #[.slice none 0 0, .agg #[.int .i64 x0, .bool x1, .int .i64 x2, .int .i64 x3, .slice A l.length c]]) rfl (by simp [go_sem, h31]) ?_
      exact event_nil_any x0 x1 x2 x3 A c l w' h0 h2 h3 (F0.out _ hb.ext) hl Hls.out Hlo.out
    · intro a w' hb hp
      have hA : Bsl w' (slotOf a (some 28)) (enc n) := hp ⟨1, .data⟩ (by simp) rfl _ rfl
      rw [slot_eq] at hA
      exact step_run (v := a.tmps[28]?.getD undef) rfl (by simp [execOp, Act.eval]) hA
    · intro a w' hb hp
      have hA : Bsl w' (slotOf a (some 30)) (encS s) := hp ⟨3, .data⟩ (by simp) rfl _ rfl
      rw [slot_eq] at hA
      exact step_run (v := a.tmps[30]?.getD undef) rfl (by simp [execOp, Act.eval]) hA
    · intro a w' hb hp
      have hA : Bsl w' (slotOf a (some 32)) (encEv (x0, x1, x2, x3, l)) := hp ⟨5, .data⟩ (by simp) rfl _ rfl
      rw [slot_eq] at hA
      exact step_run (v := a.tmps[32]?.getD undef) rfl (by simp [execOp, Act.eval]) hA
  · intro vs w2 hb2 hv
    have k6 : Bsl w2 (vs 6) (enc n) := hv 6 (by decide)
    have k7 : Bsl w2 (vs 7) (encS s) := hv 7 (by decide)
    have k8 : Bsl w2 (vs 8) (encEv (x0, x1, x2, x3, l)) := hv 8 (by decide)
    simp only [putAll, Act.put, List.setIfInBounds_toArray, List.set_cons_zero, List.set_cons_succ, Nat.zero_add, Nat.reduceAdd]
    generalize vs 6 = a6 at k6 ⊢
    generalize vs 7 = a7 at k7 ⊢
    generalize vs 8 = a8 at k8 ⊢
    clear hv
    obtain ⟨A6, c6, rfl⟩ := k6.shape
    obtain ⟨A7, c7, rfl⟩ := k7.shape
    obtain ⟨A8, c8, rfl⟩ := k8.shape
    obtain ⟨b6, rfl, _⟩ := k6.addr (encF_pos 9 _)
    obtain ⟨b7, rfl, _⟩ := k7.addr (by have := encF_pos 9 (zig (s.size : Int)); unfold encS enc; rw [List.length_append]; omega)
    obtain ⟨b8, rfl, _⟩ := k8.addr (by have : 1 ≤ (enc x0).length := encF_pos 9 _; show 1 ≤ (enc x0 ++ _).length; rw [List.length_append]; omega)
    have K6 := Lib.hid (show ∀ w', Below w2.heap.size w2 w' → Bsl w' (.slice (some b6) (enc n).length c6) (enc n) from fun w' h => k6.below h)
    have K7 := Lib.hid (show ∀ w', Below w2.heap.size w2 w' → Bsl w' (.slice (some b7) (encS s).length c7) (encS s) from fun w' h => k7.below h)
    have K8 := Lib.hid (show ∀ w', Below w2.heap.size w2 w' → Bsl w' (.slice (some b8) (encEv (x0, x1, x2, x3, l)).length c8) (encEv (x0, x1, x2, x3, l)) from fun w' h => k8.below h)
    have Hend0 := Lib.hid (below_ext2 Hb1.out hb2)
    clear k6 k7 k8 hb2
    go_wp2_with fail
    have By6 := Lib.hid (enc_byt hn); have Ln6 := Lib.hid (enc_len n)
    have By7 := Lib.hid (encS_byt (s := s) (by omega)); have Ln7 := Lib.hid (show (encS s).length ≤ 210 by have := enc_len (s.size : Int); have := bytesOf_len s; unfold encS; rw [List.length_append]; omega)
    have hok : EvOk (x0, x1, x2, x3, l) := ⟨h0, h2, h3, Hlo.out, by show l.length ≤ _; omega⟩
    have By8 := Lib.hid (encEv_byt hok); have Ln8 := Lib.hid (encEv_len (y := (x0, x1, x2, x3, l)) hl Hls.out)
    have Np6 := Lib.hid (no_prefix stable_int (ends_int hn)); have Np7 := Lib.hid (no_prefix (stable_text 200) (ends_text 200 (s := s) (by omega))); have Np8 := Lib.hid (no_prefix stable_event (ends_event hok))
    have P6 : 0 < ((enc n).length : Int) := by have : 1 ≤ (enc n).length := encF_pos 9 _; omega
    have P7 : 0 < ((encS s).length : Int) := by have : 1 ≤ (enc (s.size : Int)).length := encF_pos 9 _; unfold encS; rw [List.length_append]; omega
    have P8 : 0 < ((encEv (x0, x1, x2, x3, l)).length : Int) := by have : 1 ≤ (enc x0).length := encF_pos 9 _; have e : (encEv (x0, x1, x2, x3, l)).length = (enc x0 ++ _).length := rfl; rw [e, List.length_append]; omega
    have P8N := Lib.hid (show 0 < (encEv (x0, x1, x2, x3, l)).length by omega)
    clear hok
    go_loopw [10] (fun i wr => ∃ k : Nat, k ≤ (enc n).length ∧ i = .int .i64 k ∧ Below w2.heap.size w2 wr) (fun i _ => (enc n).length - (intOf i).toNat)
    case atStart => exact ⟨0, by omega, rfl, Below.refl _ _⟩
    case round =>
      obtain ⟨k, hk, rfl, hbel⟩ := hrel
      have Hbel := Lib.hid hbel
      have hfr := K6.out _ hbel
      clear hbel
      by_cases hlt : k < (enc n).length
      · have i0 : (0 : Int) ≤ (k : Int) := by omega
        have i1 : (k : Int) < ((enc n).length : Int) := by omega
        have kb : k ≤ 10000 := by have := Ln6.out; omega
        have i2 : k ≤ c6 := by have := hfr.cap.1; omega
        have hbs := bsl_take hfr (k := k) (by omega)
        have Hbs := Lib.hid hbs
        clear hfr hbs
        go_wp2_with fail
        refine (new_any _ ((enc n).take k) wr Hbs.out (byt_take By6.out k) (by have := Ln6.out; unfold Room2; rw [List.length_take]; omega)).mono ?_
        rintro e w3 ⟨g, A3, c3, rfl, hg, hd, hR, hb3⟩
        have HR := Lib.hid hR
        have Hg := Lib.hid (show w2.heap.size ≤ g from Nat.le_trans Hbel.out.size hg)
        have Hb3 := Lib.hid (below_ext2 Hbel.out hb3)
        have hpn := Np6.out k (by omega)
        have Hpn := Lib.hid hpn
        clear hg hd hR hb3 hpn
        go_wp2_with fail
        refine (rint_fail HR.out Hpn.out).mono ?_
        rintro e w4 ⟨rfl, hR4, ho4⟩
        have HR4 := Lib.hid hR4; have Ho4 := Lib.hid ho4
        clear hR4 ho4
        go_wp2_with fail
        refine (end_fail HR4.out).mono ?_
        rintro e w5 ⟨rfl, ho5⟩
        have Hend := Lib.hid (Hb3.out.trans ((Ho4.out.trans ho5).toBelow Hg.out Hb3.out.size))
        clear ho5
        go_wp2
        go_roundw
        case rel => exact ⟨k + 1, by omega, by go_num, Hend.out⟩
        case measure => simp [intOf]; omega
      · clear hfr
        go_wp2_with fail
        go_loopw [12] (fun i wr => ∃ k : Nat, k ≤ (encS s).length ∧ i = .int .i64 k ∧ Below w2.heap.size w2 wr) (fun i _ => (encS s).length - (intOf i).toNat)
        case atStart => exact ⟨0, by omega, rfl, Hbel.out⟩
        case round =>
          obtain ⟨k, hk, rfl, hbel⟩ := hrel
          have Hbel := Lib.hid hbel
          have hfr := K7.out _ hbel
          clear hbel
          by_cases hlt : k < (encS s).length
          · have i0 : (0 : Int) ≤ (k : Int) := by omega
            have i1 : (k : Int) < ((encS s).length : Int) := by omega
            have kb : k ≤ 10000 := by have := Ln7.out; omega
            have i2 : k ≤ c7 := by have := hfr.cap.1; omega
            have hbs := bsl_take hfr (k := k) (by omega)
            have Hbs := Lib.hid hbs
            clear hfr hbs
            go_wp2_with fail
            refine (new_any _ ((encS s).take k) wr Hbs.out (byt_take By7.out k) (by have := Ln7.out; unfold Room2; rw [List.length_take]; omega)).mono ?_
            rintro e w3 ⟨g, A3, c3, rfl, hg, hd, hR, hb3⟩
            have HR := Lib.hid hR
            have Hg := Lib.hid (show w2.heap.size ≤ g from Nat.le_trans Hbel.out.size hg)
            have Hb3 := Lib.hid (below_ext2 Hbel.out hb3)
            have hpn := Np7.out k (by omega)
            have Hpn := Lib.hid hpn
            clear hg hd hR hb3 hpn
            go_wp2_with fail
            refine (rtext_fail HR.out Hpn.out).mono ?_
            rintro e w4 ⟨rfl, hR4, ho4⟩
            have HR4 := Lib.hid hR4; have Ho4 := Lib.hid ho4
            clear hR4 ho4
            go_wp2_with fail
            refine (end_fail HR4.out).mono ?_
            rintro e w5 ⟨rfl, ho5⟩
            have Hend := Lib.hid (Hb3.out.trans ((Ho4.out.trans ho5).toBelow Hg.out Hb3.out.size))
            clear ho5
            go_wp2
            go_roundw
            case rel => exact ⟨k + 1, by omega, by go_num, Hend.out⟩
            case measure => simp [intOf]; omega
          · clear hfr
            go_wp2_with fail
            go_loopw [14] (fun i wr => ∃ k : Nat, k ≤ (encEv (x0, x1, x2, x3, l)).length ∧ i = .int .i64 k ∧ Below w2.heap.size w2 wr) (fun i _ => (encEv (x0, x1, x2, x3, l)).length - (intOf i).toNat)
            case atStart => exact ⟨0, by omega, rfl, Hbel.out⟩
            case round =>
              obtain ⟨k, hk, rfl, hbel⟩ := hrel
              have Hbel := Lib.hid hbel
              have hfr := K8.out _ hbel
              clear hbel
              by_cases hlt : k < (encEv (x0, x1, x2, x3, l)).length
              · by_cases h100 : k < 100
                · have i3 : (k : Int) < 100 := by omega
                  have i0 : (0 : Int) ≤ (k : Int) := by omega
                  have i1 : (k : Int) < ((encEv (x0, x1, x2, x3, l)).length : Int) := by omega
                  have kb : k ≤ 10000 := by have := Ln8.out; omega
                  have i2 : k ≤ c8 := by have := hfr.cap.1; omega
                  have hbs := bsl_take hfr (k := k) (by omega)
                  have Hbs := Lib.hid hbs
                  clear hfr hbs
                  go_wp2_with fail
                  refine (new_any _ ((encEv (x0, x1, x2, x3, l)).take k) wr Hbs.out (byt_take By8.out k) (by have := Ln8.out; unfold Room2; rw [List.length_take]; omega)).mono ?_
                  rintro e w3 ⟨g, A3, c3, rfl, hg, hd, hR, hb3⟩
                  have HR := Lib.hid hR
                  have Hg := Lib.hid (show w2.heap.size ≤ g from Nat.le_trans Hbel.out.size hg)
                  have Hb3 := Lib.hid (below_ext2 Hbel.out hb3)
                  have hpn := Np8.out k (by omega)
                  have Hpn := Lib.hid hpn
                  clear hg hd hR hb3 hpn
                  go_wp2_with fail
                  refine (revent_fail HR.out Hpn.out).mono ?_
                  rintro e w4 ⟨⟨Av, cv, rfl⟩, hR4, ho4⟩
                  have HR4 := Lib.hid hR4; have Ho4 := Lib.hid ho4
                  clear hR4 ho4
                  go_wp2_with fail
                  refine (sameev_nil Av cv _).mono ?_
                  rintro e w5 ⟨rfl, hb5⟩
                  have HR5 := Lib.hid (HR4.out.below hb5); have Ho5 := Lib.hid (Ho4.out.below hb5)
                  clear hb5
                  go_wp2_with fail
                  refine (end_fail HR5.out).mono ?_
                  rintro e w6 ⟨rfl, ho6⟩
                  have Hend := Lib.hid (Hb3.out.trans ((Ho5.out.trans ho6).toBelow Hg.out Hb3.out.size))
                  clear ho6
                  go_wp2
                  go_roundw
                  case rel => exact ⟨k + 1, by omega, by go_num, Hend.out⟩
                  case measure => simp [intOf]; omega
                · have i0 : (0 : Int) ≤ (k : Int) := by omega
                  have i1 : (k : Int) < ((encEv (x0, x1, x2, x3, l)).length : Int) := by omega
                  have i3 : ¬ (k : Int) < 100 := by omega
                  clear hfr
                  go_wp2
                  go_ret
                  exact ⟨by show Ending.returned (Value.bool (decide (0 < (encEv (x0, x1, x2, x3, l)).length))) = _; rw [decide_eq_true P8N.out], below_ext2 Hend0.out Hbel.out⟩
              · clear hfr
                go_wp2
                go_ret
                exact ⟨by show Ending.returned (Value.bool (decide (0 < (encEv (x0, x1, x2, x3, l)).length))) = _; rw [decide_eq_true P8N.out], below_ext2 Hend0.out Hbel.out⟩
theorem few_out {l : List Vl} (h : fewB l = true) : l.length ≤ 40 ∧ ∀ x ∈ l, x.2.2.size ≤ 200 := by
  unfold fewB at h
  rw [Bool.and_eq_true, List.all_eq_true] at h
  exact ⟨of_decide_eq_true h.1, fun x hx => of_decide_eq_true (h.2 x hx)⟩
theorem prefix_walk (hn : I64 n) (h0 : I64 x0) (h2 : I64 x2) (h3 : I64 x3) (hz : s.size ≤ 9223372036854775807) (hx : Vals w (.slice A l.length c) l) (hl : l.length ≤ 9223372036854775807) (hlo : ∀ x ∈ l, VlOk x) :
    Calls Try.prog 5 #[.int .i64 n, .string s, .agg #[.int .i64 x0, .bool x1, .int .i64 x2, .int .i64 x3, .slice A l.length c]] w (Ok w) := by
  by_cases hs : s.size ≤ 200
  · cases hf : fewB l with
    | false => exact prefix_b n s x0 x1 x2 x3 A c l w hx hs hl hf.symm
    | true => exact prefix_main n s x0 x1 x2 x3 A c l w hn h0 h2 h3 hs hx (few_out hf).1 (few_out hf).2 hlo
  · exact prefix_a n s x0 x1 x2 x3 A c l w (by omega) hz
end
end Go.Proofs.Ytlbgfjgpdjcogaa
