/- Layer 9: tokens written again, plainly. -/
import Derived.Test.YtekpefcggikcbaaGreatDoorLexQm
import Derived.Test.YtekpefcggikcbaaGreatDoorMLexNum
namespace Go.Proofs.YtekpefcggikcbaaGreatDoor

def dg (n : Nat) : List UInt8 := if n < 10 then [UInt8.ofNat (48 + n)] else dg (n / 10) ++ [UInt8.ofNat (48 + n % 10)]
termination_by n
decreasing_by omega
def wrt (t : Tok) : List UInt8 := if t.k = 2 then dg t.v else if t.k = 3 then qt t.t else t.t
def wrs (ts : List Tok) : List UInt8 := ts.flatMap fun t => wrt t ++ [32]
theorem numF_pos {d : List UInt8} (hd : ∀ c ∈ d, cD c.toNat = true) (h1 : d ≠ []) (h0 : nxt d ≠ 48) : ∀ v, 1 ≤ numF v d := by
  cases d with
  | nil => exact absurd rfl h1
  | cons c r =>
    intro v
    have hc := hd c (by simp)
    simp [cD] at hc
    have hn : c.toNat ≠ 48 := h0
    have mono : ∀ (r : List UInt8) (v : Nat), v ≤ numF v r := by
      intro r
      induction r with
      | nil => intro v; exact Nat.le_refl _
      | cons c r ih => intro v; exact Nat.le_trans (by omega) (ih (10 * v + (c.toNat - 48)))
    have := mono r (10 * v + (c.toNat - 48))
    show 1 ≤ numF (10 * v + (c.toNat - 48)) r
    omega
theorem dg_num : ∀ (n : Nat) (d : List UInt8), d.length = n → (∀ c ∈ d, cD c.toNat = true) → d ≠ [] → (1 < d.length → nxt d ≠ 48) → dg (numF 0 d) = d := by
  intro n
  induction n with
  | zero => intro d hl _ h1 _; exact absurd (List.eq_nil_of_length_eq_zero hl) h1
  | succ n ih =>
    intro d hl hd h1 h2
    obtain ⟨e, c, rfl⟩ : ∃ e c, d = e ++ [c] := ⟨d.dropLast, d.getLast h1, (List.dropLast_concat_getLast h1).symm⟩
    have hc := hd c (by simp)
    simp [cD] at hc
    have hrec : UInt8.ofNat (48 + (c.toNat - 48)) = c := by
      rw [show 48 + (c.toNat - 48) = c.toNat by omega, UInt8.ofNat_toNat]
    rw [numF_snoc]
    by_cases he : e = []
    · subst he
      unfold dg
      rw [if_pos (by simp [numF]; omega)]
      simp [numF, hrec]
    · have hlen : e.length = n := by simp at hl; exact hl
      have hne : 1 ≤ e.length := by cases e with | nil => exact absurd rfl he | cons _ _ => simp
      have hne0 : nxt e ≠ 48 := by
        have := h2 (by simp; omega)
        rwa [nxt_app _ he] at this
      have hde : ∀ c ∈ e, cD c.toNat = true := fun x hx => hd x (by simp [hx])
      have hp := numF_pos hde he hne0 0
      have ih1 := ih e hlen hde he fun _ => hne0
      rw [dg, if_neg (by omega)]
      have e1 : (10 * numF 0 e + (c.toNat - 48)) / 10 = numF 0 e := by omega
      have e2 : (10 * numF 0 e + (c.toNat - 48)) % 10 = c.toNat - 48 := by omega
      rw [e1, e2, ih1, hrec]
theorem txt_chars : ∀ (l t : List UInt8) (n : Nat), txt l = some (t, n) → (∀ c ∈ t, 32 ≤ c.toNat ∧ c.toNat ≤ 126) ∧ (esc t).length + 1 ≤ n
  | [], t, n, h => by simp [txt] at h
  | [c], t, n, h => by
    rw [txt_cons] at h
    split at h
    · simp only [Option.some.injEq, Prod.mk.injEq] at h; obtain ⟨rfl, rfl⟩ := h; simp [esc]
    · split at h
      · simp at h
      · split at h <;> simp [txt] at h
  | c :: d :: r, t, n, h => by
    rw [txt_cons] at h
    split at h
    · simp only [Option.some.injEq, Prod.mk.injEq] at h; obtain ⟨rfl, rfl⟩ := h; simp [esc]
    · rename_i h34
      split at h
      · simp only at h
        split at h
        · rename_i hE
          cases hr : txt r with
          | none => simp [hr] at h
          | some x =>
            obtain ⟨i1, i2⟩ := txt_chars r x.1 x.2 hr
            simp only [hr, Option.map_some, Option.some.injEq, Prod.mk.injEq] at h
            obtain ⟨rfl, rfl⟩ := h
            refine ⟨fun z hz => ?_, ?_⟩
            · rcases List.mem_cons.1 hz with rfl | hz
              · simp [cE] at hE; omega
              · exact i1 z hz
            · have : esc (d :: x.1) = escB d ++ esc x.1 := rfl
              have h2 : (escB d).length ≤ 2 := by unfold escB; split <;> simp
              rw [this, List.length_append]; omega
        · simp at h
      · rename_i h92
        split at h
        · rename_i hok
          cases hr : txt (d :: r) with
          | none => simp [hr] at h
          | some x =>
            obtain ⟨i1, i2⟩ := txt_chars (d :: r) x.1 x.2 hr
            simp only [hr, Option.map_some, Option.some.injEq, Prod.mk.injEq] at h
            obtain ⟨rfl, rfl⟩ := h
            refine ⟨fun z hz => ?_, ?_⟩
            · rcases List.mem_cons.1 hz with rfl | hz
              · exact hok
              · exact i1 z hz
            · have : esc (c :: x.1) = escB c ++ esc x.1 := rfl
              have h2 : escB c = [c] := by unfold escB; rw [if_neg (by simp [cE, h34, h92])]
              rw [this, h2, List.length_append]; simp; omega
        · simp at h
/-- What a token is written as. -/
theorem wrt_is {l : List UInt8} {k v m p : Nat} {t : List UInt8} (h : tk l = .ok k t v m) : (wrt ⟨k, t, v, p⟩ = l.take m) ∨ (k = 3 ∧ wrt ⟨k, t, v, p⟩ = qt t ∧ (∀ c ∈ t, 32 ≤ c.toNat ∧ c.toNat ≤ 126) ∧ t.length ≤ 40 ∧ (qt t).length ≤ m ∧ v = 0) := by
  have hm := tk_len h
  unfold tk at h
  split at h
  · unfold tkName at h
    split at h
    · cases h
    · simp only [Tk.ok.injEq] at h
      obtain ⟨rfl, rfl, rfl, rfl⟩ := h
      exact .inl rfl
  · split at h
    · rename_i hD
      unfold tkNum at h
      split at h
      · cases h
      · split at h
        · cases h
        · rename_i hbad
          simp only [Tk.ok.injEq] at h
          obtain ⟨rfl, rfl, rfl, rfl⟩ := h
          left
          show dg _ = _
          have hlen : (l.take (spn cD l)).length = spn cD l := by rw [List.length_take]; omega
          refine dg_num _ _ rfl (spn_digits l) (fun e => by rw [e] at hlen; simp at hlen; omega) fun h1 => ?_
          rw [hlen] at h1
          cases l with
          | nil => simp at hm; omega
          | cons c r =>
            obtain ⟨q, hq⟩ : ∃ q, spn cD (c :: r) = q + 1 := ⟨spn cD (c :: r) - 1, by omega⟩
            rw [hq, List.take_succ_cons]
            intro h2
            exact hbad (.inr ⟨h1, h2⟩)
    · split at h
      · unfold tkText at h
        cases ht : txt l.tail with
        | none => rw [ht] at h; cases h
        | some z =>
          rw [ht] at h
          simp only at h
          split at h
          · cases h
          · simp only [Tk.ok.injEq] at h
            obtain ⟨rfl, rfl, rfl, rfl⟩ := h
            obtain ⟨i1, i2⟩ := txt_chars _ z.1 z.2 ht
            have hq : (qt z.1).length = (esc z.1).length + 2 := by unfold qt; simp
            exact .inr ⟨rfl, rfl, i1, by omega, by omega, rfl⟩
      · unfold tkMark at h
        split at h
        · simp only [Tk.ok.injEq] at h
          obtain ⟨rfl, rfl, rfl, rfl⟩ := h
          exact .inl rfl
        · split at h
          · simp only [Tk.ok.injEq] at h
            obtain ⟨rfl, rfl, rfl, rfl⟩ := h
            exact .inl rfl
          · cases h
theorem sk_head {l : List UInt8} (h1 : l ≠ []) (h : sk false l = 0) : cB (nxt l) = false ∧ ¬ (nxt l = 47 ∧ nxt l.tail = 47) := by
  cases l with
  | nil => exact absurd rfl h1
  | cons c r =>
    rw [sk] at h
    by_cases hb : cB c.toNat = true
    · rw [if_pos hb] at h; omega
    · rw [if_neg hb] at h
      refine ⟨Bool.eq_false_iff.2 hb, fun h2 => ?_⟩
      rw [if_pos (show c.toNat = 47 ∧ nxt r = 47 from h2)] at h; omega
/-- A token that is written with a blank behind it is read again. -/
theorem wrt_sep {l : List UInt8} {k v m p : Nat} {t : List UInt8} (hs : sk false l = 0) (h : tk l = .ok k t v m) (z : List UInt8) {c0 : UInt8} (hc : Sep c0) :
    sk false (wrt ⟨k, t, v, p⟩ ++ c0 :: z) = 0 ∧ tk (wrt ⟨k, t, v, p⟩ ++ c0 :: z) = .ok k t v (wrt ⟨k, t, v, p⟩).length ∧ (wrt ⟨k, t, v, p⟩).length ≤ m := by
  have hm := tk_len h
  rcases wrt_is (p := p) h with e | ⟨rfl, e, h1, h2, h3, rfl⟩
  · rw [e]
    have hlen : (l.take m).length = m := by rw [List.length_take]; omega
    have hne : l.take m ≠ [] := by intro e; rw [e] at hlen; simp at hlen; omega
    have hcut : tk (l.take m) = .ok k t v m := tk_cut (y := l.drop m) (by rw [List.take_append_drop]; exact h) (by omega)
    refine ⟨?_, by rw [hlen]; exact tk_ext hne hcut z hc, by omega⟩
    have hl : l ≠ [] := by intro e; rw [e] at hm; simp at hm; omega
    obtain ⟨b1, b2⟩ := sk_head hl hs
    cases l with
    | nil => exact absurd rfl hl
    | cons c r =>
      obtain ⟨q, rfl⟩ : ∃ q, m = q + 1 := ⟨m - 1, by omega⟩
      rw [List.take_succ_cons, List.cons_append]
      refine sk_none b1 fun h4 => b2 ⟨h4.1, ?_⟩
      cases hr : r.take q with
      | nil => rw [hr] at h4; have := h4.2; rcases hc with rfl | rfl | rfl | rfl <;> simp [nxt] at this
      | cons d r' =>
        have h5 := h4.2
        rw [hr] at h5
        cases q with
        | zero => simp at hr
        | succ q =>
          cases r with
          | nil => simp at hr
          | cons d2 r2 =>
            rw [List.take_succ_cons] at hr
            simp only [List.cons.injEq] at hr
            obtain ⟨rfl, _⟩ := hr
            exact h5
  · rw [e]
    have hq : qt t ++ c0 :: z = 34 :: (esc t ++ 34 :: (c0 :: z)) := by unfold qt; simp
    refine ⟨?_, ?_, h3⟩
    · rw [hq, sk, if_neg (by decide), if_neg (fun h => absurd h.1 (by decide))]
    · rw [hq, tk_quote t _ h1 h2]
      have : (qt t).length = (esc t).length + 2 := by unfold qt; simp
      rw [this]
theorem wrt_again {l : List UInt8} {k v m p : Nat} {t : List UInt8} (hs : sk false l = 0) (h : tk l = .ok k t v m) (z : List UInt8) :
    sk false (wrt ⟨k, t, v, p⟩ ++ 32 :: z) = 0 ∧ tk (wrt ⟨k, t, v, p⟩ ++ 32 :: z) = .ok k t v (wrt ⟨k, t, v, p⟩).length ∧ (wrt ⟨k, t, v, p⟩).length ≤ m := wrt_sep hs h z (.inr (.inl rfl))
theorem lxs_blank (o : Nat) (z : List UInt8) : lxs o (32 :: z) = lxs (o + 1) z := by
  have hs : sk false (32 :: z) = sk false z + 1 := by rw [sk, if_pos (by decide)]
  rw [lxs_skip o, hs, lxs_skip (o + 1) z, List.drop_succ_cons]
  congr 1
  omega
end Go.Proofs.YtekpefcggikcbaaGreatDoor
