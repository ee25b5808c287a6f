/- Layer 9: plain facts of tokens: what stands behind them, and cutting ahead of them. -/
import Derived.Test.YtolanmdckdjfeaaLexTks
namespace Go.Proofs.Ytolanmdckdjfeaa

theorem spn_app (p : Nat → Bool) : ∀ x y : List UInt8, spn p (x ++ y) = if spn p x < x.length then spn p x else x.length + spn p y
  | [], y => by simp [spn]
  | c :: r, y => by
    rw [List.cons_append, spn, spn]
    by_cases h : p c.toNat = true
    · rw [if_pos h, if_pos h, spn_app p r y]
      by_cases h2 : spn p r < r.length
      · rw [if_pos h2, if_pos (by simp; omega)]
      · rw [if_neg h2, if_neg (by simp; omega)]; simp; omega
    · rw [if_neg h, if_neg h, if_pos (by simp)]
theorem spn_ext {p : Nat → Bool} (x : List UInt8) {y : List UInt8} (h : p (nxt y) = false) : spn p (x ++ y) = spn p x := by
  rw [spn_app]
  have h0 : spn p y = 0 := by
    cases y with
    | nil => rfl
    | cons c r => rw [spn, if_neg]; simpa [nxt] using h
  have := spn_le p x
  split <;> omega
theorem spn_cut {p : Nat → Bool} {x y : List UInt8} (h : spn p (x ++ y) ≤ x.length) : spn p x = spn p (x ++ y) := by
  have h1 := spn_app p x y
  have := spn_le p x
  split at h1 <;> omega
theorem nxt_app {x : List UInt8} (y : List UInt8) (h : x ≠ []) : nxt (x ++ y) = nxt x := by
  cases x with
  | nil => exact absurd rfl h
  | cons c r => rfl
theorem txt_ext : ∀ (x y t : List UInt8) (n : Nat), txt x = some (t, n) → txt (x ++ y) = some (t, n)
  | [], y, t, n, h => by simp [txt] at h
  | [c], y, t, n, h => by
    rw [txt_cons] at h
    rw [List.cons_append, txt_cons]
    by_cases h1 : c.toNat = 34
    · rwa [if_pos h1] at h ⊢
    · rw [if_neg h1] at h ⊢
      by_cases h2 : c.toNat = 92
      · rw [if_pos h2] at h; simp at h
      · rw [if_neg h2] at h
        split at h <;> simp [txt] at h
  | c :: d :: r, y, t, n, h => by
    rw [txt_cons] at h
    rw [List.cons_append, txt_cons]
    by_cases h1 : c.toNat = 34
    · rwa [if_pos h1] at h ⊢
    · rw [if_neg h1] at h ⊢
      by_cases h2 : c.toNat = 92
      · rw [if_pos h2] at h ⊢
        simp only [List.cons_append] at h ⊢
        by_cases h3 : cE d.toNat = true
        · rw [if_pos h3] at h ⊢
          cases hr : txt r with
          | none => simp [hr] at h
          | some z => rw [txt_ext r y z.1 z.2 hr]; rwa [hr] at h
        · rw [if_neg h3] at h; simp at h
      · rw [if_neg h2] at h ⊢
        by_cases h3 : 32 ≤ c.toNat ∧ c.toNat ≤ 126
        · rw [if_pos h3] at h ⊢
          cases hr : txt (d :: r) with
          | none => simp [hr] at h
          | some z => rw [txt_ext (d :: r) y z.1 z.2 hr]; rwa [hr] at h
        · rw [if_neg h3] at h; simp at h
theorem txt_bad : ∀ (x b : List UInt8), txt x = none → txt (x ++ 10 :: b) = none
  | [], b, _ => by
    rw [List.nil_append, txt_cons, if_neg (by decide), if_neg (by decide), if_neg (by decide)]
  | [c], b, h => by
    rw [txt_cons] at h
    rw [List.cons_append, txt_cons]
    by_cases h1 : c.toNat = 34
    · rw [if_pos h1] at h; cases h
    · rw [if_neg h1]
      by_cases h2 : c.toNat = 92
      · rw [if_pos h2]
        simp only [List.nil_append]
        rw [if_neg (by decide)]
      · rw [if_neg h2]
        split
        · rw [txt_bad [] b rfl]; rfl
        · rfl
  | c :: d :: r, b, h => by
    rw [txt_cons] at h
    rw [List.cons_append, txt_cons]
    by_cases h1 : c.toNat = 34
    · rw [if_pos h1] at h; cases h
    · rw [if_neg h1] at h ⊢
      by_cases h2 : c.toNat = 92
      · rw [if_pos h2] at h ⊢
        simp only [List.cons_append] at h ⊢
        by_cases h3 : cE d.toNat = true
        · rw [if_pos h3] at h ⊢
          rw [txt_bad r b (by simpa using h)]; rfl
        · rw [if_neg h3]
      · rw [if_neg h2] at h ⊢
        by_cases h3 : 32 ≤ c.toNat ∧ c.toNat ≤ 126
        · rw [if_pos h3] at h ⊢
          rw [txt_bad (d :: r) b (by simpa using h)]; rfl
        · rw [if_neg h3]
theorem txt_cut : ∀ (x y t : List UInt8) (n : Nat), txt (x ++ y) = some (t, n) → n ≤ x.length → txt x = some (t, n)
  | [], y, t, n, h, hn => by
    have := txt_len _ _ _ h
    simp at hn; omega
  | [c], y, t, n, h, hn => by
    rw [List.cons_append, txt_cons] at h
    rw [txt_cons]
    by_cases h1 : c.toNat = 34
    · rwa [if_pos h1] at h ⊢
    · rw [if_neg h1] at h ⊢
      simp at hn
      by_cases h2 : c.toNat = 92
      · rw [if_pos h2, List.nil_append] at h
        cases y with
        | nil => simp at h
        | cons d r =>
          simp only at h
          split at h
          · cases hr : txt r with
            | none => simp [hr] at h
            | some z =>
              have := txt_len _ z.1 z.2 hr
              simp only [hr, Option.map_some, Option.some.injEq, Prod.mk.injEq] at h
              omega
          · simp at h
      · rw [if_neg h2, List.nil_append] at h
        split at h
        · cases hr : txt y with
          | none => simp [hr] at h
          | some z =>
            have := txt_len _ z.1 z.2 hr
            simp only [hr, Option.map_some, Option.some.injEq, Prod.mk.injEq] at h
            omega
        · simp at h
  | c :: d :: r, y, t, n, h, hn => by
    rw [List.cons_append, txt_cons] at h
    rw [txt_cons]
    by_cases h1 : c.toNat = 34
    · rwa [if_pos h1] at h ⊢
    · rw [if_neg h1] at h ⊢
      by_cases h2 : c.toNat = 92
      · rw [if_pos h2] at h ⊢
        simp only [List.cons_append] at h ⊢
        by_cases h3 : cE d.toNat = true
        · rw [if_pos h3] at h ⊢
          cases hr : txt (r ++ y) with
          | none => simp [hr] at h
          | some z =>
            rw [hr] at h
            have hz : z.2 + 2 = n := by simp only [Option.map_some, Option.some.injEq, Prod.mk.injEq] at h; exact h.2
            rw [txt_cut r y z.1 z.2 hr (by simp at hn; omega)]; exact h
        · rw [if_neg h3] at h; simp at h
      · rw [if_neg h2] at h ⊢
        by_cases h3 : 32 ≤ c.toNat ∧ c.toNat ≤ 126
        · rw [if_pos h3] at h ⊢
          cases hr : txt (d :: r ++ y) with
          | none => rw [hr] at h; cases h
          | some z =>
            rw [hr] at h
            have hz : z.2 + 1 = n := by simp only [Option.map_some, Option.some.injEq, Prod.mk.injEq] at h; exact h.2
            rw [txt_cut (d :: r) y z.1 z.2 hr (by simp at hn ⊢; omega)]; exact h
        · rw [if_neg h3] at h; simp at h
def Sep (c : UInt8) : Prop := c = 10 ∨ c = 32
theorem Sep.n {c : UInt8} (h : Sep c) (b : List UInt8) : cN (nxt (c :: b)) = false ∧ cD (nxt (c :: b)) = false := by
  rcases h with rfl | rfl <;> exact ⟨rfl, rfl⟩
theorem isMk_sep (a : UInt8) {c : UInt8} (h : Sep c) : isMk [a, c] = false := by
  rcases h with rfl | rfl <;> simp [isMk, marks]
theorem tkMark_ext {x : List UInt8} (hx : x ≠ []) {c : UInt8} (b : List UInt8) (h : Sep c) : tkMark (x ++ c :: b) = tkMark x := by
  match x, hx with
  | [a], _ =>
    unfold tkMark
    have h1 : ([a] ++ c :: b).take 2 = [a, c] := rfl
    have h2 : ([a] ++ c :: b).take 1 = [a] := rfl
    rw [h1, h2, isMk_sep a h]
    simp
  | a :: d :: r, _ =>
    unfold tkMark
    simp
theorem tkMark_cut {x y : List UInt8} {k v m : Nat} {t : List UInt8} (h : tkMark (x ++ y) = .ok k t v m) (hm : m ≤ x.length) : tkMark x = .ok k t v m := by
  match x with
  | [] =>
    unfold tkMark at h
    split at h
    · simp only [Tk.ok.injEq] at h; simp at hm; omega
    · split at h
      · simp only [Tk.ok.injEq] at h; simp at hm; omega
      · cases h
  | [a] =>
    unfold tkMark at h ⊢
    split at h
    · simp only [Tk.ok.injEq] at h; simp at hm; omega
    · split at h
      · rename_i h2
        rw [if_neg (by simp), if_pos ⟨by simp, h2.2⟩]
        exact h
      · cases h
  | a :: d :: r =>
    unfold tkMark at h ⊢
    simpa using h
theorem tkNum_ext {x : List UInt8} (hx : x ≠ []) {c : UInt8} (b : List UInt8) (h : Sep c) : tkNum (x ++ c :: b) = tkNum x := by
  obtain ⟨h1, h2⟩ := h.n b
  have hs := spn_ext (p := cD) x h2
  have hle := spn_le cD x
  have e1 : cN (nxt ((x ++ c :: b).drop (spn cD x))) = cN (nxt (x.drop (spn cD x))) := by
    rw [List.drop_append_of_le_length hle]
    by_cases e : x.drop (spn cD x) = []
    · rw [e, List.nil_append, h1]; rfl
    · rw [nxt_app _ e]
  unfold tkNum
  rw [hs, e1, nxt_app _ hx, List.take_append_of_le_length hle]
theorem tkNum_cut {x y : List UInt8} {k v m : Nat} {t : List UInt8} (hx : x ≠ []) (h : tkNum (x ++ y) = .ok k t v m) (hm : m ≤ x.length) : tkNum x = .ok k t v m := by
  have hlen : spn cD (x ++ y) ≤ x.length := by
    unfold tkNum at h
    split at h
    · cases h
    · split at h
      · cases h
      · simp only [Tk.ok.injEq] at h; omega
  have hs := spn_cut hlen
  unfold tkNum at h ⊢
  rw [← hs] at h
  rw [← hs] at hlen
  rw [nxt_app _ hx, List.take_append_of_le_length hlen, List.drop_append_of_le_length hlen] at h
  split at h
  · cases h
  · rename_i h1
    rw [if_neg]
    · exact h
    · by_cases e : x.drop (spn cD x) = []
      · rw [e]; decide
      · rwa [nxt_app _ e] at h1
theorem tkName_ext (x : List UInt8) {c : UInt8} (b : List UInt8) (h : Sep c) : tkName (x ++ c :: b) = tkName x := by
  have hs := spn_ext (p := cN) x (h.n b).1
  unfold tkName
  rw [hs, List.take_append_of_le_length (spn_le cN x)]
theorem tkName_cut {x y : List UInt8} {k v m : Nat} {t : List UInt8} (h : tkName (x ++ y) = .ok k t v m) (hm : m ≤ x.length) : tkName x = .ok k t v m := by
  have hlen : spn cN (x ++ y) ≤ x.length := by
    unfold tkName at h
    split at h
    · cases h
    · simp only [Tk.ok.injEq] at h; omega
  have hs := spn_cut hlen
  unfold tkName at h ⊢
  rw [← hs] at h
  rw [← hs] at hlen
  rwa [List.take_append_of_le_length hlen] at h
theorem tk_ext {x : List UInt8} (hx : x ≠ []) {k v m : Nat} {t : List UInt8} (h : tk x = .ok k t v m) {c : UInt8} (b : List UInt8) (hc : Sep c) : tk (x ++ c :: b) = .ok k t v m := by
  unfold tk at h ⊢
  rw [nxt_app _ hx]
  by_cases h1 : cL (nxt x) = true
  · rw [if_pos h1] at h ⊢; rwa [tkName_ext _ _ hc]
  · rw [if_neg h1] at h ⊢
    by_cases h2 : cD (nxt x) = true
    · rw [if_pos h2] at h ⊢; rwa [tkNum_ext hx _ hc]
    · rw [if_neg h2] at h ⊢
      by_cases h3 : nxt x = 34
      · rw [if_pos h3] at h ⊢
        have e : (x ++ c :: b).tail = x.tail ++ c :: b := by cases x with | nil => exact absurd rfl hx | cons a r => rfl
        rw [e]
        unfold tkText at h ⊢
        cases ht : txt x.tail with
        | none => rw [ht] at h; cases h
        | some z => rw [txt_ext _ _ z.1 z.2 ht]; rwa [ht] at h
      · rw [if_neg h3] at h ⊢; rwa [tkMark_ext hx _ hc]
theorem tk_bad {x : List UInt8} (hx : x ≠ []) {e : Nat} (h : tk x = .err e) (b : List UInt8) : tk (x ++ 10 :: b) = .err e := by
  have hc : Sep 10 := .inl rfl
  unfold tk at h ⊢
  rw [nxt_app _ hx]
  by_cases h1 : cL (nxt x) = true
  · rw [if_pos h1] at h ⊢; rwa [tkName_ext _ _ hc]
  · rw [if_neg h1] at h ⊢
    by_cases h2 : cD (nxt x) = true
    · rw [if_pos h2] at h ⊢; rwa [tkNum_ext hx _ hc]
    · rw [if_neg h2] at h ⊢
      by_cases h3 : nxt x = 34
      · rw [if_pos h3] at h ⊢
        have e : (x ++ 10 :: b).tail = x.tail ++ 10 :: b := by cases x with | nil => exact absurd rfl hx | cons a r => rfl
        rw [e]
        unfold tkText at h ⊢
        cases ht : txt x.tail with
        | none => rw [txt_bad _ _ ht]; rwa [ht] at h
        | some z => rw [txt_ext _ _ z.1 z.2 ht]; rwa [ht] at h
      · rw [if_neg h3] at h ⊢; rwa [tkMark_ext hx _ hc]
theorem tk_cut {x y : List UInt8} {k v m : Nat} {t : List UInt8} (h : tk (x ++ y) = .ok k t v m) (hm : m ≤ x.length) : tk x = .ok k t v m := by
  have h1m := (tk_len h).1
  have hx : x ≠ [] := by intro e; rw [e] at hm; simp at hm; omega
  unfold tk at h ⊢
  rw [nxt_app _ hx] at h
  by_cases h1 : cL (nxt x) = true
  · rw [if_pos h1] at h ⊢; exact tkName_cut h hm
  · rw [if_neg h1] at h ⊢
    by_cases h2 : cD (nxt x) = true
    · rw [if_pos h2] at h ⊢; exact tkNum_cut hx h hm
    · rw [if_neg h2] at h ⊢
      by_cases h3 : nxt x = 34
      · rw [if_pos h3] at h ⊢
        have e : (x ++ y).tail = x.tail ++ y := by cases x with | nil => exact absurd rfl hx | cons a r => rfl
        rw [e] at h
        unfold tkText at h ⊢
        cases ht : txt (x.tail ++ y) with
        | none => rw [ht] at h; cases h
        | some z =>
          rw [ht] at h
          simp only at h
          have hz : z.2 + 1 = m := by
            split at h
            · cases h
            · simp only [Tk.ok.injEq] at h; omega
          have hxl : x.tail.length + 1 = x.length := by cases x with | nil => exact absurd rfl hx | cons a r => simp
          rw [txt_cut _ _ z.1 z.2 ht (by omega)]
          exact h
      · rw [if_neg h3] at h ⊢; exact tkMark_cut h hm
theorem sk_ext : ∀ (i : Bool) (x b : List UInt8), sk i (x ++ 10 :: b) = if sk i x < x.length then sk i x else x.length + 1 + sk false b
  | true, [], b => by simp [sk]; omega
  | false, [], b => by simp [sk, cB]; omega
  | true, c :: r, b => by
    rw [List.cons_append, sk, sk]
    by_cases h : c.toNat = 10
    · rw [if_pos h, if_pos h, sk_ext false r b]
      by_cases h2 : sk false r < r.length
      · rw [if_pos h2, if_pos (by simp; omega)]
      · rw [if_neg h2, if_neg (by simp; omega)]; simp; omega
    · rw [if_neg h, if_neg h, sk_ext true r b]
      by_cases h2 : sk true r < r.length
      · rw [if_pos h2, if_pos (by simp; omega)]
      · rw [if_neg h2, if_neg (by simp; omega)]; simp; omega
  | false, c :: r, b => by
    rw [List.cons_append, sk, sk]
    by_cases h : cB c.toNat = true
    · rw [if_pos h, if_pos h, sk_ext false r b]
      by_cases h2 : sk false r < r.length
      · rw [if_pos h2, if_pos (by simp; omega)]
      · rw [if_neg h2, if_neg (by simp; omega)]; simp; omega
    · rw [if_neg h, if_neg h]
      have e : (c.toNat = 47 ∧ nxt (r ++ 10 :: b) = 47) ↔ (c.toNat = 47 ∧ nxt r = 47) := by
        cases r with
        | nil => simp [nxt]
        | cons d r' => rfl
      by_cases h3 : c.toNat = 47 ∧ nxt r = 47
      · rw [if_pos (e.2 h3), if_pos h3, sk_ext true r b]
        by_cases h2 : sk true r < r.length
        · rw [if_pos h2, if_pos (by simp; omega)]
        · rw [if_neg h2, if_neg (by simp; omega)]; simp; omega
      · rw [if_neg (fun h => h3 (e.1 h)), if_neg h3, if_pos (by simp)]
theorem sk_take : ∀ (i : Bool) (l : List UInt8) (x : Nat), sk i l ≤ x → sk i (l.take x) = sk i l
  | i, [], x, _ => by simp
  | i, c :: r, 0, h => by
    have : sk i (c :: r) = 0 := by omega
    rw [this, List.take_zero]; cases i <;> rfl
  | true, c :: r, x + 1, h => by
    rw [List.take_succ_cons, sk, sk]
    rw [sk] at h
    by_cases h1 : c.toNat = 10
    · rw [if_pos h1] at h ⊢; rw [if_pos h1, sk_take false r x (by omega)]
    · rw [if_neg h1] at h ⊢; rw [if_neg h1, sk_take true r x (by omega)]
  | false, c :: r, x + 1, h => by
    rw [List.take_succ_cons, sk, sk]
    rw [sk] at h
    by_cases h1 : cB c.toNat = true
    · rw [if_pos h1] at h ⊢; rw [if_pos h1, sk_take false r x (by omega)]
    · rw [if_neg h1] at h ⊢
      rw [if_neg h1]
      by_cases h3 : c.toNat = 47 ∧ nxt r = 47
      · rw [if_pos h3] at h ⊢
        obtain ⟨d, r', rfl⟩ := nxt_pos (l := r) (by omega)
        have hd : d.toNat = 47 := h3.2
        have h1' : 1 ≤ sk true (d :: r') := by rw [sk, if_neg (by omega)]; omega
        obtain ⟨x', rfl⟩ : ∃ x', x = x' + 1 := ⟨x - 1, by omega⟩
        rw [if_pos ⟨h3.1, by rw [List.take_succ_cons]; exact hd⟩, sk_take true (d :: r') (x' + 1) (by omega)]
      · rw [if_neg h3, if_neg]
        rintro ⟨h4, h5⟩
        refine h3 ⟨h4, ?_⟩
        cases x with
        | zero => simp [nxt] at h5
        | succ x' =>
          cases r with
          | nil => simp [nxt] at h5
          | cons d r' => exact h5
end Go.Proofs.Ytolanmdckdjfeaa
